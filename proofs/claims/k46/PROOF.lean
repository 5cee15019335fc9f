import PyProof.Rows.All
import Wide.All
import OpenK.AllK
import Wide.FinOn
import HandS.ForMost
import HandS.Wide
import HandS.Flow
import HandS.TupAny
import HandS.SetTxt0
import HandS.SetTxtIn
import HandS.SetFor
import HandS.TupSets
import HandS.SortOrd
import HandS.Strs
import HandS.WideBits
import HandS.StrMore
import HandS.Text
import PyProof.Rows.TmSorted
import HandS.NoneIn
import HandS.IsInst
import HandS.Walk
import HandS.Iter
import KE.GoesMore
import KE.GoesEnum
import HandS.Property
import HandS.OwnEq
import HandS.ClsMeth
import HandS.MakeKw
import KE.KCallOwn
import OpenK.KMeth
import PyProof.InstEq
import PyProof.InstNe
import PyProof.EqKinds
import PyProof.Conv_bool
import HandS.Base
import HandS.Comp
import HandS.Codes
import HandS.SetKeys
import HandS.RepeatKit
import PyProof.TupleOfSeq
import PyProof.Rows.BitMore
import HandS.List
import HandS.DictComp
import PyProof.SumWalkG
import PyProof.WalksMore
import HandS.Zip
import HandS.WordsDict
import HandS.Nested
import KE.SortKeyHeap
import HandS.SortKw
import HandS.Keys
import HandS.Exc
import HandS.ExcInit
import KE.KExcSuper
import KE.KExcIs
import HandS.ExcOwn
import HandS.ExcValue
import HandS.TryMany
import HandS.HotCalls
import HandS.Star
import PyProof.StrLawsRepr
import PyProof.FactsAll.dict
import HandS.Call
import HandS.Defaults
import HandS.MakeKwOnly
import HandS.EndTab
import HandS.EndBits
import PySem.Challenge.RW_calmlists_k46_known_closed_and_spoken_ro
set_option Elab.async false
set_option linter.all false
section
set_option maxRecDepth 100000
set_option maxHeartbeats 4000000
/-! what all laws of this program share: a def where it stands, the jar of drawn numbers -/
namespace L2.Cal
open PySem PySem.Spec PyProof.Rows L2
/-- a def of the top: its function, its name, how it binds -/
structure DefAt (K : PySem.W.Frag) (mg : Str → Option Value) (x : Str) (st : Stmt) (ps : List Str) (f : Addr) (fd : FuncData) : Prop where
  F : Fun K x x st f fd
  g : mg x = some (.ref f)
  b : Binds K fd ps []
/-- the jar: three numbers, none below nought -/
def Jar (H : Hp) (j : Addr) : Prop := ∃ d s c : Int, H j = some (.lst [.int d, .int s, .int c]) ∧ 0 ≤ d ∧ 0 ≤ s ∧ s < 2147483648 ∧ 0 ≤ c
theorem Jar.up {H : Hp} {j : Addr} {d s c : Int} (h1 : 0 ≤ d) (h2 : 0 ≤ s) (h3 : s < 2147483648) (h4 : 0 ≤ c) : Jar (upd H j (.lst [.int d, .int s, .int c])) j := ⟨d, s, c, upd_same, h1, h2, h3, h4⟩
/-- all that was tracked is as it was, but the jar -/
def Kp (j : Addr) (H H' : Hp) : Prop := ∀ b o, b ≠ j → H b = some o → H' b = some o
theorem Kp.refl {j : Addr} {H : Hp} : Kp j H H := fun _ _ _ h => h
theorem Kp.trans {j : Addr} {H H1 H2 : Hp} (a : Kp j H H1) (b : Kp j H1 H2) : Kp j H H2 := fun c o n h => b c o n (a c o n h)
theorem Kp.new {j p : Addr} {o : HO} {H : Hp} (h : H p = none) : Kp j H (upd H p o) := fun b u _ e => by rw [upd_ne (ne_of_none e h)]; exact e
theorem Kp.jar {j : Addr} {o : HO} {H : Hp} : Kp j H (upd H j o) := fun b u n e => by rw [upd_ne n]; exact e
theorem Kp.of {j : Addr} {H H' : Hp} (h : Same H H') : Kp j H H' := fun b o _ e => h b o e
theorem Jar.new {H : Hp} {j p : Addr} {o : HO} (h : Jar H j) (n : H p = none) : Jar (upd H p o) j := by
  obtain ⟨d, s, c, e, r⟩ := h
  exact ⟨d, s, c, by rw [upd_ne (ne_of_none e n)]; exact e, r⟩
theorem Jar.same {H H' : Hp} {j : Addr} (h : Jar H j) (e : Same H H') : Jar H' j := by
  obtain ⟨d, s, c, q, r⟩ := h
  exact ⟨d, s, c, e _ _ q, r⟩
theorem Kp.seqL {K : PySem.W.Frag} {j a : Addr} {H H' : Hp} {xs : List V} (k : Kp j H H') (n : a ≠ j) (h : SqL K H a xs) : SqL K H' a xs := by
  rcases h with (h | ⟨o, h⟩) | h
  · exact .inl (.inl (k _ _ n h))
  · exact .inl (.inr ⟨o, k _ _ n h⟩)
  · exact .inr h
theorem Kp.seqT {K : PySem.W.Frag} {j a : Addr} {H H' : Hp} {xs : List V} (k : Kp j H H') (n : a ≠ j) (h : SqT K H a xs) : SqT K H' a xs := by
  rcases h with (h | ⟨o, h⟩) | h
  · exact .inl (.inl (k _ _ n h))
  · exact .inl (.inr ⟨o, k _ _ n h⟩)
  · exact .inr h
/-! ### promises -/
def spDip : Sp := fun vs H Q _ => ∃ (j : Addr) (w d s c : Int), vs = [.ref j, .int w] ∧ H j = some (.lst [.int d, .int s, .int c]) ∧ 0 ≤ d ∧ 0 ≤ s ∧ s < 2147483648 ∧ 0 ≤ c ∧ 0 < w ∧ w < 1073741824 ∧
  ∀ r d' s' c' : Int, 0 ≤ r → r < w → 0 ≤ d' → 0 ≤ s' → s' < 2147483648 → 0 ≤ c' → Q (.int r) (upd H j (.lst [.int d', .int s', .int c']))
def spJar (K : PySem.W.Frag) : Sp := fun vs H Q _ => ∃ (a : Addr) (ns : List Int) (k : Int), vs = [.ref a, .int k] ∧ SqL K H a (ns.map V.int) ∧ ns.length ≤ 63 ∧ 0 ≤ k ∧ k ≤ 100 ∧
  ∀ H' p, Same H H' → H p = none → Jar H' p → Q (.ref p) H'
/-- one of a list, a tuple or a text's signs -/
def spPick (K : PySem.W.Frag) : Sp := fun vs H Q _ => ∃ (j m : Addr) (xs : List V) (d s c : Int), vs = [.ref j, .ref m] ∧ H j = some (.lst [.int d, .int s, .int c]) ∧ 0 ≤ d ∧ 0 ≤ s ∧ s < 2147483648 ∧ 0 ≤ c ∧ m ≠ j ∧ (SqL K H m xs ∨ SqT K H m xs) ∧ 0 < xs.length ∧ xs.length ≤ 1000 ∧
  ∀ (i : Nat) (v : V) (d' s' c' : Int), xs[i]? = some v → 0 ≤ d' → 0 ≤ s' → s' < 2147483648 → 0 ≤ c' → Q v (upd H j (.lst [.int d', .int s', .int c']))
end L2.Cal
end

section
set_option maxRecDepth 100000
set_option maxHeartbeats 4000000
/-! new objects, told by what stays and what stands there, not by the heap as a term -/
namespace L2.Cal
open PySem PySem.Spec PyProof.Rows L2
theorem same_new {H : Hp} {p : Addr} {o : HO} (h : H p = none) : Same H (upd H p o) := fun b u e => by rw [upd_ne (ne_of_none e h)]; exact e
/-- a new object o at p -/
abbrev New (H : Hp) (o : HO) (Q : VK) : Prop := ∀ (p : Addr) (H2 : Hp), Same H H2 → H p = none → H2 p = some o → Q (.ref p) H2
theorem New.use {H : Hp} {o : HO} {Q : VK} (h : New H o Q) {p : Addr} (n : H p = none) : Q (.ref p) (upd H p o) := h p _ (same_new n) n upd_same
def tLstS (t : TA) : TE := fun σ H Q => t σ H fun xs H1 => xs.length ≤ sizeLine ∧ New H1 (.lst xs) Q
def tTupS (t : TA) : TE := fun σ H Q => t σ H fun xs H1 => xs.length ≤ sizeLine ∧ New H1 (.tup xs) Q
section
variable {X : Cx} {es : List Expr} {t : TA} {pos : Pos}
theorem pe_lstS (h : PA X es t) : PE X (.List es pos) (tLstS t) := ⟨fun pins s σ H Q I hq => wpAny_List_spliced (thn (h.run pos pins s σ H _ I hq) fun us s1 hh => by
  obtain ⟨xs, H1, I1, r, z, q⟩ := hh
  refine ⟨by rw [← r.length]; exact z, .ref s1.heap.objs.size, _, I1.laid (t' := s1.toks) (a := s1.heap.objs.size) (o := .lst xs) (fun b u e => Heap.get?_push_of_some _ e) (Nat.le_refl _) ⟨z, us, 0, r, Heap.get?_push_size _ rfl⟩, rfl, q.use (I1.hok.fresh (Nat.le_refl _))⟩)⟩
theorem pe_tupS {k} (h : PA X es t) : PE X (.Tuple es k pos) (tTupS t) := ⟨fun pins s σ H Q I hq => wpAny_Tuple_spliced (thn (h.run pos pins s σ H _ I hq) fun us s1 hh => by
  obtain ⟨xs, H1, I1, r, z, q⟩ := hh
  refine ⟨by rw [← r.length]; exact z, .ref s1.heap.objs.size, _, I1.laid (t' := s1.toks) (a := s1.heap.objs.size) (o := .tup xs) (fun b u e => Heap.get?_push_of_some _ e) (Nat.le_refl _) ⟨z, us, r, ⟨_, Heap.get?_push_size _ rfl, rfl, _, rfl⟩⟩, rfl, q.use (I1.hok.fresh (Nat.le_refl _))⟩)⟩
theorem pe_dnewS : PE X (.Dict [] [] pos) (fun _ H Q => New H (.dK []) Q) := ⟨fun pins s σ H Q I h => pe_dnewK.run pins s σ H Q I fun p n => h.use n⟩
end
/-- a class of the program, a built-in class, as a value -/
theorem pe_cls {X : Cx} {x : Str} {C : Addr} {pos : Pos} (hg : Gl X x) (hm : X.mg x = some (.ref C)) (hd : (x == ("__debug__" : Str)) = false := by decide) : PE X (.Name x pos) (tC (.ref C)) := pe_glob (v := .ref C) hg hm rfl hd
theorem pe_bty {X : Cx} {x : Str} {n : String} {pos : Pos} (hg : Gl X x) (hm : X.mg x = none) (hv : bootBuiltins x = some (.type n)) (hn : x ≠ "__name__" := by decide) (hd : (x == ("__debug__" : Str)) = false := by decide) : PE X (.Name x pos) (tC (.ty n)) := pe_bltn (v := .ty n) hg hm hv rfl hn hd
def rCatS : R2 := fun x y H Q => ∃ l b xs zs, x = .ref l ∧ y = .ref b ∧ H l = some (.lst xs) ∧ H b = some (.lst zs) ∧ xs.length + zs.length ≤ sizeLine ∧ New H (.lst (xs ++ zs)) Q
theorem op_catS {X : Cx} : OpR X (binaryOp .Add) rCatS := fun pins s σ H x y v u Q I rx ry h => by
  obtain ⟨l, b, xs, zs, ex, ey, h1, h2, hz, q⟩ := h
  exact op_cat pins s σ H x y v u Q I rx ry ⟨l, b, xs, zs, ex, ey, h1, h2, hz, fun p n => q.use n⟩
end L2.Cal
end

section
set_option maxRecDepth 100000
set_option maxHeartbeats 4000000
/-! sets of texts: made of a list of texts or of a text's signs; their number; sorted -/
namespace L2.Cal
open PySem PySem.Spec PyProof.Rows PySem.Froz L2
section
variable {P : Program} {w : World}
/-- the payload can be walked -/
structure Way (w : World) (D : SD) : Prop where
  ris : Ris D.2.2.place.toList
  led : w.params.followText "set-order" = true ∨ D.2.2.led = true
/-- the payload holds the texts l, each once -/
structure Has (P : Program) (w : World) (D : SD) (l : List Str) : Prop where
  ok : TxOk P w D l
  way : Way w D
  one : l.Nodup
theorem Way.add {D : SD} (W : Way w D) (h : Int) (v : Value) : Way w (addTx h v D) := by
  obtain ⟨es, ep, t⟩ := D
  have r1 := layNew_ris t es h v W.ris
  have d1 := layNew_led t es h v
  unfold addTx tailTx
  dsimp only
  have w2 : Way w ((layNew t es h v).1, ep, if (layNew t es h v).2.1.plain = true then { (layNew t es h v).2.1 with plain := false } else (layNew t es h v).2.1) := by
    refine ⟨?_, ?_⟩
    · dsimp only
      split <;> exact r1
    · dsimp only
      rw [show (if (layNew t es h v).2.1.plain = true then { (layNew t es h v).2.1 with plain := false } else (layNew t es h v).2.1).led = t.led by split <;> exact d1]
      exact W.led
  generalize (if (layNew t es h v).2.1.plain = true then { (layNew t es h v).2.1 with plain := false } else (layNew t es h v).2.1) = t2 at w2 ⊢
  split
  · exact ⟨relayAll_ris _ _ _, by dsimp only; rw [relayAll_led]; exact w2.led⟩
  · exact ⟨w2.ris, w2.led⟩
theorem Has.add {D : SD} {l : List Str} {k : Str} (u : Tok) (S : Has P w D l) (n : k ∉ l) : Has P w (addTx (hashStr w k) (.str k u) D) (k :: l) :=
  ⟨add_ok u S.ok, S.way.add _ _, List.nodup_cons.mpr ⟨n, S.one⟩⟩
theorem Has.none (ep : Nat) : Has P w (#[], ep, .fresh 0 0 (!w.params.followText "set-order")) [] := by
  refine ⟨TxOk.nil rfl, ⟨?_, ?_⟩, .nil⟩
  · exact List.Pairwise.nil
  · cases e : w.params.followText "set-order"
    · exact .inr rfl
    · exact .inl rfl
variable {A : Around} {E : Value → Shared → Prop} {s : Shared} {a : Addr} {T : String} {D : SD} {l : List Str} {k : Str} {u : Tok}
/-- a text that is there already -/
theorem put_old {Q : Bool → Shared → Prop} (ho : s.heap.get? a = some (sObj T D)) (S : Has P w D l) (hk : k ∈ l) (hb : l.length < scanBound) (q : Q false s) : wpAny (model P w) A (setAddHashed a (.str k u) (hashStr w k)) Q E s := by
  obtain ⟨es, ep, t⟩ := D
  have dat : (sObj T (es, ep, t)).data = .set es ep t := rfl
  have few : es.size < scanBound := by
    have z : es.size = l.length := S.ok.sz
    rw [z]
    exact hb
  unfold setAddHashed setAddHashedIn
  refine wpAny_holding (wpAny_bind (wpAny_setState_of ho dat S.ok.fit ?_))
  dsimp only
  rw [byScan_of rfl few S.ok.el, if_pos rfl]
  unfold setAddByScan
  refine wpAny_bind (wpAny_bind (wpAny_rule (wpAny_bind (wpAny_setScan_of (knd := strKind P w) (k := k) (is_str k u) ho dat S.ok.fit S.ok.el ?_))))
  cases z : List.findIdx? (fun e => (strKind P w).is k e.2) es.toList with
  | none =>
    obtain ⟨e, he, p⟩ := (S.ok.mem k).mp hk
    have no := List.findIdx?_eq_none_iff.mp z e he
    rw [p] at no
    cases no
  | some j => exact wpAny_pure (wpAny_pure q)
/-- s.add(k), new or old -/
theorem put_any {Q : Bool → Shared → Prop} (ho : s.heap.get? a = some (sObj T D)) (S : Has P w D l) (hb : l.length + 1 < scanBound)
    (q : ∀ (b : Bool) (D' : SD) (l' : List Str) (h' : Heap), (∀ c o, c ≠ a → s.heap.get? c = some o → h'.get? c = some o) → h'.get? a = some (sObj T D') → Has P w D' l' → (∀ x, x ∈ l' ↔ x ∈ l ∨ x = k) → l'.length ≤ l.length + 1 → Q b { s with heap := h', toks := s.toks + 1 }) :
    wpAny (model P w) A (setAdd a (.str k u)) Q E s := by
  unfold setAdd
  refine wpAny_holding (wpAny_bind ((strKind P w).pyHash (k := k) (is_str k u) ?_))
  by_cases c : k ∈ l
  · refine put_old (s := { s with toks := s.toks + 1 }) (l := l) ho S c (by omega) (q _ D l s.heap (fun _ _ _ z => z) ho S (fun x => ⟨.inl, fun z => z.elim id fun e => e ▸ c⟩) (Nat.le_succ _))
  · refine add_x (s := { s with toks := s.toks + 1 }) (l := l) ho S.ok c hb (q _ _ (k :: l) _ (fun b o n z => PySem.Heap.get?_update_of_ne _ n.symm z) (get_upd _ ho rfl) (S.add u c) (fun x => ?_) (Nat.le_refl _))
    rw [List.mem_cons]
    exact Or.comm
/-- the rest of a walk over texts goes into the set -/
theorem fill {R : Result → Shared → Prop} {I S : Addr} {fp wr : List Addr} {n : Nat} {Pv : Nat → Value → Prop} {St : Nat → Heap → Prop} {val : Nat → Str} (W : Walks P w A.in1 I fp wr n Pv St) (away : S ∉ fp) (is : ∀ i v, Pv i v → ∃ t, v = .str (val i) t) (few : n + 1 < scanBound)
    (done : ∀ (h' : Heap) (tk : Nat) (D' : SD) (l' : List Str), (∀ b o, b ≠ S → b ∉ wr → s.heap.get? b = some o → h'.get? b = some o) → h'.get? S = some (sObj T D') → Has P w D' l' → (∀ x, x ∈ l' ↔ ∃ j, j < n ∧ val j = x) → R (.ok (.ret .none)) { s with heap := h', toks := tk }) :
    ∀ (m i : Nat) (h : Heap) (tk : Nat) (D : SD) (l : List Str), n - i = m → i ≤ n → St i h → (∀ b o, b ≠ S → b ∉ wr → s.heap.get? b = some o → h.get? b = some o) → h.get? S = some (sObj T D) → Has P w D l → (∀ x, x ∈ l ↔ ∃ j, j < i ∧ val j = x) → l.length ≤ i →
      codeAny (model P w) A (.builtin "set.update.loop" ⟨[.ref S, .ref I], []⟩) R { s with heap := h, toks := tk } := by
  intro m
  have awr : S ∉ wr := fun z => away (W.sub _ z)
  induction m with
  | zero =>
    intro i h tk D l hm hi hst keep at_ H mem len
    have e : i = n := by omega
    subst e
    refine codeAny_builtin PyProof.Rows.F.entry_set_update_loop ?_
    rw [Around.under_plainId PyProof.Rows.F.plain_set_update_loop _]
    show wpAny _ A.in1 (pyNext (.ref I) >>= _) _ _ _
    refine wpAny_bind (W.done _ _ _ hst fun h2 tk2 k2 => wpAny_pure ?_)
    exact done h2 tk2 D l (fun b o n1 n2 z => k2 b o n2 (keep b o n1 n2 z)) (k2 _ _ awr at_) H mem
  | succ m ih =>
    intro i h tk D l hm hi hst keep at_ H mem len
    refine codeAny_builtin PyProof.Rows.F.entry_set_update_loop ?_
    rw [Around.under_plainId PyProof.Rows.F.plain_set_update_loop _]
    show wpAny _ A.in1 (pyNext (.ref I) >>= _) _ _ _
    refine wpAny_bind (W.item i _ _ _ (by omega) hst fun v h2 tk2 hv hst2 k2 => ?_)
    obtain ⟨t, rfl⟩ := is i v hv
    show wpAny _ A.in1 (holding [Value.str (val i) t] (setAdd S (.str (val i) t)) >>= _) _ _ _
    refine wpAny_bind (wpAny_holding (put_any (k := val i) (l := l) (D := D) (T := T) (k2 _ _ awr at_) H (by omega) fun b D' l' h3 k3 at3 H3 mem3 len3 => ?_))
    refine wpAny_pure ⟨plainId_quiet PyProof.Rows.F.plain_set_update_loop _, ih (i + 1) h3 _ D' l' (by omega) (by omega) (W.frame _ _ _ hst2 fun b hb o z => k3 b o (fun e => away (e ▸ hb)) z) (fun b o n1 n2 z => k3 b o n1 (k2 b o n2 (keep b o n1 n2 z))) at3 H3 (fun x => ?_) (by omega)⟩
    rw [mem3 x, mem x]
    constructor
    · rintro (⟨j, hj, e⟩ | e)
      · exact ⟨j, by omega, e⟩
      · exact ⟨i, by omega, e.symm⟩
    · rintro ⟨j, hj, e⟩
      by_cases c : j = i
      · subst c
        exact .inr e.symm
      · exact .inl ⟨j, by omega, e⟩
/-- set(x): x's own texts go into a fresh set -/
theorem fresh_set {src : Value} {mem : Str → Prop} {Q : Value → Shared → Prop}
    (run : ∀ (A' : Around) (E' : Value → Shared → Prop) (Q' : Unit → Shared → Prop), A'.handled = A.handled →
      (∀ (h' : Heap) (tk : Nat) (D : SD) (l : List Str), (∀ b o, s.heap.get? b = some o → h'.get? b = some o) → h'.get? s.heap.objs.size = some (sObj "set" D) → Has P w D l → (∀ x, x ∈ l ↔ mem x) → Q' () { s with heap := h', toks := tk }) →
      wpAny (model P w) A' (Builtin.Frozenset.updateFrom "set.__init__" s.heap.objs.size src) Q' E' { s with heap := s.heap.push (sObj "set" (#[], 0, .fresh 0 0 (!w.params.followText "set-order"))) })
    (q : ∀ (h' : Heap) (tk : Nat) (D : SD) (l : List Str), (∀ b o, s.heap.get? b = some o → h'.get? b = some o) → h'.get? s.heap.objs.size = some (sObj "set" D) → Has P w D l → (∀ x, x ∈ l ↔ mem x) → Q (.ref s.heap.objs.size) { s with heap := h', toks := tk }) :
    wpAny (model P w) A (call (.type "set") [src]) Q E s := by
  obtain ⟨c, tl, chain⟩ := PySem.F.called_set.mro
  have made := PySem.F.called_set.made
  have below := PySem.F.called_set.sub
  have plain1 := PySem.F.called_set.notType
  have plain2 := PySem.F.called_set.canCreate
  have ask := PySem.F.typeCall_set_1 src
  refine wpAny_call (codeAny_of_tree (show wpAny _ _ (callAny (.type "set") _) _ _ _ from wpAny_pure ⟨Code.quiet_builtin _ (by decide +kernel), codeAny_builtin F.entry_type_call ?_⟩))
  rw [Around.under_plain (weight_type_call_type "set" [src] []) rfl]
  repeat (any_goals (first | assumption | wp_step))
  have laid : (s.heap.push (sObj "set" (#[], 0, .fresh 0 0 (!w.params.followText "set-order")))).get? s.heap.objs.size = some (sObj "set" (#[], 0, .fresh 0 0 (!w.params.followText "set-order"))) := Heap.get?_push_size _ rfl
  have kind : Shared.TypeIs { s with heap := s.heap.push (sObj "set" (#[], 0, .fresh 0 0 (!w.params.followText "set-order"))) } (.ref s.heap.objs.size) "set" := ⟨_, laid, rfl⟩
  have look := PySem.F.called_set.init.lookup
  have tie := PySem.F.called_set.init.bind (.ref s.heap.objs.size)
  refine codeAny_mono (code_set_led1 src (E := E) (Q₁ := fun v s1 => v = .ref s.heap.objs.size ∧ s1 = { s with heap := s.heap.push (sObj "set" (#[], 0, .fresh 0 0 (!w.params.followText "set-order"))) }) ⟨rfl, rfl⟩) fun r s1 hr => ?_
  match r, hr with
  | .error _, hr => exact hr
  | .ok (.ret v), ⟨e1, e2⟩ =>
    subst e1 e2
    repeat (any_goals (first | assumption | wp_step))
    refine codeAny_mono (codeAny_call_builtin (R := wants (fun v s2 => v = .none ∧ ∃ h' tk D l, s2 = { s with heap := h', toks := tk } ∧ (∀ b o, s.heap.get? b = some o → h'.get? b = some o) ∧ h'.get? s.heap.objs.size = some (sObj "set" D) ∧ Has P w D l ∧ (∀ x, x ∈ l ↔ mem x)) E)
      PySem.F.called_set.init.plain PySem.F.entry_set_init (PySem.check_set_init_1 kind ?_)) fun r2 s2 hr2 => ?_
    · unfold Builtin.«set.__init__» noKeywords
      generalize hU : Builtin.Frozenset.updateFrom "set.__init__" = U
      wp_walk
      subst hU
      refine run _ _ _ (by simp) fun h' tk D l k1 k2 k3 k4 => ?_
      show wpAny _ _ _ _ _ _
      first
        | exact wpAny_pure ⟨rfl, h', tk, D, l, rfl, k1, k2, k3, k4⟩
        | exact wpAny_pure (wpAny_pure ⟨rfl, h', tk, D, l, rfl, k1, k2, k3, k4⟩)
        | (wp_walk
           exact ⟨rfl, h', tk, D, l, rfl, k1, k2, k3, k4⟩)
    · match r2, hr2 with
      | .error _, hr2 => exact hr2
      | .ok (.ret v), ⟨e1, h', tk, D, l, e2, k1, k2, k3, k4⟩ =>
        subst e1 e2
        repeat (any_goals (first | assumption | wp_step))
        exact q _ _ _ _ k1 k2 k3 k4
end
end L2.Cal
end

section
set_option maxRecDepth 100000
set_option maxHeartbeats 4000000
namespace L2.Cal
open PySem PySem.Spec PyProof.Rows PySem.Froz L2
section
variable {P : Program} {w : World} {A : Around} {E : Value → Shared → Prop} {s : Shared}
theorem are_length {vs : List Value} {ss : List Str} (h : StrsAre vs ss) : vs.length = ss.length := by
  induction h with
  | nil => rfl
  | cons _ _ _ ih => simp [ih]
theorem are_at {vs : List Value} {ss : List Str} (h : StrsAre vs ss) : ∀ (i : Nat) (v : Value), vs[i]? = some v → ∃ t, v = .str (ss.getD i ⟨#[]⟩) t := by
  induction h with
  | nil => intro i v z; simp at z
  | cons y t _ ih =>
    intro i v z
    cases i with
    | zero => exact ⟨t, (Option.some.inj z).symm⟩
    | succ i => exact ih i v z
/-- set(xs), xs a list of texts -/
theorem set_list {b : Addr} {items : Array Value} {ss : List Str} {Q : Value → Shared → Prop} (hh : A.handled = none) (at_ : s.heap.IsList b items) (are : StrsAre items.toList ss) (few : ss.length + 1 < scanBound)
    (q : ∀ (h' : Heap) (tk : Nat) (D : SD) (l : List Str), (∀ b o, s.heap.get? b = some o → h'.get? b = some o) → h'.get? s.heap.objs.size = some (sObj "set" D) → Has P w D l → (∀ x, x ∈ l ↔ x ∈ ss) → Q (.ref s.heap.objs.size) { s with heap := h', toks := tk }) :
    wpAny (model P w) A (call (.type "set") [.ref b]) Q E s := by
  refine fresh_set (mem := fun x => x ∈ ss) (fun A' E' Q' hA k => ?_) q
  have h2 : A'.handled = none := hA.trans hh
  obtain ⟨ol, hol, hcl, nl, hdl⟩ := at_
  have lt : b < s.heap.objs.size := Heap.lt_size hol
  obtain ⟨ocls, odict, odata, oslots⟩ := ol
  simp only at hcl hdl
  subst hcl; subst hdl
  have there : (s.heap.push (sObj "set" (#[], 0, .fresh 0 0 (!w.params.followText "set-order")))).get? b = some { cls := .type "list", dict := odict, data := .seq items nl, slots := oslots } := Heap.get?_push_of_some _ hol
  have no1 := PySem.F.sub_list_set
  have no2 := PySem.F.sub_list_frozenset
  have no3 : (Value.type "list" == Value.type "dict") = false := by decide
  have isl : (s.heap.push (sObj "set" (#[], 0, .fresh 0 0 (!w.params.followText "set-order")))).IsList b items := ⟨_, there, rfl, nl, rfl⟩
  unfold Builtin.Frozenset.updateFrom
  generalize hI : pyIter = it
  wp_walk
  subst hI
  refine wpAny_pyIter_list isl (wpAny_bind (wpAny_runValue ?_))
  have sz : (s.heap.push (sObj "set" (#[], 0, .fresh 0 0 (!w.params.followText "set-order")))).objs.size = s.heap.objs.size + 1 := Heap.size_push ..
  have off : b ≠ (s.heap.push (sObj "set" (#[], 0, .fresh 0 0 (!w.params.followText "set-order")))).objs.size := by rw [sz]; exact Nat.ne_of_lt (Nat.lt_succ_of_lt lt)
  have n : items.size = ss.length := by rw [← Array.length_toList]; exact are_length are
  refine fill (s := s) (T := "set") (val := fun i => ss.getD i ⟨#[]⟩) (Walks.list (by simp [h2]) _ b off items) (S := s.heap.objs.size) ?_ (fun i v hv => ?_) (by omega) (fun h' tk D l keep at1 H mem => wpAny_pure (k h' tk D l (fun c o z => keep c o (Nat.ne_of_lt (Heap.lt_size z)) (fun m => ?_) z) at1 H fun x => (mem x).trans ?_))
    (items.size - 0) 0 _ _ _ [] rfl (Nat.zero_le _) ⟨⟨_, Heap.get?_push_size _ rfl, rfl, rfl⟩, isl.push _⟩ (fun c o _ _ z => Heap.get?_push_of_some _ (Heap.get?_push_of_some _ z)) (Heap.get?_push_of_some _ (Heap.get?_push_size _ rfl)) (Has.none 0) (fun x => by simp) (Nat.zero_le _)
  · rw [sz]
    intro z
    rcases List.mem_cons.mp z with z | z
    · exact absurd z (Nat.ne_of_lt (Nat.lt_succ_self _))
    · exact absurd (List.mem_singleton.mp z) (Nat.ne_of_gt lt)
  · exact are_at are i v (by rw [Array.getElem?_toList]; exact hv)
  · rw [List.mem_singleton.mp m, sz] at z
    exact absurd (Heap.lt_size z) (Nat.not_lt.mpr (Nat.le_succ _))
  · rw [n]
    constructor
    · rintro ⟨j, hj, e⟩
      rw [List.getD_eq_getElem?_getD, List.getElem?_eq_getElem hj] at e
      exact e ▸ List.getElem_mem hj
    · intro hx
      obtain ⟨j, hj, e⟩ := List.getElem_of_mem hx
      exact ⟨j, hj, by rw [List.getD_eq_getElem?_getD, List.getElem?_eq_getElem hj]; exact e⟩
/-- set(x), x a text -/
theorem set_text {y : Str} {t : Tok} {Q : Value → Shared → Prop} (hh : A.handled = none) (few : y.cps.size + 1 < scanBound)
    (q : ∀ (h' : Heap) (tk : Nat) (D : SD) (l : List Str), (∀ b o, s.heap.get? b = some o → h'.get? b = some o) → h'.get? s.heap.objs.size = some (sObj "set" D) → Has P w D l → (∀ x, x ∈ l ↔ ∃ c ∈ y.cps.toList, x = ⟨#[c]⟩) → Q (.ref s.heap.objs.size) { s with heap := h', toks := tk }) :
    wpAny (model P w) A (call (.type "set") [.str y t]) Q E s := by
  refine fresh_set (mem := fun x => ∃ c ∈ y.cps.toList, x = ⟨#[c]⟩) (fun A' E' Q' hA k => ?_) q
  have h2 : A'.handled = none := hA.trans hh
  unfold Builtin.Frozenset.updateFrom
  refine wpAny_bind (L2.Fz.anySet ?_)
  rw [if_neg Bool.false_ne_true]
  refine wpAny_bind (wpAny_of_eq (typeIs_str s y t) ?_)
  rw [if_neg (by decide)]
  refine wpAny_bind (wpAny_pyIter_str fun o St hW hst => ?_)
  have sz : (s.heap.push (sObj "set" (#[], 0, .fresh 0 0 (!w.params.followText "set-order")))).objs.size = s.heap.objs.size + 1 := Heap.size_push ..
  refine wpAny_bind (wpAny_runValue ?_)
  refine fill (s := s) (T := "set") (val := fun i => ⟨#[y.cps.getD i 0]⟩) (hW _ (by simp [h2])) (S := s.heap.objs.size) ?_ (fun i v hv => ?_) few (fun h' tk D l keep at1 H mem => wpAny_pure (k h' tk D l (fun c o z => keep c o (Nat.ne_of_lt (Heap.lt_size z)) (fun m => ?_) z) at1 H fun x => (mem x).trans ?_))
    y.cps.size 0 _ _ _ [] rfl (Nat.zero_le _) hst (fun c o _ _ z => Heap.get?_push_of_some _ (Heap.get?_push_of_some _ z)) (Heap.get?_push_of_some _ (Heap.get?_push_size _ rfl)) (Has.none 0) (fun x => by simp) (Nat.zero_le _)
  · rw [sz]
    intro z
    exact absurd (List.mem_singleton.mp z) (Nat.ne_of_lt (Nat.lt_succ_self _))
  · obtain ⟨c, u, hc, rfl⟩ := hv
    refine ⟨u, ?_⟩
    rw [Array.getD_eq_getD_getElem?, hc] <;> rfl
  · rw [List.mem_singleton.mp m, sz] at z
    exact absurd (Heap.lt_size z) (Nat.not_lt.mpr (Nat.le_succ _))
  · constructor
    · rintro ⟨j, hj, e⟩
      rw [Array.getD_eq_getD_getElem?, Array.getElem?_eq_getElem hj] at e
      exact ⟨_, by rw [Array.mem_toList_iff]; exact Array.getElem_mem hj, e.symm⟩
    · rintro ⟨c, hc, rfl⟩
      obtain ⟨j, hj, e⟩ := List.getElem_of_mem hc
      rw [Array.length_toList] at hj
      refine ⟨j, hj, ?_⟩
      rw [Array.getD_eq_getD_getElem?, Array.getElem?_eq_getElem hj]
      rw [Array.getElem_toList] at e
      rw [← e] <;> rfl
end
end L2.Cal
end

section
set_option maxRecDepth 100000
set_option maxHeartbeats 4000000
namespace L2.Cal
open PySem PySem.Spec PyProof.Rows PySem.Froz L2
/-! ### texts in order -/
theorem same_of_both : ∀ a b : List Nat, ltCps a b = false → ltCps b a = false → a = b
  | [], [], _, _ => rfl
  | [], b :: t, h, _ => by simp [ltCps] at h
  | a :: r, [], _, h => by simp [ltCps] at h
  | a :: r, b :: t, h1, h2 => by
    simp only [ltCps, Bool.or_eq_false_iff, Bool.and_eq_false_imp, decide_eq_false_iff_not, beq_iff_eq] at h1 h2
    have e : a = b := by omega
    subst e
    rw [same_of_both r t (h1.2 rfl) (h2.2 rfl)]
def Below (a b : Str) : Prop := ltCps a.cps.toList b.cps.toList = true
theorem below_of {a b : Str} (h : ltCps b.cps.toList a.cps.toList = false) (n : a ≠ b) : Below a b := by
  cases e : ltCps a.cps.toList b.cps.toList with
  | true => exact e
  | false =>
    have z := same_of_both _ _ e h
    exact absurd (by cases a; cases b; exact congrArg Str.mk (Array.toList_inj.mp z)) n
/-- each text is below the next one -/
def Climbs : List Str → Prop
  | a :: b :: r => Below a b ∧ Climbs (b :: r)
  | _ => True
theorem climbs_rising : ∀ (r : List Str) (p : Str), risingS p r = true → (p :: r).Nodup → Climbs (p :: r)
  | [], _, _, _ => trivial
  | x :: r, p, h, n => by
    simp only [risingS, Bool.and_eq_true, Bool.not_eq_true'] at h
    have n2 := List.nodup_cons.mp n
    exact ⟨below_of h.1 fun e => n2.1 (e ▸ List.mem_cons_self ..), climbs_rising r x h.2 n2.2⟩
theorem climbs_sorted {ys : List Str} (h : sortedS ys = true) (n : ys.Nodup) : Climbs ys := by
  cases ys with
  | nil => trivial
  | cons x r => exact climbs_rising r x h n
theorem Climbs.at {ys : List Str} : ∀ (i : Nat) (a b : Str), Climbs ys → ys[i]? = some a → ys[i + 1]? = some b → Below a b := by
  induction ys with
  | nil => intro i a b _ h; simp at h
  | cons x r ih =>
    intro i a b c h1 h2
    cases r with
    | nil => simp at h2
    | cons y r =>
      cases i with
      | zero =>
        simp at h1 h2
        subst h1 h2
        exact c.1
      | succ i => exact ih i a b c.2 (by simpa using h1) (by simpa using h2)
/-! ### as many and all there -/
theorem perm_of_into {α : Type} : ∀ (l m : List α), l.Nodup → (∀ x, x ∈ l → x ∈ m) → m.length ≤ l.length → m.Perm l
  | [], m, _, _, h => by
    have : m = [] := List.length_eq_zero_iff.mp (Nat.le_zero.mp h)
    subst this
    exact .nil
  | a :: l, m, n, sub, h => by
    obtain ⟨m1, m2, rfl⟩ := List.append_of_mem (sub a (List.mem_cons_self ..))
    have n2 := List.nodup_cons.mp n
    refine List.perm_middle.trans (.cons a (perm_of_into l (m1 ++ m2) n2.2 (fun x hx => ?_) ?_))
    · have z := sub x (List.mem_cons_of_mem _ hx)
      have ne : x ≠ a := fun e => n2.1 (e ▸ hx)
      rcases List.mem_append.mp z with z | z
      · exact List.mem_append_left _ z
      · rcases List.mem_cons.mp z with z | z
        · exact absurd z ne
        · exact List.mem_append_right _ z
    · simp only [List.length_append, List.length_cons] at h ⊢
      omega
section
variable {P : Program} {w : World} {A : Around} {E : Value → Shared → Prop} {s : Shared}
def txtOf : Value → Str | .str k _ => k | _ => ⟨#[]⟩
theorem are_of : ∀ (l : List Value), (∀ v ∈ l, ∃ k u, v = Value.str k u) → StrsAre l (l.map txtOf)
  | [], _ => .nil
  | v :: l, h => by
    obtain ⟨k, u, rfl⟩ := h v (List.mem_cons_self ..)
    exact .cons k u (are_of l fun x hx => h x (List.mem_cons_of_mem _ hx))
theorem Has.vals {D : SD} {l : List Str} (H : Has P w D l) : (∀ v ∈ D.1.toList.map (·.2), ∃ k u, v = Value.str k u) ∧ ((D.1.toList.map (·.2)).map txtOf).Perm l := by
  have el : ∀ e ∈ D.1.toList, ∃ k u, e.2 = Value.str k u ∧ (strKind P w).is k e.2 = true := fun e he => by
    obtain ⟨⟨k, hk, _⟩, _⟩ := H.ok.el e he
    obtain ⟨u, hu⟩ := Value.isStrOf_shape (show Value.isStrOf k e.2 = true from hk)
    exact ⟨k, u, hu, hk⟩
  refine ⟨fun v hv => ?_, perm_of_into _ _ H.one (fun x hx => ?_) ?_⟩
  · obtain ⟨e, he, rfl⟩ := List.mem_map.mp hv
    obtain ⟨k, u, h1, _⟩ := el e he
    exact ⟨k, u, h1⟩
  · obtain ⟨e, he, h1⟩ := (H.ok.mem x).mp hx
    obtain ⟨u, hu⟩ := Value.isStrOf_shape (show Value.isStrOf x e.2 = true from h1)
    exact List.mem_map.mpr ⟨e.2, List.mem_map.mpr ⟨e, he, rfl⟩, by rw [hu] <;> rfl⟩
  · rw [List.length_map, List.length_map, Array.length_toList]
    exact Nat.le_of_eq H.ok.sz
/-- sorted(x) of what gives texts -/
theorem sort_texts {src : Value} {good : Shared → List Str → Prop} {Q : Value → Shared → Prop} (few : ∀ s1 ss, good s1 ss → ss.length < 64)
    (col : ∀ (E' : Value → Shared → Prop) (Q' : List Value → Shared → Prop), (∀ s1 vs ss, good s1 ss → StrsAre vs ss → Q' vs s1) → wpAny (model P w) A.in1 (collect src) Q' E' s)
    (q : ∀ s1 s' (out : Array Value) (c : Nat) (ys ss : List Str), good s1 ss → (∀ b o, s1.heap.get? b = some o → s'.heap.get? b = some o) → s'.gens = s1.gens → s'.os = s1.os → s'.heap.get? s1.heap.objs.size = some (seqObj "list" out c) → StrsAre out.toList ys → ys.Perm ss → sortedS ys = true → Q (.ref s1.heap.objs.size) s') :
    wpAny (model P w) A (call (.builtin "sorted") [src]) Q E s := by
  refine Calls.call_function_entry kind_sorted plain_sorted entry_sorted (args_sorted1 _) ?_
  unfold Builtin.«sorted»
  refine wpAny_bind (m := checkCount "sorted" 1 1 _) (wpAny_pure (wpAny_bind (col _ _ fun s1 vs ss ok are => ?_)))
  have n : vs.length = ss.length := are_length are
  have lt := few s1 ss ok
  refine wpAny_bind (wpAny_newList ?_ (by rw [n, sizeLine_eq]; omega))
  have at1 : (s1.heap.push (seqObj "list" vs.toArray 0)).get? s1.heap.objs.size = some (seqObj "list" vs.toArray 0) := Heap.get?_push_size _ rfl
  refine wpAny_bind (wpAny_holding (wpAny_call_entry slot_list_sort ⟨_, at1, rfl⟩ entry_list_sort
    (list_sort_treeK strKind_oneLt (s := { s1 with heap := s1.heap.push (seqObj "list" vs.toArray 0) }) at1 are.keysOf (fun v1 v2 rest e => keyKind_strs (by rw [← e]; exact are)) (by rw [n]; exact lt) fun st' hp hs => ⟨_, rfl, ?_⟩) (args_list_sort _)))
  obtain ⟨ys, h1, h2, h3⟩ := sorted_out_str are hp hs
  obtain ⟨c, hc⟩ := sortedHeap_at (vs := vs) (out := (arrOf st').map (·.2)) at1
  refine wpAny_pure ⟨_, rfl, q s1 _ _ c ys ss ok (fun b o z1 => ?_) rfl rfl hc h1 h2 h3⟩
  have lt1 := Heap.lt_size z1
  show (sortedHeap (s1.heap.push (seqObj "list" vs.toArray 0)) s1.heap.objs.size vs _).get? b = some o
  rw [sortedHeap_old (Nat.ne_of_lt lt1) (by rw [size_push']; exact Nat.lt_succ_of_lt lt1)]
  exact Heap.get?_push_of_some _ z1
/-- sorted(a set of texts) -/
theorem sort_set {a : Addr} {D : SD} {l : List Str} {Q : Value → Shared → Prop} (hh : A.handled = none) (ho : s.heap.get? a = some (sObj "set" D)) (H : Has P w D l) (few : l.length < 64)
    (q : ∀ s' p (out : Array Value) (c : Nat) (ys : List Str), (∀ b o, s.heap.get? b = some o → s'.heap.get? b = some o) → s'.gens = s.gens → s'.os = s.os → s.heap.objs.size ≤ p → s'.heap.get? p = some (seqObj "list" out c) → StrsAre out.toList ys → ys.Perm l → Climbs ys → Q (.ref p) s') :
    wpAny (model P w) A (call (.builtin "sorted") [.ref a]) Q E s := by
  obtain ⟨v1, v2⟩ := H.vals
  refine sort_texts (good := fun s1 ss => ss.Perm l ∧ (∀ b o, s.heap.get? b = some o → s1.heap.get? b = some o) ∧ s.heap.objs.size ≤ s1.heap.objs.size ∧ s1.gens = s.gens ∧ s1.os = s.os) (fun s1 ss h => by rw [h.1.length_eq]; exact few) (fun E' Q' k => ?_)
    fun s1 s' out c ys ss ⟨ok, k1, z, g1, o1⟩ k g o at1 are pm so => q s' _ out c ys (fun b o e => k b o (k1 b o e)) (g.trans g1) (o.trans o1) z at1 are (pm.trans ok) (climbs_sorted so ((pm.trans ok).nodup_iff.mpr H.one))
  obtain ⟨es, ep, t⟩ := D
  have sz : es.size = l.length := H.ok.sz
  refine collect_set (A := A.in1) (by simpa using hh) ⟨_, ho, rfl, rfl⟩ H.ok.fit (by show es.size < scanBound; unfold scanBound; omega) H.way.ris H.way.led fun s1 vs k1 z g1 o1 pm => ?_
  exact k s1 vs _ ⟨(pm.map txtOf).trans v2, k1, z, g1, o1⟩ (are_of vs fun v hv => v1 v (pm.mem_iff.mp hv))
/-- the signs of a text -/
theorem are_signs {y : Str} {acc : Array Value} (h : ItemsOf (SignAt y) acc y.cps.size) : StrsAre acc.toList (signs y) := by
  have z : acc.toList.map txtOf = signs y := by
    apply List.ext_getElem?
    intro i
    unfold signs
    rw [List.getElem?_map, List.getElem?_map, Array.getElem?_toList, Array.getElem?_toList]
    cases e : acc[i]? with
    | none =>
      have n : acc.size ≤ i := Array.getElem?_eq_none_iff.mp e
      rw [h.1] at n
      rw [Array.getElem?_eq_none_iff.mpr n] <;> rfl
    | some v =>
      obtain ⟨c, u, hc, rfl⟩ := h.2 i v e
      rw [hc] <;> rfl
  rw [← z]
  refine are_of _ fun v hv => ?_
  obtain ⟨i, hi, e⟩ := List.getElem_of_mem hv
  obtain ⟨c, u, _, z⟩ := h.2 i v (by rw [← Array.getElem?_toList, List.getElem?_eq_getElem hi, e])
  exact ⟨_, u, z⟩
end
section
variable {X : Cx}
theorem inv_list {pins : List (Addr × Obj)} {σ : St} {H : Hp} {s s' : Shared} {p : Addr} {out : Array Value} {c : Nat} {ys : List Str} (I : Inv X pins σ H s) (k : ∀ b o, s.heap.get? b = some o → s'.heap.get? b = some o) (g : s'.gens = s.gens) (o : s'.os = s.os) (z : s.heap.objs.size ≤ p)
    (at1 : s'.heap.get? p = some (seqObj "list" out c)) (are : StrsAre out.toList ys) (few : ys.length < 64) : Inv X pins σ (upd H p (.lst (ys.map V.str))) s' ∧ H p = none := by
  have n : H p = none := I.hok.fresh z
  have len : (ys.map V.str).length ≤ sizeLine := by rw [List.length_map, sizeLine_eq]; omega
  have J : Inv X pins σ (upd H p (.lst (ys.map V.str))) { s with heap := s'.heap, gens := s'.gens, drawn := s'.drawn, toks := s'.toks } :=
    I.call (ch := []) (Un.laid k z n) (I.hok.laid k z ⟨len, out.toList, c, vals_of_strs are, at1⟩) (by rw [g]; exact I.bare) (fun _ z => nomatch z)
  have e : s' = { s with heap := s'.heap, gens := s'.gens, drawn := s'.drawn, toks := s'.toks } := by
    cases s'
    cases s
    cases o
    rfl
  rw [e]
  exact ⟨J, n⟩
/-- a list or a tuple of texts: sorted(set(xs)) -/
def tSortedSet (K : PySem.W.Frag) (ta : TE) : TE := fun σ H Q => ta σ H fun x H1 => ∃ (l : Addr) (xs : List Str), x = V.ref l ∧ SqL K H1 l (xs.map V.str) ∧ xs.length < 64 ∧
  ∀ (ys : List Str) (p : Addr), Climbs ys → ys.Nodup → (∀ x, x ∈ ys ↔ x ∈ xs) → H1 p = none → Q (.ref p) (upd H1 p (.lst (ys.map V.str)))
theorem pe_sortedSet {a : Expr} {ta : TE} {p p2 q pos : Pos} (hc : X.calm = true) (hg : Gl X "sorted") (hm : X.mg "sorted" = none) (hg2 : Gl X "set") (hm2 : X.mg "set" = none) (ha : PE X a ta)
    (na : starEach [a] X.env = (false, eval a X.env) :: starEach [] X.env := by rfl) : PE X (.Call (.Name "sorted" p) [.Call (.Name "set" p2) [a] [] q] [] pos) (tSortedSet X.K ta) := by
  refine ⟨fun pins s σ H Q I h => Call_ (ld_blt I hg hm PyProof.Rows.boot_sorted (PyProof.Rows.callWith_builtin1 (PyProof.Rows.args_cons ?_ rfl) rfl rfl))⟩
  refine Call_ (ld_blt I hg2 hm2 PyProof.Rows.boot_set (PyProof.Rows.callWith_type1 (PyProof.Rows.args_cons (thn (ha.run pins s σ H _ I h) fun v s1 ⟨x, H1, I1, r1, q1⟩ => PyProof.Rows.args_nil ?_) na) na rfl))
  obtain ⟨l, xs, rfl, hq, few, fin⟩ := q1
  cases r1
  obtain ⟨its, r, pl, _⟩ := I1.list hq
  refine set_list (I1.ok.hd hc) pl.isList (by simpa using r.strs) (by unfold scanBound; omega) fun h' tk D L k1 at1 S mem => PyProof.Rows.args_nil ?_
  have I2 : Inv X pins σ H1 { s1 with heap := h', toks := tk } := I1.kept k1
  have short : L.length < 64 := by
    refine Nat.lt_of_le_of_lt ?_ few
    exact (List.Nodup.length_le_of_subset S.one fun x hx => (mem x).mp hx)
  refine sort_set (I2.ok.hd hc) at1 S short fun s' b out c ys k g o z at2 are pm cl => ?_
  obtain ⟨J, n⟩ := inv_list I2 k g o z at2 are (by rw [pm.length_eq]; exact short)
  exact ⟨.ref b, _, J, rfl, fin ys b cl (pm.nodup_iff.mpr S.one) (fun x => pm.mem_iff.trans (mem x)) n⟩
/-- len(set(y)), y a text -/
def tLenSetS (ta : TE) : TE := fun σ H Q => ta σ H fun x H1 => ∃ y : Str, x = .str y ∧ y.cps.size ≤ 1000 ∧ ∀ l : List Str, l.Nodup → (∀ x, x ∈ l ↔ ∃ c ∈ y.cps.toList, x = ⟨#[c]⟩) → Q (.int l.length) H1
theorem pe_lenSetS {a : Expr} {ta : TE} {p p2 q pos : Pos} (hc : X.calm = true) (hg : Gl X "len") (hm : X.mg "len" = none) (hg2 : Gl X "set") (hm2 : X.mg "set" = none) (ha : PE X a ta)
    (na : starEach [a] X.env = (false, eval a X.env) :: starEach [] X.env := by rfl) : PE X (.Call (.Name "len" p) [.Call (.Name "set" p2) [a] [] q] [] pos) (tLenSetS ta) := by
  refine ⟨fun pins s σ H Q I h => Call_ (ld_blt I hg hm PySem.boot_len (PyProof.Rows.callWith_builtin1 (PyProof.Rows.args_cons ?_ rfl) rfl rfl))⟩
  refine Call_ (ld_blt I hg2 hm2 PyProof.Rows.boot_set (PyProof.Rows.callWith_type1 (PyProof.Rows.args_cons (thn (ha.run pins s σ H _ I h) fun v s1 ⟨x, H1, I1, r1, q1⟩ => PyProof.Rows.args_nil ?_) na) na rfl))
  obtain ⟨y, rfl, few, fin⟩ := q1
  obtain ⟨t, rfl⟩ := r1
  refine set_text (I1.ok.hd hc) (by unfold scanBound; omega) fun h' tk D L k1 at1 S mem => PyProof.Rows.args_nil ?_
  have I2 : Inv X pins σ H1 { s1 with heap := h', toks := tk } := I1.kept k1
  have short : D.1.size = L.length := S.ok.sz
  have le : L.length ≤ y.cps.size := by
    have z := List.Nodup.length_le_of_subset S.one (l₂ := y.cps.toList.map fun c => (⟨#[c]⟩ : Str)) fun x hx => by
      obtain ⟨c, hc, rfl⟩ := (mem x).mp hx
      exact List.mem_map.mpr ⟨c, hc, rfl⟩
    simpa using z
  refine call_len_set at1 ⟨rfl, rfl, rfl⟩ rfl S.ok.fit (by rw [short] <;> omega) ⟨.int L.length, H1, I2.tok _, ⟨_, by rw [short]⟩, fin L S.one mem⟩
/-- sorted(y), y a text -/
def rSortText : List V → Hp → VK → Prop := fun vs H Q => ∃ y : Str, vs = [.str y] ∧ y.cps.size < 64 ∧ ∀ (ys : List Str) (p : Addr), ys.Perm (signs y) → sortedS ys = true → H p = none → Q (.ref p) (upd H p (.lst (ys.map V.str)))
theorem cr_sortText (hc : X.calm = true) : CallR X (.builtin "sorted") rSortText := by
  intro pins s σ H vs us Q I r h
  obtain ⟨y, rfl, few, q⟩ := h
  cases r with
  | cons r rr =>
    cases rr
    obtain ⟨t, rfl⟩ := r
    refine sort_texts (good := fun s1 ss => ss = signs y ∧ (∀ b o, s.heap.get? b = some o → s1.heap.get? b = some o) ∧ s1.gens = s.gens ∧ s1.drawn = s.drawn ∧ s1.os = s.os) (fun s1 ss h => by rw [h.1, signs_length]; exact few) (fun E' Q' k => ?_)
      fun s1 s' out c ys ss ⟨e, k1, g1, d1, o1⟩ k g o at1 are pm so => ?_
    · exact wpAny_collect_str (by simpa using I.ok.hd hc) y t (fun s1 acc k1 g d o it => k s1 acc.toList _ ⟨rfl, k1, g, d, o⟩ (are_signs it)) (by rw [sizeLine_eq]; omega)
    · subst e
      have I1 : Inv X pins σ H s1 := by
        have z : s1 = { s with heap := s1.heap, toks := s1.toks } := by
          cases s1
          cases s
          cases g1
          cases d1
          cases o1
          rfl
        rw [z]
        exact I.kept k1
      obtain ⟨J, n⟩ := inv_list I1 k g o (Nat.le_refl _) at1 are (by rw [pm.length_eq, signs_length]; exact few)
      exact ⟨.ref _, _, J, rfl, q ys _ pm so n⟩
/-- list(y), y a text -/
def rListText : List V → Hp → VK → Prop := fun vs H Q => ∃ y : Str, vs = [.str y] ∧ y.cps.size ≤ 1000 ∧ ∀ p : Addr, H p = none → Q (.ref p) (upd H p (.lst ((signs y).map V.str)))
theorem cr_listText (hc : X.calm = true) : CallR X (.type "list") rListText := by
  intro pins s σ H vs us Q I r h
  obtain ⟨y, rfl, few, q⟩ := h
  cases r with
  | cons r rr =>
    cases rr
    obtain ⟨t, rfl⟩ := r
    refine call_list_str (I.ok.hd hc) y t (fun h' tk acc c k at1 it => ?_) (by rw [sizeLine_eq]; omega)
    have are := are_signs it
    have len : ((signs y).map V.str).length ≤ sizeLine := by
      rw [List.length_map, signs_length, sizeLine_eq]
      show y.cps.size ≤ _
      omega
    exact ⟨.ref s.heap.objs.size, _, I.laid (t' := tk) k (Nat.le_refl _) (show ObjOk X.prog X.w _ h' _ (.lst ((signs y).map V.str)) from ⟨len, acc.toList, c, vals_of_strs are, at1⟩), rfl, q _ (I.hok.fresh (Nat.le_refl _))⟩
end
end L2.Cal
end

section
set_option maxRecDepth 100000
set_option maxHeartbeats 4000000
namespace L2.Cal
open PySem PySem.Spec PyProof.Rows L2
theorem app_cps (a b : Str) : (a ++ b).cps.toList = a.cps.toList ++ b.cps.toList := by
  show (Array.append _ _).toList = _
  simp
theorem sign_cps (a : Str) (c : Nat) : (a ++ (⟨#[c]⟩ : Str)).cps.toList = a.cps.toList ++ [c] := app_cps _ _
theorem Jar.keep {H H' : Hp} {j p : Addr} (J : Jar H j) (n : H p = none) (k : ∀ b o, b ≠ p → H b = some o → H' b = some o) : Jar H' j := by
  obtain ⟨d, s, c, e, r⟩ := J
  exact ⟨d, s, c, k _ _ (fun z => by rw [z, n] at e; cases e) e, r⟩
theorem seq_in {r : Int} {n : Nat} (h0 : 0 ≤ r) (h1 : r < n) : seqIndex? r n = some r.toNat := by
  unfold seqIndex?
  dsimp only
  rw [if_neg (by omega : ¬ r < 0), if_pos (by rw [Bool.and_eq_true]; exact ⟨decide_eq_true h0, decide_eq_true h1⟩)]
theorem erase_map {α β : Type} (f : α → β) : ∀ (l : List α) (k : Nat), (l.map f).eraseIdx k = (l.eraseIdx k).map f
  | [], _ => rfl
  | _ :: _, 0 => rfl
  | a :: l, k + 1 => congrArg (f a :: ·) (erase_map f l k)
theorem erase_perm {α : Type} : ∀ {l : List α} {k : Nat} (h : k < l.length), ([l[k]] ++ l.eraseIdx k).Perm l
  | a :: l, 0, _ => .refl _
  | a :: l, k + 1, h => (List.Perm.swap a _ _).trans (.cons a (erase_perm (l := l) (Nat.lt_of_succ_lt_succ h)))
def one (c : Nat) : Str := ⟨#[c]⟩
theorem join_signs (z : Str) : Txt.join (PySem.Str.ofString "") (signs z) = z := by
  have e : Txt.join (PySem.Str.ofString "") (signs z) = PySem.Str.join (PySem.Str.ofString "") (signs z) := eq_of_beq (join_plain_closes _ _)
  rw [e, show PySem.Str.ofString "" = (⟨#[]⟩ : Str) by decide +kernel]
  exact join_nil_signs z
theorem ones_back {ys : List Str} {cs : List Nat} (h : ys.Perm (cs.map one)) : ∃ z : Str, ys = signs z ∧ z.cps.toList.Perm cs := by
  have g : (cs.map one).map (fun s => s.cps.getD 0 0) = cs := by
    rw [List.map_map]
    exact (List.map_congr_left fun c _ => rfl).trans (List.map_id _)
  refine ⟨⟨(ys.map fun s => s.cps.getD 0 0).toArray⟩, ?_, ?_⟩
  · unfold signs
    dsimp only
    rw [List.map_map]
    refine (List.map_id' ys).symm.trans (List.map_congr_left fun s hs => ?_)
    obtain ⟨c, _, rfl⟩ := List.mem_map.mp (h.mem_iff.mp hs)
    rfl
  · dsimp only
    have := h.map (fun s => s.cps.getD 0 0)
    rw [g] at this
    exact this
/-- letters, each once -/
def Lett (z : Str) : Prop := z.cps.toList.Nodup ∧ ∀ c ∈ z.cps.toList, 97 ≤ c ∧ c ≤ 122
theorem Lett.perm {y z : Str} (h : Lett y) (p : z.cps.toList.Perm y.cps.toList) : Lett z := ⟨p.nodup_iff.mpr h.1, fun c hc => h.2 c (p.mem_iff.mp hc)⟩
theorem sum_ones : ∀ l : List Nat, (l.map fun _ => 1).sum = l.length
  | [] => rfl
  | a :: l => by rw [List.map_cons, List.sum_cons, sum_ones l, List.length_cons, Nat.add_comm]
theorem len_app (a b : Str) : (a ++ b).length = a.length + b.length := by
  show (a ++ b).cps.size = a.cps.size + b.cps.size
  rw [← Array.length_toList, app_cps, List.length_append, Array.length_toList, Array.length_toList]
theorem swap_perm (x : Str) (a : Nat) (h : a + 1 < x.cps.size) :
    (cutS x none (some (a : Int)) ++ ((⟨#[x.cps.toList[a + 1]'(by rw [Array.length_toList]; omega)]⟩ : Str) ++ (⟨#[x.cps.toList[a]'(by rw [Array.length_toList]; omega)]⟩ : Str)) ++ cutS x (some ((a : Int) + 2)) none).cps.toList.Perm x.cps.toList := by
  have sz : x.cps.toList.length = x.length := Array.length_toList
  have e1 : (cutS x none (some (a : Int))).cps.toList = x.cps.toList.take a := by
    unfold cutS
    rw [HT.sIx_none, show HT.sIx x.length x.length (some (a : Int)) = min a x.length from HT.sIx_nat _ _ a]
    have : min a x.length = a := Nat.min_eq_left (by show a ≤ x.cps.size; omega)
    rw [this]
    simp
  have e2 : (cutS x (some ((a : Int) + 2)) none).cps.toList = x.cps.toList.drop (a + 2) := by
    unfold cutS
    rw [HT.sIx_none, show HT.sIx x.length 0 (some ((a : Int) + 2)) = min (a + 2) x.length from HT.sIx_nat _ _ (a + 2)]
    have : min (a + 2) x.length = a + 2 := Nat.min_eq_left (by show a + 2 ≤ x.cps.size; omega)
    rw [this]
    dsimp only
    rw [List.take_of_length_le]
    rw [List.length_drop, sz]
    exact Nat.le_refl _
  rw [app_cps, app_cps, app_cps, e1, e2]
  have d1 : x.cps.toList.drop a = x.cps.toList[a]'(by rw [sz]; show a < x.cps.size; omega) :: x.cps.toList[a + 1]'(by rw [sz]; exact h) :: x.cps.toList.drop (a + 2) := by
    rw [List.drop_eq_getElem_cons (by rw [sz]; show a < x.cps.size; omega), List.drop_eq_getElem_cons (by rw [sz]; exact h)]
  refine .trans ?_ (List.Perm.of_eq (List.take_append_drop a x.cps.toList))
  rw [d1, List.append_assoc]
  exact List.Perm.append_left _ (.swap _ _ _)
/-- a lot of orders of the letters of y -/
structure Lot (ys : List Str) (y : Str) : Prop where
  up : Climbs ys
  one : ys.Nodup
  some : 0 < ys.length
  of : ∀ z, z ∈ ys → z.cps.toList.Perm y.cps.toList
end L2.Cal
end

section
set_option maxRecDepth 100000
set_option maxHeartbeats 4000000
namespace L2.Cal
open PySem PySem.Spec PyProof.Rows L2
def topS (i : Nat) : Stmt := PySem.Challenge.pw_calmlists_k46_known_closed_and_spoken_ro.main.body.getD i (.Pass ⟨0, 0, 0, 0⟩)
abbrev sOrg : Stmt := topS 51
abbrev sSip : Stmt := topS 52
theorem scOrg : FnScope ["_law_script", "_law_turn", "_law_own", "_law_state", "_law_cell"] ["_law_script", "_law_turn"] (defScope sOrg) := ⟨rfl, rfl, rfl, by decide +kernel, rfl, by decide +kernel, by decide +kernel⟩
theorem scSip : FnScope ["_law_creek", "_law_size", "_law_figure", "_law_state"] ["_law_creek", "_law_size"] (defScope sSip) := ⟨rfl, rfl, rfl, by decide +kernel, rfl, by decide +kernel, by decide +kernel⟩
structure Txt (mg : Str → Option Value) : Prop where
  b_int : mg "int" = none
  b_len : mg "len" = none
  b_abs : mg "abs" = none
  b_range : mg "range" = none
  b_repr : mg "repr" = none
  b_max : mg "max" = none
  b_min : mg "min" = none
  b_all : mg "all" = none
  b_list : mg "list" = none
  b_sorted : mg "sorted" = none
  b_set : mg "set" = none
  b_tuple : mg "tuple" = none
  b_str : mg "str" = none
  b_bool : mg "bool" = none
  b_isinstance : mg "isinstance" = none
  b_enumerate : mg "enumerate" = none
  b_super : mg "super" = none
/-- a number below a bound, from a creek (which is a jar) -/
def spSip : Sp := fun vs H Q _ => ∃ (j : Addr) (w : Int), vs = [.ref j, .int w] ∧ Jar H j ∧ 0 < w ∧ w < 100000000000000000000000000000000000000000 ∧ ∀ (r : Int) (H' : Hp), 0 ≤ r → r < w → Kp j H H' → Jar H' j → Q (.int r) H'
/-- a divisor of few digits -/
theorem divp_small {i j : Int} (hj : 0 < j) (h : j < 100000000000000000000000000000000000000000) : CDivP i j := by
  refine ⟨hj, ?_⟩
  show (decide ((if j == 0 then 0 else j.natAbs.log2 / 30 + 1) > 300) && _) = false
  rw [if_neg (show ¬ (j == 0) = true by simpa using (show j ≠ 0 by omega))]
  have k : j.natAbs.log2 < 140 := (Nat.log2_lt (by omega)).mpr (Nat.lt_of_lt_of_le (show j.natAbs < 100000000000000000000000000000000000000000 by omega) (by decide))
  rw [decide_eq_false (by omega), Bool.false_and]
section
variable {P : Program} {w : World} {K : PySem.W.Frag} {mg : Str → Option Value} {base : Heap}
theorem ok_sip {f : Addr} {fd : FuncData} (D : DefAt K mg "_law_sip" sSip ["_law_creek", "_law_size"] f fd) (bd : mg "divmod" = none) (T : Txt mg) : FnOk P w K mg base CX0 1 f fd ["_law_creek", "_law_size"] spSip := by
  refine D.F.ok scSip (fun vs H Q E h => ?_) (fun cdv A outer sh H vs Q E hr h => ?_)
  · obtain ⟨j, w, rfl, _⟩ := h
    rfl
  · obtain ⟨j, w, rfl, hj, hw, hw2, q⟩ := h
    refine ⟨_, (pss_cons (ps_if (pt_cmpR op_gt (pe_ix ix_list (pv 0) pe_int (fun _ _ => rfl)) pe_int (nomark _))
       (pss_cons (ps_asg (pe_callB call_divmodW (by rfl) bd (by decide +kernel) (pa_cons (pe_ix ix_list (pv 0) pe_int (fun _ _ => rfl)) (pa_cons (pv 1) pa_nil))) (pg_tup rfl (pgs_cons (pg_sub (pv 0) pe_int L2.set_list) (pgs_cons (pg_name (i := 2) scSip.nd rfl (.inl rfl)) pgs_nil))))
       (pss_one (ps_ret (pv 2)))) pss_nil)
      (pss_cons (ps_asg (pe_op op_add (pe_ix ix_list (pv 0) pe_int (fun _ _ => rfl)) pe_int) (pg_sub (pv 0) pe_int L2.set_list))
      (pss_cons (ps_set (i := 3) scSip.nd rfl (.inl rfl) (pe_op op_mod (pe_callTy call_int1 (by rfl) T.b_int (by decide +kernel) (pa_cons (pe_op op_add (pe_op op_add (pe_op op_mul (pe_ix ix_list (pv 0) pe_int (fun _ _ => rfl)) (pe_op op_add pe_int (pe_op op_mul pe_int (pe_ix ix_list (pv 0) pe_int (fun _ _ => rfl))))) (pe_op op_mul pe_int (pe_ix ix_list (pv 0) pe_int (fun _ _ => rfl)))) pe_int) pa_nil)) pe_int))
      (pss_cons (ps_asg (pe_op op_mod (pe_callTy call_int1 (by rfl) T.b_int (by decide +kernel) (pa_cons (pe_op op_add (pe_op op_add (pe_op op_mul (pv 3) pe_int) (pe_op op_mul pe_int (pe_ix ix_list (pv 0) pe_int (fun _ _ => rfl)))) pe_int) pa_nil)) pe_int) (pg_sub (pv 0) pe_int L2.set_list))
      (pss_one (ps_ret (pe_op op_mod (pe_callTy call_int1 (by rfl) T.b_int (by decide +kernel) (pa_cons (pe_op op_fdiv (pe_ix ix_list (pv 0) pe_int (fun _ _ => rfl)) pe_int) pa_nil)) (pv 1)))))))), ?_⟩
    obtain ⟨d, s, c, ej, h0, h1, h2, h3⟩ := hj
    have i0 : ∀ a b c : Int, atI [V.int a, V.int b, V.int c] 0 = some (.int a) := fun a b c => atI_nat (j := 0) rfl
    have i1 : ∀ a b c : Int, atI [V.int a, V.int b, V.int c] 1 = some (.int b) := fun a b c => atI_nat (j := 1) rfl
    have i2 : ∀ a b c : Int, atI [V.int a, V.int b, V.int c] 2 = some (.int c) := fun a b c => atI_nat (j := 2) rfl
    refine ⟨_, rfl, j, _, _, _, rfl, rfl, SqL.of ej, i0 _ _ _, _, _, rfl, rfl, _, rfl, ite2 (fun e => ?_) (fun e => ?_)⟩
    · have e0 : 0 < d := of_decide_eq_true e
      refine ⟨_, rfl, j, _, _, _, rfl, rfl, SqL.of ej, i0 _ _ _, _, rfl, d, w, rfl, divp_small hw hw2, fun p np => ?_⟩
      have pj : j ≠ p := ne_of_none ej np
      have ej2 : (upd H p (.tup [.int (d / w), .int (d % w)])) j = some (.lst [.int d, .int s, .int c]) := by rw [upd_ne pj]; exact ej
      refine ⟨p, _, rfl, SqT.of upd_same, rfl, _, _, rfl, _, rfl, j, _, _, 0, rfl, rfl, ej2, rfl, _, _, rfl, rfl, _, rfl, ?_⟩
      exact q _ _ (Int.emod_nonneg _ (by omega)) (Int.emod_lt_of_pos _ hw) ((Kp.new np).trans Kp.jar) (Jar.up (Int.ediv_nonneg (by omega) (by omega)) h1 h2 h3)
    · refine ⟨_, rfl, j, _, _, _, rfl, rfl, SqL.of ej, i2 _ _ _, _, _, rfl, rfl, _, rfl, j, _, _, 2, rfl, rfl, ej, rfl, ?_⟩
      refine ⟨_, rfl, j, _, _, _, rfl, rfl, SqL.of upd_same, i1 _ _ _, _, rfl, j, _, _, _, rfl, rfl, SqL.of upd_same, i2 _ _ _, _, _, rfl, rfl, .inl ⟨by decide, by decide⟩, _, _, rfl, rfl, _, _, rfl, rfl, .inl ⟨by omega, by omega⟩, ?_⟩
      refine ⟨_, rfl, j, _, _, _, rfl, rfl, SqL.of upd_same, i2 _ _ _, _, _, rfl, rfl, .inl ⟨by decide, by decide⟩, _, _, rfl, rfl, _, _, rfl, rfl, .inl ⟨_, rfl, _, _, rfl, rfl, (by show (0:Int) < 2147483543; decide), ?_⟩⟩
      refine ⟨_, rfl, _, _, rfl, rfl, .inr ⟨by decide, by decide⟩, _, rfl, j, _, _, _, rfl, rfl, SqL.of upd_same, i2 _ _ _, _, _, rfl, rfl, .inl ⟨by decide, by decide⟩, _, _, rfl, rfl, _, _, rfl, rfl, .inl ⟨_, rfl, _, _, rfl, rfl, (by show (0:Int) < 2147483489; decide), _, rfl, j, _, _, 1, rfl, rfl, upd_same, rfl, ?_⟩⟩
      refine ⟨_, rfl, j, _, _, _, rfl, rfl, SqL.of upd_same, i1 _ _ _, _, _, rfl, rfl, ⟨by decide, by decide⟩, .inl ⟨_, rfl, _, rfl, _, _, rfl, rfl, hw, ?_⟩⟩
      rw [upd_upd]
      exact q _ _ (Int.emod_nonneg _ (by omega)) (Int.emod_lt_of_pos _ hw) Kp.jar (Jar.up h0 (Int.emod_nonneg _ (by decide)) (by have := Int.emod_lt_of_pos (((s * (50021 + 2 * (c + 1)) + 4007 * (c + 1) + 19) % 2147483543) * 38011 + 13 * (c + 1) + 7) (b := 2147483489) (by decide); omega) (by omega))
end
end L2.Cal
end

section
set_option maxRecDepth 100000
set_option maxHeartbeats 4000000
namespace L2.Cal
open PySem PySem.Spec PyProof.Rows L2
/-- another reading that tells more -/
theorem pe_imp {X : Cx} {e : Expr} {t t' : TE} (h : PE X e t) (m : ∀ σ H Q, t' σ H Q → t σ H Q) : PE X e t' := ⟨fun pins s σ H Q I hq => h.run pins s σ H Q I (m σ H Q hq)⟩
theorem pt_imp {X : Cx} {e : Expr} {t t' : TT} (h : PT X e t) (m : ∀ σ H Q, t' σ H Q → t σ H Q) : PT X e t' := ⟨fun pins s σ H Q I hq => h.run pins s σ H Q I (m σ H Q hq)⟩
theorem seq_key {t u : TS} {D : Ends} {σ : St} {H : Hp} (Pz : St → Hp → Prop) (key : ∀ σ H', Pz σ H' → u D σ H') (go : (∀ σ H', Pz σ H' → u D σ H') → t { D with nx := u D } σ H) : tSeq t u D σ H := go key
end L2.Cal
end

section
set_option maxRecDepth 100000
set_option maxHeartbeats 4000000
namespace L2.Cal
open PySem PySem.Spec PyProof.Rows L2
abbrev sShu : Stmt := topS 53
abbrev sTag : Stmt := topS 54
theorem scShu : FnScope ["_law_creek", "_law_bag", "_law_left", "_law_found", "_law_turn"] ["_law_creek", "_law_bag"] (defScope sShu) := ⟨rfl, rfl, rfl, by decide +kernel, rfl, by decide +kernel, by decide +kernel⟩
theorem scTag : FnScope ["_law_creek", "_law_size", "_law_left", "_law_found", "_law_turn"] ["_law_creek", "_law_size"] (defScope sTag) := ⟨rfl, rfl, rfl, by decide +kernel, rfl, by decide +kernel, by decide +kernel⟩
def spOrg (K : PySem.W.Frag) : Sp := fun vs H Q _ => ∃ (a : Addr) (ns : List Int) (k : Int), vs = [.ref a, .int k] ∧ SqL K H a (ns.map V.int) ∧ ns.length ≤ 63 ∧ 0 ≤ k ∧ k ≤ 100 ∧ (∀ n ∈ ns, Builtin.Int.intBits n ≤ 1048576) ∧
  ∀ H' p, Same H H' → H p = none → Jar H' p → Q (.ref p) H'
/-- the signs of a text in another order -/
def spShu : Sp := fun vs H Q _ => ∃ (j : Addr) (y : Str), vs = [.ref j, .str y] ∧ Jar H j ∧ y.cps.size ≤ 100 ∧ ∀ (l : Addr) (z : Str) (H' : Hp), Kp j H H' → Jar H' j → H l = none → H' l = some (.lst ((signs z).map V.str)) → z.cps.toList.Perm y.cps.toList → Q (.ref l) H'
def spTag : Sp := fun vs H Q _ => ∃ (j : Addr) (m : Nat), vs = [.ref j, .int m] ∧ Jar H j ∧ m ≤ 26 ∧ ∀ (z : Str) (H' : Hp), Kp j H H' → Jar H' j → Lett z → z.cps.size = m → Q (.str z) H'
def tOwn (K : PySem.W.Frag) : TE := fun σ H Q => ∃ (a : Addr) (ns : List Int) (k : Int), σ[0]? = some (some (.ref a)) ∧ σ[1]? = some (some (.int k)) ∧ SqL K H a (ns.map V.int) ∧ 0 ≤ k ∧ (∀ n ∈ ns, Builtin.Int.intBits n ≤ 1048576) ∧ ∀ own : Int, Builtin.Int.intBits own ≤ 1048576 → Q (.int own) H
def tDig : TE := fun σ H Q => ∃ own : Int, σ[2]? = some (some (.int own)) ∧ ∀ d : Int, 0 ≤ d → Q (.int d) H
section
variable {P : Program} {w : World} {K : PySem.W.Frag} {mg : Str → Option Value} {base : Heap}
theorem ok_org {f : Addr} {fd : FuncData} (D : DefAt K mg "_law_origin" sOrg ["_law_script", "_law_turn"] f fd) (T : Txt mg) : FnOk P w K mg base CX0 1 f fd ["_law_script", "_law_turn"] (spOrg K) := by
  refine D.F.ok scOrg (fun vs H Q E h => ?_) (fun cdv A outer sh H vs Q E hr h => ?_)
  · obtain ⟨a, ns, k, rfl, _⟩ := h
    rfl
  · obtain ⟨a, ns, k, rfl, hS, hn, h0, h1, bits, q⟩ := h
    refine ⟨_, (pss_cons (ps_set (i := 2) scOrg.nd rfl (.inl rfl) (pe_imp (t' := tOwn K) (pe_ifExp (pt_cmpR op_lt (pv 1) (pe_callB call_len_seq (by rfl) T.b_len (by decide +kernel) (pa_cons (pv 0) pa_nil)) (nomark _)) (pe_ix ix_list (pv 0) (pv 1) (fun _ _ => rfl)) pe_int) ?own))
      (pss_cons (ps_set (i := 3) scOrg.nd rfl (.inl rfl) (pe_op op_add pe_int (pe_op op_mul pe_int (pv 1))))
      (pss_cons (ps_for PassesOwn.never rfl (pi_list (pe_slice sl_list (pv 0) po_none (po_some pe_int))) (pg_name (i := 4) scOrg.nd rfl (.inl rfl))
        (pss_one (ps_set (i := 3) scOrg.nd rfl (.inl rfl) (pe_op op_mod (pe_callTy call_int1 (by rfl) T.b_int (by decide +kernel) (pa_cons (pe_op op_add (pe_op op_add (pe_op op_mul (pv 3) pe_int) (pe_op op_mul (pv 4) pe_int)) pe_int) pa_nil)) pe_int))))
      (pss_one (ps_ret (pe_lstS (pa_cons (pe_imp (t' := tDig) (pe_ifExp (PW.pt (pw_or (pt_cmpR op_lt (pv 2) pe_int (nomark _)) (pw_or1 (pt_cmpR op_ge (pv 2) (pe_op op_pow pe_int pe_int) (nomark _))))) (pe_callB call_abs (by rfl) T.b_abs (by decide +kernel) (pa_cons (pv 2) pa_nil)) pe_int) ?dig)
        (pa_cons (pe_op op_mod (pe_callTy call_int1 (by rfl) T.b_int (by decide +kernel) (pa_cons (pe_op op_add (pe_op op_add (pe_op op_mul (pv 3) pe_int) (pe_op op_mulX (pv 2) (pv 2))) (pe_op op_mul pe_int (pv 1))) pa_nil)) pe_int) (pa_cons pe_int pa_nil))))))))), ?_⟩
    case own =>
      intro σ H Q ⟨a, ns, k, e0, e1, hS, h0, bits, q⟩
      have z0 : Builtin.Int.intBits 0 ≤ 1048576 := by decide
      refine ⟨_, e1, _, e0, a, _, rfl, .inl hS, _, _, rfl, rfl, _, rfl, ite2 (fun e => ?_) (fun e => q 0 z0)⟩
      have e2 : k < (ns.length : Int) := by
        have := of_decide_eq_true e
        rw [List.length_map] at this
        exact this
      have hk : k.toNat < ns.length := by omega
      have hg : atI (ns.map V.int) k = some (.int ns[k.toNat]) := at_of (j := k.toNat) (by omega) (by rw [List.getElem?_map, List.getElem?_eq_getElem hk]; rfl)
      exact ⟨_, e0, _, e1, a, _, _, _, rfl, rfl, hS, hg, q _ (bits _ (List.getElem_mem hk))⟩
    case dig =>
      intro σ H Q ⟨own, e2, q⟩
      refine ⟨_, e2, _, _, rfl, rfl, _, rfl, ite2 (fun e => ?_) (fun e => ?_)⟩
      · have e1 := of_decide_eq_true e
        exact iteT ⟨_, e2, _, rfl, q _ (by split <;> omega)⟩
      · refine ⟨_, e2, _, _, rfl, rfl, ⟨by decide, by decide, by decide⟩, _, _, rfl, rfl, _, rfl, ite2 (fun e => ⟨_, e2, _, rfl, q _ (by split <;> omega)⟩) (fun e => q 0 (by decide))⟩
    refine ⟨a, ns, k, rfl, rfl, hS, h0, bits, fun own bo => ?_⟩
    refine ⟨_, rfl, _, _, rfl, rfl, .inl ⟨by decide, by decide⟩, _, _, rfl, rfl, ?_⟩
    refine ⟨_, rfl, 5, rfl, a, _, rfl, hS, fun p np => ?_⟩
    have s1 : Same H (upd H p (.lst (cutV (ns.map V.int) none (some 5)))) := same_new np
    have ec : cutV (ns.map V.int) none (some 5) = (ns.take 5).map V.int := by
      unfold cutV
      rw [HT.sIx_none, show HT.sIx (ns.map V.int).length (ns.map V.int).length (some 5) = min 5 (ns.map V.int).length from HT.sIx_nat _ _ 5, List.drop_zero, List.map_take]
      simp [List.take_eq_take_iff]
    rw [ec] at s1 ⊢
    refine ⟨p, rfl, ⟨_, SqL.of upd_same⟩, for_list (xs := (ns.take 5).map V.int) (fun i σ H' => ∃ c y4, σ = [some (.ref a), some (.int k), some (.int own), some (.int c), y4] ∧ H' = upd H p (.lst ((ns.take 5).map V.int))) ⟨_, none, rfl, rfl⟩ (fun i σ H' _ hP => ?_) (fun i x σ H' hx hP => ?_) (fun σ H' hP => ?_)⟩
    · obtain ⟨c, y4, rfl, rfl⟩ := hP
      exact SqL.of upd_same
    · obtain ⟨c, y4, rfl, rfl⟩ := hP
      rw [List.getElem?_map] at hx
      obtain ⟨z, hz, rfl⟩ := Option.map_eq_some_iff.mp hx
      exact ⟨_, rfl, _, _, rfl, rfl, .inr ⟨by decide, by decide⟩, _, rfl, _, _, rfl, rfl, .inr ⟨by decide, by decide⟩, _, _, rfl, rfl, _, _, rfl, rfl, .inl ⟨_, rfl, _, _, rfl, rfl, (by show (0:Int) < 2147483543; decide), _, _, rfl, rfl⟩⟩
    · obtain ⟨c, y4, rfl, rfl⟩ := hP
      have wide : CMulX own own := by
        show (Builtin.Int.intBits own : Int) + (Builtin.Int.intBits own : Int) ≤ 134217728
        omega
      refine ⟨own, rfl, fun dg hdg => ⟨_, rfl, _, _, rfl, rfl, .inr ⟨by decide, by decide⟩, _, rfl, _, rfl, _, _, rfl, rfl, wide, _, _, rfl, rfl, _, rfl, _, _, rfl, rfl, .inl ⟨by decide, by decide⟩, _, _, rfl, rfl, .inl ⟨_, rfl, _, _, rfl, rfl, (by show (0:Int) < 2147483543; decide), ?_⟩⟩⟩
      refine ⟨by show 3 ≤ sizeLine; decide, fun p' H' s' np' e' => ?_⟩
      have lo := Int.emod_nonneg (c * 97 + own * own + 53 * k) (b := 2147483543) (by decide)
      have hi := Int.emod_lt_of_pos (c * 97 + own * own + 53 * k) (b := 2147483543) (by decide)
      exact q H' p' (s1.trans s') (s1.free np') ⟨_, _, _, e', hdg, lo, by omega, by decide⟩
theorem ok_shu {f fD : Addr} {fd fdD : FuncData} (D : DefAt K mg "_law_shuffled" sShu ["_law_creek", "_law_bag"] f fd) (DD : DefAt K mg "_law_sip" sSip ["_law_creek", "_law_size"] fD fdD) (bd : mg "divmod" = none) (T : Txt mg) : FnOk P w K mg base CX0 2 f fd ["_law_creek", "_law_bag"] spShu := by
  have GD : FnOk P w K mg base CX0 1 fD fdD ["_law_creek", "_law_size"] spSip := ok_sip DD bd T
  refine D.F.ok scShu (fun vs H Q E h => ?_) (fun cdv A outer sh H vs Q E hr h => ?_)
  · obtain ⟨j, y, rfl, _⟩ := h
    rfl
  · obtain ⟨j, y, rfl, hj, hy, q⟩ := h
    refine ⟨_, (pss_cons (ps_par (i := 2) (j := 3) (by rfl) scShu.nd rfl rfl (by decide) rfl rfl (pa_cons (pe_callTy (cr_listText rfl) (by rfl) T.b_list (by decide +kernel) (pa_cons (pv 1) pa_nil)) (pa_cons (pe_lstS pa_nil) pa_nil)) (by rfl))
      (pss_cons (ps_for PassesOwn.never rfl (pi_range1 (by rfl) T.b_range (pa_cons (pe_callB call_len_seq (by rfl) T.b_len (by decide +kernel) (pa_cons (pv 2) pa_nil)) pa_nil)) (pg_name (i := 4) scShu.nd rfl (.inl rfl))
        (pss_one (ps_expr (pe_bm PySem.F.plainAttrs_list PySem.F.slot_list_append PySem.F.type_list_append mt_append (pv 3) (pa_cons (pe_bm PySem.F.plainAttrs_list PySem.F.slot_list_pop PySem.F.type_list_pop mt_popAt (pv 2) (pa_cons (pe_call GD (hr.mono (by decide)) (by rfl) DD.g DD.F.kp DD.b .nil pass0 (pa_cons (pv 0) (pa_cons (pe_callB call_len_seq (by rfl) T.b_len (by decide +kernel) (pa_cons (pv 2) pa_nil)) pa_nil))) pa_nil)) pa_nil)))))
      (pss_one (ps_ret (pv 3))))), ?_⟩
    have hly : y.length = y.cps.size := rfl
    have yl : y.cps.toList.length = y.cps.size := Array.length_toList
    refine ⟨_, rfl, y, rfl, by omega, fun p np => ⟨(by show 0 ≤ sizeLine; decide), fun l H1 s1 nl el => ?_⟩⟩
    have hp : j ≠ p := by
      obtain ⟨d, s, c, e, _⟩ := hj
      exact fun z => by rw [z, np] at e; cases e
    have ep : H1 p = some (.lst (y.cps.toList.map fun c => V.str (one c))) := by
      refine s1 _ _ ?_
      rw [upd_same]
      unfold signs
      rw [List.map_map] <;> rfl
    have J0 := hj.new (o := .lst ((signs y).map V.str)) np
    have hjl : j ≠ l := by
      obtain ⟨d, s, c, e, _⟩ := J0
      exact ne_of_none e nl
    have hpl : p ≠ l := fun z => by rw [← z, upd_same] at nl; cases nl
    have nl0 : H l = none := by
      cases e : H l with
      | none => rfl
      | some o => rw [upd_ne hpl.symm, e] at nl; cases nl
    have lc : (y.cps.toList.map fun c => V.str (one c)).length = y.cps.size := by rw [List.length_map, Array.length_toList]
    refine ⟨_, _, rfl, _, rfl, p, _, rfl, .inl (SqL.of ep), ?_⟩
    rw [lc]
    refine ⟨(y.cps.size : Int), rfl, by omega, by omega, for_range (n := y.cps.size) (fun i σ H' => ∃ (cs fs : List Nat) (v : Option V), σ = [some (.ref j), some (.str y), some (.ref p), some (.ref l), v] ∧
      H' p = some (.lst (cs.map fun c => V.str (one c))) ∧ H' l = some (.lst (fs.map fun c => V.str (one c))) ∧ Jar H' j ∧ (∀ b o, b ≠ j → b ≠ p → b ≠ l → H b = some o → H' b = some o) ∧ (fs ++ cs).Perm y.cps.toList ∧ fs.length = i)
      ⟨y.cps.toList, [], none, rfl, ep, el, J0.same s1, fun b o _ n _ e => s1 _ _ (by rw [upd_ne n]; exact e), .refl _, rfl⟩ (fun i σ H' hi hP => ?_) (fun σ H' hP => ?_)⟩
    · obtain ⟨cs, fs, v, rfl, hc, hf, hJ, hk, hpm, hz⟩ := hP
      have hlen := hpm.length_eq
      rw [List.length_append, hz] at hlen
      have hcs : 0 < cs.length := by omega
      refine ⟨_, rfl, .inl ⟨rfl, _, SqL.of hf⟩, _, rfl, .inl ⟨rfl, _, SqL.of hc⟩, _, rfl, _, rfl, p, _, rfl, .inl (SqL.of hc), j, _, rfl, hJ, by rw [List.length_map]; omega, by rw [List.length_map]; omega, fun r H2 r0 r1 k2 J2 => ?_⟩
      rw [List.length_map] at r1
      have hk1 : r.toNat < cs.length := by omega
      have up : H2 p = some (.lst (cs.map fun c => V.str (one c))) := k2 _ _ hp.symm hc
      have ul : (upd H2 p (.lst ((cs.map fun c => V.str (one c)).eraseIdx r.toNat))) l = some (.lst (fs.map fun c => V.str (one c))) := by rw [upd_ne hpl.symm]; exact k2 _ _ hjl.symm hf
      have hsi : seqIndex? r (cs.map fun c => V.str (one c)).length = some r.toNat := by
        rw [List.length_map]
        exact seq_in r0 r1
      refine ⟨p, _, r, r.toNat, _, rfl, rfl, up, by omega, by omega, hsi, (by rw [List.getElem?_map, List.getElem?_eq_getElem hk1] <;> rfl), l, _, _, rfl, rfl, ul, ?_, ?_⟩
      · rw [List.length_map, hz, sizeLine_eq]
        omega
      · refine ⟨cs.eraseIdx r.toNat, fs ++ [cs[r.toNat]], _, rfl, ?_, ?_, ?_, fun b o n1 n2 n3 e => ?_, ?_, ?_⟩
        · rw [upd_ne hpl, upd_same, erase_map]
        · rw [upd_same, List.map_append]
          rfl
        · obtain ⟨d3, s3, c3, e3, r3⟩ := J2
          exact ⟨d3, s3, c3, by rw [upd_ne hjl, upd_ne hp]; exact e3, r3⟩
        · rw [upd_ne n3, upd_ne n2]
          exact k2 b o n1 (hk b o n1 n2 n3 e)
        · rw [List.append_assoc]
          exact (List.Perm.append_left _ (erase_perm hk1)).trans hpm
        · simp [hz]
    · obtain ⟨cs, fs, v, rfl, hc, hf, hJ, hk, hpm, hz⟩ := hP
      have hlen := hpm.length_eq
      rw [List.length_append, hz] at hlen
      have hcs : cs = [] := List.length_eq_zero_iff.mp (by omega)
      subst hcs
      rw [List.append_nil] at hpm
      refine ⟨_, rfl, q l ⟨fs.toArray⟩ _ (fun b o n e => hk b o n (fun z => by rw [z, np] at e; cases e) (fun z => by rw [z, nl0] at e; cases e) e) hJ nl0 ?_ ?_⟩
      · rw [hf]
        unfold signs
        rw [List.toList_toArray, List.map_map] <;> rfl
      · rw [List.toList_toArray]
        exact hpm
theorem ok_tag {f fD : Addr} {fd fdD : FuncData} (D : DefAt K mg "_law_tags" sTag ["_law_creek", "_law_size"] f fd) (DD : DefAt K mg "_law_sip" sSip ["_law_creek", "_law_size"] fD fdD) (bd : mg "divmod" = none) (T : Txt mg) : FnOk P w K mg base CX0 2 f fd ["_law_creek", "_law_size"] spTag := by
  have GD : FnOk P w K mg base CX0 1 fD fdD ["_law_creek", "_law_size"] spSip := ok_sip DD bd T
  refine D.F.ok scTag (fun vs H Q E h => ?_) (fun cdv A outer sh H vs Q E hr h => ?_)
  · obtain ⟨j, m, rfl, _⟩ := h
    rfl
  · obtain ⟨j, m, rfl, hj, hm, q⟩ := h
    refine ⟨_, (pss_cons (ps_par (i := 2) (j := 3) (by rfl) scTag.nd rfl rfl (by decide) rfl rfl (pa_cons (pe_callTy (cr_listText rfl) (by rfl) T.b_list (by decide +kernel) (pa_cons pe_str pa_nil)) (pa_cons (pe_lstS pa_nil) pa_nil)) (by rfl))
      (pss_cons (ps_for PassesOwn.never rfl (pi_range1 (by rfl) T.b_range (pa_cons (pv 1) pa_nil)) (pg_name (i := 4) scTag.nd rfl (.inl rfl))
        (pss_one (ps_expr (pe_bm PySem.F.plainAttrs_list PySem.F.slot_list_append PySem.F.type_list_append mt_append (pv 3) (pa_cons (pe_bm PySem.F.plainAttrs_list PySem.F.slot_list_pop PySem.F.type_list_pop mt_popAt (pv 2) (pa_cons (pe_call GD (hr.mono (by decide)) (by rfl) DD.g DD.F.kp DD.b .nil pass0 (pa_cons (pv 0) (pa_cons (pe_callB call_len_seq (by rfl) T.b_len (by decide +kernel) (pa_cons (pv 2) pa_nil)) pa_nil))) pa_nil)) pa_nil)))))
      (pss_one (ps_ret (pe_join pe_str (pe_callB cr_sortedS (by rfl) T.b_sorted (by decide +kernel) (pa_cons (pv 3) pa_nil))))))), ?_⟩
    refine ⟨_, rfl, by decide +kernel, fun p np => ⟨(by show 0 ≤ sizeLine; decide), fun l H1 s1 nl el => ?_⟩⟩
    have abc : (Str.ofString "abcdefghijklmnopqrstuvwxyz").cps.toList = [97, 98, 99, 100, 101, 102, 103, 104, 105, 106, 107, 108, 109, 110, 111, 112, 113, 114, 115, 116, 117, 118, 119, 120, 121, 122] := by decide +kernel
    have hp : j ≠ p := by
      obtain ⟨d, s, c, e, _⟩ := hj
      exact fun z => by rw [z, np] at e; cases e
    have ep : H1 p = some (.lst ([97, 98, 99, 100, 101, 102, 103, 104, 105, 106, 107, 108, 109, 110, 111, 112, 113, 114, 115, 116, 117, 118, 119, 120, 121, 122].map fun c => V.str (one c))) := by
      refine s1 _ _ ?_
      rw [upd_same]
      unfold signs
      rw [abc, List.map_map] <;> rfl
    have J0 := hj.new (o := .lst ((signs (Str.ofString "abcdefghijklmnopqrstuvwxyz")).map V.str)) np
    have hjl : j ≠ l := by
      obtain ⟨d, s, c, e, _⟩ := J0
      exact ne_of_none e nl
    have hpl : p ≠ l := fun z => by rw [← z, upd_same] at nl; cases nl
    have nl0 : H l = none := by
      cases e : H l with
      | none => rfl
      | some o => rw [upd_ne hpl.symm, e] at nl; cases nl
    refine ⟨_, _, rfl, _, rfl, (m : Int), rfl, by omega, by omega, for_range (n := m) (fun i σ H' => ∃ (cs fs : List Nat) (v : Option V), σ = [some (.ref j), some (.int m), some (.ref p), some (.ref l), v] ∧
      H' p = some (.lst (cs.map fun c => V.str (one c))) ∧ H' l = some (.lst (fs.map fun c => V.str (one c))) ∧ Jar H' j ∧ (∀ b o, b ≠ j → b ≠ p → b ≠ l → H b = some o → H' b = some o) ∧ (fs ++ cs).Perm [97, 98, 99, 100, 101, 102, 103, 104, 105, 106, 107, 108, 109, 110, 111, 112, 113, 114, 115, 116, 117, 118, 119, 120, 121, 122] ∧ fs.length = i)
      ⟨_, [], none, rfl, ep, el, J0.same s1, fun b o _ n _ e => s1 _ _ (by rw [upd_ne n]; exact e), .refl _, rfl⟩ (fun i σ H' hi hP => ?_) (fun σ H' hP => ?_)⟩
    · obtain ⟨cs, fs, v, rfl, hc, hf, hJ, hk, hpm, hz⟩ := hP
      have hlen := hpm.length_eq
      rw [List.length_append, hz] at hlen
      simp only [List.length_cons, List.length_nil] at hlen
      have hcs : 0 < cs.length := by omega
      refine ⟨_, rfl, .inl ⟨rfl, _, SqL.of hf⟩, _, rfl, .inl ⟨rfl, _, SqL.of hc⟩, _, rfl, _, rfl, p, _, rfl, .inl (SqL.of hc), j, _, rfl, hJ, by rw [List.length_map]; omega, by rw [List.length_map]; omega, fun r H2 r0 r1 k2 J2 => ?_⟩
      rw [List.length_map] at r1
      have hk1 : r.toNat < cs.length := by omega
      have up : H2 p = some (.lst (cs.map fun c => V.str (one c))) := k2 _ _ hp.symm hc
      have ul : (upd H2 p (.lst ((cs.map fun c => V.str (one c)).eraseIdx r.toNat))) l = some (.lst (fs.map fun c => V.str (one c))) := by rw [upd_ne hpl.symm]; exact k2 _ _ hjl.symm hf
      have hsi : seqIndex? r (cs.map fun c => V.str (one c)).length = some r.toNat := by
        rw [List.length_map]
        exact seq_in r0 r1
      refine ⟨p, _, r, r.toNat, _, rfl, rfl, up, by omega, by omega, hsi, (by rw [List.getElem?_map, List.getElem?_eq_getElem hk1] <;> rfl), l, _, _, rfl, rfl, ul, ?_, ?_⟩
      · rw [List.length_map, hz, sizeLine_eq]
        omega
      · refine ⟨cs.eraseIdx r.toNat, fs ++ [cs[r.toNat]], _, rfl, ?_, ?_, ?_, fun b o n1 n2 n3 e => ?_, ?_, ?_⟩
        · rw [upd_ne hpl, upd_same, erase_map]
        · rw [upd_same, List.map_append]
          rfl
        · obtain ⟨d3, s3, c3, e3, r3⟩ := J2
          exact ⟨d3, s3, c3, by rw [upd_ne hjl, upd_ne hp]; exact e3, r3⟩
        · rw [upd_ne n3, upd_ne n2]
          exact k2 b o n1 (hk b o n1 n2 n3 e)
        · rw [List.append_assoc]
          exact (List.Perm.append_left _ (erase_perm hk1)).trans hpm
        · simp [hz]
    · obtain ⟨cs, fs, v, rfl, hc, hf, hJ, hk, hpm, hz⟩ := hP
      refine ⟨⟨_, rfl⟩, _, rfl, l, fs.map one, rfl, SqL.of (by rw [hf, List.map_map] <;> rfl), by rw [List.length_map]; omega, fun ys p2 pm so n2 => ?_⟩
      obtain ⟨z, rfl, hzp⟩ := ones_back pm
      have sub := List.Nodup.sublist (List.sublist_append_left fs cs) (hpm.nodup_iff.mpr (by decide))
      have zl : z.cps.size = m := by
        rw [← Array.length_toList, hzp.length_eq, hz]
      refine ⟨_, p2, _, rfl, rfl, .inl (SqL.of upd_same), ?_, ?_⟩
      · have e1 : ((signs z).map (·.length)).sum = m := by
          unfold signs
          rw [List.map_map, show ((fun x : Str => x.length) ∘ fun n => (⟨#[n]⟩ : Str)) = fun _ => 1 from rfl, sum_ones, Array.length_toList]
          exact zl
        rw [e1, signs_length, show (PySem.Str.ofString "").length = 0 by decide +kernel]
        omega
      · rw [join_signs]
        refine q z _ (fun b o n e => ?_) ?_ ⟨hzp.nodup_iff.mpr sub, fun c hc => ?_⟩ zl
        · have nb : b ≠ p := fun z => by rw [z, np] at e; cases e
          have nb2 : b ≠ l := fun z => by rw [z, nl0] at e; cases e
          rw [upd_ne (ne_of_none (hk b o n nb nb2 e) n2)]
          exact hk b o n nb nb2 e
        · exact hJ.new n2
        · have := hpm.mem_iff.mp (List.mem_append_left cs (hzp.mem_iff.mp hc))
          simp only [List.mem_cons, List.not_mem_nil, or_false] at this
          omega
end
end L2.Cal
end

section
set_option maxRecDepth 100000
set_option maxHeartbeats 4000000
/-! where a letter stands in a text -/
namespace L2.Cal
open PySem PySem.Spec PyProof.Rows L2
theorem occ_sub (s sub : Str) (lo hi limit : Nat) : ∀ i ∈ Builtin.Str.occurrences s sub lo hi limit, i + sub.length ≤ hi ∧ Builtin.Str.subAt s sub i = true := by
  have key : ∀ (l : List Nat) (f0 : Array Nat) (r : Nat), (∀ i ∈ f0.toList, i + sub.length ≤ hi ∧ Builtin.Str.subAt s sub i = true) →
      ∀ i ∈ (Id.run (forIn (m := Id) l (f0, r) fun i (__s : Array Nat × Nat) =>
          if (decide (__s.fst.size < limit) && decide (__s.snd ≤ i) && decide (i + sub.length ≤ hi) && Builtin.Str.subAt s sub i) = true then pure (ForInStep.yield (__s.fst.push i, i + sub.length)) else pure (ForInStep.yield (__s.fst, __s.snd)))).1.toList, i + sub.length ≤ hi ∧ Builtin.Str.subAt s sub i = true := by
    intro l
    induction l with
    | nil => intro f0 r h; simpa using h
    | cons a l ih =>
      intro f0 r h
      rw [List.forIn_cons]
      by_cases c : (decide (f0.size < limit) && decide (r ≤ a) && decide (a + sub.length ≤ hi) && Builtin.Str.subAt s sub a) = true
      · simp only [c, if_true]
        refine ih (f0.push a) (a + sub.length) fun i hi => ?_
        rw [Array.toList_push, List.mem_append, List.mem_singleton] at hi
        rcases hi with hi | rfl
        · exact h i hi
        · simp only [Bool.and_eq_true, decide_eq_true_eq] at c
          exact ⟨c.1.2, c.2⟩
      · simp only [c, if_false]
        exact ih f0 r h
  unfold Builtin.Str.occurrences
  simp only [Std.Legacy.Range.forIn_eq_forIn_range']
  exact key _ #[] lo (by simp)
theorem index0_at {y : Str} {c i : Nat} (h : Txt.index0 y ⟨#[c]⟩ = some i) : y.cps.toList[i]? = some c := by
  unfold Txt.index0 at h
  exact (PySem.StrLaws.subAt_one y c i).mp (occ_sub _ _ _ _ _ i (List.mem_of_head? h))
theorem index0_in {y : Str} {c : Nat} (h : c ∈ y.cps.toList) : ∃ i, Txt.index0 y ⟨#[c]⟩ = some i := by
  have f := PySem.StrLaws.found_one y c
  rw [decide_eq_true h] at f
  unfold Txt.index0
  cases e : Builtin.Str.occurrences y ⟨#[c]⟩ 0 y.length 1 with
  | nil => rw [e] at f; simp at f
  | cons a l => exact ⟨a, rfl⟩
end L2.Cal
end

section
set_option maxRecDepth 100000
set_option maxHeartbeats 4000000
/-! cuts of tuples and texts -/
namespace L2.Cal
open PySem PySem.Spec PyProof.Rows L2
theorem sl_j {K : PySem.W.Frag} {H : Hp} {a : Addr} {xs : List V} {lo hi : Option Int} {Q : VK} (e : H a = some (.tup xs)) (q : ∀ b H', Same H H' → H' b = some (.tup (cutV xs lo hi)) → Q (.ref b) H') : rSlA K (.ref a) lo hi H Q := by
  refine ⟨a, xs, rfl, SqT.of e, fun h => q a H (fun _ _ z => z) ?_, fun _ p np => q p _ (same_new np) upd_same⟩
  rw [e]
  unfold cutV
  rw [h.1, h.2, List.drop_zero, Nat.sub_zero, List.take_length]
theorem cut_take (xs : List V) (k : Nat) : cutV xs none (some (k : Int)) = xs.take k := by
  unfold cutV
  rw [HT.sIx_none, HT.sIx_nat, List.drop_zero, Nat.sub_zero]
  rcases Nat.le_total k xs.length with h | h
  · rw [Nat.min_eq_left h]
  · rw [Nat.min_eq_right h, List.take_length, List.take_of_length_le h]
theorem cut_from (z : Str) (k : Nat) : (cutS z (some (k : Int)) none).cps.toList = z.cps.toList.drop k := by
  have l : z.cps.toList.length = z.length := Array.length_toList
  unfold cutS
  rw [HT.sIx_none, HT.sIx_nat, List.toList_toArray]
  refine (List.take_of_length_le ?_).trans ?_
  · rw [List.length_drop, l]; exact Nat.le_refl _
  · rcases Nat.le_total k z.length with h | h
    · rw [Nat.min_eq_left h]
    · rw [Nat.min_eq_right h, List.drop_of_length_le (by omega), List.drop_of_length_le (by omega)]
theorem cut_to (z : Str) (k : Nat) : (cutS z none (some (k : Int))).cps.toList = z.cps.toList.take k := by
  have l : z.cps.toList.length = z.length := Array.length_toList
  unfold cutS
  rw [HT.sIx_none, HT.sIx_nat, List.toList_toArray, List.drop_zero, Nat.sub_zero]
  rcases Nat.le_total k z.length with h | h
  · rw [Nat.min_eq_left h]
  · rw [Nat.min_eq_right h, List.take_of_length_le (by omega), List.take_of_length_le (by omega)]
theorem turn_perm (l : List Nat) (k : Nat) : (l.drop k ++ l.take k).Perm l := by
  have := List.perm_append_comm (l₁ := l.drop k) (l₂ := l.take k)
  rwa [List.take_append_drop] at this
end L2.Cal
end

section
set_option maxRecDepth 100000
set_option maxHeartbeats 4000000
/-! pure: orders of a walk in which neighbours change places once at most -/
namespace L2.Cal
open PySem PySem.Spec PyProof.Rows L2
def ahB (x : Str) (a b : Nat) : Bool := decide (x.cps.toList.idxOf a < x.cps.toList.idxOf b)
/-- what stands otherwise than in the first word does so in the later one, too -/
def LeW (z w w' : Str) : Prop := ∀ a b, a ∈ z.cps.toList → b ∈ z.cps.toList → a ≠ b → ahB w a b ≠ ahB z a b → ahB w' a b ≠ ahB z a b
theorem LeW.refl (z w : Str) : LeW z w w := fun _ _ _ _ _ h => h
theorem LeW.trans {z a b c : Str} (h : LeW z a b) (g : LeW z b c) : LeW z a c := fun p q hp hq n k => g p q hp hq n (h p q hp hq n k)
structure ChnW (z : Str) (fs : List Str) (x : Str) : Prop where
  up : fs.Pairwise (LeW z)
  le : ∀ w ∈ fs, LeW z w x
theorem ChnW.one (z : Str) : ChnW z [z] z := ⟨List.pairwise_singleton _ _, fun w h => by rw [List.mem_singleton.mp h]; exact .refl _ _⟩
theorem ChnW.go {z x x2 : Str} {fs : List Str} (c : ChnW z fs x) (h : LeW z x x2) : ChnW z fs x2 := ⟨c.up, fun w m => (c.le w m).trans h⟩
theorem ChnW.add {z x : Str} {fs : List Str} (c : ChnW z fs x) : ChnW z (fs ++ [x]) x := by
  refine ⟨List.pairwise_append.mpr ⟨c.up, List.pairwise_singleton _ _, fun a ha b hb => ?_⟩, fun w m => ?_⟩
  · rw [List.mem_singleton.mp hb]
    exact c.le a ha
  · rcases List.mem_append.mp m with m | m
    · exact c.le w m
    · rw [List.mem_singleton.mp m]
      exact .refl _ _
theorem pos_sw (A B : List Nat) (l0 l1 c : Nat) : (A ++ l0 :: l1 :: B).idxOf c = if c ∈ A then A.idxOf c else A.length + (if c = l0 then 0 else if c = l1 then 1 else 2 + B.idxOf c) := by
  rw [List.idxOf_append]
  by_cases h : c ∈ A
  · rw [if_pos h, if_pos h]
  · rw [if_neg h, if_neg h, List.idxOf_cons, List.idxOf_cons]
    by_cases h0 : c = l0
    · subst h0
      simp
    · by_cases h1 : c = l1
      · subst h1
        have : (l0 == c) = false := beq_eq_false_iff_ne.mpr (Ne.symm h0)
        simp [this, h0]
        omega
      · have e0 : (l0 == c) = false := beq_eq_false_iff_ne.mpr (Ne.symm h0)
        have e1 : (l1 == c) = false := beq_eq_false_iff_ne.mpr (Ne.symm h1)
        simp only [e0, e1, cond_false, if_neg h0, if_neg h1]
        omega
/-- neighbours exchanged that stood as in the first word -/
theorem step_le {z x x2 : Str} {A B : List Nat} {l0 l1 : Nat} (nd : x.cps.toList.Nodup) (e1 : x.cps.toList = A ++ l0 :: l1 :: B) (e2 : x2.cps.toList = A ++ l1 :: l0 :: B) (lt : ahB z l0 l1 = true) : LeW z x x2 := by
  rw [e1] at nd
  obtain ⟨_, n2, n3⟩ := List.nodup_append.mp nd
  have a0 : l0 ∉ A := fun h => n3 l0 h l0 List.mem_cons_self rfl
  have a1 : l1 ∉ A := fun h => n3 l1 h l1 (List.mem_cons_of_mem _ List.mem_cons_self) rfl
  have n01 : l0 ≠ l1 := fun e => (List.nodup_cons.mp n2).1 (by rw [e]; exact List.mem_cons_self)
  have inA : ∀ c, c ∈ A → A.idxOf c < A.length := fun c h => List.idxOf_lt_length_of_mem h
  have zlt := of_decide_eq_true lt
  have px : ∀ c, x.cps.toList.idxOf c = if c ∈ A then A.idxOf c else A.length + (if c = l0 then 0 else if c = l1 then 1 else 2 + B.idxOf c) := fun c => by rw [e1]; exact pos_sw A B l0 l1 c
  have py : ∀ c, x2.cps.toList.idxOf c = if c ∈ A then A.idxOf c else A.length + (if c = l1 then 0 else if c = l0 then 1 else 2 + B.idxOf c) := fun c => by rw [e2]; exact pos_sw A B l1 l0 c
  intro a b _ _ n h
  by_cases c1 : a = l0 ∧ b = l1
  · obtain ⟨rfl, rfl⟩ := c1
    refine absurd ?_ h
    rw [lt]
    unfold ahB
    rw [px, px, if_neg a0, if_neg a1, if_pos rfl, if_neg (Ne.symm n01), if_pos rfl]
    exact decide_eq_true (by omega)
  · by_cases c2 : a = l1 ∧ b = l0
    · obtain ⟨rfl, rfl⟩ := c2
      refine absurd ?_ h
      unfold ahB
      rw [px, px, if_neg a0, if_neg a1, if_pos rfl, if_neg (Ne.symm n01), if_pos rfl, decide_eq_false (by omega), decide_eq_false (by omega)]
    · have same : ahB x2 a b = ahB x a b := by
        unfold ahB
        refine decide_eq_decide.mpr ?_
        rw [px, px, py, py]
        by_cases ha : a ∈ A
        · have := inA a ha
          by_cases hb : b ∈ A
          · simp only [if_pos ha, if_pos hb]
          · simp only [if_pos ha, if_neg hb]
            omega
        · by_cases hb : b ∈ A
          · have := inA b hb
            simp only [if_neg ha, if_pos hb]
            omega
          · simp only [if_neg ha, if_neg hb]
            by_cases p0 : a = l0
            · have q0 : b ≠ l0 := fun e => n (p0.trans e.symm)
              have q1 : b ≠ l1 := fun e => c1 ⟨p0, e⟩
              have p1 : a ≠ l1 := fun e => n01 (p0.symm.trans e)
              simp only [if_pos p0, if_neg q0, if_neg q1, if_neg p1]
              omega
            · by_cases p1 : a = l1
              · have q1 : b ≠ l1 := fun e => n (p1.trans e.symm)
                have q0 : b ≠ l0 := fun e => c2 ⟨p1, e⟩
                simp only [if_neg p0, if_neg q0, if_neg q1, if_pos p1]
                omega
              · by_cases q0 : b = l0
                · have q1 : b ≠ l1 := fun e => n01 (q0.symm.trans e)
                  simp only [if_neg p0, if_neg p1, if_pos q0, if_neg q1]
                  omega
                · by_cases q1 : b = l1
                  · simp only [if_neg p0, if_neg p1, if_neg q0, if_pos q1]
                    omega
                  · simp only [if_neg p0, if_neg p1, if_neg q0, if_neg q1]
      rw [same]
      exact h
end L2.Cal
end

section
set_option maxRecDepth 100000
set_option maxHeartbeats 4000000
set_option synthInstance.maxHeartbeats 400000
namespace L2.Cal
open PySem PySem.Spec PyProof.Rows L2
abbrev sWlk : Stmt := topS 55
theorem scWlk : FnScope ["_law_creek", "_law_letters", "_law_word", "_law_begin", "_law_found", "_law_turn", "_law_k", "_law_first", "_law_last"] ["_law_creek", "_law_letters"] (defScope sWlk) := ⟨rfl, rfl, rfl, by decide +kernel, rfl, by decide +kernel, by decide +kernel⟩
theorem takes_never {X : Cx} : Takes X (fun _ _ _ _ => False) := fun u s' h => by
  obtain ⟨_, _, _, _, h⟩ := h
  simp at h
/-- texts that hold the same signs as y -/
def Kin (fs : List Str) (y : Str) : Prop := ∀ z ∈ fs, z.cps.toList.Perm y.cps.toList
/-- a walk from order to order -/
def spWlk : Sp := fun vs H Q _ => ∃ (j : Addr) (y : Str), vs = [.ref j, .str y] ∧ Jar H j ∧ 2 ≤ y.cps.size ∧ y.cps.size ≤ 100 ∧
  ∀ (fs : List Str) (l : Addr) (H' : Hp), Kp j H H' → Jar H' j → H l = none → H' l = some (.lst (fs.map V.str)) → Kin fs y → 0 < fs.length → fs.length ≤ 14 → (y.cps.toList.Nodup → ∃ z x : Str, z.cps.toList.Perm y.cps.toList ∧ ChnW z fs x) → Q (.ref l) H'
/-- the text that signs are joined to -/
theorem join_sh {K : PySem.W.Frag} {H : Hp} {l : Addr} {z : Str} (e : H l = some (.lst ((signs z).map V.str))) (sz : z.cps.size ≤ 100) :
    SqL K H l ((signs z).map V.str) ∧ ((signs z).map (·.length)).sum + (signs z).length * (PySem.Str.ofString "").length ≤ 16777216 := by
  refine ⟨SqL.of e, ?_⟩
  have e1 : ((signs z).map (·.length)).sum = z.cps.size := by
    unfold signs
    rw [List.map_map, show ((fun x : Str => x.length) ∘ fun n => (⟨#[n]⟩ : Str)) = fun _ => 1 from rfl, sum_ones, Array.length_toList]
  rw [e1, show (PySem.Str.ofString "").length = 0 by decide +kernel]
  omega
theorem perm_size {z y : Str} (p : z.cps.toList.Perm y.cps.toList) : z.cps.size = y.cps.size := by rw [← Array.length_toList, p.length_eq, Array.length_toList]
section
variable {P : Program} {w : World} {K : PySem.W.Frag} {mg : Str → Option Value} {base : Heap}
theorem ok_wlk {f fD fS : Addr} {fd fdD fdS : FuncData} (D : DefAt K mg "_law_walk" sWlk ["_law_creek", "_law_letters"] f fd) (DD : DefAt K mg "_law_sip" sSip ["_law_creek", "_law_size"] fD fdD) (DS : DefAt K mg "_law_shuffled" sShu ["_law_creek", "_law_bag"] fS fdS) (bd : mg "divmod" = none) (T : Txt mg) :
    FnOk P w K mg base CX0 3 f fd ["_law_creek", "_law_letters"] spWlk := by
  have GD : FnOk P w K mg base CX0 1 fD fdD ["_law_creek", "_law_size"] spSip := ok_sip DD bd T
  have GS : FnOk P w K mg base CX0 2 fS fdS ["_law_creek", "_law_bag"] spShu := ok_shu DS DD bd T
  refine D.F.ok scWlk (fun vs H Q E h => ?_) (fun cdv A outer sh H vs Q E hr h => ?_)
  · obtain ⟨j, y, rfl, _⟩ := h
    rfl
  · obtain ⟨j, y, rfl, hj, hy2, hy, q⟩ := h
    refine ⟨_, (pss_cons (ps_set (i := 2) scWlk.nd rfl (.inl rfl) (pe_join pe_str (pe_call GS (hr.mono (by decide)) (by rfl) DS.g DS.F.kp DS.b .nil pass0 (pa_cons (pv 0) (pa_cons (pv 1) pa_nil)))))
      (pss_cons (ps_par (i := 3) (j := 4) (by rfl) scWlk.nd rfl rfl (by decide) rfl rfl (pa_cons (pv 2) (pa_cons (pe_lstS (pa_cons (pv 2) pa_nil)) pa_nil)) (by rfl))
      (pss_cons (ps_for PassesOwn.never rfl (pi_range1 (by rfl) T.b_range (pa_cons (pe_op op_add pe_int (pe_call GD (hr.mono (by decide)) (by rfl) DD.g DD.F.kp DD.b .nil pass0 (pa_cons (pv 0) (pa_cons pe_int pa_nil)))) pa_nil)) (pg_name (i := 5) scWlk.nd rfl (.inl rfl))
        (pss_cons (ps_set (i := 6) scWlk.nd rfl (.inl rfl) (pe_call GD (hr.mono (by decide)) (by rfl) DD.g DD.F.kp DD.b .nil pass0 (pa_cons (pv 0) (pa_cons (pe_op op_sub (pe_callB call_len_str (by rfl) T.b_len (by decide +kernel) (pa_cons (pv 2) pa_nil)) pe_int) pa_nil))))
        (pss_cons (ps_par (i := 7) (j := 8) (by rfl) scWlk.nd rfl rfl (by decide) rfl rfl (pa_cons (pe_ix ix_str (pv 2) (pv 6) (fun _ _ => rfl)) (pa_cons (pe_ix ix_str (pv 2) (pe_op op_add (pv 6) pe_int) (fun _ _ => rfl)) pa_nil)) (by rfl))
        (pss_one (ps_if (pt_cmpR op_lt (pe_bmS PySem.F.plainAttrs_str PySem.F.slot_str_index PySem.F.type_str_index (mt_indexX rfl takes_never) (pv 3) (pa_cons (pv 7) pa_nil)) (pe_bmS PySem.F.plainAttrs_str PySem.F.slot_str_index PySem.F.type_str_index (mt_indexX rfl takes_never) (pv 3) (pa_cons (pv 8) pa_nil)) (nomark _))
          (pss_cons (ps_set (i := 2) scWlk.nd rfl (.inl rfl) (pe_op op_add_str (pe_op op_add_str (pe_op op_add_str (pe_slice sl_str (pv 2) po_none (po_some (pv 6))) (pv 8)) (pv 7)) (pe_slice sl_str (pv 2) (po_some (pe_op op_add (pv 6) pe_int)) po_none)))
          (pss_one (ps_if (pt_cmpR op_gt (pe_call GD (hr.mono (by decide)) (by rfl) DD.g DD.F.kp DD.b .nil pass0 (pa_cons (pv 0) (pa_cons pe_int pa_nil))) pe_int (nomark _)) (pss_one (ps_expr (pe_bm PySem.F.plainAttrs_list PySem.F.slot_list_append PySem.F.type_list_append mt_append (pv 4) (pa_cons (pv 2) pa_nil)))) pss_nil))) pss_nil)))))
      (pss_one (ps_ret (pv 4)))))), ?_⟩
    refine ⟨⟨_, rfl⟩, _, rfl, _, rfl, j, y, rfl, hj, hy, fun l2 z H1 k1 J1 n1 e1 pz => ?_⟩
    obtain ⟨sq, sz⟩ := join_sh (K := K) e1 (by rw [perm_size pz]; exact hy)
    refine ⟨_, l2, signs z, rfl, rfl, .inl sq, sz, ?_⟩
    rw [join_signs]
    refine ⟨_, rfl, _, rfl, (by show 1 ≤ sizeLine; decide), fun l H2 s2 nl el => ⟨_, _, rfl, ?_⟩⟩
    have J2 := J1.same s2
    have hjl : j ≠ l := by
      obtain ⟨_, _, _, e, _⟩ := J1
      exact ne_of_none e nl
    refine ⟨_, rfl, j, 12, rfl, J2, by decide, by decide, fun r H3 r0 r1 k3 J3 => ⟨_, _, rfl, rfl, ?_⟩⟩
    have el3 := k3 _ _ hjl.symm el
    have nl0 : H l = none := by
      cases e : H l with
      | none => rfl
      | some o => rw [k1 _ _ hjl.symm e] at nl; cases nl
    refine ⟨2 + r, rfl, by omega, by omega, for_range (lo := 0) (n := (2 + r).toNat) (fun i σ H' => ∃ (x : Str) (fs : List Str) (v5 v6 v7 v8 : Option V), σ = [some (.ref j), some (.str y), some (.str x), some (.str z), some (.ref l), v5, v6, v7, v8] ∧ H' l = some (.lst (fs.map V.str)) ∧ Jar H' j ∧ (∀ b o, b ≠ j → b ≠ l → H b = some o → H' b = some o) ∧ Kin fs y ∧ x.cps.toList.Perm y.cps.toList ∧ 0 < fs.length ∧ fs.length ≤ i + 1 ∧ (y.cps.toList.Nodup → ChnW z fs x))
      ⟨z, [z], _, _, _, _, rfl, el3, J3, fun b o h1 h2 e => k3 _ _ h1 (s2 _ _ (k1 _ _ h1 e)), (fun u hu => by rw [List.mem_singleton.mp hu]; exact pz), pz, by simp, by simp, fun _ => ChnW.one z⟩ (fun i σ H' hi hP => ?_) (fun σ H' hP => ?_)⟩
    · obtain ⟨x, fs, v5, v6, v7, v8, rfl, hl, hJ, hk, kin, px, f0, fn, chn⟩ := hP
      have xs := perm_size px
      have hx1 : x.length = x.cps.size := rfl
      have lim : ∀ {n : Nat}, n ≤ 1000 → n ≤ sizeLine := fun h => by rw [sizeLine_eq]; omega
      refine ⟨_, rfl, _, rfl, x, rfl, lim (by omega), _, _, rfl, rfl, j, _, rfl, hJ, by omega, by omega, fun a H4 a0 a1 k4 J4 => ?_⟩
      obtain ⟨an, rfl⟩ := Int.eq_ofNat_of_zero_le a0
      have ha : an + 1 < x.cps.size := by omega
      have xl : x.cps.toList.length = x.cps.size := Array.length_toList
      have g1 : atI x.cps.toList ((an : Int) + 1) = some (x.cps.toList[an + 1]'(by omega)) := atI_nat (j := an + 1) (List.getElem?_eq_getElem _)
      have g0 : atI x.cps.toList (an : Int) = some (x.cps.toList[an]'(by omega)) := atI_nat (List.getElem?_eq_getElem _)
      have hl4 := k4 _ _ hjl.symm hl
      have c0 : x.cps.toList[an]'(by omega) ∈ z.cps.toList := pz.mem_iff.mpr (px.mem_iff.mp (List.getElem_mem _))
      have c1 : x.cps.toList[an + 1]'(by omega) ∈ z.cps.toList := pz.mem_iff.mpr (px.mem_iff.mp (List.getElem_mem _))
      have eP := swap_perm x an ha
      have ex : x.cps.toList = x.cps.toList.take an ++ x.cps.toList[an]'(by omega) :: x.cps.toList[an + 1]'(by omega) :: x.cps.toList.drop (an + 2) := by
        have d1 := List.drop_eq_getElem_cons (l := x.cps.toList) (i := an) (by omega)
        have d2 := List.drop_eq_getElem_cons (l := x.cps.toList) (i := an + 1) (by omega)
        rw [← d2, ← d1, List.take_append_drop]
      generalize x.cps.toList[an + 1]'(by omega) = l1 at g1 c1 eP ex
      generalize x.cps.toList[an]'(by omega) = l0 at g0 c0 eP ex
      obtain ⟨i0, f0'⟩ := index0_in c0
      obtain ⟨i1, f1'⟩ := index0_in c1
      refine ⟨_, rfl, _, rfl, x, _, _, rfl, rfl, lim (by omega), g0, _, rfl, _, rfl, _, _, rfl, rfl, x, _, _, rfl, rfl, lim (by omega), g1, _, _, rfl, ?_⟩
      refine ⟨_, rfl, rfl, _, rfl, z, _, rfl, rfl, fun k hk0 => ?_, fun no => by rw [f0'] at no; cases no⟩
      refine ⟨_, rfl, rfl, _, rfl, z, _, rfl, rfl, fun k' hk' => ?_, fun no => by rw [f1'] at no; cases no⟩
      have le1 := cutS_length x none (some (an : Int))
      have le2 := cutS_length x (some ((an : Int) + 2)) none
      have o1 : (⟨#[l1]⟩ : Str).length = 1 := rfl
      have o0 : (⟨#[l0]⟩ : Str).length = 1 := rfl
      refine ⟨_, _, rfl, rfl, _, rfl, ite2 (fun e => ?_) (fun e => ?_)⟩
      · refine ⟨_, rfl, _, rfl, _, rfl, x, rfl, lim (by omega), _, rfl, _, _, rfl, rfl, lim (by omega), _, rfl, _, _, rfl, rfl, lim (by rw [len_app]; omega), ?_⟩
        refine ⟨_, rfl, _, rfl, _, _, rfl, rfl, _, rfl, x, rfl, lim (by omega), _, _, rfl, rfl, lim (by rw [len_app, len_app]; omega), ?_⟩
        have pN : (((cutS x none (some (an : Int)) ++ ⟨#[l1]⟩) ++ ⟨#[l0]⟩) ++ cutS x (some ((an : Int) + 2)) none).cps.toList.Perm y.cps.toList := by
          refine List.Perm.trans ?_ (eP.trans px)
          rw [app_cps, app_cps, app_cps, app_cps, app_cps, app_cps, List.append_assoc (cutS x none (some (an : Int))).cps.toList]
        have st : y.cps.toList.Nodup → LeW z x (((cutS x none (some (an : Int)) ++ ⟨#[l1]⟩) ++ ⟨#[l0]⟩) ++ cutS x (some ((an : Int) + 2)) none) := fun nd => by
          have ndz := pz.nodup_iff.mpr nd
          refine step_le (A := x.cps.toList.take an) (B := x.cps.toList.drop (an + 2)) (px.nodup_iff.mpr nd) ex ?_ ?_
          · rw [app_cps, app_cps, app_cps, cut_to, show ((an : Int) + 2) = ((an + 2 : Nat) : Int) by omega, cut_from]
            simp
          · have pos : ∀ {a i : Nat}, Txt.index0 z ⟨#[a]⟩ = some i → z.cps.toList.idxOf a = i := fun {a i} h => by
              obtain ⟨hi, e⟩ := List.getElem?_eq_some_iff.mp (index0_at h)
              rw [← e]
              exact ndz.idxOf_getElem i hi
            have e := of_decide_eq_true e
            unfold ahB
            rw [pos hk0, pos hk']
            exact decide_eq_true (by omega)
        generalize ((cutS x none (some (an : Int)) ++ ⟨#[l1]⟩) ++ ⟨#[l0]⟩) ++ cutS x (some ((an : Int) + 2)) none = x2 at pN st ⊢
        refine ⟨_, rfl, j, 3, rfl, J4, by decide, by decide, fun r5 H5 _ _ k5 J5 => ⟨_, _, rfl, rfl, _, rfl, ite2 (fun e5 => ?_) (fun e5 => ?_)⟩⟩
        · have hl5 := k5 _ _ hjl.symm hl4
          refine ⟨_, rfl, .inl ⟨rfl, _, SqL.of hl5⟩, _, rfl, l, _, _, rfl, rfl, hl5, by rw [List.length_map, sizeLine_eq]; omega, x2, fs ++ [x2], _, _, _, _, rfl, by rw [upd_same, List.map_append] <;> rfl, ?_, fun b o n1 n2 e => by rw [upd_ne n2]; exact k5 _ _ n1 (k4 _ _ n1 (hk b o n1 n2 e)), fun u hu => ?_, pN, by rw [List.length_append]; omega, by rw [List.length_append, List.length_singleton]; omega, fun nd => ((chn nd).go (st nd)).add⟩
          · obtain ⟨d, s, c, e, r⟩ := J5
            exact ⟨d, s, c, by rw [upd_ne hjl]; exact e, r⟩
          · rcases List.mem_append.mp hu with h | h
            · exact kin u h
            · rw [List.mem_singleton.mp h]; exact pN
        · exact ⟨x2, fs, _, _, _, _, rfl, k5 _ _ hjl.symm hl4, J5, fun b o n1 n2 e => k5 _ _ n1 (k4 _ _ n1 (hk b o n1 n2 e)), kin, pN, f0, by omega, fun nd => (chn nd).go (st nd)⟩
      · exact ⟨x, fs, _, _, _, _, rfl, hl4, J4, fun b o n1 n2 e => k4 _ _ n1 (hk b o n1 n2 e), kin, px, f0, by omega, chn⟩
    · obtain ⟨x, fs, v5, v6, v7, v8, rfl, hl, hJ, hk, kin, px, f0, fn, chn⟩ := hP
      exact ⟨_, rfl, q fs l _ (fun b o n e => hk b o n (fun z => by rw [z, nl0] at e; cases e) e) hJ nl0 hl kin f0 (by omega) fun nd => ⟨z, x, pz, chn nd⟩⟩
end
end L2.Cal
end

section
set_option maxRecDepth 100000
set_option maxHeartbeats 4000000
/-! all three of some signs, pure -/
namespace L2.Cal
open PySem PySem.Spec PyProof.Rows
theorem flat_le {α β : Type} {f : α → List β} {n : Nat} : ∀ l : List α, (∀ a ∈ l, (f a).length ≤ n) → (l.flatMap f).length ≤ l.length * n
  | [], _ => by simp
  | a :: l, h => by
    have := flat_le l fun x hx => h x (List.mem_cons_of_mem _ hx)
    have h1 := h a List.mem_cons_self
    rw [List.flatMap_cons, List.length_append, List.length_cons, Nat.succ_mul]
    omega
def s3 (a b c : Nat) : Str := ⟨#[a, b, c]⟩
/-- as the program walks: first, middle, last -/
def tri (cs : List Nat) : List Str := cs.flatMap fun a => cs.flatMap fun b => (cs.filter fun c => decide (a < b) && decide (b < c)).map fun c => s3 a b c
def row3 (cs : List Nat) (a b : Nat) : List Str := (cs.filter fun c => decide (a < b) && decide (b < c)).map fun c => s3 a b c
def row2 (cs : List Nat) (a : Nat) : List Str := cs.flatMap fun b => row3 cs a b
theorem tri_rows (cs : List Nat) : tri cs = cs.flatMap (row2 cs) := rfl
/-- as the law walks: first, last, middle -/
def tri2 (cs : List Nat) : List Str := cs.flatMap fun a => cs.flatMap fun c => (cs.filter fun b => decide (a < b) && decide (b < c)).map fun b => s3 a b c
theorem s3_inj {a b c a' b' c' : Nat} : s3 a b c = s3 a' b' c' ↔ a = a' ∧ b = b' ∧ c = c' := by simp [s3]
theorem mem_tri {cs : List Nat} {x : Str} : x ∈ tri cs ↔ ∃ a b c, a ∈ cs ∧ b ∈ cs ∧ c ∈ cs ∧ a < b ∧ b < c ∧ x = s3 a b c := by
  simp only [tri, List.mem_flatMap, List.mem_map, List.mem_filter, Bool.and_eq_true, decide_eq_true_eq]
  constructor
  · rintro ⟨a, ha, b, hb, c, ⟨hc, h1, h2⟩, rfl⟩
    exact ⟨a, b, c, ha, hb, hc, h1, h2, rfl⟩
  · rintro ⟨a, b, c, ha, hb, hc, h1, h2, rfl⟩
    exact ⟨a, ha, b, hb, c, ⟨hc, h1, h2⟩, rfl⟩
theorem mem_tri2 {cs : List Nat} {x : Str} : x ∈ tri2 cs ↔ x ∈ tri cs := by
  rw [mem_tri]
  simp only [tri2, List.mem_flatMap, List.mem_map, List.mem_filter, Bool.and_eq_true, decide_eq_true_eq]
  constructor
  · rintro ⟨a, ha, c, hc, b, ⟨hb, h1, h2⟩, rfl⟩
    exact ⟨a, b, c, ha, hb, hc, h1, h2, rfl⟩
  · rintro ⟨a, b, c, ha, hb, hc, h1, h2, rfl⟩
    exact ⟨a, ha, c, hc, b, ⟨hb, h1, h2⟩, rfl⟩
/-- x is below y -/
def Lo (x y : Str) : Prop := ltCps x.cps.toList y.cps.toList = true
theorem lo_s3 {a b c a' b' c' : Nat} : Lo (s3 a b c) (s3 a' b' c') ↔ a < a' ∨ a = a' ∧ (b < b' ∨ b = b' ∧ c < c') := by simp [Lo, s3, ltCps]
theorem tri_up {cs : List Nat} (h : cs.Pairwise (· < ·)) : (tri cs).Pairwise Lo := by
  unfold tri
  refine List.pairwise_flatMap.mpr ⟨fun a ha => List.pairwise_flatMap.mpr ⟨fun b hb => List.pairwise_map.mpr ((h.filter _).imp fun {c c'} e => lo_s3.mpr (.inr ⟨rfl, .inr ⟨rfl, e⟩⟩)), h.imp fun {b b'} e x hx y hy => ?_⟩, h.imp fun {a a'} e x hx y hy => ?_⟩
  · obtain ⟨c, _, rfl⟩ := List.mem_map.mp hx
    obtain ⟨c', _, rfl⟩ := List.mem_map.mp hy
    exact lo_s3.mpr (.inr ⟨rfl, .inl e⟩)
  · obtain ⟨b, _, hx⟩ := List.mem_flatMap.mp hx
    obtain ⟨b', _, hy⟩ := List.mem_flatMap.mp hy
    obtain ⟨c, _, rfl⟩ := List.mem_map.mp hx
    obtain ⟨c', _, rfl⟩ := List.mem_map.mp hy
    exact lo_s3.mpr (.inl e)
theorem tri2_nodup {cs : List Nat} (h : cs.Nodup) : (tri2 cs).Nodup := by
  unfold tri2
  refine List.pairwise_flatMap.mpr ⟨fun a ha => List.pairwise_flatMap.mpr ⟨fun b hb => List.pairwise_map.mpr ((h.filter _).imp fun {c c'} e => fun z => e (s3_inj.mp z).2.1), h.imp fun {b b'} e x hx y hy => ?_⟩, h.imp fun {a a'} e x hx y hy => ?_⟩
  · obtain ⟨c, _, rfl⟩ := List.mem_map.mp hx
    obtain ⟨c', _, rfl⟩ := List.mem_map.mp hy
    exact fun z => e (s3_inj.mp z).2.2
  · obtain ⟨b, _, hx⟩ := List.mem_flatMap.mp hx
    obtain ⟨b', _, hy⟩ := List.mem_flatMap.mp hy
    obtain ⟨c, _, rfl⟩ := List.mem_map.mp hx
    obtain ⟨c', _, rfl⟩ := List.mem_map.mp hy
    exact fun z => e (s3_inj.mp z).1
theorem lo_irrefl : ∀ l : List Nat, ltCps l l = false
  | [] => rfl
  | a :: r => by simp [ltCps, lo_irrefl r]
theorem lo_trans : ∀ a b c : List Nat, ltCps a b = true → ltCps b c = true → ltCps a c = true
  | [], [], _, h, _ => by simp [ltCps] at h
  | [], _ :: _, [], _, h => by simp [ltCps] at h
  | [], _ :: _, _ :: _, _, _ => rfl
  | _ :: _, [], _, h, _ => by simp [ltCps] at h
  | _ :: _, _ :: _, [], _, h => by simp [ltCps] at h
  | x :: r, y :: t, z :: u, h1, h2 => by
    simp only [ltCps, Bool.or_eq_true, decide_eq_true_eq, Bool.and_eq_true, beq_iff_eq] at h1 h2 ⊢
    rcases h1 with h1 | ⟨rfl, h1⟩
    · rcases h2 with h2 | ⟨rfl, h2⟩
      · exact .inl (Nat.lt_trans h1 h2)
      · exact .inl h1
    · rcases h2 with h2 | ⟨rfl, h2⟩
      · exact .inl h2
      · exact .inr ⟨rfl, lo_trans r t u h1 h2⟩
theorem lo_conn : ∀ a b : List Nat, ltCps a b = false → ltCps b a = false → a = b
  | [], [], _, _ => rfl
  | [], b :: t, h, _ => by simp [ltCps] at h
  | a :: r, [], _, h => by simp [ltCps] at h
  | a :: r, b :: t, h1, h2 => by
    simp only [ltCps, Bool.or_eq_false_iff, Bool.and_eq_false_imp, decide_eq_false_iff_not, beq_iff_eq] at h1 h2
    have e : a = b := by omega
    subst e
    rw [lo_conn r t (h1.2 rfl) (h2.2 rfl)]
/-- not above -/
def Le (x y : Str) : Prop := ltCps y.cps.toList x.cps.toList = false
theorem Lo.le {x y : Str} (h : Lo x y) : Le x y := by
  unfold Le
  cases e : ltCps y.cps.toList x.cps.toList with
  | false => rfl
  | true =>
    have := lo_trans _ _ _ h e
    rw [lo_irrefl] at this
    cases this
theorem le_trans {x y z : Str} (h1 : Le x y) (h2 : Le y z) : Le x z := by
  unfold Le at *
  cases e : ltCps z.cps.toList x.cps.toList with
  | false => rfl
  | true =>
    cases e2 : ltCps x.cps.toList y.cps.toList with
    | true =>
      have := lo_trans _ _ _ e e2
      rw [h2] at this
      cases this
    | false =>
      have := lo_conn _ _ e2 h1
      rw [this, h2] at e
      cases e
theorem le_eq {x y : Str} (h1 : Le x y) (h2 : Le y x) : x = y := by
  cases x
  cases y
  exact congrArg Str.mk (Array.toList_inj.mp (lo_conn _ _ h2 h1))
theorem up_rising : ∀ (r : List Str) (p : Str), risingS p r = true → (p :: r).Pairwise Le
  | [], p, _ => List.pairwise_singleton _ _
  | x :: r, p, h => by
    simp only [risingS, Bool.and_eq_true, Bool.not_eq_true'] at h
    have ih := up_rising r x h.2
    refine List.pairwise_cons.mpr ⟨fun y hy => ?_, ih⟩
    rcases List.mem_cons.mp hy with rfl | hy
    · exact h.1
    · exact le_trans (y := x) h.1 ((List.pairwise_cons.mp ih).1 y hy)
theorem up_sorted {ys : List Str} (h : sortedS ys = true) : ys.Pairwise Le := by
  cases ys with
  | nil => exact .nil
  | cons x r => exact up_rising r x h
/-- the one sorted row -/
theorem sorted_is {ys xs : List Str} (p : ys.Perm xs) (s : sortedS ys = true) (u : xs.Pairwise Lo) : ys = xs :=
  List.Perm.eq_of_pairwise (fun a b _ _ h1 h2 => le_eq h1 h2) (up_sorted s) (u.imp Lo.le) p
theorem tri_sorted {cs : List Nat} {ys : List Str} (h : cs.Pairwise (· < ·)) (p : ys.Perm (tri2 cs)) (s : sortedS ys = true) : ys = tri cs := by
  have n : cs.Nodup := h.imp fun e => Nat.ne_of_lt e
  have n1 : (tri cs).Nodup := (tri_up h).imp fun {x y} e z => by
    subst z
    unfold Lo at e
    rw [lo_irrefl] at e
    cases e
  exact sorted_is (p.trans ((List.perm_ext_iff_of_nodup (tri2_nodup n) n1).mpr fun x => mem_tri2)) s (tri_up h)
theorem tri2_map (f : Nat → Nat) (l : List Nat) (h : ∀ a ∈ l, ∀ b ∈ l, (f a < f b ↔ a < b)) : (tri2 (l.map f)).length = (tri2 l).length := by
  unfold tri2
  rw [List.flatMap_map, List.length_flatMap, List.length_flatMap]
  refine congrArg List.sum (List.map_congr_left fun a ha => ?_)
  rw [List.flatMap_map, List.length_flatMap, List.length_flatMap]
  refine congrArg List.sum (List.map_congr_left fun c hc => ?_)
  rw [List.length_map, List.length_map, List.filter_map, List.length_map]
  refine congrArg List.length (List.filter_congr fun b hb => ?_)
  show (decide (f a < f b) && decide (f b < f c)) = (decide (a < b) && decide (b < c))
  rw [decide_eq_decide.mpr (h a ha b hb), decide_eq_decide.mpr (h b hb c hc)]
theorem tri2_few {cs : List Nat} (h : cs.Pairwise (· < ·)) (n : cs.length ≤ 6) : (tri2 cs).length ≤ 20 := by
  have e : cs = (List.range cs.length).map fun i => cs.getD i 0 := by
    refine List.ext_getElem (by simp) fun i h1 h2 => ?_
    simp [h1]
  have mono : ∀ a ∈ List.range cs.length, ∀ b ∈ List.range cs.length, (cs.getD a 0 < cs.getD b 0 ↔ a < b) := fun a ha b hb => by
    have ha := List.mem_range.mp ha
    have hb := List.mem_range.mp hb
    have q := List.pairwise_iff_getElem.mp h
    rw [List.getD_eq_getElem?_getD, List.getD_eq_getElem?_getD, List.getElem?_eq_getElem ha, List.getElem?_eq_getElem hb]
    simp only [Option.getD_some]
    constructor
    · intro lt
      by_cases c : a < b
      · exact c
      · by_cases d : a = b
        · subst d; omega
        · have := q b a hb ha (by omega)
          omega
    · exact fun lt => q a b ha hb lt
  rw [e, tri2_map _ _ mono]
  have all : ∀ n, n ≤ 6 → (tri2 (List.range n)).length ≤ 20 := by decide +kernel
  exact all _ n
theorem row3_take {cs : List Nat} {a b c k : Nat} (h : cs[k]? = some c) : ((cs.take (k + 1)).filter fun c => decide (a < b) && decide (b < c)).map (s3 a b) = ((cs.take k).filter fun c => decide (a < b) && decide (b < c)).map (s3 a b) ++ if decide (a < b) && decide (b < c) then [s3 a b c] else [] := by
  rw [List.take_succ, h, Option.toList_some, List.filter_append, List.map_append]
  congr 1
  cases e : (decide (a < b) && decide (b < c)) <;> simp [List.filter, e]
theorem flat_take {α β : Type} {f : α → List β} {l : List α} {a : α} {k : Nat} (h : l[k]? = some a) : (l.take (k + 1)).flatMap f = (l.take k).flatMap f ++ f a := by
  rw [List.take_succ, h, Option.toList_some, List.flatMap_append]
  simp
theorem row3_len (cs : List Nat) (a b : Nat) : (row3 cs a b).length ≤ cs.length := by
  unfold row3
  rw [List.length_map]
  exact List.length_filter_le _ _
theorem row2_len (cs : List Nat) (a : Nat) : (row2 cs a).length ≤ cs.length * cs.length := flat_le _ fun b _ => row3_len cs a b
def col3 (cs : List Nat) (a c : Nat) : List Str := (cs.filter fun b => decide (a < b) && decide (b < c)).map fun b => s3 a b c
def col2 (cs : List Nat) (a : Nat) : List Str := cs.flatMap fun c => col3 cs a c
theorem tri_cols (cs : List Nat) : tri2 cs = cs.flatMap (col2 cs) := rfl
theorem col3_take {cs : List Nat} {a b c k : Nat} (h : cs[k]? = some b) : ((cs.take (k + 1)).filter fun b => decide (a < b) && decide (b < c)).map (fun b => s3 a b c) = ((cs.take k).filter fun b => decide (a < b) && decide (b < c)).map (fun b => s3 a b c) ++ if decide (a < b) && decide (b < c) then [s3 a b c] else [] := by
  rw [List.take_succ, h, Option.toList_some, List.filter_append, List.map_append]
  congr 1
  cases e : (decide (a < b) && decide (b < c)) <;> simp [List.filter, e]
theorem col3_len (cs : List Nat) (a c : Nat) : (col3 cs a c).length ≤ cs.length := by
  unfold col3
  rw [List.length_map]
  exact List.length_filter_le _ _
theorem col2_len (cs : List Nat) (a : Nat) : (col2 cs a).length ≤ cs.length * cs.length := flat_le _ fun c _ => col3_len cs a c
end L2.Cal
end

section
set_option maxRecDepth 100000
set_option maxHeartbeats 4000000
/-! rows of two texts in a list; the words that grow from the ends of a line -/
namespace L2.Cal
open PySem PySem.Spec PyProof.Rows L2
inductive PairsAt (H : Hp) : List V → List (Str × Str) → Prop where
  | nil : PairsAt H [] []
  | cons {a : Addr} {x y : Str} {vs : List V} {rs : List (Str × Str)} (e : H a = some (.lst [.str x, .str y])) (r : PairsAt H vs rs) : PairsAt H (.ref a :: vs) ((x, y) :: rs)
theorem PairsAt.same {H H' : Hp} (s : Same H H') : ∀ {vs : List V} {rs : List (Str × Str)}, PairsAt H vs rs → PairsAt H' vs rs
  | _, _, .nil => .nil
  | _, _, .cons e r => .cons (s _ _ e) (r.same s)
theorem PairsAt.app {H : Hp} : ∀ {vs ws : List V} {rs qs : List (Str × Str)}, PairsAt H vs rs → PairsAt H ws qs → PairsAt H (vs ++ ws) (rs ++ qs)
  | _, _, _, _, .nil, h => h
  | _, _, _, _, .cons e r, h => .cons e (r.app h)
theorem PairsAt.len {H : Hp} : ∀ {vs : List V} {rs : List (Str × Str)}, PairsAt H vs rs → vs.length = rs.length
  | _, _, .nil => rfl
  | _, _, .cons _ r => congrArg (· + 1) r.len
theorem PairsAt.at_ {H : Hp} : ∀ {vs : List V} {rs : List (Str × Str)} {k : Nat} {v : V}, PairsAt H vs rs → vs[k]? = some v → ∃ a r, v = .ref a ∧ rs[k]? = some r ∧ H a = some (.lst [.str r.1, .str r.2])
  | _, _, _, _, .nil, h => by simp at h
  | _, _, 0, _, .cons e r, h => ⟨_, _, (Option.some.inj h).symm, rfl, e⟩
  | _, _, k + 1, _, .cons e r, h => r.at_ (k := k) h
/-- a word grows by the first, by the last sign of what is left -/
def pkOf (r : Str × Str) : List (Str × Str) := [((⟨#[r.2.cps.toList.getD 0 0]⟩ : Str) ++ r.1, cutS r.2 (some 1) none), ((⟨#[r.2.cps.toList.getD (r.2.cps.toList.length - 1) 0]⟩ : Str) ++ r.1, cutS r.2 none (some (-1)))]
/-- the rows behind i turns over the line y -/
structure Pk (y : Str) (i : Nat) (rs : List (Str × Str)) : Prop where
  nd : (rs.map Prod.fst).Nodup
  left : ∀ r ∈ rs, r.2.cps.toList.length + i = y.cps.toList.length
  pm : ∀ r ∈ rs, (r.1.cps.toList ++ r.2.cps.toList).Perm y.cps.toList
  len : rs.length = 2 ^ i
theorem cut_tail (z : Str) : (cutS z (some 1) none).cps.toList = z.cps.toList.drop 1 := by
  have l : z.cps.toList.length = z.length := Array.length_toList
  unfold cutS
  rw [HT.sIx_none, show HT.sIx z.length 0 (some 1) = min 1 z.length from HT.sIx_nat _ _ 1, List.toList_toArray]
  refine (List.take_of_length_le ?_).trans ?_
  · rw [List.length_drop, l]; omega
  · rcases Nat.eq_zero_or_pos z.length with h | h
    · rw [h]
      have e : z.cps.toList = [] := List.length_eq_zero_iff.mp (by rw [l, h])
      rw [e] <;> simp
    · rw [Nat.min_eq_left h]
theorem cut_init (z : Str) : (cutS z none (some (-1))).cps.toList = z.cps.toList.take (z.cps.toList.length - 1) := by
  have l : z.cps.toList.length = z.length := Array.length_toList
  have e : HT.sIx z.length z.length (some (-1)) = z.length - 1 := by
    unfold HT.sIx
    simp only
    split <;> omega
  unfold cutS
  rw [HT.sIx_none, e, List.toList_toArray, List.drop_zero, l, Nat.sub_zero]
theorem pk_start (y : Str) : Pk y 0 [("", y)] :=
  ⟨by simp, fun r hr => by rw [List.mem_singleton.mp hr]; rfl, fun r hr => by rw [List.mem_singleton.mp hr]; exact List.Perm.refl _, rfl⟩
theorem lsign (c : Nat) (w : Str) : ((⟨#[c]⟩ : Str) ++ w).cps.toList = c :: w.cps.toList := app_cps _ _
theorem pk_nodup : ∀ {rs : List (Str × Str)}, (∀ r ∈ rs, r.2.cps.toList.getD 0 0 ≠ r.2.cps.toList.getD (r.2.cps.toList.length - 1) 0) → (rs.map Prod.fst).Nodup → ((rs.flatMap pkOf).map Prod.fst).Nodup
  | [], _, _ => by simp
  | r :: rs, h, nd => by
    rw [List.map_cons, List.nodup_cons] at nd
    have ih := pk_nodup (rs := rs) (fun q hq => h q (List.mem_cons_of_mem _ hq)) nd.2
    have out : ∀ c, (⟨#[c]⟩ : Str) ++ r.1 ∉ (rs.flatMap pkOf).map Prod.fst := fun c hc => by
      obtain ⟨q, hq, e⟩ := List.mem_map.mp hc
      obtain ⟨u, hu, hq⟩ := List.mem_flatMap.mp hq
      have tl : ∃ d, q.1 = (⟨#[d]⟩ : Str) ++ u.1 := by
        unfold pkOf at hq
        rcases List.mem_cons.mp hq with z | z
        · exact ⟨_, by rw [z]⟩
        · exact ⟨_, by rw [List.mem_singleton.mp z]⟩
      obtain ⟨d, ed⟩ := tl
      rw [ed] at e
      have e2 := congrArg (fun s : Str => s.cps.toList) e
      simp only [lsign] at e2
      have e3 : u.1 = r.1 := by
        have := (List.cons.inj e2).2
        cases hu1 : u.1 with | mk a => cases hr1 : r.1 with | mk b =>
        rw [hu1, hr1] at this
        exact congrArg Str.mk (Array.toList_inj.mp this)
      exact nd.1 (List.mem_map.mpr ⟨u, hu, e3⟩)
    rw [List.flatMap_cons, List.map_append]
    show (((⟨#[r.2.cps.toList.getD 0 0]⟩ : Str) ++ r.1) :: ((⟨#[r.2.cps.toList.getD (r.2.cps.toList.length - 1) 0]⟩ : Str) ++ r.1) :: (rs.flatMap pkOf).map Prod.fst).Nodup
    rw [List.nodup_cons, List.nodup_cons]
    refine ⟨fun z => ?_, out _, ih⟩
    rcases List.mem_cons.mp z with z | z
    · have e2 := congrArg (fun s : Str => s.cps.toList) z
      simp only [lsign] at e2
      exact h r List.mem_cons_self (List.cons.inj e2).1
    · exact out _ z
theorem pk_step {y : Str} {i : Nat} {rs : List (Str × Str)} (ly : y.cps.toList.Nodup) (h : Pk y i rs) (hi : i + 1 < y.cps.toList.length) : Pk y (i + 1) (rs.flatMap pkOf) := by
  have big : ∀ r ∈ rs, 2 ≤ r.2.cps.toList.length := fun r hr => by have := h.left r hr; omega
  have nl : ∀ r ∈ rs, r.2.cps.toList.Nodup := fun r hr => (List.nodup_append.mp ((h.pm r hr).nodup_iff.mpr ly)).2.1
  have fl : ∀ r ∈ rs, r.2.cps.toList.getD 0 0 ≠ r.2.cps.toList.getD (r.2.cps.toList.length - 1) 0 := fun r hr e => by
    have b := big r hr
    have n := List.pairwise_iff_getElem.mp (nl r hr) 0 (r.2.cps.toList.length - 1) (by omega) (by omega) (by omega)
    rw [List.getD_eq_getElem?_getD, List.getElem?_eq_getElem (by omega), List.getD_eq_getElem?_getD, List.getElem?_eq_getElem (by omega)] at e
    exact n e
  refine ⟨pk_nodup fl h.nd, fun q hq => ?_, fun q hq => ?_, ?_⟩
  · obtain ⟨r, hr, hq⟩ := List.mem_flatMap.mp hq
    have b := big r hr
    have l := h.left r hr
    unfold pkOf at hq
    rcases List.mem_cons.mp hq with z | z
    · rw [z, cut_tail, List.length_drop]; omega
    · rw [List.mem_singleton.mp z, cut_init, List.length_take]; omega
  · obtain ⟨r, hr, hq⟩ := List.mem_flatMap.mp hq
    have b := big r hr
    refine List.Perm.trans ?_ (h.pm r hr)
    unfold pkOf at hq
    rcases List.mem_cons.mp hq with z | z
    · rw [z]
      simp only [lsign, cut_tail]
      cases e : r.2.cps.toList with
      | nil => rw [e] at b; simp at b
      | cons c l => exact List.perm_middle.symm
    · rw [List.mem_singleton.mp z]
      simp only [lsign, cut_init]
      have ne : r.2.cps.toList ≠ [] := fun z => by rw [z] at b; simp at b
      have e := List.dropLast_concat_getLast ne
      have el : r.2.cps.toList.getD (r.2.cps.toList.length - 1) 0 = r.2.cps.toList.getLast ne := by
        rw [List.getD_eq_getElem?_getD, List.getLast_eq_getElem, List.getElem?_eq_getElem (by omega)] <;> rfl
      rw [el, ← List.dropLast_eq_take]
      generalize r.2.cps.toList.getLast ne = g at e
      rw [← e, ← List.append_assoc, List.dropLast_concat]
      exact (List.perm_append_singleton g _).symm
  · have : ∀ l : List (Str × Str), (l.flatMap pkOf).length = 2 * l.length := fun l => by
      induction l with
      | nil => rfl
      | cons a l ih => rw [List.flatMap_cons, List.length_append, ih, List.length_cons]; show 2 + _ = _; omega
    rw [this, h.len, Nat.pow_succ]
    omega
theorem one_left {a b u v : Str} (ha : a.cps.toList.length = 1) (hb : b.cps.toList.length = 1) (e : a ++ u = b ++ v) : u = v := by
  have e2 := congrArg (fun s : Str => s.cps.toList.drop 1) e
  simp only [app_cps] at e2
  rw [List.drop_append_of_le_length (by omega), List.drop_append_of_le_length (by omega), List.drop_of_length_le (by omega), List.drop_of_length_le (by omega), List.nil_append, List.nil_append] at e2
  cases u with | mk a => cases v with | mk b => exact congrArg Str.mk (Array.toList_inj.mp e2)
theorem ends_nodup : ∀ {rs : List (Str × Str)}, (∀ r ∈ rs, r.2.cps.toList.length = 1) → (rs.map Prod.fst).Nodup → (rs.map fun r => r.2 ++ r.1).Nodup
  | [], _, _ => by simp
  | r :: rs, h, nd => by
    rw [List.map_cons, List.nodup_cons] at nd ⊢
    refine ⟨fun z => ?_, ends_nodup (rs := rs) (fun q hq => h q (List.mem_cons_of_mem _ hq)) nd.2⟩
    obtain ⟨q, hq, e⟩ := List.mem_map.mp z
    exact nd.1 (List.mem_map.mpr ⟨q, hq, one_left (h q (List.mem_cons_of_mem _ hq)) (h r List.mem_cons_self) e⟩)
theorem pk_end {y : Str} {i : Nat} {rs : List (Str × Str)} (h : Pk y i rs) (hi : i + 1 = y.cps.toList.length) : (rs.map fun r => r.2 ++ r.1).Nodup ∧ (∀ z ∈ rs.map fun r => r.2 ++ r.1, z.cps.toList.Perm y.cps.toList) := by
  refine ⟨ends_nodup (fun r hr => by have := h.left r hr; omega) h.nd, fun z hz => ?_⟩
  obtain ⟨r, hr, rfl⟩ := List.mem_map.mp hz
  rw [app_cps]
  exact List.perm_append_comm.trans (h.pm r hr)
end L2.Cal
end

section
set_option maxRecDepth 100000
set_option maxHeartbeats 4000000
/-! wheels and places, pure -/
namespace L2.Cal
open PySem PySem.Spec PyProof.Rows L2
def W1 (a b c : Nat) : List Str := [s3 a b c, s3 b c a, s3 c a b]
def W2 (a b c : Nat) : List Str := [s3 c b a, s3 a c b, s3 b a c]
def six (a b c : Nat) : List Str := W1 a b c ++ W2 a b c
structure Apart (a b c : Nat) : Prop where
  ab : a ≠ b
  ac : a ≠ c
  bc : b ≠ c
theorem six_of {a b c : Nat} {z : Str} (d : Apart a b c) (p : z.cps.toList.Perm [a, b, c]) : z ∈ six a b c := by
  obtain ⟨⟨l⟩⟩ := z
  have p : l.Perm [a, b, c] := p
  obtain ⟨ab, ac, bc⟩ := d
  have n : l.Nodup := p.nodup_iff.mpr (by simp [ab, ac, bc])
  have len := p.length_eq
  match l, len with
  | [u, v, w], _ =>
    have hu := p.mem_iff.mp (show u ∈ [u, v, w] by simp)
    have hv := p.mem_iff.mp (show v ∈ [u, v, w] by simp)
    have hw := p.mem_iff.mp (show w ∈ [u, v, w] by simp)
    simp only [List.mem_cons, List.not_mem_nil, or_false] at hu hv hw
    simp only [List.nodup_cons, List.mem_cons, List.not_mem_nil, or_false, not_or, not_false_eq_true, List.nodup_nil, and_true] at n
    have e : (⟨#[u, v, w]⟩ : Str) = s3 u v w := rfl
    show (⟨#[u, v, w]⟩ : Str) ∈ _
    rw [e]
    obtain ⟨⟨n1, n2⟩, n3⟩ := n
    rcases hu with rfl | rfl | rfl <;> rcases hv with rfl | rfl | rfl <;> rcases hw with rfl | rfl | rfl <;> first | exact absurd rfl n1 | exact absurd rfl n2 | exact absurd rfl n3 | simp [six, W1, W2]
theorem all_six {a b c : Nat} {M : List Str} (h : ∀ m ∈ M, m ∈ six a b c) (f : Str → Bool) : M.all f = (six a b c).all fun s => !(decide (s ∈ M)) || f s := by
  rw [Bool.eq_iff_iff]
  simp only [List.all_eq_true, Bool.or_eq_true, Bool.not_eq_true', decide_eq_false_iff_not]
  constructor
  · intro H s hs
    by_cases m : s ∈ M
    · exact .inr (H s m)
    · exact .inl m
  · intro H m hm
    exact (H m (h m hm)).resolve_left fun z => z hm
/-- the sign at a place -/
def atP (m : Str) (p : Nat) : Str := ⟨#[m.cps.getD p 0]⟩
def posOf : List (Str × Nat) := [("first", 0), ("last", 2), ("middle", 1)]
def spotsOf (M : List Str) (t : Str) : List (Str × Str) := (posOf.filter fun q => M.all fun m => !decide (atP m q.2 = t)).map fun q => (t, q.1)
def placesL (M : List Str) (x : Str) : List (Str × Str) := (signs x).flatMap (spotsOf M)
theorem no_place {a b c : Nat} {M : List Str} (d : Apart a b c) (h : ∀ m ∈ M, m ∈ six a b c) : placesL M (s3 a b c) = [] ↔ ((W1 a b c).all fun e => decide (e ∈ M)) = true ∨ ((W2 a b c).all fun e => decide (e ∈ M)) = true := by
  have k : ∀ (t p : Nat), (M.all fun m => !decide (atP m p = ⟨#[t]⟩)) = (six a b c).all fun s => !(decide (s ∈ M)) || !decide (s.cps.getD p 0 = t) := fun t p => by
    rw [all_six h]
    refine congrArg (List.all _) (funext fun s => ?_)
    have : decide (atP s p = ⟨#[t]⟩) = decide (s.cps.getD p 0 = t) := by
      rw [decide_eq_decide]
      simp [atP]
    rw [this]
  obtain ⟨ab, ac, bc⟩ := d
  have ba := ab.symm
  have ca := ac.symm
  have cb := bc.symm
  have g0 : ∀ u v w : Nat, (s3 u v w).cps.getD 0 0 = u := fun _ _ _ => rfl
  have g1 : ∀ u v w : Nat, (s3 u v w).cps.getD 1 0 = v := fun _ _ _ => rfl
  have g2 : ∀ u v w : Nat, (s3 u v w).cps.getD 2 0 = w := fun _ _ _ => rfl
  have sg : signs (s3 a b c) = [⟨#[a]⟩, ⟨#[b]⟩, ⟨#[c]⟩] := rfl
  unfold placesL spotsOf
  rw [sg]
  simp only [List.flatMap_cons, List.flatMap_nil, List.append_eq_nil_iff, List.map_eq_nil_iff, posOf, List.filter_eq_nil_iff, List.mem_cons, List.not_mem_nil, or_false, forall_eq_or_imp, forall_eq, and_true, k, six, W1, W2, List.cons_append, List.nil_append, List.all_cons, List.all_nil, g0, g1, g2,
    decide_true, decide_eq_false ab, decide_eq_false ac, decide_eq_false bc, decide_eq_false ba, decide_eq_false ca, decide_eq_false cb, Bool.not_true, Bool.not_false, Bool.or_false, Bool.or_true, Bool.and_true, Bool.true_and]
  generalize decide (s3 a b c ∈ M) = p1
  generalize decide (s3 b c a ∈ M) = p2
  generalize decide (s3 c a b ∈ M) = p3
  generalize decide (s3 c b a ∈ M) = p4
  generalize decide (s3 a c b ∈ M) = p5
  generalize decide (s3 b a c ∈ M) = p6
  revert p1 p2 p3 p4 p5 p6
  decide
/-! ### the orders that are found -/
def has (pr : Str → Str) (ys : List Str) (e : Str) : Bool := (ys.find? fun z => decide (pr z = e)).isSome
def firstOf (pr : Str → Str) (ys : List Str) (e : Str) : Str := (ys.find? fun z => decide (pr z = e)).getD ⟨#[]⟩
theorem has_map {pr : Str → Str} {ys : List Str} {e : Str} : has pr ys e = decide (e ∈ ys.map pr) := by
  unfold has
  rw [Bool.eq_iff_iff, List.find?_isSome, decide_eq_true_eq, List.mem_map]
  simp only [decide_eq_true_eq]
theorem first_is {pr : Str → Str} {ys : List Str} {e : Str} (h : has pr ys e = true) : firstOf pr ys e ∈ ys ∧ pr (firstOf pr ys e) = e := by
  unfold has at h
  unfold firstOf
  cases q : ys.find? fun z => decide (pr z = e) with
  | none => rw [q] at h; cases h
  | some z =>
    have h2 := List.find?_some q
    exact ⟨List.mem_of_find?_eq_some q, of_decide_eq_true h2⟩
/-- in order -/
def srt (l : List Str) : List Str := l.mergeSort fun a b => !ltCps b.cps.toList a.cps.toList
theorem srt_perm (l : List Str) : (srt l).Perm l := List.mergeSort_perm _ _
theorem srt_up (l : List Str) : (srt l).Pairwise Le := by
  have := List.pairwise_mergeSort (le := fun a b : Str => !ltCps b.cps.toList a.cps.toList) (fun a b c h1 h2 => by
    rw [Bool.not_eq_true'] at h1 h2 ⊢
    exact le_trans (x := a) (y := b) (z := c) h1 h2) (fun a b => by
    cases e : ltCps b.cps.toList a.cps.toList with
    | false => simp
    | true =>
      have : ltCps a.cps.toList b.cps.toList = false := Lo.le (x := b) (y := a) e
      simp [this]) l
  exact this.imp fun h => by
    rw [Bool.not_eq_true'] at h
    exact h
theorem srt_is {ys l : List Str} (p : ys.Perm l) (s : sortedS ys = true) : ys = srt l :=
  List.Perm.eq_of_pairwise (fun a b _ _ h1 h2 => le_eq h1 h2) (up_sorted s) (srt_up l) (p.trans (srt_perm l).symm)
theorem lo_of {x y : Str} (h : Le x y) (n : x ≠ y) : Lo x y := by
  unfold Lo
  cases e : ltCps x.cps.toList y.cps.toList with
  | true => rfl
  | false => exact absurd (le_eq h e) n
theorem climbs_lo : ∀ ys : List Str, Climbs ys → ys.Pairwise Lo
  | [], _ => .nil
  | [a], _ => List.pairwise_singleton _ _
  | a :: b :: r, h => by
    have ih := climbs_lo (b :: r) h.2
    refine List.pairwise_cons.mpr ⟨fun y hy => ?_, ih⟩
    rcases List.mem_cons.mp hy with rfl | hy
    · exact h.1
    · exact lo_trans _ _ _ h.1 ((List.pairwise_cons.mp ih).1 y hy)
/-- what is told of a wheel -/
def wheelR (pr : Str → Str) (ys : List Str) (a b c : Nat) : Option (List Str) :=
  if (W1 a b c).all (has pr ys) = true then some (srt ((W1 a b c).map (firstOf pr ys))) else if (W2 a b c).all (has pr ys) = true then some (srt ((W2 a b c).map (firstOf pr ys))) else none
theorem wheel_none {pr : Str → Str} {ys : List Str} {a b c : Nat} (d : Apart a b c) (h : ∀ z ∈ ys, pr z ∈ six a b c) : wheelR pr ys a b c = none ↔ placesL (ys.map pr) (s3 a b c) ≠ [] := by
  rw [ne_eq, no_place d (fun m hm => by obtain ⟨z, hz, rfl⟩ := List.mem_map.mp hm; exact h z hz)]
  have e : ∀ W : List Str, W.all (has pr ys) = W.all fun e => decide (e ∈ ys.map pr) := fun W => congrArg (List.all W) (funext fun e => has_map)
  unfold wheelR
  rw [e, e]
  generalize ((W1 a b c).all fun e => decide (e ∈ ys.map pr)) = p
  generalize ((W2 a b c).all fun e => decide (e ∈ ys.map pr)) = q
  cases p <;> cases q <;> simp
/-- a wheel that is told is one -/
structure IsWheel (pr : Str → Str) (ys zs : List Str) : Prop where
  three : zs.length = 3
  up : zs.Pairwise Lo
  sub : ∀ z, z ∈ zs → z ∈ ys
  each : ∀ p, p < 3 → ((zs.map pr).map fun m => atP m p).Nodup
  size : ∀ z, z ∈ zs → (pr z).cps.size = 3
theorem wheel_is {pr : Str → Str} {ys zs : List Str} {a b c : Nat} (d : Apart a b c) (h : wheelR pr ys a b c = some zs) : IsWheel pr ys zs := by
  have go : ∀ W : List Str, W.length = 3 → W.Nodup → (∀ p, p < 3 → (W.map fun m => atP m p).Nodup) → (∀ e ∈ W, e.cps.size = 3) → W.all (has pr ys) = true → IsWheel pr ys (srt (W.map (firstOf pr ys))) := fun W l n nd sz all => by
    rw [List.all_eq_true] at all
    have p := srt_perm (W.map (firstOf pr ys))
    have back : (W.map (firstOf pr ys)).map pr = W := by
      rw [List.map_map]
      exact (List.map_congr_left fun e he => (first_is (all e he)).2).trans (List.map_id _)
    have nn : (W.map (firstOf pr ys)).Nodup := by
      exact List.Pairwise.of_map pr (fun x y hne e => hne (by rw [e])) (show ((W.map (firstOf pr ys)).map pr).Nodup by rw [back]; exact n)
    have pw : (((srt (W.map (firstOf pr ys))).map pr)).Perm W := by
      have := p.map pr
      rw [back] at this
      exact this
    refine ⟨?_, ?_, fun z hz => ?_, fun q hq => ?_, fun z hz => ?_⟩
    · rw [p.length_eq, List.length_map, l]
    · exact (List.Pairwise.and (srt_up _) (p.nodup_iff.mpr nn)).imp fun ⟨u, v⟩ => lo_of u v
    · obtain ⟨e, he, rfl⟩ := List.mem_map.mp (p.mem_iff.mp hz)
      exact (first_is (all e he)).1
    · exact (pw.map fun m => atP m q).nodup_iff.mpr (nd q hq)
    · exact sz _ (pw.mem_iff.mp (List.mem_map.mpr ⟨z, hz, rfl⟩))
  obtain ⟨ab, ac, bc⟩ := d
  have ba := ab.symm
  have ca := ac.symm
  have cb := bc.symm
  have at_ : ∀ u v w p : Nat, atP (s3 u v w) p = ⟨#[(s3 u v w).cps.getD p 0]⟩ := fun _ _ _ _ => rfl
  unfold wheelR at h
  split at h
  · cases h
    rename_i q
    refine go _ rfl (by simp [W1, s3, ab, ac, bc, ba, ca, cb]) (fun p hp => ?_) (by simp [W1, s3]) q
    match p, hp with
    | 0, _ => simp [W1, atP, s3, ab, ac, bc, ba, ca, cb]
    | 1, _ => simp [W1, atP, s3, ab, ac, bc, ba, ca, cb]
    | 2, _ => simp [W1, atP, s3, ab, ac, bc, ba, ca, cb]
  · split at h
    · cases h
      rename_i q
      refine go _ rfl (by simp [W2, s3, ab, ac, bc, ba, ca, cb]) (fun p hp => ?_) (by simp [W2, s3]) q
      match p, hp with
      | 0, _ => simp [W2, atP, s3, ab, ac, bc, ba, ca, cb]
      | 1, _ => simp [W2, atP, s3, ab, ac, bc, ba, ca, cb]
      | 2, _ => simp [W2, atP, s3, ab, ac, bc, ba, ca, cb]
    · cases h
end L2.Cal
end

section
set_option maxRecDepth 100000
set_option maxHeartbeats 4000000
set_option synthInstance.maxHeartbeats 400000
namespace L2.Cal
open PySem PySem.Spec PyProof.Rows L2
abbrev sPek : Stmt := topS 56
theorem scPek : FnScope ["_law_line_here", "_law_found", "_law_turn", "_law_longer", "_law_word", "_law_left"] ["_law_line_here"] (defScope sPek) := ⟨rfl, rfl, rfl, by decide +kernel, rfl, by decide +kernel, by decide +kernel⟩
/-- the rows behind so many turns -/
def pkIt (y : Str) : Nat → List (Str × Str)
  | 0 => [("", y)]
  | i + 1 => (pkIt y i).flatMap pkOf
/-- the words that grow from the ends of a line -/
def pkW (y : Str) : List Str := (pkIt y (y.length - 1)).map fun r => r.2 ++ r.1
def spPek : Sp := fun vs H Q _ => ∃ y : Str, vs = [.str y] ∧ y.cps.toList.Nodup ∧ 1 ≤ y.cps.size ∧ y.cps.size ≤ 6 ∧ ∀ (ys : List Str) (l : Addr) (H' : Hp), Same H H' → H l = none → H' l = some (.lst (ys.map V.str)) → Climbs ys → ys.Nodup → Kin ys y → 0 < ys.length → ys.length ≤ 32 → ys.Perm (pkW y) → Q (.ref l) H'
section
variable {P : Program} {w : World} {K : PySem.W.Frag} {mg : Str → Option Value} {base : Heap}
theorem ok_pek {f : Addr} {fd : FuncData} (D : DefAt K mg "_law_peaked" sPek ["_law_line_here"] f fd) (T : Txt mg) : FnOk P w K mg base CX0 1 f fd ["_law_line_here"] spPek := by
  refine D.F.ok scPek (fun vs H Q E h => ?_) (fun cdv A outer sh H vs Q E hr h => ?_)
  · obtain ⟨y, rfl, _⟩ := h
    rfl
  · obtain ⟨y, rfl, ly, y1, y6, q⟩ := h
    refine ⟨_, (pss_cons (ps_set (i := 1) scPek.nd rfl (.inl rfl) (pe_lstS (pa_cons (pe_lstS (pa_cons pe_str (pa_cons (pv 0) pa_nil))) pa_nil)))
      (pss_cons (ps_for PassesOwn.never rfl (pi_range1 (by rfl) T.b_range (pa_cons (pe_op op_sub (pe_callB call_len_str (by rfl) T.b_len (by decide +kernel) (pa_cons (pv 0) pa_nil)) pe_int) pa_nil)) (pg_name (i := 2) scPek.nd rfl (.inl rfl))
        (pss_cons (ps_set (i := 3) scPek.nd rfl (.inl rfl) (pe_lstS pa_nil))
        (pss_cons (ps_for PassesOwn.never rfl (pi_list (pv 1)) (pg_unl rfl (pgs_cons (pg_name (i := 4) scPek.nd rfl (.inl rfl)) (pgs_cons (pg_name (i := 5) scPek.nd rfl (.inl rfl)) pgs_nil)))
          (pss_one (ps_set (i := 3) scPek.nd rfl (.inl rfl) (pe_op op_catS (pv 3) (pe_lstS (pa_cons (pe_lstS (pa_cons (pe_op op_add_str (pe_ix ix_str (pv 5) pe_int (fun _ _ => rfl)) (pv 4)) (pa_cons (pe_slice sl_str (pv 5) (po_some pe_int) po_none) pa_nil))) (pa_cons (pe_lstS (pa_cons (pe_op op_add_str (pe_ix ix_str (pv 5) (pe_un un_neg pe_int) (fun _ _ => rfl)) (pv 4)) (pa_cons (pe_slice sl_str (pv 5) po_none (po_some (pe_un un_neg pe_int))) pa_nil))) pa_nil)))))))
        (pss_one (ps_set (i := 1) scPek.nd rfl (.inl rfl) (pv 3))))))
      (pss_one (ps_ret (pe_callB cr_sortedS (by rfl) T.b_sorted (by decide +kernel) (pa_cons (pe_lc (own := [("_law_word", 4), ("_law_left", 5)]) (g := gUnl K 2 (gCons (gName 4) (gCons (gName 5) gNil))) (tt := tYes) rfl scPek.nd (pi_list (pv 1)) (blkOk_by (own := [("_law_word", 4), ("_law_left", 5)]) (N := ["_law_line_here", "_law_found", "_law_turn", "_law_longer", "_law_word", "_law_left"]) (sc := defScope sPek) (by decide +kernel))
          (fun _ _ _ _ _ => pg_unl rfl (pgs_cons (pg_name (i := 4) scPek.nd rfl (Or.inl rfl)) (pgs_cons (pg_name (i := 5) scPek.nd rfl (Or.inl rfl)) pgs_nil))) (fun _ _ _ _ _ => pts_nil) (fun _ _ _ _ _ => pe_op op_add_str (pv 5) (pv 4))) pa_nil)))))), ?_⟩
    have lim : ∀ {n : Nat}, n ≤ 1000 → n ≤ sizeLine := fun h => by rw [sizeLine_eq]; omega
    have yl : y.cps.toList.length = y.cps.size := Array.length_toList
    have ylen : y.length = y.cps.size := rfl
    refine ⟨_, rfl, lim (show 2 ≤ 1000 by decide), fun l0 H1 s1 n1 e1 => ⟨lim (show 1 ≤ 1000 by decide), fun F H2 s2 n2 e2 => ?_⟩⟩
    refine ⟨_, rfl, y, rfl, lim (by omega), _, _, rfl, rfl, (y.length : Int) - 1, rfl, by omega, by omega, for_range (lo := 0) (n := ((y.length : Int) - 1).toNat) (fun i σ H' => ∃ (F : Addr) (vs : List V) (rs : List (Str × Str)) (v2 v3 v4 v5 : Option V), σ = [some (.str y), some (.ref F), v2, v3, v4, v5] ∧ Same H H' ∧ H' F = some (.lst vs) ∧ PairsAt H' vs rs ∧ Pk y i rs ∧ rs = pkIt y i)
      ⟨F, _, _, _, _, _, _, rfl, s1.trans s2, e2, .cons (s2 _ _ e1) .nil, pk_start y, rfl⟩ (fun i σ H' hi hP => ?_) (fun σ H' hP => ?_)⟩
    · obtain ⟨F, vs, rs, v2, v3, v4, v5, rfl, sH, eF, ps, pk, it⟩ := hP
      have pw : 2 ^ i ≤ 32 := Nat.le_trans (Nat.pow_le_pow_right (by decide) (show i ≤ 5 by omega)) (by decide)
      have rl : rs.length ≤ 32 := by rw [pk.len]; exact pw
      refine ⟨lim (show 0 ≤ 1000 by decide), fun L H3 s3 n3 e3 => ?_⟩
      refine ⟨_, rfl, F, rfl, ⟨_, SqL.of (s3 _ _ eF)⟩, for_list (xs := vs) (fun k σ H'' => ∃ (L : Addr) (ws : List V) (v4 v5 : Option V), σ = [some (.str y), some (.ref F), some (.int (0 + (i : Int))), some (.ref L), v4, v5] ∧ Same H' H'' ∧ H'' L = some (.lst ws) ∧ PairsAt H'' ws ((rs.take k).flatMap pkOf))
        ⟨L, [], _, _, rfl, s3, e3, .nil⟩ (fun k σ H'' _ hP => ?_) (fun k v σ H4 hv hP => ?_) (fun σ H4 hP => ?_)⟩
      · obtain ⟨_, _, _, _, _, s, _⟩ := hP
        exact SqL.of (s _ _ eF)
      · obtain ⟨L, ws, v4, v5, rfl, s4, eL, pw4⟩ := hP
        obtain ⟨a, r, rfl, hr, ea⟩ := (ps.same s4).at_ hv
        have rin := List.mem_of_getElem? hr
        have lf := pk.left r rin
        have pm := (pk.pm r rin).length_eq
        rw [List.length_append] at pm
        have z1 : r.2.cps.toList.length = r.2.cps.size := Array.length_toList
        have z2 : r.1.cps.toList.length = r.1.cps.size := Array.length_toList
        have l1 : r.1.length = r.1.cps.size := rfl
        have l2 : r.2.length = r.2.cps.size := rfl
        have g0 : atI r.2.cps.toList 0 = some (r.2.cps.toList.getD 0 0) := atI_nat (j := 0) (by rw [List.getD_eq_getElem?_getD, List.getElem?_eq_getElem (by omega)] <;> rfl)
        have gm : atI r.2.cps.toList (-1) = some (r.2.cps.toList.getD (r.2.cps.toList.length - 1) 0) := by
          have ne : r.2.cps.toList ≠ [] := fun z => by rw [z] at z1 lf; simp at lf; omega
          have e := List.dropLast_concat_getLast ne
          have el : r.2.cps.toList.getD (r.2.cps.toList.length - 1) 0 = r.2.cps.toList.getLast ne := by
            rw [List.getD_eq_getElem?_getD, List.getLast_eq_getElem, List.getElem?_eq_getElem (by omega)] <;> rfl
          rw [el]
          generalize r.2.cps.toList.getLast ne = g at e
          rw [← e]
          exact atI_last _ _
        have c1 := cutS_length r.2 (some 1) none
        have c2 := cutS_length r.2 none (some (-1))
        have o1 : ∀ c : Nat, (⟨#[c]⟩ : Str).length = 1 := fun _ => rfl
        refine ⟨a, _, rfl, SqL.of ea, rfl, _, _, rfl, _, _, rfl, rfl, ?_⟩
        refine ⟨_, rfl, _, rfl, r.2, 0, _, rfl, rfl, lim (by omega), g0, _, rfl, _, _, rfl, rfl, lim (by rw [o1]; omega), _, rfl, _, rfl, r.2, rfl, lim (by omega), lim (show 2 ≤ 1000 by decide), fun p1 H5 s5 n5 e5 => ?_⟩
        refine ⟨_, rfl, _, rfl, r.2, -1, _, rfl, rfl, lim (by omega), gm, _, rfl, _, _, rfl, rfl, lim (by rw [o1]; omega), _, rfl, _, rfl, _, rfl, r.2, rfl, lim (by omega), lim (show 2 ≤ 1000 by decide), fun p2 H6 s6 n6 e6 => ⟨lim (show 2 ≤ 1000 by decide), fun p3 H7 s7 n7 e7 => ?_⟩⟩
        have S47 : Same H4 H7 := s5.trans (s6.trans s7)
        have wl := pw4.len
        have fl : ((rs.take k).flatMap pkOf).length ≤ 64 := by
          have : ∀ l : List (Str × Str), (l.flatMap pkOf).length = 2 * l.length := fun l => by
            induction l with
            | nil => rfl
            | cons a l ih => rw [List.flatMap_cons, List.length_append, ih, List.length_cons]; show 2 + _ = _; omega
          rw [this, List.length_take]
          omega
        refine ⟨L, p3, ws, [.ref p1, .ref p2], rfl, rfl, S47 _ _ eL, e7, by rw [wl, sizeLine_eq]; simp only [List.length_cons, List.length_nil]; omega, fun L2 H8 s8 n8 e8 => ?_⟩
        refine ⟨L2, _, _, _, rfl, s4.trans (S47.trans s8), e8, ?_⟩
        rw [List.take_succ, hr, Option.toList_some, List.flatMap_append, List.flatMap_singleton]
        exact (pw4.same (S47.trans s8)).app (.cons (s8 _ _ (s7 _ _ (s6 _ _ e5))) (.cons (s8 _ _ (s7 _ _ e6)) .nil))
      · obtain ⟨L, ws, v4, v5, rfl, s4, eL, pw4⟩ := hP
        rw [ps.len, List.take_length] at pw4
        exact ⟨_, rfl, L, ws, _, _, _, _, _, rfl, sH.trans s4, eL, pw4, pk_step ly pk (by omega), by rw [it] <;> rfl⟩
    · obtain ⟨F, vs, rs, v2, v3, v4, v5, rfl, sH, eF, ps, pk, it⟩ := hP
      have rl : rs.length ≤ 32 := by
        rw [pk.len]
        exact Nat.le_trans (Nat.pow_le_pow_right (by decide) (show ((y.length : Int) - 1).toNat ≤ 5 by omega)) (by decide)
      obtain ⟨nd, pm⟩ := pk_end pk (by omega)
      refine ⟨_, rfl, F, rfl, ⟨_, SqL.of eF⟩, fun D nD => lc_list (K := K) (a := F) (xs := vs) (fun k H'' => Same H' H'' ∧ H'' D = some (.lst (((rs.take k).map fun r => r.2 ++ r.1).map V.str))) ⟨same_new nD, upd_same⟩ (fun k H'' _ hP => SqL.of (hP.1 _ _ eF)) (fun k v H4 hv hP => ?_) (fun H4 hP => ?_)⟩
      · obtain ⟨s4, e4⟩ := hP
        obtain ⟨a, r, rfl, hr, ea⟩ := (ps.same s4).at_ hv
        have rin := List.mem_of_getElem? hr
        have lf := pk.left r rin
        have pmr := (pk.pm r rin).length_eq
        rw [List.length_append] at pmr
        have z1 : r.2.cps.toList.length = r.2.cps.size := Array.length_toList
        have z2 : r.1.cps.toList.length = r.1.cps.size := Array.length_toList
        have l1 : r.1.length = r.1.cps.size := rfl
        have l2 : r.2.length = r.2.cps.size := rfl
        have kl := (List.getElem?_eq_some_iff.mp hr).1
        refine ⟨a, _, rfl, SqL.of ea, rfl, _, _, rfl, _, _, rfl, rfl, rfl, _, rfl, _, rfl, _, _, rfl, rfl, lim (by omega), _, e4, by rw [List.length_map, List.length_map, List.length_take, sizeLine_eq]; omega, fun b o h => ?_, ?_⟩
        · rw [upd_ne (ne_of_none h nD)]
          exact s4 _ _ h
        · rw [upd_same, List.take_succ, hr, Option.toList_some, List.map_append, List.map_append] <;> rfl
      · obtain ⟨s4, e4⟩ := hP
        rw [ps.len, List.take_length] at e4
        refine ⟨D, rs.map fun r => r.2 ++ r.1, rfl, SqL.of e4, by rw [List.length_map]; omega, fun ys p pmy so np => ?_⟩
        have ndy := pmy.nodup_iff.mpr nd
        have S : Same H (upd H4 p (.lst (ys.map V.str))) := sH.trans (s4.trans (same_new np))
        refine q ys p _ S ?_ upd_same (climbs_sorted so ndy) ndy (fun z hz => pm z (pmy.mem_iff.mp hz)) (by rw [pmy.length_eq, List.length_map, pk.len]; exact Nat.pow_pos (by decide)) (by rw [pmy.length_eq, List.length_map]; exact rl) (by
          rw [it, show ((y.length : Int) - 1).toNat = y.length - 1 by omega] at pmy
          exact pmy)
        cases e : H p with
        | none => rfl
        | some o =>
          rw [s4 _ _ (sH _ _ e)] at np
          cases np
end
end L2.Cal
end

section
set_option maxRecDepth 100000
set_option maxHeartbeats 4000000

end

section
set_option maxRecDepth 100000
set_option maxHeartbeats 4000000
namespace L2.Cal
open PySem PySem.Spec PyProof.Rows L2
abbrev sIsO : Stmt := topS 20
theorem scIsO : FnScope ["value", "letter"] ["value"] (defScope sIsO) := ⟨rfl, rfl, rfl, by decide +kernel, rfl, by decide +kernel, by decide +kernel⟩

theorem one_lt (a b : Nat) : decide (([a] : List Nat) < [b]) = decide (a < b) := by
  rw [← ltCps_eq]
  simp [ltCps]
theorem nodup_back {l : List Nat} (h : (l.map fun n => (⟨#[n]⟩ : Str)).Nodup) : l.Nodup := List.Pairwise.of_map _ (fun a b n e => n (by rw [e])) h
theorem nodup_signs {y : Str} (h : y.cps.toList.Nodup) : (signs y).Nodup := by
  refine List.Pairwise.map _ (fun a b n e => n ?_) h
  have : ([a] : List Nat) = [b] := congrArg (fun z : Str => z.cps.toList) e
  exact (List.cons.inj this).1
theorem ca : (Str.ofString "a").cps.toList = [97] := by decide +kernel
theorem cz : (Str.ofString "z").cps.toList = [122] := by decide +kernel
structure Lims (mg : Str → Option Value) : Prop where
  c1 : ∃ t, mg "LEAST_THINGS" = some (.int 3 t)
  c2 : ∃ t, mg "MOST_THINGS" = some (.int 6 t)
  c3 : ∃ t, mg "MOST_ORDERS" = some (.int 48 t)
def ordB (y : Str) : Bool := decide (3 ≤ y.cps.size ∧ y.cps.size ≤ 6) && (decide y.cps.toList.Nodup && y.cps.toList.all fun c => decide (97 ≤ c) && decide (c ≤ 122))
def spIsO : Sp := fun vs H Q _ => ∃ y : Str, vs = [.str y] ∧ y.cps.size ≤ 1000 ∧ ∀ H', Same H H' → Q (.bl (ordB y)) H'
section
variable {P : Program} {w : World} {K : PySem.W.Frag} {mg : Str → Option Value} {base : Heap}
theorem ok_iso {f : Addr} {fd : FuncData} (D : DefAt K mg "is_order" sIsO ["value"] f fd) (T : Txt mg) (Lm : Lims mg) : FnOk P w K mg base CX0 1 f fd ["value"] spIsO := by
  obtain ⟨_, c1⟩ := Lm.c1
  obtain ⟨_, c2⟩ := Lm.c2
  refine D.F.ok scIsO (fun vs H Q E h => ?_) (fun cdv A outer sh H vs Q E hr h => ?_)
  · obtain ⟨y, rfl, _⟩ := h
    rfl
  · obtain ⟨y, rfl, hy, q⟩ := h
    refine ⟨_, (pss_cons (ps_if (PW.pt (pw_or (pt_not (pt_val (pe_callB call_isi (by rfl) T.b_isinstance (by decide +kernel) (pa_cons (pv 0) (pa_cons (pe_bty (n := "str") (by rfl) T.b_str (by decide +kernel)) pa_nil))))) (pw_or1 (pt_not (pt_chain op_le op_le (pe_glob (v := .int 3) (by rfl) c1 ⟨_, rfl⟩) (pe_callB call_len_str (by rfl) T.b_len (by decide +kernel) (pa_cons (pv 0) pa_nil)) (pe_glob (v := .int 6) (by rfl) c2 ⟨_, rfl⟩))))))
   (pss_one (ps_ret pe_bl))
   pss_nil)
  (pss_one (ps_ret (pe_and (pe_cmpR op_eq (pe_lenSetS rfl (by rfl) T.b_len (by rfl) T.b_set (pv 0)) (pe_callB call_len_str (by rfl) T.b_len (by decide +kernel) (pa_cons (pv 0) pa_nil)) (nomark _)) (pe_one (pe_callB (cr_all rfl) (by rfl) T.b_all (by decide +kernel) (pa_cons (pe_lc (own := [("letter", 1)]) (g := gName 1) (tt := tYes) rfl scIsO.nd (pi_str (pv 0)) (blkOk_by (own := [("letter", 1)]) (N := ["value", "letter"]) (sc := (defScope sIsO)) (by decide +kernel)) (fun _ _ _ _ _ => pg_name (i := 1) scIsO.nd rfl (Or.inl rfl)) (fun _ _ _ _ _ => pts_nil) (fun _ _ _ _ _ => (pe_chain op_le_str op_le_str pe_str (pv 1) pe_str))) pa_nil))))))), ?_⟩
    have sz : y.length = y.cps.size := rfl
    have fit : y.length ≤ sizeLine := by rw [sizeLine_eq, sz]; omega
    refine ⟨_, rfl, .str y, .ty "str", .type "str", .type "str", true, rfl, .ty _, .base (.str y), rfl, true, rfl, iteF ?_⟩
    refine ⟨_, rfl, y, rfl, fit, _, _, rfl, rfl, _, rfl, ite2 (fun e => ⟨_, _, rfl, rfl, _, rfl, ?_⟩) (fun e => ⟨_, rfl, ?_⟩)⟩
    · have e3 : 3 ≤ y.cps.size := by
        have := of_decide_eq_true e
        rw [sz] at this
        omega
      by_cases c6 : y.cps.size ≤ 6
      · rw [decide_eq_true (show (y.length : Int) ≤ 6 by rw [sz]; omega)]
        refine iteF ?_
        have e36 : decide (3 ≤ y.cps.size ∧ y.cps.size ≤ 6) = true := decide_eq_true ⟨e3, c6⟩
        refine ⟨_, rfl, y, rfl, hy, fun l nd mem => ⟨_, rfl, y, rfl, fit, rfl, _, rfl, ite2 (fun e => ?_) (fun e => ?_)⟩⟩
        · have ndy : y.cps.toList.Nodup := by
            have el : l.length = y.cps.size := by
              have := V.int.inj (of_decide_eq_true e)
              rw [sz] at this
              omega
            have pm : (signs y).Perm l := perm_of_into l (signs y) nd (fun x hx => by
              obtain ⟨c, hc, rfl⟩ := (mem x).mp hx
              exact List.mem_map.mpr ⟨c, hc, rfl⟩) (by rw [signs_length, el]; exact Nat.le_refl _)
            have := pm.nodup_iff.mpr nd
            unfold signs at this
            exact nodup_back this
          refine ⟨_, rfl, y, rfl, fun D nD => lc_it walk_str (fun k H' => Same H H' ∧ H' D = some (.lst ((y.cps.toList.take k).map fun c => V.bl (decide (97 ≤ c) && decide (c ≤ 122))))) ⟨same_new nD, upd_same⟩ (fun _ _ _ _ => trivial) (fun k x H1 H2 hk hP hY => ?_) (fun H1 hP => ?_)⟩
          · obtain ⟨sm, eD⟩ := hP
            obtain ⟨rfl, c, hc, rfl⟩ := hY
            have hk2 : k < y.cps.toList.length := by rw [Array.length_toList]; exact hk
            have ec : y.cps.toList[k] = c := by
              rw [Array.getElem_toList]
              exact (Array.getElem?_eq_some_iff.mp hc).2
            have fin : ∀ b, b = (decide (97 ≤ c) && decide (c ≤ 122)) → ∃ acc, H2 D = some (.lst acc) ∧ acc.length < sizeLine ∧ Same H (upd H2 D (.lst (acc ++ [V.bl b]))) ∧ (upd H2 D (.lst (acc ++ [V.bl b]))) D = some (.lst ((y.cps.toList.take (k + 1)).map fun c => V.bl (decide (97 ≤ c) && decide (c ≤ 122)))) := fun b eb => by
              refine ⟨_, eD, ?_, fun a o z => ?_, ?_⟩
              · rw [List.length_map, List.length_take, sizeLine_eq]
                omega
              · rw [upd_ne (ne_of_none z nD)]
                exact sm _ _ z
              · rw [upd_same, List.take_succ, List.getElem?_eq_getElem hk2, ec, List.map_append, eb] <;> rfl
            refine ⟨rfl, _, rfl, _, _, rfl, rfl, _, rfl, ite2 (fun e => ⟨_, _, rfl, rfl, fin _ ?_⟩) (fun e => fin _ ?_)⟩
            · rw [ca, one_lt] at e
              have e97 : 97 ≤ c := by
                have := of_decide_eq_false (by simpa using e : decide (c < 97) = false)
                omega
              rw [cz, one_lt, decide_eq_true e97, Bool.true_and]
              by_cases h : c ≤ 122
              · rw [decide_eq_true h, decide_eq_false (by omega)] <;> rfl
              · rw [decide_eq_false h, decide_eq_true (by omega)] <;> rfl
            · rw [ca, one_lt] at e
              have e97 : ¬ 97 ≤ c := fun z => e (by rw [decide_eq_false (by omega)] <;> rfl)
              rw [decide_eq_false e97, Bool.false_and]
          · obtain ⟨sm, eD⟩ := hP
            rw [List.take_of_length_le (by rw [Array.length_toList]; exact Nat.le_refl _)] at eD
            refine ⟨D, y.cps.toList.map fun c => decide (97 ≤ c) && decide (c ≤ 122), rfl, SqL.of (by rw [eD, List.map_map] <;> rfl), ?_⟩
            have z := q H1 sm
            unfold ordB at z
            rw [e36, decide_eq_true ndy, Bool.true_and, Bool.true_and] at z
            rw [List.all_map]
            exact z
        · have z := q H (fun _ _ z => z)
          unfold ordB at z
          rw [e36, decide_eq_false (show ¬ y.cps.toList.Nodup from fun nd2 => e (decide_eq_true ?_)), Bool.true_and, Bool.false_and] at z
          · exact z
          · have into : ∀ x, x ∈ l → x ∈ signs y := fun x hx => by
              obtain ⟨c, hc, rfl⟩ := (mem x).mp hx
              exact List.mem_map.mpr ⟨c, hc, rfl⟩
            have nds : (signs y).Nodup := nodup_signs nd2
            have le1 := List.Nodup.length_le_of_subset nd into
            have le2 := List.Nodup.length_le_of_subset nds fun x hx => by
              obtain ⟨c, hc, rfl⟩ := List.mem_map.mp hx
              exact (mem _).mpr ⟨c, hc, rfl⟩
            rw [signs_length] at le1 le2
            rw [Nat.le_antisymm le1 le2]
      · rw [decide_eq_false (show ¬ (y.length : Int) ≤ 6 by rw [sz]; omega)]
        refine iteT ?_
        have z := q H (fun _ _ z => z)
        unfold ordB at z
        rw [decide_eq_false (show ¬ (3 ≤ y.cps.size ∧ y.cps.size ≤ 6) by omega), Bool.false_and] at z
        exact z
    · refine iteT ?_
      have z := q H (fun _ _ z => z)
      unfold ordB at z
      rw [decide_eq_false (show ¬ (3 ≤ y.cps.size ∧ y.cps.size ≤ 6) from fun c => e (decide_eq_true (show (3 : Int) ≤ (y.length : Int) by rw [sz]; omega))), Bool.false_and] at z
      exact z
end
end L2.Cal
end

section
set_option maxRecDepth 100000
set_option maxHeartbeats 4000000
/-! `for i, x in enumerate(t)`, t a tuple -/
namespace L2.Cal
open PySem PySem.Spec PyProof.Rows L2
theorem enum_meets {v : Value} {o : Obj} {H : Heap → Prop} (B : Begins v o H) : Meets (Builtin.«enumerate.__new__» ⟨[.type "enumerate", v], []⟩) (fun _ R s => H s.heap ∧
    R (.ok (.ret (.ref (s.heap.push o).objs.size))) { s with heap := (s.heap.push o).push { cls := .type "enumerate", data := .fields #[.none, .bool false, .ref s.heap.objs.size, rawInt 0, .none, .none] } }) :=
  .of_wp fun prog w A R s h => by
    obtain ⟨hp, g, d, tk, os⟩ := s
    obtain ⟨hH, fin⟩ := h
    have below := PySem.sub_enumerate
    have start : ∀ {A' : Around} {E : Value → Shared → Prop} {Q : Value → Shared → Prop}, Q (.ref hp.objs.size) ⟨hp.push o, g, d, tk, os⟩ → wpAny (model prog w) A' (pyIter v) Q E ⟨hp, g, d, tk, os⟩ := fun q => B.iter prog w _ _ ⟨hp, g, d, tk, os⟩ _ hH q
    wp_walk using start
    refine wpAny_stack_any fun _ => wpAny_pure ?_
    split
    · rename_i c _ _ _ _ _
      cases (c == Value.type "enumerate") <;> (wp_walk using start; exact ⟨_, rfl, fin⟩)
    · wp_walk using start
      exact ⟨_, rfl, fin⟩
section
variable {prog : Program} {w : World} {A : Around} {E : Value → Shared → Prop} {s : Shared}
theorem enum_one {v : Value} {o : Obj} {H : Heap → Prop} {Q : Value → Shared → Prop} (B : Begins v o H) (hH : H s.heap)
    (q : ∀ h', IsEnum h' (s.heap.objs.size + 1) s.heap.objs.size 0 .none → h'.get? s.heap.objs.size = some o → (∀ b o, s.heap.get? b = some o → h'.get? b = some o) → Q (.ref (s.heap.objs.size + 1)) { s with heap := h' }) :
    wpAny (model prog w) A (call (.type "enumerate") [v]) Q E s := by
  have z : (s.heap.push o).objs.size = s.heap.objs.size + 1 := Heap.size_push ..
  have at1 : IsEnum ((s.heap.push o).push { cls := .type "enumerate", data := .fields #[.none, .bool false, .ref s.heap.objs.size, rawInt 0, .none, .none] }) (s.heap.objs.size + 1) s.heap.objs.size 0 .none := by
    rw [← z]
    exact Heap.get?_push_size _ rfl
  refine callType_new PySem.F.called_enumerate (by decide) (PySem.F.typeCall_enumerate_1 _) (PySem.F.newCall_enumerate_1 _) (fun obj => PySem.F.args_object_init_2 obj _) PySem.F.entry_enumerate_new (enum_meets B) ⟨hH, ?_⟩
  show _ ∧ _
  rw [z]
  exact ⟨⟨_, at1, rfl⟩, q _ at1 (Heap.get?_push_of_some _ (Heap.get?_push_size _ B.free)) fun b o e => Heap.get?_push_of_some _ (Heap.get?_push_of_some _ e)⟩
end
/-- the tuple at a, each item in a new pair with its place -/
def IteT (K : PySem.W.Frag) (a : Addr) : It :=
  ⟨fun i H => ∃ (xs : List V) (x : V), SqT K H a xs ∧ xs[i]? = some x, fun i H v H' => ∃ T x, v = .ref T ∧ H T = none ∧ H' = upd H T (.tup [.int (i : Nat), x]) ∧ ∀ xs, SqT K H a xs → xs[i]? = some x, fun i H => ∃ xs : List V, SqT K H a xs ∧ xs.length ≤ i⟩
theorem turn_enumT {P : Program} {w : World} {K : PySem.W.Frag} {elts : List Expr} {kk : Nat} {tpos : Pos} (a e it : Addr) :
    Turn P w K (.Tuple elts kk tpos) (IteT K a) [e, it] e (fun i h => (∃ old, IsEnum h e it ((i : Nat) : Int) old) ∧ h.IsTupleIter it a i ∧ e ≠ it) where
  mem := by simp
  obj := fun i h st b hb => by
    obtain ⟨⟨old, he⟩, ⟨o, ho, hc, hd⟩, _⟩ := st
    rcases List.mem_cons.mp hb with z | z
    · rw [z]
      exact ⟨_, he, fun v q => nomatch q⟩
    · rw [List.mem_singleton.mp z]
      exact ⟨o, ho, fun v q => by rw [hd] at q; cases q⟩
  keep := fun i h h' st k => let ⟨⟨old, he⟩, hi, hne⟩ := st; ⟨⟨old, k e (by simp) _ he⟩, hi.at fun o q => k it (by simp) o q, hne⟩
  item := by
    intro X hP hw hK hc i pins s σ H E I hf st hg
    subst hP hw hK
    obtain ⟨⟨old, he⟩, hit, hne⟩ := st
    obtain ⟨xs, x, hq, hx⟩ := hg
    obtain ⟨its, rv, p, hz⟩ := I.tuple hq
    obtain ⟨u, hu, ru⟩ := rv.get hx
    have lt1 : e < s.heap.objs.size := Heap.lt_size he
    have lt2 : it < s.heap.objs.size := by obtain ⟨_, q, _⟩ := hit; exact Heap.lt_size q
    have tup : s.heap.IsTuple a its.toArray := p
    have nai : a ≠ it := fun z => by
      obtain ⟨o1, e1, c1, _⟩ := tup
      obtain ⟨o2, e2, c2, _⟩ := hit
      rw [z, e2] at e1
      cases e1
      rw [c2] at c1
      exact absurd c1 (by decide)
    have nae : e ∉ [it, a] := by
      intro z
      rcases List.mem_cons.mp z with z | z
      · exact hne z
      · have z := List.mem_singleton.mp z
        obtain ⟨o1, e1, c1, _⟩ := tup
        rw [← z, he] at e1
        cases e1
        exact absurd (show Value.type "enumerate" = .type "tuple" from c1) (by decide)
    have isz : i < its.toArray.size := by
      have := (List.getElem?_eq_some_iff.mp hu).1
      simpa using this
    refine wpAny_pyNext_enum_itemD (Draws.tuple (A := X.A.in1) (by simpa using I.ok.hd hc) it a nai its.toArray) he ⟨hit, tup⟩ isz hne nae fun x' h' tk hx' ho hst hT hsz hk => ?_
    have ex : x' = u := by
      have : its.toArray[i]? = some u := by simpa using hu
      rw [this] at hx'
      exact (Option.some.inj hx').symm
    subst ex
    obtain ⟨hit', _⟩ := hst
    refine ⟨_, rfl, wpAny_letOwnedTupleGo_enum (s := { s with heap := h', toks := tk + 1 }) ho fun h'' he' sb => ?_⟩
    have hT2 : h''.get? s.heap.objs.size = some { cls := .type "tuple", data := .seq #[.int i tk, x'] } := (sb.2 _ (Nat.ne_of_gt lt1)).trans hT
    have new : ObjOk X.prog X.w (upd H s.heap.objs.size (.tup [.int (i : Nat), x])) h'' s.heap.objs.size (.tup [.int (i : Nat), x]) := ⟨by show 2 ≤ sizeLine; decide, [.int i tk, x'], .cons ⟨_, rfl⟩ (.cons ru .nil), ⟨_, hT2, rfl, _, rfl⟩⟩
    have J : Inv X pins σ (upd H s.heap.objs.size (.tup [.int (i : Nat), x])) { s with heap := h'', toks := tk + 1 } :=
      I.turnedNew (ch := [e, it]) (fun b ob hb q => (sb.2 b (fun z => hb (by simp [z]))).trans (hk b ob (fun z => hb (by simp [z])) (fun z => hb (by simp [z])) q)) hf (Nat.le_refl _) new
    refine ⟨.ref s.heap.objs.size, _, J, rfl, ⟨_, x, rfl, I.hok.fresh (Nat.le_refl _), rfl, fun ys hy => by rw [I.tuple_inj hy hq]; exact hx⟩, ⟨⟨x', ?_⟩, hit'.at fun o q => (sb.2 it (Ne.symm hne)).trans q, hne⟩, fun b hb => ?_⟩
    · rw [show ((i + 1 : Nat) : Int) = (i : Int) + 1 by omega]
      exact he'
    · have lt : b < s.heap.objs.size := by
        rcases List.mem_cons.mp hb with z | z
        · rw [z]; exact lt1
        · rw [List.mem_singleton.mp z]; exact lt2
      rw [upd_ne (Nat.ne_of_lt lt)]
      exact (hf b hb).1
  done := by
    intro X hP hw hK hc i pins s σ H E I hf st hg
    subst hP hw hK
    obtain ⟨⟨old, he⟩, hit, hne⟩ := st
    obtain ⟨xs, hq, hx⟩ := hg
    obtain ⟨its, rv, p, hz⟩ := I.tuple hq
    obtain ⟨f0, f1, f2, f3, f4, f5⟩ := hf it (by simp)
    have len := rv.length
    have kind : s.TypeIs (.ref e) "enumerate" := ⟨_, he, rfl⟩
    unfold pyNext
    refine wpAny_bind (wpAny_attempt (wpAny_callSpecial?_slot (name := Str.ofString "__next__") kind PySem.F.slot_enumerate_next (wpAny_call_entry PySem.F.slot_enumerate_next kind PySem.F.entry_enumerate_next ?_ (PySem.F.args_enumerate_next_1 _))))
    show wpAny _ _ (field (.ref e) 2 >>= _) _ _ _
    refine wpAny_bind (wpAny_field he rfl (x := .ref it) rfl (wpAny_bind (wpAny_nextOf_tuple_end (by simpa using I.ok.hd hc) hit (show s.heap.IsTuple a its.toArray from p) (by simp; omega) fun h' x he' ⟨o, ho, hc'⟩ => ?_)))
    exact wpAny_bind (wpAny_isInstance (T := "StopIteration") (b := true) ⟨o, ho, hc'⟩ isSubtype_stop (wpAny_pure ⟨rfl, I.turned (t' := s.toks) (fun b o hb q => he' b o hb q) f0 f1 f3 f4 f5⟩))
  self := fun A i s Q E st h => let ⟨⟨_, he⟩, _⟩ := st; wpAny_pyIter_enum he h
def iEnumT (K : PySem.W.Frag) (ta : TA) : TI := fun σ H R => ta σ H fun vs H1 => ∃ a xs, vs = [.ref a] ∧ SqT K H1 a xs ∧ R (IteT K a) H1
theorem pi_enumT {X : Cx} {e : Expr} {ta : TA} {p pos tpos : Pos} {elts : List Expr} {kk : Nat} (hg : Gl X "enumerate") (hm : X.mg "enumerate" = none) (ha : PA X [e] ta) (hs : starEach [e] X.env = [(false, eval e X.env)] := by rfl) :
    PI X (.Tuple elts kk tpos) (.Call (.Name "enumerate" p) [e] [] pos) (iEnumT X.K ta) := by
  refine ⟨fun pins s σ H R I h => Call_ (ld_blt I hg hm boot_enumerate (PyProof.Rows.callWith_type1 (thn (ha.run pos pins s σ H _ I h) fun us s1 ⟨vs, H1, I1, r1, q1⟩ => ?_) hs rfl))⟩
  obtain ⟨a, xs, rfl, hq, q⟩ := q1
  match us, r1 with
  | _, .cons r .nil =>
    cases r
    obtain ⟨its, rv, tup, _⟩ := I1.tuple hq
    refine enum_one (begins_tuple a its.toArray) tup fun h' he hit k => wpAny_pyIter_enum he ?_
    have I2 : Inv X pins σ H1 { s1 with heap := h' } := I1.kept (t' := s1.toks) k
    refine ⟨s1.heap.objs.size + 1, [s1.heap.objs.size + 1, s1.heap.objs.size], _, _, H1, rfl, I2, turn_enumT a (s1.heap.objs.size + 1) s1.heap.objs.size, ⟨⟨.none, he⟩, ⟨_, hit, rfl, rfl⟩, Nat.succ_ne_self _⟩, fun b hb => ?_, q⟩
    have le : s1.heap.objs.size ≤ b := by
      rcases List.mem_cons.mp hb with z | z
      · rw [z]; exact Nat.le_add_right _ _
      · rw [List.mem_singleton.mp z]; exact Nat.le_refl _
    exact I1.fpOk le (I1.hok.fresh le)
theorem walk_enumT {K : PySem.W.Frag} {a : Addr} {xs : List V} : Walk (IteT K a) xs.length (fun H => SqT K H a xs) (YPair (fun i => some (.int (i : Nat))) (fun i => xs[i]?)) :=
  ⟨fun i H hi hq => ⟨xs, _, hq, List.getElem?_eq_getElem hi⟩, fun H hq => ⟨xs, hq, Nat.le_refl _⟩, fun i H v H' hi hq ⟨T, x, e1, e2, e3, e4⟩ => ⟨T, _, x, e1, e2, e3, rfl, e4 xs hq⟩⟩
end L2.Cal
end

section
set_option maxRecDepth 100000
set_option maxHeartbeats 4000000
namespace L2.Cal
open PySem PySem.Spec PyProof.Rows L2
abbrev sThO : Stmt := topS 21
theorem scThO : FnScope ["order"] ["order"] (defScope sThO) := ⟨rfl, rfl, rfl, by decide +kernel, rfl, by decide +kernel, by decide +kernel⟩
abbrev sRah : Stmt := topS 23
theorem scRah : FnScope ["orders", "index", "order"] ["orders"] (defScope sRah) := ⟨rfl, rfl, rfl, by decide +kernel, rfl, by decide +kernel, by decide +kernel⟩

/-- a text's letters in order -/
def tidy (y : Str) : Str := ⟨(y.cps.toList.mergeSort fun a b => decide (a ≤ b)).toArray⟩
theorem rising_ones : ∀ (r : List Nat) (p : Nat), risingS ⟨#[p]⟩ (r.map fun n => ⟨#[n]⟩) = true → (p :: r).Pairwise (· ≤ ·)
  | [], _, _ => List.pairwise_singleton _ _
  | x :: r, p, h => by
    simp only [List.map_cons, risingS, Bool.and_eq_true, Bool.not_eq_true'] at h
    have le : p ≤ x := by
      have z := h.1
      simp [ltCps] at z
      omega
    have ih := rising_ones r x h.2
    refine List.pairwise_cons.mpr ⟨fun y hy => ?_, ih⟩
    rcases List.mem_cons.mp hy with e | hy
    · omega
    · exact Nat.le_trans le ((List.pairwise_cons.mp ih).1 y hy)
theorem signs_cps (z : Str) : (signs z).map (fun s => s.cps.getD 0 0) = z.cps.toList := by
  unfold signs
  rw [List.map_map]
  exact (List.map_congr_left fun c _ => rfl).trans (List.map_id _)
theorem tidy_perm (y : Str) : (tidy y).cps.toList.Perm y.cps.toList := List.mergeSort_perm _ _
theorem tidy_up (y : Str) : (tidy y).cps.toList.Pairwise (· ≤ ·) := by
  have := List.pairwise_mergeSort (le := fun a b : Nat => decide (a ≤ b)) (fun a b c h1 h2 => decide_eq_true (Nat.le_trans (of_decide_eq_true h1) (of_decide_eq_true h2))) (fun a b => by
    rcases Nat.le_total a b with h | h <;> simp [h]) y.cps.toList
  exact this.imp fun h => of_decide_eq_true h
theorem str_ext {a b : Str} (h : a.cps.toList = b.cps.toList) : a = b := by
  cases a
  cases b
  exact congrArg Str.mk (Array.toList_inj.mp h)
theorem tidy_of {y z : Str} (p : (signs z).Perm (signs y)) (s : sortedS (signs z) = true) : z = tidy y := by
  have p2 := p.map fun s => s.cps.getD 0 0
  rw [signs_cps, signs_cps] at p2
  have up : z.cps.toList.Pairwise (· ≤ ·) := by
    unfold signs at s
    cases e : z.cps.toList with
    | nil => exact .nil
    | cons a r =>
      rw [e] at s
      exact rising_ones r a s
  exact str_ext (List.Perm.eq_of_pairwise (fun a b _ _ h1 h2 => Nat.le_antisymm h1 h2) up (tidy_up y) (p2.trans (tidy_perm y).symm))
theorem tidy_same {x y : Str} (p : x.cps.toList.Perm y.cps.toList) : tidy x = tidy y :=
  str_ext (List.Perm.eq_of_pairwise (fun a b _ _ h1 h2 => Nat.le_antisymm h1 h2) (tidy_up x) (tidy_up y) ((tidy_perm x).trans (p.trans (tidy_perm y).symm)))
theorem sign_sum (z : Str) : ((signs z).map (·.length)).sum = z.cps.size := by
  unfold signs
  rw [List.map_map, show ((fun x : Str => x.length) ∘ fun n => (⟨#[n]⟩ : Str)) = fun _ => 1 from rfl, sum_ones, Array.length_toList]
theorem ys_signs {ys : List Str} {y : Str} (h : ys.Perm (signs y)) : ∃ z : Str, ys = signs z ∧ z.cps.toList.Perm y.cps.toList := ones_back (cs := y.cps.toList) h
theorem same_seqT {K : PySem.W.Frag} {a : Addr} {H H' : Hp} {xs : List V} (h : SqT K H a xs) (s : Same H H') : SqT K H' a xs := by
  rcases h with (z | ⟨o, z⟩) | z
  · exact .inl (.inl (s _ _ z))
  · exact .inl (.inr ⟨o, s _ _ z⟩)
  · exact .inr z
def spThO : Sp := fun vs H Q _ => ∃ y : Str, vs = [.str y] ∧ y.cps.size < 64 ∧ ∀ H', Same H H' → Q (.str (tidy y)) H'
def spRah (K : PySem.W.Frag) : Sp := fun vs H Q _ => ∃ (t : Addr) (ys : List Str) (y : Str), vs = [.ref t] ∧ SqT K H t (ys.map V.str) ∧ Lot ys y ∧ Lett y ∧ 3 ≤ y.cps.size ∧ y.cps.size ≤ 6 ∧ ys.length ≤ 48 ∧ ∀ H', Same H H' → Q (.int ys.length) H'
section
variable {P : Program} {w : World} {K : PySem.W.Frag} {mg : Str → Option Value} {base : Heap}
theorem ok_tho {f : Addr} {fd : FuncData} (D : DefAt K mg "things_of" sThO ["order"] f fd) (T : Txt mg) : FnOk P w K mg base CX0 1 f fd ["order"] spThO := by
  refine D.F.ok scThO (fun vs H Q E h => ?_) (fun cdv A outer sh H vs Q E hr h => ?_)
  · obtain ⟨y, rfl, _⟩ := h
    rfl
  · obtain ⟨y, rfl, hy, q⟩ := h
    refine ⟨_, (pss_one (ps_ret (pe_join pe_str (pe_callB (cr_sortText rfl) (by rfl) T.b_sorted (by decide +kernel) (pa_cons (pv 0) pa_nil))))), ?_⟩
    refine ⟨⟨_, rfl⟩, _, rfl, y, rfl, hy, fun ys p pm so np => ?_⟩
    obtain ⟨z, rfl, hz⟩ := ys_signs pm
    refine ⟨_, p, _, rfl, rfl, .inl (SqL.of upd_same), ?_, ?_⟩
    · rw [sign_sum, signs_length, show (PySem.Str.ofString "").length = 0 by decide +kernel]
      have : z.cps.size = y.cps.size := by rw [← Array.length_toList, hz.length_eq, Array.length_toList]
      omega
    · rw [join_signs, tidy_of pm so]
      exact q _ (same_new np)
theorem Lot.fine {ys : List Str} {y z : Str} (L : Lot ys y) (ly : Lett y) (h3 : 3 ≤ y.cps.size) (h6 : y.cps.size ≤ 6) (hz : z ∈ ys) : z.cps.size = y.cps.size ∧ ordB z = true := by
  have pm := L.of z hz
  have e : z.cps.size = y.cps.size := by rw [← Array.length_toList, pm.length_eq, Array.length_toList]
  have lz := ly.perm pm
  refine ⟨e, ?_⟩
  unfold ordB
  rw [decide_eq_true (show 3 ≤ z.cps.size ∧ z.cps.size ≤ 6 by omega), decide_eq_true lz.1, Bool.true_and, Bool.true_and, List.all_eq_true]
  intro c hc
  have := lz.2 c hc
  rw [decide_eq_true this.1, decide_eq_true this.2] <;> rfl
theorem ok_rah {f fI fT : Addr} {fd fdI fdT : FuncData} (D : DefAt K mg "right_ahead" sRah ["orders"] f fd) (DI : DefAt K mg "is_order" sIsO ["value"] fI fdI) (DT : DefAt K mg "things_of" sThO ["order"] fT fdT) (T : Txt mg) (Lm : Lims mg) : FnOk P w K mg base CX0 2 f fd ["orders"] (spRah K) := by
  have GI : FnOk P w K mg base CX0 1 fI fdI ["value"] spIsO := ok_iso DI T Lm
  have GT : FnOk P w K mg base CX0 1 fT fdT ["order"] spThO := ok_tho DT T
  obtain ⟨_, c3⟩ := Lm.c3
  refine D.F.ok scRah (fun vs H Q E h => ?_) (fun cdv A outer sh H vs Q E hr h => ?_)
  · obtain ⟨t, ys, y, rfl, _⟩ := h
    rfl
  · obtain ⟨t, ys, y, rfl, hT, L, ly, h3, h6, hl, q⟩ := h
    refine ⟨_, (pss_cons (ps_for PassesOwn.never rfl (pi_enumT (by rfl) T.b_enumerate (pa_cons (pv 0) pa_nil)) (pg_tup rfl (pgs_cons (pg_name (i := 1) scRah.nd rfl (.inl rfl)) (pgs_cons (pg_name (i := 2) scRah.nd rfl (.inl rfl)) pgs_nil)))
   (pss_cons (ps_if (PW.pt (pw_or (pt_cmpR op_eq (pv 1) (pe_glob (v := .int 48) (by rfl) c3 ⟨_, rfl⟩) (nomark _)) (pw_or1 (pt_not (pt_val (pe_call GI (hr.mono (by decide)) (by rfl) DI.g DI.F.kp DI.b .nil pass0 (pa_cons (pv 2) pa_nil)))))))
   (pss_one (ps_ret (pv 1)))
   pss_nil)
  (pss_cons (ps_if (pt_cmpR op_ne (pe_call GT (hr.mono (by decide)) (by rfl) DT.g DT.F.kp DT.b .nil pass0 (pa_cons (pv 2) pa_nil)) (pe_call GT (hr.mono (by decide)) (by rfl) DT.g DT.F.kp DT.b .nil pass0 (pa_cons (pe_ix ix_tup (pv 0) pe_int (fun _ _ => rfl)) pa_nil)) (nomark _))
   (pss_one (ps_ret (pv 1)))
   pss_nil)
  (pss_one (ps_if (PW.pt (pw_and (pt_cmpR op_gt (pv 1) pe_int (nomark _)) (pw_and1 (pt_cmpR op_le_str (pv 2) (pe_ix ix_tup (pv 0) (pe_op op_sub (pv 1) pe_int) (fun _ _ => rfl)) (nomark _)))))
   (pss_one (ps_ret (pv 1)))
   pss_nil)))))
  (pss_one (ps_ret (pe_callB call_len_seq (by rfl) T.b_len (by decide +kernel) (pa_cons (pv 0) pa_nil))))), ?_⟩
    refine ⟨_, rfl, t, _, rfl, hT, for_it (walk_enumT (xs := ys.map V.str)) (fun i σ H' => ∃ v1 v2, σ = [some (.ref t), v1, v2] ∧ Same H H') ⟨none, none, rfl, fun _ _ z => z⟩ (fun i σ H' _ hP => ?_) (fun i x σ H1 H2 hi hP hY => ?_) (fun σ H' hP => ?_)⟩
    · obtain ⟨_, _, _, sm⟩ := hP
      exact same_seqT hT sm
    · obtain ⟨v1, v2, rfl, sm⟩ := hP
      obtain ⟨T', a, b, rfl, nT, rfl, e1, e2⟩ := hY
      cases e1
      rw [List.length_map] at hi
      have e2 : (ys.map V.str)[i]? = some b := e2
      rw [List.getElem?_map, List.getElem?_eq_getElem hi] at e2
      cases e2
      have zin : ys[i] ∈ ys := List.getElem_mem hi
      obtain ⟨sz, oz⟩ := L.fine ly h3 h6 zin
      have sm1 : Same H (upd H1 T' (.tup [.int (i : Nat), .str ys[i]])) := fun b o e => by
        rw [upd_ne (ne_of_none (sm _ _ e) nT)]
        exact sm _ _ e
      have at_ : ∀ k, (hk : k < ys.length) → atI (ys.map V.str) (k : Int) = some (.str ys[k]) := fun k hk => atI_nat (by rw [List.getElem?_map, List.getElem?_eq_getElem hk] <;> rfl)
      have h0 : 0 < ys.length := L.some
      obtain ⟨sz0, _⟩ := L.fine ly h3 h6 (List.getElem_mem h0)
      refine ⟨T', _, rfl, SqT.of upd_same, rfl, _, _, rfl, _, _, rfl, rfl, ?_⟩
      refine ⟨_, rfl, rfl, _, rfl, ite2 (fun e => absurd (V.int.inj (of_decide_eq_true e)) (by omega)) (fun e => ⟨_, rfl, ys[i], rfl, by omega, fun H3 s3 => ⟨_, rfl, ?_⟩⟩)⟩
      rw [oz]
      have sm3 : Same H H3 := sm1.trans s3
      refine iteF ⟨_, rfl, ys[i], rfl, by omega, fun H4 s4 => ⟨_, rfl, t, _, 0, _, rfl, rfl, same_seqT hT (sm3.trans s4), at_ 0 h0, ys[0], rfl, by omega, fun H5 s5 => ⟨rfl, _, rfl, iteNS (by rw [tidy_same ((L.of _ zin).trans (L.of _ (List.getElem_mem h0)).symm)]) ?_⟩⟩⟩
      have sm5 : Same H H5 := sm3.trans (s4.trans s5)
      refine ⟨_, rfl, _, _, rfl, rfl, _, rfl, ite2 (fun e => ?_) (fun e => iteF ⟨_, _, rfl, sm5⟩)⟩
      have i0 : 0 < i := by
        have := of_decide_eq_true e
        omega
      have e1 : ((i : Int) - 1) = ((i - 1 : Nat) : Int) := by omega
      have up : Below ys[i - 1] ys[i] := L.up.at (i - 1) _ _ (List.getElem?_eq_getElem (by omega)) (by rw [Nat.sub_add_cancel i0]; exact List.getElem?_eq_getElem hi)
      refine ⟨_, rfl, _, rfl, _, rfl, _, _, rfl, rfl, t, _, _, _, rfl, rfl, same_seqT hT sm5, (by show atI _ ((i : Int) - 1) = _; rw [e1]; exact at_ (i - 1) (by omega)), _, _, rfl, rfl, _, rfl, ?_⟩
      have lt : decide (ys[i - 1].cps.toList < ys[i].cps.toList) = true := by rw [← ltCps_eq]; exact up
      rw [lt]
      exact iteF ⟨_, _, rfl, sm5⟩
    · obtain ⟨v1, v2, rfl, sm⟩ := hP
      exact ⟨_, rfl, t, _, rfl, .inr (same_seqT hT sm), by rw [List.length_map]; exact q _ sm⟩
end
end L2.Cal
end

section
set_option maxRecDepth 100000
set_option maxHeartbeats 4000000
/-! what built-in functions and operators ask of an object of an own class -/
namespace L2.Cal
open PySem PySem.Spec PyProof.Rows L2
section
variable {X : Cx} {CX : CXT} {k : Nat} {C f : Addr} {fd : FuncData} {ps : List Str} {sp : Sp} {E : XK} {pins : List (Addr × Obj)} {σ : St} {H : Hp} {s : Shared}
/-- a def at work further in -/
theorem run_at {A : Around} {E' : Value → Shared → Prop} {vs : List V} {us : List Value} {Q : VK} (e0 : Env0 X.prog X.w X.K X.mg X.base A X.stack s H) (hr : Room k A) (I : Inv X pins σ H s) (F : FnOk X.prog X.w X.K X.mg X.base CX k f fd ps sp) (hb : Binds X.K fd ps []) (r : Vals vs us) (hx : Passes CX X.nox E) (h : sp vs H Q E) :
    wpAny (model X.prog X.w) A (call (.ref f) us) (EP X pins σ Q) E' s := by
  have hl : (us ++ []).length = ps.length := by
    rw [List.append_nil, ← F.len _ _ _ _ h]
    exact r.length.symm
  have bind := hb s us I.kIn hl
  rw [List.append_nil] at bind
  refine wpAny_call (codeAny_mono (F.run A X.stack s H ⟨us, []⟩ us vs Q E hr e0 bind r h) fun r s' hq => ?_)
  match r, hq with
  | .error er, hq => exact False.elim (hx pins σ H s er s' (I.wish _) hq)
  | .ok (.ret u), hq => exact I.after hq
theorem ins_at {a dx : Addr} {fs : List (Str × V)} (I : Inv X pins σ H s) (ea : H a = some (.ins C dx fs)) : ∃ ox od, PySem.W.InstAt s.heap a ox C (some od) := by
  obtain ⟨mA, O, _⟩ := ins_get I.hok ea
  obtain ⟨od, J, _⟩ := O.look
  exact ⟨_, od, J⟩
/-- an own method that stands in the class -/
structure Own (K : PySem.W.Frag) (C : Addr) (m : Str) (f : Addr) : Prop where
  at_ : PySem.W.findIn K (.ref C) m = some (some (.ref f))
  fn : PySem.W.typeIn K (.ref f) = some (.type "function")
theorem Own.isFn {K : PySem.W.Frag} {m : Str} (o : Own K C m f) : PySem.W.isFn K (.ref f) = true := beq_iff_eq.mpr o.fn
/-- len(o) -/
def rLenO (C : Addr) (sp : Sp) (E : XK) : List V → Hp → VK → Prop := fun xs H Q => ∃ (a dx : Addr) (fs : List (Str × V)), xs = [.ref a] ∧ H a = some (.ins C dx fs) ∧ sp [.ref a] H (fun v H' => ∃ n : Nat, v = .int n ∧ n < 2 ^ 62 ∧ Q (.int n) H') E
theorem call_lenO (o : Own X.K C "__len__" f) (F : FnOk X.prog X.w X.K X.mg X.base CX k f fd ps sp) (hr : Room (k + 1) X.A) (hb : Binds X.K fd ps []) (hx : Passes CX X.nox E) : CallR X (.builtin "len") (rLenO C sp E) := by
  intro pins s σ H xs us Q I r h
  obtain ⟨a, dx, fs, rfl, ea, h⟩ := h
  rw [Vals.ref1 r]
  obtain ⟨ox, od, J⟩ := ins_at I ea
  refine Calls.call_function_entry kind_len plain_len entry_len (args_len1 _) ?_
  unfold Builtin.«len»
  refine wpAny_bind (m := oneArg "len" _) (wpAny_pure (wpAny_bind (m := callSpecial? (.ref a) (Str.ofString "__len__")) (PySem.W.special_fn I.kIn J o.at_ o.fn (wpAny_mono (run_at (A := X.A.in1) I.env0.in1 hr.in1 (vs := [.ref a]) I F hb (.cons rfl .nil) hx h) (fun u s' hq => ?_) fun _ _ z => z))))
  obtain ⟨v, H', I', rv, n, rfl, lt, q⟩ := hq
  obtain ⟨t, rfl⟩ := rv
  refine wpAny_bind (wpAny_holding (wpAny_pure (wpAny_bind (wpAny_letGo ?_))))
  show wpAny _ _ (if ((n : Int) < 0) then _ else _) _ _ _
  rw [if_neg (by omega)]
  show wpAny _ _ (if ((n : Int) ≥ 2 ^ 63) then _ else _) _ _ _
  rw [if_neg (by omega)]
  exact wpAny_bind (wpAny_mkInt (wpAny_pure ⟨_, rfl, .int n, H', I'.tok _, ⟨_, rfl⟩, q⟩))
/-- str(o) -/
def rStrO (C : Addr) (sp : Sp) (E : XK) : List V → Hp → VK → Prop := fun xs H Q => ∃ (a dx : Addr) (fs : List (Str × V)), xs = [.ref a] ∧ H a = some (.ins C dx fs) ∧ sp [.ref a] H (fun v H' => ∃ y : Str, v = .str y ∧ Q (.str y) H') E
theorem call_strO (o : Own X.K C "__str__" f) (F : FnOk X.prog X.w X.K X.mg X.base CX k f fd ps sp) (hr : Room (k + 2) X.A) (hb : Binds X.K fd ps []) (hx : Passes CX X.nox E) : CallR X (.type "str") (rStrO C sp E) := by
  intro pins s σ H xs us Q I r h
  obtain ⟨a, dx, fs, rfl, ea, h⟩ := h
  rw [Vals.ref1 r]
  obtain ⟨ox, od, J⟩ := ins_at I ea
  refine PySem.W.kso_call (by have := hr.in1.in1.units; omega) I.kIn J o.at_ o.isFn (wpAny_mono (run_at (A := X.A.in1.in1) I.env0.in1.in1 hr.in1.in1 (vs := [.ref a]) I F hb (.cons rfl .nil) hx h) (fun u s' hq => ?_) fun _ _ z => z)
  obtain ⟨v, H', I', rv, y, rfl, q⟩ := hq
  obtain ⟨t, rfl⟩ := rv
  exact ⟨.str y, H', I', ⟨t, rfl⟩, q⟩
/-- x in o -/
def rInO (C : Addr) (sp : Sp) (E : XK) : V → V → Hp → VK → Prop := fun x y H Q => ∃ (a dx : Addr) (fs : List (Str × V)), y = .ref a ∧ H a = some (.ins C dx fs) ∧ sp [.ref a, x] H (fun v H' => ∃ b : Bool, v = .bl b ∧ Q (.bl b) H') E
theorem op_inO (o : Own X.K C "__contains__" f) (F : FnOk X.prog X.w X.K X.mg X.base CX k f fd ps sp) (hr : Room k X.A) (hb : Binds X.K fd ps []) (hx : Passes CX X.nox E) : OpR X (compareOp .In) (rInO C sp E) := by
  intro pins s σ H x y v u Q I rx ry h
  obtain ⟨a, dx, fs, rfl, ea, h⟩ := h
  cases ry
  obtain ⟨ox, od, J⟩ := ins_at I ea
  refine wpAny_bind (m := contains _ _) ?_
  unfold contains
  refine wpAny_holding (wpAny_bind (wpAny_bind (J.type.here ((PySem.W.looks_findIn I.kIn o.at_).here ?_))))
  rw [if_neg (by simp)]
  refine wpAny_bind (PySem.W.unlessNone_K I.kIn J o.at_ o.isFn (wpAny_mono (run_at (vs := [.ref a, x]) I.env0 hr I F hb (.cons rfl (.cons rx .nil)) hx h) (fun u s' hq => ?_) fun _ _ z => z))
  obtain ⟨v', H', I', rv, b, rfl, q⟩ := hq
  cases rv
  exact wpAny_pure (wpAny_pure ⟨.bl b, H', I', rfl, q⟩)
end
end L2.Cal
end

section
set_option maxRecDepth 100000
set_option maxHeartbeats 4000000
namespace L2.Cal
open PySem PySem.Spec PyProof.Rows L2
section
variable {X : Cx} {CX : CXT} {k : Nat} {C f : Addr} {fd : FuncData} {ps : List Str} {sp : Sp} {E : XK} {pins : List (Addr × Obj)} {σ : St} {H : Hp} {s : Shared}
/-- o == y, o's own `__eq__` asked first -/
def rEqO (K : PySem.W.Frag) (C : Addr) (sp : Sp) (E : XK) (g : Bool → Bool) : V → V → Hp → VK → Prop := fun x y H Q => ∃ (a dx : Addr) (fs : List (Str × V)) (t : Value), x = .ref a ∧ H a = some (.ins C dx fs) ∧ TyX K H y t ∧ PySem.W.notFirst K C t = true ∧
  sp [.ref a, y] H (fun v H' => ∃ b : Bool, v = .bl b ∧ Q (.bl (g b)) H') E
theorem op_eqO (o : Own X.K C "__eq__" f) (F : FnOk X.prog X.w X.K X.mg X.base CX k f fd ps sp) (hr : Room k X.A) (hb : Binds X.K fd ps []) (hx : Passes CX X.nox E) : OpR X (compareOp .Eq) (rEqO X.K C sp E id) := by
  intro pins s σ H x y v u Q I rx ry h
  obtain ⟨a, dx, fs, t, rfl, ea, ty, nf, h⟩ := h
  cases rx
  obtain ⟨ox, od, J⟩ := ins_at I ea
  obtain ⟨Pt, kt, hP, _⟩ := kit_of I ry ty
  obtain ⟨m, hF⟩ := I.fr
  refine PySem.W.cmp_K (op := .Eq) hr.units0 hF I.ok.mod.kin J (kt.ty _ _ I.kIn hP) nf o.at_ o.isFn (wpAny_mono (run_at (vs := [.ref a, y]) I.env0 hr I F hb (.cons rfl (.cons ry .nil)) hx h) (fun u' s' hq => ?_) fun _ _ z => z)
  obtain ⟨v', H', I', rv, b, rfl, q⟩ := hq
  cases rv
  exact ⟨.bl b, H', I', rfl, q⟩
/-- o's `__ne__` is object's, which asks o's own `__eq__` -/
theorem try_ne {a dx : Addr} {fs : List (Str × V)} {y : V} {u : Value} {Q : VK} (o : Own X.K C "__eq__" f) (hne : PySem.W.findIn X.K (.ref C) "__ne__" = some (some (.builtin "object.__ne__"))) (hob : PySem.W.mroIn X.K C (.type "object") = some true)
    (F : FnOk X.prog X.w X.K X.mg X.base CX k f fd ps sp) (hr : Room (k + 1) X.A) (hb : Binds X.K fd ps []) (hx : Passes CX X.nox E) (I : Inv X pins σ H s) (ea : H a = some (.ins C dx fs)) (ry : RelV y u) (h : sp [.ref a, y] H (fun v H' => ∃ b : Bool, v = .bl b ∧ Q (.bl (!b)) H') E) :
    wpAny (model X.prog X.w) X.A (tryCompare (.ref a) "__ne__" u) (fun r s' => ∃ v, r = some v ∧ EP X pins σ Q v s') X.xe s := by
  obtain ⟨ox, od, J⟩ := ins_at I ea
  have S := PySem.F.cmp_object.ne
  have sub : PySem.W.Looks (model X.prog X.w) s.heap (isInstance (.ref a) (.type "object")) true := J.type.andThen (PySem.W.looks_mroIn I.kIn hob)
  have body : wpAny (model X.prog X.w) X.A (call (.builtin "object.__ne__") [.ref a, u]) (fun v s' => ∃ (b : Bool) (H' : Hp), v = .bool b ∧ Inv X pins σ H' s' ∧ Q (.bl b) H') X.xe s := by
    refine wpAny_call (codeAny_call_builtin S.plain PySem.F.cmpEntry_ne (@PySem.W.check_slot (model X.prog X.w) _ _ s "object.__ne__" "object" "__ne__" (.ref a) [u] [] _ PySem.F.cmpKind_ne PySem.F.cmpSplit_ne sub (PySem.F.cmpArgs_ne _ _) ?_))
    unfold Builtin.«object.__ne__»
    have room : X.A.in1.units < cLine := hr.in1.units0
    have asked : wpAny (model X.prog X.w) X.A.in1 (callSpecialIfBound? (.ref a) (Str.ofString "__eq__") [u]) (fun r s' => ∃ (b : Bool) (H' : Hp), r = some (.bool b) ∧ Inv X pins σ H' s' ∧ Q (.bl (!b)) H') X.xe s := by
      refine PySem.W.ifBound_K I.kIn J o.at_ o.isFn (wpAny_mono (run_at (vs := [.ref a, y]) I.env0.in1 hr.in1 I F hb (.cons rfl (.cons ry .nil)) hx h) (fun u' s' hq => ?_) fun _ _ z => z)
      obtain ⟨v', H', I', rv, b, rfl, q⟩ := hq
      cases rv
      exact ⟨b, H', rfl, I', q⟩
    repeat (first
      | with_reducible refine wpAny_cRoomFor room ?_
      | (refine wpAny_bind (m := callSpecialIfBound? (.ref a) (Str.ofString "__eq__") [u]) (wpAny_mono asked (fun r s' hq => ?_) fun _ _ z => z))
      | wp_step)
    obtain ⟨b, H', rfl, I', q⟩ := hq
    exact wpAny_bind (wpAny_truthy_bool (wpAny_pure ⟨!b, H', rfl, I', q⟩))
  unfold tryCompare callSpecialIfBound? bindSpecialIfBound?
  have fin : wpAny (model X.prog X.w) X.A (call (.builtin "object.__ne__") ([.ref a] ++ [u]) >>= fun v => pure (some v)) (fun r s' => ∃ (b : Bool) (H' : Hp), r = some (.bool b) ∧ Inv X pins σ H' s' ∧ Q (.bl b) H') X.xe s := wpAny_bind (wpAny_mono body (fun v s' z => let ⟨b, H', e, r⟩ := z; wpAny_pure ⟨b, H', congrArg some e, r⟩) fun _ _ z => z)
  refine wpAny_bind (wpAny_mono (Q := fun r s' => ∃ (b : Bool) (H' : Hp), r = some (.bool b) ∧ Inv X pins σ H' s' ∧ Q (.bl b) H') ?_ (fun r s' z => ?_) fun _ _ z => z)
  · refine wpAny_holding (wpAny_bind (wpAny_bind (wpAny_bind (J.type.here ((PySem.W.looks_findIn I.kIn hne).here ?_)))))
    simp only [S.bind]
    refine wpAny_bind (wpAny_askSetting (wpAny_ite ?_))
    split
    · exact wpAny_bind (wpAny_pure (wpAny_pure fin))
    · exact wpAny_tryCatch (wpAny_bind (wpAny_pure (wpAny_pure fin)))
  · obtain ⟨b, H', rfl, I', q⟩ := z
    exact wpAny_pure ⟨_, rfl, .bl b, H', I', rfl, q⟩
theorem op_neO (o : Own X.K C "__eq__" f) (hne : PySem.W.findIn X.K (.ref C) "__ne__" = some (some (.builtin "object.__ne__"))) (hob : PySem.W.mroIn X.K C (.type "object") = some true) (F : FnOk X.prog X.w X.K X.mg X.base CX k f fd ps sp) (hr : Room (k + 1) X.A) (hb : Binds X.K fd ps []) (hx : Passes CX X.nox E) :
    OpR X (compareOp .NotEq) (rEqO X.K C sp E fun b => !b) := by
  intro pins s σ H x y v u Q I rx ry h
  obtain ⟨a, dx, fs, t, rfl, ea, ty, nf, h⟩ := h
  cases rx
  obtain ⟨ox, od, J⟩ := ins_at I ea
  obtain ⟨Pt, kt, hP, _⟩ := kit_of I ry ty
  have ask := try_ne o hne hob F hr hb hx I ea ry h
  show wpAny (model X.prog X.w) X.A (richCompare .NotEq (.ref a) u) (EP X pins σ Q) X.xe s
  unfold richCompare
  simp only [oneThing_ref]
  refine wpAny_holding (wpAny_bind (wpAny_cRoomFor hr.units0 (wpAny_bind (J.type.here (wpAny_bind ((kt.ty _ _ I.kIn hP).here ?_))))))
  split
  · rename_i q
    have e : PySem.W.subIn X.K t (.ref C) = some false := by
      rcases Bool.or_eq_true_iff.mp nf with e | e
      · rw [beq_iff_eq.mp e] at q
        simp at q
      · exact beq_iff_eq.mp e
    refine wpAny_bind ((PySem.W.looks_subIn I.kIn e).here ?_)
    simp only [Bool.false_eq_true, if_false]
    refine wpAny_bind (wpAny_mono ask (fun r s' z => ?_) fun _ _ e => e)
    obtain ⟨v, rfl, hq⟩ := z
    exact wpAny_pure hq
  · refine wpAny_bind (wpAny_pure ?_)
    simp only [Bool.false_eq_true, if_false]
    refine wpAny_bind (wpAny_mono ask (fun r s' z => ?_) fun _ _ e => e)
    obtain ⟨v, rfl, hq⟩ := z
    exact wpAny_pure hq
end
end L2.Cal
end

section
set_option maxRecDepth 100000
set_option maxHeartbeats 4000000
/-! `v == o`, v of a built-in type that declines: o's own `__eq__` is asked -/
namespace L2.Cal
open PySem PySem.Spec PyProof.Rows L2
open PySem.AutoSeq1 (wpAny_loadPart')
section
variable {P : Program} {w : World} {A : Around} {E : Value → Shared → Prop} {s : Shared} {C b dx l : Addr} {Q : Value → Shared → Prop}
theorem nay_list {o : Obj} (hl : s.heap.get? l = some o) (hc : o.cls = .type "list") (no : PySem.W.Looks (model P w) s.heap (isInstance (.ref b) (.type "list")) false) (q : Q .notImplemented s) : wpAny (model P w) A (call (.builtin "list.__eq__") [.ref l, .ref b]) Q E s := by
  refine wpAny_call_entry PySem.F.slot_list_eq ⟨_, hl, hc⟩ PySem.F.entry_list_eq ?_ (PySem.F.args_list_eq_2 _ _)
  unfold Builtin.«list.__eq__»
  repeat (first | with_reducible refine no.here ?_ | wp_step)
  exact ⟨_, rfl, q⟩
theorem nay_tuple {o : Obj} (hl : s.heap.get? l = some o) (hc : o.cls = .type "tuple") (no : PySem.W.Looks (model P w) s.heap (isInstance (.ref b) (.type "tuple")) false) (q : Q .notImplemented s) : wpAny (model P w) A (call (.builtin "tuple.__eq__") [.ref l, .ref b]) Q E s := by
  refine wpAny_call_entry PySem.F.slot_tuple_eq ⟨_, hl, hc⟩ PySem.F.entry_tuple_eq ?_ (PySem.F.args_tuple_eq_2 _ _)
  unfold Builtin.«tuple.__eq__»
  repeat (first | with_reducible refine no.here ?_ | wp_step)
  exact ⟨_, rfl, q⟩
theorem nay_dict {o : Obj} (hl : s.heap.get? l = some o) (hc : o.cls = .type "dict") (no : PySem.W.Looks (model P w) s.heap (isInstance (.ref b) (.type "dict")) false) (q : Q .notImplemented s) : wpAny (model P w) A (call (.builtin "dict.__eq__") [.ref l, .ref b]) Q E s := by
  refine wpAny_call_entry PySem.F.slot_dict_eq ⟨_, hl, hc⟩ PySem.F.entry_dict_eq ?_ (PySem.F.args_dict_eq_2 _ _)
  unfold Builtin.«dict.__eq__»
  repeat (first | with_reducible refine no.here ?_ | wp_step)
  exact ⟨_, rfl, q⟩
theorem nay_none (q : Q .notImplemented s) : wpAny (model P w) A (call (.builtin "NoneType.__eq__") [.none, .ref b]) Q E s := by
  refine wpAny_call_entry PySem.F.slot_NoneType_eq rfl PySem.F.entry_NoneType_eq ?_ (PySem.F.args_NoneType_eq_2 _ _)
  wp_walk
  exact ⟨_, rfl, q⟩
theorem nay_str {y : Str} {t : Tok} (hb : s.heap.get? b = some (PySem.W.instObj C dx)) (q : Q .notImplemented s) : wpAny (model P w) A (call (.builtin "str.__eq__") [.str y t, .ref b]) Q E s := by
  refine wpAny_call_entry PySem.F.slot_str_eq (typeIs_str s y t) PySem.F.entry_str_eq ?_ (PySem.F.args_str_eq_2 _ _)
  wp_walk using wpAny_loadPart' hb, wpAny_load hb
  exact ⟨_, rfl, q⟩
theorem nay_int {i : Int} {t : Tok} (hb : s.heap.get? b = some (PySem.W.instObj C dx)) (q : Q .notImplemented s) : wpAny (model P w) A (call (.builtin "int.__eq__") [.int i t, .ref b]) Q E s := by
  refine wpAny_call_entry PySem.F.slot_int_eq rfl PySem.F.entry_int_eq ?_ (PySem.F.args_int_eq_2 _ _)
  wp_walk using wpAny_loadPart' hb, wpAny_load hb
  exact ⟨_, rfl, q⟩
end
/-- values whose type declines -/
inductive Dcl (H : Hp) : V → String → Prop where
  | non : Dcl H .non "NoneType"
  | int (i : Int) : Dcl H (.int i) "int"
  | str (y : Str) : Dcl H (.str y) "str"
  | lst {l : Addr} {xs : List V} (e : H l = some (.lst xs)) : Dcl H (.ref l) "list"
  | tup {l : Addr} {xs : List V} (e : H l = some (.tup xs)) : Dcl H (.ref l) "tuple"
  | dct {l : Addr} {kvs : List (Key × V)} (e : H l = some (.dK kvs)) : Dcl H (.ref l) "dict"
section
variable {X : Cx} {CX : CXT} {k : Nat} {C f : Addr} {fd : FuncData} {ps : List Str} {sp : Sp} {E : XK} {pins : List (Addr × Obj)} {σ : St} {H : Hp} {s : Shared}
theorem Dcl.ty {K : PySem.W.Frag} {x : V} {T : String} (d : Dcl H x T) : TyX K H x (.type T) := by
  cases d with
  | non => exact .base .non
  | int i => exact .base (.int i)
  | str y => exact .base (.str y)
  | lst e => exact .base (.lst e)
  | tup e => exact .base (.tup e)
  | dct e => exact .base (.dK e)
theorem Dcl.try_ {A : Around} {E' : Value → Shared → Prop} {Q : Option Value → Shared → Prop} {x : V} {v : Value} {T : String} {b dx : Addr} {fs : List (Str × V)} (d : Dcl H x T) (I : Inv X pins σ H s) (rx : RelV x v) (eb : H b = some (.ins C dx fs)) (no : PySem.W.mroIn X.K C (.type T) = some false) (q : Q none s) :
    wpAny (model X.prog X.w) A (tryCompare v "__eq__" (.ref b)) Q E' s := by
  obtain ⟨mA, O, _⟩ := ins_get I.hok eb
  have ob := O.obj
  obtain ⟨od, J, _⟩ := O.look
  have isi : PySem.W.Looks (model X.prog X.w) s.heap (isInstance (.ref b) (.type T)) false := J.type.andThen (PySem.W.looks_mroIn I.kIn no)
  obtain ⟨Pt, kt, hP, _⟩ := kit_of I rx (d.ty (K := X.K))
  cases d with
  | non =>
    cases (show v = Value.none from rx)
    exact wpAny_tryCompare_declines (T := "NoneType") rfl PySem.F.slot_NoneType_eq (nay_none ⟨rfl, q⟩)
  | int i =>
    obtain ⟨t, rfl⟩ := (show ∃ t, v = Value.int i t from rx)
    exact wpAny_tryCompare_declines (T := "int") rfl PySem.F.slot_int_eq (nay_int ob ⟨rfl, q⟩)
  | str y =>
    obtain ⟨t, rfl⟩ := (show ∃ t, v = Value.str y t from rx)
    exact wpAny_tryCompare_declines (T := "str") (typeIs_str s y t) PySem.F.slot_str_eq (nay_str ob ⟨rfl, q⟩)
  | @lst l xs e =>
    cases (show v = Value.ref l from rx)
    obtain ⟨_, _, n, _, h1⟩ := (show ObjOk X.prog X.w H s.heap l (.lst xs) from I.hok l _ e)
    exact wpAny_tryCompare_declines (T := "list") ⟨_, h1, rfl⟩ PySem.F.slot_list_eq (nay_list h1 rfl isi ⟨rfl, q⟩)
  | @tup l xs e =>
    cases (show v = Value.ref l from rx)
    obtain ⟨_, _, _, o, h1, h2, _⟩ := (show ObjOk X.prog X.w H s.heap l (.tup xs) from I.hok l _ e)
    exact wpAny_tryCompare_declines (T := "tuple") ⟨_, h1, h2⟩ PySem.F.slot_tuple_eq (nay_tuple h1 h2 isi ⟨rfl, q⟩)
  | @dct l kvs e =>
    cases (show v = Value.ref l from rx)
    obtain ⟨_, _, vs, _, o, es, ep, h1, h2, _⟩ := (show ObjOk X.prog X.w H s.heap l (.dK kvs) from I.hok l _ e)
    exact wpAny_tryCompare_declines (T := "dict") ⟨_, h1, h2.1⟩ PySem.F.slot_dict_eq (nay_dict h1 h2.1 isi ⟨rfl, q⟩)
/-- v == o -/
def rEqR (K : PySem.W.Frag) (C : Addr) (sp : Sp) (E : XK) : V → V → Hp → VK → Prop := fun x y H Q => ∃ (b dx : Addr) (fs : List (Str × V)) (T : String), y = .ref b ∧ H b = some (.ins C dx fs) ∧ Dcl H x T ∧ PySem.W.mroIn K C (.type T) = some false ∧ PySem.W.subIn K (.ref C) (.type T) = some false ∧
  sp [.ref b, x] H (fun v H' => ∃ b : Bool, v = .bl b ∧ Q (.bl b) H') E
theorem op_eqR (o : Own X.K C "__eq__" f) (F : FnOk X.prog X.w X.K X.mg X.base CX k f fd ps sp) (hr : Room k X.A) (hb : Binds X.K fd ps []) (hx : Passes CX X.nox E) : OpR X (compareOp .Eq) (rEqR X.K C sp E) := by
  intro pins s σ H x y v u Q I rx ry h
  obtain ⟨b, dx, fs, T, rfl, eb, d, nm, ns, h⟩ := h
  cases ry
  obtain ⟨ox, od, J⟩ := ins_at I eb
  obtain ⟨Pt, kt, hP, _⟩ := kit_of I rx (d.ty (K := X.K))
  show wpAny (model X.prog X.w) X.A (richCompare .Eq v (.ref b)) (EP X pins σ Q) X.xe s
  have one : oneThing? .Eq v (.ref b) = none := by
    cases d <;> first
      | (cases (show v = Value.none from rx); rfl)
      | (obtain ⟨t, rfl⟩ := (show ∃ t, v = Value.int _ t from rx); rfl)
      | (obtain ⟨t, rfl⟩ := (show ∃ t, v = Value.str _ t from rx); rfl)
      | (cases (show v = Value.ref _ from rx); exact oneThing_ref ..)
  unfold richCompare
  simp only [one]
  refine wpAny_holding (wpAny_bind (wpAny_cRoomFor hr.units0 (wpAny_bind ((kt.ty _ _ I.kIn hP).here (wpAny_bind (J.type.here ?_))))))
  have fin : wpAny (model X.prog X.w) X.A (tryCompare (.ref b) "__eq__" v) (fun r s' => ∃ z, r = some z ∧ EP X pins σ Q z s') X.xe s := by
    unfold tryCompare
    refine wpAny_bind (PySem.W.ifBound_K I.kIn J o.at_ o.isFn (wpAny_mono (run_at (vs := [.ref b, x]) I.env0 hr I F hb (.cons rfl (.cons rx .nil)) hx h) (fun u' s' hq => ?_) fun _ _ z => z))
    obtain ⟨v', H', I', rv, c, rfl, q⟩ := hq
    cases rv
    exact wpAny_pure ⟨_, rfl, .bl c, H', I', rfl, q⟩
  have nt : (Value.type T != Value.ref C) = true := by simp
  rw [if_pos nt]
  refine wpAny_bind ((PySem.W.looks_subIn I.kIn ns).here ?_)
  simp only [Bool.false_eq_true, if_false]
  refine wpAny_bind (m := tryCompare v _ (.ref b)) (d.try_ I rx eb nm ?_)
  simp only [Bool.not_false, if_true]
  refine wpAny_bind (m := tryCompare (.ref b) _ v) (wpAny_mono fin (fun r s' z => ?_) fun _ _ e => e)
  obtain ⟨z, rfl, hq⟩ := z
  exact wpAny_pure hq
end
end L2.Cal
end

section
set_option maxRecDepth 100000
set_option maxHeartbeats 4000000
namespace L2.Cal
open PySem PySem.Spec PyProof.Rows L2
section
variable {X : Cx} {CX : CXT} {k : Nat} {C f : Addr} {fd : FuncData} {ps : List Str} {sp : Sp} {E : XK} {pins : List (Addr × Obj)} {σ : St} {H : Hp} {s : Shared}
/-- truth of an object that has a length -/
theorem truth_len {A : Around} {E' : Value → Shared → Prop} {Q : Bool → Hp → Prop} {a dx : Addr} {fs : List (Str × V)} (e0 : Env0 X.prog X.w X.K X.mg X.base A.in1 X.stack s H) (hr : Room k A.in1) (I : Inv X pins σ H s) (ea : H a = some (.ins C dx fs)) (o : Own X.K C "__len__" f) (nb : PySem.W.findIn X.K (.ref C) "__bool__" = some none)
    (F : FnOk X.prog X.w X.K X.mg X.base CX k f fd ps sp) (hb : Binds X.K fd ps []) (hx : Passes CX X.nox E) (h : sp [.ref a] H (fun v H' => ∃ n : Nat, v = .int n ∧ n < 2 ^ 62 ∧ Q (decide (n ≠ 0)) H') E) :
    wpAny (model X.prog X.w) A (truthy (.ref a)) (fun b s' => ∃ H', Inv X pins σ H' s' ∧ Q b H') E' s := by
  obtain ⟨ox, od, J⟩ := ins_at I ea
  unfold truthy
  refine wpAny_bind (m := callSpecial? (.ref a) (Str.ofString "__bool__")) (wpAny_bind (wpAny_bind (J.type.here ((PySem.W.looks_findIn I.kIn nb).here (wpAny_pure ?_)))))
  refine wpAny_bind (wpAny_bind (J.type.here ((PySem.W.looks_findIn I.kIn o.at_).here ?_)))
  rw [if_neg (by simp)]
  refine wpAny_bind (wpAny_runValue (codeAny_builtin entry_len ?_))
  rw [Around.under_plainId plain_len _]
  unfold Builtin.«len»
  refine wpAny_bind (m := oneArg "len" _) (wpAny_pure (wpAny_bind (m := callSpecial? (.ref a) (Str.ofString "__len__")) (PySem.W.special_fn I.kIn J o.at_ o.fn (wpAny_mono (run_at (vs := [.ref a]) e0 hr I F hb (.cons rfl .nil) hx h) (fun u s' hq => ?_) fun _ _ z => z))))
  obtain ⟨v, H', I', rv, n, rfl, lt, q⟩ := hq
  obtain ⟨t, rfl⟩ := rv
  refine wpAny_bind (wpAny_holding (wpAny_pure (wpAny_bind (wpAny_letGo ?_))))
  show wpAny _ _ (if ((n : Int) < 0) then _ else _) _ _ _
  rw [if_neg (by omega)]
  show wpAny _ _ (if ((n : Int) ≥ 2 ^ 63) then _ else _) _ _ _
  rw [if_neg (by omega)]
  refine wpAny_bind (wpAny_mkInt (wpAny_pure ?_))
  show wpAny _ _ (pure ((n : Int) != 0)) _ _ _
  have e : ((n : Int) != 0) = decide (n ≠ 0) := by
    by_cases c : n = 0
    · subst c; rfl
    · rw [decide_eq_true c]
      exact bne_iff_ne.mpr (by omega)
  rw [e]
  exact wpAny_pure ⟨H', I'.tok _, q⟩
/-- bool(o) -/
def rBoolO (C : Addr) (sp : Sp) (E : XK) : List V → Hp → VK → Prop := fun xs H Q => ∃ (a dx : Addr) (fs : List (Str × V)), xs = [.ref a] ∧ H a = some (.ins C dx fs) ∧ sp [.ref a] H (fun v H' => ∃ n : Nat, v = .int n ∧ n < 2 ^ 62 ∧ Q (.bl (decide (n ≠ 0))) H') E
theorem call_boolO (o : Own X.K C "__len__" f) (nb : PySem.W.findIn X.K (.ref C) "__bool__" = some none) (F : FnOk X.prog X.w X.K X.mg X.base CX k f fd ps sp) (hr : Room (k + 3) X.A) (hb : Binds X.K fd ps []) (hx : Passes CX X.nox E) : CallR X (.type "bool") (rBoolO C sp E) := by
  intro pins s σ H xs us Q I r h
  obtain ⟨a, dx, fs, rfl, ea, h⟩ := h
  rw [Vals.ref1 r]
  have tr : ∀ E', wpAny (model X.prog X.w) X.A.in1.in1 (truthy (.ref a)) (fun b s' => ∃ H', Inv X pins σ H' s' ∧ Q (.bl b) H') E' s := fun E' => truth_len (Q := fun b H' => Q (.bl b) H') I.env0.in1.in1.in1 hr.in1.in1.in1 I ea o nb F hb hx h
  refine callType_codes (T := "bool") (Bi := Builtin.«object.__init__») (Q₁ := fun r s₁ => ∃ (b : Bool) (H' : Hp), r = .bool b ∧ Inv X pins σ H' s₁ ∧ Q (.bl b) H') PySem.F.called_bool (PySem.F.typeCall_bool_1 _) PySem.F.entry_object_init ?_ ?_
  · refine codeAny_of_tree ?_
    show wpAny _ X.A.in1.in1 (do checkBuiltinCall "bool.__new__" ⟨[.type "bool", .ref a], []⟩; again (.builtin "bool.__new__" ⟨[.type "bool", .ref a], []⟩)) _ _ s
    refine wpAny_bind (wpAny_of_eq (PySem.F.newCall_bool_1 _) (wpAny_pure ⟨plainId_quiet (by decide +kernel) _, codeAny_builtin PySem.F.entry_bool_new ?_⟩))
    rw [Around.under_plainId (by decide +kernel) _]
    unfold Builtin.«bool.__new__»
    have below := PySem.F.conv_sub_bool
    generalize hT : truthy = T
    repeat (first | assumption | wp_step)
    subst hT
    refine wpAny_mono (tr _) (fun b s' hq => ?_) fun _ _ z => z
    obtain ⟨H', I', q⟩ := hq
    exact wpAny_pure ⟨b, H', rfl, I', q⟩
  · rintro obj s₁ ⟨b, H', rfl, I', q⟩
    exact ⟨rfl, PySem.F.args_object_init_2 _ _, object_init_meets PySem.F.called_bool.init.lookup PySem.F.called_bool.made (by decide) X.prog X.w X.A.in1 _ s₁ ⟨rfl, rfl, ⟨.bl b, H', I', rfl, q⟩⟩⟩
end
end L2.Cal
end

section
set_option maxRecDepth 100000
set_option maxHeartbeats 4000000
namespace L2.Cal
open PySem PySem.Spec PyProof.Rows L2
def clsBody (s : Stmt) : List Stmt := match s with
  | .ClassDef _ _ _ b _ _ _ _ _ _ _ => b
  | _ => []
def methS (j : Nat) : Stmt := (clsBody (topS 24)).getD j (.Pass ⟨0, 0, 0, 0⟩)
abbrev sIni : Stmt := methS 0
theorem scIni : FnScope ["self", "orders", "right"] ["self", "orders"] (defScope sIni) := ⟨rfl, rfl, rfl, by decide +kernel, rfl, by decide +kernel, by decide +kernel⟩
abbrev sOrd : Stmt := methS 2
theorem scOrd : FnScope ["self"] ["self"] (defScope sOrd) := ⟨rfl, rfl, rfl, by decide +kernel, rfl, by decide +kernel, by decide +kernel⟩
abbrev sThi : Stmt := methS 3
theorem scThi : FnScope ["self"] ["self"] (defScope sThi) := ⟨rfl, rfl, rfl, by decide +kernel, rfl, by decide +kernel, by decide +kernel⟩
abbrev sLen : Stmt := methS 4
theorem scLen : FnScope ["self"] ["self"] (defScope sLen) := ⟨rfl, rfl, rfl, by decide +kernel, rfl, by decide +kernel, by decide +kernel⟩
abbrev sStr : Stmt := methS 5
theorem scStr : FnScope ["self"] ["self"] (defScope sStr) := ⟨rfl, rfl, rfl, by decide +kernel, rfl, by decide +kernel, by decide +kernel⟩
abbrev sCon : Stmt := methS 6
theorem scCon : FnScope ["self", "x"] ["self", "x"] (defScope sCon) := ⟨rfl, rfl, rfl, by decide +kernel, rfl, by decide +kernel, by decide +kernel⟩
abbrev sEqu : Stmt := methS 7
theorem scEqu : FnScope ["self", "other"] ["self", "other"] (defScope sEqu) := ⟨rfl, rfl, rfl, by decide +kernel, rfl, by decide +kernel, by decide +kernel⟩
/-- what the class is asked for -/
structure RollC (K : PySem.W.Frag) (mg : Str → Option Value) (C : Addr) : Prop where
  g : mg "Roll" = some (.ref C)
  cls : Cls K C
  no1 : NoAttr K C "_orders"
  no2 : NoAttr K C "_things"
  dcl : PySem.W.findIn K (.ref C) "__class__" = some (some (.builtin "object.__class__"))
  dget : PySem.W.specialIn K (.builtin "object.__class__") "__get__" = some (some (.builtin "getset_descriptor.__get__"))
  dtk : PySem.W.takesIn K (.builtin "object.__class__") = some true
  mobj : PySem.W.mroIn K C (.type "object") = some true
/-- a roll's fields: its two and no others -/
abbrev Flds := { fs : List (Str × V) // ∀ f : Str, f ≠ "_orders" → f ≠ "_things" → fs.lookup f = none }
def RollAt (C : Addr) (H : Hp) (a t : Addr) (z : Str) : Prop := ∃ (dx : Addr) (fs : Flds), H a = some (.ins C dx fs.1) ∧ fs.1.lookup ("_orders" : Str) = some (.ref t) ∧ fs.1.lookup ("_things" : Str) = some (.str z)
theorem RollAt.same {C : Addr} {H H' : Hp} {a t : Addr} {z : Str} (r : RollAt C H a t z) (s : Same H H') : RollAt C H' a t z := by
  obtain ⟨dx, fs, h, r⟩ := r
  exact ⟨dx, fs, s _ _ h, r⟩
/-- a lot that a roll takes -/
structure Good (ys : List Str) (y : Str) : Prop where
  lot : Lot ys y
  let_ : Lett y
  h3 : 3 ≤ y.cps.size
  h6 : y.cps.size ≤ 6
  few : ys.length ≤ 48
theorem seqT_off {K : PySem.W.Frag} {a t C dx : Addr} {fs : List (Str × V)} {H H' : Hp} {xs : List V} (h : SqT K H t xs) (ha : H a = some (.ins C dx fs)) (k : ∀ b o, b ≠ a → H b = some o → H' b = some o) : SqT K H' t xs := by
  rcases h with (z | ⟨o, z⟩) | z
  · exact .inl (.inl (k _ _ (fun e => by rw [e, ha] at z; cases z) z))
  · exact .inl (.inr ⟨o, k _ _ (fun e => by rw [e, ha] at z; cases z) z⟩)
  · exact .inr z
def spIni (K : PySem.W.Frag) (C : Addr) : Sp := fun vs H Q _ => ∃ (a t dx : Addr) (ys : List Str) (y : Str), vs = [.ref a, .ref t] ∧ H a = some (.ins C dx []) ∧ SqT K H t (ys.map V.str) ∧ TyX K H (.ref t) (.type "tuple") ∧ Good ys y ∧
  ∀ H' : Hp, (∀ b o, b ≠ a → H b = some o → H' b = some o) → RollAt C H' a t (tidy y) → Q .non H'
def spOrd (C : Addr) : Sp := fun vs H Q _ => ∃ (a t : Addr) (z : Str), vs = [.ref a] ∧ RollAt C H a t z ∧ Q (.ref t) H
def spThi (C : Addr) : Sp := fun vs H Q _ => ∃ (a t : Addr) (z : Str), vs = [.ref a] ∧ RollAt C H a t z ∧ Q (.str z) H
def spLen (K : PySem.W.Frag) (C : Addr) : Sp := fun vs H Q _ => ∃ (a t : Addr) (z : Str) (xs : List V), vs = [.ref a] ∧ RollAt C H a t z ∧ SqT K H t xs ∧ Q (.int xs.length) H
def spStr (K : PySem.W.Frag) (C : Addr) : Sp := fun vs H Q _ => ∃ (a t : Addr) (z : Str) (ys : List Str), vs = [.ref a] ∧ RollAt C H a t z ∧ SqT K H t (ys.map V.str) ∧ (ys.map (·.length)).sum + ys.length ≤ 10000 ∧ Q (.str (Txt.join (PySem.Str.ofString "\n") ys)) H
section
variable {P : Program} {w : World} {K : PySem.W.Frag} {mg : Str → Option Value} {base : Heap} {C : Addr}
theorem ok_ini {f fR fT : Addr} {fd fdR fdT fdI : FuncData} (F : Fun K "__init__" "Roll.__init__" sIni f fd) (DR : DefAt K mg "right_ahead" sRah ["orders"] fR fdR) {fI : Addr} (DI : DefAt K mg "is_order" sIsO ["value"] fI fdI) (DT : DefAt K mg "things_of" sThO ["order"] fT fdT) (T : Txt mg) (Lm : Lims mg) (R : RollC K mg C) :
    FnOk P w K mg base CX0 3 f fd ["self", "orders"] (spIni K C) := by
  have GT : FnOk P w K mg base CX0 1 fT fdT ["order"] spThO := ok_tho DT T
  have GR : FnOk P w K mg base CX0 2 fR fdR ["orders"] (spRah K) := ok_rah DR DI DT T Lm
  refine F.ok scIni (fun vs H Q E h => ?_) (fun cdv A outer sh H vs Q E hr h => ?_)
  · obtain ⟨a, t, dx, ys, y, rfl, _⟩ := h
    rfl
  · obtain ⟨a, t, dx, ys, y, rfl, ha, hT, ty, G, q⟩ := h
    refine ⟨_, (pss_cons (ps_if (PW.pt (pw_or (pt_not (pt_val (pe_callB call_isi (by rfl) T.b_isinstance (by decide +kernel) (pa_cons (pv 1) (pa_cons (pe_bty (n := "tuple") (by rfl) T.b_tuple (by decide +kernel)) pa_nil))))) (pw_or1 (pt_cmpR op_eq (pe_callB call_len_seq (by rfl) T.b_len (by decide +kernel) (pa_cons (pv 1) pa_nil)) pe_int (nomark _)))))
   (pss_one ps_never)
   pss_nil)
  (pss_cons (ps_set (i := 2) scIni.nd rfl (.inl rfl) (pe_call GR (hr.mono (by decide)) (by rfl) DR.g DR.F.kp DR.b .nil pass0 (pa_cons (pv 1) pa_nil)))
  (pss_cons (ps_if (pt_cmpR op_lt (pv 2) (pe_callB call_len_seq (by rfl) T.b_len (by decide +kernel) (pa_cons (pv 1) pa_nil)) (nomark _))
   (pss_one ps_never)
   pss_nil)
  (pss_cons (ps_fld (pv 0) (pv 1) rfl)
  (pss_one (ps_fld (pv 0) (pe_call GT (hr.mono (by decide)) (by rfl) DT.g DT.F.kp DT.b .nil pass0 (pa_cons (pe_ix ix_tup (pv 1) pe_int (fun _ _ => rfl)) pa_nil)) rfl)))))), ?_⟩
    have h0 : 0 < ys.length := G.lot.some
    refine ⟨_, rfl, .ref t, .ty "tuple", .type "tuple", .type "tuple", true, rfl, .ty _, ty, rfl, true, rfl, iteF ?_⟩
    refine ⟨_, rfl, t, _, rfl, .inr hT, rfl, _, rfl, ite2 (fun e => ?_) (fun e => ?_)⟩
    · have := V.int.inj (of_decide_eq_true e)
      rw [List.length_map] at this
      omega
    refine ⟨_, rfl, t, ys, y, rfl, hT, G.lot, G.let_, G.h3, G.h6, G.few, fun H1 s1 => ?_⟩
    refine ⟨_, rfl, _, rfl, t, _, rfl, .inr (same_seqT hT s1), _, _, rfl, rfl, _, rfl, ite2 (fun e => ?_) (fun e => ?_)⟩
    · have := of_decide_eq_true e
      rw [List.length_map] at this
      omega
    refine ⟨_, rfl, _, rfl, a, C, dx, [], rfl, s1 _ _ ha, R.cls, R.no1, by decide, ?_⟩
    have off : ∀ b o, b ≠ a → H1 b = some o → (upd H1 a (.ins C dx (putF "_orders" (.ref t) []))) b = some o := fun b o n e => by rw [upd_ne n]; exact e
    have hT2 := seqT_off (same_seqT hT s1) (s1 _ _ ha) off
    have at0 : atI (ys.map V.str) 0 = some (.str ys[0]) := atI_nat (j := 0) (by rw [List.getElem?_map, List.getElem?_eq_getElem h0] <;> rfl)
    obtain ⟨sz0, _⟩ := G.lot.fine G.let_ G.h3 G.h6 (List.getElem_mem h0)
    refine ⟨_, rfl, t, _, 0, _, rfl, rfl, hT2, at0, ys[0], rfl, (by have := G.h6; omega), fun H2 s2 => ⟨_, rfl, a, C, dx, _, rfl, s2 _ _ upd_same, R.cls, R.no2, Nat.lt_of_le_of_lt (length_putF _ _ _) (by decide), ?_⟩⟩
    rw [tidy_same (G.lot.of _ (List.getElem_mem h0))]
    refine q _ (fun b o n e => ?_) ⟨dx, ⟨putF "_things" (.str (tidy y)) (putF "_orders" (.ref t) []), fun f n1 n2 => (lookup_putF ..).trans ((if_neg n2).trans ((lookup_putF ..).trans ((if_neg n1).trans rfl)))⟩, upd_same, ?_, ?_⟩
    · rw [upd_ne n]
      exact s2 _ _ (off b o n (s1 _ _ e))
    · rw [lookup_putF, if_neg (by decide), lookup_putF, if_pos rfl]
    · rw [lookup_putF, if_pos rfl]
theorem ok_ord {f : Addr} {fd : FuncData} (F : Fun K "orders" "Roll.orders" sOrd f fd) (R : RollC K mg C) : FnOk P w K mg base CX0 1 f fd ["self"] (spOrd C) := by
  refine F.ok scOrd (fun vs H Q E h => ?_) (fun cdv A outer sh H vs Q E hr h => ?_)
  · obtain ⟨a, t, z, rfl, _⟩ := h
    rfl
  · obtain ⟨a, t, z, rfl, ⟨dx, fs, ha, l1, l2⟩, q⟩ := h
    exact ⟨_, (pss_one (ps_ret (pe_fld (pv 0) rfl))), _, rfl, a, C, dx, fs, _, rfl, ha, R.cls, R.no1, l1, q⟩
theorem ok_thi {f : Addr} {fd : FuncData} (F : Fun K "things" "Roll.things" sThi f fd) (R : RollC K mg C) : FnOk P w K mg base CX0 1 f fd ["self"] (spThi C) := by
  refine F.ok scThi (fun vs H Q E h => ?_) (fun cdv A outer sh H vs Q E hr h => ?_)
  · obtain ⟨a, t, z, rfl, _⟩ := h
    rfl
  · obtain ⟨a, t, z, rfl, ⟨dx, fs, ha, l1, l2⟩, q⟩ := h
    exact ⟨_, (pss_one (ps_ret (pe_fld (pv 0) rfl))), _, rfl, a, C, dx, fs, _, rfl, ha, R.cls, R.no2, l2, q⟩
theorem ok_len {f : Addr} {fd : FuncData} (F : Fun K "__len__" "Roll.__len__" sLen f fd) (T : Txt mg) (R : RollC K mg C) : FnOk P w K mg base CX0 1 f fd ["self"] (spLen K C) := by
  refine F.ok scLen (fun vs H Q E h => ?_) (fun cdv A outer sh H vs Q E hr h => ?_)
  · obtain ⟨a, t, z, xs, rfl, _⟩ := h
    rfl
  · obtain ⟨a, t, z, xs, rfl, ⟨dx, fs, ha, l1, l2⟩, hT, q⟩ := h
    exact ⟨_, (pss_one (ps_ret (pe_callB call_len_seq (by rfl) T.b_len (by decide +kernel) (pa_cons (pe_fld (pv 0) rfl) pa_nil)))), _, rfl, a, C, dx, fs, _, rfl, ha, R.cls, R.no1, l1, t, _, rfl, .inr hT, q⟩
theorem ok_str {f : Addr} {fd : FuncData} (F : Fun K "__str__" "Roll.__str__" sStr f fd) (T : Txt mg) (R : RollC K mg C) : FnOk P w K mg base CX0 1 f fd ["self"] (spStr K C) := by
  refine F.ok scStr (fun vs H Q E h => ?_) (fun cdv A outer sh H vs Q E hr h => ?_)
  · obtain ⟨a, t, z, ys, rfl, _⟩ := h
    rfl
  · obtain ⟨a, t, z, ys, rfl, ⟨dx, fs, ha, l1, l2⟩, hT, hl, q⟩ := h
    refine ⟨_, (pss_one (ps_ret (pe_join pe_str (pe_fld (pv 0) rfl)))), ⟨_, rfl⟩, _, rfl, a, C, dx, fs, _, rfl, ha, R.cls, R.no1, l1, _, t, ys, rfl, rfl, .inr hT, ?_, q⟩
    rw [show (PySem.Str.ofString "\n").length = 1 by decide +kernel]
    omega
/-- x is a text of ys -/
def inB : V → List Str → Bool
  | .str y, ys => decide (y ∈ ys)
  | _, _ => false
/-- x in o: only texts are in it -/
def spCon (K : PySem.W.Frag) (C : Addr) : Sp := fun vs H Q _ => ∃ (a t : Addr) (z : Str) (ys : List Str) (x : V) (T : Value) (b : Bool), vs = [.ref a, x] ∧ RollAt C H a t z ∧ SqT K H t (ys.map V.str) ∧ TyX K H x T ∧ PySem.W.kitOne K T (.type "str") = some b ∧ (b = true → ∃ y, x = .str y) ∧
  Q (.bl (b && inB x ys)) H
theorem ok_con {f : Addr} {fd : FuncData} (F : Fun K "__contains__" "Roll.__contains__" sCon f fd) (T : Txt mg) (R : RollC K mg C) : FnOk P w K mg base CX0 1 f fd ["self", "x"] (spCon K C) := by
  refine F.ok scCon (fun vs H Q E h => ?_) (fun cdv A outer sh H vs Q E hr h => ?_)
  · obtain ⟨a, t, z, ys, x, T, b, rfl, _⟩ := h
    rfl
  · obtain ⟨a, t, z, ys, x, Ty, b, rfl, ⟨dx, fs, ha, l1, l2⟩, hT, ty, kit, bt, q⟩ := h
    refine ⟨_, (pss_one (ps_ret (pe_and (pe_callB call_isi (by rfl) T.b_isinstance (by decide +kernel) (pa_cons (pv 1) (pa_cons (pe_bty (n := "str") (by rfl) T.b_str (by decide +kernel)) pa_nil))) (pe_one (pe_cmpR op_in_seq (pv 1) (pe_fld (pv 0) rfl) (by rfl)))))), ?_⟩
    refine ⟨_, rfl, x, .ty "str", Ty, .type "str", b, rfl, .ty _, ty, kit, b, rfl, ?_⟩
    cases b with
    | false => exact iteF q
    | true =>
      obtain ⟨y, rfl⟩ := bt rfl
      refine iteT ⟨_, rfl, _, rfl, a, C, dx, fs, _, rfl, ha, R.cls, R.no1, l1, t, _, rfl, .inr hT, rfl, by simp [List.all_eq_true, flatV], ?_⟩
      have e : inV (.str y) (ys.map V.str) = inB (.str y) ys := by
        unfold inV inB
        rw [Bool.eq_iff_iff, decide_eq_true_eq, List.any_eq_true]
        constructor
        · rintro ⟨v, hv, e⟩
          obtain ⟨y', hy, rfl⟩ := List.mem_map.mp hv
          have : y' = y := by simpa [eqV] using e
          exact this ▸ hy
        · intro hy
          exact ⟨.str y, List.mem_map.mpr ⟨y, hy, rfl⟩, by simp [eqV]⟩
      rw [Bool.true_and, ← e] at q
      exact q
theorem dp_strs {H0 : Hp} : ∀ ys : List Str, DpAll K H0 (ys.map V.str) (ys.map PyData.str)
  | [] => .nil
  | y :: ys => .cons (.str y) (dp_strs ys)
theorem shaped_strs (ys : List Str) (ok : ∀ y, y ∈ ys → PyData.strOk y = true) : SeqAt.shaped (.tuple (ys.map PyData.str)) = true := by
  have lay : ∀ ys : List Str, (∀ y, y ∈ ys → PyData.strOk y = true) → PyData.canLayAll0 (ys.map PyData.str) = true := fun ys => by
    induction ys with
    | nil => intro _; simp [PyData.canLayAll0]
    | cons y ys ih =>
      intro ok
      have h1 := ok y (List.mem_cons_self ..)
      simp [PyData.canLayAll0, PyData.canLay0, h1, ih fun z hz => ok z (List.mem_cons_of_mem _ hz)]
  have deep : ∀ ys : List Str, PyData.depthAll (ys.map PyData.str) = 0 := fun ys => by
    induction ys with
    | nil => simp [PyData.depthAll]
    | cons y ys ih => simp [PyData.depthAll, PyData.depth, ih]
  simp [SeqAt.shaped, PyData.canLay0, lay ys ok, PyData.depth, deep]
theorem eqv_strs (ys zs : List Str) : PyData.eqv (.tuple (ys.map PyData.str)) (.tuple (zs.map PyData.str)) = decide (ys = zs) := by
  have all : ∀ ys zs : List Str, PyData.eqvAll (ys.map PyData.str) (zs.map PyData.str) = decide (ys = zs) := fun ys => by
    induction ys with
    | nil => intro zs; cases zs <;> simp [PyData.eqvAll]
    | cons y ys ih =>
      intro zs
      cases zs with
      | nil => simp [PyData.eqvAll]
      | cons z zs =>
        simp only [List.map_cons, PyData.eqvAll, ih]
        simp [PyData.eqv, show (y == z) = decide (y = z) by rw [Bool.eq_iff_iff]; simp]
  simp [PyData.eqv, all]
/-- o == x -/
def spEqu (K : PySem.W.Frag) (C : Addr) : Sp := fun vs H Q _ => ∃ (a t : Addr) (z : Str) (x : V), vs = [.ref a, x] ∧ RollAt C H a t z ∧
  ((∃ (b t2 : Addr) (z2 : Str) (ys zs : List Str), x = .ref b ∧ RollAt C H b t2 z2 ∧ SqT K H t (ys.map V.str) ∧ SqT K H t2 (zs.map V.str) ∧ (∀ y, y ∈ ys → PyData.strOk y = true) ∧ (∀ y, y ∈ zs → PyData.strOk y = true) ∧ Q (.bl (decide (ys = zs))) H) ∨ (∃ T : Value, TyX K H x T ∧ PySem.W.kitOne K T (.ref C) = some false ∧ Q (.bl false) H))
theorem ok_equ {f : Addr} {fd : FuncData} (F : Fun K "__eq__" "Roll.__eq__" sEqu f fd) (T : Txt mg) (R : RollC K mg C) : FnOk P w K mg base CX0 1 f fd ["self", "other"] (spEqu K C) := by
  refine F.ok scEqu (fun vs H Q E h => ?_) (fun cdv A outer sh H vs Q E hr h => ?_)
  · obtain ⟨a, t, z, x, rfl, _⟩ := h
    rfl
  · obtain ⟨a, t, z, x, rfl, ⟨dx, fs, ha, l1, l2⟩, h⟩ := h
    have hu := hr.units
    refine ⟨_, (pss_one (ps_ret (pe_and (pe_callB call_isi (by rfl) T.b_isinstance (by decide +kernel) (pa_cons (pv 1) (pa_cons (pe_cls (by rfl) R.g) pa_nil))) (pe_one (pe_cmpR (op_eqD hu) (pe_fld (pv 0) rfl) (pe_fld (pv 1) rfl) (nomark _)))))), ?_⟩
    rcases h with ⟨b, t2, z2, ys, zs, rfl, ⟨dx2, fs2, hb, m1, m2⟩, hT, hT2, o1, o2, q⟩ | ⟨Ty, ty, kit, q⟩
    · have ty : TyX K H (.ref b) (.ref C) := .base (.ins hb R.cls R.dcl R.dget R.dtk R.mobj)
      have kit : PySem.W.kitOne K (.ref C) (.ref C) = some true := by unfold PySem.W.kitOne; rw [if_pos (by simp)]
      refine ⟨_, rfl, .ref b, .ref C, .ref C, .ref C, true, rfl, .own C, ty, kit, true, rfl, iteT ?_⟩
      refine ⟨_, rfl, a, C, dx, fs, _, rfl, ha, R.cls, R.no1, l1, _, rfl, b, C, dx2, fs2, _, rfl, hb, R.cls, R.no1, m1, _, _, .tup hT (dp_strs ys), .tup hT2 (dp_strs zs), shaped_strs _ o1, shaped_strs _ o2, ?_⟩
      rw [eqv_strs]
      exact q
    · exact ⟨_, rfl, x, .ref C, Ty, .ref C, false, rfl, .own C, ty, kit, false, rfl, iteF q⟩
end
end L2.Cal
end

section
set_option maxRecDepth 100000
set_option maxHeartbeats 4000000
/-! comprehensions of three clauses -/
namespace L2.C3
open PySem PySem.Spec PyProof.Rows L2
abbrev TB := St → Hp → (Hp → Prop) → Prop
/-- a later clause: its own walk in each turn of the one ahead, Nx behind it -/
def tCl (wi : TI) (g : TG) (tt : TT) (vs : List Nat) (body : TB) : TB := fun σ H Nx => wi σ H fun J H1 => ∃ W : Nat → Nat → Hp → Prop, (∃ m, W 0 m H1) ∧ ∀ i m H, W i m H →
  (J.stop i H ∧ Nx H) ∨ (J.go i H ∧ ∃ N1 : Hp → Prop, (∀ H', N1 H' → ∃ m', m' < m ∧ W (i + 1) m' H') ∧ ∀ x H', J.yld i H x H' → g x (wipe σ vs) H' fun σ2 H2 => wipe σ2 vs = wipe σ vs ∧ tt σ2 H2 fun b H3 => if b = true then body σ2 H3 N1 else N1 H3)
/-- the element is put behind the others -/
def tPut (te : TE) (D : Addr) : TB := fun σ H Nx => te σ H fun y H' => ∃ acc, H' D = some (.lst acc) ∧ acc.length < sizeLine ∧ Nx (upd H' D (.lst (acc ++ [y])))
/-- the first clause -/
def tTop (wi : TI) (g : TG) (tt : TT) (vs : List Nat) (body : Addr → TB) : TE := fun σ H Q => wi σ H fun J H1 => ∀ D, H1 D = none → ∃ W : Nat → Nat → Hp → Prop, (∃ m, W 0 m (upd H1 D (.lst []))) ∧ ∀ i m H, W i m H →
  (J.stop i H ∧ Q (.ref D) H) ∨ (J.go i H ∧ ∃ N1 : Hp → Prop, (∀ H', N1 H' → ∃ m', m' < m ∧ W (i + 1) m' H') ∧ ∀ x H', J.yld i H x H' → g x (wipe σ vs) H' fun σ2 H2 => wipe σ2 vs = wipe σ vs ∧ tt σ2 H2 fun b H3 => if b = true then body D σ2 H3 N1 else N1 H3)
abbrev No : Value → Shared → Prop := fun _ _ => False
section
variable {prog : Program} {w : World} {A : Around} {R : Result → Shared → Prop} {s : Shared} {elt t i1 : Expr} {gs : List Comprehension} {ifs : List Expr} {scope : Scope} {pos p : Pos} {it acc : Value} {env : Env} {k : Nat}
/-- what all turns share -/
abbrev TurnW (prog : Program) (w : World) (A : Around) (env : Env) (t : Expr) (ifs : List Expr) (it : Value) (stop : Shared → Prop) (body next : Shared → Prop) (E : Value → Shared → Prop) (s : Shared) : Prop :=
  wpAny (model prog w) A (pyNext it) (fun r s1 => match r with
    | none => stop s1
    | some v => wpAny (model prog w) A (letOwnedTupleGo t it v) (fun _ s2 => wpAny (model prog w) A (assign t env v) (fun _ s3 =>
        wpAny (model prog w) A (forIn ifs true fun c r => if r = true then do let y ← isTrue c env (eval c env); pure (ForInStep.yield y) else pure (ForInStep.yield r)) (fun y s4 => if y = true then body s4 else next s4) E s3) E s2) E s1) E s
abbrev MidW (prog : Program) (w : World) (A : Around) (e i1 : Expr) (k : Nat) (acc : Value) (env : Env) (E : Value → Shared → Prop) (R : Shared → Prop) (s : Shared) : Prop :=
  wpAny (model prog w) A (eval i1 env) (fun x s1 => wpAny (model prog w) A (pyIter x) (fun j s2 => codeAny (model prog w) A (.compStart e k j acc env) (fun r s3 => match r with | .ok _ => R s3 | .error _ => False) s2) E s1) E s
abbrev EndW (prog : Program) (w : World) (A : Around) (elt : Expr) (acc : Value) (env : Env) (E : Value → Shared → Prop) (R : Shared → Prop) (s : Shared) : Prop :=
  wpAny (model prog w) A (eval elt env) (fun x s1 => wpAny (model prog w) A (call (.builtin "list.append") [acc, x]) (fun _ s2 => R s2) E s1) E s
theorem loop_mid (ht : compTurn (.ListComp elt gs scope pos) k it acc env = (do
      standAt p
      match ← pyNext it with
      | none => pure (.done .next)
      | some v =>
        letOwnedTupleGo t it v
        assign t env v
        let mut ok := true
        for c in ifs do
          if ok then ok ← isTrue c env (eval c env)
        if ok then
          let x ← eval i1 env
          standAt i1.pos
          let x ← foldedSetIterable i1 env x
          let _ ← runOwn (.compStart (.ListComp elt gs scope pos) (k + 1) (← holding [x] (pyIter x)) acc env) env
        again (.compLoop (.ListComp elt gs scope pos) k it acc env)))
    (hs : ∀ x, foldedSetIterable i1 env x = pure x) (I : Nat → Shared → Prop)
    (turn : ∀ n s, I n s → TurnW prog w A env t ifs it (R (.ok .next)) (MidW prog w A (.ListComp elt gs scope pos) i1 (k + 1) acc env (notedBy (model prog w) A env fun e z => R (.error e) z) fun z => ∃ m, m < n ∧ I m z) (fun z => ∃ m, m < n ∧ I m z) (notedBy (model prog w) A env fun e z => R (.error e) z) s)
    (n : Nat) (h : I n s) : codeAny (model prog w) A (.compLoop (.ListComp elt gs scope pos) k it acc env) R s := by
  refine codeAny_loop rfl I (fun n s hI => ?_) n h
  show wpAny _ A (Sem.onRaise (compTurn (.ListComp elt gs scope pos) k it acc env) fun x => do noteFrame x env; theTreesLotGoes x) _ _ s
  refine wpAny_noted ?_
  rw [ht]
  refine wpAny_bind (wpAny_standAt (wpAny_bind (wpAny_mono (turn n s hI) (fun r z1 h1 => ?_) fun _ _ q => q)))
  cases r with
  | none => exact wpAny_pure h1
  | some v =>
    refine wpAny_bind (wpAny_mono h1 (fun _ z2 h2 => wpAny_bind (wpAny_mono h2 (fun _ z3 h3 => wpAny_bind (wpAny_mono h3 (fun y z4 h4 => ?_) fun _ _ q => q)) fun _ _ q => q)) fun _ _ q => q)
    cases y with
    | false => exact wpAny_pure ⟨rfl, h4⟩
    | true =>
      refine wpAny_bind (wpAny_mono h4 (fun x z5 h5 => wpAny_bind (wpAny_standAt (wpAny_bind (wpAny_of_eq (hs x) (wpAny_bind (wpAny_holding (wpAny_mono h5 (fun j z6 h6 => ?_) fun _ _ q => q))))))) fun _ _ q => q)
      refine wpAny_bind (wpAny_runOwn ?_)
      rw [Around.mark_none]
      refine codeAny_mono h6 fun r z7 hr => ?_
      cases r with
      | error e => exact hr.elim
      | ok f => first | exact wpAny_pure ⟨rfl, hr⟩ | exact wpAny_bind (wpAny_pure (wpAny_pure ⟨rfl, hr⟩))
theorem loop_end (ht : compTurn (.ListComp elt gs scope pos) k it acc env = (do
      standAt p
      match ← pyNext it with
      | none => pure (.done .next)
      | some v =>
        letOwnedTupleGo t it v
        assign t env v
        let mut ok := true
        for c in ifs do
          if ok then ok ← isTrue c env (eval c env)
        if ok then
          (do let _ ← call (.builtin "list.append") [acc, ← eval elt env])
        again (.compLoop (.ListComp elt gs scope pos) k it acc env)))
    (I : Nat → Shared → Prop)
    (turn : ∀ n s, I n s → TurnW prog w A env t ifs it (R (.ok .next)) (EndW prog w A elt acc env (notedBy (model prog w) A env fun e z => R (.error e) z) fun z => ∃ m, m < n ∧ I m z) (fun z => ∃ m, m < n ∧ I m z) (notedBy (model prog w) A env fun e z => R (.error e) z) s)
    (n : Nat) (h : I n s) : codeAny (model prog w) A (.compLoop (.ListComp elt gs scope pos) k it acc env) R s := by
  refine codeAny_loop rfl I (fun n s hI => ?_) n h
  show wpAny _ A (Sem.onRaise (compTurn (.ListComp elt gs scope pos) k it acc env) fun x => do noteFrame x env; theTreesLotGoes x) _ _ s
  refine wpAny_noted ?_
  rw [ht]
  refine wpAny_bind (wpAny_standAt (wpAny_bind (wpAny_mono (turn n s hI) (fun r z1 h1 => ?_) fun _ _ q => q)))
  cases r with
  | none => exact wpAny_pure h1
  | some v =>
    refine wpAny_bind (wpAny_mono h1 (fun _ z2 h2 => wpAny_bind (wpAny_mono h2 (fun _ z3 h3 => wpAny_bind (wpAny_mono h3 (fun y z4 h4 => ?_) fun _ _ q => q)) fun _ _ q => q)) fun _ _ q => q)
    cases y with
    | false => exact wpAny_pure ⟨rfl, h4⟩
    | true => exact wpAny_bind (wpAny_bind (wpAny_mono h4 (fun x z5 h5 => wpAny_bind (wpAny_mono h5 (fun _ z6 h6 => wpAny_pure (wpAny_pure ⟨rfl, h6⟩)) fun _ _ q => q)) fun _ _ q => q))
/-- a later clause begins -/
theorem start_by {c : Comprehension} (hk : gs[k]? = some c) (hna : c.is_async = 0) (h0 : codeAny (model prog w) A (.compLoop (.ListComp elt gs scope pos) k it acc env) R s)
    (h : wpAny (model prog w) A (pyIter it) (fun j z => codeAny (model prog w) A (.compLoop (.ListComp elt gs scope pos) k j acc env) R z) (notedBy (model prog w) A env fun x z => R (.error x) z) s) :
    codeAny (model prog w) A (.compStart (.ListComp elt gs scope pos) k it acc env) R s := by
  refine codeAny_of_tree ?_
  show wpAny _ _ (Sem.onRaise (compStart (.ListComp elt gs scope pos) k it acc env) fun x => do noteFrame x env; standAt theWindowsPlace) _ _ s
  refine wpAny_notedAt ?_
  have hcl : (clausesOf (.ListComp elt gs scope pos))[k]? = some c := hk
  unfold compStart
  rw [hcl]
  have ha : (Option.elim (some c) false fun x => x.is_async != 0) = false := by show (c.is_async != 0) = false; rw [hna]; rfl
  simp only [ha, Bool.false_eq_true, if_false]
  show wpAny _ _ (ask >>= _) _ _ s
  refine wpAny_bind (wpAny_askSetting (wpAny_ite ?_))
  split
  · first | exact wpAny_bind (wpAny_pure (wpAny_pure (And.intro rfl h0))) | exact wpAny_pure (And.intro rfl h0)
  · refine wpAny_bind (wpAny_rule ?_)
    show wpAny _ _ (standAt c.iter.pos >>= _) _ _ s
    exact wpAny_bind (wpAny_standAt (wpAny_bind (wpAny_mono h (fun j z q => wpAny_pure (And.intro rfl q)) fun _ _ x => x)))
end

theorem noX {α : Type} {t : Sem α} {Q Q' : α → Shared → Prop} {M : Model} {A : Around} {E : Value → Shared → Prop} {s : Shared} (hx : E = No) (h : wpAny M A t Q E s) (hQ : ∀ a s, Q a s → Q' a s) : wpAny M A t Q' No s := by
  rw [hx] at h
  exact wpAny_mono h hQ fun _ _ z => z
section
variable {prog : Program} {w : World} {A : Around} {E : Value → Shared → Prop}
theorem TurnW.any {env : Env} {t : Expr} {ifs : List Expr} {it : Value} {stop body body' next : Shared → Prop} {s : Shared} (h : TurnW prog w A env t ifs it stop body next No s) (hb : ∀ s, body s → body' s) : TurnW prog w A env t ifs it stop body' next E s := by
  refine wpAny_mono h (fun r s1 h1 => ?_) fun _ _ z => z.elim
  cases r with
  | none => exact h1
  | some v =>
    refine wpAny_mono h1 (fun _ s2 h2 => wpAny_mono h2 (fun _ s3 h3 => wpAny_mono h3 (fun y s4 h4 => ?_) fun _ _ z => z.elim) fun _ _ z => z.elim) fun _ _ z => z.elim
    cases y with
    | false => exact h4
    | true => exact hb _ h4
theorem MidW.any {e i1 : Expr} {k : Nat} {acc : Value} {env : Env} {R : Shared → Prop} {s : Shared} (h : MidW prog w A e i1 k acc env No R s) : MidW prog w A e i1 k acc env E R s :=
  wpAny_mono h (fun _ s1 h1 => wpAny_mono h1 (fun _ _ h2 => h2) fun _ _ z => z.elim) fun _ _ z => z.elim
theorem EndW.any {elt : Expr} {acc : Value} {env : Env} {R : Shared → Prop} {s : Shared} (h : EndW prog w A elt acc env No R s) : EndW prog w A elt acc env E R s :=
  wpAny_mono h (fun _ s1 h1 => wpAny_mono h1 (fun _ _ h2 => h2) fun _ _ z => z.elim) fun _ _ z => z.elim
end
/-- what a turn does behind its tests: slots beyond vs stay -/
def PB (X : Cx) (run : (Shared → Prop) → Shared → Prop) (vs : List Nat) (t : TB) : Prop :=
  ∀ (pins : List (Addr × Obj)) (s : Shared) (σ : St) (H : Hp) (Nx : Hp → Prop) (R : Shared → Prop), Inv X pins σ H s → t σ H Nx →
    (∀ z σ' H', Inv X pins σ' H' z → σ'.length = σ.length → (∀ (j : Nat) v, j ∉ vs → σ[j]? = some (some v) → σ'[j]? = some (some v)) → Nx H' → R z) → run R s
theorem pb_end {X : Cx} {elt : Expr} {te : TE} {D : Addr} (hx : X.xe = No) (he : PE X elt te) : PB X (EndW X.prog X.w X.A elt (.ref D) X.env No) [] (tPut te D) := by
  intro pins s σ H Nx R I h q
  refine noX hx (he.run pins s σ H _ I h) fun u z ⟨y, H', I', r, acc, hD, hz, nx⟩ => ?_
  exact app_ok I' hD hz r fun z2 I2 => q z2 σ _ I2 rfl (fun _ _ _ e => e) nx
/-- how the loop of a clause runs -/
def LoopBy (X : Cx) (e : Expr) (k : Nat) (t : Expr) (ifs : List Expr) (D : Addr) (run : (Shared → Prop) → Shared → Prop) : Prop :=
  ∀ (it : Addr) (R : Result → Shared → Prop) (I : Nat → Shared → Prop) (turn : ∀ n s, I n s → TurnW X.prog X.w X.A X.env t ifs (.ref it) (R (.ok .next)) (run fun z => ∃ m, m < n ∧ I m z) (fun z => ∃ m, m < n ∧ I m z) No s) (n : Nat) (s : Shared), I n s →
    codeAny (model X.prog X.w) X.A (.compLoop e k (.ref it) (.ref D) X.env) R s
theorem turn_go {X : Cx} {t1 : Expr} {ifs : List Expr} {g : TG} {tt : TT} {run : (Shared → Prop) → Shared → Prop} {vs vs1 : List Nat} {t : TB} {it : Addr} {fp : List Addr} {tn : Nat → Heap → Prop} {J : It} {W : Nat → Nat → Hp → Prop} {σ : St} {pins : List (Addr × Obj)} {stop : Shared → Prop} {End : Hp → Prop}
    (hx : X.xe = No) (hc : X.calm = true) (hg : PG X t1 g) (htt : PTs X ifs tt) (pb : PB X run vs1 t) (sub : ∀ j ∈ vs1, j ∈ vs)
    (T : Turn X.prog X.w X.K t1 J fp it tn) (hf : ∀ b ∈ fp, ∀ H', H' b = none → FpOk X pins H' b)
    (turn : ∀ i m H, W i m H → (J.stop i H ∧ End H) ∨ (J.go i H ∧ ∃ N1 : Hp → Prop, (∀ H', N1 H' → ∃ m', m' < m ∧ W (i + 1) m' H') ∧ ∀ x H', J.yld i H x H' → g x (wipe σ vs) H' fun σ2 H2 => wipe σ2 vs = wipe σ vs ∧ tt σ2 H2 fun b H3 => if b = true then t σ2 H3 N1 else N1 H3))
    (q : ∀ z H', Inv X pins (wipe σ vs) H' z → End H' → stop z) (n : Nat) (z : Shared)
    (h : ∃ i H', Inv X pins (wipe σ vs) H' z ∧ tn i z.heap ∧ (∀ b ∈ fp, H' b = none) ∧ W i n H') :
    TurnW X.prog X.w X.A X.env t1 ifs (.ref it) stop (run fun z => ∃ m, m < n ∧ ∃ i H', Inv X pins (wipe σ vs) H' z ∧ tn i z.heap ∧ (∀ b ∈ fp, H' b = none) ∧ W i m H') (fun z => ∃ m, m < n ∧ ∃ i H', Inv X pins (wipe σ vs) H' z ∧ tn i z.heap ∧ (∀ b ∈ fp, H' b = none) ∧ W i m H') No z := by
  obtain ⟨i, H5, I5, st5, n5, w5⟩ := h
  rcases turn i n H5 w5 with ⟨hstop, nx⟩ | ⟨hgo, N1, hN1, step⟩
  · refine thnF (T.done X rfl rfl rfl hc i pins z _ H5 No I5 (fun b hb => hf b hb _ (n5 b hb)) st5 hstop) fun r z2 ⟨hr, I6⟩ => ?_
    subst hr
    exact q z2 H5 I6 nx
  · refine thnF (T.item X rfl rfl rfl hc i pins z _ H5 No I5 (fun b hb => hf b hb _ (n5 b hb)) st5 hgo) fun r z2 ⟨u, hr, h6⟩ => ?_
    subst hr
    refine thnF h6 fun _ z3 ⟨x, H7, I7, r7, y7, st7, n7⟩ => ?_
    have I7' := I7.pinned (fun b hb => hf b hb _ (n7 b hb)) (T.obj _ _ st7)
    refine noX hx (hg.run _ z3 (wipe σ vs) H7 x u _ I7' r7 (step x H7 y7)) fun _ z4 ⟨σ8, H8, I8, hw8, q8⟩ => ?_
    refine noX hx (htt.run _ z4 σ8 H8 _ I8 q8) fun b z5 ⟨H9, I9, q9⟩ => ?_
    have fin : ∀ {z6 : Shared} {σ9 : St} {H' : Hp}, Inv X (pins ++ pinsAt fp z3.heap) σ9 H' z6 → σ9.length = σ8.length → (∀ (j : Nat) v, j ∉ vs1 → σ8[j]? = some (some v) → σ9[j]? = some (some v)) → N1 H' →
        ∃ m, m < n ∧ ∃ i H', Inv X pins (wipe σ vs) H' z6 ∧ tn i z6.heap ∧ (∀ b ∈ fp, H' b = none) ∧ W i m H' := fun {z6 σ9 H'} I' hl hk nx => by
      obtain ⟨m', hm, w'⟩ := hN1 H' nx
      have pin' : ∀ b ∈ fp, ∀ o, z3.heap.get? b = some o → z6.heap.get? b = some o ∧ H' b = none := fun b hb o e => by
        have y := I'.pin (b, o) (List.mem_append_right _ (List.mem_append_right _ (mem_pinsAt hb e)))
        exact ⟨y.1, y.2.1⟩
      refine ⟨m', hm, i + 1, H', I'.unpinned.weak ?_ (fun j v e => ?_), T.keep _ _ _ st7 fun b hb o e => (pin' b hb o e).1, fun b hb => ?_, w'⟩
      · rw [← hw8, wipe_length, hl]
      · rw [← hw8] at e
        obtain ⟨e1, e2⟩ := wipe_some e
        exact hk j v (fun z => e2 (sub j z)) e1
      · obtain ⟨o, e, _⟩ := T.obj _ _ st7 b hb
        exact (pin' b hb o e).2
    cases b with
    | false =>
      simp only [Bool.false_eq_true, if_false] at q9 ⊢
      exact fin I9 rfl (fun _ _ _ e => e) q9
    | true =>
      simp only [if_true] at q9 ⊢
      exact pb _ z5 σ8 H9 N1 _ I9 q9 fun z6 σ' H' I' hl hk nx => fin I' hl hk nx
theorem pb_cl {X : Cx} {elt t1 i1 : Expr} {gs : List Comprehension} {ifs : List Expr} {scope : Scope} {pos : Pos} {k : Nat} {D : Addr} {wi : TI} {g : TG} {tt : TT} {run : (Shared → Prop) → Shared → Prop} {vs vs1 : List Nat} {t : TB} (hx : X.xe = No) (hc : X.calm = true)
    (hk : gs[k]? = some ⟨t1, i1, ifs, 0⟩) (hi : PI X t1 i1 wi) (hg : PG X t1 g) (htt : PTs X ifs tt) (lp : LoopBy X (.ListComp elt gs scope pos) k t1 ifs D run) (pb : PB X run vs1 t) (sub : ∀ j ∈ vs1, j ∈ vs) :
    PB X (MidW X.prog X.w X.A (.ListComp elt gs scope pos) i1 k (.ref D) X.env No) vs (tCl wi g tt vs t) := by
  intro pins s σ H Nx R I h q
  refine noX hx (hi.run pins s σ H _ I h) fun v z1 h1 => noX hx h1 fun j z2 h2 => ?_
  obtain ⟨it, fp, tn, J, H2, e, I2, T, st2, f2, W, ⟨m0, w0⟩, turn⟩ := h2
  subst e
  have loop : codeAny (model X.prog X.w) X.A (.compLoop (.ListComp elt gs scope pos) k (.ref it) (.ref D) X.env) (fun r z => match r with | .ok _ => R z | .error _ => False) z2 := by
    refine lp it _ (fun n z => ∃ i H', Inv X pins (wipe σ vs) H' z ∧ tn i z.heap ∧ (∀ b ∈ fp, H' b = none) ∧ W i n H') (fun n z hh => ?_) m0 z2 ⟨0, H2, I2.weak (wipe_length _ _) (fun j v e => (wipe_some e).1), st2, fun b hb => (f2 b hb).1, w0⟩
    exact turn_go hx hc hg htt pb sub T (fun b hb H' hn => ⟨hn, (f2 b hb).2⟩) turn (fun z3 H' I' nx => q z3 _ H' I' (wipe_length _ _) (fun j v hj e => by rw [wipe_out hj]; exact e) nx) n z hh
  exact start_by hk rfl loop (T.self X.A 0 _ _ _ st2 loop)

section
variable {X : Cx}
/-- a rule for whatever block a comprehension makes -/
abbrev InBlk (X : Cx) (scope : Scope) (p : Cx → Prop) : Prop := ∀ (s : Shared) (H : Hp) (C : Addr) (cl : List (Str × Addr)) (fp : List Addr), p (X.blk s H scope (compEnvC scope cl C X.env) fp)
theorem top_core {pins : List (Addr × Obj)} {s : Shared} {σ : St} {H : Hp} {Q : VK} {elt tg iter : Expr} {ifs : List Expr} {gs : List Comprehension} {scope : Scope} {own : List (Str × Nat)} {vs1 : List Nat} {pos pos' : Pos} {wi : TI} {g : TG} {tt : TT} {t : Addr → TB} {use : Option (Value → Sem Unit)} {Qf : Value → Shared → Prop} {run : Cx → Addr → (Shared → Prop) → Shared → Prop}
    (hc : X.calm = true) (hN : X.N.Nodup) (I : Inv X pins σ H s) (hi : PI X tg iter wi) (ok : BlkOk X.N X.env.scope scope own) (sub : ∀ j ∈ vs1, j ∈ own.map (·.2)) (hs : ∀ x, foldedSetIterable iter X.env x = pure x)
    (hg : InBlk X scope fun Y => PG Y tg g) (ht : InBlk X scope fun Y => PTs Y ifs tt) (hp : InBlk X scope fun Y => ∀ D, PB Y (run Y D) vs1 (t D)) (lp : InBlk X scope fun Y => ∀ D, LoopBy Y (.ListComp elt (⟨tg, iter, ifs, 0⟩ :: gs) scope pos) 0 tg ifs D (run Y D))
    (h : tTop wi g tt (own.map (·.2)) t σ H Q)
    (last : ∀ D C z m H', Inv X pins σ H' z → Q (.ref D) H' → z.heap.Ns C m → FpOk X pins H' C → compPost (model X.prog X.w) X.A X.xe use Qf (.ref D) C (.ok .next) z) :
    wpAny (model X.prog X.w) X.A (comprehension (.ListComp elt (⟨tg, iter, ifs, 0⟩ :: gs) scope pos) scope X.env pos' (newList []) false (eval iter X.env) use) Qf X.xe s := by
  refine wpAny_comprehension_free (use := use) rfl hs (closure_ok fun y hy e => (ok.free y hy e).elim (fun k => I.ok.has _ (.inl k)) fun k => I.ok.has _ (.inr k)) ok.kind (fun y hy e => by rw [ok.uniq y hy, e])
    (thn (hi.run pins s σ H _ I h) fun _ z1 hx => thn hx fun itv z2 h2 => ?_)
  obtain ⟨it, fp, tn, J, H2, e, I2, T, st2, f2, q⟩ := h2
  subst e
  refine wpAny_newObj_type (newEnv_comp ?_) (by show 0 ≤ sizeLine; decide)
  generalize hD : z2.heap.objs.size = D
  obtain ⟨W, ⟨m0, w0⟩, turn⟩ := q D (I2.hok.fresh (Nat.le_of_eq hD))
  generalize hz3 : ({ z2 with heap := z2.heap.push { cls := .type "list", data := .seq ([] : List Value).toArray } } : Shared) = z3
  have kz : ∀ b o, z2.heap.get? b = some o → z3.heap.get? b = some o := fun b o e => by rw [← hz3]; exact Heap.get?_push_of_some _ e
  have I3 : Inv X pins σ (upd H2 D (.lst [])) z3 := by
    rw [← hz3]
    refine I2.laid (t' := z2.toks) (fun b o e => Heap.get?_push_of_some _ e) (Nat.le_of_eq hD) ⟨Nat.zero_le _, [], 0, .nil, ?_⟩
    rw [← hD]; exact Heap.get?_push_size _ rfl
  have f3 : ∀ b ∈ fp, FpOk X pins (upd H2 D (.lst [])) b ∧ b < z3.heap.objs.size := fun b hb => by
    obtain ⟨o, e, _⟩ := T.obj _ _ st2 b hb
    refine ⟨⟨?_, (f2 b hb).2⟩, Heap.lt_size (kz b o e)⟩
    rw [upd_ne (by rw [← hD]; exact Nat.ne_of_lt (Heap.lt_size e))]; exact (f2 b hb).1
  have st3 : tn 0 z3.heap := T.keep _ _ _ st2 fun b _ o e => kz b o e
  have I4 := block_start I3 ok hN f3
  have pg := hg z3 (upd H2 D (.lst [])) z3.heap.objs.size (cellsFrom (z3.heap.objs.size + 1) scope.names (cloFrom X.env.cells scope.names [])) fp
  have pt := ht z3 (upd H2 D (.lst [])) z3.heap.objs.size (cellsFrom (z3.heap.objs.size + 1) scope.names (cloFrom X.env.cells scope.names [])) fp
  have pb := hp z3 (upd H2 D (.lst [])) z3.heap.objs.size (cellsFrom (z3.heap.objs.size + 1) scope.names (cloFrom X.env.cells scope.names [])) fp D
  have pl := lp z3 (upd H2 D (.lst [])) z3.heap.objs.size (cellsFrom (z3.heap.objs.size + 1) scope.names (cloFrom X.env.cells scope.names [])) fp D
  show codeAny _ _ (.compStart (.ListComp elt (⟨tg, iter, ifs, 0⟩ :: gs) scope pos) 0 (.ref it) (.ref D) (compEnvC scope (cellsFrom (z3.heap.objs.size + 1) scope.names (cloFrom X.env.cells scope.names [])) z3.heap.objs.size X.env)) (compPost (model X.prog X.w) X.A X.xe use Qf (.ref D) z3.heap.objs.size) { z3 with heap := pushCells (z3.heap.push { cls := .type "dict", data := .dict #[] }) scope.names }
  generalize hce : compEnvC scope (cellsFrom (z3.heap.objs.size + 1) scope.names (cloFrom X.env.cells scope.names [])) z3.heap.objs.size X.env = ce at I4 pg pt pb pl ⊢
  have cL : ce.locals = z3.heap.objs.size := by subst hce; rfl
  generalize hH3 : upd H2 D (.lst []) = H3 at I3 I4 pg pt pb pl w0 f3
  generalize hz4 : ({ z3 with heap := pushCells (z3.heap.push { cls := .type "dict", data := .dict #[] }) scope.names } : Shared) = z4 at I4 ⊢
  have st4 : tn 0 z4.heap := T.keep _ _ _ st3 fun b _ o e => by rw [← hz4]; exact pushCells_keeps _ _ _ _ (Heap.get?_push_of_some _ e)
  have loop : codeAny (model X.prog X.w) X.A (.compLoop (.ListComp elt (⟨tg, iter, ifs, 0⟩ :: gs) scope pos) 0 (.ref it) (.ref D) ce) (compPost (model X.prog X.w) X.A X.xe use Qf (.ref D) z3.heap.objs.size) z4 := by
    refine pl it _ (fun n z => ∃ i H', Inv (X.blk z3 H3 scope ce fp) [] (wipe σ (own.map (·.2))) H' z ∧ tn i z.heap ∧ (∀ b ∈ fp, H' b = none) ∧ W i n H') (fun n z hh => ?_) m0 z4 ⟨0, H3, I4, st4, fun b hb => (f3 b hb).1.1, w0⟩
    refine turn_go (X := X.blk z3 H3 scope ce fp) rfl hc pg pt pb sub T (fun b hb H' hn => ⟨hn, (I4.ok.exf b hb).1, I4.ok.exfs b hb, .inl hb, fun x c e => (I4.ok.exf b hb).2 x c e, fun p hp => absurd (show p ∈ ([] : List (Addr × Obj)) ++ [] from hp) (by simp)⟩) turn (fun z6 H5 I6 qq => ?_) n z hh
    have I7 : Inv X pins σ H5 z6 := I3.call' (ch := fp) I6.os I6.base I6.hok I6.bare fun b hb => ⟨(f3 b hb).1.2.2.2.1, (f3 b hb).1.2.1, (f3 b hb).1.2.2.2.2.1, (f3 b hb).1.2.2.2.2.2⟩
    have nC : H5 z3.heap.objs.size = none := by
      have y : H5 ce.locals = none := I6.free
      rw [cL] at y; exact y
    obtain ⟨m, hn, _⟩ := I6.loc
    have hn : z6.heap.Ns ce.locals m := hn
    rw [cL] at hn
    exact last D z3.heap.objs.size z6 m H5 I7 qq hn (I3.fpOk (Nat.le_refl _) nC)
  exact codeAny_compStart_list loop (T.self X.A 0 _ _ _ st4 loop)
theorem pe_top {elt tg iter : Expr} {ifs : List Expr} {gs : List Comprehension} {scope : Scope} {own : List (Str × Nat)} {vs1 : List Nat} {pos : Pos} {wi : TI} {g : TG} {tt : TT} {t : Addr → TB} {run : Cx → Addr → (Shared → Prop) → Shared → Prop}
    (hc : X.calm = true) (hN : X.N.Nodup) (hi : PI X tg iter wi) (ok : BlkOk X.N X.env.scope scope own) (sub : ∀ j ∈ vs1, j ∈ own.map (·.2))
    (hg : InBlk X scope fun Y => PG Y tg g) (ht : InBlk X scope fun Y => PTs Y ifs tt) (hp : InBlk X scope fun Y => ∀ D, PB Y (run Y D) vs1 (t D)) (lp : InBlk X scope fun Y => ∀ D, LoopBy Y (.ListComp elt (⟨tg, iter, ifs, 0⟩ :: gs) scope pos) 0 tg ifs D (run Y D)) (hs : ∀ x, foldedSetIterable iter X.env x = pure x := by intro _; rfl) :
    PE X (.ListComp elt (⟨tg, iter, ifs, 0⟩ :: gs) scope pos) (tTop wi g tt (own.map (·.2)) t) := by
  refine ⟨fun pins s σ H Q I h => ?_⟩
  rw [eval_ListComp]
  refine top_core hc hN I hi ok sub hs hg ht hp lp h fun D C z m H' I' q hn f => ⟨m, hn, fun h'' sb => ?_⟩
  obtain ⟨f0, f1, f2, f3, f4, f5⟩ := f
  exact ⟨.ref D, H', I'.turned (t' := z.toks) (fun b o hb e => (sb.2 b hb).trans e) f0 f1 f3 f4 f5, rfl, q⟩
/-- three clauses -/
theorem pe_lc3 {elt t0 i0 t1 i1 t2 i2 : Expr} {f0 f1 f2 : List Expr} {scope : Scope} {own : List (Str × Nat)} {vs1 vs2 : List Nat} {pos : Pos} {w0 w1 w2 : TI} {g0 g1 g2 : TG} {tt0 tt1 tt2 : TT} {te : TE}
    (hc : X.calm = true) (hN : X.N.Nodup) (h0 : PI X t0 i0 w0) (ok : BlkOk X.N X.env.scope scope own) (sub : ∀ j ∈ vs1, j ∈ own.map (·.2)) (sub2 : ∀ j ∈ vs2, j ∈ vs1)
    (hg0 : InBlk X scope fun Y => PG Y t0 g0) (ht0 : InBlk X scope fun Y => PTs Y f0 tt0) (h1 : InBlk X scope fun Y => PI Y t1 i1 w1) (hg1 : InBlk X scope fun Y => PG Y t1 g1) (ht1 : InBlk X scope fun Y => PTs Y f1 tt1)
    (h2 : InBlk X scope fun Y => PI Y t2 i2 w2) (hg2 : InBlk X scope fun Y => PG Y t2 g2) (ht2 : InBlk X scope fun Y => PTs Y f2 tt2) (he : InBlk X scope fun Y => PE Y elt te)
    (hs : ∀ x, foldedSetIterable i0 X.env x = pure x := by intro _; rfl) (hs1 : ∀ env x, foldedSetIterable i1 env x = pure x := by intro _ _; rfl) (hs2 : ∀ env x, foldedSetIterable i2 env x = pure x := by intro _ _; rfl) :
    PE X (.ListComp elt [⟨t0, i0, f0, 0⟩, ⟨t1, i1, f1, 0⟩, ⟨t2, i2, f2, 0⟩] scope pos) (tTop w0 g0 tt0 (own.map (·.2)) fun D => tCl w1 g1 tt1 vs1 (tCl w2 g2 tt2 vs2 (tPut te D))) := by
  refine pe_top (run := fun Y D => MidW Y.prog Y.w Y.A (.ListComp elt [⟨t0, i0, f0, 0⟩, ⟨t1, i1, f1, 0⟩, ⟨t2, i2, f2, 0⟩] scope pos) i1 1 (.ref D) Y.env No) (vs1 := vs1) hc hN h0 ok sub hg0 ht0 (fun s H C cl fp D => ?_) (fun s H C cl fp D it R I turn n z hI => ?_) hs
  · refine pb_cl rfl hc rfl (h1 s H C cl fp) (hg1 s H C cl fp) (ht1 s H C cl fp) (fun it R I turn n z hI => ?_) (pb_cl (elt := elt) (gs := [⟨t0, i0, f0, 0⟩, ⟨t1, i1, f1, 0⟩, ⟨t2, i2, f2, 0⟩]) (scope := scope) (pos := pos) (k := 2) (D := D) rfl hc rfl (h2 s H C cl fp) (hg2 s H C cl fp) (ht2 s H C cl fp) (fun it R I turn n z hI => ?_) (pb_end rfl (he s H C cl fp)) (fun j hj => by cases hj)) sub2
    · exact loop_mid rfl (hs2 _) I (fun n s h => (turn n s h).any fun z y => y.any) n hI
    · exact loop_end rfl I (fun n s h => (turn n s h).any fun z y => y.any) n hI
  · exact loop_mid rfl (hs1 _) I (fun n s h => (turn n s h).any fun z y => y.any) n hI
end
/-- a walk with its places: Pv by the turn and the heap -/
theorem walk_by {J : It} {n : Nat} {G : Hp → Prop} {Y : Nat → Hp → V → Hp → Prop} (w : Walk J n G Y) {g : TG} {tt : TT} {body : TB} {vs : List Nat} {σ : St} {H0 : Hp} {Qd : Hp → Prop} (Pv : Nat → Hp → Prop) (h0 : Pv 0 H0) (hG : ∀ i H, i ≤ n → Pv i H → G H)
    (hs : ∀ i x H H', i < n → Pv i H → Y i H x H' → g x (wipe σ vs) H' fun σ2 H2 => wipe σ2 vs = wipe σ vs ∧ tt σ2 H2 fun b H3 => if b = true then body σ2 H3 (Pv (i + 1)) else Pv (i + 1) H3) (hd : ∀ H, Pv n H → Qd H) :
    ∃ W : Nat → Nat → Hp → Prop, (∃ m, W 0 m H0) ∧ ∀ i m H, W i m H → (J.stop i H ∧ Qd H) ∨ (J.go i H ∧ ∃ N1 : Hp → Prop, (∀ H', N1 H' → ∃ m', m' < m ∧ W (i + 1) m' H') ∧ ∀ x H', J.yld i H x H' → g x (wipe σ vs) H' fun σ2 H2 => wipe σ2 vs = wipe σ vs ∧ tt σ2 H2 fun b H3 => if b = true then body σ2 H3 N1 else N1 H3) := by
  refine ⟨fun i m H => m = n - i ∧ i ≤ n ∧ Pv i H, ⟨n, by simp, Nat.zero_le _, h0⟩, ?_⟩
  rintro i m H ⟨rfl, hi, p⟩
  have q := hG i H hi p
  rcases Nat.lt_or_ge i n with lt | ge
  · exact .inr ⟨w.goes i H lt q, Pv (i + 1), fun H' p' => ⟨n - (i + 1), by omega, rfl, lt, p'⟩, fun x H' y => hs i x H H' lt p (w.yields i H x H' lt q y)⟩
  · cases Nat.le_antisymm hi ge
    exact .inl ⟨w.stops H q, hd H p⟩
end L2.C3
end

section
set_option maxRecDepth 100000
set_option maxHeartbeats 4000000
namespace L2.Cal
open PySem PySem.Spec PyProof.Rows L2
abbrev sChk : Stmt := topS 25
theorem scChk : FnScope ["roll"] ["roll"] (defScope sChk) := ⟨rfl, rfl, rfl, by decide +kernel, rfl, by decide +kernel, by decide +kernel⟩
abbrev sThs : Stmt := topS 33
theorem scThs : FnScope ["things", "a", "b", "c"] ["things"] (defScope sThs) := ⟨rfl, rfl, rfl, by decide +kernel, rfl, by decide +kernel, by decide +kernel⟩
abbrev sSta : Stmt := topS 34
theorem scSta : FnScope ["order", "three", "thing"] ["order", "three"] (defScope sSta) := ⟨rfl, rfl, rfl, by decide +kernel, rfl, by decide +kernel, by decide +kernel⟩
/-- three things as they stand in an order -/
def press (y x : Str) : Str := ⟨(y.cps.toList.filter fun c => decide (c ∈ x.cps.toList)).toArray⟩
def spChk (C : Addr) : Sp := fun vs H Q _ => ∃ (a t : Addr) (z : Str), vs = [.ref a] ∧ RollAt C H a t z ∧ Q .non H
def spThs : Sp := fun vs H Q _ => ∃ y : Str, vs = [.str y] ∧ y.cps.size ≤ 6 ∧ ∀ (p : Addr) (H' : Hp), Same H H' → H p = none → H' p = some (.tup ((tri y.cps.toList).map V.str)) → Q (.ref p) H'
def spSta : Sp := fun vs H Q _ => ∃ y x : Str, vs = [.str y, .str x] ∧ y.cps.size ≤ 6 ∧ ∀ H', Same H H' → Q (.str (press y x)) H'
theorem s3_of (a b c : Nat) : ((⟨#[a]⟩ : Str) ++ ⟨#[b]⟩) ++ ⟨#[c]⟩ = s3 a b c := rfl
section
variable {P : Program} {w : World} {K : PySem.W.Frag} {mg : Str → Option Value} {base : Heap} {C : Addr}
theorem ok_chk {f : Addr} {fd : FuncData} (D : DefAt K mg "check_roll" sChk ["roll"] f fd) (T : Txt mg) (R : RollC K mg C) : FnOk P w K mg base CX0 1 f fd ["roll"] (spChk C) := by
  refine D.F.ok scChk (fun vs H Q E h => ?_) (fun cdv A outer sh H vs Q E hr h => ?_)
  · obtain ⟨a, t, z, rfl, _⟩ := h
    rfl
  · obtain ⟨a, t, z, rfl, ⟨dx, fs, ha, l1, l2⟩, q⟩ := h
    have ty : TyX K H (.ref a) (.ref C) := .base (.ins ha R.cls R.dcl R.dget R.dtk R.mobj)
    have kit : PySem.W.kitOne K (.ref C) (.ref C) = some true := by unfold PySem.W.kitOne; rw [if_pos (by simp)]
    refine ⟨_, pss_one (ps_if (pt_not (pt_val (pe_callB call_isi (by rfl) T.b_isinstance (by decide +kernel) (pa_cons (pv 0) (pa_cons (pe_cls (by rfl) R.g) pa_nil))))) (pss_one ps_never) pss_nil), ?_⟩
    exact ⟨_, rfl, .ref a, .ref C, .ref C, .ref C, true, rfl, .own C, ty, kit, true, rfl, iteF q⟩
theorem ok_ths {f : Addr} {fd : FuncData} (D : DefAt K mg "threes_of" sThs ["things"] f fd) (T : Txt mg) : FnOk P w K mg base CX0 1 f fd ["things"] spThs := by
  refine D.F.ok scThs (fun vs H Q E h => ?_) (fun cdv A outer sh H vs Q E hr h => ?_)
  · obtain ⟨y, rfl, _⟩ := h
    rfl
  · obtain ⟨y, rfl, hy, q⟩ := h
    refine ⟨_, pss_one (ps_ret (pe_callTy call_tuple_of (by rfl) T.b_tuple (by decide +kernel) (pa_cons (C3.pe_lc3 (own := [("a", 1), ("b", 2), ("c", 3)]) (vs1 := [2, 3]) (vs2 := [3]) (g0 := gName 1) (g1 := gName 2) (g2 := gName 3) (tt0 := tYes) (tt1 := tYes) rfl scThs.nd (pi_str (pv 0))
      (blkOk_by (own := [("a", 1), ("b", 2), ("c", 3)]) (N := ["things", "a", "b", "c"]) (sc := defScope sThs) (by decide +kernel)) (by decide) (by decide)
      (fun _ _ _ _ _ => pg_name (i := 1) scThs.nd rfl (Or.inl rfl)) (fun _ _ _ _ _ => pts_nil) (fun _ _ _ _ _ => pi_str (pv 0)) (fun _ _ _ _ _ => pg_name (i := 2) scThs.nd rfl (Or.inl rfl)) (fun _ _ _ _ _ => pts_nil) (fun _ _ _ _ _ => pi_str (pv 0)) (fun _ _ _ _ _ => pg_name (i := 3) scThs.nd rfl (Or.inl rfl))
      (fun _ _ _ _ _ => pts_one (pt_chain op_lt_str op_lt_str (pv 1) (pv 2) (pv 3))) (fun _ _ _ _ _ => pe_op op_add_str (pe_op op_add_str (pv 1) (pv 2)) (pv 3))) pa_nil))), ?_⟩
    generalize hcs : y.cps.toList = cs at q
    have len : cs.length = y.cps.size := by rw [← hcs, Array.length_toList]
    have ix : ∀ {k c : Nat}, y.cps[k]? = some c → cs[k]? = some c := fun h => by rw [← hcs, Array.getElem?_toList]; exact h
    have small : ∀ n : Nat, n ≤ 400 → n < sizeLine := fun n h => by rw [sizeLine_eq]; omega
    have l6 : cs.length ≤ 6 := by omega
    have sq : cs.length * cs.length ≤ 36 := Nat.mul_le_mul l6 l6
    have one : ∀ (X : List Str) (D : Addr) (HH H' : Hp) (v : Str), H D = none → Same H HH → HH D = some (.lst (X.map V.str)) → Same H (upd HH D (.lst (X.map V.str ++ [V.str v]))) ∧ (upd HH D (.lst (X.map V.str ++ [V.str v]))) D = some (.lst ((X ++ [v]).map V.str)) := fun X D HH H' v nD sm eD => by
      refine ⟨fun b o e => ?_, by rw [upd_same, List.map_append] <;> rfl⟩
      rw [upd_ne (ne_of_none e nD)]
      exact sm _ _ e
    refine ⟨_, rfl, y, rfl, fun D nD => C3.walk_by walk_str (fun i H' => Same H H' ∧ H' D = some (.lst (((cs.take i).flatMap (row2 cs)).map V.str))) ⟨same_new nD, upd_same⟩ (fun _ _ _ _ => trivial) (fun i x H1 H2 hi hP hY => ?_) (fun H1 hP => ?_)⟩
    · obtain ⟨sm, eD⟩ := hP
      obtain ⟨rfl, a, ha, rfl⟩ := hY
      refine ⟨rfl, _, rfl, y, rfl, C3.walk_by walk_str (fun j H' => Same H H' ∧ H' D = some (.lst (((cs.take i).flatMap (row2 cs) ++ (cs.take j).flatMap (row3 cs a)).map V.str))) ⟨sm, by rw [eD]; simp⟩ (fun _ _ _ _ => trivial) (fun j x H3 H4 hj hP hY => ?_) (fun H3 hP => ?_)⟩
      · obtain ⟨sm, eD⟩ := hP
        obtain ⟨rfl, b, hb, rfl⟩ := hY
        refine ⟨rfl, _, rfl, y, rfl, C3.walk_by walk_str (fun k H' => Same H H' ∧ H' D = some (.lst ((((cs.take i).flatMap (row2 cs) ++ (cs.take j).flatMap (row3 cs a)) ++ ((cs.take k).filter fun c => decide (a < b) && decide (b < c)).map (s3 a b)).map V.str))) ⟨sm, by rw [eD]; simp⟩ (fun _ _ _ _ => trivial) (fun k x H5 H6 hk hP hY => ?_) (fun H5 hP => ?_)⟩
        · obtain ⟨sm, eD⟩ := hP
          obtain ⟨rfl, c, hc, rfl⟩ := hY
          have st := row3_take (a := a) (b := b) (ix hc)
          have few : ((cs.take i).flatMap (row2 cs) ++ (cs.take j).flatMap (row3 cs a) ++ ((cs.take k).filter fun c => decide (a < b) && decide (b < c)).map (s3 a b)).length ≤ 400 := by
            have h1 := flat_le (cs.take i) (f := row2 cs) (n := 36) fun a _ => Nat.le_trans (row2_len cs a) sq
            have h2 := flat_le (cs.take j) (f := row3 cs a) (n := 6) fun b _ => Nat.le_trans (row3_len cs a b) l6
            have h3 := List.length_filter_le (fun c => decide (a < b) && decide (b < c)) (cs.take k)
            have i1 : (cs.take i).length ≤ 6 := by rw [List.length_take]; omega
            have i2 : (cs.take j).length ≤ 6 := by rw [List.length_take]; omega
            have i3 : (cs.take k).length ≤ 6 := by rw [List.length_take]; omega
            rw [List.length_append, List.length_append, List.length_map]
            omega
          have no : (decide (a < b) && decide (b < c)) = false → Same H H6 ∧ H6 D = some (.lst ((((cs.take i).flatMap (row2 cs) ++ (cs.take j).flatMap (row3 cs a)) ++ ((cs.take (k + 1)).filter fun c => decide (a < b) && decide (b < c)).map (s3 a b)).map V.str)) := fun e => by
            rw [st, e]
            refine ⟨sm, ?_⟩
            rw [eD]
            simp
          refine ⟨rfl, _, rfl, _, rfl, _, _, rfl, rfl, decide (a < b), congrArg V.bl (one_lt a b), ite2 (fun h1 => ⟨_, rfl, _, _, rfl, rfl, decide (b < c), congrArg V.bl (one_lt b c), ite2 (fun h2 => ?_) (fun h2 => ?_)⟩) (fun h1 => ⟨false, rfl, ?_⟩)⟩
          · have put := one _ D H6 H6 (s3 a b c) nD sm eD
            refine ⟨_, rfl, _, rfl, _, _, rfl, rfl, Nat.le_of_lt (small 2 (by omega)), _, rfl, _, _, rfl, rfl, Nat.le_of_lt (small 3 (by omega)), _, eD, by rw [List.length_map]; exact small _ few, ?_⟩
            refine ⟨put.1, put.2.trans ?_⟩
            rw [st, h1, h2, List.append_assoc] <;> rfl
          · refine no ?_
            rw [h1, Bool.true_and]
            exact Bool.eq_false_iff.mpr h2
          · refine no ?_
            rw [Bool.eq_false_iff.mpr h1, Bool.false_and]
        · obtain ⟨sm, eD⟩ := hP
          refine ⟨sm, ?_⟩
          rw [flat_take (ix hb), eD, ← len, List.take_length, List.append_assoc] <;> rfl
      · obtain ⟨sm, eD⟩ := hP
        refine ⟨sm, ?_⟩
        rw [flat_take (ix ha), eD, ← len, List.take_length] <;> rfl
    · obtain ⟨sm, eD⟩ := hP
      rw [← len, List.take_length] at eD
      refine ⟨D, _, rfl, .inl ⟨SqL.of eD, fun l nl => q l _ (fun b o e => ?_) ?_ upd_same⟩⟩
      · have e2 := sm _ _ e
        rw [upd_ne (ne_of_none e2 nl)]
        exact e2
      · cases e : H l with
        | none => rfl
        | some o =>
          rw [sm _ _ e] at nl
          cases nl
theorem ok_sta {f : Addr} {fd : FuncData} (D : DefAt K mg "standing" sSta ["order", "three"] f fd) : FnOk P w K mg base CX0 1 f fd ["order", "three"] spSta := by
  refine D.F.ok scSta (fun vs H Q E h => ?_) (fun cdv A outer sh H vs Q E hr h => ?_)
  · obtain ⟨y, x, rfl, _⟩ := h
    rfl
  · obtain ⟨y, x, rfl, hy, q⟩ := h
    refine ⟨_, pss_one (ps_ret (pe_join pe_str (pe_lc (own := [("thing", 2)]) (g := gName 2) (tt := _) rfl scSta.nd (pi_str (pv 0)) (blkOk_by (own := [("thing", 2)]) (N := ["order", "three", "thing"]) (sc := defScope sSta) (by decide +kernel))
      (fun _ _ _ _ _ => pg_name (i := 2) scSta.nd rfl (Or.inl rfl)) (fun _ _ _ _ _ => pts_one (pt_cmpR op_in_str (pv 2) (pv 1) (by rfl))) (fun _ _ _ _ _ => pv 2)))), ?_⟩
    refine ⟨⟨_, rfl⟩, _, rfl, y, rfl, fun D nD => lc_it walk_str (fun k H' => Same H H' ∧ H' D = some (.lst (((y.cps.toList.take k).filter fun c => decide (c ∈ x.cps.toList)).map fun c => V.str ⟨#[c]⟩))) ⟨same_new nD, upd_same⟩ (fun _ _ _ _ => trivial) (fun k v H1 H2 hk hP hY => ?_) (fun H1 hP => ?_)⟩
    · obtain ⟨sm, eD⟩ := hP
      obtain ⟨rfl, c, hc, rfl⟩ := hY
      have ec : y.cps.toList[k]? = some c := by rw [Array.getElem?_toList]; exact hc
      refine ⟨rfl, _, rfl, _, rfl, _, _, rfl, rfl, decide (c ∈ x.cps.toList), congrArg V.bl (PySem.StrLaws.found_one x c), ite2 (fun e => ?_) (fun e => ?_)⟩
      · refine ⟨_, rfl, _, eD, ?_, fun b o h => ?_, ?_⟩
        · rw [List.length_map]
          refine Nat.lt_of_le_of_lt (List.length_filter_le _ _) ?_
          rw [List.length_take, Array.length_toList, sizeLine_eq]
          omega
        · rw [upd_ne (ne_of_none h nD)]
          exact sm _ _ h
        · rw [upd_same, List.take_succ, ec, Option.toList_some, List.filter_append, List.map_append]
          rw [show [c].filter (fun c => decide (c ∈ x.cps.toList)) = [c] by rw [List.filter_cons, if_pos e, List.filter_nil]] <;> rfl
      · refine ⟨sm, ?_⟩
        rw [eD, List.take_succ, ec, Option.toList_some, List.filter_append]
        rw [show [c].filter (fun c => decide (c ∈ x.cps.toList)) = [] by rw [List.filter_cons, if_neg e, List.filter_nil], List.append_nil]
    · obtain ⟨sm, eD⟩ := hP
      rw [List.take_of_length_le (by rw [Array.length_toList]; exact Nat.le_refl _)] at eD
      have e2 : H1 D = some (.lst ((signs (press y x)).map V.str)) := by
        rw [eD]
        unfold signs press
        rw [List.map_map] <;> rfl
      have ps : (press y x).cps.size ≤ 6 := by
        have := List.length_filter_le (fun c => decide (c ∈ x.cps.toList)) y.cps.toList
        have h2 := Array.length_toList (xs := y.cps)
        show (y.cps.toList.filter fun c => decide (c ∈ x.cps.toList)).length ≤ 6
        omega
      refine ⟨_, D, _, rfl, rfl, .inl (SqL.of e2), ?_, ?_⟩
      · rw [sign_sum, signs_length, show (PySem.Str.ofString "").length = 0 by decide +kernel]
        omega
      · rw [join_signs]
        exact q _ sm
end
end L2.Cal
end

section
set_option maxRecDepth 100000
set_option maxHeartbeats 4000000
/-! a, b, c = a text; sets of texts from tuples and lists -/
namespace L2.Cal
open PySem PySem.Spec PyProof.Rows PySem.Froz L2
section
variable {prog : Program} {w : World} {A : Around} {E : Value → Shared → Prop}
theorem draw_walk {I : Addr} {fp wr : List Addr} {n : Nat} {P : Nat → Value → Prop} {St : Nat → Heap → Prop} (W : Walks prog w A I fp wr n P St) : ∀ (m i : Nat) (s : Shared) (Q : List Value → Shared → Prop), St i s.heap → i + m ≤ n →
    (∀ (vs : List Value) h' tk, vs.length = m → (∀ (j : Nat) v, vs[j]? = some v → P (i + j) v) → St (i + m) h' → (∀ b o, b ∉ wr → s.heap.get? b = some o → h'.get? b = some o) → Q vs { s with heap := h', toks := tk }) → wpAny (model prog w) A (draw (.ref I) m) Q E s
  | 0, i, s, Q, st, _, q => wpAny_pure (q [] s.heap s.toks rfl (fun j v h => by simp at h) st fun _ _ _ e => e)
  | m + 1, i, s, Q, st, hm, q => by
    show wpAny _ _ (pyNext (.ref I) >>= _) Q E s
    refine wpAny_bind (W.item i s _ _ (by omega) st fun v h1 t1 p st1 k1 => ?_)
    refine wpAny_bind (wpAny_holding (draw_walk W m (i + 1) _ _ st1 (by omega) fun vs h2 t2 l p2 st2 k2 => wpAny_pure ?_))
    refine q (v :: vs) h2 t2 (by rw [List.length_cons, l]) (fun j u e => ?_) (by rw [show i + (m + 1) = i + 1 + m by omega]; exact st2) fun b o n e => k2 b o n (k1 b o n e)
    cases j with
    | zero =>
      cases e
      exact p
    | succ j =>
      rw [show i + (j + 1) = i + 1 + j by omega]
      exact p2 j u e
theorem unpack_text {s : Shared} {x : Str} {t : Tok} {Q : List Value → Shared → Prop} (hh : A.handled = none)
    (q : ∀ vs h' tk, StrsAre vs (signs x) → (∀ b o, s.heap.get? b = some o → h'.get? b = some o) → Q vs { s with heap := h', toks := tk }) : wpAny (model prog w) A (unpackItems (.str x t) x.cps.size none) Q E s := by
  unfold unpackItems
  refine wpAny_bind ?_
  unfold notIterableAtAll
  refine wpAny_bind (wpAny_specialOf (typeIs_str s x t) F.slot_str_iter.lookup ?_)
  refine wpAny_pure ?_
  simp only [Bool.false_eq_true, if_false]
  have go : ∀ (ty : String) (W : Walks prog w A s.heap.objs.size [s.heap.objs.size] [s.heap.objs.size] x.cps.size (SignAt x) (fun i h => h.IsStrIter s.heap.objs.size ty x t i)),
      wpAny (model prog w) A (do
        let items ← holding [.ref s.heap.objs.size] (draw (.ref s.heap.objs.size) x.cps.size)
        if items.length < x.cps.size then
          rule "unpack.too-few"; raiseError "ValueError" s!"not enough values to unpack (expected {x.cps.size}, got {items.length})"
        if (← holding items (pyNext (.ref s.heap.objs.size))).isSome then
          rule "unpack.too-many"; raiseError "ValueError" s!"too many values to unpack (expected {x.cps.size})"
        return items) Q E { s with heap := s.heap.push { cls := .type ty, data := .fields #[.str x t, .int 0 0] } } := fun ty W => by
    refine wpAny_bind (wpAny_holding (draw_walk W x.cps.size 0 _ _ ⟨_, Heap.get?_push_size _ rfl, rfl, rfl⟩ (by omega) fun vs h1 t1 l p st k => ?_))
    rw [if_neg (by omega)]
    rw [Nat.zero_add] at st
    refine wpAny_bind (wpAny_holding (W.done _ _ _ st fun h2 t2 k2 => ?_))
    simp only [Option.isSome_none, Bool.false_eq_true, if_false]
    have are : StrsAre vs (signs x) := by
      have z : vs.map txtOf = signs x := by
        apply List.ext_getElem?
        intro i
        unfold signs
        rw [List.getElem?_map, List.getElem?_map, Array.getElem?_toList (xs := x.cps)]
        cases e : vs[i]? with
        | none =>
          rw [List.getElem?_eq_none_iff, l] at e
          rw [Array.getElem?_eq_none_iff.mpr e] <;> rfl
        | some v =>
          obtain ⟨c, u, hc, rfl⟩ := p i v e
          rw [Nat.zero_add] at hc
          rw [hc] <;> rfl
      rw [← z]
      refine are_of _ fun v hv => ?_
      obtain ⟨i, hi, e⟩ := List.getElem_of_mem hv
      obtain ⟨c, u, _, z⟩ := p i v (by rw [List.getElem?_eq_getElem hi, e])
      exact ⟨_, u, z⟩
    refine wpAny_pure (q vs h2 t2 are fun b o e => ?_)
    have nb : b ∉ [s.heap.objs.size] := fun z => Nat.ne_of_lt (Heap.lt_size e) (List.mem_singleton.mp z)
    exact k2 b o nb (k b o nb (Heap.get?_push_of_some _ e))
  cases ha : x.cps.all (· < 128) with
  | true => exact wpAny_bind (wpAny_holding (wpAny_pyIter_ascii ha (go _ (Walks.strAscii hh _ x t))))
  | false => exact wpAny_bind (wpAny_holding (wpAny_pyIter_wide ha (go _ (Walks.strWide hh _ x t))))
end
section
variable {X : Cx} {pos : Pos}
/-- a, b, .. = a text of that length -/
def gTxt (n : Nat) (t : TGs) : TG := fun v σ H Q => ∃ x, v = .str x ∧ x.cps.size = n ∧ t ((signs x).map V.str) σ H Q
theorem pg_txt {es : List Expr} {k : Nat} {t : TGs} {n : Nat} (hc : X.calm = true) (h : PGs X es t)
    (hn : (assignEach es X.env).length = n := by rfl) (hst : (assignEach es X.env).findIdx? (·.1) = none := by rfl) : PG X (.Tuple es k pos) (gTxt n t) := by
  refine ⟨fun pins s σ H v u Q I r hw => ?_⟩
  obtain ⟨x, rfl, hl, hw⟩ := hw
  obtain ⟨tk, rfl⟩ := r
  rw [assign_Tuple]
  refine wpAny_bind (wpAny_standAt ?_)
  unfold unpack
  rw [hn, hst, ← hl]
  refine wpAny_bind (wpAny_holding (unpack_text (I.ok.hd hc) fun vs h' tk' are kk => ?_))
  exact h.run pins _ σ H _ _ Q (I.kept kk) (vals_of_strs are) hw
end
section
variable {P : Program} {w : World} {A : Around} {E : Value → Shared → Prop} {s : Shared}
/-- set(xs), xs a tuple of texts -/
theorem set_tup {b : Addr} {items : Array Value} {ss : List Str} {Q : Value → Shared → Prop} (hh : A.handled = none) (at_ : s.heap.IsTuple b items) (are : StrsAre items.toList ss) (few : ss.length + 1 < scanBound)
    (q : ∀ (h' : Heap) (tk : Nat) (D : SD) (l : List Str), (∀ b o, s.heap.get? b = some o → h'.get? b = some o) → h'.get? s.heap.objs.size = some (sObj "set" D) → Has P w D l → (∀ x, x ∈ l ↔ x ∈ ss) → Q (.ref s.heap.objs.size) { s with heap := h', toks := tk }) :
    wpAny (model P w) A (call (.type "set") [.ref b]) Q E s := by
  refine fresh_set (mem := fun x => x ∈ ss) (fun A' E' Q' hA k => ?_) q
  have h2 : A'.handled = none := hA.trans hh
  obtain ⟨ol, hol, hcl, nl, hdl⟩ := at_
  have lt : b < s.heap.objs.size := Heap.lt_size hol
  obtain ⟨ocls, odict, odata, oslots⟩ := ol
  simp only at hcl hdl
  subst hcl; subst hdl
  have there : (s.heap.push (sObj "set" (#[], 0, .fresh 0 0 (!w.params.followText "set-order")))).get? b = some { cls := .type "tuple", dict := odict, data := .seq items nl, slots := oslots } := Heap.get?_push_of_some _ hol
  have no1 := PySem.F.sub_tuple_set
  have no2 := PySem.F.sub_tuple_frozenset
  have no3 : (Value.type "tuple" == Value.type "dict") = false := by decide
  have isl : (s.heap.push (sObj "set" (#[], 0, .fresh 0 0 (!w.params.followText "set-order")))).IsTuple b items := ⟨_, there, rfl, nl, rfl⟩
  unfold Builtin.Frozenset.updateFrom
  generalize hI : pyIter = it
  wp_walk
  subst hI
  refine wpAny_pyIter_tuple isl (wpAny_bind (wpAny_runValue ?_))
  have sz : (s.heap.push (sObj "set" (#[], 0, .fresh 0 0 (!w.params.followText "set-order")))).objs.size = s.heap.objs.size + 1 := Heap.size_push ..
  have off : b ≠ (s.heap.push (sObj "set" (#[], 0, .fresh 0 0 (!w.params.followText "set-order")))).objs.size := by rw [sz]; exact Nat.ne_of_lt (Nat.lt_succ_of_lt lt)
  have n : items.size = ss.length := by rw [← Array.length_toList]; exact are_length are
  refine fill (s := s) (T := "set") (val := fun i => ss.getD i ⟨#[]⟩) (Walks.tuple (by simp [h2]) _ b off items) (S := s.heap.objs.size) ?_ (fun i v hv => ?_) (by omega) (fun h' tk D l keep at1 H mem => wpAny_pure (k h' tk D l (fun c o z => keep c o (Nat.ne_of_lt (Heap.lt_size z)) (fun m => ?_) z) at1 H fun x => (mem x).trans ?_))
    (items.size - 0) 0 _ _ _ [] rfl (Nat.zero_le _) ⟨⟨_, Heap.get?_push_size _ rfl, rfl, rfl⟩, isl.push _⟩ (fun c o _ _ z => Heap.get?_push_of_some _ (Heap.get?_push_of_some _ z)) (Heap.get?_push_of_some _ (Heap.get?_push_size _ rfl)) (Has.none 0) (fun x => by simp) (Nat.zero_le _)
  · rw [sz]
    intro z
    rcases List.mem_cons.mp z with z | z
    · exact absurd z (Nat.ne_of_lt (Nat.lt_succ_self _))
    · exact absurd (List.mem_singleton.mp z) (Nat.ne_of_gt lt)
  · exact are_at are i v (by rw [Array.getElem?_toList]; exact hv)
  · rw [List.mem_singleton.mp m, sz] at z
    exact absurd (Heap.lt_size z) (Nat.not_lt.mpr (Nat.le_succ _))
  · rw [n]
    constructor
    · rintro ⟨j, hj, e⟩
      rw [List.getD_eq_getElem?_getD, List.getElem?_eq_getElem hj] at e
      exact e ▸ List.getElem_mem hj
    · intro hx
      obtain ⟨j, hj, e⟩ := List.getElem_of_mem hx
      exact ⟨j, hj, by rw [List.getD_eq_getElem?_getD, List.getElem?_eq_getElem hj]; exact e⟩
end
section
variable {X : Cx}
/-- sorted(set(xs)), xs a tuple of texts -/
def tSortedSetT (K : PySem.W.Frag) (ta : TE) : TE := fun σ H Q => ta σ H fun x H1 => ∃ (l : Addr) (xs : List Str), x = V.ref l ∧ SqT K H1 l (xs.map V.str) ∧ xs.length < 64 ∧
  ∀ (ys : List Str) (p : Addr), Climbs ys → ys.Nodup → (∀ x, x ∈ ys ↔ x ∈ xs) → H1 p = none → Q (.ref p) (upd H1 p (.lst (ys.map V.str)))
theorem pe_sortedSetT {a : Expr} {ta : TE} {p p2 q pos : Pos} (hc : X.calm = true) (hg : Gl X "sorted") (hm : X.mg "sorted" = none) (hg2 : Gl X "set") (hm2 : X.mg "set" = none) (ha : PE X a ta)
    (na : starEach [a] X.env = (false, eval a X.env) :: starEach [] X.env := by rfl) : PE X (.Call (.Name "sorted" p) [.Call (.Name "set" p2) [a] [] q] [] pos) (tSortedSetT X.K ta) := by
  refine ⟨fun pins s σ H Q I h => Call_ (ld_blt I hg hm PyProof.Rows.boot_sorted (PyProof.Rows.callWith_builtin1 (PyProof.Rows.args_cons ?_ rfl) rfl rfl))⟩
  refine Call_ (ld_blt I hg2 hm2 PyProof.Rows.boot_set (PyProof.Rows.callWith_type1 (PyProof.Rows.args_cons (thn (ha.run pins s σ H _ I h) fun v s1 ⟨x, H1, I1, r1, q1⟩ => PyProof.Rows.args_nil ?_) na) na rfl))
  obtain ⟨l, xs, rfl, hq, few, fin⟩ := q1
  cases r1
  obtain ⟨its, r, pl, _⟩ := I1.tuple hq
  refine set_tup (I1.ok.hd hc) pl (by simpa using r.strs) (by unfold scanBound; omega) fun h' tk D L k1 at1 S mem => PyProof.Rows.args_nil ?_
  have I2 : Inv X pins σ H1 { s1 with heap := h', toks := tk } := I1.kept k1
  have short : L.length < 64 := Nat.lt_of_le_of_lt (List.Nodup.length_le_of_subset S.one fun x hx => (mem x).mp hx) few
  refine sort_set (I2.ok.hd hc) at1 S short fun s' b out c ys k g o z at2 are pm cl => ?_
  obtain ⟨J, n⟩ := inv_list I2 k g o z at2 are (by rw [pm.length_eq]; exact short)
  exact ⟨.ref b, _, J, rfl, fin ys b cl (pm.nodup_iff.mpr S.one) (fun x => pm.mem_iff.trans (mem x)) n⟩
/-- len(set(xs)), xs a list of texts -/
def tLenSetL (K : PySem.W.Frag) (ta : TE) : TE := fun σ H Q => ta σ H fun x H1 => ∃ (l : Addr) (xs : List Str), x = V.ref l ∧ SqL K H1 l (xs.map V.str) ∧ xs.length < 64 ∧ ∀ ys : List Str, ys.Nodup → (∀ x, x ∈ ys ↔ x ∈ xs) → Q (.int ys.length) H1
theorem pe_lenSetL {a : Expr} {ta : TE} {p p2 q pos : Pos} (hc : X.calm = true) (hg : Gl X "len") (hm : X.mg "len" = none) (hg2 : Gl X "set") (hm2 : X.mg "set" = none) (ha : PE X a ta)
    (na : starEach [a] X.env = (false, eval a X.env) :: starEach [] X.env := by rfl) : PE X (.Call (.Name "len" p) [.Call (.Name "set" p2) [a] [] q] [] pos) (tLenSetL X.K ta) := by
  refine ⟨fun pins s σ H Q I h => Call_ (ld_blt I hg hm PySem.boot_len (PyProof.Rows.callWith_builtin1 (PyProof.Rows.args_cons ?_ rfl) rfl rfl))⟩
  refine Call_ (ld_blt I hg2 hm2 PyProof.Rows.boot_set (PyProof.Rows.callWith_type1 (PyProof.Rows.args_cons (thn (ha.run pins s σ H _ I h) fun v s1 ⟨x, H1, I1, r1, q1⟩ => PyProof.Rows.args_nil ?_) na) na rfl))
  obtain ⟨l, xs, rfl, hq, few, fin⟩ := q1
  cases r1
  obtain ⟨its, r, pl, _⟩ := I1.list hq
  refine set_list (I1.ok.hd hc) pl.isList (by simpa using r.strs) (by unfold scanBound; omega) fun h' tk D L k1 at1 S mem => PyProof.Rows.args_nil ?_
  have I2 : Inv X pins σ H1 { s1 with heap := h', toks := tk } := I1.kept k1
  have short : D.1.size = L.length := S.ok.sz
  have le : L.length ≤ xs.length := List.Nodup.length_le_of_subset S.one fun x hx => (mem x).mp hx
  refine call_len_set at1 ⟨rfl, rfl, rfl⟩ rfl S.ok.fit (by rw [short] <;> omega) ⟨.int L.length, H1, I2.tok _, ⟨_, by rw [short]⟩, fin L S.one mem⟩
end
end L2.Cal
end

section
set_option maxRecDepth 100000
set_option maxHeartbeats 4000000
namespace L2.Cal
open PySem PySem.Spec PyProof.Rows L2
abbrev sWup : Stmt := topS 35
theorem scWup : FnScope ["three", "a", "b", "c"] ["three"] (defScope sWup) := ⟨rfl, rfl, rfl, by decide +kernel, rfl, by decide +kernel, by decide +kernel⟩
abbrev sWam : Stmt := topS 36
theorem scWam : FnScope ["orders", "three", "found", "order", "wheel", "each"] ["orders", "three"] (defScope sWam) := ⟨rfl, rfl, rfl, by decide +kernel, rfl, by decide +kernel, by decide +kernel⟩
def spWup : Sp := fun vs H Q _ => ∃ a b c : Nat, vs = [.str (s3 a b c)] ∧ ∀ (p q1 q2 : Addr) (H' : Hp), Same H H' → H' p = some (.tup [.ref q1, .ref q2]) → H' q1 = some (.tup ((W1 a b c).map V.str)) → H' q2 = some (.tup ((W2 a b c).map V.str)) → Q (.ref p) H'
/-- orders pressed upon three things -/
abbrev prW (a b c : Nat) : Str → Str := fun z => press z (s3 a b c)
def spWam (K : PySem.W.Frag) : Sp := fun vs H Q _ => ∃ (t : Addr) (ys : List Str) (a b c : Nat), vs = [.ref t, .str (s3 a b c)] ∧ SqT K H t (ys.map V.str) ∧ (∀ z, z ∈ ys → z.cps.size ≤ 6) ∧ ys.length ≤ 60 ∧
  (wheelR (prW a b c) ys a b c = none → ∀ H', Same H H' → Q .non H') ∧ ∀ zs, wheelR (prW a b c) ys a b c = some zs → ∀ (p : Addr) (H' : Hp), Same H H' → H' p = some (.tup (zs.map V.str)) → Q (.ref p) H'
theorem find_take {α : Type} {f : α → Bool} {l : List α} {x : α} {k : Nat} (h : l[k]? = some x) : (l.take (k + 1)).find? f = ((l.take k).find? f).or (if f x = true then some x else none) := by
  rw [List.take_succ, h, Option.toList_some, List.find?_append]
  congr 1
  rw [List.find?_cons]
  cases f x <;> rfl
section
variable {P : Program} {w : World} {K : PySem.W.Frag} {mg : Str → Option Value} {base : Heap} {C : Addr}
theorem ok_wup {f : Addr} {fd : FuncData} (D : DefAt K mg "wheels_upon" sWup ["three"] f fd) : FnOk P w K mg base CX0 1 f fd ["three"] spWup := by
  refine D.F.ok scWup (fun vs H Q E h => ?_) (fun cdv A outer sh H vs Q E hr h => ?_)
  · obtain ⟨a, b, c, rfl, _⟩ := h
    rfl
  · obtain ⟨a, b, c, rfl, q⟩ := h
    refine ⟨_, pss_cons (ps_asg (pv 0) (pg_txt rfl (pgs_cons (pg_name (i := 1) scWup.nd rfl (.inl rfl)) (pgs_cons (pg_name (i := 2) scWup.nd rfl (.inl rfl)) (pgs_cons (pg_name (i := 3) scWup.nd rfl (.inl rfl)) pgs_nil)))))
      (pss_one (ps_ret (pe_tupS (pa_cons (pe_tupS (pa_cons (pe_op op_add_str (pe_op op_add_str (pv 1) (pv 2)) (pv 3)) (pa_cons (pe_op op_add_str (pe_op op_add_str (pv 2) (pv 3)) (pv 1)) (pa_cons (pe_op op_add_str (pe_op op_add_str (pv 3) (pv 1)) (pv 2)) pa_nil))))
        (pa_cons (pe_tupS (pa_cons (pe_op op_add_str (pe_op op_add_str (pv 3) (pv 2)) (pv 1)) (pa_cons (pe_op op_add_str (pe_op op_add_str (pv 1) (pv 3)) (pv 2)) (pa_cons (pe_op op_add_str (pe_op op_add_str (pv 2) (pv 1)) (pv 3)) pa_nil)))) pa_nil))))), ?_⟩
    have z : ∀ n : Nat, n ≤ 3 → n ≤ sizeLine := fun n h => by rw [sizeLine_eq]; omega
    have z2 := z 2 (by decide)
    have z3 := z 3 (by decide)
    refine ⟨_, rfl, s3 a b c, rfl, rfl, _, _, rfl, _, _, rfl, _, _, rfl, rfl, ?_⟩
    refine ⟨_, rfl, _, rfl, _, _, rfl, rfl, z2, _, rfl, _, _, rfl, rfl, z3, _, rfl, _, rfl, _, _, rfl, rfl, z2, _, rfl, _, _, rfl, rfl, z3, _, rfl, _, rfl, _, _, rfl, rfl, z2, _, rfl, _, _, rfl, rfl, z3, z3, fun q1 H1 t1 n1 e1 => ?_⟩
    refine ⟨_, rfl, _, rfl, _, _, rfl, rfl, z2, _, rfl, _, _, rfl, rfl, z3, _, rfl, _, rfl, _, _, rfl, rfl, z2, _, rfl, _, _, rfl, rfl, z3, _, rfl, _, rfl, _, _, rfl, rfl, z2, _, rfl, _, _, rfl, rfl, z3, z3, fun q2 H2 t2 n2 e2 => ⟨z2, fun p H3 t3 n3 e3 => ?_⟩⟩
    exact q p q1 q2 H3 (t1.trans (t2.trans t3)) e3 (t3 _ _ (t2 _ _ e1)) (t3 _ _ e2)
theorem ok_wam {f fS fU : Addr} {fd fdS fdU : FuncData} (D : DefAt K mg "wheel_among" sWam ["orders", "three"] f fd) (DS : DefAt K mg "standing" sSta ["order", "three"] fS fdS) (DU : DefAt K mg "wheels_upon" sWup ["three"] fU fdU) (T : Txt mg) :
    FnOk P w K mg base CX0 2 f fd ["orders", "three"] (spWam K) := by
  have GS : FnOk P w K mg base CX0 1 fS fdS ["order", "three"] spSta := ok_sta DS
  have GU : FnOk P w K mg base CX0 1 fU fdU ["three"] spWup := ok_wup DU
  refine D.F.ok scWam (fun vs H Q E h => ?_) (fun cdv A outer sh H vs Q E hr h => ?_)
  · obtain ⟨t, ys, a, b, c, rfl, _⟩ := h
    rfl
  · obtain ⟨t, ys, a, b, c, rfl, hT, h6, few, qn, qs⟩ := h
    have hu := hr.units
    have hu1 : (A.deeper (envOfC (Str.ofString "wheel_among") (defScope sWam) sh.heap.objs.size f cdv)).units + 1 < cLine := by omega
    refine ⟨_, (pss_cons (ps_set (i := 2) scWam.nd rfl (.inr rfl) pe_dnewS)
      (pss_cons (ps_for PassesOwn.never rfl (pi_tup (pv 0)) (pg_name (i := 3) scWam.nd rfl (.inl rfl)) (pss_one (ps_expr (pe_dsetd (pv 2) (pe_call GS (hr.mono (by decide)) (by rfl) DS.g DS.F.kp DS.b .nil pass0 (pa_cons (pv 3) (pa_cons (pv 1) pa_nil))) (pv 3) ⟨rfl, rfl, rfl, rfl⟩))))
      (pss_cons (ps_for PassesOwn.never rfl (pi_tup (pe_call GU (hr.mono (by decide)) (by rfl) DU.g DU.F.kp DU.b .nil pass0 (pa_cons (pv 1) pa_nil))) (pg_name (i := 4) scWam.nd rfl (.inl rfl))
        (pss_one (ps_if (pt_val (pe_callB (cr_all rfl) (by rfl) T.b_all (by decide +kernel) (pa_cons (pe_lc (own := [("each", 5)]) (g := gName 5) (tt := tYes) rfl scWam.nd (pi_tup (pv 4)) (blkOk_by (own := [("each", 5)]) (N := ["orders", "three", "found", "order", "wheel", "each"]) (sc := defScope sWam) (by decide +kernel))
            (fun _ _ _ _ _ => pg_name (i := 5) scWam.nd rfl (Or.inl rfl)) (fun _ _ _ _ _ => pts_nil) (fun _ _ _ _ _ => pe_cmp (pc_din hu1 (pv 5) (pv 2)))) pa_nil)))
          (pss_one (ps_ret (pe_callTy call_tuple_of (by rfl) T.b_tuple (by decide +kernel) (pa_cons (pe_callB cr_sortedS (by rfl) T.b_sorted (by decide +kernel) (pa_cons (pe_lc (own := [("each", 5)]) (g := gName 5) (tt := tYes) rfl scWam.nd (pi_tup (pv 4))
            (blkOk_by (own := [("each", 5)]) (N := ["orders", "three", "found", "order", "wheel", "each"]) (sc := defScope sWam) (by decide +kernel)) (fun _ _ _ _ _ => pg_name (i := 5) scWam.nd rfl (Or.inl rfl)) (fun _ _ _ _ _ => pts_nil) (fun _ _ _ _ _ => pe_dget hu1 (pv 2) (pv 5) (fun _ _ => rfl))) pa_nil)) pa_nil)))) pss_nil)))
      (pss_one (ps_ret pe_non))))), ?_⟩
    generalize hpr : prW a b c = pr at qn qs
    have pre : ∀ z, press z (s3 a b c) = pr z := fun z => by rw [← hpr]
    have small : ∀ n : Nat, n ≤ 100 → n < sizeLine := fun n h => by rw [sizeLine_eq]; omega
    refine fun d H0 s0 n0 e0 => ⟨_, rfl, t, rfl, ⟨_, same_seqT hT s0⟩, for_tup (K := K) (a := t) (xs := ys.map V.str) (fun k σ H' => ∃ v3 v4 v5 kvs, σ = [some (.ref t), some (.str (s3 a b c)), some (.ref d), v3, v4, v5] ∧ Same H H' ∧ H' d = some (.dK kvs) ∧ kvs.length ≤ k ∧
        ∀ e : Str, valV kvs (.inr e) = ((ys.take k).find? fun z => decide (pr z = e)).map V.str)
      ⟨_, _, _, [], rfl, s0, e0, Nat.le_refl _, fun e => by simp [valV]⟩ (fun k σ H' _ hP => ?_) (fun k x σ H1 hx hP => ?_) (fun σ H1 hP => ?_)⟩
    · obtain ⟨_, _, _, _, _, sm, _⟩ := hP
      exact same_seqT hT sm
    · obtain ⟨v3, v4, v5, kvs, rfl, sm, ed, kl, kv⟩ := hP
      rw [List.getElem?_map] at hx
      cases ez : ys[k]? with
      | none =>
        rw [ez] at hx
        cases hx
      | some z =>
        rw [ez] at hx
        cases hx
        have hk := (List.getElem?_eq_some_iff.mp ez).1
        have hz := h6 z (List.mem_of_getElem? ez)
        refine ⟨_, rfl, d, rfl, .inl ⟨kvs, .inl ed⟩, _, rfl, _, rfl, z, s3 a b c, rfl, hz, fun H2 s2 => ⟨_, rfl, kvs, .inr (press z (s3 a b c)), s2 _ _ ed, rfl, small _ (by omega), fun v hv => ?_, fun hn => ?_⟩⟩
        · refine ⟨_, _, _, kvs, rfl, sm.trans s2, s2 _ _ ed, by omega, fun e => ?_⟩
          rw [find_take ez, kv e]
          by_cases q : pr z = e
          · rw [pre, q, kv e] at hv
            cases w : (ys.take k).find? fun z => decide (pr z = e) with
            | none => rw [w] at hv; cases hv
            | some u => rfl
          · rw [decide_eq_false q, if_neg Bool.false_ne_true, Option.or_none]
        · have nd : ∀ y o, H y = some o → y ≠ d := fun y o e z => by rw [z, n0] at e; cases e
          refine ⟨_, _, _, putK kvs (.inr (press z (s3 a b c))) (.str z), rfl, fun y o e => ?_, upd_same, ?_, fun e => ?_⟩
          · rw [upd_ne (nd y o e)]
            exact s2 _ _ (sm _ _ e)
          · have := length_putK kvs (.inr (press z (s3 a b c))) (.str z)
            omega
          · rw [valV_put, find_take ez, kv e]
            by_cases q : pr z = e
            · rw [pre] at hn
              rw [pre, q, if_pos rfl]
              rw [q, kv e] at hn
              cases w : (ys.take k).find? fun z => decide (pr z = e) with
              | none => simp
              | some u => rw [w] at hn; cases hn
            · rw [decide_eq_false q, if_neg Bool.false_ne_true, Option.or_none, if_neg]
              intro w
              rw [pre] at w
              exact q (Sum.inr.inj w).symm
    · obtain ⟨v3, v4, v5, kvs, rfl, sm, ed, kl, kv⟩ := hP
      rw [List.length_map, List.take_length] at kv
      have hs : ∀ e, (valV kvs (.inr e)).isSome = has pr ys e := fun e => by
        rw [kv e, Option.isSome_map]
        rfl
      refine ⟨_, rfl, a, b, c, rfl, fun p q1 q2 H2 s2 ep e1 e2 => ⟨p, rfl, ⟨_, SqT.of ep⟩, for_tup (K := K) (a := p) (xs := [.ref q1, .ref q2]) (fun k σ H' => ∃ v3 v4 v5, σ = [some (.ref t), some (.str (s3 a b c)), some (.ref d), v3, v4, v5] ∧ Same H2 H' ∧
          (0 < k → (W1 a b c).all (has pr ys) = false) ∧ (1 < k → (W2 a b c).all (has pr ys) = false))
        ⟨_, _, _, rfl, fun _ _ z => z, fun z => absurd z (by omega), fun z => absurd z (by omega)⟩ (fun k σ H' _ hP => ?_) (fun k x σ H3 hx hP => ?_) (fun σ H3 hP => ?_)⟩⟩
      · obtain ⟨_, _, _, _, sk, _⟩ := hP
        exact SqT.of (sk _ _ ep)
      · obtain ⟨w3, w4, w5, rfl, sk, no1, no2⟩ := hP
        obtain ⟨qq, W, rfl, eqq, wl, yes, no⟩ : ∃ (qq : Addr) (W : List Str), x = .ref qq ∧ H3 qq = some (.tup (W.map V.str)) ∧ W.length = 3 ∧ (W.all (has pr ys) = true → wheelR pr ys a b c = some (srt (W.map (firstOf pr ys)))) ∧
            (W.all (has pr ys) = false → (0 < k + 1 → (W1 a b c).all (has pr ys) = false) ∧ (1 < k + 1 → (W2 a b c).all (has pr ys) = false)) := by
          match k, hx with
          | 0, hx =>
            cases hx
            exact ⟨q1, W1 a b c, rfl, sk _ _ e1, rfl, fun y => by unfold wheelR; rw [if_pos y], fun n => ⟨fun _ => n, fun z => absurd z (by omega)⟩⟩
          | 1, hx =>
            cases hx
            have z1 := no1 (by omega)
            exact ⟨q2, W2 a b c, rfl, sk _ _ e2, rfl, fun y => by unfold wheelR; rw [z1, if_neg Bool.false_ne_true, if_pos y], fun n => ⟨fun _ => z1, fun _ => n⟩⟩
          | n + 2, hx => simp at hx
        have ed3 : H3 d = some (.dK kvs) := sk _ _ (s2 _ _ ed)
        refine ⟨_, rfl, qq, rfl, ⟨_, SqT.of eqq⟩, fun D nD => lc_tup (K := K) (a := qq) (xs := W.map V.str) (fun j H' => Same H3 H' ∧ H' D = some (.lst (((W.take j).map (has pr ys)).map V.bl))) ⟨same_new nD, upd_same⟩ (fun j H' _ hP => SqT.of (hP.1 _ _ eqq)) (fun j x H4 hx hP => ?_) (fun H4 hP => ?_)⟩
        · obtain ⟨s4, eD⟩ := hP
          rw [List.getElem?_map] at hx
          cases ee : W[j]? with
          | none =>
            rw [ee] at hx
            cases hx
          | some e =>
            rw [ee] at hx
            cases hx
            refine ⟨rfl, _, rfl, _, rfl, d, _, rfl, DGet.k (k := .inr e) (s4 _ _ ed3), _, eD, ?_, fun y o h => ?_, ?_⟩
            · rw [List.length_map, List.length_map, List.length_take]
              exact small _ (by omega)
            · rw [upd_ne (ne_of_none h nD)]
              exact s4 _ _ h
            · rw [upd_same, List.take_succ, ee, Option.toList_some, List.map_append, List.map_append, hs e] <;> rfl
        · obtain ⟨s4, eD⟩ := hP
          rw [List.length_map, List.take_length] at eD
          refine ⟨D, W.map (has pr ys), rfl, SqL.of eD, _, rfl, ite2 (fun y => ?_) (fun n => ?_)⟩
          · have y2 : W.all (has pr ys) = true := by
              rw [List.all_map] at y
              exact y
            have all := List.all_eq_true.mp y2
            have eqq4 := s4 _ _ eqq
            refine ⟨_, rfl, qq, rfl, ⟨_, SqT.of eqq4⟩, fun D2 nD2 => lc_tup (K := K) (a := qq) (xs := W.map V.str) (fun j H' => Same H4 H' ∧ H' D2 = some (.lst (((W.take j).map (firstOf pr ys)).map V.str))) ⟨same_new nD2, upd_same⟩ (fun j H' _ hP => SqT.of (hP.1 _ _ eqq4)) (fun j x H5 hx hP => ?_) (fun H5 hP => ?_)⟩
            · obtain ⟨s5, eD2⟩ := hP
              rw [List.getElem?_map] at hx
              cases ee : W[j]? with
              | none =>
                rw [ee] at hx
                cases hx
              | some e =>
                rw [ee] at hx
                cases hx
                have hv : valV kvs (.inr e) = some (.str (firstOf pr ys e)) := by
                  have he := all e (List.mem_of_getElem? ee)
                  unfold has at he
                  unfold firstOf
                  rw [kv e]
                  cases w : ys.find? fun z => decide (pr z = e) with
                  | none => rw [w] at he; cases he
                  | some u => rfl
                refine ⟨rfl, _, rfl, _, rfl, d, _, rfl, hv ▸ DGet.k (k := .inr e) (s5 _ _ (s4 _ _ ed3)), _, eD2, ?_, fun y o h => ?_, ?_⟩
                · rw [List.length_map, List.length_map, List.length_take]
                  exact small _ (by omega)
                · rw [upd_ne (ne_of_none h nD2)]
                  exact s5 _ _ h
                · rw [upd_same, List.take_succ, ee, Option.toList_some, List.map_append, List.map_append] <;> rfl
            · obtain ⟨s5, eD2⟩ := hP
              rw [List.length_map, List.take_length] at eD2
              refine ⟨D2, W.map (firstOf pr ys), rfl, SqL.of eD2, by rw [List.length_map]; omega, fun zs p2 pm so np => ⟨p2, _, rfl, .inl ⟨SqL.of upd_same, fun l nl => ?_⟩⟩⟩
              have ez := srt_is pm so
              subst ez
              exact qs _ (yes y2) l _ ((sm.trans (s2.trans (sk.trans (s4.trans s5)))).trans ((same_new np).trans (same_new nl))) upd_same
          · have n2 : W.all (has pr ys) = false := by
              rw [List.all_map] at n
              exact Bool.eq_false_iff.mpr n
            exact ⟨_, _, _, rfl, sk.trans s4, no n2⟩
      · obtain ⟨w3, w4, w5, rfl, sk, no1, no2⟩ := hP
        refine qn ?_ _ (sm.trans (s2.trans sk))
        have z1 := no1 (by show 0 < 2; decide)
        have z2 := no2 (by show 1 < 2; decide)
        unfold wheelR
        rw [z1, z2, if_neg Bool.false_ne_true, if_neg Bool.false_ne_true]
end
end L2.Cal
end

section
set_option maxRecDepth 100000
set_option maxHeartbeats 4000000
/-! orders of hills, pure -/
namespace L2.Cal
open PySem PySem.Spec PyProof.Rows L2
theorem nodup_at {l : List Nat} (n : l.Nodup) {i j : Nat} {hi : i < l.length} {hj : j < l.length} (e : l[i] = l[j]) : i = j := by
  have q := List.pairwise_iff_getElem.mp n
  rcases Nat.lt_trichotomy i j with h | h | h
  · exact absurd e (q i j hi hj h)
  · exact h
  · exact absurd e.symm (q j i hj hi h)
theorem mid_in {L : List Nat} {A B i : Nat} (n : L.Nodup) (hi : i < L.length) : L[i] ∈ (L.take B).drop A ↔ A ≤ i ∧ i < B := by
  rw [List.mem_iff_getElem?]
  constructor
  · rintro ⟨k, hk⟩
    rw [List.getElem?_drop, List.getElem?_take] at hk
    split at hk
    · rename_i lt
      obtain ⟨h, e⟩ := List.getElem?_eq_some_iff.mp hk
      have := nodup_at n e
      omega
    · cases hk
  · rintro ⟨h1, h2⟩
    refine ⟨i - A, ?_⟩
    rw [List.getElem?_drop, List.getElem?_take, if_pos (by omega), show A + (i - A) = i by omega, List.getElem?_eq_getElem hi]
theorem hill_last {L z S : List Nat} (n : L.Nodup) (p : z.Perm L) (hil : ∀ n, n ≤ z.length → ∃ A B, (z.take n).Perm ((L.take B).drop A)) {u v w : Nat} (uv : u < v) (vw : v < w) (hw : w < L.length)
    (hu : L[u] ∈ S) (hv : L[v] ∈ S) (hw' : L[w] ∈ S) : (z.filter fun c => decide (c ∈ S)).getLast? ≠ some L[v] := by
  intro e
  have nz : z.Nodup := p.nodup_iff.mpr n
  obtain ⟨s, t, rfl⟩ := List.append_of_mem (p.mem_iff.mpr (List.getElem_mem (show v < L.length by omega)))
  have nd := List.nodup_append.mp nz
  have nt : L[v] ∉ t := (List.nodup_cons.mp nd.2.1).1
  have ns : L[v] ∉ s := fun h => nd.2.2 _ h _ (List.mem_cons_self ..) rfl
  have ft : t.filter (fun c => decide (c ∈ S)) = [] := by
    rw [List.filter_append, List.filter_cons, if_pos (decide_eq_true hv)] at e
    cases q : t.filter (fun c => decide (c ∈ S)) with
    | nil => rfl
    | cons x r =>
      rw [q] at e
      have e2 : (x :: r).getLast? = some L[v] := by
        rw [List.getLast?_append, List.getLast?_cons_cons] at e
        cases h : (x :: r).getLast? with
        | none => simp at h
        | some y =>
          rw [h] at e
          simpa using e
      have := List.mem_of_getLast? e2
      rw [← q] at this
      exact absurd (List.mem_filter.mp this).1 nt
  have ins : ∀ i, (hi : i < L.length) → i ≠ v → L[i] ∈ S → L[i] ∈ s := fun i hi ne hS => by
    rcases List.mem_append.mp (p.mem_iff.mpr (List.getElem_mem hi)) with h | h
    · exact h
    · rcases List.mem_cons.mp h with h | h
      · exact absurd (nodup_at n h) ne
      · have : L[i] ∈ t.filter (fun c => decide (c ∈ S)) := List.mem_filter.mpr ⟨h, decide_eq_true hS⟩
        rw [ft] at this
        cases this
  obtain ⟨A, B, q⟩ := hil s.length (by simp)
  rw [List.take_left] at q
  have h1 := (mid_in n (by omega)).mp (q.mem_iff.mp (ins u (by omega) (by omega) hu))
  have h2 := (mid_in n hw).mp (q.mem_iff.mp (ins w hw (by omega) hw'))
  exact ns (q.mem_iff.mpr ((mid_in n (by omega)).mpr ⟨by omega, by omega⟩))
/-- no wheel if one of the three is never last -/
theorem never_last {pr : Str → Str} {ys : List Str} {a b c m : Nat} (hm : m = a ∨ m = b ∨ m = c) (h : ∀ z, z ∈ ys → (pr z).cps.toList.getLast? ≠ some m) : wheelR pr ys a b c = none := by
  have no : ∀ W : List Str, (∃ e, e ∈ W ∧ e.cps.toList.getLast? = some m) → ¬ W.all (has pr ys) = true := fun W ⟨e, he, hl⟩ y => by
    have := first_is (List.all_eq_true.mp y e he)
    exact h _ this.1 (by rw [this.2]; exact hl)
  unfold wheelR
  rw [if_neg (no _ ?_), if_neg (no _ ?_)]
  · rcases hm with rfl | rfl | rfl
    · exact ⟨s3 c b m, by simp [W2], rfl⟩
    · exact ⟨s3 a c m, by simp [W2], rfl⟩
    · exact ⟨s3 b a m, by simp [W2], rfl⟩
  · rcases hm with rfl | rfl | rfl
    · exact ⟨s3 b c m, by simp [W1], rfl⟩
    · exact ⟨s3 c a m, by simp [W1], rfl⟩
    · exact ⟨s3 a b m, by simp [W1], rfl⟩
/-- fewer orders, no wheel more -/
theorem wheel_sub {pr : Str → Str} {ys zs : List Str} {a b c : Nat} (sub : ∀ z, z ∈ zs → z ∈ ys) (h : wheelR pr ys a b c = none) : wheelR pr zs a b c = none := by
  have up : ∀ W : List Str, W.all (has pr zs) = true → W.all (has pr ys) = true := fun W y => by
    rw [List.all_eq_true] at y ⊢
    intro e he
    have h1 := y e he
    rw [has_map, decide_eq_true_eq] at h1 ⊢
    obtain ⟨z, hz, e⟩ := List.mem_map.mp h1
    exact List.mem_map.mpr ⟨z, sub z hz, e⟩
  have n1 : ¬ (W1 a b c).all (has pr ys) = true := fun y => by
    unfold wheelR at h
    rw [if_pos y] at h
    cases h
  have n2 : ¬ (W2 a b c).all (has pr ys) = true := fun y => by
    unfold wheelR at h
    rw [if_neg n1, if_pos y] at h
    cases h
  unfold wheelR
  rw [if_neg fun y => n1 (up _ y), if_neg fun y => n2 (up _ y)]
end L2.Cal
end

section
set_option maxRecDepth 100000
set_option maxHeartbeats 4000000
set_option synthInstance.maxHeartbeats 400000
namespace L2.Cal
open PySem PySem.Spec PyProof.Rows L2
abbrev sRou : Stmt := topS 37
theorem scRou : FnScope ["roll", "three", "wheel"] ["roll"] (defScope sRou) := ⟨rfl, rfl, rfl, by decide +kernel, rfl, by decide +kernel, by decide +kernel⟩
abbrev sIsC : Stmt := topS 38
theorem scIsC : FnScope ["roll"] ["roll"] (defScope sIsC) := ⟨rfl, rfl, rfl, by decide +kernel, rfl, by decide +kernel, by decide +kernel⟩
/-- the wheel of some orders upon three things -/
def wheelAt (ys : List Str) (x : Str) : Option (List Str) := wheelR (fun z => press z x) ys (x.cps.getD 0 0) (x.cps.getD 1 0) (x.cps.getD 2 0)
theorem wheelAt_s3 (ys : List Str) (a b c : Nat) : wheelAt ys (s3 a b c) = wheelR (prW a b c) ys a b c := rfl
/-- the first three things with a wheel -/
def roughR (ys : List Str) (cs : List Nat) : Option (Str × List Str) := (tri cs).findSome? fun x => (wheelAt ys x).map fun zs => (x, zs)
theorem rough_none {ys : List Str} {cs : List Nat} : roughR ys cs = none ↔ ∀ x, x ∈ tri cs → wheelAt ys x = none := by
  unfold roughR
  rw [List.findSome?_eq_none_iff]
  refine forall_congr' fun x => forall_congr' fun _ => ?_
  cases wheelAt ys x <;> simp
theorem rough_some {ys : List Str} {cs : List Nat} {k : Nat} {x : Str} {zs : List Str} (hx : (tri cs)[k]? = some x) (no : ∀ u, u ∈ (tri cs).take k → wheelAt ys u = none) (h : wheelAt ys x = some zs) : roughR ys cs = some (x, zs) := by
  unfold roughR
  obtain ⟨hk, e⟩ := List.getElem?_eq_some_iff.mp hx
  rw [← List.take_append_drop k (tri cs), List.findSome?_append, List.drop_eq_getElem_cons hk, e, List.findSome?_cons, h]
  rw [List.findSome?_eq_none_iff.mpr fun u hu => by rw [no u hu] <;> rfl]
  rfl
theorem rough_at {ys : List Str} {cs : List Nat} {x : Str} {zs : List Str} (h : roughR ys cs = some (x, zs)) : x ∈ tri cs ∧ wheelAt ys x = some zs := by
  obtain ⟨u, hu, e⟩ := List.exists_of_findSome?_eq_some h
  cases q : wheelAt ys u with
  | none => rw [q] at e; cases e
  | some vs =>
    rw [q] at e
    cases e
    exact ⟨hu, q⟩
/-- a roll with its orders -/
structure RollY (K : PySem.W.Frag) (C : Addr) (H : Hp) (r t : Addr) (y : Str) (ys : List Str) : Prop where
  roll : RollAt C H r t (tidy y)
  tup : SqT K H t (ys.map V.str)
  y6 : (tidy y).cps.size ≤ 6
  z6 : ∀ z, z ∈ ys → z.cps.size ≤ 6
  few : ys.length ≤ 60
theorem RollY.same {K : PySem.W.Frag} {C : Addr} {H H' : Hp} {r t : Addr} {y : Str} {ys : List Str} (h : RollY K C H r t y ys) (s : Same H H') : RollY K C H' r t y ys :=
  ⟨h.roll.same s, same_seqT h.tup s, h.y6, h.z6, h.few⟩
def spRou (K : PySem.W.Frag) (C : Addr) : Sp := fun vs H Q _ => ∃ (r t : Addr) (y : Str) (ys : List Str), vs = [.ref r] ∧ RollY K C H r t y ys ∧
  (roughR ys (tidy y).cps.toList = none → ∀ H', Same H H' → Q .non H') ∧
  ∀ x zs, roughR ys (tidy y).cps.toList = some (x, zs) → ∀ (p q : Addr) (H' : Hp), Same H H' → H' p = some (.tup [.str x, .ref q]) → H' q = some (.tup (zs.map V.str)) → Q (.ref p) H'
def spIsC (K : PySem.W.Frag) (C : Addr) : Sp := fun vs H Q _ => ∃ (r t : Addr) (y : Str) (ys : List Str), vs = [.ref r] ∧ RollY K C H r t y ys ∧ ∀ H', Same H H' → Q (.bl (decide (roughR ys (tidy y).cps.toList = none))) H'
section
variable {P : Program} {w : World} {K : PySem.W.Frag} {mg : Str → Option Value} {base : Heap} {C : Addr}
theorem ok_rou {f fC fO fS fU fW pT fT pO fOr : Addr} {fd fdC fdO fdS fdU fdW fdT fdOr : FuncData} (D : DefAt K mg "rough" sRou ["roll"] f fd) (DC : DefAt K mg "check_roll" sChk ["roll"] fC fdC) (DO : DefAt K mg "threes_of" sThs ["things"] fO fdO)
    (DS : DefAt K mg "standing" sSta ["order", "three"] fS fdS) (DU : DefAt K mg "wheels_upon" sWup ["three"] fU fdU) (DW : DefAt K mg "wheel_among" sWam ["orders", "three"] fW fdW) (T : Txt mg) (R : RollC K mg C)
    (PT : PropOf K C "things" pT fT) (FT : Fun K "things" "Roll.things" sThi fT fdT) (bT : Binds K fdT ["self"] []) (PO : PropOf K C "orders" pO fOr) (FO : Fun K "orders" "Roll.orders" sOrd fOr fdOr) (bO : Binds K fdOr ["self"] []) :
    FnOk P w K mg base CX0 3 f fd ["roll"] (spRou K C) := by
  have GC : FnOk P w K mg base CX0 1 fC fdC ["roll"] (spChk C) := ok_chk DC T R
  have GS : FnOk P w K mg base CX0 1 fO fdO ["things"] spThs := ok_ths DO T
  have GW : FnOk P w K mg base CX0 2 fW fdW ["orders", "three"] (spWam K) := ok_wam DW DS DU T
  have GT : FnOk P w K mg base CX0 1 fT fdT ["self"] (spThi C) := ok_thi FT R
  have GO : FnOk P w K mg base CX0 1 fOr fdOr ["self"] (spOrd C) := ok_ord FO R
  refine D.F.ok scRou (fun vs H Q E h => ?_) (fun cdv A outer sh H vs Q E hr h => ?_)
  · obtain ⟨r, t, y, ys, rfl, _⟩ := h
    rfl
  · obtain ⟨r, t, y, ys, rfl, ro, qn, qs⟩ := h
    obtain ⟨dx, fs, ha, l1, l2⟩ := id ro.roll
    refine ⟨_, pss_cons (ps_expr (pe_call GC (hr.mono (by decide)) (by rfl) DC.g DC.F.kp DC.b .nil pass0 (pa_cons (pv 0) pa_nil)))
      (pss_cons (ps_for PassesOwn.never rfl (pi_tup (pe_call GS (hr.mono (by decide)) (by rfl) DO.g DO.F.kp DO.b .nil pass0 (pa_cons (pe_prop (pv 0) R.cls PT GT (hr.mono (by decide)) bT .nil pass0 rfl) pa_nil))) (pg_name (i := 1) scRou.nd rfl (.inl rfl))
        (pss_cons (ps_set (i := 2) scRou.nd rfl (.inl rfl) (pe_call GW (hr.mono (by decide)) (by rfl) DW.g DW.F.kp DW.b .nil pass0 (pa_cons (pe_prop (pv 0) R.cls PO GO (hr.mono (by decide)) bO .nil pass0 rfl) (pa_cons (pv 1) pa_nil))))
        (pss_one (ps_if (pt_cmp (pc_notN (pv 2))) (pss_one (ps_ret (pe_tupS (pa_cons (pv 1) (pa_cons (pv 2) pa_nil))))) pss_nil))))
      (pss_one (ps_ret pe_non))), ?_⟩
    refine ⟨_, rfl, r, t, _, rfl, ro.roll, ?_⟩
    refine ⟨_, rfl, r, dx, fs, rfl, ha, r, t, _, rfl, ro.roll, tidy y, rfl, ro.y6, fun p H1 s1 np ep => ⟨p, rfl, ⟨_, SqT.of ep⟩, for_tup (K := K) (a := p) (xs := (tri (tidy y).cps.toList).map V.str)
      (fun k σ H' => ∃ v1 v2, σ = [some (.ref r), v1, v2] ∧ Same H1 H' ∧ ∀ u, u ∈ (tri (tidy y).cps.toList).take k → wheelAt ys u = none) ⟨_, _, rfl, fun _ _ z => z, fun u hu => by simp at hu⟩ (fun k σ H' _ hP => ?_) (fun k x σ H2 hx hP => ?_) (fun σ H2 hP => ?_)⟩⟩
    · obtain ⟨_, _, _, sm, _⟩ := hP
      exact SqT.of (sm _ _ ep)
    · obtain ⟨v1, v2, rfl, sm, no⟩ := hP
      rw [List.getElem?_map] at hx
      cases ex : (tri (tidy y).cps.toList)[k]? with
      | none =>
        rw [ex] at hx
        cases hx
      | some u =>
        rw [ex] at hx
        cases hx
        obtain ⟨a, b, c, _, _, _, _, _, rfl⟩ := mem_tri.mp (List.mem_of_getElem? ex)
        have S2 := s1.trans sm
        have ro2 := ro.same S2
        refine ⟨_, rfl, r, dx, fs, rfl, S2 _ _ ha, r, t, _, rfl, ro2.roll, _, rfl, t, ys, a, b, c, rfl, ro2.tup, ro.z6, ro.few, fun e H3 s3' => ?_, fun zs e q H3 s3' eq => ?_⟩
        · refine ⟨_, rfl, false, by simp, iteF ⟨_, _, rfl, sm.trans s3', fun u hu => ?_⟩⟩
          rw [List.take_succ, ex, Option.toList_some, List.mem_append, List.mem_singleton] at hu
          rcases hu with hu | rfl
          · exact no u hu
          · exact e
        · refine ⟨_, rfl, true, by simp, iteT ?_⟩
          refine ⟨_, rfl, _, rfl, (by show 2 ≤ sizeLine; decide), fun q2 H4 s4 n4 e4 => ?_⟩
          exact qs _ zs (rough_some ex no e) q2 q _ (S2.trans (s3'.trans s4)) e4 (s4 _ _ eq)
    · obtain ⟨v1, v2, rfl, sm, no⟩ := hP
      rw [List.length_map, List.take_length] at no
      exact qn (rough_none.mpr no) _ (s1.trans sm)
theorem ok_isc {f fR fC fO fS fU fW pT fT pO fOr : Addr} {fd fdR fdC fdO fdS fdU fdW fdT fdOr : FuncData} (D : DefAt K mg "is_calm" sIsC ["roll"] f fd) (DR : DefAt K mg "rough" sRou ["roll"] fR fdR) (DC : DefAt K mg "check_roll" sChk ["roll"] fC fdC) (DO : DefAt K mg "threes_of" sThs ["things"] fO fdO)
    (DS : DefAt K mg "standing" sSta ["order", "three"] fS fdS) (DU : DefAt K mg "wheels_upon" sWup ["three"] fU fdU) (DW : DefAt K mg "wheel_among" sWam ["orders", "three"] fW fdW) (T : Txt mg) (R : RollC K mg C)
    (PT : PropOf K C "things" pT fT) (FT : Fun K "things" "Roll.things" sThi fT fdT) (bT : Binds K fdT ["self"] []) (PO : PropOf K C "orders" pO fOr) (FO : Fun K "orders" "Roll.orders" sOrd fOr fdOr) (bO : Binds K fdOr ["self"] []) :
    FnOk P w K mg base CX0 4 f fd ["roll"] (spIsC K C) := by
  have GR : FnOk P w K mg base CX0 3 fR fdR ["roll"] (spRou K C) := ok_rou DR DC DO DS DU DW T R PT FT bT PO FO bO
  refine D.F.ok scIsC (fun vs H Q E h => ?_) (fun cdv A outer sh H vs Q E hr h => ?_)
  · obtain ⟨r, t, y, ys, rfl, _⟩ := h
    rfl
  · obtain ⟨r, t, y, ys, rfl, ro, q⟩ := h
    refine ⟨_, pss_one (ps_ret (pe_cmp (pc_isN (pe_call GR (hr.mono (by decide)) (by rfl) DR.g DR.F.kp DR.b .nil pass0 (pa_cons (pv 0) pa_nil))))), ?_⟩
    refine ⟨_, rfl, r, t, y, ys, rfl, ro, fun e H1 s1 => ?_, fun x zs e p q' H1 s1 _ _ => ?_⟩
    · have := q H1 s1
      rw [decide_eq_true e] at this
      simpa using this
    · have := q H1 s1
      rw [decide_eq_false (by rw [e]; exact fun z => by cases z)] at this
      simpa using this
end
end L2.Cal
end

section
set_option maxRecDepth 100000
set_option maxHeartbeats 4000000
/-! calm by places and by wheels (pure) -/
namespace L2.Cal
open PySem PySem.Spec PyProof.Rows L2
/-- orders of the same letters, one behind the other in any way -/
structure Loose (ys : List Str) (y : Str) : Prop where
  of : ∀ z ∈ ys, z.cps.toList.Perm y.cps.toList
  let_ : Lett y
  h3 : 3 ≤ y.cps.size
  h6 : y.cps.size ≤ 6
  some : 0 < ys.length
theorem Good.loose {ys : List Str} {y : Str} (G : Good ys y) : Loose ys y := ⟨G.lot.of, G.let_, G.h3, G.h6, G.lot.some⟩
theorem Loose.snoc {ys : List Str} {y z : Str} (L : Loose ys y) (h : z.cps.toList.Perm y.cps.toList) : Loose (ys ++ [z]) y :=
  ⟨fun u hu => by rcases List.mem_append.mp hu with k | k; exact L.of u k; rw [List.mem_singleton.mp k]; exact h, L.let_, L.h3, L.h6, by rw [List.length_append]; exact Nat.lt_of_lt_of_le L.some (Nat.le_add_right _ _)⟩
theorem tidy_lt {y : Str} (h : Lett y) : (tidy y).cps.toList.Pairwise (· < ·) := by
  have n : (tidy y).cps.toList.Nodup := (tidy_perm y).nodup_iff.mpr h.1
  exact (List.Pairwise.and (tidy_up y) n).imp fun ⟨a, b⟩ => Nat.lt_of_le_of_ne a b
theorem Loose.six {ys : List Str} {y : Str} (L : Loose ys y) {a b c : Nat} (d : Apart a b c) (ha : a ∈ y.cps.toList) (hb : b ∈ y.cps.toList) (hc : c ∈ y.cps.toList) : ∀ o ∈ ys, press o (s3 a b c) ∈ six a b c := fun o ho => by
  have p := L.of o ho
  have nd : o.cps.toList.Nodup := (L.let_.perm p).1
  refine six_of d ?_
  show (o.cps.toList.filter fun x => decide (x ∈ (s3 a b c).cps.toList)).Perm [a, b, c]
  obtain ⟨ab, ac, bc⟩ := d
  refine (List.perm_ext_iff_of_nodup (nd.filter _) (by simp [ab, ac, bc])).mpr fun x => ?_
  have e : (s3 a b c).cps.toList = [a, b, c] := rfl
  rw [List.mem_filter, e, decide_eq_true_eq]
  constructor
  · exact fun h => h.2
  · intro h
    refine ⟨?_, h⟩
    simp only [List.mem_cons, List.not_mem_nil, or_false] at h
    rcases h with rfl | rfl | rfl
    · exact p.mem_iff.mpr ha
    · exact p.mem_iff.mpr hb
    · exact p.mem_iff.mpr hc
def calmB (ys : List Str) (y : Str) : Bool := decide (roughR ys (tidy y).cps.toList = none)
theorem calm_iff {ys : List Str} {y : Str} : calmB ys y = true ↔ ∀ x ∈ tri (tidy y).cps.toList, wheelAt ys x = none := by
  unfold calmB
  rw [decide_eq_true_iff, rough_none]
end L2.Cal
end

section
set_option maxRecDepth 100000
set_option maxHeartbeats 4000000
/-! itertools.combinations(text, r), at the library's level -/
namespace CpComb
open PySem

theorem sub_comb : isSubtype (.type "itertools.combinations") (.type "itertools.combinations") = pure true := by rw [isSubtype_type]; exact id rfl
theorem subo_comb : isSubtype (.type "itertools.combinations") (.type "object") = pure true := by rw [isSubtype_type]; exact id rfl
theorem mro_comb : mroOf (.type "itertools.combinations") = pure [.type "itertools.combinations", .type "object"] := by rw [mroOf_type]; exact id rfl
theorem lookup_comb_new : typeLookup (.type "itertools.combinations") (Str.ofString "__new__") = pure (some (.builtin "itertools.combinations.__new__")) := by
  rw [typeLookup_type, builtinLookup_eq_fast]; exact id rfl
theorem entry_comb_new : entryFor table "itertools.combinations.__new__" = some Builtin.«itertools.combinations.__new__» := entryFor_of_tree (id rfl)
theorem entry_comb_next : entryFor table "itertools.combinations.__next__" = some Builtin.«itertools.combinations.__next__» := entryFor_of_tree (id rfl)
theorem slot_comb_next : Slot "itertools.combinations" (Str.ofString "__next__") "itertools.combinations.__next__" :=
  Slot.of (by rw [typeLookup_type, builtinLookup_eq_fast]; exact id rfl) (show splitId "itertools.combinations.__next__" = some ("itertools.combinations", "__next__") by decide +kernel) (by decide +kernel) (by decide +kernel) (Or.inl (by decide +kernel)) sub_comb (by decide +kernel)
theorem slot_comb_init : Slot "itertools.combinations" (Str.ofString "__init__") "object.__init__" :=
  Slot.of (by rw [typeLookup_type, builtinLookup_eq_fast]; exact id rfl) (show splitId "object.__init__" = some ("object", "__init__") by decide +kernel) (by decide +kernel) (by decide +kernel) (Or.inl (by decide +kernel)) subo_comb (by decide +kernel)
theorem called_comb : TypeCalled "itertools.combinations" "itertools.combinations.__new__" "object.__init__" where
  notType := by decide +kernel
  canCreate := by decide +kernel
  mro := ⟨_, _, mro_comb⟩
  made := madeBy_type mro_comb lookup_comb_new (by decide +kernel)
  plain := by decide +kernel
  sub := sub_comb
  init := slot_comb_init
theorem typeCall_comb_2 (a b : Value) : checkTypeCall "itertools.combinations" { pos := [a, b] } = pure () := by kernel_rfl
theorem newCall_comb_2 (a b : Value) : checkBuiltinCall "itertools.combinations.__new__" { pos := [.type "itertools.combinations", a, b] } = pure () := by kernel_rfl
theorem noClose_comb : typeLookup (.type "itertools.combinations") (Str.ofString "close") = pure none := by rw [typeLookup_type, builtinLookup_eq_fast]; exact id rfl
theorem noDict_comb : typeHasDict (.type "itertools.combinations") = false := by decide +kernel
theorem owner_comb : List.lookup (String.ofList ("itertools.combinations".toList)) Manifest.owners = some Manifest.sig_itertools_combinations := id rfl
theorem slot_comb_iter : Slot "itertools.combinations" (Str.ofString "__iter__") "itertools.combinations.__iter__" :=
  Slot.of (by rw [typeLookup_type, builtinLookup_eq_fast]; exact id rfl) (show splitId "itertools.combinations.__iter__" = some ("itertools.combinations", "__iter__") by decide +kernel) (by decide +kernel) (by decide +kernel) (Or.inl (by decide +kernel)) sub_comb (by decide +kernel)
theorem entry_comb_iter : entryFor table "itertools.combinations.__iter__" = some Builtin.«dict_keyiterator.__iter__» :=
  entryFor_alias (id (Eq.refl (fastTable "itertools.combinations.__iter__"))) (Eq.refl ("itertools.combinations.__iter__".cutAt '#')) (by decide +kernel) (id (Eq.refl (fastTable "dict_keyiterator.__iter__")))
theorem args_comb_next (a : Value) : argsOk "itertools.combinations.__next__" { pos := [a] } := by
  unfold argsOk
  rw [signature?_of (id (Eq.refl (List.span (fun x => x != '.') (List.map (fun c => if (c.isAlphanum || c == '_' || c == '.') = true then c else '_') "itertools.combinations.__next__".toList).reverse))) owner_comb]
  exact id rfl
theorem args_comb_iter (a : Value) : argsOk "itertools.combinations.__iter__" { pos := [a] } := by
  unfold argsOk
  rw [signature?_of (id (Eq.refl (List.span (fun x => x != '.') (List.map (fun c => if (c.isAlphanum || c == '_' || c == '.') = true then c else '_') "itertools.combinations.__iter__".toList).reverse))) owner_comb]
  exact id rfl
end CpComb
end

section
set_option maxRecDepth 100000
set_option maxHeartbeats 4000000
/-! all ascending rows of so many places, in turn -/
namespace CpComb
/-- the row behind a row -/
def nxtC (n : Nat) : List Nat → Option (List Nat)
  | [] => none
  | a :: t => match nxtC n t with
    | some u => some (a :: u)
    | none => if a ≠ n - (t.length + 1) then some ((List.range (t.length + 1)).map fun i => a + 1 + i) else none
/-- r places from lo on, k of them left free -/
def cmb : Nat → Nat → Nat → List (List Nat)
  | 0, _, _ => [[]]
  | r + 1, 0, lo => (cmb r 0 (lo + 1)).map (lo :: ·)
  | r + 1, k + 1, lo => (cmb r (k + 1) (lo + 1)).map (lo :: ·) ++ cmb (r + 1) k (lo + 1)
def fstC (r lo : Nat) : List Nat := (List.range r).map fun i => lo + i
theorem fst_cons (r lo : Nat) : fstC (r + 1) lo = lo :: fstC r (lo + 1) := by
  unfold fstC
  rw [List.range_succ_eq_map, List.map_cons, List.map_map]
  congr 1
  refine List.map_congr_left fun i _ => ?_
  show lo + (i + 1) = lo + 1 + i
  omega
theorem run_cmb : ∀ (r k lo n : Nat), n = lo + r + k → (cmb r k lo)[0]? = some (fstC r lo) ∧ ∀ i l, (cmb r k lo)[i]? = some l → l.length = r ∧ (∀ b, b ∈ l → b < n) ∧ nxtC n l = (cmb r k lo)[i + 1]?
  | 0, k, lo, n, _ => by
    refine ⟨by simp [cmb, fstC], fun i l h => ?_⟩
    cases i with
    | zero =>
      simp [cmb] at h
      subst h
      exact ⟨rfl, fun b hb => by simp at hb, by simp [cmb, nxtC]⟩
    | succ i => simp [cmb] at h
  | r + 1, 0, lo, n, e => by
    obtain ⟨h0, hs⟩ := run_cmb r 0 (lo + 1) n (by omega)
    refine ⟨?_, fun i l h => ?_⟩
    · unfold cmb
      rw [List.getElem?_map, h0, fst_cons] <;> rfl
    · unfold cmb at h ⊢
      rw [List.getElem?_map] at h ⊢
      cases et : (cmb r 0 (lo + 1))[i]? with
      | none => rw [et] at h; cases h
      | some t =>
        rw [et] at h
        cases h
        obtain ⟨tl, tb, tn⟩ := hs i t et
        refine ⟨by rw [List.length_cons, tl], fun b hb => ?_, ?_⟩
        · rcases List.mem_cons.mp hb with z | z
          · omega
          · exact tb b z
        · unfold nxtC
          rw [tn]
          cases eu : (cmb r 0 (lo + 1))[i + 1]? with
          | some u => rfl
          | none =>
            dsimp only
            rw [if_neg (by rw [tl]; omega)] <;> rfl
  | r + 1, k + 1, lo, n, e => by
    obtain ⟨h0, hs⟩ := run_cmb r (k + 1) (lo + 1) n (by omega)
    obtain ⟨g0, gs⟩ := run_cmb (r + 1) k (lo + 1) n (by omega)
    have pos : 0 < (cmb r (k + 1) (lo + 1)).length := (List.getElem?_eq_some_iff.mp h0).1
    refine ⟨?_, fun i l h => ?_⟩
    · unfold cmb
      rw [List.getElem?_append_left (by rw [List.length_map]; exact pos), List.getElem?_map, h0, fst_cons] <;> rfl
    · unfold cmb at h ⊢
      by_cases lt : i < (cmb r (k + 1) (lo + 1)).length
      · rw [List.getElem?_append_left (by rw [List.length_map]; exact lt), List.getElem?_map, List.getElem?_eq_getElem lt] at h
        cases h
        obtain ⟨tl, tb, tn⟩ := hs i _ (List.getElem?_eq_getElem lt)
        refine ⟨by rw [List.length_cons, tl], fun b hb => ?_, ?_⟩
        · rcases List.mem_cons.mp hb with z | z
          · omega
          · exact tb b z
        · unfold nxtC
          rw [tn]
          by_cases lt2 : i + 1 < (cmb r (k + 1) (lo + 1)).length
          · rw [List.getElem?_eq_getElem lt2, List.getElem?_append_left (by rw [List.length_map]; exact lt2), List.getElem?_map, List.getElem?_eq_getElem lt2] <;> rfl
          · have el : i + 1 = (cmb r (k + 1) (lo + 1)).length := by omega
            rw [List.getElem?_eq_none (by omega), List.getElem?_append_right (by rw [List.length_map]; omega), List.length_map, el, Nat.sub_self, g0]
            dsimp only
            rw [if_pos (by rw [tl]; omega), tl] <;> rfl
      · rw [List.getElem?_append_right (by rw [List.length_map]; omega), List.length_map] at h
        obtain ⟨tl, tb, tn⟩ := gs _ l h
        refine ⟨tl, tb, ?_⟩
        rw [tn, List.getElem?_append_right (by rw [List.length_map]; omega), List.length_map]
        congr 1
        omega
theorem nxt_none {n : Nat} : ∀ {l : List Nat}, (∀ j, j < l.length → l.getD j 0 = j + n - l.length) → nxtC n l = none
  | [], _ => rfl
  | a :: t, h => by
    have ht : nxtC n t = none := nxt_none fun j hj => by
      have := h (j + 1) (by rw [List.length_cons]; omega)
      rw [List.length_cons] at this
      have e : (a :: t).getD (j + 1) 0 = t.getD j 0 := rfl
      rw [e] at this
      omega
    have h0 := h 0 (by rw [List.length_cons]; omega)
    rw [List.length_cons] at h0
    have e : (a :: t).getD 0 0 = a := rfl
    rw [e] at h0
    unfold nxtC
    rw [ht]
    dsimp only
    rw [if_neg (by omega)]
theorem nxt_some {n : Nat} : ∀ {l : List Nat} {i : Nat}, i < l.length → l.getD i 0 ≠ i + n - l.length → (∀ j, i < j → j < l.length → l.getD j 0 = j + n - l.length) → nxtC n l = some (l.take i ++ (List.range (l.length - i)).map fun k => l.getD i 0 + 1 + k)
  | [], i, hi, _, _ => by simp at hi
  | a :: t, 0, _, ne, h => by
    have ht : nxtC n t = none := nxt_none fun j hj => by
      have := h (j + 1) (by omega) (by rw [List.length_cons]; omega)
      rw [List.length_cons] at this
      have e : (a :: t).getD (j + 1) 0 = t.getD j 0 := rfl
      rw [e] at this
      omega
    have e : (a :: t).getD 0 0 = a := rfl
    rw [e, List.length_cons] at ne
    unfold nxtC
    rw [ht]
    dsimp only
    rw [if_pos (by omega)] <;> rfl
  | a :: t, i + 1, hi, ne, h => by
    rw [List.length_cons] at hi
    have e : ∀ j, (a :: t).getD (j + 1) 0 = t.getD j 0 := fun j => rfl
    rw [e, List.length_cons] at ne
    have ht := nxt_some (n := n) (l := t) (i := i) (by omega) (by omega) fun j h1 h2 => by
      have := h (j + 1) (by omega) (by rw [List.length_cons]; omega)
      rw [e, List.length_cons] at this
      omega
    unfold nxtC
    rw [ht, List.length_cons, e, show t.length + 1 - (i + 1) = t.length - i by omega] <;> rfl
theorem find_back {p : Nat → Bool} : ∀ {r i : Nat}, (List.range r).reverse.find? p = some i → i < r ∧ p i = true ∧ ∀ j, i < j → j < r → p j = false
  | 0, i, h => by simp at h
  | r + 1, i, h => by
    rw [List.range_succ, List.reverse_append, List.reverse_singleton, List.singleton_append, List.find?_cons] at h
    cases e : p r with
    | true =>
      rw [e] at h
      cases h
      exact ⟨by omega, e, fun j h1 h2 => by omega⟩
    | false =>
      rw [e] at h
      obtain ⟨h1, h2, h3⟩ := find_back h
      refine ⟨by omega, h2, fun j g1 g2 => ?_⟩
      by_cases z : j = r
      · rw [z]
        exact e
      · exact h3 j g1 (by omega)
theorem find_none {p : Nat → Bool} {r : Nat} (h : (List.range r).reverse.find? p = none) (j : Nat) (hj : j < r) : p j = false := by
  have := List.find?_eq_none.mp h j (List.mem_reverse.mpr (List.mem_range.mpr hj))
  simpa using this
end CpComb
end

section
set_option maxRecDepth 100000
set_option maxHeartbeats 4000000
/-! itertools.permutations(text, r), at the library's level -/
namespace CpPerm
open PySem
abbrev PT : String := "itertools.permutations"
theorem sub_perm : isSubtype (.type "itertools.permutations") (.type "itertools.permutations") = pure true := by rw [isSubtype_type]; exact id rfl
theorem subo_perm : isSubtype (.type "itertools.permutations") (.type "object") = pure true := by rw [isSubtype_type]; exact id rfl
theorem mro_perm : mroOf (.type "itertools.permutations") = pure [.type "itertools.permutations", .type "object"] := by rw [mroOf_type]; exact id rfl
theorem lookup_perm_new : typeLookup (.type "itertools.permutations") (Str.ofString "__new__") = pure (some (.builtin "itertools.permutations.__new__")) := by
  rw [typeLookup_type, builtinLookup_eq_fast]; exact id rfl
theorem entry_perm_new : entryFor table "itertools.permutations.__new__" = some Builtin.«itertools.permutations.__new__» := entryFor_of_tree (id rfl)
theorem entry_perm_next : entryFor table "itertools.permutations.__next__" = some Builtin.«itertools.permutations.__next__» := entryFor_of_tree (id rfl)
theorem slot_perm_next : Slot "itertools.permutations" (Str.ofString "__next__") "itertools.permutations.__next__" :=
  Slot.of (by rw [typeLookup_type, builtinLookup_eq_fast]; exact id rfl) (show splitId "itertools.permutations.__next__" = some ("itertools.permutations", "__next__") by decide +kernel) (by decide +kernel) (by decide +kernel) (Or.inl (by decide +kernel)) sub_perm (by decide +kernel)
theorem slot_perm_init : Slot "itertools.permutations" (Str.ofString "__init__") "object.__init__" :=
  Slot.of (by rw [typeLookup_type, builtinLookup_eq_fast]; exact id rfl) (show splitId "object.__init__" = some ("object", "__init__") by decide +kernel) (by decide +kernel) (by decide +kernel) (Or.inl (by decide +kernel)) subo_perm (by decide +kernel)
theorem called_perm : TypeCalled "itertools.permutations" "itertools.permutations.__new__" "object.__init__" where
  notType := by decide +kernel
  canCreate := by decide +kernel
  mro := ⟨_, _, mro_perm⟩
  made := madeBy_type mro_perm lookup_perm_new (by decide +kernel)
  plain := by decide +kernel
  sub := sub_perm
  init := slot_perm_init
theorem typeCall_perm_2 (a b : Value) : checkTypeCall "itertools.permutations" { pos := [a, b] } = pure () := by kernel_rfl
theorem newCall_perm_2 (a b : Value) : checkBuiltinCall "itertools.permutations.__new__" { pos := [.type "itertools.permutations", a, b] } = pure () := by kernel_rfl
theorem typeCall_perm_1 (a : Value) : checkTypeCall "itertools.permutations" { pos := [a] } = pure () := by kernel_rfl
theorem newCall_perm_1 (a : Value) : checkBuiltinCall "itertools.permutations.__new__" { pos := [.type "itertools.permutations", a] } = pure () := by kernel_rfl
theorem noClose_perm : typeLookup (.type "itertools.permutations") (Str.ofString "close") = pure none := by rw [typeLookup_type, builtinLookup_eq_fast]; exact id rfl
theorem noDict_perm : typeHasDict (.type "itertools.permutations") = false := by decide +kernel
theorem owner_perm : List.lookup (String.ofList ("itertools.permutations".toList)) Manifest.owners = some Manifest.sig_itertools_permutations := id rfl
theorem slot_perm_iter : Slot "itertools.permutations" (Str.ofString "__iter__") "itertools.permutations.__iter__" :=
  Slot.of (by rw [typeLookup_type, builtinLookup_eq_fast]; exact id rfl) (show splitId "itertools.permutations.__iter__" = some ("itertools.permutations", "__iter__") by decide +kernel) (by decide +kernel) (by decide +kernel) (Or.inl (by decide +kernel)) sub_perm (by decide +kernel)
theorem entry_perm_iter : entryFor table "itertools.permutations.__iter__" = some Builtin.«dict_keyiterator.__iter__» :=
  entryFor_alias (id (Eq.refl (fastTable "itertools.permutations.__iter__"))) (Eq.refl ("itertools.permutations.__iter__".cutAt '#')) (by decide +kernel) (id (Eq.refl (fastTable "dict_keyiterator.__iter__")))
theorem args_perm_next (a : Value) : argsOk "itertools.permutations.__next__" { pos := [a] } := by
  unfold argsOk
  rw [signature?_of (id (Eq.refl (List.span (fun x => x != '.') (List.map (fun c => if (c.isAlphanum || c == '_' || c == '.') = true then c else '_') "itertools.permutations.__next__".toList).reverse))) owner_perm]
  exact id rfl
theorem args_perm_iter (a : Value) : argsOk "itertools.permutations.__iter__" { pos := [a] } := by
  unfold argsOk
  rw [signature?_of (id (Eq.refl (List.span (fun x => x != '.') (List.map (fun c => if (c.isAlphanum || c == '_' || c == '.') = true then c else '_') "itertools.permutations.__iter__".toList).reverse))) owner_perm]
  exact id rfl
end CpPerm
end

section
set_option maxRecDepth 100000
set_option maxHeartbeats 4000000
/-! the numbers of itertools.permutations, at the library's level -/
namespace CpPerm
open PySem
/-! ### the numbers -/
abbrev NP := Nat → Nat → List Nat → List Nat → Option (List Nat × List Nat)
def seqOf (np : NP) (n r : Nat) : Nat → List Nat × List Nat → List (List Nat × List Nat)
  | 0, _ => []
  | k + 1, s => s :: match np n r s.1 s.2 with | none => [] | some t => seqOf np n r k t
def s0 (n r : Nat) : List Nat × List Nat := (List.range n, (List.range r).map fun i => n - i)
def picks : List Nat → List (Nat × List Nat)
  | [] => []
  | a :: l => (a, l) :: (picks l).map fun p => (p.1, a :: p.2)
/-- all arrangements of so many of these, in turn -/
def pm : Nat → List Nat → List (List Nat)
  | 0, _ => [[]]
  | r + 1, l => (picks l).flatMap fun p => (pm r p.2).map (p.1 :: ·)
def okNP (np : NP) (n r : Nat) : Bool := decide ((seqOf np n r 800 (s0 n r)).map (fun s => s.1.take r) = pm r (List.range n)) && ((seqOf np n r 800 (s0 n r)).all fun s => decide (s.1.length = n ∧ s.2.length ≤ 12)) && decide ((seqOf np n r 800 (s0 n r)).length < 800)
end CpPerm
end

section
set_option maxRecDepth 100000
set_option maxHeartbeats 4000000
/-! itertools.permutations(text, r): its turns -/
namespace CpPerm
open PySem PySem.Spec
def permO (pool : Addr) (ph : Int) (r : Nat) (old : Value) (ns : List Nat) : Obj := { cls := .type "itertools.permutations", data := .fields ([.ref pool, rawInt ph, rawInt (r : Int), old] ++ ns.map fun (n : Nat) => rawInt (n : Int)).toArray }
def toNatV : Value → Nat := fun x => match x with | .int n _ => n.toNat | _ => 0
theorem nums_back (ns : List Nat) : (ns.map fun (n : Nat) => rawInt (n : Int)).map toNatV = ns := by
  rw [List.map_map]
  exact (List.map_congr_left fun n _ => by simp [toNatV, rawInt]).trans (List.map_id _)
section
variable {prog : Program} {w : World} {A : Around} {E : Value → Shared → Prop} {s : Shared} {it pool : Addr} {r n : Nat} {old : Value} {ns : List Nat} {items : List Value} {tk0 : Nat}
theorem next_one {ph : Int} {Q : Option Value → Shared → Prop} (hit : s.heap.get? it = some (permO pool ph r old ns))
    (h : wpAny (model prog w) A.in1 (Builtin.«itertools.permutations.__next__» ⟨[.ref it], []⟩) (fun fin s' => ∃ v, fin = Fin.done (Flow.ret v) ∧ Q (some v) s') E s) : wpAny (model prog w) A (callSpecial? (.ref it) (Str.ofString "__next__")) Q E s := by
  have kind : s.TypeIs (.ref it) "itertools.permutations" := ⟨_, hit, rfl⟩
  exact wpAny_callSpecial?_slot kind slot_perm_next (wpAny_call_entry slot_perm_next kind entry_perm_next h (args_perm_next _))
theorem nums_of (pool : Addr) (ph : Int) (r : Nat) (old : Value) (ns : List Nat) : ((([.ref pool, rawInt ph, rawInt (r : Int), old] ++ ns.map fun (n : Nat) => rawInt (n : Int)).toArray.toList.drop 4).map toNatV) = ns := nums_back ns
theorem set_1 {v : Int} {ph : Int} : Obj.mapFields (fun x => x.setIfInBounds 1 (rawInt v)) (permO pool ph r old ns) = permO pool v r old ns := by
  simp [Obj.mapFields, permO]
theorem set_3 {v : Value} {ph : Int} : Obj.mapFields (fun x => x.setIfInBounds 3 v) (permO pool ph r old ns) = permO pool ph r v ns := by
  simp [Obj.mapFields, permO]
theorem next_first {F : PySem.Fin → Shared → Prop} (hit : s.heap.get? it = some (permO pool 0 r old ns)) (hl : ns.length ≤ 12) {od : Option Addr} {n0 : Nat} {osl : Array (Option Value)} (hp : s.heap.get? pool = some ⟨.type "tuple", od, .seq items.toArray n0, osl⟩)
    (q : ∀ h', (∀ b o, b ≠ it → s.heap.get? b = some o → h'.get? b = some o) → h'.get? it = some (permO pool 1 r (.ref s.heap.objs.size) ns) → h'.get? s.heap.objs.size = some { cls := .type "tuple", data := .seq ((ns.take r).map fun i => items.toArray.getD i Value.none).toArray } → F (Fin.done (Flow.ret (.ref s.heap.objs.size))) { s with heap := h' }) :
    wpAny (model prog w) A (Builtin.«itertools.permutations.__next__» ⟨[.ref it], []⟩) F E s := by
  show wpAny _ _ (field (.ref it) 0 >>= _) _ _ _
  refine wpAny_bind (wpAny_field hit rfl (x := .ref pool) rfl ?_)
  refine wpAny_bind ?_
  unfold Builtin.Itertools.itPoolItems
  refine wpAny_bind ?_
  refine wpAny_seqItems hp rfl (wpAny_pure ?_)
  refine wpAny_bind (wpAny_bind (wpAny_field hit rfl (x := rawInt (r : Int)) rfl (wpAny_pure ?_)))
  refine wpAny_bind (wpAny_bind (wpAny_load hit (wpAny_pure ?_)))
  refine wpAny_bind (wpAny_bind (wpAny_field hit rfl (x := rawInt 0) rfl (wpAny_pure ?_)))
  erw [nums_of]
  show wpAny _ _ (setField (Value.ref it) 1 _ >>= _) _ _ _
  refine wpAny_bind (wpAny_setField hit rfl (by simp [permO]) ?_)
  have h1 := Heap.get?_update_self (Obj.mapFields fun x => x.setIfInBounds 1 (rawInt 1)) hit rfl
  rw [set_1] at h1
  have out : ∀ b o, b ≠ it → s.heap.get? b = some o → (s.heap.update it (Obj.mapFields fun x => x.setIfInBounds 1 (rawInt 1))).get? b = some o := fun b o nb e => by rw [Heap.get?_update_of_ne _ nb.symm]; exact e
  have sz : (s.heap.update it (Obj.mapFields fun x => x.setIfInBounds 1 (rawInt 1))).objs.size = s.heap.objs.size := Heap.size_update ..
  generalize s.heap.update it (Obj.mapFields fun x => x.setIfInBounds 1 (rawInt 1)) = hp1 at h1 out sz ⊢
  refine wpAny_bind (wpAny_newTuple ?_ (by rw [List.length_map, List.length_take, sizeLine_eq]; omega))
  refine wpAny_bind (wpAny_field (Heap.get?_push_of_some _ h1) rfl (x := old) rfl ?_)
  refine wpAny_bind (wpAny_setField (Heap.get?_push_of_some _ h1) rfl (by simp [permO]) ?_)
  refine wpAny_bind (wpAny_letGo (wpAny_pure ?_))
  rw [Int.toNat_natCast]
  dsimp only
  rw [sz]
  refine q _ (fun b o nb e => ?_) ?_ ?_
  · rw [Heap.get?_update_of_ne _ nb.symm]
    exact Heap.get?_push_of_some _ (out b o nb e)
  · rw [Heap.get?_update_self _ (Heap.get?_push_of_some _ h1) rfl, set_3]
  · rw [Heap.get?_update_of_ne _ (Nat.ne_of_lt (by rw [← sz]; exact Heap.lt_size h1))]
    exact (congrArg _ sz.symm).trans (Heap.get?_push_size _ rfl)
theorem nums_set {ph : Int} (ms : List Nat) : Obj.mapFields (fun fs => fs.extract 0 4 ++ (ms.map fun (n : Nat) => rawInt (n : Int)).toArray) (permO pool ph r old ns) = permO pool ph r old ms := by
  simp [Obj.mapFields, permO]
theorem stop_run {α : Type} {F : α → Shared → Prop} (hh : A.handled = none) (q : ∀ e h', (∃ a o, e = Value.ref a ∧ h'.get? a = some o ∧ o.cls = .type "StopIteration") → (∀ b o, s.heap.get? b = some o → h'.get? b = some o) → E e { s with heap := h' }) :
    wpAny (model prog w) A (Builtin.Itertools.itStop (α := α)) F E s := by
  unfold Builtin.Itertools.itStop
  refine wpAny_bind ?_
  unfold newExc
  refine wpAny_bind (wpAny_newTuple ?_)
  refine wpAny_bind (wpAny_of_eq rfl ?_)
  refine wpAny_newObj_type ?_
  refine wpAny_raiseNew_none hh (q _ _ ⟨_, _, rfl, Heap.get?_push_size _ rfl, rfl⟩ fun b o e => Heap.get?_push_of_some _ (Heap.get?_push_of_some _ e))
/-- what is known of the step from one arrangement to the next one -/
structure NextOk (np : NP) : Prop where
  more : ∀ {prog : Program} {w : World} {A : Around} {E : Value → Shared → Prop} {s : Shared} {it pool : Addr} {r : Nat} {old : Value} {items : List Value} {F : PySem.Fin → Shared → Prop} {ix cy jx dy : List Nat} {od : Option Addr} {n0 : Nat} {osl : Array (Option Value)}, s.heap.get? it = some (permO pool 1 r old (ix ++ cy)) → ix.length = items.length → jx.length ≤ 12 → dy.length ≤ 12 → np items.length r ix cy = some (jx, dy) →
    s.heap.get? pool = some ⟨.type "tuple", od, .seq items.toArray n0, osl⟩ →
    (∀ h', (∀ b o, b ≠ it → s.heap.get? b = some o → h'.get? b = some o) → h'.get? it = some (permO pool 1 r (.ref s.heap.objs.size) (jx ++ dy)) → h'.get? s.heap.objs.size = some { cls := .type "tuple", data := .seq ((jx.take r).map fun i => items.toArray.getD i Value.none).toArray } → F (Fin.done (Flow.ret (.ref s.heap.objs.size))) { s with heap := h' }) →
    wpAny (model prog w) A (Builtin.«itertools.permutations.__next__» ⟨[.ref it], []⟩) F E s
  done : ∀ {prog : Program} {w : World} {A : Around} {E : Value → Shared → Prop} {s : Shared} {it pool : Addr} {r : Nat} {old : Value} {items : List Value} {F : PySem.Fin → Shared → Prop} {ix cy : List Nat} {od : Option Addr} {n0 : Nat} {osl : Array (Option Value)}, A.handled = none → s.heap.get? it = some (permO pool 1 r old (ix ++ cy)) → ix.length = items.length → np items.length r ix cy = none →
    s.heap.get? pool = some ⟨.type "tuple", od, .seq items.toArray n0, osl⟩ →
    (∀ e h', (∃ a o, e = Value.ref a ∧ h'.get? a = some o ∧ o.cls = .type "StopIteration") → (∀ b o, b ≠ it → s.heap.get? b = some o → h'.get? b = some o) → E e { s with heap := h' }) →
    wpAny (model prog w) A (Builtin.«itertools.permutations.__next__» ⟨[.ref it], []⟩) F E s
theorem next_is : ∃ np : NP, NextOk np ∧ ∀ n, n ≤ 6 → ∀ r, r ≤ n → okNP np n r = true := by
  refine' ⟨_, ⟨?more, ?done⟩, ?ok⟩
  case more =>
    intro prog w A E s it pool r old items F ix cy jx dy od n0 osl hit hi hl hd hs hp q
    show wpAny _ _ (field (.ref it) 0 >>= _) _ _ _
    refine wpAny_bind (wpAny_field hit rfl (x := .ref pool) rfl ?_)
    refine wpAny_bind ?_
    unfold Builtin.Itertools.itPoolItems
    refine wpAny_bind ?_
    refine wpAny_seqItems hp rfl (wpAny_pure ?_)
    refine wpAny_bind (wpAny_bind (wpAny_field hit rfl (x := rawInt (r : Int)) rfl (wpAny_pure ?_)))
    refine wpAny_bind (wpAny_bind (wpAny_load hit (wpAny_pure ?_)))
    refine wpAny_bind (wpAny_bind (wpAny_field hit rfl (x := rawInt 1) rfl (wpAny_pure ?_)))
    erw [nums_of]
    split
    case h_1 h => exact absurd h (by decide)
    case h_3 _ h => exact absurd rfl h
    dsimp only
    rw [List.size_toArray, ← hi, List.take_left, List.drop_left, hi]
    split
    case h_2 h => cases h.symm.trans hs
    case h_1 jx' dy' h =>
      cases h.symm.trans hs
      refine wpAny_bind ?_
      unfold Builtin.Itertools.itSetNumbersFrom
      refine wpAny_updateFields hit rfl ?_ (by rw [sizeLine_eq]; simp; omega)
      have h1 := Heap.get?_update_self (Obj.mapFields fun fs => fs.extract 0 4 ++ ((jx ++ dy).map fun (n : Nat) => rawInt (n : Int)).toArray) hit rfl
      rw [nums_set] at h1
      have out : ∀ b o, b ≠ it → s.heap.get? b = some o → (s.heap.update it (Obj.mapFields fun fs => fs.extract 0 4 ++ ((jx ++ dy).map fun (n : Nat) => rawInt (n : Int)).toArray)).get? b = some o := fun b o nb e => by rw [Heap.get?_update_of_ne _ nb.symm]; exact e
      have sz : (s.heap.update it (Obj.mapFields fun fs => fs.extract 0 4 ++ ((jx ++ dy).map fun (n : Nat) => rawInt (n : Int)).toArray)).objs.size = s.heap.objs.size := Heap.size_update ..
      generalize s.heap.update it (Obj.mapFields fun fs => fs.extract 0 4 ++ ((jx ++ dy).map fun (n : Nat) => rawInt (n : Int)).toArray) = hp1 at h1 out sz ⊢
      refine wpAny_bind (wpAny_newTuple ?_ (by rw [List.length_map, List.length_take, sizeLine_eq]; omega))
      refine wpAny_bind (wpAny_field (Heap.get?_push_of_some _ h1) rfl (x := old) rfl ?_)
      refine wpAny_bind (wpAny_setField (Heap.get?_push_of_some _ h1) rfl (by simp [permO]) ?_)
      refine wpAny_bind (wpAny_letGo (wpAny_pure ?_))
      rw [Int.toNat_natCast]
      dsimp only
      rw [sz]
      refine q _ (fun b o nb e => ?_) ?_ ?_
      · rw [Heap.get?_update_of_ne _ nb.symm]
        exact Heap.get?_push_of_some _ (out b o nb e)
      · rw [Heap.get?_update_self _ (Heap.get?_push_of_some _ h1) rfl, set_3]
      · rw [Heap.get?_update_of_ne _ (Nat.ne_of_lt (by rw [← sz]; exact Heap.lt_size h1))]
        exact (congrArg _ sz.symm).trans (Heap.get?_push_size _ rfl)
  case done =>
    intro prog w A E s it pool r old items F ix cy od n0 osl hh hit hi hs hp q
    show wpAny _ _ (field (.ref it) 0 >>= _) _ _ _
    refine wpAny_bind (wpAny_field hit rfl (x := .ref pool) rfl ?_)
    refine wpAny_bind ?_
    unfold Builtin.Itertools.itPoolItems
    refine wpAny_bind ?_
    refine wpAny_seqItems hp rfl (wpAny_pure ?_)
    refine wpAny_bind (wpAny_bind (wpAny_field hit rfl (x := rawInt (r : Int)) rfl (wpAny_pure ?_)))
    refine wpAny_bind (wpAny_bind (wpAny_load hit (wpAny_pure ?_)))
    refine wpAny_bind (wpAny_bind (wpAny_field hit rfl (x := rawInt 1) rfl (wpAny_pure ?_)))
    erw [nums_of]
    split
    case h_1 h => exact absurd h (by decide)
    case h_3 _ h => exact absurd rfl h
    dsimp only
    rw [List.size_toArray, ← hi, List.take_left, List.drop_left, hi]
    split
    case h_1 jx dy h => cases h.symm.trans hs
    case h_2 h =>
      refine wpAny_bind (wpAny_setField hit rfl (by simp [permO]) ?_)
      refine stop_run hh fun e h' he k => q e h' he fun b o nb eb => k b o ?_
      rw [Heap.get?_update_of_ne _ nb.symm]
      exact eb
  case ok => decide +kernel
/-- pyNext: an item -/
theorem py_item {Q : Option Value → Shared → Prop} {ph : Int} {jx dy : List Nat} (hit : s.heap.get? it = some (permO pool ph r old ns))
    (h : ∀ F : PySem.Fin → Shared → Prop, ∀ E', (∀ h', (∀ b o, b ≠ it → s.heap.get? b = some o → h'.get? b = some o) → h'.get? it = some (permO pool 1 r (.ref s.heap.objs.size) (jx ++ dy)) → h'.get? s.heap.objs.size = some { cls := .type "tuple", data := .seq ((jx.take r).map fun i => items.toArray.getD i Value.none).toArray } → F (Fin.done (Flow.ret (.ref s.heap.objs.size))) { s with heap := h' }) → wpAny (model prog w) A.in1 (Builtin.«itertools.permutations.__next__» ⟨[.ref it], []⟩) F E' s)
    (q : ∀ h', (∀ b o, b ≠ it → s.heap.get? b = some o → h'.get? b = some o) → h'.get? it = some (permO pool 1 r (.ref s.heap.objs.size) (jx ++ dy)) → h'.get? s.heap.objs.size = some { cls := .type "tuple", data := .seq ((jx.take r).map fun i => items.toArray.getD i Value.none).toArray } → Q (some (.ref s.heap.objs.size)) { s with heap := h' }) :
    wpAny (model prog w) A (pyNext (.ref it)) Q E s := by
  unfold pyNext
  refine wpAny_bind (wpAny_attempt (next_one hit (h _ _ fun h' k1 k2 k3 => ⟨_, rfl, ?_⟩)))
  exact wpAny_pure (q h' k1 k2 k3)
theorem py_done {np : NP} (ok : NextOk np) {Q : Option Value → Shared → Prop} {ix cy : List Nat} (hh : A.handled = none) (hit : s.heap.get? it = some (permO pool 1 r old (ix ++ cy))) (hi : ix.length = items.length) (hs : np items.length r ix cy = none) {od : Option Addr} {n0 : Nat} {osl : Array (Option Value)} (hp : s.heap.get? pool = some ⟨.type "tuple", od, .seq items.toArray n0, osl⟩)
    (q : ∀ h', (∀ b o, b ≠ it → s.heap.get? b = some o → h'.get? b = some o) → Q none { s with heap := h' }) : wpAny (model prog w) A (pyNext (.ref it)) Q E s := by
  unfold pyNext
  refine wpAny_bind (wpAny_attempt (next_one hit (ok.done (by simpa using hh) hit hi hs hp fun e h' he k => ?_)))
  obtain ⟨a, o, rfl, ho, hc⟩ := he
  exact wpAny_bind (wpAny_isInstance (T := "StopIteration") (b := true) ⟨o, ho, hc⟩ isSubtype_stop (wpAny_pure (q h' k)))
theorem py_iter {ph : Int} {Q : Value → Shared → Prop} (hit : s.heap.get? it = some (permO pool ph r old ns)) (h : Q (.ref it) s) : wpAny (model prog w) A (pyIter (.ref it)) Q E s := by
  have hT : s.TypeIs (.ref it) "itertools.permutations" := ⟨_, hit, rfl⟩
  exact wpAny_pyIter_slot hT slot_perm_iter (wpAny_call_entry slot_perm_iter hT entry_perm_iter (wpAny_pure ⟨.ref it, rfl, "itertools.permutations", .builtin "itertools.permutations.__next__", hT, slot_perm_next.lookup, h⟩) (args_perm_iter _))
end
end CpPerm
namespace CpPerm
open PySem PySem.Spec
section
variable {prog : Program} {w : World} {A : Around} {E : Value → Shared → Prop} {s : Shared}
theorem collect_str {Q : List Value → Shared → Prop} (hh : A.handled = none) (x : Str) (t : Tok) (small : x.cps.size ≤ 100)
    (q : ∀ (h' : Heap) (tk : Nat) (acc : Array Value), s.heap.objs.size < h'.objs.size → (∀ b o, s.heap.get? b = some o → h'.get? b = some o) → ItemsOf (SignAt x) acc x.cps.size → Q acc.toList { s with heap := h', toks := tk }) :
    wpAny (model prog w) A (collect (.str x t)) Q E s := by
  have key : ∀ Q0 : Value → Shared → Prop, (∀ (h' : Heap) (tk : Nat) (acc : Array Value) (c' : Nat), (∀ b o, s.heap.get? b = some o → h'.get? b = some o) → h'.get? s.heap.objs.size = some { cls := .type "list", data := .seq acc c' } → ItemsOf (SignAt x) acc x.cps.size → Q0 (.ref s.heap.objs.size) { s with heap := h', toks := tk }) →
      wpAny (model prog w) A (runValue (Code.builtin "proto.collect" { pos := [.str x t] })) Q0 E s := fun Q0 q0 => by
    refine wpAny_runValue (codeAny_builtin F.entry_proto_collect ?_)
    rw [Around.under_plainId F.plain_proto_collect { pos := [.str x t] }]
    show wpAny _ _ (newList [] >>= _) _ _ _
    refine wpAny_bind (wpAny_newList ?_)
    refine wpAny_pure ⟨plainId_quiet F.plain_list_iadd _, codeAny_builtin F.entry_list_iadd ?_⟩
    rw [Around.under_plainId F.plain_list_iadd]
    show wpAny _ _ (Builtin.List.listExtendWith (.ref s.heap.objs.size) (.str x t) (.ref s.heap.objs.size)) _ _ _
    refine wpAny_extend_str (R := fun r s' => match r with | .ok (.ret v) => Q0 v s' | .ok _ => False | .error e => E e s') (s := { s with heap := s.heap.push { cls := .type "list", data := .seq #[] } }) hh x t s.heap.objs.size _ 0 (Heap.get?_push_size _ rfl) (fun h' tk acc c' k1 k2 k3 => ?_) (by rw [sizeLine_eq]; omega)
    exact q0 h' tk acc c' (fun b o e => k1 b o (Nat.ne_of_lt (Heap.lt_size e)) (Heap.get?_push_of_some _ e)) k2 k3
  unfold collect
  exact wpAny_bind (key _ fun h' tk acc c' k1 k2 k3 => wpAny_bind (wpAny_load k2 (wpAny_pure (q h' tk acc (Heap.lt_size k2) k1 k3))))
theorem perm_new {F : PySem.Fin → Shared → Prop} (hh : A.handled = none) (x : Str) (t : Tok) (small : x.cps.size ≤ 6) (r : Nat) (t2 : Tok) (hr : r ≤ x.cps.size)
    (q : ∀ (h' : Heap) (tk : Nat) (items : List Value) (it pool : Addr), (∀ b o, s.heap.get? b = some o → h'.get? b = some o) → (∀ j v, items[j]? = some v → SignAt x j v) → items.length = x.cps.size → s.heap.objs.size ≤ it → s.heap.objs.size ≤ pool → it ≠ pool →
      h'.get? it = some (permO pool 0 r Value.none (List.range x.cps.size ++ (List.range r).map fun i => x.cps.size - i)) → (∃ od n0 osl, h'.get? pool = some ⟨.type "tuple", od, .seq items.toArray n0, osl⟩) → F (Fin.done (Flow.ret (.ref it))) { s with heap := h', toks := tk }) :
    wpAny (model prog w) A (Builtin.«itertools.permutations.__new__» ⟨[.type "itertools.permutations", .str x t, .int (r : Int) t2], []⟩) F E s := by
  have below := sub_perm
  unfold Builtin.«itertools.permutations.__new__»
  refine wpAny_bind ?_
  unfold Builtin.Itertools.itClassAndRest
  wp_walk
  refine wpAny_of_eq (show isSubtype (Value.type "itertools.permutations") (Value.type ("itertools." ++ "permutations")) = pure true by rw [show ("itertools." ++ "permutations" : String) = "itertools.permutations" by decide]; exact sub_perm) ?_
  refine wpAny_pure ?_
  refine wpAny_bind ?_
  unfold Builtin.Itertools.itBindNamed
  generalize hcf : collect = cf
  wp_walk
  subst hcf
  refine collect_str hh x t (by omega) fun h' tk acc k0 k1 k2 => ?_
  have hn : acc.toList.length = x.cps.size := by rw [Array.length_toList]; exact k2.1
  have c1 : (decide ((r : Int) < -2 ^ 63) || decide ((r : Int) ≥ 2 ^ 63)) = false := by
    rw [Bool.or_eq_false_iff]
    exact ⟨decide_eq_false (by omega), decide_eq_false (by omega)⟩
  have c2 : ¬ (r : Int) < 0 := by omega
  have c3 : Builtin.Itertools.itTooMany (r : Int) = false := decide_eq_false (by omega)
  refine wpAny_bind (wpAny_holding ?_)
  wp_walk
  rw [if_neg (by rw [c1]; exact Bool.false_ne_true)]
  refine wpAny_pure ?_
  dsimp only
  rw [if_neg c2, if_neg (by rw [c3]; exact Bool.false_ne_true)]
  refine wpAny_bind (wpAny_newTuple ?_ (by rw [hn, sizeLine_eq]; omega))
  have c4 : ¬ (r : Int).toNat > acc.toList.length := by rw [hn]; omega
  rw [if_neg c4, Int.toNat_natCast, hn]
  unfold Builtin.Itertools.itNewRecord
  rw [noDict_perm]
  refine wpAny_bind ?_
  rw [if_pos (show (!false) = true from rfl)]
  refine wpAny_newObj_type (wpAny_pure ?_) ?_
  · have ef : (([Value.ref h'.objs.size, rawInt 0, rawInt (r : Int), Value.none] ++ (List.range x.cps.size).map (fun (i : Nat) => rawInt (i : Int)) ++ (List.range r).map fun (i : Nat) => rawInt ((x.cps.size : Int) - (i : Int)))) = [Value.ref h'.objs.size, rawInt 0, rawInt (r : Int), Value.none] ++ (List.range x.cps.size ++ (List.range r).map fun i => x.cps.size - i).map fun (n : Nat) => rawInt (n : Int) := by
      rw [List.map_append, List.map_map, List.append_assoc]
      congr 2
      refine List.map_congr_left fun i hi => ?_
      have := List.mem_range.mp hi
      have e : (x.cps.size : Int) - (i : Int) = ((x.cps.size - i : Nat) : Int) := by omega
      exact congrArg rawInt e
    dsimp only
    rw [ef]
    have z := Heap.size_push (h := h') (o := { cls := .type "tuple", data := .seq acc.toList.toArray })
    have kk : ∀ b o, s.heap.get? b = some o → ((h'.push { cls := .type "tuple", data := .seq acc.toList.toArray }).push (permO h'.objs.size 0 r Value.none (List.range x.cps.size ++ (List.range r).map fun i => x.cps.size - i))).get? b = some o := fun b o e => Heap.get?_push_of_some _ (Heap.get?_push_of_some _ (k1 b o e))
    have le : s.heap.objs.size ≤ h'.objs.size := Nat.le_of_lt k0
    refine q _ tk acc.toList _ h'.objs.size kk (fun j v hv => k2.2 j v (by rw [← Array.getElem?_toList]; exact hv)) hn ?_ le ?_ (Heap.get?_push_size _ rfl) ⟨_, _, _, Heap.get?_push_of_some _ (Heap.get?_push_size _ rfl)⟩
    · exact Nat.le_trans (Nat.le_trans le (Nat.le_succ _)) (Nat.le_of_eq z.symm)
    · exact Nat.ne_of_gt (Nat.lt_of_lt_of_le (Nat.lt_succ_self _) (Nat.le_of_eq z.symm))
  · unfold sizeOk
    dsimp only
    rw [List.size_toArray]
    simp only [List.length_append, List.length_map, List.length_range, List.length_cons, List.length_nil, sizeLine_eq]
    omega
end
end CpPerm
end

section
set_option maxRecDepth 100000
set_option maxHeartbeats 4000000
/-! itertools.combinations(row, r): its turns -/
namespace CpComb
open PySem PySem.Spec
def combO (pool : Addr) (ph : Int) (old : Value) (ns : List Nat) : Obj := { cls := .type "itertools.combinations", data := .fields ([.ref pool, rawInt ph, old] ++ ns.map fun (n : Nat) => rawInt (n : Int)).toArray }
section
variable {prog : Program} {w : World} {A : Around} {E : Value → Shared → Prop} {s : Shared} {it pool : Addr} {old : Value} {ns : List Nat} {items : List Value}
theorem next_one {ph : Int} {Q : Option Value → Shared → Prop} (hit : s.heap.get? it = some (combO pool ph old ns))
    (h : wpAny (model prog w) A.in1 (Builtin.«itertools.combinations.__next__» ⟨[.ref it], []⟩) (fun fin s' => ∃ v, fin = Fin.done (Flow.ret v) ∧ Q (some v) s') E s) : wpAny (model prog w) A (callSpecial? (.ref it) (Str.ofString "__next__")) Q E s := by
  have kind : s.TypeIs (.ref it) "itertools.combinations" := ⟨_, hit, rfl⟩
  exact wpAny_callSpecial?_slot kind slot_comb_next (wpAny_call_entry slot_comb_next kind entry_comb_next h (args_comb_next _))
theorem nums_of (pool : Addr) (ph : Int) (old : Value) (ns : List Nat) : ((([.ref pool, rawInt ph, old] ++ ns.map fun (n : Nat) => rawInt (n : Int)).toArray.toList.drop 3).map CpPerm.toNatV) = ns := CpPerm.nums_back ns
theorem set_1 {v : Int} {ph : Int} : Obj.mapFields (fun x => x.setIfInBounds 1 (rawInt v)) (combO pool ph old ns) = combO pool v old ns := by
  simp [Obj.mapFields, combO]
theorem set_2 {v : Value} {ph : Int} : Obj.mapFields (fun x => x.setIfInBounds 2 v) (combO pool ph old ns) = combO pool ph v ns := by
  simp [Obj.mapFields, combO]
theorem nums_set {ph : Int} (ms : List Nat) : Obj.mapFields (fun fs => fs.extract 0 3 ++ (ms.map fun (n : Nat) => rawInt (n : Int)).toArray) (combO pool ph old ns) = combO pool ph old ms := by
  simp [Obj.mapFields, combO]
theorem next_first {F : PySem.Fin → Shared → Prop} (hit : s.heap.get? it = some (combO pool 0 old ns)) (hl : ns.length ≤ 1000) {od : Option Addr} {n0 : Nat} {osl : Array (Option Value)} (hp : s.heap.get? pool = some ⟨.type "tuple", od, .seq items.toArray n0, osl⟩) (ne : pool ≠ it)
    (q : ∀ h', (∀ b o, b ≠ it → s.heap.get? b = some o → h'.get? b = some o) → h'.get? it = some (combO pool 1 (.ref s.heap.objs.size) ns) → h'.get? s.heap.objs.size = some { cls := .type "tuple", data := .seq (ns.map fun i => items.toArray.getD i Value.none).toArray } → F (Fin.done (Flow.ret (.ref s.heap.objs.size))) { s with heap := h' }) :
    wpAny (model prog w) A (Builtin.«itertools.combinations.__next__» ⟨[.ref it], []⟩) F E s := by
  show wpAny _ _ (field (.ref it) 0 >>= _) _ _ _
  refine wpAny_bind (wpAny_field hit rfl (x := .ref pool) rfl ?_)
  refine wpAny_bind (wpAny_bind (wpAny_load hit (wpAny_pure ?_)))
  refine wpAny_bind (wpAny_bind (wpAny_field hit rfl (x := rawInt 0) rfl (wpAny_pure ?_)))
  erw [nums_of]
  show wpAny _ _ (setField (Value.ref it) 1 _ >>= _) _ _ _
  refine wpAny_bind (wpAny_setField hit rfl (by simp [combO]) ?_)
  have h1 := Heap.get?_update_self (Obj.mapFields fun x => x.setIfInBounds 1 (rawInt 1)) hit rfl
  rw [set_1] at h1
  have out : ∀ b o, b ≠ it → s.heap.get? b = some o → (s.heap.update it (Obj.mapFields fun x => x.setIfInBounds 1 (rawInt 1))).get? b = some o := fun b o nb e => by rw [Heap.get?_update_of_ne _ nb.symm]; exact e
  have sz : (s.heap.update it (Obj.mapFields fun x => x.setIfInBounds 1 (rawInt 1))).objs.size = s.heap.objs.size := Heap.size_update ..
  generalize s.heap.update it (Obj.mapFields fun x => x.setIfInBounds 1 (rawInt 1)) = hp1 at h1 out sz ⊢
  refine wpAny_bind (wpAny_bind ?_)
  unfold Builtin.Itertools.itPoolItems
  refine wpAny_bind ?_
  refine wpAny_seqItems (out pool _ ne hp) rfl (wpAny_pure ?_)
  refine wpAny_newTuple ?_ (by rw [List.length_map, sizeLine_eq]; omega)
  refine wpAny_bind (wpAny_field (Heap.get?_push_of_some _ h1) rfl (x := old) rfl ?_)
  refine wpAny_bind (wpAny_setField (Heap.get?_push_of_some _ h1) rfl (by simp [combO]) ?_)
  refine wpAny_bind (wpAny_letGo (wpAny_pure ?_))
  dsimp only
  rw [sz]
  refine q _ (fun b o nb e => ?_) ?_ ?_
  · rw [Heap.get?_update_of_ne _ nb.symm]
    exact Heap.get?_push_of_some _ (out b o nb e)
  · rw [Heap.get?_update_self _ (Heap.get?_push_of_some _ h1) rfl, set_2]
  · rw [Heap.get?_update_of_ne _ (Nat.ne_of_lt (by rw [← sz]; exact Heap.lt_size h1))]
    exact (congrArg _ sz.symm).trans (Heap.get?_push_size _ rfl)
abbrev NC := Nat → List Nat → Option (List Nat)
/-- what is known of the step from one row to the next one -/
structure NextOk (np : NC) : Prop where
  more : ∀ {prog : Program} {w : World} {A : Around} {E : Value → Shared → Prop} {s : Shared} {it pool : Addr} {old : Value} {items : List Value} {F : PySem.Fin → Shared → Prop} {ix jx : List Nat} {od : Option Addr} {n0 : Nat} {osl : Array (Option Value)}, pool ≠ it → s.heap.get? it = some (combO pool 1 old ix) → jx.length ≤ 1000 → np items.length ix = some jx →
    s.heap.get? pool = some ⟨.type "tuple", od, .seq items.toArray n0, osl⟩ →
    (∀ h', (∀ b o, b ≠ it → s.heap.get? b = some o → h'.get? b = some o) → h'.get? it = some (combO pool 1 (.ref s.heap.objs.size) jx) → h'.get? s.heap.objs.size = some { cls := .type "tuple", data := .seq (jx.map fun i => items.toArray.getD i Value.none).toArray } → F (Fin.done (Flow.ret (.ref s.heap.objs.size))) { s with heap := h' }) →
    wpAny (model prog w) A (Builtin.«itertools.combinations.__next__» ⟨[.ref it], []⟩) F E s
  done : ∀ {prog : Program} {w : World} {A : Around} {E : Value → Shared → Prop} {s : Shared} {it pool : Addr} {old : Value} {items : List Value} {F : PySem.Fin → Shared → Prop} {ix : List Nat} {od : Option Addr} {n0 : Nat} {osl : Array (Option Value)}, A.handled = none → s.heap.get? it = some (combO pool 1 old ix) → np items.length ix = none →
    s.heap.get? pool = some ⟨.type "tuple", od, .seq items.toArray n0, osl⟩ →
    (∀ e h', (∃ a o, e = Value.ref a ∧ h'.get? a = some o ∧ o.cls = .type "StopIteration") → (∀ b o, b ≠ it → s.heap.get? b = some o → h'.get? b = some o) → E e { s with heap := h' }) →
    wpAny (model prog w) A (Builtin.«itertools.combinations.__next__» ⟨[.ref it], []⟩) F E s
theorem next_is : ∃ np : NC, NextOk np ∧ ∀ n l, np n l = nxtC n l := by
  refine' ⟨_, ⟨?more, ?done⟩, ?ok⟩
  case more =>
    intro prog w A E s it pool old items F ix jx od n0 osl ne hit hl hs hp q
    show wpAny _ _ (field (.ref it) 0 >>= _) _ _ _
    refine wpAny_bind (wpAny_field hit rfl (x := .ref pool) rfl ?_)
    refine wpAny_bind (wpAny_bind (wpAny_load hit (wpAny_pure ?_)))
    refine wpAny_bind (wpAny_bind (wpAny_field hit rfl (x := rawInt 1) rfl (wpAny_pure ?_)))
    erw [nums_of]
    split
    case h_1 h => exact absurd h (by decide)
    case h_3 _ h => exact absurd rfl h
    refine wpAny_bind ?_
    unfold Builtin.Itertools.itPoolItems
    refine wpAny_bind ?_
    refine wpAny_seqItems hp rfl (wpAny_pure ?_)
    dsimp only
    rw [List.size_toArray]
    split
    case h_2 h => cases h.symm.trans hs
    case h_1 jx' h =>
      cases h.symm.trans hs
      refine wpAny_bind ?_
      unfold Builtin.Itertools.itSetNumbersFrom
      refine wpAny_updateFields hit rfl ?_ (by rw [sizeLine_eq]; simp; omega)
      have h1 := Heap.get?_update_self (Obj.mapFields fun fs => fs.extract 0 3 ++ (jx.map fun (n : Nat) => rawInt (n : Int)).toArray) hit rfl
      rw [nums_set] at h1
      have out : ∀ b o, b ≠ it → s.heap.get? b = some o → (s.heap.update it (Obj.mapFields fun fs => fs.extract 0 3 ++ (jx.map fun (n : Nat) => rawInt (n : Int)).toArray)).get? b = some o := fun b o nb e => by rw [Heap.get?_update_of_ne _ nb.symm]; exact e
      have sz : (s.heap.update it (Obj.mapFields fun fs => fs.extract 0 3 ++ (jx.map fun (n : Nat) => rawInt (n : Int)).toArray)).objs.size = s.heap.objs.size := Heap.size_update ..
      generalize s.heap.update it (Obj.mapFields fun fs => fs.extract 0 3 ++ (jx.map fun (n : Nat) => rawInt (n : Int)).toArray) = hp1 at h1 out sz ⊢
      refine wpAny_bind (wpAny_bind ?_)
      refine wpAny_bind ?_
      refine wpAny_seqItems (out pool _ ne hp) rfl (wpAny_pure ?_)
      refine wpAny_newTuple ?_ (by rw [List.length_map, sizeLine_eq]; omega)
      refine wpAny_bind (wpAny_field (Heap.get?_push_of_some _ h1) rfl (x := old) rfl ?_)
      refine wpAny_bind (wpAny_setField (Heap.get?_push_of_some _ h1) rfl (by simp [combO]) ?_)
      refine wpAny_bind (wpAny_letGo (wpAny_pure ?_))
      dsimp only
      rw [sz]
      refine q _ (fun b o nb e => ?_) ?_ ?_
      · rw [Heap.get?_update_of_ne _ nb.symm]
        exact Heap.get?_push_of_some _ (out b o nb e)
      · rw [Heap.get?_update_self _ (Heap.get?_push_of_some _ h1) rfl, set_2]
      · rw [Heap.get?_update_of_ne _ (Nat.ne_of_lt (by rw [← sz]; exact Heap.lt_size h1))]
        exact (congrArg _ sz.symm).trans (Heap.get?_push_size _ rfl)
  case done =>
    intro prog w A E s it pool old items F ix od n0 osl hh hit hs hp q
    show wpAny _ _ (field (.ref it) 0 >>= _) _ _ _
    refine wpAny_bind (wpAny_field hit rfl (x := .ref pool) rfl ?_)
    refine wpAny_bind (wpAny_bind (wpAny_load hit (wpAny_pure ?_)))
    refine wpAny_bind (wpAny_bind (wpAny_field hit rfl (x := rawInt 1) rfl (wpAny_pure ?_)))
    erw [nums_of]
    split
    case h_1 h => exact absurd h (by decide)
    case h_3 _ h => exact absurd rfl h
    refine wpAny_bind ?_
    unfold Builtin.Itertools.itPoolItems
    refine wpAny_bind ?_
    refine wpAny_seqItems hp rfl (wpAny_pure ?_)
    dsimp only
    rw [List.size_toArray]
    split
    case h_1 jx h => cases h.symm.trans hs
    case h_2 h =>
      refine wpAny_bind (wpAny_setField hit rfl (by simp [combO]) ?_)
      refine CpPerm.stop_run hh fun e h' he k => q e h' he fun b o nb eb => k b o ?_
      rw [Heap.get?_update_of_ne _ nb.symm]
      exact eb
  case ok =>
    intro n l
    conv => lhs; whnf
    split
    case h_1 h =>
      exact (nxt_none fun j hj => by simpa using find_none h j hj).symm
    case h_2 i h =>
      obtain ⟨h1, h2, h3⟩ := find_back h
      exact (nxt_some h1 (by simpa using h2) fun j g1 g2 => by simpa using h3 j g1 g2).symm
end
end CpComb
end

section
set_option maxRecDepth 100000
set_option maxHeartbeats 4000000
/-! `for x in combinations(row, r)` -/
namespace CpComb
open PySem PySem.Spec
section
variable {prog : Program} {w : World} {A : Around} {E : Value → Shared → Prop} {s : Shared} {it pool : Addr} {old : Value} {ns : List Nat} {items : List Value}
theorem py_item {Q : Option Value → Shared → Prop} {ph : Int} {jx : List Nat} (hit : s.heap.get? it = some (combO pool ph old ns))
    (h : ∀ F : PySem.Fin → Shared → Prop, ∀ E', (∀ h', (∀ b o, b ≠ it → s.heap.get? b = some o → h'.get? b = some o) → h'.get? it = some (combO pool 1 (.ref s.heap.objs.size) jx) → h'.get? s.heap.objs.size = some { cls := .type "tuple", data := .seq (jx.map fun i => items.toArray.getD i Value.none).toArray } → F (Fin.done (Flow.ret (.ref s.heap.objs.size))) { s with heap := h' }) → wpAny (model prog w) A.in1 (Builtin.«itertools.combinations.__next__» ⟨[.ref it], []⟩) F E' s)
    (q : ∀ h', (∀ b o, b ≠ it → s.heap.get? b = some o → h'.get? b = some o) → h'.get? it = some (combO pool 1 (.ref s.heap.objs.size) jx) → h'.get? s.heap.objs.size = some { cls := .type "tuple", data := .seq (jx.map fun i => items.toArray.getD i Value.none).toArray } → Q (some (.ref s.heap.objs.size)) { s with heap := h' }) :
    wpAny (model prog w) A (pyNext (.ref it)) Q E s := by
  unfold pyNext
  refine wpAny_bind (wpAny_attempt (next_one hit (h _ _ fun h' k1 k2 k3 => ⟨_, rfl, ?_⟩)))
  exact wpAny_pure (q h' k1 k2 k3)
theorem py_done {np : NC} (ok : NextOk np) {Q : Option Value → Shared → Prop} {ix : List Nat} (hh : A.handled = none) (hit : s.heap.get? it = some (combO pool 1 old ix)) (hs : np items.length ix = none) {od : Option Addr} {n0 : Nat} {osl : Array (Option Value)} (hp : s.heap.get? pool = some ⟨.type "tuple", od, .seq items.toArray n0, osl⟩)
    (q : ∀ h', (∀ b o, b ≠ it → s.heap.get? b = some o → h'.get? b = some o) → Q none { s with heap := h' }) : wpAny (model prog w) A (pyNext (.ref it)) Q E s := by
  unfold pyNext
  refine wpAny_bind (wpAny_attempt (next_one hit (ok.done (by simpa using hh) hit hs hp fun e h' he k => ?_)))
  obtain ⟨a, o, rfl, ho, hc⟩ := he
  exact wpAny_bind (wpAny_isInstance (T := "StopIteration") (b := true) ⟨o, ho, hc⟩ isSubtype_stop (wpAny_pure (q h' k)))
theorem py_iter {ph : Int} {Q : Value → Shared → Prop} (hit : s.heap.get? it = some (combO pool ph old ns)) (h : Q (.ref it) s) : wpAny (model prog w) A (pyIter (.ref it)) Q E s := by
  have hT : s.TypeIs (.ref it) "itertools.combinations" := ⟨_, hit, rfl⟩
  exact wpAny_pyIter_slot hT slot_comb_iter (wpAny_call_entry slot_comb_iter hT entry_comb_iter (wpAny_pure ⟨.ref it, rfl, "itertools.combinations", .builtin "itertools.combinations.__next__", hT, slot_comb_next.lookup, h⟩) (args_comb_iter _))
end
end CpComb
namespace L2.Cal
open PySem PySem.Spec PyProof.Rows L2 CpComb
/-- those of a row that stand at these places -/
def pickV (xs : List V) (l : List Nat) : List V := l.map fun i => xs.getD i .non
/-- all rows of r of them, in turn -/
def cmbV (xs : List V) (r : Nat) : List (List Nat) := cmb r (xs.length - r) 0
def ItCb (xs : List V) (r : Nat) : It :=
  ⟨fun i _ => i < (cmbV xs r).length, fun i H v H' => ∃ T l, v = .ref T ∧ H T = none ∧ (cmbV xs r)[i]? = some l ∧ H' = upd H T (.tup (pickV xs l)), fun i _ => (cmbV xs r).length ≤ i⟩
def PoolC (h : Heap) (pool : Addr) (xs : List V) (items : List Value) : Prop := (∃ od n0 osl, h.get? pool = some ⟨.type "tuple", od, .seq items.toArray n0, osl⟩) ∧ Vals xs items
def combAt (xs : List V) (r : Nat) (e pool : Addr) : Nat → Heap → Prop
  | 0, h => h.get? e = some (combO pool 0 .none (fstC r 0))
  | j + 1, h => ∃ l old, (cmbV xs r)[j]? = some l ∧ h.get? e = some (combO pool 1 old l)
def tnC (xs : List V) (r : Nat) (e pool : Addr) (i : Nat) (h : Heap) : Prop := e ≠ pool ∧ (∃ items, PoolC h pool xs items) ∧ combAt xs r e pool i h
theorem combAt.obj {xs : List V} {r : Nat} {e pool : Addr} {i : Nat} {h : Heap} (p : combAt xs r e pool i h) : ∃ ph old ns, h.get? e = some (combO pool ph old ns) := by
  cases i with
  | zero => exact ⟨_, _, _, p⟩
  | succ j =>
    obtain ⟨s, old, _, g⟩ := p
    exact ⟨_, _, _, g⟩
theorem vals_pick {xs : List V} {items : List Value} (hv : Vals xs items) : ∀ {l : List Nat}, (∀ b, b ∈ l → b < xs.length) → Vals (pickV xs l) (l.map fun i => items.toArray.getD i Value.none)
  | [], _ => .nil
  | a :: l, h => by
    refine .cons ?_ (vals_pick hv fun b hb => h b (List.mem_cons_of_mem _ hb))
    have lt : a < xs.length := h a List.mem_cons_self
    obtain ⟨u, hu, ru⟩ := hv.get (List.getElem?_eq_getElem lt)
    dsimp only
    rw [Array.getD_eq_getD_getElem?, List.getElem?_toArray, hu, List.getD_eq_getElem?_getD, List.getElem?_eq_getElem lt]
    exact ru
/-- a target of names takes nothing from this iterator: it keeps its last answer -/
theorem own_comb {prog : Program} {w : World} {A : Around} {E : Value → Shared → Prop} {s : Shared} {Q : Unit → Shared → Prop} (tg : Expr) {e a pool : Addr} {ph : Int} {old : Value} {ns : List Nat} (hit : s.heap.get? e = some (combO pool ph old ns)) (q : Q () s) : wpAny (model prog w) A (letOwnedTupleGo tg (.ref e) (.ref a)) Q E s := by
  unfold letOwnedTupleGo
  split
  · dsimp only
    refine wpAny_bind (wpAny_load hit ?_)
    show wpAny _ _ (if _ then _ else _) _ _ _
    rw [if_neg (by
      rw [Bool.and_eq_true]
      rintro ⟨h, _⟩
      exact absurd h (by decide +kernel))]
    exact wpAny_pure q
  · dsimp only
    refine wpAny_bind (wpAny_load hit ?_)
    show wpAny _ _ (if _ then _ else _) _ _ _
    rw [if_neg (by
      rw [Bool.and_eq_true]
      rintro ⟨h, _⟩
      exact absurd h (by decide +kernel))]
    exact wpAny_pure q
  · exact wpAny_pure q
theorem turn_comb {P : Program} {w : World} {K : PySem.W.Frag} {tg : Expr} {np : NC} (hnp : NextOk np) (hmx : ∀ n l, np n l = nxtC n l) {xs : List V} {r : Nat} (small : r ≤ 1000) (hr : r ≤ xs.length) (e pool : Addr) :
    Turn P w K tg (ItCb xs r) [e, pool] e (tnC xs r e pool) where
  mem := by simp
  obj := fun i h st b hb => by
    obtain ⟨ne, ⟨items, ⟨od, n0, osl, hp⟩, _⟩, pa⟩ := st
    obtain ⟨ph, old, ns, g⟩ := pa.obj
    rcases List.mem_cons.mp hb with z | z
    · rw [z]
      exact ⟨_, g, fun v q => nomatch q⟩
    · rw [List.mem_singleton.mp z]
      exact ⟨_, hp, fun v q => nomatch q⟩
  keep := fun i h h' st k => by
    obtain ⟨ne, ⟨items, ⟨od, n0, osl, hp⟩, h2⟩, pa⟩ := st
    refine ⟨ne, ⟨items, ⟨od, n0, osl, k pool (by simp) _ hp⟩, h2⟩, ?_⟩
    cases i with
    | zero => exact k e (by simp) _ pa
    | succ j =>
      obtain ⟨s, old, h3, g⟩ := pa
      exact ⟨s, old, h3, k e (by simp) _ g⟩
  item := by
    intro X hP hw hK hc i pins s σ H E I hf st hg
    subst hP hw hK
    obtain ⟨ne, ⟨items, ⟨od, n0, osl, hp⟩, hv⟩, pa⟩ := st
    obtain ⟨run0, run⟩ := run_cmb r (xs.length - r) 0 xs.length (by omega)
    obtain ⟨l, hl⟩ : ∃ l, (cmbV xs r)[i]? = some l := ⟨_, List.getElem?_eq_getElem hg⟩
    obtain ⟨ll, lb, ln⟩ := run i l hl
    have len : items.length = xs.length := hv.length.symm
    obtain ⟨ph, old, ns, hit⟩ := pa.obj
    have lt1 : e < s.heap.objs.size := Heap.lt_size hit
    have lt2 : pool < s.heap.objs.size := Heap.lt_size hp
    have post : ∀ h' : Heap, (∀ b o, b ≠ e → s.heap.get? b = some o → h'.get? b = some o) → h'.get? e = some (combO pool 1 (.ref s.heap.objs.size) l) → h'.get? s.heap.objs.size = some { cls := .type "tuple", data := .seq (l.map fun i => items.toArray.getD i Value.none).toArray } →
        ∃ u, some (Value.ref s.heap.objs.size) = some u ∧ wpAny (model X.prog X.w) X.A (letOwnedTupleGo tg (Value.ref e) u) (fun x1 s2 => ∃ v H', L2.Inv X pins σ H' s2 ∧ L2.RelV v u ∧ (ItCb xs r).yld i H v H' ∧ tnC xs r e pool (i + 1) s2.heap ∧ ∀ (b : Addr), b ∈ [e, pool] → H' b = none) E { s with heap := h' } := by
      intro h' k1 k2 k3
      refine ⟨_, rfl, own_comb tg k2 ?_⟩
      have new : ObjOk X.prog X.w (upd H s.heap.objs.size (.tup (pickV xs l))) h' s.heap.objs.size (.tup (pickV xs l)) := by
        refine ⟨?_, _, vals_pick hv lb, ⟨_, k3, rfl, _, rfl⟩⟩
        unfold pickV
        rw [List.length_map, ll, sizeLine_eq]
        omega
      have J : Inv X pins σ (upd H s.heap.objs.size (.tup (pickV xs l))) { s with heap := h', toks := s.toks } :=
        I.turnedNew (ch := [e]) (fun b ob hb q => k1 b ob (by simpa using hb) q) (fun b hb => hf b (by rw [List.mem_singleton.mp hb]; simp)) (Nat.le_refl _) new
      refine ⟨.ref s.heap.objs.size, _, J, rfl, ⟨_, _, rfl, I.hok.fresh (Nat.le_refl _), hl, rfl⟩, ⟨ne, ⟨items, ⟨od, n0, osl, k1 pool _ (Ne.symm ne) hp⟩, hv⟩, l, _, hl, k2⟩, fun b hb => ?_⟩
      have lt : b < s.heap.objs.size := by
        rcases List.mem_cons.mp hb with z | z
        · rw [z]; exact lt1
        · rw [List.mem_singleton.mp z]; exact lt2
      rw [upd_ne (Nat.ne_of_lt lt)]
      exact (hf b hb).1
    cases i with
    | zero =>
      have e0 : l = fstC r 0 := Option.some.inj (hl.symm.trans run0)
      subst e0
      have pa : s.heap.get? e = some (combO pool 0 .none (fstC r 0)) := pa
      exact py_item (items := items) (jx := fstC r 0) pa (fun F E' k => next_first pa (by omega) hp ne.symm fun h' k1 k2 k3 => k h' k1 k2 k3) post
    | succ j =>
      obtain ⟨l1, old1, hs1, pa⟩ := pa
      obtain ⟨_, _, ln1⟩ := run j l1 hs1
      refine py_item (items := items) (jx := l) pa (fun F E' k => ?_) post
      exact hnp.more (items := items) (jx := l) ne.symm pa (by omega) (by rw [hmx, len, ln1]; exact hl) hp fun h' k1 k2 k3 => k h' k1 k2 k3
  done := by
    intro X hP hw hK hc i pins s σ H E I hf st hg
    subst hP hw hK
    obtain ⟨ne, ⟨items, ⟨od, n0, osl, hp⟩, hv⟩, pa⟩ := st
    obtain ⟨run0, run⟩ := run_cmb r (xs.length - r) 0 xs.length (by omega)
    have len : items.length = xs.length := hv.length.symm
    have hgl : (cmbV xs r).length ≤ i := hg
    obtain ⟨f0, f1, f2, f3, f4, f5⟩ := hf e (by simp)
    cases i with
    | zero =>
      have : 0 < (cmbV xs r).length := (List.getElem?_eq_some_iff.mp run0).1
      omega
    | succ j =>
      obtain ⟨l1, old1, hs1, pa⟩ := pa
      obtain ⟨_, _, ln1⟩ := run j l1 hs1
      refine py_done (items := items) hnp (I.ok.hd hc) pa (by rw [hmx, len, ln1]; exact List.getElem?_eq_none hgl) hp fun h' k => ?_
      exact ⟨rfl, I.turned (t' := s.toks) (fun b o hb q => k b o hb q) f0 f1 f3 f4 f5⟩
  self := fun A i s Q E st h => by
    obtain ⟨ne, _, pa⟩ := st
    obtain ⟨ph, old, ns, g⟩ := pa.obj
    exact py_iter g h
theorem walk_comb {xs : List V} {r : Nat} : Walk (ItCb xs r) (cmbV xs r).length (fun _ => True) (fun i H v H' => ∃ T l, v = .ref T ∧ H T = none ∧ (cmbV xs r)[i]? = some l ∧ H' = upd H T (.tup (pickV xs l))) :=
  ⟨fun i H hi _ => hi, fun H _ => Nat.le_refl _, fun i H v H' hi _ h => h⟩
end L2.Cal
end

section
set_option maxRecDepth 100000
set_option maxHeartbeats 4000000
/-! combinations(row, r): how it begins -/
namespace CpComb
open PySem PySem.Spec
section
variable {prog : Program} {w : World} {A : Around} {E : Value → Shared → Prop} {s : Shared}
/-- what a row gives when it is gathered -/
def Gathers (v : Value) (xs : List L2.V) (s : Shared) (A : Around) : Prop := ∀ (prog : Program) (w : World) (E : Value → Shared → Prop) (Q : List Value → Shared → Prop),
  (∀ (h' : Heap) (tk : Nat) (items : List Value), s.heap.objs.size ≤ h'.objs.size → (∀ b o, s.heap.get? b = some o → h'.get? b = some o) → L2.Vals xs items → Q items { s with heap := h', toks := tk }) → wpAny (model prog w) A (collect v) Q E s
theorem comb_new {F : PySem.Fin → Shared → Prop} {v : Value} {xs : List L2.V} (g : Gathers v xs s A) (few : xs.length ≤ 1000) (r : Nat) (t2 : Tok) (hr : r ≤ xs.length)
    (q : ∀ (h' : Heap) (tk : Nat) (items : List Value) (it pool : Addr), (∀ b o, s.heap.get? b = some o → h'.get? b = some o) → L2.Vals xs items → s.heap.objs.size ≤ it → s.heap.objs.size ≤ pool → it ≠ pool →
      h'.get? it = some (combO pool 0 Value.none (fstC r 0)) → (∃ od n0 osl, h'.get? pool = some ⟨.type "tuple", od, .seq items.toArray n0, osl⟩) → F (Fin.done (Flow.ret (.ref it))) { s with heap := h', toks := tk }) :
    wpAny (model prog w) A (Builtin.«itertools.combinations.__new__» ⟨[.type "itertools.combinations", v, .int (r : Int) t2], []⟩) F E s := by
  have below := sub_comb
  unfold Builtin.«itertools.combinations.__new__»
  refine wpAny_bind (wpAny_bind ?_)
  unfold Builtin.Itertools.itClassAndRest
  wp_walk
  refine wpAny_of_eq (show isSubtype (Value.type "itertools.combinations") (Value.type ("itertools." ++ "combinations")) = pure true by rw [show ("itertools." ++ "combinations" : String) = "itertools.combinations" by decide]; exact sub_comb) ?_
  refine wpAny_pure ?_
  refine wpAny_bind ?_
  unfold Builtin.Itertools.itBindNamed
  generalize hcf : collect = cf
  wp_walk
  have c1 : (decide ((r : Int) < -2 ^ 63) || decide ((r : Int) ≥ 2 ^ 63)) = false := by
    rw [Bool.or_eq_false_iff]
    exact ⟨decide_eq_false (by omega), decide_eq_false (by omega)⟩
  have c2 : ¬ (r : Int) < 0 := by omega
  have c3 : Builtin.Itertools.itTooMany (r : Int) = false := decide_eq_false (by omega)
  rw [if_neg (by rw [c1]; exact Bool.false_ne_true)]
  refine wpAny_pure ?_
  refine wpAny_bind ?_
  subst hcf
  refine g prog w _ _ fun h' tk items k0 k1 hv => ?_
  have hn : items.length = xs.length := hv.length.symm
  dsimp only
  rw [if_neg c2, if_neg (by rw [c3]; exact Bool.false_ne_true)]
  refine wpAny_bind (wpAny_newTuple ?_ (by rw [hn, sizeLine_eq]; omega))
  refine wpAny_pure ?_
  dsimp only
  have c4 : ¬ (r : Int).toNat > items.length := by rw [hn]; omega
  rw [if_neg c4, Int.toNat_natCast]
  unfold Builtin.Itertools.itNewRecord
  rw [noDict_comb]
  refine wpAny_bind ?_
  rw [if_pos (show (!false) = true from rfl)]
  refine wpAny_newObj_type (wpAny_pure ?_) ?_
  · have ef : ([Value.ref h'.objs.size, rawInt 0, Value.none] ++ (List.range r).map fun (i : Nat) => rawInt (i : Int)) = [Value.ref h'.objs.size, rawInt 0, Value.none] ++ (fstC r 0).map fun (n : Nat) => rawInt (n : Int) := by
      unfold fstC
      rw [List.map_map]
      congr 1
      refine List.map_congr_left fun i _ => ?_
      show rawInt (i : Int) = rawInt ((0 + i : Nat) : Int)
      rw [Nat.zero_add]
    dsimp only
    rw [ef]
    have z := Heap.size_push (h := h') (o := { cls := .type "tuple", data := .seq items.toArray })
    refine q _ tk items _ h'.objs.size (fun b o e => Heap.get?_push_of_some _ (Heap.get?_push_of_some _ (k1 b o e))) hv ?_ k0 ?_ (Heap.get?_push_size _ rfl) ⟨_, _, _, Heap.get?_push_of_some _ (Heap.get?_push_size _ rfl)⟩
    · exact Nat.le_trans (Nat.le_trans k0 (Nat.le_succ _)) (Nat.le_of_eq z.symm)
    · exact Nat.ne_of_gt (Nat.lt_of_lt_of_le (Nat.lt_succ_self _) (Nat.le_of_eq z.symm))
  · unfold sizeOk
    dsimp only
    rw [List.size_toArray]
    simp only [List.length_append, List.length_map, List.length_range, List.length_cons, List.length_nil, sizeLine_eq]
    omega
end
end CpComb
end

section
set_option maxRecDepth 100000
set_option maxHeartbeats 4000000
/-! a list or tuple gathered; the heap grows -/
namespace CpComb
open PySem PySem.Spec
section
variable {prog : Program} {w : World} {A : Around} {E : Value → Shared → Prop} {s : Shared}
theorem collect_seq {Q : List Value → Shared → Prop} (it : Addr) {T : String} {o : Obj} {items : Array Value} {n : Nat} (hT : T = "list" ∨ T = "tuple") (ho : s.heap.get? it = some o) (hc : o.cls = .type T) (hd : o.data = .seq items n) (hsz : items.size ≤ sizeLine)
    (q : ∀ h' : Heap, s.heap.objs.size ≤ h'.objs.size → (∀ b o', s.heap.get? b = some o' → h'.get? b = some o') → Q items.toList { s with heap := h' }) : wpAny (model prog w) A (collect (.ref it)) Q E s := by
  have key : ∀ Q0 : Value → Shared → Prop, (∀ h' : Heap, (∀ b o', s.heap.get? b = some o' → h'.get? b = some o') → (∃ c', h'.get? s.heap.objs.size = some { cls := .type "list", data := .seq items c' }) → Q0 (.ref s.heap.objs.size) { s with heap := h' }) →
      wpAny (model prog w) A (runValue (Code.builtin "proto.collect" { pos := [.ref it] })) Q0 E s := fun Q0 q0 => by
    refine wpAny_runValue (codeAny_builtin F.entry_proto_collect ?_)
    rw [Around.under_plainId F.plain_proto_collect { pos := [.ref it] }]
    show wpAny _ _ (newList [] >>= _) _ _ _
    refine wpAny_bind (wpAny_newList ?_)
    refine wpAny_pure ⟨plainId_quiet F.plain_list_iadd _, codeAny_builtin F.entry_list_iadd ?_⟩
    rw [Around.under_plainId F.plain_list_iadd]
    show wpAny _ _ (Builtin.List.listExtendWith (.ref s.heap.objs.size) (.ref it) (.ref s.heap.objs.size)) _ _ _
    have hS : (s.heap.push { cls := .type "list", data := .seq ([] : List Value).toArray }).get? s.heap.objs.size = some { cls := .type "list", data := .seq #[] 0 } := Heap.get?_push_size _ rfl
    have hS2 := Heap.get?_update_self (Obj.mapSeq (· ++ items)) hS rfl
    refine wpAny_extend_seq (hsz := hsz) (R := fun r s' => match r with | .ok (.ret v) => Q0 v s' | .ok _ => False | .error e => E e s') (s := { s with heap := s.heap.push { cls := .type "list", data := .seq ([] : List Value).toArray } }) _ it _ 0 hT hS (Heap.get?_push_of_some _ ho) hc hd ?_
    refine q0 _ (fun b o' hb => (Heap.get?_update_other _ _ (Nat.ne_of_gt (Heap.lt_size hb))).trans (Heap.get?_push_of_some _ hb)) ?_
    have sh : ∃ c', Obj.mapSeq (· ++ items) { cls := .type "list", data := .seq #[] 0 } = { cls := .type "list", data := .seq items c' } := by
      unfold Obj.mapSeq
      dsimp only
      rw [Array.empty_append]
      exact ⟨_, rfl⟩
    obtain ⟨c', e⟩ := sh
    exact ⟨c', hS2.trans (congrArg some e)⟩
  unfold collect
  refine wpAny_bind (key _ fun h' k1 ⟨c', k2⟩ => wpAny_bind (wpAny_load k2 (wpAny_pure (q h' (Nat.le_of_lt (Heap.lt_size k2)) k1))))
end
end CpComb
end

section
set_option maxRecDepth 100000
set_option maxHeartbeats 4000000
/-! combinations(row, r) of a text, a list or a tuple -/
namespace CpComb
open PySem PySem.Spec
end CpComb
end

section
set_option maxRecDepth 100000
set_option maxHeartbeats 4000000
namespace CpComb
open PySem PySem.Spec
def combSpec (v : Value) (xs : List L2.V) (r : Nat) : PySem.Spec := fun A R s => Gathers v xs s A.in1 ∧ ∀ (h' : Heap) (tk : Nat) (items : List Value) (it pool : Addr), (∀ b o, s.heap.get? b = some o → h'.get? b = some o) → L2.Vals xs items → s.heap.objs.size ≤ it → s.heap.objs.size ≤ pool → it ≠ pool →
      h'.get? it = some (combO pool 0 Value.none (fstC r 0)) → (∃ od n0 osl, h'.get? pool = some ⟨.type "tuple", od, .seq items.toArray n0, osl⟩) → R (.ok (.ret (.ref it))) { s with heap := h', toks := tk }
theorem comb_meets (v : Value) (xs : List L2.V) (few : xs.length ≤ 1000) (r : Nat) (t2 : Tok) (hr : r ≤ xs.length) : Meets (Builtin.«itertools.combinations.__new__» ⟨[.type "itertools.combinations", v, .int (r : Int) t2], []⟩) (combSpec v xs r) :=
  .of_wp fun prog w A R s h => by
    obtain ⟨g, q⟩ := h
    exact comb_new g few r t2 hr fun h' tk items it pool k1 k2 k3 k4 k5 k6 k7 => ⟨_, rfl, q h' tk items it pool k1 k2 k3 k4 k5 k6 k7⟩
theorem comb_one {prog : Program} {w : World} {A : Around} {E : Value → Shared → Prop} {s : Shared} {Q : Value → Shared → Prop} (v : Value) (xs : List L2.V) (few : xs.length ≤ 1000) (r : Nat) (t2 : Tok) (hr : r ≤ xs.length)
    (h : combSpec v xs r A.in1 (wants (fun obj s₁ => s₁.TypeIs obj "itertools.combinations" ∧ Q obj s₁) E) s) : wpAny (model prog w) A (call (.type "itertools.combinations") [v, .int (r : Int) t2]) Q E s :=
  callType_new called_comb (by decide) (typeCall_comb_2 _ _) (newCall_comb_2 _ _) (fun obj => PySem.F.args_object_init_3 obj _ _) entry_comb_new (comb_meets v xs few r t2 hr) h
theorem comb_it {prog : Program} {w : World} {A : Around} {E : Value → Shared → Prop} {s : Shared} {Q : Value → Shared → Prop} {v : Value} {xs : List L2.V} (g : Gathers v xs s A.in1.in1) (few : xs.length ≤ 1000) (r : Nat) (t2 : Tok) (hr : r ≤ xs.length)
    (q : ∀ (h' : Heap) (tk : Nat) (items : List Value) (it pool : Addr), (∀ b o, s.heap.get? b = some o → h'.get? b = some o) → L2.Vals xs items → s.heap.objs.size ≤ it → s.heap.objs.size ≤ pool → it ≠ pool →
      h'.get? it = some (combO pool 0 Value.none (fstC r 0)) → (∃ od n0 osl, h'.get? pool = some ⟨.type "tuple", od, .seq items.toArray n0, osl⟩) → Q (.ref it) { s with heap := h', toks := tk }) :
    wpAny (model prog w) A (call (.type "itertools.combinations") [v, .int (r : Int) t2]) (fun v s1 => wpAny (model prog w) A (pyIter v) Q E s1) E s := by
  refine comb_one v xs few r t2 hr ?_
  unfold combSpec
  refine ⟨g, fun h' tk items it pool k1 k2 k3 k4 k5 k6 k7 => ?_⟩
  show _ ∧ _
  exact ⟨⟨_, k6, rfl⟩, py_iter k6 (q h' tk items it pool k1 k2 k3 k4 k5 k6 k7)⟩
end CpComb
namespace L2.Cal
open PySem PySem.Spec PyProof.Rows L2 CpComb
/-- a row that combinations takes: a text, a list or a tuple -/
def RowIs (K : PySem.W.Frag) (H : Hp) (x : V) (xs : List V) : Prop := (∃ z : Str, x = .str z ∧ z.cps.size ≤ 100 ∧ xs = (signs z).map V.str) ∨ ∃ a, x = .ref a ∧ (SqL K H a xs ∨ SqT K H a xs)
theorem gathers {X : Cx} {pins : List (Addr × Obj)} {σ : St} {H : Hp} {s : Shared} {x : V} {v : Value} {xs : List V} {A : Around} (I : Inv X pins σ H s) (hh : A.handled = none) (rx : RelV x v) (h : RowIs X.K H x xs) : Gathers v xs s A := by
  intro prog w E Q q
  rcases h with ⟨z, rfl, z100, rfl⟩ | ⟨a, rfl, h | h⟩
  · obtain ⟨t, rfl⟩ := rx
    refine CpPerm.collect_str hh z t z100 fun h' tk acc k0 k1 k2 => q h' tk _ (Nat.le_of_lt k0) k1 ?_
    exact vals_of_strs (are_signs k2)
  · cases rx
    obtain ⟨its, rv, ⟨o, n, e, hc, hd, hs⟩, z⟩ := I.list h
    exact collect_seq a (.inl rfl) e hc hs (by rw [List.size_toArray, ← rv.length]; exact z) fun h' k0 k1 => q h' s.toks _ k0 k1 (by simpa using rv)
  · cases rx
    obtain ⟨its, rv, ⟨o, e, hc, n, hs⟩, z⟩ := I.tuple h
    exact collect_seq a (.inr rfl) e hc hs (by rw [List.size_toArray, ← rv.length]; exact z) fun h' k0 k1 => q h' s.toks _ k0 k1 (by simpa using rv)
def iCb (K : PySem.W.Frag) (ta : TA) : TI := fun σ H R => ta σ H fun vs H1 => ∃ (x : V) (xs : List V) (r : Nat), vs = [x, .int (r : Nat)] ∧ RowIs K H1 x xs ∧ r ≤ xs.length ∧ xs.length ≤ 1000 ∧ R (ItCb xs r) H1
theorem pi_comb {X : Cx} {e1 e2 tg : Expr} {ta : TA} {p pos : Pos} (hg : Gl X "combinations") (hm : X.mg "combinations" = some (.type "itertools.combinations")) (hc : X.calm = true) (ha : PA X [e1, e2] ta) (hs : starEach [e1, e2] X.env = (false, eval e1 X.env) :: starEach [e2] X.env := by rfl) (hs2 : ((backTo pos (starEach [e2] X.env)).any fun x => x.fst) = false := by rfl) :
    PI X tg (.Call (.Name "combinations" p) [e1, e2] [] pos) (iCb X.K ta) := by
  refine ⟨fun pins s σ H R I h => Call_ (ld_glob I hg hm (PyProof.Rows.callWith_type1 (thn (ha.run pos pins s σ H _ I h) fun us s1 ⟨vs, H1, I1, r1, q1⟩ => ?_) hs hs2))⟩
  obtain ⟨x, xs, r, e, row, hr, few, q⟩ := q1
  subst e
  cases r1 with
  | cons c1 r1 =>
  cases r1 with
  | cons c2 r1 =>
  cases r1 with
  | nil =>
    obtain ⟨t2, rfl⟩ := c2
    obtain ⟨np, hnp, hmx⟩ := next_is
    refine comb_it (gathers I1 (by simpa using I1.ok.hd hc) c1 row) few r t2 hr fun h' tk items it pool k1 k2 k3 k4 k5 k6 k7 => ?_
    have I2 : Inv X pins σ H1 { s1 with heap := h', toks := tk } := I1.kept k1
    refine ⟨it, [it, pool], _, _, H1, rfl, I2, turn_comb hnp hmx (by omega) hr it pool, ⟨k5, ⟨items, k7, k2⟩, k6⟩, fun b hb => ?_, q⟩
    have le : s1.heap.objs.size ≤ b := by
      rcases List.mem_cons.mp hb with z | z
      · rw [z]; exact k3
      · rw [List.mem_singleton.mp z]; exact k4
    exact I1.fpOk le (I1.hok.fresh le)
end L2.Cal
end

section
set_option maxRecDepth 100000
set_option maxHeartbeats 4000000
/-! what stands among the rows of cmb -/
namespace CpComb
theorem asc_len : ∀ {l : List Nat} {lo n : Nat}, l.Pairwise (· < ·) → (∀ b, b ∈ l → lo ≤ b ∧ b < n) → lo ≤ n → l.length + lo ≤ n
  | [], lo, n, _, _, h => by simpa using h
  | a :: t, lo, n, p, h, _ => by
    have ha := h a List.mem_cons_self
    have pt := List.pairwise_cons.mp p
    have := asc_len (lo := a + 1) pt.2 (fun b hb => ⟨pt.1 b hb, (h b (List.mem_cons_of_mem _ hb)).2⟩) (by omega)
    rw [List.length_cons]
    omega
/-- these are the ascending rows of r places from lo on, below lo + r + k -/
theorem mem_cmb : ∀ {r k lo : Nat} {l : List Nat}, l ∈ cmb r k lo ↔ l.length = r ∧ l.Pairwise (· < ·) ∧ ∀ b, b ∈ l → lo ≤ b ∧ b < lo + r + k
  | 0, k, lo, l => by
    unfold cmb
    rw [List.mem_singleton]
    constructor
    · rintro rfl
      exact ⟨rfl, List.Pairwise.nil, fun b hb => by simp at hb⟩
    · rintro ⟨h, _⟩
      exact List.length_eq_zero_iff.mp h
  | r + 1, 0, lo, l => by
    unfold cmb
    rw [List.mem_map]
    constructor
    · rintro ⟨t, ht, rfl⟩
      obtain ⟨h1, h2, h3⟩ := mem_cmb.mp ht
      refine ⟨by rw [List.length_cons, h1], List.pairwise_cons.mpr ⟨fun b hb => (h3 b hb).1, h2⟩, fun b hb => ?_⟩
      rcases List.mem_cons.mp hb with z | z
      · omega
      · have := h3 b z
        omega
    · rintro ⟨h1, h2, h3⟩
      cases l with
      | nil => simp at h1
      | cons a t =>
        have pt := List.pairwise_cons.mp h2
        rw [List.length_cons] at h1
        have ha := h3 a List.mem_cons_self
        have ln := asc_len (lo := a + 1) (n := lo + (r + 1)) pt.2 (fun b hb => ⟨pt.1 b hb, by have := (h3 b (List.mem_cons_of_mem _ hb)).2; omega⟩) (by omega)
        have e : a = lo := by omega
        subst e
        exact ⟨t, mem_cmb.mpr ⟨by omega, pt.2, fun b hb => ⟨pt.1 b hb, by have := (h3 b (List.mem_cons_of_mem _ hb)).2; omega⟩⟩, rfl⟩
  | r + 1, k + 1, lo, l => by
    unfold cmb
    rw [List.mem_append, List.mem_map]
    constructor
    · rintro (⟨t, ht, rfl⟩ | h)
      · obtain ⟨h1, h2, h3⟩ := mem_cmb.mp ht
        refine ⟨by rw [List.length_cons, h1], List.pairwise_cons.mpr ⟨fun b hb => (h3 b hb).1, h2⟩, fun b hb => ?_⟩
        rcases List.mem_cons.mp hb with z | z
        · omega
        · have := h3 b z
          omega
      · obtain ⟨h1, h2, h3⟩ := mem_cmb.mp h
        exact ⟨h1, h2, fun b hb => by have := h3 b hb; omega⟩
    · rintro ⟨h1, h2, h3⟩
      cases l with
      | nil => simp at h1
      | cons a t =>
        have pt := List.pairwise_cons.mp h2
        have ha := h3 a List.mem_cons_self
        by_cases e : a = lo
        · subst e
          rw [List.length_cons] at h1
          exact .inl ⟨t, mem_cmb.mpr ⟨by omega, pt.2, fun b hb => ⟨pt.1 b hb, by have := (h3 b (List.mem_cons_of_mem _ hb)).2; omega⟩⟩, rfl⟩
        · refine .inr (mem_cmb.mpr ⟨h1, h2, fun b hb => ?_⟩)
          have := h3 b hb
          rcases List.mem_cons.mp hb with z | z
          · omega
          · have := pt.1 b z
            omega
end CpComb
end

section
set_option maxRecDepth 100000
set_option maxHeartbeats 4000000
/-! numbers whose bits are answers, one for each of some questions -/
namespace L2.Cal
open PySem PySem.Spec PyProof.Rows
def bN (b : Bool) : Nat := if b = true then 1 else 0
/-- the number of these answers, the last question first -/
def binR {α : Type} (f : α → Bool) : List α → Nat
  | [] => 0
  | a :: l => bN (f a) + 2 * binR f l
def binQ {α : Type} (f : α → Bool) (l : List α) : Nat := binR f l.reverse
theorem bin_snoc {α : Type} (f : α → Bool) (l : List α) (a : α) : binQ f (l ++ [a]) = 2 * binQ f l + bN (f a) := by
  unfold binQ
  rw [List.reverse_append, List.reverse_singleton, List.singleton_append]
  show bN (f a) + 2 * binR f l.reverse = _
  omega
theorem bit_op (o : Nat → Nat → Nat) (p : Bool → Bool → Bool) (ho : ∀ x y i, (o x y).testBit i = p (x.testBit i) (y.testBit i)) (hz : p false false = false) (a b : Bool) (x y : Nat) : o (bN a + 2 * x) (bN b + 2 * y) = bN (p a b) + 2 * o x y := by
  have t0 : ∀ (c : Bool) (z : Nat), (bN c + 2 * z).testBit 0 = c := fun c z => by
    rw [Nat.testBit_zero]
    cases c with
    | true => rw [decide_eq_true (by show (1 + 2 * z) % 2 = 1; omega)]
    | false => rw [decide_eq_false (by show ¬ (0 + 2 * z) % 2 = 1; omega)]
  have ts : ∀ (c : Bool) (z i : Nat), (bN c + 2 * z).testBit (i + 1) = z.testBit i := fun c z i => by
    rw [Nat.testBit_succ]
    congr 1
    cases c with
    | true => show (1 + 2 * z) / 2 = z; omega
    | false => show (0 + 2 * z) / 2 = z; omega
  apply Nat.eq_of_testBit_eq
  intro i
  rw [ho]
  cases i with
  | zero => rw [t0, t0, t0]
  | succ i => rw [ts, ts, ts, ho]
theorem binR_op {α : Type} (o : Nat → Nat → Nat) (p : Bool → Bool → Bool) (ho : ∀ x y i, (o x y).testBit i = p (x.testBit i) (y.testBit i)) (hz : p false false = false) (f g : α → Bool) : ∀ l : List α, o (binR f l) (binR g l) = binR (fun a => p (f a) (g a)) l
  | [] => by
    show o 0 0 = 0
    apply Nat.eq_of_testBit_eq
    intro i
    rw [ho, Nat.zero_testBit, hz]
  | a :: l => by
    show o (bN (f a) + 2 * binR f l) (bN (g a) + 2 * binR g l) = bN (p (f a) (g a)) + 2 * binR (fun a => p (f a) (g a)) l
    rw [bit_op o p ho hz, binR_op o p ho hz f g l]
theorem binQ_and {α : Type} (f g : α → Bool) (l : List α) : binQ f l &&& binQ g l = binQ (fun a => f a && g a) l := binR_op (· &&& ·) (· && ·) (fun x y i => Nat.testBit_and x y i) rfl f g _
theorem binQ_or {α : Type} (f g : α → Bool) (l : List α) : binQ f l ||| binQ g l = binQ (fun a => f a || g a) l := binR_op (· ||| ·) (· || ·) (fun x y i => Nat.testBit_or x y i) rfl f g _
theorem binQ_xor {α : Type} (f g : α → Bool) (l : List α) : binQ f l ^^^ binQ g l = binQ (fun a => f a ^^ g a) l := binR_op (· ^^^ ·) (· ^^ ·) (fun x y i => Nat.testBit_xor x y i) rfl f g _
theorem binR_inj {α : Type} {f g : α → Bool} : ∀ {l : List α}, binR f l = binR g l → ∀ a ∈ l, f a = g a
  | [], _, _, h => by cases h
  | b :: l, e, a, h => by
    have e : bN (f b) + 2 * binR f l = bN (g b) + 2 * binR g l := e
    have hb : f b = g b := by
      cases hf : f b <;> cases hg : g b <;> rw [hf, hg] at e <;> first | rfl | (simp only [bN] at e; simp at e; omega)
    rcases List.mem_cons.mp h with z | z
    · rw [z]; exact hb
    · rw [hb] at e
      exact binR_inj (l := l) (by omega) a z
theorem binQ_inj {α : Type} {f g : α → Bool} {l : List α} (e : binQ f l = binQ g l) : ∀ a ∈ l, f a = g a := fun a h => binR_inj e a (List.mem_reverse.mpr h)
theorem binQ_congr {α : Type} {f g : α → Bool} {l : List α} (h : ∀ a ∈ l, f a = g a) : binQ f l = binQ g l := by
  unfold binQ
  have : ∀ m : List α, (∀ a ∈ m, f a = g a) → binR f m = binR g m := fun m => by
    induction m with
    | nil => intro _; rfl
    | cons a m ih =>
      intro h
      show bN (f a) + 2 * binR f m = bN (g a) + 2 * binR g m
      rw [h a List.mem_cons_self, ih fun b hb => h b (List.mem_cons_of_mem _ hb)]
  exact this _ fun a ha => h a (List.mem_reverse.mp ha)
theorem binR_zero {α : Type} {f : α → Bool} : ∀ {l : List α}, binR f l = 0 ↔ ∀ a ∈ l, f a = false
  | [] => by simp [binR]
  | b :: l => by
    have ih := binR_zero (f := f) (l := l)
    constructor
    · intro e a h
      have e : bN (f b) + 2 * binR f l = 0 := e
      rcases List.mem_cons.mp h with z | z
      · rw [z]
        cases hf : f b with
        | false => rfl
        | true => rw [hf] at e; simp [bN] at e
      · exact ih.mp (by omega) a z
    · intro h
      show bN (f b) + 2 * binR f l = 0
      rw [h b List.mem_cons_self, ih.mpr fun a ha => h a (List.mem_cons_of_mem _ ha)]
      rfl
theorem binQ_zero {α : Type} {f : α → Bool} {l : List α} : binQ f l = 0 ↔ ∀ a ∈ l, f a = false := by
  unfold binQ
  rw [binR_zero]
  simp
theorem binR_lt {α : Type} (f : α → Bool) : ∀ l : List α, binR f l < 2 ^ l.length
  | [] => by simp [binR]
  | b :: l => by
    have ih := binR_lt f l
    show bN (f b) + 2 * binR f l < 2 ^ (l.length + 1)
    have : bN (f b) ≤ 1 := by unfold bN; split <;> omega
    rw [Nat.pow_succ]
    omega
theorem binQ_lt {α : Type} (f : α → Bool) (l : List α) : binQ f l < 2 ^ l.length := by
  have := binR_lt f l.reverse
  rwa [List.length_reverse] at this
theorem binR_add {α : Type} (f g : α → Bool) : ∀ l : List α, binR f l + binR g l = binR (fun a => f a ^^ g a) l + 2 * binR (fun a => f a && g a) l
  | [] => rfl
  | a :: l => by
    have ih := binR_add f g l
    show (bN (f a) + 2 * binR f l) + (bN (g a) + 2 * binR g l) = (bN (f a ^^ g a) + 2 * binR (fun a => f a ^^ g a) l) + 2 * (bN (f a && g a) + 2 * binR (fun a => f a && g a) l)
    have e : bN (f a) + bN (g a) = bN (f a ^^ g a) + 2 * bN (f a && g a) := by cases f a <;> cases g a <;> rfl
    omega
theorem and_int {α : Type} (f g : α → Bool) (l : List α) : Builtin.bitAnd (binQ f l : Nat) (binQ g l : Nat) = ((binQ (fun a => f a && g a) l : Nat) : Int) := by
  rw [bitAnd_pp (Int.natCast_nonneg _) (Int.natCast_nonneg _), Int.toNat_natCast, Int.toNat_natCast, binQ_and]
theorem or_int {α : Type} (f g : α → Bool) (l : List α) : Builtin.bitOr (binQ f l : Nat) (binQ g l : Nat) = ((binQ (fun a => f a || g a) l : Nat) : Int) := by
  rw [bitOr_and, and_int]
  have h : ∀ m : List α, binR f m + binR g m = binR (fun a => f a || g a) m + binR (fun a => f a && g a) m := fun m => by
    induction m with
    | nil => rfl
    | cons a m ih =>
      show (bN (f a) + 2 * binR f m) + (bN (g a) + 2 * binR g m) = (bN (f a || g a) + 2 * binR (fun a => f a || g a) m) + (bN (f a && g a) + 2 * binR (fun a => f a && g a) m)
      have e : bN (f a) + bN (g a) = bN (f a || g a) + bN (f a && g a) := by cases f a <;> cases g a <;> rfl
      omega
  have := h l.reverse
  unfold binQ
  omega
theorem xor_int {α : Type} (f g : α → Bool) (l : List α) : Builtin.bitXor (binQ f l : Nat) (binQ g l : Nat) = ((binQ (fun a => f a ^^ g a) l : Nat) : Int) := by
  show Builtin.bitOr (binQ f l : Nat) (binQ g l : Nat) - Builtin.bitAnd (binQ f l : Nat) (binQ g l : Nat) = _
  rw [bitOr_and, and_int]
  have := binR_add f g l.reverse
  unfold binQ
  omega
theorem low_bit (b : Bool) (x : Nat) : Builtin.bitAnd ((bN b + 2 * x : Nat) : Int) 1 = ((bN b : Nat) : Int) := by
  rw [bitAnd_pp (Int.natCast_nonneg _) (by decide), Int.toNat_natCast, show (1 : Int).toNat = 1 from rfl, Nat.and_one_is_mod]
  congr 1
  cases b with
  | true => show (1 + 2 * x) % 2 = 1; omega
  | false => show (0 + 2 * x) % 2 = 0; omega
theorem half (b : Bool) (x : Nat) : ((bN b + 2 * x : Nat) : Int) / 2 ^ (1 : Int).toNat = (x : Int) := by
  show ((bN b + 2 * x : Nat) : Int) / 2 = (x : Int)
  cases b with
  | true => show ((1 + 2 * x : Nat) : Int) / 2 = _; omega
  | false => show ((0 + 2 * x : Nat) : Int) / 2 = _; omega
end L2.Cal
end

section
set_option maxRecDepth 100000
set_option maxHeartbeats 4000000
set_option synthInstance.maxHeartbeats 400000
namespace L2.Cal
open PySem PySem.Spec PyProof.Rows L2 CpComb
abbrev sAns : Stmt := topS 41
theorem scAns : FnScope ["order", "things", "bits", "lesser", "greater"] ["order"] (defScope sAns) := ⟨rfl, rfl, rfl, by decide +kernel, rfl, by decide +kernel, by decide +kernel⟩
def chS (c : Nat) : Str := ⟨#[c]⟩
/-- the pairs of signs, the first ahead of the other -/
def prs (t : Str) : List (Nat × Nat) := (cmb 2 (t.cps.size - 2) 0).map fun l => (t.cps.toList.getD (l.getD 0 0) 0, t.cps.toList.getD (l.getD 1 0) 0)
def posL (y : Str) (a : Nat) : Nat := y.cps.toList.idxOf a
def aheadL (y : Str) (p : Nat × Nat) : Bool := decide (posL y p.1 < posL y p.2)
def ansN (y : Str) : Nat := binQ (aheadL y) (prs (tidy y))
theorem index0_pos {y : Str} {a i : Nat} (nd : y.cps.toList.Nodup) (h : Txt.index0 y ⟨#[a]⟩ = some i) : i = posL y a := by
  have e := index0_at h
  obtain ⟨hi, ei⟩ := List.getElem?_eq_some_iff.mp e
  have ha : a ∈ y.cps.toList := ei ▸ List.getElem_mem hi
  have h2 : y.cps.toList.idxOf a < y.cps.toList.length := List.idxOf_lt_length_iff.mpr ha
  have e2 : y.cps.toList[y.cps.toList.idxOf a] = a := List.getElem_idxOf h2
  have pw := List.pairwise_iff_getElem.mp nd
  rcases Nat.lt_trichotomy (y.cps.toList.idxOf a) i with h | h | h
  · exact absurd (e2.trans ei.symm) (pw _ _ h2 hi h)
  · exact h.symm
  · exact absurd (ei.trans e2.symm) (pw _ _ hi h2 h)
def spAns : Sp := fun vs H Q _ => ∃ y : Str, vs = [.str y] ∧ Lett y ∧ 3 ≤ y.cps.size ∧ y.cps.size ≤ 6 ∧ ∀ H', Same H H' → Q (.int (ansN y : Nat)) H'
section
variable {P : Program} {w : World} {K : PySem.W.Frag} {mg : Str → Option Value} {base : Heap}
theorem ok_ans {f fT : Addr} {fd fdT : FuncData} (D : DefAt K mg "answers" sAns ["order"] f fd) (DT : DefAt K mg "things_of" sThO ["order"] fT fdT) (hcb : mg "combinations" = some (.type "itertools.combinations")) (T : Txt mg) : FnOk P w K mg base CX0 2 f fd ["order"] spAns := by
  have GT : FnOk P w K mg base CX0 1 fT fdT ["order"] spThO := ok_tho DT T
  refine D.F.ok scAns (fun vs H Q E h => ?_) (fun cdv A outer sh H vs Q E hr h => ?_)
  · obtain ⟨y, rfl, _⟩ := h
    rfl
  · obtain ⟨y, rfl, ly, y3, y6, q⟩ := h
    refine ⟨_, pss_cons (ps_set (i := 1) scAns.nd rfl (.inl rfl) (pe_call GT (hr.mono (by decide)) (by rfl) DT.g DT.F.kp DT.b .nil pass0 (pa_cons (pv 0) pa_nil)))
      (pss_cons (ps_set (i := 2) scAns.nd rfl (.inl rfl) pe_int)
      (pss_cons (ps_for PassesOwn.never rfl (pi_comb (by rfl) hcb (by rfl) (pa_cons (pv 1) (pa_cons pe_int pa_nil))) (pg_tup rfl (pgs_cons (pg_name (i := 3) scAns.nd rfl (.inl rfl)) (pgs_cons (pg_name (i := 4) scAns.nd rfl (.inl rfl)) pgs_nil)))
        (pss_one (ps_set (i := 2) scAns.nd rfl (.inl rfl) (pe_op op_add (pe_op op_mul pe_int (pv 2)) (pe_ifExp (pt_cmpR op_lt (pe_bmS PySem.F.plainAttrs_str PySem.F.slot_str_index PySem.F.type_str_index (mt_indexX rfl takes_never) (pv 0) (pa_cons (pv 3) pa_nil)) (pe_bmS PySem.F.plainAttrs_str PySem.F.slot_str_index PySem.F.type_str_index (mt_indexX rfl takes_never) (pv 0) (pa_cons (pv 4) pa_nil)) (nomark _)) pe_int pe_int)))))
      (pss_one (ps_ret (pv 2))))), ?_⟩
    have tp := tidy_perm y
    have ts : (tidy y).cps.size = y.cps.size := perm_size tp
    have tl : (tidy y).cps.toList.length = (tidy y).cps.size := Array.length_toList
    have sl : ((signs (tidy y)).map V.str).length = y.cps.size := by rw [List.length_map, signs_length]; exact ts
    refine ⟨_, rfl, y, rfl, by omega, fun H1 s1 => ?_⟩
    refine ⟨_, rfl, .str (tidy y), (signs (tidy y)).map V.str, 2, rfl, .inl ⟨tidy y, rfl, by omega, rfl⟩, by rw [sl]; omega, by rw [sl]; omega, for_it walk_comb (fun i σ H' => ∃ v3 v4, σ = [some (.str y), some (.str (tidy y)), some (.int (binQ (aheadL y) ((prs (tidy y)).take i) : Nat)), v3, v4] ∧ Same H H') ⟨_, _, rfl, s1⟩ (fun _ _ _ _ _ => trivial) (fun i x σ H2 H3 hi hP hY => ?_) (fun σ H' hP => ?_)⟩
    · obtain ⟨v3, v4, rfl, s2⟩ := hP
      obtain ⟨T0, l, rfl, nT, hl, rfl⟩ := hY
      unfold cmbV at hl
      rw [sl] at hl
      obtain ⟨l2, lb, _⟩ := (run_cmb 2 (y.cps.size - 2) 0 y.cps.size (by omega)).2 i l hl
      obtain ⟨l0, l1, rfl⟩ : ∃ l0 l1, l = [l0, l1] := by
        match l, l2 with
        | [a, b], _ => exact ⟨a, b, rfl⟩
      have b0 : l0 < (tidy y).cps.toList.length := by have := lb l0 (by simp); omega
      have b1 : l1 < (tidy y).cps.toList.length := by have := lb l1 (by simp); omega
      have gs : ∀ k, k < (tidy y).cps.toList.length → ((signs (tidy y)).map V.str).getD k .non = .str (chS ((tidy y).cps.toList.getD k 0)) := fun k hk => by
        unfold signs
        rw [List.map_map, List.getD_eq_getElem?_getD, List.getElem?_map, List.getElem?_eq_getElem hk, List.getD_eq_getElem?_getD, List.getElem?_eq_getElem hk] <;> rfl
      have ep : pickV ((signs (tidy y)).map V.str) [l0, l1] = [.str (chS ((tidy y).cps.toList.getD l0 0)), .str (chS ((tidy y).cps.toList.getD l1 0))] := by
        show [((signs (tidy y)).map V.str).getD l0 .non, ((signs (tidy y)).map V.str).getD l1 .non] = _
        rw [gs l0 b0, gs l1 b1]
      rw [ep]
      have hp : (prs (tidy y))[i]? = some ((tidy y).cps.toList.getD l0 0, (tidy y).cps.toList.getD l1 0) := by
        unfold prs
        rw [ts, List.getElem?_map, hl] <;> rfl
      have m0 : (tidy y).cps.toList.getD l0 0 ∈ y.cps.toList := tp.mem_iff.mp (by rw [List.getD_eq_getElem?_getD, List.getElem?_eq_getElem b0]; exact List.getElem_mem b0)
      have m1 : (tidy y).cps.toList.getD l1 0 ∈ y.cps.toList := tp.mem_iff.mp (by rw [List.getD_eq_getElem?_getD, List.getElem?_eq_getElem b1]; exact List.getElem_mem b1)
      have tk : binQ (aheadL y) ((prs (tidy y)).take (i + 1)) = 2 * binQ (aheadL y) ((prs (tidy y)).take i) + bN (aheadL y ((tidy y).cps.toList.getD l0 0, (tidy y).cps.toList.getD l1 0)) := by
        rw [List.take_succ, hp, Option.toList_some, bin_snoc]
      generalize (tidy y).cps.toList.getD l0 0 = a at *
      generalize (tidy y).cps.toList.getD l1 0 = b at *
      obtain ⟨ka, ea⟩ := index0_in m0
      obtain ⟨kb, eb⟩ := index0_in m1
      have pa := index0_pos ly.1 ea
      have pb := index0_pos ly.1 eb
      have s3 : Same H (upd H2 T0 (.tup [.str (chS a), .str (chS b)])) := s2.trans (same_new nT)
      refine ⟨T0, _, rfl, SqT.of upd_same, rfl, _, _, rfl, _, _, rfl, rfl, ?_⟩
      refine ⟨_, rfl, _, _, rfl, rfl, .inl ⟨by decide, by decide⟩, _, rfl, rfl, _, rfl, y, _, rfl, rfl, fun k hk => ?_, fun no => nomatch ea.symm.trans no⟩
      cases ea.symm.trans hk
      refine ⟨_, rfl, rfl, _, rfl, y, _, rfl, rfl, fun k hk => ?_, fun no => nomatch eb.symm.trans no⟩
      cases eb.symm.trans hk
      refine ⟨_, _, rfl, rfl, _, rfl, ite2 (fun e => ?_) (fun e => ?_)⟩
      · have lt : ka < kb := by have := of_decide_eq_true e; omega
        refine ⟨_, _, rfl, rfl, some (.str (chS a)), some (.str (chS b)), ?_, s3⟩
        rw [tk, show aheadL y (a, b) = true from decide_eq_true (by show posL y a < posL y b; omega)]
        rfl
      · have lt : ¬ ka < kb := fun z => e (decide_eq_true (by omega))
        refine ⟨_, _, rfl, rfl, some (.str (chS a)), some (.str (chS b)), ?_, s3⟩
        rw [tk, show aheadL y (a, b) = false from decide_eq_false (by show ¬ posL y a < posL y b; omega)]
        rfl
    · obtain ⟨v3, v4, rfl, s2⟩ := hP
      have el : (cmbV ((signs (tidy y)).map V.str) 2).length = (prs (tidy y)).length := by
        unfold cmbV prs
        rw [sl, List.length_map, ts]
      rw [el, List.take_length]
      exact ⟨_, rfl, q _ s2⟩
end
end L2.Cal
end

section
set_option maxRecDepth 100000
set_option maxHeartbeats 4000000
/-! orders told by what they say of each two; what the most of three say (pure) -/
namespace L2.Cal
open PySem PySem.Spec PyProof.Rows L2 CpComb
theorem pos_inj {a : Str} {p q : Nat} (hp : p ∈ a.cps.toList) (hq : q ∈ a.cps.toList) (e : posL a p = posL a q) : p = q := by
  unfold posL at e
  have h1 : a.cps.toList.idxOf p < a.cps.toList.length := List.idxOf_lt_length_iff.mpr hp
  have h2 : a.cps.toList.idxOf q < a.cps.toList.length := List.idxOf_lt_length_iff.mpr hq
  have e1 : a.cps.toList[a.cps.toList.idxOf p] = p := List.getElem_idxOf h1
  have e2 : a.cps.toList[a.cps.toList.idxOf q] = q := List.getElem_idxOf h2
  rw [← e1, ← e2]
  simp only [e]
theorem ahead_swap {a : Str} {p q : Nat} (hp : p ∈ a.cps.toList) (hq : q ∈ a.cps.toList) (n : p ≠ q) : aheadL a (q, p) = !aheadL a (p, q) := by
  have : posL a p ≠ posL a q := fun e => n (pos_inj hp hq e)
  unfold aheadL
  dsimp only
  by_cases h : posL a p < posL a q
  · rw [decide_eq_true h, decide_eq_false (by omega)] <;> rfl
  · rw [decide_eq_false h, decide_eq_true (by omega)] <;> rfl
/-- all pairs, the earlier first -/
def lp : List Nat → List (Nat × Nat)
  | [] => []
  | c :: cs => cs.map (fun d => (c, d)) ++ lp cs
theorem prs_lp (t : Str) (h3 : 3 ≤ t.cps.size) (h6 : t.cps.size ≤ 6) : prs t = lp t.cps.toList := by
  unfold prs
  rw [← Array.length_toList] at *
  generalize t.cps.toList = l at *
  match l, h3, h6 with
  | [a, b, c], _, _ => rw [show cmb 2 ([a, b, c].length - 2) 0 = [[0, 1], [0, 2], [1, 2]] from (show cmb 2 1 0 = _ by simp [cmb])] <;> rfl
  | [a, b, c, d], _, _ => rw [show cmb 2 ([a, b, c, d].length - 2) 0 = [[0, 1], [0, 2], [0, 3], [1, 2], [1, 3], [2, 3]] from (show cmb 2 2 0 = _ by simp [cmb])] <;> rfl
  | [a, b, c, d, e], _, _ => rw [show cmb 2 ([a, b, c, d, e].length - 2) 0 = [[0, 1], [0, 2], [0, 3], [0, 4], [1, 2], [1, 3], [1, 4], [2, 3], [2, 4], [3, 4]] from (show cmb 2 3 0 = _ by simp [cmb])] <;> rfl
  | [a, b, c, d, e, f], _, _ => rw [show cmb 2 ([a, b, c, d, e, f].length - 2) 0 = [[0, 1], [0, 2], [0, 3], [0, 4], [0, 5], [1, 2], [1, 3], [1, 4], [1, 5], [2, 3], [2, 4], [2, 5], [3, 4], [3, 5], [4, 5]] from (show cmb 2 4 0 = _ by simp [cmb])] <;> rfl
  | [], h, _ => exact absurd (show 3 ≤ 0 from h) (by omega)
  | [_], h, _ => exact absurd (show 3 ≤ 1 from h) (by omega)
  | [_, _], h, _ => exact absurd (show 3 ≤ 2 from h) (by omega)
  | _ :: _ :: _ :: _ :: _ :: _ :: _ :: _, _, h => simp at h
theorem lp_mem {l : List Nat} (nd : l.Nodup) (p q : Nat) : (p, q) ∈ lp l ↔ p ∈ l ∧ q ∈ l ∧ l.idxOf p < l.idxOf q := by
  induction l with
  | nil => simp [lp]
  | cons a l ih =>
    have nd' := List.nodup_cons.mp nd
    show (p, q) ∈ l.map (fun d => (a, d)) ++ lp l ↔ _
    rw [List.mem_append, ih nd'.2, List.mem_map, List.idxOf_cons, List.idxOf_cons, List.mem_cons, List.mem_cons]
    by_cases hp : p = a
    · subst hp
      by_cases hq : q = p
      · subst hq
        simp [nd'.1]
      · have e : (p == q) = false := beq_false_of_ne fun h => hq h.symm
        simp [e, hq, nd'.1]
    · have e1 : (a == p) = false := beq_false_of_ne fun h => hp h.symm
      by_cases hq : q = a
      · subst hq
        simp [e1, nd'.1, hp]
      · have e2 : (a == q) = false := beq_false_of_ne fun h => hq h.symm
        simp only [e1, e2, cond_false, hp, hq, false_or, Bool.false_eq_true, if_false]
        constructor
        · rintro (⟨d, _, h⟩ | h)
          · exact absurd (Prod.mk.inj h).1.symm hp
          · exact ⟨h.1, h.2.1, by omega⟩
        · exact fun h => .inr ⟨h.1, h.2.1, by omega⟩
/-- every two letters stand among the pairs, one way or the other -/
theorem prs_mem {y : Str} (ly : Lett y) (h3 : 3 ≤ y.cps.size) (h6 : y.cps.size ≤ 6) {p q : Nat} (hp : p ∈ y.cps.toList) (hq : q ∈ y.cps.toList) (n : p ≠ q) : (p, q) ∈ prs (tidy y) ∨ (q, p) ∈ prs (tidy y) := by
  have tp := tidy_perm y
  have ts : (tidy y).cps.size = y.cps.size := perm_size tp
  have nd : (tidy y).cps.toList.Nodup := tp.nodup_iff.mpr ly.1
  have i1 := tp.mem_iff.mpr hp
  have i2 := tp.mem_iff.mpr hq
  rw [prs_lp _ (by omega) (by omega), lp_mem nd, lp_mem nd]
  have : (tidy y).cps.toList.idxOf p ≠ (tidy y).cps.toList.idxOf q := fun e => n (pos_inj i1 i2 e)
  rcases Nat.lt_or_gt_of_ne this with h | h
  · exact .inl ⟨i1, i2, h⟩
  · exact .inr ⟨i2, i1, h⟩
theorem prs_in {y : Str} (ly : Lett y) (h3 : 3 ≤ y.cps.size) (h6 : y.cps.size ≤ 6) {p : Nat × Nat} (h : p ∈ prs (tidy y)) : p.1 ∈ y.cps.toList ∧ p.2 ∈ y.cps.toList ∧ p.1 ≠ p.2 := by
  have tp := tidy_perm y
  have ts : (tidy y).cps.size = y.cps.size := perm_size tp
  have nd : (tidy y).cps.toList.Nodup := tp.nodup_iff.mpr ly.1
  rw [prs_lp _ (by omega) (by omega)] at h
  obtain ⟨a, b⟩ := p
  have := (lp_mem nd a b).mp h
  exact ⟨tp.mem_iff.mp this.1, tp.mem_iff.mp this.2.1, fun e => by rw [show a = b from e] at this; omega⟩
theorem strE {a b : Str} (e : a.cps.toList = b.cps.toList) : a = b := by
  cases a; cases b
  simp at e
  rw [e]
/-- an order stands ascending by its own places -/
theorem ahead_asc {a : Str} (nd : a.cps.toList.Nodup) : a.cps.toList.Pairwise fun p q => aheadL a (p, q) = true := by
  rw [List.pairwise_iff_getElem]
  intro i k hi hk h
  have e1 : a.cps.toList.idxOf a.cps.toList[i] = i := nd.idxOf_getElem i hi
  have e2 : a.cps.toList.idxOf a.cps.toList[k] = k := nd.idxOf_getElem k hk
  unfold aheadL posL
  dsimp only
  rw [e1, e2]
  exact decide_eq_true h
/-- two orders of the same letters that say the same of each two are one -/
theorem order_ext {a b y : Str} (ly : Lett y) (h3 : 3 ≤ y.cps.size) (h6 : y.cps.size ≤ 6) (pa : a.cps.toList.Perm y.cps.toList) (pb : b.cps.toList.Perm y.cps.toList) (h : ∀ p ∈ prs (tidy y), aheadL a p = aheadL b p) : a = b := by
  have all : ∀ {p q : Nat}, p ∈ y.cps.toList → q ∈ y.cps.toList → p ≠ q → aheadL a (p, q) = aheadL b (p, q) := fun {p q} hp hq n => by
    rcases prs_mem ly h3 h6 hp hq n with k | k
    · exact h _ k
    · have e := h _ k
      rw [ahead_swap (pa.mem_iff.mpr hp) (pa.mem_iff.mpr hq) n, ahead_swap (pb.mem_iff.mpr hp) (pb.mem_iff.mpr hq) n] at e
      revert e
      cases aheadL a (p, q) <;> cases aheadL b (p, q) <;> simp
  refine strE (List.Perm.eq_of_pairwise (le := fun p q => aheadL a (p, q) = true) (fun p q hp hq h1 h2 => ?_) (ahead_asc (ly.perm pa).1) ?_ (pa.trans pb.symm))
  · have h1 := of_decide_eq_true h1
    have h2 := of_decide_eq_true h2
    dsimp only at h1 h2
    omega
  · have w := ahead_asc (ly.perm pb).1
    have nd := (ly.perm pb).1
    refine (w.and nd).imp_of_mem fun {p q} hp hq e => ?_
    rw [all (pb.mem_iff.mp hp) (pb.mem_iff.mp hq) e.2]
    exact e.1
theorem ans_inj {a b y : Str} (ly : Lett y) (h3 : 3 ≤ y.cps.size) (h6 : y.cps.size ≤ 6) (pa : a.cps.toList.Perm y.cps.toList) (pb : b.cps.toList.Perm y.cps.toList) (e : ansN a = ansN b) : a = b := by
  unfold ansN at e
  rw [tidy_same pa, tidy_same pb] at e
  exact order_ext ly h3 h6 pa pb (binQ_inj e)
/-- what the most of three say of two things -/
def majF (f g h : Nat × Nat → Bool) (p : Nat × Nat) : Bool := (f p && g p || f p && h p) || g p && h p
/-- those of a row that stand at these places -/
def trio (ys : List Str) (l : List Nat) : List Str := l.map fun i => ys.getD i ⟨#[]⟩
def majO (tr : List Str) : Nat × Nat → Bool := majF (aheadL (tr.getD 0 ⟨#[]⟩)) (aheadL (tr.getD 1 ⟨#[]⟩)) (aheadL (tr.getD 2 ⟨#[]⟩))
/-- whether an order says what the most of three say -/
def sayB (y : Str) (tr : List Str) (o : Str) : Bool := decide (ansN o = binQ (majO tr) (prs (tidy y)))
def fitB (ys : List Str) (y : Str) (sp : Bool) (tr : List Str) : Bool := (if sp = true then tr else ys).any (sayB y tr)
end L2.Cal
end

section
set_option maxRecDepth 100000
set_option maxHeartbeats 4000000
/-! combinations(row, r) where the row may be shorter than r: there is none then -/
namespace CpComb
open PySem PySem.Spec
def phOf (n r : Nat) : Int := if r > n then 2 else 0
section
variable {prog : Program} {w : World} {A : Around} {E : Value → Shared → Prop} {s : Shared} {it pool : Addr} {old : Value} {ns : List Nat}
theorem next_over {F : PySem.Fin → Shared → Prop} (hh : A.handled = none) (hit : s.heap.get? it = some (combO pool 2 old ns))
    (q : ∀ e h', (∃ a o, e = Value.ref a ∧ h'.get? a = some o ∧ o.cls = .type "StopIteration") → (∀ b o, s.heap.get? b = some o → h'.get? b = some o) → E e { s with heap := h' }) :
    wpAny (model prog w) A (Builtin.«itertools.combinations.__next__» ⟨[.ref it], []⟩) F E s := by
  show wpAny _ _ (field (.ref it) 0 >>= _) _ _ _
  refine wpAny_bind (wpAny_field hit rfl (x := .ref pool) rfl ?_)
  refine wpAny_bind (wpAny_bind (wpAny_load hit (wpAny_pure ?_)))
  refine wpAny_bind (wpAny_bind (wpAny_field hit rfl (x := rawInt 2) rfl (wpAny_pure ?_)))
  split
  case h_1 h => exact absurd h (by decide)
  case h_2 h => exact absurd h (by decide)
  exact CpPerm.stop_run hh q
theorem py_over {Q : Option Value → Shared → Prop} (hh : A.handled = none) (hit : s.heap.get? it = some (combO pool 2 old ns)) (q : ∀ h', (∀ b o, s.heap.get? b = some o → h'.get? b = some o) → Q none { s with heap := h' }) : wpAny (model prog w) A (pyNext (.ref it)) Q E s := by
  unfold pyNext
  refine wpAny_bind (wpAny_attempt (next_one hit (next_over (by simpa using hh) hit fun e h' he k => ?_)))
  obtain ⟨a, o, rfl, ho, hc⟩ := he
  exact wpAny_bind (wpAny_isInstance (T := "StopIteration") (b := true) ⟨o, ho, hc⟩ isSubtype_stop (wpAny_pure (q h' k)))
theorem comb_newE {F : PySem.Fin → Shared → Prop} {v : Value} {xs : List L2.V} (g : Gathers v xs s A) (few : xs.length ≤ 1000) (r : Nat) (t2 : Tok) (hr : r ≤ 1000)
    (q : ∀ (h' : Heap) (tk : Nat) (items : List Value) (it pool : Addr), (∀ b o, s.heap.get? b = some o → h'.get? b = some o) → L2.Vals xs items → s.heap.objs.size ≤ it → s.heap.objs.size ≤ pool → it ≠ pool →
      h'.get? it = some (combO pool (phOf xs.length r) Value.none (fstC r 0)) → (∃ od n0 osl, h'.get? pool = some ⟨.type "tuple", od, .seq items.toArray n0, osl⟩) → F (Fin.done (Flow.ret (.ref it))) { s with heap := h', toks := tk }) :
    wpAny (model prog w) A (Builtin.«itertools.combinations.__new__» ⟨[.type "itertools.combinations", v, .int (r : Int) t2], []⟩) F E s := by
  have below := sub_comb
  unfold Builtin.«itertools.combinations.__new__»
  refine wpAny_bind (wpAny_bind ?_)
  unfold Builtin.Itertools.itClassAndRest
  wp_walk
  refine wpAny_of_eq (show isSubtype (Value.type "itertools.combinations") (Value.type ("itertools." ++ "combinations")) = pure true by rw [show ("itertools." ++ "combinations" : String) = "itertools.combinations" by decide]; exact sub_comb) ?_
  refine wpAny_pure ?_
  refine wpAny_bind ?_
  unfold Builtin.Itertools.itBindNamed
  generalize hcf : collect = cf
  wp_walk
  have c1 : (decide ((r : Int) < -2 ^ 63) || decide ((r : Int) ≥ 2 ^ 63)) = false := by
    rw [Bool.or_eq_false_iff]
    exact ⟨decide_eq_false (by omega), decide_eq_false (by omega)⟩
  have c2 : ¬ (r : Int) < 0 := by omega
  have c3 : Builtin.Itertools.itTooMany (r : Int) = false := decide_eq_false (by omega)
  rw [if_neg (by rw [c1]; exact Bool.false_ne_true)]
  refine wpAny_pure ?_
  refine wpAny_bind ?_
  subst hcf
  refine g prog w _ _ fun h' tk items k0 k1 hv => ?_
  have hn : items.length = xs.length := hv.length.symm
  dsimp only
  rw [if_neg c2, if_neg (by rw [c3]; exact Bool.false_ne_true)]
  refine wpAny_bind (wpAny_newTuple ?_ (by rw [hn, sizeLine_eq]; omega))
  refine wpAny_pure ?_
  dsimp only
  rw [Int.toNat_natCast, hn]
  unfold Builtin.Itertools.itNewRecord
  rw [noDict_comb]
  refine wpAny_bind ?_
  rw [if_pos (show (!false) = true from rfl)]
  refine wpAny_newObj_type (wpAny_pure ?_) ?_
  · have ef : ∀ z : Value, ([Value.ref h'.objs.size, z, Value.none] ++ (List.range r).map fun (i : Nat) => rawInt (i : Int)) = [Value.ref h'.objs.size, z, Value.none] ++ (fstC r 0).map fun (n : Nat) => rawInt (n : Int) := fun z => by
      unfold fstC
      rw [List.map_map]
      congr 1
      refine List.map_congr_left fun i _ => ?_
      show rawInt (i : Int) = rawInt ((0 + i : Nat) : Int)
      rw [Nat.zero_add]
    dsimp only
    rw [ef]
    have z := Heap.size_push (h := h') (o := { cls := .type "tuple", data := .seq items.toArray })
    refine q _ tk items _ h'.objs.size (fun b o e => Heap.get?_push_of_some _ (Heap.get?_push_of_some _ (k1 b o e))) hv ?_ k0 ?_ (Heap.get?_push_size _ ?_) ⟨_, _, _, Heap.get?_push_of_some _ (Heap.get?_push_size _ rfl)⟩
    · exact Nat.le_trans (Nat.le_trans k0 (Nat.le_succ _)) (Nat.le_of_eq z.symm)
    · exact Nat.ne_of_gt (Nat.lt_of_lt_of_le (Nat.lt_succ_self _) (Nat.le_of_eq z.symm))
    · rfl
  · unfold sizeOk
    dsimp only
    rw [List.size_toArray]
    simp only [List.length_append, List.length_map, List.length_range, List.length_cons, List.length_nil, sizeLine_eq]
    omega
end
def combSpecE (v : Value) (xs : List L2.V) (r : Nat) : PySem.Spec := fun A R s => Gathers v xs s A.in1 ∧ ∀ (h' : Heap) (tk : Nat) (items : List Value) (it pool : Addr), (∀ b o, s.heap.get? b = some o → h'.get? b = some o) → L2.Vals xs items → s.heap.objs.size ≤ it → s.heap.objs.size ≤ pool → it ≠ pool →
      h'.get? it = some (combO pool (phOf xs.length r) Value.none (fstC r 0)) → (∃ od n0 osl, h'.get? pool = some ⟨.type "tuple", od, .seq items.toArray n0, osl⟩) → R (.ok (.ret (.ref it))) { s with heap := h', toks := tk }
theorem comb_meetsE (v : Value) (xs : List L2.V) (few : xs.length ≤ 1000) (r : Nat) (t2 : Tok) (hr : r ≤ 1000) : Meets (Builtin.«itertools.combinations.__new__» ⟨[.type "itertools.combinations", v, .int (r : Int) t2], []⟩) (combSpecE v xs r) :=
  .of_wp fun prog w A R s h => by
    obtain ⟨g, q⟩ := h
    exact comb_newE g few r t2 hr fun h' tk items it pool k1 k2 k3 k4 k5 k6 k7 => ⟨_, rfl, q h' tk items it pool k1 k2 k3 k4 k5 k6 k7⟩
theorem comb_itE {prog : Program} {w : World} {A : Around} {E : Value → Shared → Prop} {s : Shared} {Q : Value → Shared → Prop} {v : Value} {xs : List L2.V} (g : Gathers v xs s A.in1.in1) (few : xs.length ≤ 1000) (r : Nat) (t2 : Tok) (hr : r ≤ 1000)
    (q : ∀ (h' : Heap) (tk : Nat) (items : List Value) (it pool : Addr), (∀ b o, s.heap.get? b = some o → h'.get? b = some o) → L2.Vals xs items → s.heap.objs.size ≤ it → s.heap.objs.size ≤ pool → it ≠ pool →
      h'.get? it = some (combO pool (phOf xs.length r) Value.none (fstC r 0)) → (∃ od n0 osl, h'.get? pool = some ⟨.type "tuple", od, .seq items.toArray n0, osl⟩) → Q (.ref it) { s with heap := h', toks := tk }) :
    wpAny (model prog w) A (call (.type "itertools.combinations") [v, .int (r : Int) t2]) (fun v s1 => wpAny (model prog w) A (pyIter v) Q E s1) E s := by
  refine callType_new called_comb (by decide) (typeCall_comb_2 _ _) (newCall_comb_2 _ _) (fun obj => PySem.F.args_object_init_3 obj _ _) entry_comb_new (comb_meetsE v xs few r t2 hr) ?_
  unfold combSpecE
  refine ⟨g, fun h' tk items it pool k1 k2 k3 k4 k5 k6 k7 => ?_⟩
  show _ ∧ _
  exact ⟨⟨_, k6, rfl⟩, py_iter k6 (q h' tk items it pool k1 k2 k3 k4 k5 k6 k7)⟩
end CpComb
namespace L2.Cal
open PySem PySem.Spec PyProof.Rows L2 CpComb
/-- all rows of r of them, none if there are fewer -/
def cmbW (xs : List V) (r : Nat) : List (List Nat) := if r ≤ xs.length then cmbV xs r else []
def ItCw (xs : List V) (r : Nat) : It :=
  ⟨fun i _ => i < (cmbW xs r).length, fun i H v H' => ∃ T l, v = .ref T ∧ H T = none ∧ (cmbW xs r)[i]? = some l ∧ H' = upd H T (.tup (pickV xs l)), fun i _ => (cmbW xs r).length ≤ i⟩
theorem ItCw_in {xs : List V} {r : Nat} (h : r ≤ xs.length) : ItCw xs r = ItCb xs r := by
  unfold ItCw ItCb cmbW
  rw [if_pos h]
theorem turn_over {P : Program} {w : World} {K : PySem.W.Frag} {tg : Expr} {xs : List V} {r : Nat} (hr : xs.length < r) (e pool : Addr) (ns : List Nat) :
    Turn P w K tg (ItCw xs r) [e] e (fun _ h => h.get? e = some (combO pool 2 .none ns)) where
  mem := by simp
  obj := fun i h st b hb => by
    rw [List.mem_singleton.mp hb]
    exact ⟨_, st, fun v q => nomatch q⟩
  keep := fun i h h' st k => k e (by simp) _ st
  item := by
    intro X hP hw hK hc i pins s σ H E I hf st hg
    have : i < (cmbW xs r).length := hg
    unfold cmbW at this
    rw [if_neg (by omega)] at this
    exact absurd this (Nat.not_lt_zero _)
  done := by
    intro X hP hw hK hc i pins s σ H E I hf st hg
    subst hP hw hK
    obtain ⟨f0, f1, f2, f3, f4, f5⟩ := hf e (by simp)
    exact py_over (I.ok.hd hc) st fun h' k => ⟨rfl, I.turned (t' := s.toks) (fun b o hb q => k b o q) f0 f1 f3 f4 f5⟩
  self := fun A i s Q E st h => py_iter st h
theorem walk_combW {xs : List V} {r : Nat} : Walk (ItCw xs r) (cmbW xs r).length (fun _ => True) (fun i H v H' => ∃ T l, v = .ref T ∧ H T = none ∧ (cmbW xs r)[i]? = some l ∧ H' = upd H T (.tup (pickV xs l))) :=
  ⟨fun i H hi _ => hi, fun H _ => Nat.le_refl _, fun i H v H' hi _ h => h⟩
def iCw (K : PySem.W.Frag) (ta : TA) : TI := fun σ H R => ta σ H fun vs H1 => ∃ (x : V) (xs : List V) (r : Nat), vs = [x, .int (r : Nat)] ∧ RowIs K H1 x xs ∧ r ≤ 1000 ∧ xs.length ≤ 1000 ∧ R (ItCw xs r) H1
theorem pi_combW {X : Cx} {e1 e2 tg : Expr} {ta : TA} {p pos : Pos} (hg : Gl X "combinations") (hm : X.mg "combinations" = some (.type "itertools.combinations")) (hc : X.calm = true) (ha : PA X [e1, e2] ta) (hs : starEach [e1, e2] X.env = (false, eval e1 X.env) :: starEach [e2] X.env := by rfl) (hs2 : ((backTo pos (starEach [e2] X.env)).any fun x => x.fst) = false := by rfl) :
    PI X tg (.Call (.Name "combinations" p) [e1, e2] [] pos) (iCw X.K ta) := by
  refine ⟨fun pins s σ H R I h => Call_ (ld_glob I hg hm (PyProof.Rows.callWith_type1 (thn (ha.run pos pins s σ H _ I h) fun us s1 ⟨vs, H1, I1, r1, q1⟩ => ?_) hs hs2))⟩
  obtain ⟨x, xs, r, e, row, hr, few, q⟩ := q1
  subst e
  cases r1 with
  | cons c1 r1 =>
  cases r1 with
  | cons c2 r1 =>
  cases r1 with
  | nil =>
    obtain ⟨t2, rfl⟩ := c2
    obtain ⟨np, hnp, hmx⟩ := next_is
    refine comb_itE (gathers I1 (by simpa using I1.ok.hd hc) c1 row) few r t2 hr fun h' tk items it pool k1 k2 k3 k4 k5 k6 k7 => ?_
    have I2 : Inv X pins σ H1 { s1 with heap := h', toks := tk } := I1.kept k1
    by_cases c : r ≤ xs.length
    · rw [show phOf xs.length r = 0 from if_neg (by omega)] at k6
      rw [ItCw_in c] at q
      refine ⟨it, [it, pool], _, _, H1, rfl, I2, turn_comb hnp hmx (by omega) c it pool, ⟨k5, ⟨items, k7, k2⟩, k6⟩, fun b hb => ?_, q⟩
      have le : s1.heap.objs.size ≤ b := by
        rcases List.mem_cons.mp hb with z | z
        · rw [z]; exact k3
        · rw [List.mem_singleton.mp z]; exact k4
      exact I1.fpOk le (I1.hok.fresh le)
    · rw [show phOf xs.length r = 2 from if_pos (by omega)] at k6
      refine ⟨it, [it], _, _, H1, rfl, I2, turn_over (by omega) it pool _, k6, fun b hb => ?_, q⟩
      have le : s1.heap.objs.size ≤ b := by
        rw [List.mem_singleton.mp hb]
        exact k3
      exact I1.fpOk le (I1.hok.fresh le)
end L2.Cal
end

section
set_option maxRecDepth 100000
set_option maxHeartbeats 4000000
/-! sorted(a tuple of texts); x not in o; one order of texts alone -/
namespace L2.Cal
open PySem PySem.Spec PyProof.Rows PySem.Froz L2
theorem below_lt {a b : Str} : Below a b ↔ a.cps.toList < b.cps.toList := by
  unfold Below
  rw [ltCps_eq, decide_eq_true_iff]
theorem below_trans {a b c : Str} (h : Below a b) (k : Below b c) : Below a c := below_lt.mpr (List.lt_trans (below_lt.mp h) (below_lt.mp k))
theorem below_irr {a : Str} (h : Below a a) : False := List.lt_irrefl _ (below_lt.mp h)
theorem climbs_all : ∀ {ys : List Str}, Climbs ys → ys.Pairwise Below
  | [], _ => .nil
  | [_], _ => List.pairwise_singleton _ _
  | a :: b :: r, h => by
    have ih := climbs_all (ys := b :: r) h.2
    refine List.Pairwise.cons (fun x hx => ?_) ih
    rcases List.mem_cons.mp hx with e | hx
    · exact e ▸ h.1
    · exact below_trans h.1 ((List.pairwise_cons.mp ih).1 x hx)
theorem climbs_of : ∀ {ys : List Str}, ys.Pairwise Below → Climbs ys
  | [], _ => trivial
  | [_], _ => trivial
  | a :: b :: r, h => ⟨(List.pairwise_cons.mp h).1 b List.mem_cons_self, climbs_of (List.pairwise_cons.mp h).2⟩
theorem climbs_nodup {ys : List Str} (h : Climbs ys) : ys.Nodup := by
  refine List.Pairwise.imp (R := Below) (fun {a b} k => ?_) (climbs_all h)
  intro e
  subst e
  exact below_irr k
theorem only_order : ∀ {xs ys : List Str}, xs.Pairwise Below → ys.Pairwise Below → (∀ z, z ∈ xs ↔ z ∈ ys) → xs = ys
  | [], [], _, _, _ => rfl
  | [], y :: ys, _, _, m => absurd ((m y).mpr List.mem_cons_self) (by simp)
  | x :: xs, [], _, _, m => absurd ((m x).mp List.mem_cons_self) (by simp)
  | x :: xs, y :: ys, hx, hy, m => by
    obtain ⟨h1, h2⟩ := List.pairwise_cons.mp hx
    obtain ⟨k1, k2⟩ := List.pairwise_cons.mp hy
    have e : x = y := by
      rcases List.mem_cons.mp ((m x).mp List.mem_cons_self) with e | h
      · exact e
      rcases List.mem_cons.mp ((m y).mpr List.mem_cons_self) with e | k
      · exact e.symm
      exact (below_irr (below_trans (h1 y k) (k1 x h))).elim
    subst e
    rw [only_order h2 k2 fun z => ⟨fun h => ?_, fun h => ?_⟩]
    · rcases List.mem_cons.mp ((m z).mp (List.mem_cons_of_mem _ h)) with e | k
      · exact (below_irr (e ▸ h1 z h)).elim
      · exact k
    · rcases List.mem_cons.mp ((m z).mpr (List.mem_cons_of_mem _ h)) with e | k
      · exact (below_irr (e ▸ k1 z h)).elim
      · exact k
theorem climbs_only {xs ys : List Str} (hx : Climbs xs) (hy : Climbs ys) (m : ∀ z, z ∈ xs ↔ z ∈ ys) : xs = ys := only_order (climbs_all hx) (climbs_all hy) m
theorem climbs_filter {ys : List Str} (p : Str → Bool) (h : Climbs ys) : Climbs (ys.filter p) := climbs_of ((climbs_all h).filter p)
section
variable {X : Cx} {CX : CXT} {k : Nat} {C f : Addr} {fd : FuncData} {ps : List Str} {sp : Sp} {E : XK}
/-- x not in o -/
def rNotInO (C : Addr) (sp : Sp) (E : XK) : V → V → Hp → VK → Prop := fun x y H Q => ∃ (a dx : Addr) (fs : List (Str × V)), y = .ref a ∧ H a = some (.ins C dx fs) ∧ sp [.ref a, x] H (fun v H' => ∃ b : Bool, v = .bl b ∧ Q (.bl (!b)) H') E
theorem op_notInO (o : Own X.K C "__contains__" f) (F : FnOk X.prog X.w X.K X.mg X.base CX k f fd ps sp) (hr : Room k X.A) (hb : Binds X.K fd ps []) (hx : Passes CX X.nox E) : OpR X (compareOp .NotIn) (rNotInO C sp E) := by
  rintro pins s σ H x _ v u Q I rx ry ⟨a, dx, fs, rfl, ea, h⟩
  cases ry
  obtain ⟨ox, od, J⟩ := ins_at I ea
  refine wpAny_bind (m := contains _ _) ?_
  unfold contains
  refine wpAny_holding (wpAny_bind (wpAny_bind (J.type.here ((PySem.W.looks_findIn I.kIn o.at_).here ?_))))
  rw [if_neg (by simp)]
  refine wpAny_bind (PySem.W.unlessNone_K I.kIn J o.at_ o.isFn (wpAny_mono (run_at (vs := [.ref a, x]) I.env0 hr I F hb (.cons rfl (.cons rx .nil)) hx h) (fun u s' hq => ?_) fun _ _ z => z))
  obtain ⟨v', H', I', rv, b, rfl, q⟩ := hq
  cases rv
  exact wpAny_pure (wpAny_pure ⟨.bl (!b), H', I', rfl, q⟩)
/-- sorted(t), t a tuple of texts -/
def rSortedT (K : PySem.W.Frag) : List V → Hp → VK → Prop := fun vs H Q => ∃ (a : Addr) (xs : List Str), vs = [.ref a] ∧ SqT K H a (xs.map V.str) ∧ xs.length < 64 ∧
  ∀ (ys : List Str) (p : Addr), ys.Perm xs → sortedS ys = true → H p = none → Q (.ref p) (upd H p (.lst (ys.map V.str)))
theorem cr_sortedT : CallR X (.builtin "sorted") (rSortedT X.K) := by
  rintro pins s σ H vs us Q I r ⟨a, xs, rfl, hs, few, q⟩
  rw [Vals.ref1 r]
  obtain ⟨its, rv, ⟨o, ho, hc, n, hd⟩, hl⟩ := I.tuple hs
  have len := rv.length
  rw [List.length_map] at len
  refine sort_texts (good := fun s1 ss => ss = xs ∧ (∀ b o, s.heap.get? b = some o → s1.heap.get? b = some o) ∧ s1.gens = s.gens ∧ s1.drawn = s.drawn ∧ s1.os = s.os ∧ s1.toks = s.toks ∧ s.heap.objs.size ≤ s1.heap.objs.size) (fun s1 ss h => by rw [h.1]; exact few) (fun E' Q' k => ?_)
    fun s1 s' out c ys ss ⟨e, k1, g1, d1, o1, t1, z1⟩ k g o at1 are pm so => ?_
  · refine CpComb.collect_seq a (T := "tuple") (.inr rfl) ho hc hd (by rw [List.size_toArray, ← len, sizeLine_eq]; omega) fun h' z kk => ?_
    exact k { s with heap := h' } _ xs ⟨rfl, kk, rfl, rfl, rfl, rfl, z⟩ (by simpa using rv.strs)
  · subst e
    have I1 : Inv X pins σ H s1 := by
      have z : s1 = { s with heap := s1.heap, toks := s1.toks } := by
        cases s1
        cases s
        cases g1
        cases d1
        cases o1
        rfl
      rw [z]
      exact I.kept k1
    obtain ⟨J, n⟩ := inv_list I1 k g o (Nat.le_refl _) at1 are (by rw [pm.length_eq]; exact few)
    exact ⟨.ref _, _, J, rfl, q ys _ pm so n⟩
end
end L2.Cal
end

section
set_option maxRecDepth 100000
set_option maxHeartbeats 4000000
/-! a tuple of which it is known that it has no dict: tuple(list) makes one; its methods -/
namespace L2.TupF
open PySem PySem.Spec PyProof.Rows L2
def Frt (H : Hp) (p : Addr) (xs : List V) : Prop := ∃ o : Obj, o.dict = none ∧ H p = some (.frz o (.tup xs))
theorem Frt.to {H H' : Hp} {p : Addr} {xs : List V} (h : Frt H p xs) (k : ∀ b o, (∀ ys, o ≠ .lst ys) → (∀ ps, o ≠ .tbl ps) → H b = some o → H' b = some o) : Frt H' p xs := by
  obtain ⟨o, d, e⟩ := h
  exact ⟨o, d, k _ _ (fun _ z => by cases z) (fun _ z => by cases z) e⟩
theorem Frt.same {H H' : Hp} {p : Addr} {xs : List V} (h : Frt H p xs) (s : ∀ b o, H b = some o → H' b = some o) : Frt H' p xs := h.to fun b o _ _ e => s b o e
theorem sqF {K : PySem.W.Frag} {H : Hp} {p : Addr} {o : Obj} {xs : List V} (e : H p = some (.frz o (.tup xs))) : SqT K H p xs := .inl (.inr ⟨o, e⟩)
theorem Frt.sq {K : PySem.W.Frag} {H : Hp} {p : Addr} {xs : List V} (h : Frt H p xs) : SqT K H p xs := by
  obtain ⟨o, d, e⟩ := h
  exact .inl (.inr ⟨o, e⟩)
theorem Frt.ty {K : PySem.W.Frag} {H : Hp} {p : Addr} {xs : List V} (h : Frt H p xs) : TyX K H (.ref p) (.type "tuple") := by
  obtain ⟨o, d, e⟩ := h
  exact .fTuple e
def rTupF (K : PySem.W.Frag) : List V → Hp → VK → Prop := fun xs H Q => ∃ p ys, xs = [.ref p] ∧ SqL K H p ys ∧ ∀ l o, o.dict = none → H l = none → Q (.ref l) (upd H l (.frz o (.tup ys)))
def tBMF (r : V → List V → Hp → VK → Prop) (to : TE) (t : TA) : TE := fun σ H Q => to σ H fun x H1 => (∃ p zs, x = .ref p ∧ Frt H1 p zs) ∧ t σ H1 fun xs H2 => r x xs H2 Q
section
variable {X : Cx} {o e : Expr} {es : List Expr} {to : TE} {t : TA} {name : Str} {apos cpos : Pos} {id : String} {r : V → List V → Hp → VK → Prop}
theorem call_tupleF : CallR X (.type "tuple") (rTupF X.K) := by
  intro pins s σ H ws us Q I rw' h
  obtain ⟨p, ys, rfl, hq, q⟩ := h
  obtain ⟨u, rfl, rx⟩ := vals1 rw'
  cases rx
  obtain ⟨its, rv, pl, fits⟩ := I.list hq
  have len := rv.length
  refine call_tuple_list pl.isList (fun g kp => ?_) (by rw [List.size_toArray]; omega)
  have I1 : Inv X pins σ H { s with heap := g } := I.kept (t' := s.toks) kp
  let ob : Obj := { cls := .type "tuple", data := .seq its.toArray }
  have I2 : Inv X pins σ (upd H g.objs.size (.frz ob (.tup ys))) { s with heap := g.push ob } :=
    I1.laid (t' := s.toks) (fun b o e => Heap.get?_push_of_some _ e) (Nat.le_refl _)
      (show ObjOk X.prog X.w _ (g.push ob) g.objs.size (.frz ob (.tup ys)) from ⟨Heap.get?_push_size _ rfl, fits, its, rv, IsTup.new _ _⟩)
  exact ⟨.ref g.objs.size, _, I2, rfl, q _ ob rfl (I1.hok.fresh (Nat.le_refl _))⟩
theorem pe_bmF (slot : Slot "tuple" name id) (hty : typeOf (.builtin id) = pure (.type "method_descriptor")) (hm : MtR X id r) (ho : PE X o to) (ha : PA X (e :: es) t)
    (hbase : attributeBase o name X.env (eval o X.env) = eval o X.env := by rfl)
    (hfew : ((backTo cpos (starEach (e :: es) X.env)).all (fun z => !z.1) && (backToKw cpos (keywordEach [] X.env)).all (fun z => z.1.isSome) && decide ((e :: es).length + ([] : List Keyword).length + (if ([] : List Keyword).isEmpty then 0 else 1) < 30)) = true := by rfl)
    (hline : (apos.endLine == cpos.line) = true := by rfl) (hs : starEach (e :: es) X.env = (false, eval e X.env) :: starEach es X.env := by rfl) (hplain : (backTo cpos (starEach es X.env)).any (·.1) = false := by rfl) :
    PE X (.Call (.Attribute o name apos) (e :: es) [] cpos) (tBMF r to t) := by
  constructor
  intro pins s σ H Q I h
  refine wpAny_Call_method_late hbase hfew hline rfl (thn (ho.run pins s σ H _ I h) fun v s1 ⟨x, H1, I1, r1, ⟨p, zs, ex, ob, dn, ep⟩, q1⟩ => ?_)
  subst ex
  cases (show v = Value.ref p from r1)
  obtain ⟨g, _, _, _, o2, g2, cl, _⟩ := (show ObjOk X.prog X.w H1 s1.heap p (.frz ob (.tup zs)) from I1.hok p _ ep)
  rw [g] at g2
  cases g2
  refine ⟨"tuple", id, PySem.F.plainAttrs_tuple, slot, hty, ⟨ob, g, cl⟩, fun a ea => by cases ea; exact ⟨ob, g, dn⟩, ?_⟩
  have A := ha.run cpos pins s1 σ H1 _ I1 q1
  rw [hs] at A ⊢
  refine Calls.callWith_builtin (by show (false || (backTo cpos (starEach es X.env)).any (·.1)) = false; rw [hplain] <;> rfl) (Calls.evalArgs_plain (thn A fun us s2 ⟨vs, H2, I2, r2, q2⟩ => ?_))
  exact hm pins s2 σ H2 (.ref p) vs _ us Q I2 rfl r2 q2
end
end L2.TupF
end

section
set_option maxRecDepth 100000
set_option maxHeartbeats 4000000
set_option synthInstance.maxHeartbeats 400000
namespace L2.Cal
open PySem PySem.Spec PyProof.Rows L2 CpComb L2.TupF
abbrev sCkr : Stmt := topS 25
theorem scCkr : FnScope ["roll"] ["roll"] (defScope sCkr) := ⟨rfl, rfl, rfl, by decide +kernel, rfl, by decide +kernel, by decide +kernel⟩
abbrev sMst : Stmt := topS 42
theorem scMst : FnScope ["three", "one", "two", "last"] ["three"] (defScope sMst) := ⟨rfl, rfl, rfl, by decide +kernel, rfl, by decide +kernel, by decide +kernel⟩
abbrev sTha : Stmt := topS 43
theorem scTha : FnScope ["roll", "spoken", "said", "numbers", "three", "order", "bits"] ["roll", "spoken"] (defScope sTha) := ⟨rfl, rfl, rfl, by decide +kernel, rfl, by decide +kernel, by decide +kernel⟩
abbrev sOpn : Stmt := topS 45
theorem scOpn : FnScope ["roll"] ["roll"] (defScope sOpn) := ⟨rfl, rfl, rfl, by decide +kernel, rfl, by decide +kernel, by decide +kernel⟩
abbrev sClo : Stmt := topS 47
theorem scClo : FnScope ["roll"] ["roll"] (defScope sClo) := ⟨rfl, rfl, rfl, by decide +kernel, rfl, by decide +kernel, by decide +kernel⟩
def spCkr (C : Addr) : Sp := fun vs H Q _ => ∃ (a t : Addr) (z : Str), vs = [.ref a] ∧ RollAt C H a t z ∧ Q .non H
def spMst : Sp := fun vs H Q _ => ∃ (t : Addr) (f g h : Nat × Nat → Bool) (l : List (Nat × Nat)), vs = [.ref t] ∧ H t = some (.tup [.int (binQ f l : Nat), .int (binQ g l : Nat), .int (binQ h l : Nat)]) ∧ Q (.int (binQ (majF f g h) l : Nat)) H
/-- all three of the places of a roll's orders -/
def trips (ys : List Str) : List (List Nat) := if 3 ≤ ys.length then cmb 3 (ys.length - 3) 0 else []
abbrev kvO (o : Str) : Key × V := (Sum.inl ((ansN o : Nat) : Int), V.str o)
theorem val_kvO {o : Str} : ∀ {zs : List Str}, (∀ z ∈ zs, ansN z = ansN o → z = o) → o ∈ zs → valV (zs.map kvO) (Sum.inl ((ansN o : Nat) : Int)) = some (.str o)
  | [], _, h => by cases h
  | z :: zs, inj, h => by
    rw [List.map_cons]
    by_cases e : ansN z = ansN o
    · rw [inj z List.mem_cons_self e, valV_pos rfl]
    · rw [valV_neg fun k => e (by have := Sum.inl.inj k; omega)]
      rcases List.mem_cons.mp h with k | k
      · exact absurd (by rw [k]) e
      · exact val_kvO (fun z hz => inj z (List.mem_cons_of_mem _ hz)) k
theorem val_kvN {o : Str} : ∀ {zs : List Str}, (∀ z ∈ zs, ansN z ≠ ansN o) → valV (zs.map kvO) (Sum.inl ((ansN o : Nat) : Int)) = none
  | [], _ => rfl
  | z :: zs, h => by
    rw [List.map_cons, valV_neg fun k => h z List.mem_cons_self (by have := Sum.inl.inj k; omega)]
    exact val_kvN fun z hz => h z (List.mem_cons_of_mem _ hz)
abbrev numV (ys : List Str) : List V := ys.map fun o => V.int ((ansN o : Nat) : Int)
theorem in_nums (y : Str) (tr L : List Str) : inV (.int ((binQ (majO tr) (prs (tidy y)) : Nat) : Int)) (numV L) = L.any (sayB y tr) := by
  unfold inV
  rw [List.any_map]
  refine List.any_congr rfl fun o => ?_
  show decide (((ansN o : Nat) : Int) = ((binQ (majO tr) (prs (tidy y)) : Nat) : Int)) = sayB y tr o
  unfold sayB
  exact decide_eq_decide.mpr ⟨fun h => by omega, fun h => by rw [h]⟩
theorem flat_nums (L : List Str) : (numV L).all flatV = true := by
  rw [List.all_map, List.all_eq_true]
  exact fun _ _ => rfl
theorem trips_in {ys : List Str} {l : List Nat} (h : l ∈ trips ys) : ∃ i j k, l = [i, j, k] ∧ i < j ∧ j < k ∧ k < ys.length := by
  unfold trips at h
  split at h
  · obtain ⟨h1, h2, h3⟩ := mem_cmb.mp h
    match l, h1 with
    | [i, j, k], _ =>
      have p1 := List.pairwise_cons.mp h2
      have p2 := List.pairwise_cons.mp p1.2
      have b := h3 k (by simp)
      exact ⟨i, j, k, rfl, p1.1 j (by simp), p2.1 k (by simp), by omega⟩
  · cases h
theorem trips_of {ys : List Str} {i j k : Nat} (h1 : i < j) (h2 : j < k) (h3 : k < ys.length) : [i, j, k] ∈ trips ys := by
  unfold trips
  rw [if_pos (by omega)]
  exact mem_cmb.mpr ⟨rfl, by simp; omega, fun b hb => by simp at hb; omega⟩
theorem cmbW_trips (ys : List Str) : cmbW (numV ys) 3 = trips ys := by
  unfold cmbW cmbV trips
  rw [List.length_map]
theorem pick_nums {ys : List Str} {i j k : Nat} (h1 : i < j) (h2 : j < k) (h3 : k < ys.length) : pickV (numV ys) [i, j, k] = numV (trio ys [i, j, k]) := by
  have g : ∀ n, n < ys.length → (numV ys).getD n .non = V.int ((ansN (ys.getD n ⟨#[]⟩) : Nat) : Int) := fun n h => by
    rw [List.getD_eq_getElem?_getD, List.getElem?_map, List.getElem?_eq_getElem h, List.getD_eq_getElem?_getD, List.getElem?_eq_getElem h] <;> rfl
  show [(numV ys).getD i .non, (numV ys).getD j .non, (numV ys).getD k .non] = _
  rw [g i (by omega), g j (by omega), g k (by omega)] <;> rfl
theorem getD_in {ys : List Str} {n : Nat} (h : n < ys.length) : ys.getD n ⟨#[]⟩ ∈ ys := by
  rw [List.getD_eq_getElem?_getD, List.getElem?_eq_getElem h]
  exact List.getElem_mem h
/-- the first three that do not fit -/
def badL (ys : List Str) (y : Str) (sp : Bool) : Option (List Nat) := (trips ys).find? fun l => !fitB ys y sp (trio ys l)
theorem bad_is {ys : List Str} {y : Str} {sp : Bool} {i : Nat} {l : List Nat} (h : ∀ m ∈ (trips ys).take i, fitB ys y sp (trio ys m) = true) (hl : (trips ys)[i]? = some l) (hb : fitB ys y sp (trio ys l) = false) : badL ys y sp = some l := by
  unfold badL
  obtain ⟨hi, e⟩ := List.getElem?_eq_some_iff.mp hl
  have split : trips ys = (trips ys).take i ++ l :: (trips ys).drop (i + 1) := by
    rw [← e, ← List.drop_eq_getElem_cons hi, List.take_append_drop]
  rw [List.find?_eq_some_iff_append]
  exact ⟨by rw [hb] <;> rfl, _, _, split, fun m hm => by rw [h m hm] <;> rfl⟩
def spTha (K : PySem.W.Frag) (C : Addr) : Sp := fun vs H Q _ => ∃ (a t : Addr) (ys : List Str) (y : Str) (sp : Bool), vs = [.ref a, .bl sp] ∧ RollAt C H a t (tidy y) ∧ SqT K H t (ys.map V.str) ∧ Good ys y ∧
  ((∀ l ∈ trips ys, fitB ys y sp (trio ys l) = true) → ∀ H', Same H H' → Q .non H') ∧
  ∀ l ∈ trips ys, fitB ys y sp (trio ys l) = false → badL ys y sp = some l → ∀ p H', Same H H' → H p = none → Frt H' p ((trio ys l).map V.str) → Q (.ref p) H'
section
variable {P : Program} {w : World} {K : PySem.W.Frag} {mg : Str → Option Value} {base : Heap} {C : Addr}
theorem ok_ckr {f : Addr} {fd : FuncData} (D : DefAt K mg "check_roll" sCkr ["roll"] f fd) (T : Txt mg) (R : RollC K mg C) : FnOk P w K mg base CX0 1 f fd ["roll"] (spCkr C) := by
  refine D.F.ok scCkr (fun vs H Q E h => ?_) (fun cdv A outer sh H vs Q E hr h => ?_)
  · obtain ⟨a, t, z, rfl, _⟩ := h
    rfl
  · obtain ⟨a, t, z, rfl, ⟨dx, fs, ha, l1, l2⟩, q⟩ := h
    have ty : TyX K H (.ref a) (.ref C) := .base (.ins ha R.cls R.dcl R.dget R.dtk R.mobj)
    have kit : PySem.W.kitOne K (.ref C) (.ref C) = some true := by unfold PySem.W.kitOne; rw [if_pos (by simp)]
    refine ⟨_, pss_one (ps_if (pt_not (pt_val (pe_callB call_isi (by rfl) T.b_isinstance (by decide +kernel) (pa_cons (pv 0) (pa_cons (pe_cls (by rfl) R.g) pa_nil))))) (pss_one ps_never) pss_nil), ?_⟩
    exact ⟨_, rfl, .ref a, .ref C, .ref C, .ref C, true, rfl, .own C, ty, kit, true, rfl, iteF q⟩
theorem ok_mst {f : Addr} {fd : FuncData} (D : DefAt K mg "most_answers" sMst ["three"] f fd) : FnOk P w K mg base CX0 1 f fd ["three"] spMst := by
  refine D.F.ok scMst (fun vs H Q E h => ?_) (fun cdv A outer sh H vs Q E hr h => ?_)
  · obtain ⟨t, f, g, h, l, rfl, _⟩ := h
    rfl
  · obtain ⟨t, f, g, h, l, rfl, ht, q⟩ := h
    refine ⟨_, pss_cons (ps_asg (pv 0) (pg_tup rfl (pgs_cons (pg_name (i := 1) scMst.nd rfl (.inl rfl)) (pgs_cons (pg_name (i := 2) scMst.nd rfl (.inl rfl)) (pgs_cons (pg_name (i := 3) scMst.nd rfl (.inl rfl)) pgs_nil)))))
      (pss_one (ps_ret (pe_op op_or (pe_op op_or (pe_op op_and (pv 1) (pv 2)) (pe_op op_and (pv 1) (pv 3))) (pe_op op_and (pv 2) (pv 3))))), ?_⟩
    refine ⟨_, rfl, t, _, rfl, SqT.of ht, rfl, _, _, rfl, _, _, rfl, _, _, rfl, rfl, ?_⟩
    refine ⟨_, rfl, _, rfl, _, _, rfl, rfl, _, rfl, _, rfl, _, _, rfl, rfl, _, _, rfl, rfl, _, rfl, _, rfl, _, _, rfl, rfl, _, _, rfl, rfl, ?_⟩
    have e : Builtin.bitOr (Builtin.bitOr (Builtin.bitAnd (binQ f l : Nat) (binQ g l : Nat)) (Builtin.bitAnd (binQ f l : Nat) (binQ h l : Nat))) (Builtin.bitAnd (binQ g l : Nat) (binQ h l : Nat)) = ((binQ (majF f g h) l : Nat) : Int) := by
      rw [and_int, and_int, and_int, or_int, or_int] <;> rfl
    dsimp only
    rw [e]
    exact q
theorem ok_tha {f fK fA fT fM fOr : Addr} {fd fdK fdA fdT fdM fdOr : FuncData} {pO : Addr} (D : DefAt K mg "three_against" sTha ["roll", "spoken"] f fd) (DK : DefAt K mg "check_roll" sCkr ["roll"] fK fdK) (DA : DefAt K mg "answers" sAns ["order"] fA fdA) (DT : DefAt K mg "things_of" sThO ["order"] fT fdT) (DM : DefAt K mg "most_answers" sMst ["three"] fM fdM)
    (PO : PropOf K C "orders" pO fOr) (FO : Fun K "orders" "Roll.orders" sOrd fOr fdOr) (bO : Binds K fdOr ["self"] []) (hcb : mg "combinations" = some (.type "itertools.combinations")) (T : Txt mg) (R : RollC K mg C) : FnOk P w K mg base CX0 3 f fd ["roll", "spoken"] (spTha K C) := by
  have GK : FnOk P w K mg base CX0 1 fK fdK ["roll"] (spCkr C) := ok_ckr DK T R
  have GA : FnOk P w K mg base CX0 2 fA fdA ["order"] spAns := ok_ans DA DT hcb T
  have GM : FnOk P w K mg base CX0 1 fM fdM ["three"] spMst := ok_mst DM
  have GOr : FnOk P w K mg base CX0 1 fOr fdOr ["self"] (spOrd C) := ok_ord FO R
  refine D.F.ok scTha (fun vs H Q E h => ?_) (fun cdv A outer sh H vs Q E hr h => ?_)
  · obtain ⟨a, t, ys, y, sp, rfl, _⟩ := h
    rfl
  · obtain ⟨a, t, ys, y, sp, rfl, ra, ht, G, qn, qt⟩ := h
    have hu := hr.units
    have hu1 : (A.deeper (envOfC (Str.ofString "three_against") (defScope sTha) sh.heap.objs.size f cdv)).units + 1 < cLine := by omega
    refine ⟨_, pss_cons (ps_expr (pe_call GK (hr.mono (by decide)) (by rfl) DK.g DK.F.kp DK.b .nil pass0 (pa_cons (pv 0) pa_nil)))
      (pss_cons (ps_set (i := 2) scTha.nd rfl (.inr rfl) (pe_dc (own := [("order", 5)]) (g := gName 5) (tt := tYes) rfl scTha.nd (pi_tup (pe_prop (pv 0) R.cls PO GOr (hr.mono (by decide)) bO .nil pass0 rfl)) (blkOk_by (own := [("order", 5)]) (N := ["roll", "spoken", "said", "numbers", "three", "order", "bits"]) (sc := defScope sTha) (by decide +kernel))
          (fun _ _ _ _ _ => pg_name (i := 5) scTha.nd rfl (Or.inl rfl)) (fun _ _ _ _ _ => pts_nil) (fun _ _ _ _ _ => pe_call GA (hr.mono (by decide)) (by rfl) DA.g DA.F.kp DA.b .nil pass0 (pa_cons (pv 5) pa_nil)) (fun _ _ _ _ _ => pv 5)))
      (pss_cons (ps_set (i := 3) scTha.nd rfl (.inl rfl) (pe_callTy (call_listD rfl) (by rfl) T.b_list (by decide +kernel) (pa_cons (pv 2) pa_nil)))
      (pss_cons (ps_for PassesOwn.never rfl (pi_combW (by rfl) hcb (by rfl) (pa_cons (pv 3) (pa_cons pe_int pa_nil))) (pg_name (i := 4) scTha.nd rfl (.inl rfl))
        (pss_one (ps_if (pt_cmpR (show OpR _ _ (rIn K true) from op_notIn_seq) (pe_call GM (hr.mono (by decide)) (by rfl) DM.g DM.F.kp DM.b .nil pass0 (pa_cons (pv 4) pa_nil)) (pe_ifExp (pt_val (pv 1)) (pv 4) (pv 3)) (by rfl))
          (pss_one (ps_ret (pe_callTy call_tupleF (by rfl) T.b_tuple (by decide +kernel) (pa_cons (pe_lc (own := [("bits", 6)]) (g := gName 6) (tt := tYes) rfl scTha.nd (pi_tup (pv 4)) (blkOk_by (own := [("bits", 6)]) (N := ["roll", "spoken", "said", "numbers", "three", "order", "bits"]) (sc := defScope sTha) (by decide +kernel))
            (fun _ _ _ _ _ => pg_name (i := 6) scTha.nd rfl (Or.inl rfl)) (fun _ _ _ _ _ => pts_nil) (fun _ _ _ _ _ => pe_dget hu1 (pv 2) (pv 6) (fun _ _ => rfl))) pa_nil)))) pss_nil)))
      (pss_one (ps_ret pe_non))))), ?_⟩
    obtain ⟨dx, fs, hx1, l1, l2⟩ := id ra
    have lim : ∀ {n : Nat}, n ≤ 1000 → n ≤ sizeLine := fun h => by rw [sizeLine_eq]; omega
    have few := G.few
    have let_ := G.let_
    have h3 := G.h3
    have h6 := G.h6
    have perm : ∀ {o}, o ∈ ys → o.cps.toList.Perm y.cps.toList := fun {o} ho => G.lot.of o ho
    have inj : ∀ {o z}, o ∈ ys → z ∈ ys → ansN z = ansN o → z = o := fun {o z} ho hz e => ans_inj let_ h3 h6 (perm hz) (perm ho) e
    refine ⟨_, rfl, a, t, _, rfl, ra, _, rfl, a, dx, fs.1, rfl, hx1, a, t, _, rfl, ra, t, rfl, ⟨_, ht⟩, fun D nD => dc_tup (K := K) (a := t) (xs := ys.map V.str) (fun k H' => Same H H' ∧ H' D = some (.dK ((ys.take k).map kvO))) ⟨same_new nD, upd_same⟩ (fun k H' _ hP => same_seqT ht hP.1) (fun k v H1 hv hP => ?_) (fun H1 hP => ?_)⟩
    · obtain ⟨s1, e1⟩ := hP
      rw [List.getElem?_map] at hv
      obtain ⟨o, ho, rfl⟩ := Option.map_eq_some_iff.mp hv
      have oin := List.mem_of_getElem? ho
      have po := perm oin
      have so := perm_size po
      have tk : ys.take (k + 1) = ys.take k ++ [o] := by rw [List.take_succ, ho, Option.toList_some]
      refine ⟨rfl, _, rfl, o, rfl, let_.perm po, by omega, by omega, fun H2 s2 => ⟨_, rfl, (ys.take k).map kvO, Sum.inl ((ansN o : Nat) : Int), rfl, s2 _ _ e1, by rw [List.length_map, List.length_take, sizeLine_eq]; omega, fun b u e => by rw [upd_ne (ne_of_none e nD)]; exact s2 _ _ (s1 _ _ e), ?_⟩⟩
      rw [upd_same, tk, List.map_append, putK_new _ (val_kvN fun z hz => ?_)]
      · rfl
      · intro e
        have zin := List.mem_of_mem_take hz
        have zo := inj oin zin e
        subst zo
        obtain ⟨n, hn, en⟩ := List.mem_iff_getElem.mp hz
        rw [List.length_take] at hn
        rw [List.getElem_take] at en
        obtain ⟨hk, ek⟩ := List.getElem?_eq_some_iff.mp ho
        have := List.pairwise_iff_getElem.mp G.lot.one n k (by omega) hk (by omega)
        exact this (by rw [en, ek])
    · obtain ⟨s1, e1⟩ := hP
      rw [List.length_map, List.take_length] at e1
      refine ⟨_, rfl, D, ys.map kvO, rfl, .inl e1, fun p np => ?_⟩
      rw [show (ys.map kvO).map (fun kv => kV kv.1) = numV ys by rw [List.map_map] <;> rfl]
      have nl : (numV ys).length = ys.length := List.length_map ..
      have s2 : Same H (upd H1 p (.lst (numV ys))) := s1.trans (same_new np)
      have e2 : (upd H1 p (.lst (numV ys))) D = some (.dK (ys.map kvO)) := same_new np _ _ e1
      have ep : (upd H1 p (.lst (numV ys))) p = some (.lst (numV ys)) := upd_same
      generalize upd H1 p (.lst (numV ys)) = H2 at s2 e2 ep ⊢
      refine ⟨_, rfl, .ref p, numV ys, 3, rfl, .inr ⟨p, rfl, .inl (SqL.of ep)⟩, by decide, by omega, for_it walk_combW (fun i σ H' => ∃ v4 v5 v6, σ = [some (.ref a), some (.bl sp), some (.ref D), some (.ref p), v4, v5, v6] ∧ Same H2 H' ∧ ∀ l ∈ (trips ys).take i, fitB ys y sp (trio ys l) = true)
        ⟨_, _, _, rfl, fun _ _ e => e, fun l hl => by rw [List.take_zero] at hl; cases hl⟩ (fun _ _ _ _ _ => trivial) (fun i x σ H3 H4 hi hP hY => ?_) (fun σ H3 hP => ?_)⟩
      · obtain ⟨v4, v5, v6, rfl, s3, fit⟩ := hP
        obtain ⟨T0, l, rfl, nT, hl, rfl⟩ := hY
        rw [cmbW_trips] at hl
        have lin := List.mem_of_getElem? hl
        have tk : (trips ys).take (i + 1) = (trips ys).take i ++ [l] := by rw [List.take_succ, hl, Option.toList_some]
        obtain ⟨i0, j0, k0, rfl, hij, hjk, hk⟩ := trips_in lin
        rw [pick_nums hij hjk hk]
        have S4 : Same H2 (upd H3 T0 (.tup (numV (trio ys [i0, j0, k0])))) := s3.trans (same_new nT)
        have eT : (upd H3 T0 (.tup (numV (trio ys [i0, j0, k0])))) T0 = some (.tup (numV (trio ys [i0, j0, k0]))) := upd_same
        generalize upd H3 T0 (.tup (numV (trio ys [i0, j0, k0]))) = H4 at S4 eT ⊢
        have ia := getD_in (show i0 < ys.length by omega)
        have ib := getD_in (show j0 < ys.length by omega)
        have ic := getD_in hk
        have mem : ∀ o ∈ trio ys [i0, j0, k0], o ∈ ys := fun o ho => by
          have : o ∈ [ys.getD i0 ⟨#[]⟩, ys.getD j0 ⟨#[]⟩, ys.getD k0 ⟨#[]⟩] := ho
          simp only [List.mem_cons, List.not_mem_nil, or_false] at this
          rcases this with rfl | rfl | rfl <;> assumption
        have td : ∀ {o}, o ∈ ys → tidy o = tidy y := fun {o} ho => tidy_same (perm ho)
        have eT2 : H4 T0 = some (.tup [.int ((binQ (aheadL (ys.getD i0 ⟨#[]⟩)) (prs (tidy y)) : Nat) : Int), .int ((binQ (aheadL (ys.getD j0 ⟨#[]⟩)) (prs (tidy y)) : Nat) : Int), .int ((binQ (aheadL (ys.getD k0 ⟨#[]⟩)) (prs (tidy y)) : Nat) : Int)]) := by
          rw [eT]
          show some (HO.tup [V.int ((binQ _ (prs (tidy (ys.getD i0 ⟨#[]⟩))) : Nat) : Int), V.int ((binQ _ (prs (tidy (ys.getD j0 ⟨#[]⟩))) : Nat) : Int), V.int ((binQ _ (prs (tidy (ys.getD k0 ⟨#[]⟩))) : Nat) : Int)]) = _
          rw [td ia, td ib, td ic]
        refine ⟨_, rfl, T0, _, _, _, _, rfl, eT2, ?_⟩
        have key : fitB ys y sp (trio ys [i0, j0, k0]) = true → ∀ l ∈ (trips ys).take (i + 1), fitB ys y sp (trio ys l) = true := fun hb l hl => by
          rw [tk] at hl
          rcases List.mem_append.mp hl with h | h
          · exact fit l h
          · rw [List.mem_singleton.mp h]
            exact hb
        refine ⟨_, rfl, sp, rfl, ite2 (fun e => ⟨_, rfl, T0, _, rfl, .inr (SqT.of eT), rfl, flat_nums _, ?ya⟩) (fun e => ⟨_, rfl, p, _, rfl, .inl (SqL.of (S4 _ _ ep)), rfl, flat_nums _, ?na⟩)⟩
        case' ya =>
          show ∃ k, V.bl (!(inV (.int ((binQ (majO (trio ys [i0, j0, k0])) (prs (tidy y)) : Nat) : Int)) (numV (trio ys [i0, j0, k0])))) = V.bl k ∧ _
          rw [in_nums, show (trio ys [i0, j0, k0]).any (sayB y (trio ys [i0, j0, k0])) = fitB ys y sp (trio ys [i0, j0, k0]) by unfold fitB; rw [if_pos e]]
        case' na =>
          show ∃ k, V.bl (!(inV (.int ((binQ (majO (trio ys [i0, j0, k0])) (prs (tidy y)) : Nat) : Int)) (numV ys))) = V.bl k ∧ _
          rw [in_nums, show ys.any (sayB y (trio ys [i0, j0, k0])) = fitB ys y sp (trio ys [i0, j0, k0]) by unfold fitB; rw [if_neg e]]
        all_goals
          refine ⟨_, rfl, ?_⟩
          cases hb : fitB ys y sp (trio ys [i0, j0, k0]) with
          | true => exact iteF ⟨_, _, _, rfl, S4, key hb⟩
          | false =>
            refine iteT ⟨_, rfl, T0, rfl, ⟨_, SqT.of eT⟩, fun D2 nD2 => lc_tup (K := K) (a := T0) (xs := numV (trio ys [i0, j0, k0])) (fun m H' => Same H4 H' ∧ H' D2 = some (.lst (((trio ys [i0, j0, k0]).take m).map V.str))) ⟨same_new nD2, upd_same⟩ (fun m H' _ hP => SqT.of (hP.1 _ _ eT)) (fun m v H5 hv hP => ?_) (fun H5 hP => ?_)⟩
            · obtain ⟨s5, e5⟩ := hP
              rw [List.getElem?_map] at hv
              obtain ⟨o, ho, rfl⟩ := Option.map_eq_some_iff.mp hv
              have oin := mem o (List.mem_of_getElem? ho)
              have tk2 : (trio ys [i0, j0, k0]).take (m + 1) = (trio ys [i0, j0, k0]).take m ++ [o] := by rw [List.take_succ, ho, Option.toList_some]
              refine ⟨rfl, _, rfl, _, rfl, D, .str o, rfl, .inl ⟨ys.map kvO, Sum.inl ((ansN o : Nat) : Int), .inl (s5 _ _ (S4 _ _ e2)), rfl, (val_kvO (fun z hz e => inj oin hz e) oin).symm⟩, _, e5, ?_, fun b u h => ?_, ?_⟩
              · rw [List.length_map, List.length_take, sizeLine_eq]
                have : (trio ys [i0, j0, k0]).length = 3 := rfl
                omega
              · rw [upd_ne (ne_of_none h nD2)]
                exact s5 _ _ h
              · rw [upd_same, tk2, List.map_append] <;> rfl
            · obtain ⟨s5, e5⟩ := hP
              rw [List.length_map, List.take_length] at e5
              have S := s2.trans (S4.trans s5)
              refine ⟨D2, _, rfl, SqL.of e5, fun q0 ob dn n0 => qt _ lin hb (bad_is fit hl hb) q0 _ (S.trans (same_new n0)) ?_ ⟨ob, dn, upd_same⟩⟩
              cases e : H q0 with
              | none => rfl
              | some o' => rw [S _ _ e] at n0; cases n0
      · obtain ⟨v4, v5, v6, rfl, s3, fit⟩ := hP
        rw [cmbW_trips, List.take_length] at fit
        exact qn fit _ (s2.trans s3)
end
end L2.Cal
end

section
set_option maxRecDepth 100000
set_option maxHeartbeats 4000000
set_option synthInstance.maxHeartbeats 400000
namespace L2.Cal
open PySem PySem.Spec PyProof.Rows L2 CpComb L2.TupF
/-- whether all three of a roll fit -/
def allB (ys : List Str) (y : Str) (sp : Bool) : Bool := (trips ys).all fun l => fitB ys y sp (trio ys l)
abbrev sUns : Stmt := topS 46
theorem scUns : FnScope ["roll"] ["roll"] (defScope sUns) := ⟨rfl, rfl, rfl, by decide +kernel, rfl, by decide +kernel, by decide +kernel⟩
abbrev sIsp : Stmt := topS 48
theorem scIsp : FnScope ["roll"] ["roll"] (defScope sIsp) := ⟨rfl, rfl, rfl, by decide +kernel, rfl, by decide +kernel, by decide +kernel⟩
def spOpn (K : PySem.W.Frag) (C : Addr) (sp : Bool) : Sp := fun vs H Q _ => ∃ (a t : Addr) (ys : List Str) (y : Str), vs = [.ref a] ∧ RollAt C H a t (tidy y) ∧ SqT K H t (ys.map V.str) ∧ Good ys y ∧
  (allB ys y sp = true → ∀ H', Same H H' → Q .non H') ∧
  ∀ l ∈ trips ys, fitB ys y sp (trio ys l) = false → badL ys y sp = some l → ∀ p H', Same H H' → H p = none → Frt H' p ((trio ys l).map V.str) → Q (.ref p) H'
def spClo (K : PySem.W.Frag) (C : Addr) (sp : Bool) : Sp := fun vs H Q _ => ∃ (a t : Addr) (ys : List Str) (y : Str), vs = [.ref a] ∧ RollAt C H a t (tidy y) ∧ SqT K H t (ys.map V.str) ∧ Good ys y ∧ ∀ H', Same H H' → Q (.bl (allB ys y sp)) H'
/-- what somebody of the three says is in the roll -/
theorem spoken_closed {ys : List Str} {y : Str} (h : allB ys y true = true) : allB ys y false = true := by
  unfold allB at h ⊢
  rw [List.all_eq_true] at h ⊢
  intro l hl
  have := h l hl
  unfold fitB at this ⊢
  rw [if_pos rfl, List.any_eq_true] at this
  rw [if_neg (by decide), List.any_eq_true]
  obtain ⟨o, ho, hs⟩ := this
  refine ⟨o, ?_, hs⟩
  obtain ⟨i, j, k, rfl, h1, h2, h3⟩ := trips_in hl
  have mem : ∀ n, n < ys.length → ys.getD n ⟨#[]⟩ ∈ ys := fun n hn => by rw [List.getD_eq_getElem?_getD, List.getElem?_eq_getElem hn]; exact List.getElem_mem hn
  have : o ∈ [ys.getD i ⟨#[]⟩, ys.getD j ⟨#[]⟩, ys.getD k ⟨#[]⟩] := ho
  simp only [List.mem_cons, List.not_mem_nil, or_false] at this
  rcases this with rfl | rfl | rfl
  · exact mem i (by omega)
  · exact mem j (by omega)
  · exact mem k h3
section
variable {P : Program} {w : World} {K : PySem.W.Frag} {mg : Str → Option Value} {base : Heap} {C : Addr}
theorem ok_opn {f fA : Addr} {fd fdA : FuncData} (D : DefAt K mg "open_three" sOpn ["roll"] f fd) (DA : DefAt K mg "three_against" sTha ["roll", "spoken"] fA fdA) (GA : FnOk P w K mg base CX0 3 fA fdA ["roll", "spoken"] (spTha K C)) : FnOk P w K mg base CX0 4 f fd ["roll"] (spOpn K C false) := by
  refine D.F.ok scOpn (fun vs H Q E h => ?_) (fun cdv A outer sh H vs Q E hr h => ?_)
  · obtain ⟨a, t, ys, y, rfl, _⟩ := h
    rfl
  · obtain ⟨a, t, ys, y, rfl, ra, ht, G, qn, qt⟩ := h
    exact ⟨_, pss_one (ps_ret (pe_call GA (hr.mono (by decide)) (by rfl) DA.g DA.F.kp DA.b .nil pass0 (pa_cons (pv 0) (pa_cons pe_bl pa_nil)))), _, rfl, a, t, ys, y, false, rfl, ra, ht, G, fun h => qn (List.all_eq_true.mpr h), qt⟩
theorem ok_clo {f fA : Addr} {fd fdA : FuncData} (D : DefAt K mg "is_closed" sClo ["roll"] f fd) (DA : DefAt K mg "open_three" sOpn ["roll"] fA fdA) (GA : FnOk P w K mg base CX0 4 fA fdA ["roll"] (spOpn K C false)) : FnOk P w K mg base CX0 5 f fd ["roll"] (spClo K C false) := by
  refine D.F.ok scClo (fun vs H Q E h => ?_) (fun cdv A outer sh H vs Q E hr h => ?_)
  · obtain ⟨a, t, ys, y, rfl, _⟩ := h
    rfl
  · obtain ⟨a, t, ys, y, rfl, ra, ht, G, q⟩ := h
    refine ⟨_, pss_one (ps_ret (pe_cmp (pc_isN (pe_call GA (hr.mono (by decide)) (by rfl) DA.g DA.F.kp DA.b .nil pass0 (pa_cons (pv 0) pa_nil))))), ?_⟩
    refine ⟨_, rfl, a, t, ys, y, rfl, ra, ht, G, fun hb H1 s1 => ?_, fun l lin hb _ p H1 s1 np ep => ?_⟩
    · have := q H1 s1
      rw [hb] at this
      exact this
    · have := q H1 s1
      rw [show allB ys y false = false from Bool.eq_false_iff.mpr fun h => by rw [List.all_eq_true.mp h l lin] at hb; cases hb] at this
      exact this
theorem ok_uns {f fA : Addr} {fd fdA : FuncData} (D : DefAt K mg "unspoken_three" sUns ["roll"] f fd) (DA : DefAt K mg "three_against" sTha ["roll", "spoken"] fA fdA) (GA : FnOk P w K mg base CX0 3 fA fdA ["roll", "spoken"] (spTha K C)) : FnOk P w K mg base CX0 4 f fd ["roll"] (spOpn K C true) := by
  refine D.F.ok scUns (fun vs H Q E h => ?_) (fun cdv A outer sh H vs Q E hr h => ?_)
  · obtain ⟨a, t, ys, y, rfl, _⟩ := h
    rfl
  · obtain ⟨a, t, ys, y, rfl, ra, ht, G, qn, qt⟩ := h
    exact ⟨_, pss_one (ps_ret (pe_call GA (hr.mono (by decide)) (by rfl) DA.g DA.F.kp DA.b .nil pass0 (pa_cons (pv 0) (pa_cons pe_bl pa_nil)))), _, rfl, a, t, ys, y, true, rfl, ra, ht, G, fun h => qn (List.all_eq_true.mpr h), qt⟩
theorem ok_isp {f fA : Addr} {fd fdA : FuncData} (D : DefAt K mg "is_spoken" sIsp ["roll"] f fd) (DA : DefAt K mg "unspoken_three" sUns ["roll"] fA fdA) (GA : FnOk P w K mg base CX0 4 fA fdA ["roll"] (spOpn K C true)) : FnOk P w K mg base CX0 5 f fd ["roll"] (spClo K C true) := by
  refine D.F.ok scIsp (fun vs H Q E h => ?_) (fun cdv A outer sh H vs Q E hr h => ?_)
  · obtain ⟨a, t, ys, y, rfl, _⟩ := h
    rfl
  · obtain ⟨a, t, ys, y, rfl, ra, ht, G, q⟩ := h
    refine ⟨_, pss_one (ps_ret (pe_cmp (pc_isN (pe_call GA (hr.mono (by decide)) (by rfl) DA.g DA.F.kp DA.b .nil pass0 (pa_cons (pv 0) pa_nil))))), ?_⟩
    refine ⟨_, rfl, a, t, ys, y, rfl, ra, ht, G, fun hb H1 s1 => ?_, fun l lin hb _ p H1 s1 np ep => ?_⟩
    · have := q H1 s1
      rw [hb] at this
      exact this
    · have := q H1 s1
      rw [show allB ys y true = false from Bool.eq_false_iff.mpr fun h => by rw [List.all_eq_true.mp h l lin] at hb; cases hb] at this
      exact this
end
end L2.Cal
end

section
set_option maxRecDepth 100000
set_option maxHeartbeats 4000000
/-! sum of a list or a tuple of integers -/
namespace L2.Cal
open PySem PySem.Spec PyProof.Rows L2
theorem ints_at : ∀ {ns : List Int} {us : List Value}, Vals (ns.map V.int) us → us.length = ns.length ∧ ∀ (i : Nat) v, us[i]? = some v → ∃ t, v = .int (ns.getD i 0) t
  | [], us, h => by
    cases h
    exact ⟨rfl, fun i v e => by simp at e⟩
  | n :: ns, us, h => by
    cases h with
    | @cons _ u _ us r rr =>
      obtain ⟨t, rfl⟩ := r
      obtain ⟨l, at_⟩ := ints_at rr
      refine ⟨by simp [l], fun i v e => ?_⟩
      cases i with
      | zero => exact ⟨t, by cases e; rfl⟩
      | succ i => exact at_ i v e
theorem preSum_take (ns : List Int) : ∀ n, n ≤ ns.length → preSum (fun i => ns.getD i 0) n = (ns.take n).sum := by
  intro n
  induction n with
  | zero => intro _; simp [preSum]
  | succ n ih =>
    intro h
    have hn : n < ns.length := by omega
    rw [List.take_succ, List.getElem?_eq_getElem hn, Option.toList_some, List.sum_append, ← ih (by omega)]
    simp [preSum, List.getElem?_eq_getElem hn]
section
variable {X : Cx}
def rSumI (K : PySem.W.Frag) : List V → Hp → VK → Prop := fun vs H Q => ∃ (a : Addr) (ns : List Int), vs = [.ref a] ∧ (SqL K H a (ns.map V.int) ∨ SqT K H a (ns.map V.int)) ∧ Q (.int ns.sum) H
theorem call_sumI (hc : X.calm = true) : CallR X (.builtin "sum") (rSumI X.K) := by
  intro pins s σ H vs us Q I r h
  obtain ⟨a, ns, rfl, hs, q⟩ := h
  cases r with
  | cons r rr =>
    cases rr
    cases r
    have hh : X.A.in1.handled = none := by simpa using I.ok.hd hc
    have fin : ∀ (its : List Value) (h' : Heap) (tk : Nat) (t' : Tok), Vals (ns.map V.int) its → (∀ b o, s.heap.get? b = some o → h'.get? b = some o) → EP X pins σ Q (.int (preSum (fun i => ns.getD i 0) its.length) t') { s with heap := h', toks := tk } := fun its h' tk t' rv k => by
      have l := (ints_at rv).1
      rw [l, preSum_take ns _ (Nat.le_refl _), List.take_length]
      exact ⟨.int ns.sum, H, I.kept k, ⟨t', rfl⟩, q⟩
    rcases hs with hs | hs
    · obtain ⟨its, rv, pl, _⟩ := I.list hs
      refine call_sum_walkG (wpAny_pyIter_list pl.isList ?_)
      have lt : a < s.heap.objs.size := by obtain ⟨o, n, e, _⟩ := pl; exact Heap.lt_size e
      refine ⟨s.heap.objs.size, [s.heap.objs.size, a], [s.heap.objs.size], its.toArray.size, _, _, fun i => ns.getD i 0, rfl, Walks.list hh _ a (Nat.ne_of_lt lt) its.toArray, ⟨⟨_, Heap.get?_push_size _ rfl, rfl, rfl⟩, pl.isList.push _⟩, fun b hb => ?_, fun i v e => ?_, fun h' tk t' k => ?_⟩
      · rw [Heap.size_push]
        rcases List.mem_cons.mp hb with rfl | hb
        · exact Nat.lt_succ_self _
        · cases List.mem_singleton.mp hb
          exact Nat.lt_succ_of_lt lt
      · exact (ints_at rv).2 i v (by simpa using e)
      · rw [List.size_toArray]
        refine fin its h' tk t' rv fun b o e => k b o (fun m => ?_) (Heap.get?_push_of_some _ e)
        exact Nat.ne_of_lt (Heap.lt_size e) (List.mem_singleton.mp m)
    · obtain ⟨its, rv, pl, _⟩ := I.tuple hs
      refine call_sum_walkG (wpAny_pyIter_tuple pl ?_)
      have lt : a < s.heap.objs.size := by obtain ⟨o, e, _⟩ := pl; exact Heap.lt_size e
      refine ⟨s.heap.objs.size, [s.heap.objs.size, a], [s.heap.objs.size], its.toArray.size, _, _, fun i => ns.getD i 0, rfl, Walks.tuple hh _ a (Nat.ne_of_lt lt) its.toArray, ⟨⟨_, Heap.get?_push_size _ rfl, rfl, rfl⟩, Heap.IsTuple.push pl _⟩, fun b hb => ?_, fun i v e => ?_, fun h' tk t' k => ?_⟩
      · rw [Heap.size_push]
        rcases List.mem_cons.mp hb with rfl | hb
        · exact Nat.lt_succ_self _
        · cases List.mem_singleton.mp hb
          exact Nat.lt_succ_of_lt lt
      · exact (ints_at rv).2 i v (by simpa using e)
      · rw [List.size_toArray]
        refine fin its h' tk t' rv fun b o e => k b o (fun m => ?_) (Heap.get?_push_of_some _ e)
        exact Nat.ne_of_lt (Heap.lt_size e) (List.mem_singleton.mp m)
end
end L2.Cal
end

section
set_option maxRecDepth 100000
set_option maxHeartbeats 4000000
set_option synthInstance.maxHeartbeats 400000
namespace L2.Cal
open PySem PySem.Spec PyProof.Rows L2
abbrev sNum : Stmt := topS 28
theorem scNum : FnScope ["value"] ["value"] (defScope sNum) := ⟨rfl, rfl, rfl, by decide +kernel, rfl, by decide +kernel, by decide +kernel⟩
abbrev sRnu : Stmt := topS 29
theorem scRnu : FnScope ["numbers", "many", "index", "number"] ["numbers", "many"] (defScope sRnu) := ⟨rfl, rfl, rfl, by decide +kernel, rfl, by decide +kernel, by decide +kernel⟩
def crS (j : Nat) : Stmt := (clsBody (topS 31)).getD j (.Pass ⟨0, 0, 0, 0⟩)
abbrev sCIn : Stmt := crS 0
theorem scCIn : FnScope ["self", "roll", "numbers", "right"] ["self", "roll", "numbers"] (defScope sCIn) := ⟨rfl, rfl, rfl, by decide +kernel, rfl, by decide +kernel, by decide +kernel⟩
abbrev sCRo : Stmt := crS 1
theorem scCRo : FnScope ["self"] ["self"] (defScope sCRo) := ⟨rfl, rfl, rfl, by decide +kernel, rfl, by decide +kernel, by decide +kernel⟩
abbrev sCNu : Stmt := crS 2
theorem scCNu : FnScope ["self"] ["self"] (defScope sCNu) := ⟨rfl, rfl, rfl, by decide +kernel, rfl, by decide +kernel, by decide +kernel⟩
abbrev sCPe : Stmt := crS 3
theorem scCPe : FnScope ["self"] ["self"] (defScope sCPe) := ⟨rfl, rfl, rfl, by decide +kernel, rfl, by decide +kernel, by decide +kernel⟩
abbrev sCEq : Stmt := crS 4
theorem scCEq : FnScope ["self", "other"] ["self", "other"] (defScope sCEq) := ⟨rfl, rfl, rfl, by decide +kernel, rfl, by decide +kernel, by decide +kernel⟩
/-- what the class of crowds is asked for -/
structure CrC (K : PySem.W.Frag) (mg : Str → Option Value) (Cr : Addr) : Prop where
  g : mg "Crowd" = some (.ref Cr)
  cls : Cls K Cr
  no1 : NoAttr K Cr "_roll"
  no2 : NoAttr K Cr "_numbers"
  no3 : NoAttr K Cr "_people"
  dcl : PySem.W.findIn K (.ref Cr) "__class__" = some (some (.builtin "object.__class__"))
  dget : PySem.W.specialIn K (.builtin "object.__class__") "__get__" = some (some (.builtin "getset_descriptor.__get__"))
  dtk : PySem.W.takesIn K (.builtin "object.__class__") = some true
  mobj : PySem.W.mroIn K Cr (.type "object") = some true
def CrAt (Cr : Addr) (H : Hp) (c r n : Addr) (p : Int) : Prop := ∃ dx fs, H c = some (.ins Cr dx fs) ∧ fs.lookup ("_roll" : Str) = some (.ref r) ∧ fs.lookup ("_numbers" : Str) = some (.ref n) ∧ fs.lookup ("_people" : Str) = some (.int p)
/-- a crowd has no other fields -/
def NoF (Cr : Addr) (H : Hp) (c : Addr) : Prop := ∃ dx fs, H c = some (.ins Cr dx fs) ∧ ∀ m : Str, m ≠ "_roll" → m ≠ "_numbers" → m ≠ "_people" → fs.lookup m = none
theorem CrAt.same {Cr : Addr} {H H' : Hp} {c r n : Addr} {p : Int} (h : CrAt Cr H c r n p) (s : Same H H') : CrAt Cr H' c r n p := by
  obtain ⟨dx, fs, h, r⟩ := h
  exact ⟨dx, fs, s _ _ h, r⟩
def spNum : Sp := fun vs H Q _ => ∃ i : Int, vs = [.int i] ∧ Q (.bl true) H
def spRnu (K : PySem.W.Frag) : Sp := fun vs H Q _ => ∃ (n : Addr) (ns : List Int) (m : Int), vs = [.ref n, .int m] ∧ SqT K H n (ns.map V.int) ∧ (ns.length : Int) = m ∧ (∀ i, i ∈ ns → 0 ≤ i) ∧ ns.length ≤ 60 ∧ ∀ H', Same H H' → Q (.int ns.length) H'
def spCIn (K : PySem.W.Frag) (C Cr : Addr) : Sp := fun vs H Q _ => ∃ (a r n t dx : Addr) (z : Str) (ys : List Str) (ns : List Int), vs = [.ref a, .ref r, .ref n] ∧ H a = some (.ins Cr dx []) ∧ RollAt C H r t z ∧ r ≠ a ∧ SqT K H t (ys.map V.str) ∧ SqT K H n (ns.map V.int) ∧ TyX K H (.ref n) (.type "tuple") ∧
  ns.length = ys.length ∧ ys.length ≤ 60 ∧ (∀ i, i ∈ ns → 0 ≤ i) ∧ ns.sum ≠ 0 ∧ ∀ H' : Hp, (∀ b o, b ≠ a → H b = some o → H' b = some o) → CrAt Cr H' a r n ns.sum → NoF Cr H' a → Q .non H'
def spCRo (Cr : Addr) : Sp := fun vs H Q _ => ∃ (c r n : Addr) (p : Int), vs = [.ref c] ∧ CrAt Cr H c r n p ∧ Q (.ref r) H
def spCNu (Cr : Addr) : Sp := fun vs H Q _ => ∃ (c r n : Addr) (p : Int), vs = [.ref c] ∧ CrAt Cr H c r n p ∧ Q (.ref n) H
def spCPe (Cr : Addr) : Sp := fun vs H Q _ => ∃ (c r n : Addr) (p : Int), vs = [.ref c] ∧ CrAt Cr H c r n p ∧ Q (.int p) H
section
variable {P : Program} {w : World} {K : PySem.W.Frag} {mg : Str → Option Value} {base : Heap} {C Cr : Addr}
theorem ok_num {f : Addr} {fd : FuncData} (D : DefAt K mg "is_number" sNum ["value"] f fd) (T : Txt mg) : FnOk P w K mg base CX0 1 f fd ["value"] spNum := by
  refine D.F.ok scNum (fun vs H Q E h => ?_) (fun cdv A outer sh H vs Q E hr h => ?_)
  · obtain ⟨i, rfl, _⟩ := h
    rfl
  · obtain ⟨i, rfl, q⟩ := h
    refine ⟨_, pss_one (ps_ret (pe_and (pe_callB call_isi (by rfl) T.b_isinstance (by decide +kernel) (pa_cons (pv 0) (pa_cons (pe_bty (n := "int") (by rfl) T.b_int (by decide +kernel)) pa_nil))) (pe_one (pe_not (pe_callB call_isi (by rfl) T.b_isinstance (by decide +kernel) (pa_cons (pv 0) (pa_cons (pe_bty (n := "bool") (by rfl) T.b_bool (by decide +kernel)) pa_nil))))))), ?_⟩
    exact ⟨_, rfl, .int i, .ty "int", .type "int", .type "int", true, rfl, .ty _, .base (.int i), rfl, true, rfl, iteT ⟨_, rfl, .int i, .ty "bool", .type "int", .type "bool", false, rfl, .ty _, .base (.int i), rfl, false, rfl, q⟩⟩
theorem ok_rnu {f fN : Addr} {fd fdN : FuncData} (D : DefAt K mg "right_numbers" sRnu ["numbers", "many"] f fd) (DN : DefAt K mg "is_number" sNum ["value"] fN fdN) (T : Txt mg) : FnOk P w K mg base CX0 2 f fd ["numbers", "many"] (spRnu K) := by
  have GN : FnOk P w K mg base CX0 1 fN fdN ["value"] spNum := ok_num DN T
  refine D.F.ok scRnu (fun vs H Q E h => ?_) (fun cdv A outer sh H vs Q E hr h => ?_)
  · obtain ⟨n, ns, m, rfl, _⟩ := h
    rfl
  · obtain ⟨n, ns, m, rfl, hT, hm, pos, few, q⟩ := h
    refine ⟨_, (pss_cons (ps_for PassesOwn.never rfl (pi_enumT (by rfl) T.b_enumerate (pa_cons (pv 0) pa_nil)) (pg_tup rfl (pgs_cons (pg_name (i := 2) scRnu.nd rfl (.inl rfl)) (pgs_cons (pg_name (i := 3) scRnu.nd rfl (.inl rfl)) pgs_nil)))
        (pss_one (ps_if (PW.pt (pw_or (pt_cmpR op_eq (pv 2) (pv 1) (nomark _)) (pw_or (pt_not (pt_val (pe_call GN (hr.mono (by decide)) (by rfl) DN.g DN.F.kp DN.b .nil pass0 (pa_cons (pv 3) pa_nil)))) (pw_or1 (pt_cmpR op_lt (pv 3) pe_int (nomark _)))))) (pss_one (ps_ret (pv 2))) pss_nil)))
      (pss_one (ps_ret (pe_callB call_len_seq (by rfl) T.b_len (by decide +kernel) (pa_cons (pv 0) pa_nil))))), ?_⟩
    refine ⟨_, rfl, n, _, rfl, hT, for_it (walk_enumT (xs := ns.map V.int)) (fun i σ H' => ∃ v2 v3, σ = [some (.ref n), some (.int m), v2, v3] ∧ Same H H') ⟨none, none, rfl, fun _ _ z => z⟩ (fun i σ H' _ hP => ?_) (fun i x σ H1 H2 hi hP hY => ?_) (fun σ H' hP => ?_)⟩
    · obtain ⟨_, _, _, sm⟩ := hP
      exact same_seqT hT sm
    · obtain ⟨v1, v2, rfl, sm⟩ := hP
      obtain ⟨T', a, b, rfl, nT, rfl, e1, e2⟩ := hY
      cases e1
      rw [List.length_map] at hi
      have e2 : (ns.map V.int)[i]? = some b := e2
      rw [List.getElem?_map, List.getElem?_eq_getElem hi] at e2
      cases e2
      have sm1 : Same H (upd H1 T' (.tup [.int (i : Nat), .int ns[i]])) := fun b o e => by
        rw [upd_ne (ne_of_none (sm _ _ e) nT)]
        exact sm _ _ e
      have p0 := pos ns[i] (List.getElem_mem hi)
      refine ⟨T', _, rfl, SqT.of upd_same, rfl, _, _, rfl, _, _, rfl, rfl, ?_⟩
      refine ⟨_, rfl, _, rfl, rfl, _, rfl, ite2 (fun e => absurd (V.int.inj (of_decide_eq_true e)) (by omega)) (fun e => ⟨_, rfl, ns[i], rfl, true, rfl, iteF ⟨_, rfl, _, _, rfl, rfl, _, rfl, ite2 (fun e3 => absurd (of_decide_eq_true e3) (by omega)) (fun _ => ⟨_, _, rfl, sm1⟩)⟩⟩)⟩
    · obtain ⟨v1, v2, rfl, sm⟩ := hP
      exact ⟨_, rfl, n, _, rfl, .inr (same_seqT hT sm), by rw [List.length_map]; exact q _ sm⟩
end
end L2.Cal
end

section
set_option maxRecDepth 100000
set_option maxHeartbeats 4000000
set_option synthInstance.maxHeartbeats 400000
namespace L2.Cal
open PySem PySem.Spec PyProof.Rows L2
theorem dp_ints {K : PySem.W.Frag} {H0 : Hp} : ∀ ns : List Int, DpAll K H0 (ns.map V.int) (ns.map PyData.int)
  | [] => .nil
  | n :: ns => .cons (.int n) (dp_ints ns)
theorem shaped_ints (ns : List Int) : SeqAt.shaped (.tuple (ns.map PyData.int)) = true := by
  have lay : ∀ ns : List Int, PyData.canLayAll0 (ns.map PyData.int) = true := fun ns => by
    induction ns with
    | nil => simp [PyData.canLayAll0]
    | cons n ns ih => simp [PyData.canLayAll0, PyData.canLay0, ih]
  have deep : ∀ ns : List Int, PyData.depthAll (ns.map PyData.int) = 0 := fun ns => by
    induction ns with
    | nil => simp [PyData.depthAll]
    | cons n ns ih => simp [PyData.depthAll, PyData.depth, ih]
  simp [SeqAt.shaped, PyData.canLay0, lay ns, PyData.depth, deep]
theorem eqv_ints (ns ms : List Int) : PyData.eqv (.tuple (ns.map PyData.int)) (.tuple (ms.map PyData.int)) = decide (ns = ms) := by
  have all : ∀ ns ms : List Int, PyData.eqvAll (ns.map PyData.int) (ms.map PyData.int) = decide (ns = ms) := fun ns => by
    induction ns with
    | nil => intro ms; cases ms <;> simp [PyData.eqvAll]
    | cons n ns ih =>
      intro ms
      cases ms with
      | nil => simp [PyData.eqvAll]
      | cons m ms =>
        simp only [List.map_cons, PyData.eqvAll, ih]
        simp [PyData.eqv, show (n == m) = decide (n = m) by rw [Bool.eq_iff_iff]; simp]
  simp [PyData.eqv, all]
def spCEq (K : PySem.W.Frag) (C Cr : Addr) : Sp := fun vs H Q _ => ∃ (c r n : Addr) (p : Int) (x : V), vs = [.ref c, x] ∧ CrAt Cr H c r n p ∧
  ((∃ (c2 r2 n2 t t2 : Addr) (p2 : Int) (z z2 : Str) (ys zs : List Str) (ns ms : List Int), x = .ref c2 ∧ CrAt Cr H c2 r2 n2 p2 ∧ RollAt C H r t z ∧ RollAt C H r2 t2 z2 ∧ SqT K H t (ys.map V.str) ∧ SqT K H t2 (zs.map V.str) ∧ (∀ y, y ∈ ys → PyData.strOk y = true) ∧ (∀ y, y ∈ zs → PyData.strOk y = true) ∧
    SqT K H n (ns.map V.int) ∧ SqT K H n2 (ms.map V.int) ∧ Q (.bl (decide (ys = zs) && decide (ns = ms))) H) ∨ (∃ T : Value, TyX K H x T ∧ PySem.W.kitOne K T (.ref Cr) = some false ∧ Q (.bl false) H))
theorem roll_ty {K : PySem.W.Frag} {mg : Str → Option Value} {C : Addr} {H : Hp} {a t : Addr} {z : Str} (R : RollC K mg C) (h : RollAt C H a t z) : TyX K H (.ref a) (.ref C) := by
  obtain ⟨dx, fs, ha, _⟩ := h
  exact .base (.ins ha R.cls R.dcl R.dget R.dtk R.mobj)
theorem crowd_ty {K : PySem.W.Frag} {mg : Str → Option Value} {Cr : Addr} {H : Hp} {c r n : Addr} {p : Int} (R : CrC K mg Cr) (h : CrAt Cr H c r n p) : TyX K H (.ref c) (.ref Cr) := by
  obtain ⟨dx, fs, ha, _⟩ := h
  exact .base (.ins ha R.cls R.dcl R.dget R.dtk R.mobj)
theorem kit_self {K : PySem.W.Frag} {C : Addr} : PySem.W.kitOne K (.ref C) (.ref C) = some true := by unfold PySem.W.kitOne; rw [if_pos (by simp)]
section
variable {P : Program} {w : World} {K : PySem.W.Frag} {mg : Str → Option Value} {base : Heap} {C Cr : Addr}
theorem ok_cro {f : Addr} {fd : FuncData} (F : Fun K "roll" "Crowd.roll" sCRo f fd) (R : CrC K mg Cr) : FnOk P w K mg base CX0 1 f fd ["self"] (spCRo Cr) := by
  refine F.ok scCRo (fun vs H Q E h => ?_) (fun cdv A outer sh H vs Q E hr h => ?_)
  · obtain ⟨c, r, n, p, rfl, _⟩ := h
    rfl
  · obtain ⟨c, r, n, p, rfl, ⟨dx, fs, ha, l1, l2, l3⟩, q⟩ := h
    exact ⟨_, (pss_one (ps_ret (pe_fld (pv 0) rfl))), _, rfl, c, Cr, dx, fs, _, rfl, ha, R.cls, R.no1, l1, q⟩
theorem ok_cnu {f : Addr} {fd : FuncData} (F : Fun K "numbers" "Crowd.numbers" sCNu f fd) (R : CrC K mg Cr) : FnOk P w K mg base CX0 1 f fd ["self"] (spCNu Cr) := by
  refine F.ok scCNu (fun vs H Q E h => ?_) (fun cdv A outer sh H vs Q E hr h => ?_)
  · obtain ⟨c, r, n, p, rfl, _⟩ := h
    rfl
  · obtain ⟨c, r, n, p, rfl, ⟨dx, fs, ha, l1, l2, l3⟩, q⟩ := h
    exact ⟨_, (pss_one (ps_ret (pe_fld (pv 0) rfl))), _, rfl, c, Cr, dx, fs, _, rfl, ha, R.cls, R.no2, l2, q⟩
theorem ok_cpe {f : Addr} {fd : FuncData} (F : Fun K "people" "Crowd.people" sCPe f fd) (R : CrC K mg Cr) : FnOk P w K mg base CX0 1 f fd ["self"] (spCPe Cr) := by
  refine F.ok scCPe (fun vs H Q E h => ?_) (fun cdv A outer sh H vs Q E hr h => ?_)
  · obtain ⟨c, r, n, p, rfl, _⟩ := h
    rfl
  · obtain ⟨c, r, n, p, rfl, ⟨dx, fs, ha, l1, l2, l3⟩, q⟩ := h
    exact ⟨_, (pss_one (ps_ret (pe_fld (pv 0) rfl))), _, rfl, c, Cr, dx, fs, _, rfl, ha, R.cls, R.no3, l3, q⟩
theorem ok_ceq {f fE : Addr} {fd fdE : FuncData} (F : Fun K "__eq__" "Crowd.__eq__" sCEq f fd) (FE : Fun K "__eq__" "Roll.__eq__" sEqu fE fdE) (bE : Binds K fdE ["self", "other"] []) (OE : Own K C "__eq__" fE) (nf : PySem.W.notFirst K C (.ref C) = true) (T : Txt mg) (R : RollC K mg C) (RC : CrC K mg Cr) :
    FnOk P w K mg base CX0 2 f fd ["self", "other"] (spCEq K C Cr) := by
  have GE : FnOk P w K mg base CX0 1 fE fdE ["self", "other"] (spEqu K C) := ok_equ FE T R
  refine F.ok scCEq (fun vs H Q E h => ?_) (fun cdv A outer sh H vs Q E hr h => ?_)
  · obtain ⟨c, r, n, p, x, rfl, _⟩ := h
    rfl
  · obtain ⟨c, r, n, p, x, rfl, hc, h⟩ := h
    have hu := hr.units
    refine ⟨_, (pss_one (ps_ret (pe_and (pe_callB call_isi (by rfl) T.b_isinstance (by decide +kernel) (pa_cons (pv 1) (pa_cons (pe_cls (by rfl) RC.g) pa_nil))) (pe_and (pe_cmpR (op_eqO OE GE (hr.mono (by decide)) bE pass0) (pe_fld (pv 0) rfl) (pe_fld (pv 1) rfl) (nomark _)) (pe_one (pe_cmpR (op_eqD hu) (pe_fld (pv 0) rfl) (pe_fld (pv 1) rfl) (nomark _))))))), ?_⟩
    rcases h with ⟨c2, r2, n2, t, t2, p2, z, z2, ys, zs, ns, ms, rfl, hc2, hR, hR2, hT, hT2, o1, o2, hN, hN2, q⟩ | ⟨Ty, ty, kit, q⟩
    · have ty := crowd_ty RC hc2
      have tr := roll_ty R hR2
      obtain ⟨dx, fs, ha, l1, l2, l3⟩ := hc
      obtain ⟨dx2, fs2, hb, m1, m2, m3⟩ := hc2
      refine ⟨_, rfl, .ref c2, .ref Cr, .ref Cr, .ref Cr, true, rfl, .own Cr, ty, kit_self, true, rfl, iteT ?_⟩
      have hR' := hR
      obtain ⟨dr, fr, hr1, _⟩ := hR'
      refine ⟨_, rfl, c, Cr, dx, fs, _, rfl, ha, RC.cls, RC.no1, l1, _, rfl, c2, Cr, dx2, fs2, _, rfl, hb, RC.cls, RC.no1, m1, r, dr, fr, .ref C, rfl, hr1, tr, nf, ?_⟩
      refine ⟨r, t, z, .ref r2, rfl, hR, .inl ⟨r2, t2, z2, ys, zs, rfl, hR2, hT, hT2, o1, o2, decide (ys = zs), rfl, decide (ys = zs), rfl, ?_⟩⟩
      cases e : decide (ys = zs) with
      | false =>
        rw [e, Bool.false_and] at q
        exact iteF q
      | true =>
        rw [e, Bool.true_and] at q
        refine iteT ⟨_, rfl, c, Cr, dx, fs, _, rfl, ha, RC.cls, RC.no2, l2, _, rfl, c2, Cr, dx2, fs2, _, rfl, hb, RC.cls, RC.no2, m2, _, _, .tup hN (dp_ints ns), .tup hN2 (dp_ints ms), shaped_ints _, shaped_ints _, ?_⟩
        rw [eqv_ints]
        exact q
    · exact ⟨_, rfl, x, .ref Cr, Ty, .ref Cr, false, rfl, .own Cr, ty, kit, false, rfl, iteF q⟩
theorem ok_cin {f fK fN fM fL : Addr} {fd fdK fdN fdM fdL : FuncData} (F : Fun K "__init__" "Crowd.__init__" sCIn f fd) (DK : DefAt K mg "check_roll" sCkr ["roll"] fK fdK) (DM : DefAt K mg "right_numbers" sRnu ["numbers", "many"] fM fdM) (DN : DefAt K mg "is_number" sNum ["value"] fN fdN)
    (FL : Fun K "__len__" "Roll.__len__" sLen fL fdL) (bL : Binds K fdL ["self"] []) (OL : Own K C "__len__" fL) (bsum : mg "sum" = none) (T : Txt mg) (R : RollC K mg C) (RC : CrC K mg Cr) :
    FnOk P w K mg base CX0 3 f fd ["self", "roll", "numbers"] (spCIn K C Cr) := by
  have GK : FnOk P w K mg base CX0 1 fK fdK ["roll"] (spCkr C) := ok_ckr DK T R
  have GM : FnOk P w K mg base CX0 2 fM fdM ["numbers", "many"] (spRnu K) := ok_rnu DM DN T
  have GL : FnOk P w K mg base CX0 1 fL fdL ["self"] (spLen K C) := ok_len FL T R
  refine F.ok scCIn (fun vs H Q E h => ?_) (fun cdv A outer sh H vs Q E hr h => ?_)
  · obtain ⟨a, r, n, t, dx, z, ys, ns, rfl, _⟩ := h
    rfl
  · obtain ⟨a, r, n, t, dx, z, ys, ns, rfl, ha, hR, ne, hT, hN, ty, lens, few, pos, s0, q⟩ := h
    refine ⟨_, pss_cons (ps_expr (pe_call GK (hr.mono (by decide)) (by rfl) DK.g DK.F.kp DK.b .nil pass0 (pa_cons (pv 1) pa_nil)))
      (pss_cons (ps_if (pt_not (pt_val (pe_callB call_isi (by rfl) T.b_isinstance (by decide +kernel) (pa_cons (pv 2) (pa_cons (pe_bty (n := "tuple") (by rfl) T.b_tuple (by decide +kernel)) pa_nil))))) (pss_one ps_never) pss_nil)
      (pss_cons (ps_set (i := 3) scCIn.nd rfl (.inl rfl) (pe_call GM (hr.mono (by decide)) (by rfl) DM.g DM.F.kp DM.b .nil pass0 (pa_cons (pv 2) (pa_cons (pe_callB (call_lenO OL GL (hr.mono (by decide)) bL pass0) (by rfl) T.b_len (by decide +kernel) (pa_cons (pv 1) pa_nil)) pa_nil))))
      (pss_cons (ps_if (PW.pt (pw_or (pt_cmpR op_lt (pv 3) (pe_callB call_len_seq (by rfl) T.b_len (by decide +kernel) (pa_cons (pv 2) pa_nil)) (nomark _)) (pw_or1 (pt_cmpR op_lt (pv 3) (pe_callB (call_lenO OL GL (hr.mono (by decide)) bL pass0) (by rfl) T.b_len (by decide +kernel) (pa_cons (pv 1) pa_nil)) (nomark _))))) (pss_one ps_never) pss_nil)
      (pss_cons (ps_if (pt_cmpR op_eq (pe_callB (call_sumI rfl) (by rfl) bsum (by decide +kernel) (pa_cons (pv 2) pa_nil)) pe_int (nomark _)) (pss_one ps_never) pss_nil)
      (pss_cons (ps_fld (pv 0) (pv 1) rfl)
      (pss_cons (ps_fld (pv 0) (pv 2) rfl)
      (pss_one (ps_fld (pv 0) (pe_callB (call_sumI rfl) (by rfl) bsum (by decide +kernel) (pa_cons (pv 2) pa_nil)) rfl)))))))), ?_⟩
    have hR' := hR
    obtain ⟨dr, fr, hr1, _⟩ := hR'
    have small : ys.length < 2 ^ 62 := by omega
    refine ⟨_, rfl, r, t, z, rfl, hR, ?_⟩
    refine ⟨_, rfl, .ref n, .ty "tuple", .type "tuple", .type "tuple", true, rfl, .ty _, ty, rfl, true, rfl, iteF ?_⟩
    refine ⟨_, rfl, _, rfl, r, dr, fr, rfl, hr1, r, t, z, ys.map V.str, rfl, hR, hT, ys.length, by rw [List.length_map], small, ?_⟩
    refine ⟨n, ns, _, rfl, hN, by rw [lens], pos, by omega, fun H1 s1 => ?_⟩
    have hN1 := same_seqT hN s1
    have hR1 := hR.same s1
    refine ⟨_, rfl, _, rfl, n, _, rfl, .inr hN1, _, _, rfl, rfl, _, rfl, ite2 (fun e => ?_) (fun e => ?_)⟩
    · have := of_decide_eq_true e
      rw [List.length_map] at this
      omega
    refine ⟨_, rfl, _, rfl, r, dr, fr, rfl, s1 _ _ hr1, r, t, z, ys.map V.str, rfl, hR1, same_seqT hT s1, ys.length, by rw [List.length_map], small, _, _, rfl, rfl, _, rfl, ite2 (fun e => ?_) (fun e => ?_)⟩
    · have := of_decide_eq_true e
      omega
    refine ⟨_, rfl, n, ns, rfl, .inr hN1, rfl, _, rfl, ite2 (fun e => ?_) (fun e => ?_)⟩
    · exact absurd (V.int.inj (of_decide_eq_true e)) s0
    refine ⟨_, rfl, _, rfl, a, Cr, dx, [], rfl, s1 _ _ ha, RC.cls, RC.no1, by decide, ?_⟩
    refine ⟨_, rfl, _, rfl, a, Cr, dx, _, rfl, upd_same, RC.cls, RC.no2, Nat.lt_of_le_of_lt (length_putF _ _ _) (by decide), ?_⟩
    rw [upd_upd]
    have off : ∀ fs : List (Str × V), ∀ b o, b ≠ a → H1 b = some o → (upd H1 a (.ins Cr dx fs)) b = some o := fun fs b o n e => by rw [upd_ne n]; exact e
    have hN2 := seqT_off hN1 (s1 _ _ ha) (off (putF "_numbers" (.ref n) (putF "_roll" (.ref r) [])))
    refine ⟨_, rfl, n, ns, rfl, .inr hN2, _, rfl, a, Cr, dx, _, rfl, upd_same, RC.cls, RC.no3, ?_, ?_⟩
    · have h1 := length_putF "_numbers" (.ref n) (putF "_roll" (.ref r) ([] : List (Str × V)))
      have h2 := length_putF "_roll" (.ref r) ([] : List (Str × V))
      have h3 : 100 < sizeLine := by rw [sizeLine_eq]; omega
      simp only [List.length_nil] at h2
      omega
    rw [upd_upd]
    refine q _ (fun b o nb e => off _ b o nb (s1 _ _ e)) ⟨dx, _, upd_same, ?_, ?_, ?_⟩ ⟨dx, _, upd_same, fun m h1 h2 h3 => ?_⟩
    · rw [lookup_putF, if_neg (by decide), lookup_putF, if_neg (by decide), lookup_putF, if_pos rfl]
    · rw [lookup_putF, if_neg (by decide), lookup_putF, if_pos rfl]
    · rw [lookup_putF, if_pos rfl]
    · rw [lookup_putF, if_neg (by first | exact h3 | exact fun e => h3 e.symm), lookup_putF, if_neg (by first | exact h2 | exact fun e => h2 e.symm), lookup_putF, if_neg (by first | exact h1 | exact fun e => h1 e.symm)] <;> rfl
end
end L2.Cal
end

section
set_option maxRecDepth 100000
set_option maxHeartbeats 4000000
/-! repr of any data; promises of defs that are called where nothing is being shown (repr asks that) -/
namespace L2.Cal
open PySem PySem.Spec PyProof.Rows L2
mutual
theorem dp_nodict {K : PySem.W.Frag} {H : Hp} : ∀ (d : PyData) (v : V), Dp K H v d → d.hasDict = false
  | .none, _, _ => by simp only [PyData.hasDict]
  | .bool _, _, _ => by simp only [PyData.hasDict]
  | .int _, _, _ => by simp only [PyData.hasDict]
  | .str _, _, _ => by simp only [PyData.hasDict]
  | .list ds, _, h => by
    cases h with
    | lst _ h => simp only [PyData.hasDict]; exact dp_nodictAll ds _ h
  | .tuple ds, _, h => by
    cases h with
    | tup _ h => simp only [PyData.hasDict]; exact dp_nodictAll ds _ h
  | .dict _, _, h => by cases h
theorem dp_nodictAll {K : PySem.W.Frag} {H : Hp} : ∀ (ds : List PyData) (vs : List V), DpAll K H vs ds → PyData.hasDictAll ds = false
  | [], _, _ => by simp only [PyData.hasDictAll]
  | d :: ds, _, h => by
    cases h with
    | cons h1 h2 => simp only [PyData.hasDictAll, dp_nodict d _ h1, dp_nodictAll ds _ h2, Bool.or_false]
end
mutual
theorem dp_same {K : PySem.W.Frag} {H H' : Hp} (e : Same H H') : ∀ (d : PyData) (v : V), Dp K H v d → Dp K H' v d
  | .none, _, h => by cases h; exact .non
  | .bool _, _, h => by cases h; exact .bl _
  | .int _, _, h => by cases h; exact .int _
  | .str _, _, h => by cases h; exact .str _
  | .list ds, _, h => by
    cases h with
    | lst q h => exact .lst (e.seq q) (dp_sameAll e ds _ h)
  | .tuple ds, _, h => by
    cases h with
    | tup q h =>
      refine .tup ?_ (dp_sameAll e ds _ h)
      rcases q with (q | ⟨o, q⟩) | q
      · exact .inl (.inl (e _ _ q))
      · exact .inl (.inr ⟨o, e _ _ q⟩)
      · exact .inr q
  | .dict _, _, h => by cases h
theorem dp_sameAll {K : PySem.W.Frag} {H H' : Hp} (e : Same H H') : ∀ (ds : List PyData) (vs : List V), DpAll K H vs ds → DpAll K H' vs ds
  | [], _, h => by cases h; exact .nil
  | d :: ds, _, h => by
    cases h with
    | cons h1 h2 => exact .cons (dp_same e d _ h1) (dp_sameAll e ds _ h2)
end
/-- data, perhaps a dict of at most one text and a number -/
inductive DD (K : PySem.W.Frag) (H : Hp) : V → PyData → Prop
  | base {v : V} {d : PyData} : Dp K H v d → DD K H v d
  | dict0 {a : Addr} : H a = some (.dK []) → DD K H (.ref a) (.dict [])
  | dict1 {a : Addr} {x : Str} {i : Int} : H a = some (.dK [(Sum.inr x, .int i)]) → DD K H (.ref a) (.dict [(.str x, .int i)])
theorem DD.same {K : PySem.W.Frag} {H H' : Hp} {v : V} {d : PyData} (e : Same H H') (h : DD K H v d) : DD K H' v d := by
  cases h with
  | base h => exact .base (dp_same e _ _ h)
  | dict0 h => exact .dict0 (e _ _ h)
  | dict1 h => exact .dict1 (e _ _ h)
theorem DD.reads {X : Cx} {pins : List (Addr × Obj)} {σ : St} {H : Hp} {s : Shared} (I : Inv X pins σ H s) {v : V} {d : PyData} {u : Value} (h : DD X.K H v d) (r : RelV v u) : ∃ as, Reads s.heap u d as ∧ (d.hasDict = true → sysModules ∉ as) := by
  cases h with
  | base h =>
    obtain ⟨as, q⟩ := Dp.reads I d v u h r
    exact ⟨as, q, fun z => by rw [dp_nodict d v h] at z; cases z⟩
  | @dict0 a h =>
    obtain rfl : u = Value.ref a := r
    obtain ⟨_, ns, vs, rk, o, es, ep, ho, hx, hd, _, hp, _⟩ := I.hok a _ h
    cases rk
    have he : es.toList = [] := by
      cases e : es.toList with
      | nil => rfl
      | cons y r => rw [e] at hp; cases hp
    refine ⟨[a], Reads.dict (as := []) (bs := []) ho hx.1 hd (by rw [he]; exact .nil) (by rw [he]; exact .nil), fun _ z => ?_⟩
    rw [List.mem_singleton] at z
    rw [← z] at ns
    simp at ns
  | @dict1 a x i h =>
    obtain rfl : u = Value.ref a := r
    obtain ⟨_, ns, vs, rk, o, es, ep, ho, hx, hd, _, hp, _⟩ := I.hok a _ h
    cases rk with
    | @cons _ q _ vr r0 rr =>
      cases rr
      obtain ⟨qk, qv⟩ := q
      obtain ⟨e1, e2⟩ := r0
      have e1' : (Sum.inr x : L2.Key) = qk := e1
      subst e1'
      obtain ⟨t, e2'⟩ := (show ∃ t, qv = Value.int i t from e2)
      subst e2'
      cases e : es.toList with
      | nil => rw [e] at hp; cases hp
      | cons y r =>
        rw [e] at hp
        cases hp with
        | cons k1 k2 k3 =>
          cases k3
          obtain ⟨t', hk⟩ : ∃ t', y.key = Value.str x t' := by
            rcases keyIs_shape (k := Sum.inr x) (v := y.key) k1 with ⟨_, _, z, _⟩ | ⟨x', t', z, q⟩
            · cases z
            · cases z
              exact ⟨t', q⟩
          refine ⟨[a], Reads.dict (as := [] ++ []) (bs := [] ++ []) ho hx.1 hd ?_ ?_, fun _ z => ?_⟩
          · rw [e]
            show ReadsAll s.heap [y.key] [.str x] ([] ++ [])
            rw [hk]
            exact .cons (.str x t') .nil
          · rw [e]
            show ReadsAll s.heap [y.val] [.int i] ([] ++ [])
            rw [k2]
            exact .cons (.int i t) .nil
          · rw [List.mem_singleton] at z
            rw [← z] at ns
            simp at ns
def rRepr (K : PySem.W.Frag) : List V → Hp → VK → Prop := fun xs H Q => ∃ x d, xs = [x] ∧ DD K H x d ∧ d.showable = true ∧ d.shown.length ≤ sizeLine ∧ d.depth ≤ 40 ∧ Q (.str d.shown) H
theorem call_reprD {X : Cx} (hg : X.A.guards = some []) (hu : X.A.units + 64 < cLine) : CallR X (.builtin "repr") (rRepr X.K) := by
  intro pins s σ H xs us Q I r h
  obtain ⟨x, d, rfl, hd, hs, hz, hdp, q⟩ := h
  cases r with
  | @cons _ u _ ur r rr =>
    cases rr
    obtain ⟨as, rd, hm⟩ := hd.reads I r
    cases rd with
    | none =>
      rw [PyData.shown_none] at q
      exact P.repr_of_none ⟨.str _, H, I.tok _, ⟨_, rfl⟩, q⟩
    | bool b =>
      rw [PyData.shown_bool] at q
      exact P.repr_of_bool ⟨.str _, H, I.tok _, ⟨_, rfl⟩, q⟩
    | int i t =>
      rw [PyData.shown_int] at q
      exact P.repr_of_int (by simpa [PyData.showable] using hs) ⟨.str _, H, I.tok _, ⟨_, rfl⟩, q⟩
    | str y t =>
      rw [PyData.shown_str] at q hz
      exact P.repr_of_str ⟨.str _, H, I.tok _, ⟨_, rfl⟩, q⟩ hz
    | list h1 h2 h3 h4 => exact repr_of_reads' (.list h1 h2 h3 h4) hs hm hg (by omega) (fun _ _ e => e) (fun h' u tk hk => ⟨.str _, H, I.kept (t' := tk) hk, ⟨_, rfl⟩, q⟩) hz
    | tuple h1 h2 h3 h4 => exact repr_of_reads' (.tuple h1 h2 h3 h4) hs hm hg (by omega) (fun _ _ e => e) (fun h' u tk hk => ⟨.str _, H, I.kept (t' := tk) hk, ⟨_, rfl⟩, q⟩) hz
    | dict h1 h2 h3 h4 h5 => exact repr_of_reads' (.dict h1 h2 h3 h4 h5) hs hm hg (by omega) (fun _ _ e => e) (fun h' u tk hk => ⟨.str _, H, I.kept (t' := tk) hk, ⟨_, rfl⟩, q⟩) hz
/-! ### promises where nothing is being shown -/
structure FnOkG (P : Program) (w : World) (K : PySem.W.Frag) (mg : Str → Option Value) (base : Heap) (CX : CXT) (k : Nat) (f : Addr) (fd : FuncData) (ps : List Str) (sp : Sp) : Prop where
  len : ∀ vs H Q E, sp vs H Q E → vs.length = ps.length
  run : ∀ (A : Around) (outer : List Env) (s : Shared) (H : Hp) (args : Args) (us : List Value) (vs : List V) (Q : VK) (E : XK), A.guards = some [] → Room k A → Env0 P w K mg base A outer s H → BindsTo s fd args (ps.zip us) → Vals vs us → sp vs H Q E →
    codeAny (model P w) A (.call (.ref f) args) (CR CX outer P w H s Q E) s
theorem FnOk.toG {P : Program} {w : World} {K : PySem.W.Frag} {mg : Str → Option Value} {base : Heap} {CX : CXT} {k : Nat} {f : Addr} {fd : FuncData} {ps : List Str} {sp : Sp} (F : FnOk P w K mg base CX k f fd ps sp) : FnOkG P w K mg base CX k f fd ps sp := ⟨F.len, fun A o s H a us vs Q E _ => F.run A o s H a us vs Q E⟩
section
variable {P : Program} {w : World} {K : PySem.W.Frag} {mg : Str → Option Value} {base : Heap}
theorem Fun.okG {x qual : Str} {st : Stmt} {f : Addr} {fd : FuncData} {N ps : List Str} {k : Nat} {sp : Sp} (F : Fun K x qual st f fd) (S : FnScope N ps (defScope st)) (len : ∀ vs H Q E, sp vs H Q E → vs.length = ps.length)
    (body : ∀ (cdv : Value) (A : Around) (outer : List Env) (s : Shared) (H : Hp) (vs : List V) (Q : VK) (E : XK), A.guards = some [] → Room k (A.deeper (envOfC qual (defScope st) s.heap.objs.size f cdv)) → sp vs H Q E →
      ∃ t, PSs (cxOf CX0 P w K mg base N qual (defScope st) f cdv A outer s H E).nox (defBody st) t ∧ t { nx := fun _ H' => Q .non H', rt := Q } (start N vs) H) : FnOkG P w K mg base CX0 (k + 1) f fd ps sp := by
  obtain ⟨oc, od, kV, doc, pm, an, cdv, ct, osl, rfl, lk, hcd⟩ := F.ex
  refine ⟨len, fun A outer s H args us vs Q E hg hr e0 hb r hsp => ?_⟩
  have same : ∀ b o, base.get? b = some o → s.heap.get? b = some o := fun b o e => (e0.bs b o e).1
  have KX : K.In s.heap := e0.mod.kin.keeps same
  have lim : s.heap.NoLimit := e0.mod.nolimit.keeps same
  refine codeAny_call_function hr.depth (KX _ _ lk) rfl S.co S.gen rfl (PySem.W.codeRec_of KX hcd) (hb _ _ _ _ ?_)
  refine wpAny_newFunctionEnv_cells S.kind (fun y hy => ?_) fun env he s1 y => ?_
  · obtain ⟨n, v⟩ := y
    exact (S.par n (List.of_mem_zip hy).1).elim .inl fun q => .inr ⟨q, PySem.W.cellsFrom_some _ _ _ (.inl q)⟩
  · subst he
    refine ⟨lim.keeps y.toInCall.keep, codeAny_func ?_⟩
    obtain ⟨t, ht, hq⟩ := body cdv A outer s H vs Q E hg (hr.deeper _) hsp
    have I := inv_start (CX := CX0) (P := P) (w := w) (mg := mg) (E := E) S hr.hd e0 (len _ _ _ _ hsp) r y
    refine wpAny_mono (ht.nox.run [] s1 (start N vs) H _ I hq) (fun fl s' hs => ?_) fun e s' hs => hs
    cases fl with
    | ret u => obtain ⟨v, σ', H', J, rv, q⟩ := hs; exact ⟨v, H', J.os, J.bare, J.base, J.hok, rv, q⟩
    | next => obtain ⟨σ', H', J, q⟩ := hs; exact ⟨.non, H', J.os, J.bare, J.base, J.hok, rfl, q⟩
    | brk => obtain ⟨_, _, _, q⟩ := hs; exact q.elim
    | cont => obtain ⟨_, _, _, q⟩ := hs; exact q.elim
end
section
variable {X : Cx} {CX : CXT} {k : Nat} {f : Addr} {fd : FuncData} {ps : List Str} {sp : Sp} {E : XK} {x : Str} {p pos : Pos} {e : Expr} {es : List Expr} {t : TA} {dvs : List V} {ds : List Value}
theorem pe_callG (F : FnOkG X.prog X.w X.K X.mg X.base CX k f fd ps sp) (hA : X.A.guards = some []) (hr : Room k X.A) (hg : Gl X x) (hm : X.mg x = some (.ref f)) (hk : PySem.W.keepIn X.K (.ref f) = true) (hb : Binds X.K fd ps ds) (hd : Vals dvs ds) (hx : Passes CX X E)
    (ha : PA X (e :: es) t) (hdb : (x == ("__debug__" : Str)) = false := by decide) (he : starEach (e :: es) X.env = (false, eval e X.env) :: starEach es X.env := by rfl) (hpl : (backTo pos (starEach es X.env)).any (·.1) = false := by rfl) :
    PE X (.Call (.Name x p) (e :: es) [] pos) (tCall sp dvs E t) := ⟨fun pins s σ H Q I h => wpAny_Call_Name_kw (ld_glob I hg hm
    (PySem.W.callWith_K (h₀ := X.base) I.ok.mod.kin hk (thn (ha.run pos pins s σ H _ I h) fun us s1 ⟨vs, H1, I1, r, q⟩ => ⟨I1.kIn, by
      have r2 : Vals (vs ++ dvs) (us ++ ds) := r.append hd
      have hl : (us ++ ds).length = ps.length := r2.length.symm.trans (F.len _ _ _ _ q)
      refine wpAny_call (codeAny_mono (F.run X.A X.stack s1 H1 ⟨us, []⟩ (us ++ ds) (vs ++ dvs) Q E hA hr I1.env0 (hb s1 us I1.kIn hl) r2 q) fun r s' hq => ?_)
      cases r with
      | error e => exact hx pins σ H1 s1 e s' I1 hq
      | ok fl => cases fl <;> first | exact I1.after hq | exact False.elim hq⟩) he hpl) hdb)⟩
end
end L2.Cal
end

section
set_option maxRecDepth 100000
set_option maxHeartbeats 4000000
/-! text[::-1] -/
namespace L2.Cal
open PySem PySem.Spec PyProof.Rows L2
def revS (x : Str) : Str := ⟨x.cps.reverse⟩
theorem rev_range (n : Nat) : Builtin.Str.strSliceIndices none none (-1) n = (List.range n).map fun k => n - 1 - k := by
  unfold Builtin.Str.strSliceIndices sliceRange
  simp only [show ¬ ((-1 : Int) > 0) by decide, if_false]
  have e : (if ((n : Int) - 1) > -1 then ((n : Int) - 1 - -1 - -1 - 1) / - -1 else 0) = (n : Int) := by
    split
    · have : ((n : Int) - 1 - -1 - -1 - 1) = n := by omega
      rw [this]
      simp
    · omega
  rw [e]
  show List.map _ (List.range ((n : Int).toNat)) = _
  rw [Int.toNat_natCast]
  refine List.map_congr_left fun k hk => ?_
  have := List.mem_range.mp hk
  omega
theorem fm_congr {α β : Type} {f g : α → Option β} : ∀ {l : List α}, (∀ x, x ∈ l → f x = g x) → l.filterMap f = l.filterMap g
  | [], _ => rfl
  | x :: l, h => by rw [List.filterMap_cons, List.filterMap_cons, h x (List.mem_cons_self ..), fm_congr fun y hy => h y (List.mem_cons_of_mem _ hy)]
theorem get_range : ∀ m : List Nat, (List.range m.length).filterMap (fun k => m[k]?) = m
  | [] => rfl
  | a :: r => by
    rw [List.length_cons, List.range_succ_eq_map, List.filterMap_cons, List.filterMap_map]
    show a :: List.filterMap (fun k => (a :: r)[k + 1]?) (List.range r.length) = a :: r
    have h := get_range r
    congr 1
theorem rev_get (l : List Nat) : (((List.range l.length).map fun k => l.length - 1 - k).filterMap fun i => l[i]?) = l.reverse := by
  have h := get_range l.reverse
  rw [List.length_reverse] at h
  rw [List.filterMap_map]
  refine Eq.trans (fm_congr fun k hk => ?_) h
  show l[l.length - 1 - k]? = l.reverse[k]?
  rw [List.getElem?_reverse (List.mem_range.mp hk)]
theorem made_rev (z : Str) (t t2 : Tok) : sliceMade z t none none (some (-1, t2)) = .str (revS z) := by
  unfold sliceMade
  rw [if_neg (by simp)]
  congr 1
  unfold slicePicked
  show Str.mk _ = _
  rw [show ((Option.map (fun (x : Int × Tok) => x.fst) (some (-1, t2))).getD 1) = -1 from rfl]
  show Str.mk (List.filterMap (fun (x : Nat) => z.cps[x]?) (Builtin.Str.strSliceIndices none none (-1) z.length)).toArray = _
  rw [rev_range]
  have h := rev_get z.cps.toList
  rw [Array.length_toList] at h
  have e : (fun (x : Nat) => z.cps[x]?) = fun (i : Nat) => z.cps.toList[i]? := by
    funext i
    exact (Array.getElem?_toList).symm
  rw [e, show z.length = z.cps.size from rfl, h]
  unfold revS
  congr 1
  rw [← Array.toList_reverse]
section
variable {X : Cx}
def tRev (te ts : TE) : TE := fun σ H Q => te σ H fun x H1 => ts σ H1 fun v H2 => v = .int (-1) ∧ ∃ z, x = .str z ∧ z.length ≤ sizeLine ∧ Q (.str (revS z)) H2
theorem pe_rev {e st : Expr} {te ts : TE} {pos p2 : Pos} (he : PE X e te) (hs : PE X st ts) : PE X (e.Subscript (Expr.Slice none none (some st) p2) pos) (tRev te ts) where
  run pins s σ H Q I h := by
    refine Subscript_ (thn (he.run pins s σ H (fun x H1 => ts σ H1 fun v H2 => v = .int (-1) ∧ ∃ z, x = .str z ∧ z.length ≤ sizeLine ∧ Q (.str (revS z)) H2) I h) fun v s1 hq => ?_)
    obtain ⟨x, H1, I1, r1, q1⟩ := hq
    refine wpAny_Slice ?_
    rw [evalPart_none]
    refine wpAny_pure (wpAny_pure ?_)
    refine thn (hs.run pins s1 σ H1 (fun v H2 => v = .int (-1) ∧ ∃ z, x = .str z ∧ z.length ≤ sizeLine ∧ Q (.str (revS z)) H2) I1 q1) fun vs s3 hq => ?_
    obtain ⟨vx, H2, I2, rs, rfl, z, rfl, hz, q⟩ := hq
    obtain ⟨t2, rfl⟩ := rs
    obtain ⟨t, rfl⟩ := r1
    have I4 := Inv.kept (t' := s3.toks) I2 (fun b ob q => Heap.get?_push_of_some { cls := Value.type "slice", data := Data.fields #[Value.none, Value.none, Value.int (-1) t2] } q)
    refine tail_any (typeIs_str _ z t) F.slot_str_getitem.lookup ?_ (Eq.refl (subscripted (Expr.Slice none none (some st) p2) false _ _))
    refine wpAny_getItem_str_slice (l := none) (u := none) (st := some (-1, t2)) (Heap.IsSliceOf.new s3.heap Value.none Value.none (Value.int (-1) t2)) rfl ?_
    rw [made_rev]
    refine ⟨?_, .str (revS z), H2, Inv.tok I4 _, ⟨_, rfl⟩, q⟩
    show (revS z).cps.size ≤ sizeLine
    unfold revS
    rw [Array.size_reverse]
    exact hz
end
end L2.Cal
end

section
set_option maxRecDepth 100000
set_option maxHeartbeats 4000000
/-! bool(o) of an object with neither a length nor a truth of its own; two rules for one operation -/
namespace L2.Cal
open PySem PySem.Spec PyProof.Rows L2
section
variable {X : Cx} {C : Addr} {pins : List (Addr × Obj)} {σ : St} {H : Hp} {s : Shared}
theorem op_or {o : Value → Value → Sem Value} {r r' : V → V → Hp → VK → Prop} (a : OpR X o r) (b : OpR X o r') : OpR X o (fun x y H Q => r x y H Q ∨ r' x y H Q) := by
  intro pins s σ H x y v u Q I rx ry h
  rcases h with h | h
  · exact a _ _ _ _ _ _ _ _ _ I rx ry h
  · exact b _ _ _ _ _ _ _ _ _ I rx ry h
def rBoolP (C : Addr) : List V → Hp → VK → Prop := fun xs H Q => ∃ (a dx : Addr) (fs : List (Str × V)), xs = [.ref a] ∧ H a = some (.ins C dx fs) ∧ Q (.bl true) H
theorem call_boolP (nb : PySem.W.findIn X.K (.ref C) "__bool__" = some none) (nl : PySem.W.findIn X.K (.ref C) "__len__" = some none) : CallR X (.type "bool") (rBoolP C) := by
  intro pins s σ H xs us Q I r h
  obtain ⟨a, dx, fs, rfl, ea, h⟩ := h
  rw [Vals.ref1 r]
  obtain ⟨ox, od, J⟩ := ins_at I ea
  have tr : ∀ E', wpAny (model X.prog X.w) X.A.in1.in1 (truthy (.ref a)) (fun b s' => ∃ H', Inv X pins σ H' s' ∧ Q (.bl b) H') E' s := fun E' => by
    unfold truthy
    refine wpAny_bind (m := callSpecial? (.ref a) (Str.ofString "__bool__")) (wpAny_bind (wpAny_bind (J.type.here ((PySem.W.looks_findIn I.kIn nb).here (wpAny_pure ?_)))))
    refine wpAny_bind (wpAny_bind (J.type.here ((PySem.W.looks_findIn I.kIn nl).here ?_)))
    rw [if_pos (by simp)]
    exact wpAny_pure ⟨H, I, h⟩
  refine callType_codes (T := "bool") (Bi := Builtin.«object.__init__») (Q₁ := fun r s₁ => ∃ (b : Bool) (H' : Hp), r = .bool b ∧ Inv X pins σ H' s₁ ∧ Q (.bl b) H') PySem.F.called_bool (PySem.F.typeCall_bool_1 _) PySem.F.entry_object_init ?_ ?_
  · refine codeAny_of_tree ?_
    show wpAny _ X.A.in1.in1 (do checkBuiltinCall "bool.__new__" ⟨[.type "bool", .ref a], []⟩; again (.builtin "bool.__new__" ⟨[.type "bool", .ref a], []⟩)) _ _ s
    refine wpAny_bind (wpAny_of_eq (PySem.F.newCall_bool_1 _) (wpAny_pure ⟨plainId_quiet (by decide +kernel) _, codeAny_builtin PySem.F.entry_bool_new ?_⟩))
    rw [Around.under_plainId (by decide +kernel) _]
    unfold Builtin.«bool.__new__»
    have below := PySem.F.conv_sub_bool
    generalize hT : truthy = T
    repeat (first | assumption | wp_step)
    subst hT
    refine wpAny_mono (tr _) (fun b s' hq => ?_) fun _ _ z => z
    obtain ⟨H', I', q⟩ := hq
    exact wpAny_pure ⟨b, H', rfl, I', q⟩
  · rintro obj s₁ ⟨b, H', rfl, I', q⟩
    exact ⟨rfl, PySem.F.args_object_init_2 _ _, object_init_meets PySem.F.called_bool.init.lookup PySem.F.called_bool.made (by decide) X.prog X.w X.A.in1 _ s₁ ⟨rfl, rfl, ⟨.bl b, H', I', rfl, q⟩⟩⟩
end
end L2.Cal
end

section
set_option maxRecDepth 100000
set_option maxHeartbeats 4000000
set_option synthInstance.maxHeartbeats 400000
namespace L2.Cal
open PySem PySem.Spec PyProof.Rows L2
theorem shown_big {i : Int} (h0 : 0 ≤ i) (h : i < 10 ^ 33) : (PyData.shown (.int i)).length ≤ 40 := by
  obtain ⟨n, rfl⟩ := Int.eq_ofNat_of_zero_le h0
  have hn : n < 10 ^ 33 := by
    have : ((n : Int)) < ((10 ^ 33 : Nat) : Int) := by simpa using h
    omega
  show (Str.ofString (toString (n : Int))).length ≤ 40
  rw [show toString (n : Int) = toString n from rfl]
  rw [Nat.toString_eq_ofList_toDigits]
  have l := (Nat.length_toDigits_le_iff (b := 10) (k := 33) (by decide) (by decide) (n := n)).mpr hn
  rw [PySem.ofString_ofList_length]
  omega
theorem log_big {i : Int} (h0 : 0 ≤ i) (h : i < 10 ^ 33) : i.natAbs.log2 < 110 := by
  by_cases e : i.natAbs = 0
  · rw [e]
    decide
  · rw [Nat.log2_lt e]
    have e1 : (10 : Int) ^ 33 = 1000000000000000000000000000000000 := by decide
    have e2 : (2 : Nat) ^ 110 = 1298074214633706907132624082305024 := by decide
    rw [e2]
    omega
def toldC (ns : List Int) : PyData := .list [.tuple (ns.map PyData.int), .int ns.sum, .bool true]
theorem sum_bound : ∀ {ns : List Int}, (∀ i, i ∈ ns → 0 ≤ i ∧ i ≤ 10 ^ 30) → 0 ≤ ns.sum ∧ ns.sum ≤ (ns.length : Int) * 10 ^ 30
  | [], _ => ⟨by simp, by simp⟩
  | n :: ns, h => by
    have h1 := h n (List.mem_cons_self ..)
    have h2 := sum_bound fun i hi => h i (List.mem_cons_of_mem _ hi)
    rw [List.sum_cons, List.length_cons]
    push_cast
    rw [Int.add_mul]
    exact ⟨by omega, by omega⟩
theorem toldC_fine {ns : List Int} (few : ns.length ≤ 8) (h : ∀ i, i ∈ ns → 0 ≤ i ∧ i ≤ 10 ^ 30) : (toldC ns).showable = true ∧ (toldC ns).shown.length ≤ sizeLine ∧ (toldC ns).depth ≤ 40 := by
  have big : ∀ i, i ∈ ns → 0 ≤ i ∧ i < 10 ^ 33 := fun i hi => ⟨(h i hi).1, Int.lt_of_le_of_lt (h i hi).2 (by decide)⟩
  have sb : 0 ≤ ns.sum ∧ ns.sum < 10 ^ 33 := by
    have e := sum_bound h
    have e1 : (10 : Int) ^ 33 = 1000000000000000000000000000000000 := by decide
    have e2 : (10 : Int) ^ 30 = 1000000000000000000000000000000 := by decide
    rw [e2] at e
    rw [e1]
    omega
  have lv : ∀ ns : List Int, (∀ i, i ∈ ns → 0 ≤ i ∧ i < 10 ^ 33) → PyData.leavesShortAll 40 (ns.map PyData.int) = true := fun ns => by
    induction ns with
    | nil => intro _; simp [PyData.leavesShortAll]
    | cons z zs ih =>
      intro h
      simp only [List.map_cons, PyData.leavesShortAll, PyData.leavesShort, Bool.and_eq_true]
      have hz := h z (List.mem_cons_self ..)
      exact ⟨decide_eq_true (shown_big hz.1 hz.2), ih fun x hx => h x (List.mem_cons_of_mem _ hx)⟩
  have wt : ∀ ns : List Int, (∀ i, i ∈ ns → 0 ≤ i ∧ i < 10 ^ 33) → PyData.weightAll (ns.map PyData.int) ≤ 112 * ns.length := fun ns => by
    induction ns with
    | nil => intro _; simp [PyData.weightAll]
    | cons z zs ih =>
      intro h
      have hz := h z (List.mem_cons_self ..)
      have hl := log_big hz.1 hz.2
      have i2 := ih fun x hx => h x (List.mem_cons_of_mem _ hx)
      simp only [List.map_cons, PyData.weightAll, PyData.weight, List.length_cons]
      split <;> omega
  have dp : ∀ ns : List Int, PyData.depthAll (ns.map PyData.int) = 0 := fun ns => by
    induction ns with
    | nil => simp [PyData.depthAll]
    | cons z zs ih => simp [PyData.depthAll, PyData.depth, ih]
  have sw : ∀ ns : List Int, (∀ i, i ∈ ns → 0 ≤ i ∧ i < 10 ^ 33) → PyData.showableAll (ns.map PyData.int) = true := fun ns => by
    induction ns with
    | nil => intro _; simp [PyData.showableAll]
    | cons z zs ih =>
      intro h
      have hz := h z (List.mem_cons_self ..)
      have hl := log_big hz.1 hz.2
      simp only [List.map_cons, PyData.showableAll, PyData.showable, ih fun x hx => h x (List.mem_cons_of_mem _ hx), Bool.and_true]
      exact decide_eq_true (by omega)
  have sl := log_big sb.1 sb.2
  refine ⟨?_, ?_, ?_⟩
  · simp only [toldC, PyData.showable, PyData.showableAll, sw ns big, Bool.and_true, Bool.true_and]
    exact decide_eq_true (by omega)
  · have lf : (toldC ns).leavesShort 40 = true := by
      simp only [toldC, PyData.leavesShort, PyData.leavesShortAll, lv ns big, Bool.true_and, Bool.and_true]
      exact decide_eq_true (shown_big sb.1 sb.2)
    have h := PyData.shown_le 40 (by decide) (toldC ns) lf
    have w : (toldC ns).weight ≤ 1200 := by
      have := wt ns big
      simp only [toldC, PyData.weight, PyData.weightAll]
      split <;> omega
    rw [sizeLine_eq]
    omega
  · simp only [toldC, PyData.depth, PyData.depthAll, dp]
    decide
theorem Good.strOk {y : Str} {ys : List Str} (G : Good ys y) : ∀ z, z ∈ ys → PyData.strOk z = true := fun z hz => by
  unfold PyData.strOk
  rw [← Array.all_toList, List.all_eq_true]
  intro c hc
  have := (G.let_.perm (G.lot.of z hz)).2 c hc
  exact decide_eq_true (by omega)
theorem Good.sizes {y : Str} {ys : List Str} (G : Good ys y) : ∀ z, z ∈ ys → z.cps.size = y.cps.size := fun z hz => by
  rw [← Array.length_toList, (G.lot.of z hz).length_eq, Array.length_toList]
section
variable {P : Program} {w : World} {K : PySem.W.Frag} {mg : Str → Option Value} {base : Heap} {C Cr : Addr}
theorem mk_roll {Q : VK} {E : XK} {H : Hp} {p x dx : Addr} {ys : List Str} {y : Str} (ep : H p = some (.tup (ys.map V.str))) (G : Good ys y) (nx : H x = none) (nd : H dx = none) (q : ∀ H', Same H H' → RollAt C H' x p (tidy y) → Q .non H') :
    spIni K C [.ref x, .ref p] (upd (upd H dx (.own x)) x (.ins C dx [])) Q E := by
  have m : Same H (upd (upd H dx (.own x)) x (.ins C dx [])) := fun b o e => by rw [upd_ne (ne_of_none e nx), upd_ne (ne_of_none e nd)]; exact e
  exact ⟨x, p, dx, ys, y, rfl, upd_same, SqT.of (m _ _ ep), .base (.tup (m _ _ ep)), G, fun H' k r => q H' (fun b o e => k b o (ne_of_none e nx) (m _ _ e)) r⟩
theorem mk_crowd {Q : VK} {E : XK} {H : Hp} {r t n x dx : Addr} {z : Str} {ys : List Str} {ns : List Int} (hr : RollAt C H r t z) (ht : H t = some (.tup (ys.map V.str))) (hn : H n = some (.tup (ns.map V.int))) (len : ns.length = ys.length) (few : ys.length ≤ 60) (pos : ∀ i, i ∈ ns → 0 ≤ i) (s0 : 0 < ns.sum)
    (nx : H x = none) (nd : H dx = none) (q : ∀ H', Same H H' → CrAt Cr H' x r n ns.sum → NoF Cr H' x → Q .non H') :
    spCIn K C Cr [.ref x, .ref r, .ref n] (upd (upd H dx (.own x)) x (.ins Cr dx [])) Q E := by
  have m : Same H (upd (upd H dx (.own x)) x (.ins Cr dx [])) := fun b o e => by rw [upd_ne (ne_of_none e nx), upd_ne (ne_of_none e nd)]; exact e
  have rx : r ≠ x := fun e => by
    obtain ⟨_, _, h, _⟩ := hr
    rw [e, nx] at h
    cases h
  exact ⟨x, r, n, t, dx, z, ys, ns, rfl, upd_same, hr.same m, rx, SqT.of (m _ _ ht), SqT.of (m _ _ hn), .base (.tup (m _ _ hn)), len, few, pos, by omega, fun H' k c nf => q H' (fun b o e => k b o (ne_of_none e nx) (m _ _ e)) c nf⟩
/-- a crowd over these orders with these numbers -/
def CrdAt (C Cr : Addr) (H : Hp) (c : Addr) (ys : List Str) (ns : List Int) : Prop := ∃ (r n t : Addr) (z : Str), CrAt Cr H c r n ns.sum ∧ RollAt C H r t z ∧ H t = some (.tup (ys.map V.str)) ∧ H n = some (.tup (ns.map V.int)) ∧ ∀ y, y ∈ ys → PyData.strOk y = true
theorem CrdAt.same {H H' : Hp} {c : Addr} {ys : List Str} {ns : List Int} (h : CrdAt C Cr H c ys ns) (s : Same H H') : CrdAt C Cr H' c ys ns := by
  obtain ⟨r, n, t, z, h1, h2, h3, h4, h5⟩ := h
  exact ⟨r, n, t, z, h1.same s, h2.same s, s _ _ h3, s _ _ h4, h5⟩
theorem off_jar {H : Hp} {j b : Addr} {o : HO} (J : Jar H j) (h : H b = some o) (no : ∀ xs, o ≠ .lst xs) : b ≠ j := fun e => by
  obtain ⟨_, _, _, w, _⟩ := J
  rw [e, w] at h
  exact no _ (Option.some.inj h).symm
theorem CrdAt.kp {j : Addr} {H H' : Hp} {c : Addr} {ys : List Str} {ns : List Int} (J : Jar H j) (k : Kp j H H') (h : CrdAt C Cr H c ys ns) : CrdAt C Cr H' c ys ns := by
  obtain ⟨r, n, t, z, ⟨dx, fs, e1, l1⟩, ⟨dx2, fs2, e2, l2⟩, h3, h4, h5⟩ := h
  exact ⟨r, n, t, z, ⟨dx, fs, k _ _ (off_jar J e1 fun _ => nofun) e1, l1⟩, ⟨dx2, fs2, k _ _ (off_jar J e2 fun _ => nofun) e2, l2⟩, k _ _ (off_jar J h3 fun _ => nofun) h3, k _ _ (off_jar J h4 fun _ => nofun) h4, h5⟩
/-- what `==` of two crowds asks -/
theorem ceq_of {H : Hp} {c c2 : Addr} {ys zs : List Str} {ns ms : List Int} {Q : VK} {E : XK} (h : CrdAt C Cr H c ys ns) (h2 : CrdAt C Cr H c2 zs ms) (q : Q (.bl (decide (ys = zs) && decide (ns = ms))) H) : spCEq K C Cr [.ref c, .ref c2] H Q E := by
  obtain ⟨r, n, t, z, a1, a2, a3, a4, a5⟩ := h
  obtain ⟨r2, n2, t2, z2, b1, b2, b3, b4, b5⟩ := h2
  exact ⟨c, r, n, _, _, rfl, a1, .inl ⟨c2, r2, n2, t, t2, _, z, z2, ys, zs, ns, ms, rfl, b1, a2, b2, SqT.of a3, SqT.of b3, a5, b5, SqT.of a4, SqT.of b4, q⟩⟩
theorem CrdAt.ty {H : Hp} {c : Addr} {ys : List Str} {ns : List Int} (RC : CrC K mg Cr) (h : CrdAt C Cr H c ys ns) : TyX K H (.ref c) (.ref Cr) := by
  obtain ⟨r, n, t, z, h1, _⟩ := h
  exact crowd_ty RC h1
theorem CrdAt.ins {H : Hp} {c : Addr} {ys : List Str} {ns : List Int} (h : CrdAt C Cr H c ys ns) : ∃ dx fs, H c = some (.ins Cr dx fs) := by
  obtain ⟨r, n, t, z, ⟨dx, fs, e, _⟩, _⟩ := h
  exact ⟨dx, fs, e⟩
end
end L2.Cal
end

section
set_option maxRecDepth 100000
set_option maxHeartbeats 4000000
set_option synthInstance.maxHeartbeats 400000
namespace L2.Cal
open PySem PySem.Spec PyProof.Rows L2
abbrev sChT : Stmt := topS 30
theorem scChT : FnScope ["things", "thing"] ["things", "thing"] (defScope sChT) := ⟨rfl, rfl, rfl, by decide +kernel, rfl, by decide +kernel, by decide +kernel⟩
abbrev sAbv : Stmt := crS 5
theorem scAbv : FnScope ["self", "thing", "other"] ["self", "thing", "other"] (defScope sAbv) := ⟨rfl, rfl, rfl, by decide +kernel, rfl, by decide +kernel, by decide +kernel⟩
abbrev sBts : Stmt := crS 6
theorem scBts : FnScope ["self", "thing", "other"] ["self", "thing", "other"] (defScope sBts) := ⟨rfl, rfl, rfl, by decide +kernel, rfl, by decide +kernel, by decide +kernel⟩
abbrev sAb_ : Stmt := crS 13
theorem scAb_ : FnScope ["self", "thing", "other", "order", "number"] ["self", "thing", "other"] (defScope sAb_) := ⟨rfl, rfl, rfl, by decide +kernel, rfl, by decide +kernel, by decide +kernel⟩
def spChT : Sp := fun vs H Q _ => ∃ (z : Str) (c : Nat), vs = [.str z, .str (chS c)] ∧ c ∈ z.cps.toList ∧ Q .non H
/-- the first thing stands ahead of the other one -/
def aheadS (y : Str) (a b : Nat) : Bool := match Txt.index0 y (chS a), Txt.index0 y (chS b) with
  | some i, some j => decide (i < j)
  | _, _ => false
/-- how many put the one thing above the other one -/
def abvL (l : List (Str × Int)) (a b : Nat) : List Int := (l.filter fun p => aheadS p.1 a b).map Prod.snd
def abv (ys : List Str) (ns : List Int) (a b : Nat) : Int := (abvL (ys.zip ns) a b).sum
theorem walk_zipT {K : PySem.W.Frag} {a b : Addr} {xs ys : List V} (hn : ys.length = xs.length) : Walk (RZ.ItzT K a b) xs.length (fun H => SqT K H a xs ∧ SqT K H b ys) (YPair (fun i => xs[i]?) (fun i => ys[i]?)) :=
  ⟨fun i H hi hq => ⟨xs, ys, _, _, hq.1, hq.2, List.getElem?_eq_getElem hi, List.getElem?_eq_getElem (by omega)⟩, fun H hq => ⟨xs, ys, hq.1, hq.2, .inl (Nat.le_refl _)⟩, fun i H v H' hi hq ⟨T, x, y, e1, e2, e3, e4, e5⟩ => ⟨T, x, y, e1, e2, e3, e4 xs hq.1, e5 ys hq.2⟩⟩
section
variable {P : Program} {w : World} {K : PySem.W.Frag} {mg : Str → Option Value} {base : Heap} {C Cr : Addr}
theorem ok_chT {f : Addr} {fd : FuncData} (D : DefAt K mg "check_thing" sChT ["things", "thing"] f fd) (T : Txt mg) : FnOk P w K mg base CX0 1 f fd ["things", "thing"] spChT := by
  refine D.F.ok scChT (fun vs H Q E h => ?_) (fun cdv A outer sh H vs Q E hr h => ?_)
  · obtain ⟨z, c, rfl, _⟩ := h
    rfl
  · obtain ⟨z, c, rfl, hc, q⟩ := h
    refine ⟨_, pss_one (ps_if (PW.pt (pw_or (pt_not (pt_val (pe_callB call_isi (by rfl) T.b_isinstance (by decide +kernel) (pa_cons (pv 1) (pa_cons (pe_bty (n := "str") (by rfl) T.b_str (by decide +kernel)) pa_nil))))) (pw_or (pt_cmpR op_ne (pe_callB call_len_str (by rfl) T.b_len (by decide +kernel) (pa_cons (pv 1) pa_nil)) pe_int (nomark _)) (pw_or1 (pt_cmpR op_notin_str (pv 1) (pv 0) (by rfl)))))) (pss_one ps_never) pss_nil), ?_⟩
    refine ⟨_, rfl, .str (chS c), .ty "str", .type "str", .type "str", true, rfl, .ty _, .base (.str _), rfl, true, rfl, iteF ?_⟩
    have fo : (!(Builtin.Str.occurrences z (chS c) 0 z.length 1).isEmpty) = true := (PySem.StrLaws.found_one z c).trans (decide_eq_true hc)
    refine ⟨_, rfl, chS c, rfl, (by show 1 ≤ sizeLine; decide), rfl, _, rfl, ite2 (fun e => ?_) (fun _ => ?_)⟩
    · rw [show (chS c).length = 1 from rfl] at e
      exact absurd e (by decide)
    · refine ⟨_, rfl, _, rfl, _, _, rfl, rfl, false, ?_, iteF q⟩
      show V.bl (!_) = V.bl false
      rw [fo] <;> rfl
/-- what `_above` is asked: the roll's orders and the crowd's numbers, each order with both things -/
def spAb_ (K : PySem.W.Frag) (C Cr : Addr) : Sp := fun vs H Q _ => ∃ (c : Addr) (ys : List Str) (ns : List Int) (a b : Nat), vs = [.ref c, .str (chS a), .str (chS b)] ∧ CrdAt C Cr H c ys ns ∧ ns.length = ys.length ∧ ys.length ≤ 48 ∧ (∀ y, y ∈ ys → (∃ i, Txt.index0 y (chS a) = some i) ∧ ∃ i, Txt.index0 y (chS b) = some i) ∧
  ∀ H', Same H H' → Q (.int (abv ys ns a b)) H'
theorem ok_ab_ {f fO : Addr} {fd fdO : FuncData} {pO : Addr} (F : Fun K "_above" "Crowd._above" sAb_ f fd) (PO : PropOf K C "orders" pO fO) (FO : Fun K "orders" "Roll.orders" sOrd fO fdO) (bO : Binds K fdO ["self"] []) (bsum : mg "sum" = none) (bzip : mg "zip" = none) (T : Txt mg) (R : RollC K mg C) (RC : CrC K mg Cr) :
    FnOk P w K mg base CX0 3 f fd ["self", "thing", "other"] (spAb_ K C Cr) := by
  have GO : FnOk P w K mg base CX0 1 fO fdO ["self"] (spOrd C) := ok_ord FO R
  refine F.ok scAb_ (fun vs H Q E h => ?_) (fun cdv A outer sh H vs Q E hr h => ?_)
  · obtain ⟨c, ys, ns, a, b, rfl, _⟩ := h
    rfl
  · obtain ⟨c, ys, ns, a, b, rfl, hc, len, few, fnd, q⟩ := h
    refine ⟨_, pss_one (ps_ret (pe_callB (call_sumI rfl) (by rfl) bsum (by decide +kernel) (pa_cons (pe_lc (own := [("order", 3), ("number", 4)]) (g := gTup K 2 (gCons (gName 3) (gCons (gName 4) gNil))) (tt := _) rfl scAb_.nd (RZ.pi_zipA (by rfl) bzip (pa_cons (pe_prop (pe_fld (pv 0) rfl) R.cls PO GO (hr.mono (by decide)) bO .nil pass0 rfl) (pa_cons (pe_fld (pv 0) rfl) pa_nil)))
      (blkOk_by (own := [("order", 3), ("number", 4)]) (N := ["self", "thing", "other", "order", "number"]) (sc := defScope sAb_) (by decide +kernel))
      (fun _ _ _ _ _ => pg_tup rfl (pgs_cons (pg_name (i := 3) scAb_.nd rfl (Or.inl rfl)) (pgs_cons (pg_name (i := 4) scAb_.nd rfl (Or.inl rfl)) pgs_nil))) (fun _ _ _ _ _ => pts_one (show PT _ _ (tTest (tOp _ (tBMS K "str" (rIndexX fun _ _ _ _ => False) (tVar 3) (tCons (tVar 1) tNil)) (tBMS K "str" (rIndexX fun _ _ _ _ => False) (tVar 3) (tCons (tVar 2) tNil)))) from pt_cmpR op_lt (pe_bmS PySem.F.plainAttrs_str PySem.F.slot_str_index PySem.F.type_str_index (mt_indexX rfl takes_never) (pv 3) (pa_cons (pv 1) pa_nil)) (pe_bmS PySem.F.plainAttrs_str PySem.F.slot_str_index PySem.F.type_str_index (mt_indexX rfl takes_never) (pv 3) (pa_cons (pv 2) pa_nil)) (nomark _))) (fun _ _ _ _ _ => pv 4)) pa_nil))), ?_⟩
    obtain ⟨dx, fs, e1⟩ := hc.ins
    obtain ⟨r, n, t, z, ⟨dx', fs', e1', l1, l2, l3⟩, ra, ht, hn, so⟩ := id hc
    obtain ⟨dr, fr, hr1, _⟩ := id ra
    have len2 : (ns.map V.int).length = (ys.map V.str).length := by rw [List.length_map, List.length_map, len]
    refine ⟨_, rfl, c, Cr, dx', fs', _, rfl, e1', RC.cls, RC.no1, l1, r, dr, fr, rfl, hr1, r, t, z, rfl, ra, _, rfl, c, Cr, dx', fs', _, rfl, e1', RC.cls, RC.no2, l2, t, n, _, _, rfl, .inr ⟨SqT.of ht, SqT.of hn, fun D nD => lc_it (walk_zipT (xs := ys.map V.str) (ys := ns.map V.int) len2) (fun i H' => Same H H' ∧ H' D = some (.lst ((abvL ((ys.zip ns).take i) a b).map V.int))) ⟨same_new nD, upd_same⟩ (fun i H' _ hP => ⟨SqT.of (hP.1 _ _ ht), SqT.of (hP.1 _ _ hn)⟩) (fun i x H1 H2 hi hP hY => ?_) (fun H1 hP => ?_)⟩⟩
    · obtain ⟨sm, eD⟩ := hP
      obtain ⟨T0, x1, y1, rfl, nT, rfl, g1, g2⟩ := hY
      have hi' : i < ys.length := by rw [List.length_map] at hi; exact hi
      have hn' : i < ns.length := by omega
      have g1 : (ys.map V.str)[i]? = some x1 := g1
      have g2 : (ns.map V.int)[i]? = some y1 := g2
      rw [List.getElem?_map, List.getElem?_eq_getElem hi'] at g1
      rw [List.getElem?_map, List.getElem?_eq_getElem hn'] at g2
      cases g1
      cases g2
      have tk : (ys.zip ns).take (i + 1) = (ys.zip ns).take i ++ [(ys[i], ns[i])] := by
        rw [List.take_succ, List.getElem?_eq_getElem (by rw [List.length_zip]; omega), List.getElem_zip] <;> rfl
      obtain ⟨⟨ka, ea⟩, kb, eb⟩ := fnd ys[i] (List.getElem_mem hi')
      have small : (abvL ((ys.zip ns).take i) a b).length < sizeLine := by
        unfold abvL
        rw [List.length_map]
        refine Nat.lt_of_le_of_lt (List.length_filter_le _ _) ?_
        rw [List.length_take, List.length_zip, sizeLine_eq]
        omega
      have sm2 : Same H (upd H1 T0 (.tup [.str ys[i], .int ns[i]])) := fun v o e => by
        rw [upd_ne (ne_of_none (sm _ _ e) nT)]
        exact sm _ _ e
      have DT : D ≠ T0 := fun z => by
        rw [z, nT] at eD
        cases eD
      have eD2 : (upd H1 T0 (.tup [.str ys[i], .int ns[i]])) D = some (.lst ((abvL ((ys.zip ns).take i) a b).map V.int)) := by rw [upd_ne DT]; exact eD
      have ah : aheadS ys[i] a b = decide (ka < kb) := by
        unfold aheadS
        rw [ea, eb]
      refine ⟨T0, _, rfl, SqT.of upd_same, rfl, _, _, rfl, _, _, rfl, rfl, ?_⟩
      refine ⟨rfl, _, rfl, rfl, _, rfl, ys[i], chS a, rfl, rfl, fun k hk => ?_, fun no => by rw [ea] at no; cases no⟩
      rw [ea] at hk
      cases hk
      refine ⟨_, rfl, rfl, _, rfl, ys[i], chS b, rfl, rfl, fun k hk => ?_, fun no => by rw [eb] at no; cases no⟩
      rw [eb] at hk
      cases hk
      refine ⟨_, _, rfl, rfl, _, rfl, ite2 (fun e => ?_) (fun e => ?_)⟩
      · have lt : ka < kb := by
          have := of_decide_eq_true e
          omega
        rw [decide_eq_true lt] at ah
        refine ⟨_, rfl, _, eD2, by rw [List.length_map]; exact small, fun v o e => ?_, ?_⟩
        · rw [upd_ne (ne_of_none e nD)]
          exact sm2 _ _ e
        · rw [upd_same, tk]
          unfold abvL
          rw [List.filter_append, List.filter_cons, if_pos ah, List.map_append, List.map_append] <;> rfl
      · have ge : ¬ ka < kb := fun lt => e (decide_eq_true (by omega))
        rw [decide_eq_false ge] at ah
        refine ⟨sm2, ?_⟩
        rw [eD2, tk]
        unfold abvL
        rw [List.filter_append, List.filter_cons, if_neg (by rw [ah]; exact Bool.false_ne_true), List.filter_nil, List.append_nil]
    · obtain ⟨sm, eD⟩ := hP
      rw [List.take_of_length_le (by rw [List.length_zip, List.length_map]; omega)] at eD
      exact ⟨D, _, rfl, .inl (SqL.of eD), q _ sm⟩
end
end L2.Cal
end

section
set_option maxRecDepth 100000
set_option maxHeartbeats 4000000
set_option synthInstance.maxHeartbeats 400000
namespace L2.Cal
open PySem PySem.Spec PyProof.Rows L2
/-- a crowd whose roll's things are z -/
def CrdZ (C Cr : Addr) (H : Hp) (c : Addr) (z : Str) (ys : List Str) (ns : List Int) : Prop := CrdAt C Cr H c ys ns ∧ ∃ (dx : Addr) (fs : List (Str × V)) (r t : Addr), H c = some (.ins Cr dx fs) ∧ fs.lookup ("_roll" : Str) = some (.ref r) ∧ (∀ m : Str, m ≠ "_roll" → m ≠ "_numbers" → m ≠ "_people" → fs.lookup m = none) ∧ RollAt C H r t z
theorem CrdZ.same {C Cr : Addr} {H H' : Hp} {c : Addr} {z : Str} {ys : List Str} {ns : List Int} (h : CrdZ C Cr H c z ys ns) (s : Same H H') : CrdZ C Cr H' c z ys ns := by
  obtain ⟨a, dx, fs, r, t, e, l, no, ra⟩ := h
  exact ⟨a.same s, dx, fs, r, t, s _ _ e, l, no, ra.same s⟩
/-- what `above` and `beats` are asked -/
structure Ask (z : Str) (ys : List Str) (ns : List Int) (a b : Nat) : Prop where
  ha : a ∈ z.cps.toList
  hb : b ∈ z.cps.toList
  len : ns.length = ys.length
  few : ys.length ≤ 48
  fnd : ∀ y, y ∈ ys → (∃ i, Txt.index0 y (chS a) = some i) ∧ ∃ i, Txt.index0 y (chS b) = some i
theorem Ask.swap {z : Str} {ys : List Str} {ns : List Int} {a b : Nat} (h : Ask z ys ns a b) : Ask z ys ns b a := ⟨h.hb, h.ha, h.len, h.few, fun y hy => ⟨(h.fnd y hy).2, (h.fnd y hy).1⟩⟩
def spAbv (C Cr : Addr) : Sp := fun vs H Q _ => ∃ (c : Addr) (z : Str) (ys : List Str) (ns : List Int) (a b : Nat), vs = [.ref c, .str (chS a), .str (chS b)] ∧ CrdZ C Cr H c z ys ns ∧ Ask z ys ns a b ∧ ∀ H', Same H H' → Q (.int (abv ys ns a b)) H'
def spBts (C Cr : Addr) : Sp := fun vs H Q _ => ∃ (c : Addr) (z : Str) (ys : List Str) (ns : List Int) (a b : Nat), vs = [.ref c, .str (chS a), .str (chS b)] ∧ CrdZ C Cr H c z ys ns ∧ Ask z ys ns a b ∧ ∀ H', Same H H' → Q (.bl (decide (abv ys ns a b > abv ys ns b a))) H'
section
variable {P : Program} {w : World} {K : PySem.W.Frag} {mg : Str → Option Value} {base : Heap} {C Cr : Addr}
theorem ok_abv {f fO fA fT fK : Addr} {fd fdO fdA fdT fdK : FuncData} {pO pT : Addr} (F : Fun K "above" "Crowd.above" sAbv f fd) (FA : Fun K "_above" "Crowd._above" sAb_ fA fdA) (mA : Meth K Cr "_above" fA) (bA : Binds K fdA ["self", "thing", "other"] []) (DK : DefAt K mg "check_thing" sChT ["things", "thing"] fK fdK)
    (PT : PropOf K C "things" pT fT) (FT : Fun K "things" "Roll.things" sThi fT fdT) (bT : Binds K fdT ["self"] []) (PO : PropOf K C "orders" pO fO) (FO : Fun K "orders" "Roll.orders" sOrd fO fdO) (bO : Binds K fdO ["self"] []) (bsum : mg "sum" = none) (bzip : mg "zip" = none) (T : Txt mg) (R : RollC K mg C) (RC : CrC K mg Cr) :
    FnOk P w K mg base CX0 4 f fd ["self", "thing", "other"] (spAbv C Cr) := by
  have GT : FnOk P w K mg base CX0 1 fT fdT ["self"] (spThi C) := ok_thi FT R
  have GK : FnOk P w K mg base CX0 1 fK fdK ["things", "thing"] spChT := ok_chT DK T
  have GA : FnOk P w K mg base CX0 3 fA fdA ["self", "thing", "other"] (spAb_ K C Cr) := ok_ab_ FA PO FO bO bsum bzip T R RC
  refine F.ok scAbv (fun vs H Q E h => ?_) (fun cdv A outer sh H vs Q E hr h => ?_)
  · obtain ⟨c, z, ys, ns, a, b, rfl, _⟩ := h
    rfl
  · obtain ⟨c, z, ys, ns, a, b, rfl, hz, as, q⟩ := h
    refine ⟨_, pss_cons (ps_expr (pe_call GK (hr.mono (by decide)) (by rfl) DK.g DK.F.kp DK.b .nil pass0 (pa_cons (pe_prop (pe_fld (pv 0) rfl) R.cls PT GT (hr.mono (by decide)) bT .nil pass0 rfl) (pa_cons (pv 1) pa_nil))))
      (pss_cons (ps_expr (pe_call GK (hr.mono (by decide)) (by rfl) DK.g DK.F.kp DK.b .nil pass0 (pa_cons (pe_prop (pe_fld (pv 0) rfl) R.cls PT GT (hr.mono (by decide)) bT .nil pass0 rfl) (pa_cons (pv 2) pa_nil))))
      (pss_one (ps_ret (pe_meth (pv 0) RC.cls mA GA (hr.mono (by decide)) bA .nil pass0 (pa_cons (pv 1) (pa_cons (pv 2) pa_nil)))))), ?_⟩
    obtain ⟨hc, dx, fs, r, t, e, l, no, ra⟩ := id hz
    obtain ⟨dr, fr, hr1, _⟩ := id ra
    refine ⟨_, rfl, c, Cr, dx, fs, _, rfl, e, RC.cls, RC.no1, l, r, dr, fr, rfl, hr1, r, t, z, rfl, ra, _, rfl, z, a, rfl, as.ha, ?_⟩
    refine ⟨_, rfl, c, Cr, dx, fs, _, rfl, e, RC.cls, RC.no1, l, r, dr, fr, rfl, hr1, r, t, z, rfl, ra, _, rfl, z, b, rfl, as.hb, ?_⟩
    exact ⟨_, rfl, c, dx, fs, rfl, e, no _ (by decide) (by decide) (by decide), _, rfl, _, rfl, c, ys, ns, a, b, rfl, hc, as.len, as.few, as.fnd, q⟩
theorem ok_bts {f fO fA fT fK : Addr} {fd fdO fdA fdT fdK : FuncData} {pO pT : Addr} (F : Fun K "beats" "Crowd.beats" sBts f fd) (FA : Fun K "_above" "Crowd._above" sAb_ fA fdA) (mA : Meth K Cr "_above" fA) (bA : Binds K fdA ["self", "thing", "other"] []) (DK : DefAt K mg "check_thing" sChT ["things", "thing"] fK fdK)
    (PT : PropOf K C "things" pT fT) (FT : Fun K "things" "Roll.things" sThi fT fdT) (bT : Binds K fdT ["self"] []) (PO : PropOf K C "orders" pO fO) (FO : Fun K "orders" "Roll.orders" sOrd fO fdO) (bO : Binds K fdO ["self"] []) (bsum : mg "sum" = none) (bzip : mg "zip" = none) (T : Txt mg) (R : RollC K mg C) (RC : CrC K mg Cr) :
    FnOk P w K mg base CX0 4 f fd ["self", "thing", "other"] (spBts C Cr) := by
  have GT : FnOk P w K mg base CX0 1 fT fdT ["self"] (spThi C) := ok_thi FT R
  have GK : FnOk P w K mg base CX0 1 fK fdK ["things", "thing"] spChT := ok_chT DK T
  have GA : FnOk P w K mg base CX0 3 fA fdA ["self", "thing", "other"] (spAb_ K C Cr) := ok_ab_ FA PO FO bO bsum bzip T R RC
  refine F.ok scBts (fun vs H Q E h => ?_) (fun cdv A outer sh H vs Q E hr h => ?_)
  · obtain ⟨c, z, ys, ns, a, b, rfl, _⟩ := h
    rfl
  · obtain ⟨c, z, ys, ns, a, b, rfl, hz, as, q⟩ := h
    refine ⟨_, pss_cons (ps_expr (pe_call GK (hr.mono (by decide)) (by rfl) DK.g DK.F.kp DK.b .nil pass0 (pa_cons (pe_prop (pe_fld (pv 0) rfl) R.cls PT GT (hr.mono (by decide)) bT .nil pass0 rfl) (pa_cons (pv 1) pa_nil))))
      (pss_cons (ps_expr (pe_call GK (hr.mono (by decide)) (by rfl) DK.g DK.F.kp DK.b .nil pass0 (pa_cons (pe_prop (pe_fld (pv 0) rfl) R.cls PT GT (hr.mono (by decide)) bT .nil pass0 rfl) (pa_cons (pv 2) pa_nil))))
      (pss_one (ps_ret (pe_cmpR op_gt (pe_meth (pv 0) RC.cls mA GA (hr.mono (by decide)) bA .nil pass0 (pa_cons (pv 1) (pa_cons (pv 2) pa_nil))) (pe_meth (pv 0) RC.cls mA GA (hr.mono (by decide)) bA .nil pass0 (pa_cons (pv 2) (pa_cons (pv 1) pa_nil))) (nomark _))))), ?_⟩
    obtain ⟨hc, dx, fs, r, t, e, l, no, ra⟩ := id hz
    obtain ⟨dr, fr, hr1, _⟩ := id ra
    refine ⟨_, rfl, c, Cr, dx, fs, _, rfl, e, RC.cls, RC.no1, l, r, dr, fr, rfl, hr1, r, t, z, rfl, ra, _, rfl, z, a, rfl, as.ha, ?_⟩
    refine ⟨_, rfl, c, Cr, dx, fs, _, rfl, e, RC.cls, RC.no1, l, r, dr, fr, rfl, hr1, r, t, z, rfl, ra, _, rfl, z, b, rfl, as.hb, ?_⟩
    refine ⟨_, rfl, c, dx, fs, rfl, e, no _ (by decide) (by decide) (by decide), _, rfl, _, rfl, c, ys, ns, a, b, rfl, hc, as.len, as.few, as.fnd, fun H1 s1 => ?_⟩
    exact ⟨_, rfl, c, dx, fs, rfl, s1 _ _ e, no _ (by decide) (by decide) (by decide), _, rfl, _, rfl, c, ys, ns, b, a, rfl, hc.same s1, as.len, as.few, as.swap.fnd, fun H2 s2 => ⟨_, _, rfl, rfl, q _ (s1.trans s2)⟩⟩
end
end L2.Cal
end

section
set_option maxRecDepth 100000
set_option maxHeartbeats 4000000
set_option synthInstance.maxHeartbeats 400000
namespace L2.Cal
open PySem PySem.Spec PyProof.Rows L2
abbrev sBtn : Stmt := crS 14
theorem scBtn : FnScope ["self", "things", "thing", "other"] ["self"] (defScope sBtn) := ⟨rfl, rfl, rfl, by decide +kernel, rfl, by decide +kernel, by decide +kernel⟩
/-- len of a dict, also of one that is walked along -/
theorem call_lenR {X : Cx} : CallR X (.builtin "len") (fun xs H Q => ∃ a kvs, xs = [V.ref a] ∧ Rd H a (.dK kvs) ∧ Q (.int ((kvs.length : Nat) : Int)) H) := by
  intro pins s σ H xs us Q I r h
  obtain ⟨a, kvs, rfl, ha, q⟩ := h
  obtain ⟨u, rfl, ru⟩ := vals1 r
  cases ru
  exact d_len I ha fun t s' I' => ⟨.int kvs.length, H, I', ⟨t, rfl⟩, q⟩
theorem dc_it {J : It} {n : Nat} {G : Hp → Prop} {Y : Nat → Hp → V → Hp → Prop} (w : Walk J n G Y) {g : TG} {tt : TT} {tk tv : TE} {vs : List Nat} {σ : St} {H1 : Hp} {D : Addr} {Qd : Hp → Prop} (Pv : Nat → Hp → Prop)
    (h0 : Pv 0 (upd H1 D (.dK []))) (hl : ∀ i H, i ≤ n → Pv i H → G H)
    (hs : ∀ i x H H', i < n → Pv i H → Y i H x H' → g x (wipe σ vs) H' fun σ2 H2 => wipe σ2 vs = wipe σ vs ∧ tt σ2 H2 fun b H3 => if b = true then tk σ2 H3 fun y H4 => tv σ2 H4 fun z H5 => ∃ kvs k, y = kV k ∧ H5 D = some (.dK kvs) ∧ kvs.length < sizeLine ∧ Pv (i + 1) (upd H5 D (.dK (putK kvs k z))) else Pv (i + 1) H3)
    (hd : ∀ H, Pv n H → Qd H) :
    ∃ W : Nat → Nat → Hp → Prop, (∃ m, W 0 m (upd H1 D (.dK []))) ∧ ∀ i m H, W i m H → (J.stop i H ∧ Qd H) ∨ (J.go i H ∧ ∃ Nx : Hp → Prop, (∀ H', Nx H' → ∃ m', m' < m ∧ W (i + 1) m' H') ∧ ∀ x H', J.yld i H x H' → g x (wipe σ vs) H' fun σ2 H2 => wipe σ2 vs = wipe σ vs ∧ tt σ2 H2 fun b H3 => if b = true then tk σ2 H3 fun y H4 => tv σ2 H4 fun z H5 => ∃ kvs k, y = kV k ∧ H5 D = some (.dK kvs) ∧ kvs.length < sizeLine ∧ Nx (upd H5 D (.dK (putK kvs k z))) else Nx H3) := by
  obtain ⟨g1, g2, g3⟩ := w
  refine ⟨fun i m H => i ≤ n ∧ m = n - i ∧ Pv i H, ⟨n, Nat.zero_le _, rfl, h0⟩, fun i m H hW => ?_⟩
  obtain ⟨hi, rfl, hp⟩ := hW
  by_cases e : i = n
  · subst e
    exact .inl ⟨g2 H (hl _ _ hi hp), hd _ hp⟩
  · have lt : i < n := by omega
    have gh := hl _ _ hi hp
    exact .inr ⟨g1 i H lt gh, Pv (i + 1), fun H' h => ⟨n - (i + 1), by omega, by omega, rfl, h⟩, fun x H' y => hs i x H H' lt hp (g3 i H x H' lt gh y)⟩
/-- what a thing beats -/
abbrev rJoinK (K : PySem.W.Frag) : V → List V → Hp → VK → Prop := (fun x xs H Q => ∃ a p, ∃ ys : List Str, x = .str a ∧ xs = [.ref p] ∧ (SqL K H p (ys.map V.str) ∨ SqT K H p (ys.map V.str)) ∧ (ys.map (·.length)).sum + ys.length * a.length ≤ 16777216 ∧ Q (.str (Txt.join a ys)) H)
def btB (ys : List Str) (ns : List Int) (a b : Nat) : Bool := decide (abv ys ns a b > abv ys ns b a)
def btS (z : Str) (ys : List Str) (ns : List Int) (a : Nat) : Str := ⟨(z.cps.toList.filter fun b => btB ys ns a b).toArray⟩
def bkv (z : Str) (ys : List Str) (ns : List Int) (l : List Nat) : List (Key × V) := l.map fun a => (.inr (chS a), V.str (btS z ys ns a))
structure AskAll (z : Str) (ys : List Str) (ns : List Int) : Prop where
  ask : ∀ a b, a ∈ z.cps.toList → b ∈ z.cps.toList → Ask z ys ns a b
  nd : z.cps.toList.Nodup
  z6 : z.cps.size ≤ 6
def spBtn (C Cr : Addr) : Sp := fun vs H Q _ => ∃ (c : Addr) (z : Str) (ys : List Str) (ns : List Int), vs = [.ref c] ∧ CrdZ C Cr H c z ys ns ∧ AskAll z ys ns ∧ ∀ (p : Addr) (H' : Hp), Same H H' → H p = none → H' p = some (.dK (bkv z ys ns z.cps.toList)) → Q (.ref p) H'
/-- the thing that beats all others -/
def winS (z : Str) (ys : List Str) (ns : List Int) : Option Nat := z.cps.toList.find? fun a => decide ((btS z ys ns a).cps.size + 1 = z.cps.size)
def spWin (C Cr : Addr) : Sp := fun vs H Q _ => ∃ (c : Addr) (z : Str) (ys : List Str) (ns : List Int), vs = [.ref c] ∧ CrdZ C Cr H c z ys ns ∧ AskAll z ys ns ∧ ∀ H', Same H H' → Q (match winS z ys ns with | some a => .str (chS a) | none => .non) H'
theorem bkv_val {z : Str} {ys : List Str} {ns : List Int} {a : Nat} : ∀ {l : List Nat}, a ∈ l → valV (bkv z ys ns l) (.inr (chS a)) = some (.str (btS z ys ns a))
  | b :: l, h => by
    by_cases e : b = a
    · subst e
      simp [valV, bkv]
    · have h := (List.mem_cons.mp h).resolve_left fun z => e z.symm
      have := bkv_val (z := z) (ys := ys) (ns := ns) h
      have ne : (Sum.inr (chS b) : Key) ≠ Sum.inr (chS a) := fun z => e (by
        have := Sum.inr.inj z
        simpa [chS] using this)
      unfold valV bkv at this ⊢
      rw [List.map_cons, List.find?_cons, decide_eq_false ne]
      exact this
theorem bkv_put {z : Str} {ys : List Str} {ns : List Int} {a : Nat} {l : List Nat} (h : a ∉ l) : putK (bkv z ys ns l) (.inr (chS a)) (.str (btS z ys ns a)) = bkv z ys ns (l ++ [a]) := by
  have no : ((bkv z ys ns l).any fun kv => decide (kv.1 = .inr (chS a))) = false := by
    rw [List.any_eq_false]
    intro kv hk
    obtain ⟨b, hb, rfl⟩ := List.mem_map.mp hk
    intro e
    have e := Sum.inr.inj (of_decide_eq_true e)
    have : b = a := by simpa [chS] using e
    exact h (this ▸ hb)
  unfold putK
  rw [no]
  unfold bkv
  rw [List.map_append] <;> rfl
section
variable {P : Program} {w : World} {K : PySem.W.Frag} {mg : Str → Option Value} {base : Heap} {C Cr : Addr}
theorem ok_btn {f fB fO fA fT fK : Addr} {fd fdB fdO fdA fdT fdK : FuncData} {pO pT : Addr} (F : Fun K "_beaten" "Crowd._beaten" sBtn f fd) (FB : Fun K "beats" "Crowd.beats" sBts fB fdB) (mB : Meth K Cr "beats" fB) (bB : Binds K fdB ["self", "thing", "other"] []) (FA : Fun K "_above" "Crowd._above" sAb_ fA fdA) (mA : Meth K Cr "_above" fA) (bA : Binds K fdA ["self", "thing", "other"] []) (DK : DefAt K mg "check_thing" sChT ["things", "thing"] fK fdK)
    (PT : PropOf K C "things" pT fT) (FT : Fun K "things" "Roll.things" sThi fT fdT) (bT : Binds K fdT ["self"] []) (PO : PropOf K C "orders" pO fO) (FO : Fun K "orders" "Roll.orders" sOrd fO fdO) (bO : Binds K fdO ["self"] []) (bsum : mg "sum" = none) (bzip : mg "zip" = none) (T : Txt mg) (R : RollC K mg C) (RC : CrC K mg Cr) :
    FnOk P w K mg base CX0 5 f fd ["self"] (spBtn C Cr) := by
  have GT : FnOk P w K mg base CX0 1 fT fdT ["self"] (spThi C) := ok_thi FT R
  have GB : FnOk P w K mg base CX0 4 fB fdB ["self", "thing", "other"] (spBts C Cr) := ok_bts FB FA mA bA DK PT FT bT PO FO bO bsum bzip T R RC
  refine F.ok scBtn (fun vs H Q E h => ?_) (fun cdv A outer sh H vs Q E hr h => ?_)
  · obtain ⟨c, z, ys, ns, rfl, _⟩ := h
    rfl
  · obtain ⟨c, z, ys, ns, rfl, hz, as, q⟩ := h
    have hb : blkC ["self", "things", "thing", "other"] (relS { kind := .function, names := [(".0", .local), ("thing", .cell), ("self", .free), ("things", .free)], isGenerator := false, isCoroutine := false } (defScope sBtn))
        { kind := .function, names := [(".0", .local), ("other", .local), ("self", .free), ("thing", .free)], isGenerator := false, isCoroutine := false } [("other", 3)] = true := by decide +kernel
    refine ⟨_, (pss_cons (ps_set (i := 1) scBtn.nd rfl (.inr rfl) (pe_prop (pe_fld (pv 0) rfl) R.cls PT GT (hr.mono (by decide)) bT .nil pass0 rfl))
      (pss_one (ps_ret (pe_dc (own := [("thing", 2)]) (g := gName 2) (tt := tYes) rfl scBtn.nd (pi_str (pv 1)) (blkOk_by (own := [("thing", 2)]) (N := ["self", "things", "thing", "other"]) (sc := defScope sBtn) (by decide +kernel))
        (fun _ _ _ _ _ => pg_name (i := 2) scBtn.nd rfl (Or.inr rfl)) (fun _ _ _ _ _ => pts_nil) (fun _ _ _ _ _ => pv 2)
        (fun _ _ _ _ _ => show PE _ _ (tM1 (rJoinK K) _ _) from pe_join pe_str (pe_lc (own := [("other", 3)]) (g := gName 3) (tt := _) rfl scBtn.nd (pi_str (pv 1)) (blkOk_by hb) (fun _ _ _ _ _ => pg_name (i := 3) scBtn.nd rfl (Or.inl rfl))
          (fun _ _ _ _ _ => pts_one (pt_val (pe_meth (pv 0) RC.cls mB GB (hr.mono (by decide)) bB .nil pass0 (pa_cons (pv 2) (pa_cons (pv 3) pa_nil))))) (fun _ _ _ _ _ => pv 3))))))), ?_⟩
    obtain ⟨hc, dx, fs, r, t, e, l, no, ra⟩ := id hz
    obtain ⟨dr, fr, hr1, _⟩ := id ra
    have zl : z.cps.toList.length = z.cps.size := Array.length_toList
    have z6 := as.z6
    refine ⟨_, rfl, c, Cr, dx, fs, _, rfl, e, RC.cls, RC.no1, l, r, dr, fr, rfl, hr1, r, t, z, rfl, ra, ?_⟩
    refine ⟨_, rfl, z, rfl, fun D nD => dc_it walk_str (fun i H' => Same H H' ∧ H' D = some (.dK (bkv z ys ns (z.cps.toList.take i)))) ⟨same_new nD, upd_same⟩ (fun _ _ _ _ => trivial) (fun i x H1 H2 hi hP hY => ?_) (fun H1 hP => ?_)⟩
    · obtain ⟨sm, eD⟩ := hP
      obtain ⟨rfl, a, ha, rfl⟩ := hY
      have ea : z.cps.toList[i]? = some a := by rw [Array.getElem?_toList]; exact ha
      have am := List.mem_of_getElem? ea
      refine ⟨rfl, _, rfl, ⟨_, rfl⟩, _, rfl, z, rfl, fun D2 nD2 => lc_it walk_str (fun k H' => Same H2 H' ∧ H' D2 = some (.lst (((z.cps.toList.take k).filter fun b => btB ys ns a b).map fun b => V.str ⟨#[b]⟩))) ⟨same_new nD2, upd_same⟩ (fun _ _ _ _ => trivial) (fun k v H3 H4 hk hP hY => ?_) (fun H3 hP => ?_)⟩
      · obtain ⟨s3', eD2⟩ := hP
        obtain ⟨rfl, b, hb', rfl⟩ := hY
        have eb : z.cps.toList[k]? = some b := by rw [Array.getElem?_toList]; exact hb'
        have bm := List.mem_of_getElem? eb
        have S := sm.trans s3'
        refine ⟨rfl, _, rfl, c, dx, fs, rfl, S _ _ e, no _ (by decide) (by decide) (by decide), _, rfl, _, rfl, c, z, ys, ns, a, b, rfl, hz.same S, as.ask a b am bm, fun H5 s5 => ⟨_, rfl, ite2 (fun e1 => ?_) (fun e1 => ?_)⟩⟩
        · have e1 : btB ys ns a b = true := e1
          refine ⟨_, rfl, _, s5 _ _ eD2, ?_, fun b o h => ?_, ?_⟩
          · rw [List.length_map, sizeLine_eq]
            refine Nat.lt_of_le_of_lt (List.length_filter_le _ _) ?_
            rw [List.length_take]
            omega
          · rw [upd_ne (ne_of_none h nD2)]
            exact s5 _ _ (s3' _ _ h)
          · rw [upd_same, List.take_succ, eb, Option.toList_some, List.filter_append, List.map_append]
            rw [show [b].filter (fun b => btB ys ns a b) = [b] by rw [List.filter_cons, if_pos e1, List.filter_nil]] <;> rfl
        · have e1 : ¬ btB ys ns a b = true := e1
          refine ⟨s3'.trans s5, ?_⟩
          rw [s5 _ _ eD2, List.take_succ, eb, Option.toList_some, List.filter_append]
          rw [show [b].filter (fun b => btB ys ns a b) = [] by rw [List.filter_cons, if_neg e1, List.filter_nil], List.append_nil]
      · obtain ⟨s3', eD2⟩ := hP
        rw [List.take_of_length_le (by omega)] at eD2
        have e2 : H3 D2 = some (.lst ((signs (btS z ys ns a)).map V.str)) := by
          rw [eD2]
          unfold signs btS
          rw [List.map_map] <;> rfl
        have ps : (btS z ys ns a).cps.size ≤ 6 := by
          have := List.length_filter_le (fun b => btB ys ns a b) z.cps.toList
          show (z.cps.toList.filter fun b => btB ys ns a b).length ≤ 6
          omega
        refine ⟨_, D2, _, rfl, rfl, .inl (SqL.of e2), ?_, ?_⟩
        · rw [sign_sum, signs_length, show (PySem.Str.ofString "").length = 0 by decide +kernel]
          omega
        rw [join_signs]
        refine ⟨_, .inr (chS a), rfl, s3' _ _ eD, ?_, fun b o h => ?_, ?_⟩
        · unfold bkv
          rw [List.length_map, List.length_take, sizeLine_eq]
          omega
        · rw [upd_ne (ne_of_none h nD)]
          exact s3' _ _ (sm _ _ h)
        · have nin : a ∉ z.cps.toList.take i := fun h => by
            have nd := as.nd
            rw [← List.take_append_drop i z.cps.toList] at nd
            have hd : a ∈ z.cps.toList.drop i := by
              rw [List.mem_iff_getElem?]
              exact ⟨0, by rw [List.getElem?_drop]; exact ea⟩
            exact (List.nodup_append.mp nd).2.2 a h a hd rfl
          rw [upd_same, bkv_put nin, List.take_succ, ea] <;> rfl
    · obtain ⟨sm, eD⟩ := hP
      rw [List.take_of_length_le (by omega)] at eD
      exact q D _ sm nD eD
end
end L2.Cal
end

section
set_option maxRecDepth 100000
set_option maxHeartbeats 4000000
/-! a lambda with parameters, called from a built-in within the def that made it -/
namespace LamK
open PySem PySem.Spec PyProof.Rows L2 LamX NdefX
/-- its words, as those of a def within a def; the body is told apart -/
abbrev lamF (q : Str) (params : Arguments) (scope : Scope) (cl : List (Str × Addr)) (c : Addr) : NF := ⟨"<lambda>", q, params, [], scope, cl, c⟩
abbrev noXK : XK := fun _ _ _ => False
section
variable {X : Cx} {pins : List (Addr × Obj)} {σ : L2.St} {H : Hp} {s : Shared} {A : Around} {N ps fr : List Str} {scope : Scope} {q : Str} {params : Arguments} {body : Expr} {cl : List (Str × Addr)} {f c : Addr} {pm ctv : Value} {k : Nat} {xs : List V} {us : List Value} {ws : List (Option V)} {tb : TE} {Q : VK}
/-- f(us), where the lambda stands at f -/
theorem lam_do (I : Inv X pins σ H s) (S : NScope N ps fr scope) (C : CellsAt cl fr ws s.heap H) (e0 : Env0 X.prog X.w X.K X.mg X.base A X.stack s H) (hr : Room (k + 1) A)
    (hf : s.heap.get? f = some (PySem.W.kla_obj "<lambda>" q params body scope cl pm c ctv)) (hc : H c = some (CodeO c q)) (hbind : bindArgs (PySem.W.kla_fn "<lambda>" q params body scope cl pm (.ref c) ctv) ⟨us, []⟩ = pure (ps.zip us)) (hl : xs.length = ps.length) (r : Vals xs us)
    (hbody : ∀ (B : Around) (g : Shared) (G : Hp), Room k (B.deeper (envF (lamF q params scope cl c) f g.heap.objs.size)) → PE (ncx CX0 X.prog X.w X.K X.mg X.base N (lamF q params scope cl c) f B X.stack g G noXK) body tb)
    (ht : tb (startF N xs ws) H Q) : wpAny (model X.prog X.w) A (call (.ref f) us) (EP X pins σ Q) (fun _ _ => False) s := by
  have room := hr
  have told : codeAny (model X.prog X.w) A (.call (.ref f) ⟨us, []⟩) (CR CX0 X.stack X.prog X.w H s Q noXK) s := by
    refine PySem.W.kla_callFunE room.depth hf rfl S.co S.gen rfl (codeO_at I.hok hc) ?_
    rw [hbind]
    refine wpAny_pure (wpAny_newFunctionEnv S.nocell (fun y hy => S.par y.1 (List.of_mem_zip (show (y.1, y.2) ∈ ps.zip us from hy)).1) (fun g1 hns sb => ⟨I.nolimit.fresh _ sb, PySem.W.kla_codeExpr ?_⟩) S.kind)
    have more : ∀ b o, s.heap.get? b = some o → g1.get? b = some o := fun b o e => sb.extBut b o (Nat.ne_of_lt (Heap.lt_size e)) (Heap.get?_push_of_some _ e)
    have J := inv_startN (CX := CX0) (F := lamF q params scope cl c) (f := f) (E := noXK) (tk := s.toks + (ps.zip us).length) S room.hd e0 hl r C hns more
    exact wpAny_mono ((hbody A s H (room.deeper _)).run [] _ _ H Q J ht) (fun v g ⟨y, G, J1, ry, qy⟩ => ⟨y, G, J1.os, J1.bare, J1.base, J1.hok, ry, qy⟩) fun e g z => z
  refine wpAny_call (codeAny_mono told fun r g hq => ?_)
  match r, hq with
  | .error e, hq => exact (show False from hq).elim
  | .ok (.ret v), hq => exact I.after hq
end
end LamK
end

section
set_option maxRecDepth 100000
set_option maxHeartbeats 4000000
/-! sorted(xs, key=f) where f runs in the def that sorts; the keys are whole numbers -/
namespace LamK
open PySem PySem.Spec PyProof.Rows L2 LamX PySem.W
/-- the key of a thing, as data -/
def keyN (key : V → Int) : V → PyData := fun x => .int (key x)
/-- Heap H has all that G has -/
abbrev Grown (G H : Hp) : Prop := ∀ b o, G b = some o → H b = some o
/-- values that are these numbers -/
abbrev AreN (us : List Value) (ns : List Int) : Prop := EachIs (fun v n => ∃ t, v = Value.int n t) us ns
theorem areN_reads {g : Heap} {key : V → Int} : ∀ {us : List Value} {xs : List V}, AreN us (xs.map key) → EachIs (fun v d => ∃ as, Reads g v d as) us (xs.map (keyN key))
  | [], [], _ => .nil
  | u :: us, x :: xs, h => by cases h with | cons a t => obtain ⟨tk, rfl⟩ := a; exact .cons ⟨[], .int _ _⟩ (areN_reads t)
  | [], x :: xs, h => by cases h
  | u :: us, [], h => by cases h
/-- the sort's own things and the function, as they stand while the keys are made -/
structure Mid (X : Cx) (σ : L2.St) (pins : List (Addr × Obj)) (H0 : Hp) (fo : Obj) (D L f e1 : Nat) (ns : List Int) (H : Hp) (s : Shared) : Prop where
  inv : Inv X pins σ H s
  up : Grown H0 H
  items : ∃ (made : Array Value) (n : Nat), s.heap.get? L = some (seqObj "list" made n) ∧ AreN made.toList ns
  bare : s.heap.get? D = some (seqObj "list" #[] e1)
  fn : s.heap.get? f = some fo
  noL : H L = none
  noD : H D = none
  noF : H f = none
section
variable {X : Cx} {pins : List (Addr × Obj)} {σ : L2.St} {H0 H : Hp} {s : Shared} {A : Around} {D L f e1 : Nat} {fo : Obj} {b : Bool} {us : List Value} {xs : List V} {key : V → Int}
/-- a key more -/
theorem Mid.more {ns : List Int} {x : V} {u : Value} (M : Mid X σ pins H0 fo D L f e1 ns H s) (fD : FpOk X pins H0 D) (fL : FpOk X pins H0 L) (hL : f ≠ X.env.locals ∧ f ∉ X.fs) (nF : ∀ v, fo.data ≠ .cell v) (LD : L ≠ D) (fL' : f ≠ L) (few : ns.length < sizeLine)
    (turn : ∀ (pl : List (Addr × Obj)), Inv X pl σ H s → wpAny (model X.prog X.w) A (call (.ref f) [u]) (EP X pl σ fun y H2 => y = .int (key x) ∧ Grown H H2) (fun _ _ => False) s) {E : Value → Shared → Prop} {R : Except Value Value → Shared → Prop}
    (k : ∀ (v : Value) (g : Shared), (∀ {Q : Unit → Shared → Prop} {E : Value → Shared → Prop}, (∀ g' H2, Mid X σ pins H0 fo D L f e1 (ns ++ [key x]) H2 g' → Q () g') → wpAny (model X.prog X.w) A (Builtin.List.listUpdate (.ref L) (·.push v)) Q E g) → R (.ok v) g) :
    wpAny (model X.prog X.w) A (call (.ref f) [u]).attempt R E s := by
  obtain ⟨made, n, eL, an⟩ := M.items
  have P := M.inv.pins_of (pins' := pins ++ [(f, fo), (L, seqObj "list" made n), (D, seqObj "list" #[] e1)]) fun p hp => by
    rcases List.mem_append.mp hp with h | h
    · exact M.inv.pin p (List.mem_append_right _ h)
    · simp only [List.mem_cons, List.not_mem_nil, or_false] at h
      rcases h with rfl | rfl | rfl
      · exact ⟨M.fn, M.noF, hL.1, hL.2, nF⟩
      · exact ⟨eL, M.noL, fL.2.1, fL.2.2.1, fun v z => by cases z⟩
      · exact ⟨M.bare, M.noD, fD.2.1, fD.2.2.1, fun v z => by cases z⟩
  refine wpAny_attempt (wpAny_mono (turn _ P) (fun v g hv => k v g fun {Q E} done => ?_) fun _ _ z => z.elim)
  obtain ⟨y, H2, J, rv, rfl, gr⟩ := hv
  obtain ⟨t, rfl⟩ := rv
  have held : ∀ p ∈ [(f, fo), (L, seqObj "list" made n), (D, seqObj "list" #[] e1)], g.heap.get? p.1 = some p.2 ∧ H2 p.1 = none := fun p hp => (fun z => ⟨z.1, z.2.1⟩) (J.pin p (List.mem_append_right _ (List.mem_append_right _ hp)))
  have hF := held (f, fo) (by simp)
  have hK := held (L, seqObj "list" made n) (by simp)
  have hD := held (D, seqObj "list" #[] e1) (by simp)
  have ml : made.size = ns.length := by rw [← an.length, Array.length_toList]
  have sb := Heap.SameBut.update g.heap L (Obj.mapSeq (·.push (Value.int (key x) t)))
  obtain ⟨n2, e2⟩ : ∃ m, (g.heap.update L (Obj.mapSeq (·.push (Value.int (key x) t)))).get? L = some (seqObj "list" (made.push (Value.int (key x) t)) m) := ⟨_, get?_update_seq hK.1 _⟩
  have J2 : Inv X pins σ H2 { g with heap := g.heap.update L (Obj.mapSeq (·.push (Value.int (key x) t))), toks := g.toks } :=
    Inv.turnedL (ch := [L]) (Inv.unpinned J) (fun c o hc e => (sb.2 c fun z => hc (by rw [z]; exact List.mem_cons_self)).trans e) fun c hc => by rw [List.mem_singleton.mp hc]; exact ⟨hK.2, fL.2⟩
  refine listUpdate_at hK.1 rfl (done _ H2 ⟨J2, fun c o e => gr c o (M.up c o e), ⟨_, n2, e2, ?_⟩, (sb.2 D LD.symm).trans hD.1, (sb.2 f fL').trans hF.1, hK.2, hD.2, hF.2⟩) (by omega) (by rw [Array.size_push]; omega)
  rw [Array.toList_push]
  exact each_snoc (R := fun (v : Value) (m : Int) => ∃ t, v = Value.int m t) ⟨t, rfl⟩ an
/-- the keys are all made: the sort goes to its end -/
theorem Mid.last (M : Mid X σ pins H0 fo D L f e1 (xs.map key) H s) (fD : FpOk X pins H0 D) (fL : FpOk X pins H0 L) (LD : L ≠ D) (hu : A.units < cLine) (rv : EachIs (fun v x => RelV x v) us xs) (few : us.length ≤ sizeLine) {E : Value → Shared → Prop} {R : PySem.Fin → Shared → Prop}
    (fin : ∀ (g : Shared) (out : List Value) (m : Nat), Inv X pins σ H g → g.heap.get? D = some (seqObj "list" (List.toArray out) m) → EachIs (fun v x => RelV x v) out (xs.mergeSort (dataLe b (keyN key))) → R (.done (.ret .none)) g) :
    wpAny (model X.prog X.w) A (Builtin.List.listItems (.ref L) >>= fun keys => ksk_end D b us.toArray e1 (.ref L) keys) R E s := by
  obtain ⟨made, n, eL, an⟩ := M.items
  have rd := areN_reads (g := s.heap) an
  have al : AllAlike (xs.map (keyN key)) := AllAlike.of fun _ _ => by simp [keyN, alike]
  have so : Sortable (xs.map (keyN key)) := .inr fun d hd => by
    obtain ⟨x, _, rfl⟩ := List.mem_map.mp hd
    exact ⟨(fun z => by cases z), (fun ys z => by cases z)⟩
  have ml : made.size = us.length := by rw [rv.length, ← Array.length_toList, an.length, List.length_map]
  obtain ⟨G, g1, g2⟩ := restrict s.heap fun c => decide (c ≠ L)
  have gL : G.get? L = none := g2 L (decide_eq_false fun z => z rfl)
  have go : ∀ {c : Addr}, c ≠ L → G.get? c = s.heap.get? c := fun z => g1 _ (decide_eq_true z)
  have GS : KeepsBut D G s.heap := fun c o _ e => by
    rcases Decidable.em (c = L) with z | z
    · rw [z, gL] at e; cases e
    · rw [go z] at e; exact e
  refine wpAny_bind (listItems_at eL rfl (keyH_end (κ := dataKind s.heap (xs.map (keyN key))) GS gL eL M.bare LD (SortsAt.data rd al so fun d hd => ?_) ml few fun g tk m kb eD => ?_))
  · obtain ⟨x, _, rfl⟩ := List.mem_map.mp hd
    rw [show (keyN key x).depth = 0 by simp [keyN, PyData.depth], Nat.add_zero]
    exact hu
  · refine fin _ _ m (M.inv.turnedL (ch := [L, D]) (fun c o hc e => ?_) fun c hc => ?_) eD (keyedOut_each (keyN key) ⟨s.heap, made.toList, al, rfl, rd⟩ rv)
    · rw [List.mem_cons, List.mem_singleton, not_or] at hc
      exact kb c o hc.2 ((go hc.1).trans e)
    · rw [List.mem_cons, List.mem_singleton] at hc
      rcases hc with rfl | rfl
      · exact ⟨M.noL, fL.2⟩
      · exact ⟨M.noD, fD.2⟩
theorem vals_each : ∀ {xs : List V} {us : List Value}, Vals xs us → EachIs (fun v x => RelV x v) us xs
  | _, _, .nil => .nil
  | _, _, .cons r t => .cons r (vals_each t)
theorem each_vals : ∀ {xs : List V} {us : List Value}, EachIs (fun v x => RelV x v) us xs → Vals xs us
  | _, _, .nil => .nil
  | _, _, .cons r t => .cons r (each_vals t)
/-- all of an older heap stands in the heap that the sort begins with -/
theorem begin_old {h : Heap} {c : Addr} {o : Obj} {g : Array Value → Array Value} {o1 o2 : Obj} (e : h.get? c = some o) : (((((copyHeap h us).update (h.objs.size + 1) (Obj.mapSeq g)).push o1).push o2).get? c) = some o :=
  Heap.get?_push_of_some _ (Heap.get?_push_of_some _ ((Heap.get?_update_ne _ _ _ _ (Nat.ne_of_lt (Nat.lt_succ_of_lt (Heap.lt_size e)))).trans (copyHeap_old e)))
/-- sorted(xs, key=f, ..) -/
theorem key_sorted {a : Addr} {kw : List (Str × Value)} {Q : VK} {E : Value → Shared → Prop} (I : Inv X pins σ H s) (hs : SqL X.K H a xs) (eF : s.heap.get? f = some fo) (nF : ∀ v, fo.data ≠ .cell v) (hF : H f = none) (hL : f ≠ X.env.locals ∧ f ∉ X.fs) (hu : X.A.units + 2 < cLine)
    (a1 : argsOk "sorted" ⟨[.ref a], kw⟩) (a2 : ∀ z, argsOk "list.sort" ⟨[.ref z], kw⟩) (tr : ∀ z, Builtin.«list.sort» ⟨[.ref z], kw⟩ = ksk_tree z (.ref f) b)
    (turn : ∀ (x : V) (u : Value) (pl : List (Addr × Obj)) (g : Shared) (G : Hp), x ∈ xs → RelV x u → Inv X pl σ G g → Grown H G → g.heap.get? f = some fo →
      wpAny (model X.prog X.w) X.A.in1.in1 (call (.ref f) [u]) (EP X pl σ fun y G2 => y = .int (key x) ∧ Grown G G2) (fun _ _ => False) g)
    (q : ∀ p G, Grown H G → H p = none → G p = some (.lst (xs.mergeSort (dataLe b (keyN key)))) → Q (.ref p) G) :
    wpAny (model X.prog X.w) X.A (call (.builtin "sorted") [.ref a] kw) (EP X pins σ Q) E s := by
  obtain ⟨its, rv, hl, few⟩ := I.list hs
  have rx := vals_each rv
  have il : its.length ≤ sizeLine := by rw [rx.length]; exact few
  refine sorted_of_sort hl.isList il a1 a2 fun E' => ?_
  rw [tr]
  have eD := copyHeap_at s.heap its
  obtain ⟨e1, eD1⟩ : ∃ m, ((copyHeap s.heap its).update (s.heap.objs.size + 1) (Obj.mapSeq fun _ => (#[] : Array Value))).get? (s.heap.objs.size + 1) = some (seqObj "list" #[] m) := ⟨_, get?_update_seq eD fun _ => #[]⟩
  unfold ksk_tree
  refine wpAny_bind (listItems_at eD rfl (wpAny_bind (listUpdate_at eD rfl (wpAny_bind (seqEpoch_at eD1 rfl (wpAny_bind (wpAny_newTuple (wpAny_bind (wpAny_newList (wpAny_holding ?_) (Nat.zero_le _))) (by show its.length ≤ _; exact il))))) (by rw [List.size_toArray]; exact il) (Nat.zero_le _))))
  obtain ⟨L, hLe⟩ : ∃ L, L = (((copyHeap s.heap its).update (s.heap.objs.size + 1) (Obj.mapSeq fun _ => (#[] : Array Value))).push (seqObj "tuple" its.toArray 0)).objs.size := ⟨_, rfl⟩
  have cz : s.heap.objs.size + 1 < (copyHeap s.heap its).objs.size := Heap.lt_size eD
  have Lz : s.heap.objs.size + 1 < L := by
    rw [hLe, size_push', Heap.size_update]
    omega
  obtain ⟨h4, eh⟩ : ∃ h4, h4 = (((copyHeap s.heap its).update (s.heap.objs.size + 1) (Obj.mapSeq fun _ => (#[] : Array Value))).push (seqObj "tuple" its.toArray 0)).push (seqObj "list" #[] 0) := ⟨_, rfl⟩
  have old : ∀ c o, s.heap.get? c = some o → h4.get? c = some o := fun c o e => by rw [eh]; exact begin_old e
  have fD : FpOk X pins H (s.heap.objs.size + 1) := I.fpOk (Nat.le_succ _) (I.hok.fresh (Nat.le_succ _))
  have fL : FpOk X pins H L := I.fpOk (by omega) (I.hok.fresh (by omega))
  have M0 : Mid X σ pins H fo (s.heap.objs.size + 1) L f e1 ((xs.map key).take 0) H { s with heap := h4 } := by
    refine ⟨I.kept (t' := s.toks) old, fun _ _ e => e, ⟨#[], 0, ?_, by rw [List.take_zero]; exact .nil⟩, ?_, old _ _ eF, fL.1, fD.1, hF⟩
    · show h4.get? L = _
      rw [eh, hLe]
      exact Heap.get?_push_size _ rfl
    · show h4.get? _ = _
      rw [eh]
      exact Heap.get?_push_of_some _ (Heap.get?_push_of_some _ eD1)
  have fL' : f ≠ L := fun z => by
    have h1 : f < s.heap.objs.size := Heap.lt_size eF
    rw [z] at h1
    omega
  rw [← hLe, ← eh]
  unfold ksk_rest
  refine wpAny_bind (wpAny_rule ?_)
  rw [List.forIn_toArray]
  refine wpAny_bind (ksk_fold (fun i g => ∃ G, Mid X σ pins H fo (s.heap.objs.size + 1) L f e1 ((xs.map key).take i) G g) its 0 _ ⟨H, M0⟩ (fun j u g hj hM => ?_) fun g hM => ?_)
  · obtain ⟨G, M⟩ := hM
    rw [Nat.zero_add] at M ⊢
    have jl := (List.getElem?_eq_some_iff.mp hj).1
    obtain ⟨x, hx⟩ : ∃ x, xs[j]? = some x := ⟨_, List.getElem?_eq_getElem (by rw [← rx.length]; exact jl)⟩
    have rel : RelV x u := rx.zip (u, x) (List.mem_of_getElem? (i := j) (by rw [List.getElem?_zip_eq_some]; exact ⟨hj, hx⟩))
    have nx : (xs.map key).take (j + 1) = (xs.map key).take j ++ [key x] := by rw [List.take_succ, List.getElem?_map, hx] <;> rfl
    refine wpAny_bind (M.more fD fL hL nF (by omega) fL' (by rw [List.length_take, List.length_map]; omega) (fun pl J => turn x u pl g G (List.mem_of_getElem? hx) rel J M.up M.fn) fun v g2 push => ?_)
    dsimp only
    exact wpAny_bind (push fun g3 G2 M2 => wpAny_pure ⟨rfl, G2, by rw [nx]; exact M2⟩)
  · obtain ⟨G, M⟩ := hM
    rw [Nat.zero_add, rx.length, List.take_of_length_le (by rw [List.length_map]; exact Nat.le_refl _)] at M
    refine M.last fD fL (by omega) hu rx il fun g2 out m J eO ro => ⟨rfl, ?_⟩
    have len : (xs.mergeSort (dataLe b (keyN key))).length ≤ sizeLine := by rw [(List.mergeSort_perm _ _).length_eq]; exact few
    have nD := fD.1
    refine ⟨.ref _, upd G (s.heap.objs.size + 1) (.lst (xs.mergeSort (dataLe b (keyN key)))), J.take (h' := g2.heap) (t' := g2.toks) (fun _ _ _ e => e) ⟨M.noD, fD.2⟩ ⟨len, out, m, each_vals ro, eO⟩, rfl, q _ _ (fun c o e => ?_) nD upd_same⟩
    rw [upd_ne (ne_of_none e nD)]
    exact M.up c o e
end
end LamK
end

section
set_option maxRecDepth 100000
set_option maxHeartbeats 4000000
/-! the expression sorted(xs, key=lambda p: ..) -/
namespace LamK
open PySem PySem.Spec PyProof.Rows L2 LamX NdefX PySem.W
section
variable {X : Cx} {pins : List (Addr × Obj)} {σ : L2.St} {H : Hp} {s : Shared}
theorem seqL_ext {K : PySem.W.Frag} {G G' : Hp} {a : Addr} {xs : List V} (h : SqL K G a xs) (e : ExtN G G') : SqL K G' a xs := by
  rcases h with (h | ⟨o, h⟩) | h
  · exact .inl (.inl (e _ _ h fun ps z => by cases z))
  · exact .inl (.inr ⟨o, e _ _ h fun ps z => by cases z⟩)
  · exact .inr h
/-- what it asks and gives: the keys of the things, and a list of them in their order -/
def tSortK (T : List (Addr × Str)) (ta : TA) (tb : TE) (N : List Str) (js : List Nat) (rev : Bool) : TE := fun σ H Q => ta σ H fun vs H1 => ∃ (a : Addr) (xs : List V), vs = [.ref a] ∧ H1 a = some (.lst xs) ∧ Tabs T H1 ∧
  ∀ H2, ExtN H1 H2 → Tabs T H2 → ∃ key : V → Int, (∀ x ∈ xs, ∀ G, Grown H2 G → tb (startF N [x] (js.map (slotAt σ))) G fun y G2 => y = .int (key x) ∧ Grown G G2) ∧
    ∀ p G, Grown H2 G → H2 p = none → G p = some (.lst (xs.mergeSort (dataLe rev (keyN key)))) → Q (.ref p) G
theorem pe_sortK {T : List (Addr × Str)} {ta : TA} {tb : TE} {N : List Str} {p : Str} {fr : List Str} {js : List Nat} {c P : Addr} {params : Arguments} {body : Expr} {scope : Scope} {k : Nat} {e : Expr} {p1 lpos kpos pos : Pos}
    (hg : Gl X "sorted") (hm : X.mg "sorted" = none) (ha : PA X [e] ta) (TB : TabB X.base X.mg c P) (hcode : X.env.code = .ref c) (hmT : (P, X.env.qual ++ "<lambda>") ∈ T) (hu : ∀ z ∈ T, z.1 = P → z.2 = X.env.qual ++ "<lambda>") (hr : Room (k + 3) X.A)
    (hB : ndefB X.env.scope scope fr = true) (S : NScope N [p] fr scope) (hdef : defaultsOf params X.env = ([], [])) (hjs : js.map (fun j => X.N[j]?) = fr.map some) (hst : ∀ b, b = X.env.locals ∨ b ∈ X.fs → b ∈ frs X.stack)
    (hbind : ∀ (q : Str) (cl : List (Str × Addr)) (pm cv ctv u : Value), bindArgs (PySem.W.kla_fn "<lambda>" q params body scope cl pm cv ctv) ⟨[u], []⟩ = pure [(p, u)])
    (hbody : ∀ (q : Str) (cl : List (Str × Addr)) (c' f : Addr) (B : Around) (g : Shared) (G : Hp), Room k (B.deeper (envF (lamF q params scope cl c') f g.heap.objs.size)) → PE (ncx CX0 X.prog X.w X.K X.mg X.base N (lamF q params scope cl c') f B X.stack g G noXK) body tb)
    (h1 : backTo pos (starEach [e] X.env) = (false, eval e X.env) :: backTo pos (starEach [] X.env) := by rfl) (h2 : (backTo pos (starEach [e] X.env)).any (·.1) = false := by rfl) :
    PE X (.Call (.Name "sorted" p1) [e] [⟨some "key", .Lambda params body scope lpos, kpos⟩] pos) (tSortK T ta tb N js false) := by
  refine ⟨fun pins s σ H Q I h => ?_⟩
  refine wpAny_Call_Name_kw (ld_blt I hg hm PyProof.Rows.boot_sorted (PyProof.Rows.callWith_kw (thn (ha.run pos pins s σ H _ I h) fun us s1 ⟨vs, H1, I1, r1, q1⟩ => ?_) h1 h2 (by rfl) (by rfl)))
  obtain ⟨a, xs, rfl, hs, hT, q1⟩ := q1
  rw [Vals.ref1 r1]
  have free := ndef_free hB
  have caps := Caps.made I.ok free (ndef_fr hB) hjs
  refine wpAny_evalAll_cons (wpAny_bind (lam_make2 I1 TB hcode hmT hu hT hdef (fun y hy z => (free y hy z).elim (fun w => I.ok.has _ (.inl w)) fun w => I.ok.has _ (.inr w)) fun f c' pm ctv H2 s2 I2 eN T2 hf hfn hfr hco => wpAny_bind (wpAny_standAt (wpAny_pure (wpAny_evalAll_nil ?_)))))
  obtain ⟨key, keys, done⟩ := q1 H2 eN T2
  have e1 := I2.env0
  show wpAny _ _ (call (.builtin "sorted") [.ref a] [(Str.ofString "key", .ref f)]) _ _ s2
  refine key_sorted (b := false) (key := key) (f := f) I2 (SqL.of (eN _ _ hs fun ps z => by cases z)) hf (fun v z => by cases z) hfn ⟨fun z => hfr (hst _ (.inl z)), fun z => hfr (hst _ (.inr z))⟩ ?_ (PyProof.Rows.ksk_s1 _ _) (fun z => PyProof.Rows.ksk_l1 _ _) (fun z => PyProof.Rows.ksk_t1 _ _) (fun x u pl g G hx rx J gr eF => ?_) done
  · have := hr.units
    omega
  · exact lam_do (N := N) (ps := [p]) (fr := fr) (ws := js.map (slotAt σ)) (xs := [x]) (us := [u]) J S (cells_of J caps) J.env0.in1.in1 (hr.mono (by omega)).in1.in1 eF (gr _ _ hco) (hbind _ _ _ _ _ _) rfl (.cons rx .nil) (fun B g' G' room => hbody _ _ _ _ B g' G' room) (keys x hx G gr)
theorem pe_sortKR {T : List (Addr × Str)} {ta : TA} {tb : TE} {N : List Str} {p : Str} {fr : List Str} {js : List Nat} {c P : Addr} {params : Arguments} {body : Expr} {scope : Scope} {k : Nat} {e : Expr} {p1 lpos kpos pos k2 c2 : Pos} {kk : Nat}
    (hg : Gl X "sorted") (hm : X.mg "sorted" = none) (ha : PA X [e] ta) (TB : TabB X.base X.mg c P) (hcode : X.env.code = .ref c) (hmT : (P, X.env.qual ++ "<lambda>") ∈ T) (hu : ∀ z ∈ T, z.1 = P → z.2 = X.env.qual ++ "<lambda>") (hr : Room (k + 3) X.A)
    (hB : ndefB X.env.scope scope fr = true) (S : NScope N [p] fr scope) (hdef : defaultsOf params X.env = ([], [])) (hjs : js.map (fun j => X.N[j]?) = fr.map some) (hst : ∀ b, b = X.env.locals ∨ b ∈ X.fs → b ∈ frs X.stack)
    (hbind : ∀ (q : Str) (cl : List (Str × Addr)) (pm cv ctv u : Value), bindArgs (PySem.W.kla_fn "<lambda>" q params body scope cl pm cv ctv) ⟨[u], []⟩ = pure [(p, u)])
    (hbody : ∀ (q : Str) (cl : List (Str × Addr)) (c' f : Addr) (B : Around) (g : Shared) (G : Hp), Room k (B.deeper (envF (lamF q params scope cl c') f g.heap.objs.size)) → PE (ncx CX0 X.prog X.w X.K X.mg X.base N (lamF q params scope cl c') f B X.stack g G noXK) body tb)
    (h1 : backTo pos (starEach [e] X.env) = (false, eval e X.env) :: backTo pos (starEach [] X.env) := by rfl) (h2 : (backTo pos (starEach [e] X.env)).any (·.1) = false := by rfl) :
    PE X (.Call (.Name "sorted" p1) [e] [⟨some "key", .Lambda params body scope lpos, kpos⟩, ⟨some "reverse", .Constant (.bool true) kk c2, k2⟩] pos) (tSortK T ta tb N js true) := by
  refine ⟨fun pins s σ H Q I h => ?_⟩
  refine wpAny_Call_Name_kw (ld_blt I hg hm PyProof.Rows.boot_sorted (PyProof.Rows.callWith_kw (thn (ha.run pos pins s σ H _ I h) fun us s1 ⟨vs, H1, I1, r1, q1⟩ => ?_) h1 h2 (by rfl) (by rfl)))
  obtain ⟨a, xs, rfl, hs, hT, q1⟩ := q1
  rw [Vals.ref1 r1]
  have free := ndef_free hB
  have caps := Caps.made I.ok free (ndef_fr hB) hjs
  refine wpAny_evalAll_cons (wpAny_bind (lam_make2 I1 TB hcode hmT hu hT hdef (fun y hy z => (free y hy z).elim (fun w => I.ok.has _ (.inl w)) fun w => I.ok.has _ (.inr w)) fun f c' pm ctv H2 s2 I2 eN T2 hf hfn hfr hco => wpAny_bind (wpAny_standAt (wpAny_pure (wpAny_evalAll_cons (wpAny_bind (wpAny_Constant_bool (wpAny_bind (wpAny_standAt (wpAny_pure (wpAny_evalAll_nil ?_)))))))))))
  obtain ⟨key, keys, done⟩ := q1 H2 eN T2
  have e1 := I2.env0
  show wpAny _ _ (call (.builtin "sorted") [.ref a] [(Str.ofString "key", .ref f), (Str.ofString "reverse", .bool true)]) _ _ s2
  refine key_sorted (b := true) (key := key) (f := f) I2 (SqL.of (eN _ _ hs fun ps z => by cases z)) hf (fun v z => by cases z) hfn ⟨fun z => hfr (hst _ (.inl z)), fun z => hfr (hst _ (.inr z))⟩ ?_ (PyProof.Rows.ksk_s2 _ _ _) (fun z => PyProof.Rows.ksk_l2 _ _ _) (fun z => PyProof.Rows.ksk_t2 _ _ _) (fun x u pl g G hx rx J gr eF => ?_) done
  · have := hr.units
    omega
  · exact lam_do (N := N) (ps := [p]) (fr := fr) (ws := js.map (slotAt σ)) (xs := [x]) (us := [u]) J S (cells_of J caps) J.env0.in1.in1 (hr.mono (by omega)).in1.in1 eF (gr _ _ hco) (hbind _ _ _ _ _ _) rfl (.cons rx .nil) (fun B g' G' room => hbody _ _ _ _ B g' G' room) (keys x hx G gr)
end
end LamK
end

section
set_option maxRecDepth 100000
set_option maxHeartbeats 4000000
set_option synthInstance.maxHeartbeats 400000
/-! the order of the most -/
namespace L2.Cal
open PySem PySem.Spec PyProof.Rows L2 LamX LamK
abbrev sOdr : Stmt := crS 10
abbrev nOdr : List Str := ["self", "beaten", "ranked", "at", "thing", "other"]
theorem scOdr : FnScope nOdr ["self"] (defScope sOdr) := ⟨rfl, rfl, rfl, by decide +kernel, rfl, by decide +kernel, by decide +kernel⟩
/-- a def whose code object is known -/
theorem Fun_okT {P : Program} {w : World} {K : PySem.W.Frag} {mg : Str → Option Value} {base : Heap} {x qual : Str} {st : Stmt} {f c : Addr} {fd : FuncData} {N ps : List Str} {k : Nat} {sp : Sp} (F : Fun K x qual st f fd) (hc : fd.code = .ref c) (S : FnScope N ps (defScope st)) (many : ∀ us H Q E, sp us H Q E → us.length = ps.length)
    (body : ∀ (A : Around) (outer : List Env) (s : Shared) (H : Hp) (us : List V) (Q : VK) (E : XK), Room k (A.deeper (envOfC qual (defScope st) s.heap.objs.size f (.ref c))) → sp us H Q E →
      ∃ t, PSs (cxOf CX0 P w K mg base N qual (defScope st) f (.ref c) A outer s H E).nox (defBody st) t ∧ t { nx := fun _ H' => Q .non H', rt := Q } (start N us) H) : FnOk P w K mg base CX0 (k + 1) f fd ps sp := by
  obtain ⟨c1, c2, c3, c4, c5, c6, c7, c8, c9, rfl, look, code⟩ := F.ex
  obtain rfl : c7 = .ref c := hc
  refine fn_of look code S many fun A outer s H us Q E room promise => ?_
  obtain ⟨t, walks, asked⟩ := body A outer s H us Q E room promise
  exact ⟨t, walks.nox, asked⟩
abbrev ordQ : Str := (envOfC "Crowd.order" (defScope sOdr) 0 0 .none).qual ++ "<lambda>"
/-- how many a thing beats -/
def nbt (z : Str) (ys : List Str) (ns : List Int) (a : Nat) : Nat := (btS z ys ns a).cps.size
def nbK (z : Str) (ys : List Str) (ns : List Int) : V → Int
  | .str s => (nbt z ys ns (s.cps.getD 0 0) : Nat)
  | _ => 0
/-- the things, those that beat more ahead -/
def rkd (z : Str) (ys : List Str) (ns : List Int) : List Nat := z.cps.toList.mergeSort fun a b => decide (nbt z ys ns b ≤ nbt z ys ns a)
theorem rkd_vals (z : Str) (ys : List Str) (ns : List Int) (l : List Nat) : (l.map fun a => V.str (chS a)).mergeSort (PySem.W.dataLe true (keyN (nbK z ys ns))) = (l.mergeSort fun a b => decide (nbt z ys ns b ≤ nbt z ys ns a)).map fun a => V.str (chS a) := by
  rw [List.map_mergeSort]
  intro a _ b _
  show decide (nbt z ys ns b ≤ nbt z ys ns a) = !PySem.W.dataLt (.int (nbt z ys ns a : Nat)) (.int (nbt z ys ns b : Nat))
  rw [PySem.W.dataLt_int]
  by_cases h : nbt z ys ns b ≤ nbt z ys ns a
  · rw [decide_eq_true h, decide_eq_false (by omega)] <;> rfl
  · rw [decide_eq_false h, decide_eq_true (by omega)] <;> rfl
theorem rkd_perm (z : Str) (ys : List Str) (ns : List Int) : (rkd z ys ns).Perm z.cps.toList := List.mergeSort_perm _ _
theorem in_btO {z : Str} {ys : List Str} {ns : List Int} {a b : Nat} (h : b ∈ z.cps.toList) : decide (b ∈ (btS z ys ns a).cps.toList) = btB ys ns a b := by
  have : b ∈ (btS z ys ns a).cps.toList ↔ btB ys ns a b = true := by
    show b ∈ z.cps.toList.filter (fun b => btB ys ns a b) ↔ _
    rw [List.mem_filter]
    exact ⟨fun h => h.2, fun g => ⟨h, g⟩⟩
  rw [Bool.eq_iff_iff, decide_eq_true_eq]
  exact this
theorem cutV_from (xs : List V) (k : Nat) : cutV xs (some (k : Int)) none = xs.drop k := by
  unfold cutV
  rw [HT.sIx_none, HT.sIx_nat]
  refine (List.take_of_length_le ?_).trans ?_
  · rw [List.length_drop]; exact Nat.le_refl _
  · rcases Nat.le_total k xs.length with h | h
    · rw [Nat.min_eq_left h]
    · rw [Nat.min_eq_right h, List.drop_of_length_le (by omega), List.drop_of_length_le (by omega)]
def okAt (z : Str) (ys : List Str) (ns : List Int) (i : Nat) : Bool := ((rkd z ys ns).drop (i + 1)).all fun b => btB ys ns ((rkd z ys ns).getD i 0) b
def ordB_ (z : Str) (ys : List Str) (ns : List Int) : Bool := (List.range z.cps.size).all (okAt z ys ns)
def OdrV (z : Str) (ys : List Str) (ns : List Int) : V := if ordB_ z ys ns = true then .str ⟨(rkd z ys ns).toArray⟩ else .non
def spOdr (T : List (Addr × Str)) (C Cr : Addr) : Sp := fun vs H Q _ => ∃ (c : Addr) (z : Str) (ys : List Str) (ns : List Int), vs = [.ref c] ∧ CrdZ C Cr H c z ys ns ∧ AskAll z ys ns ∧ Tabs T H ∧ ∀ H', ExtN H H' → Tabs T H' → Q (OdrV z ys ns) H'
section
variable {P : Program} {w : World} {K : PySem.W.Frag} {mg : Str → Option Value} {base : Heap} {C Cr : Addr}
theorem ok_odr {f c Pt fN fB fO fA fT fK : Addr} {fd fdN fdB fdO fdA fdT fdK : FuncData} {pO pT : Addr} {TT : List (Addr × Str)} (F : Fun K "order" "Crowd.order" sOdr f fd) (hc : fd.code = .ref c) (TB : TabB base mg c Pt) (hmT : (Pt, ordQ) ∈ TT) (hu : ∀ z ∈ TT, z.1 = Pt → z.2 = ordQ) (FN : Fun K "_beaten" "Crowd._beaten" sBtn fN fdN) (mN : Meth K Cr "_beaten" fN) (bN : Binds K fdN ["self"] []) (FB : Fun K "beats" "Crowd.beats" sBts fB fdB) (mB : Meth K Cr "beats" fB) (bB : Binds K fdB ["self", "thing", "other"] []) (FA : Fun K "_above" "Crowd._above" sAb_ fA fdA) (mA : Meth K Cr "_above" fA) (bA : Binds K fdA ["self", "thing", "other"] []) (DK : DefAt K mg "check_thing" sChT ["things", "thing"] fK fdK)
    (PT : PropOf K C "things" pT fT) (FT : Fun K "things" "Roll.things" sThi fT fdT) (bT : Binds K fdT ["self"] []) (PO : PropOf K C "orders" pO fO) (FO : Fun K "orders" "Roll.orders" sOrd fO fdO) (bO : Binds K fdO ["self"] []) (bsum : mg "sum" = none) (bzip : mg "zip" = none) (T : Txt mg) (R : RollC K mg C) (RC : CrC K mg Cr) :
    FnOk P w K mg base CX0 6 f fd ["self"] (spOdr TT C Cr) := by
  have GN : FnOk P w K mg base CX0 5 fN fdN ["self"] (spBtn C Cr) := ok_btn FN FB mB bB FA mA bA DK PT FT bT PO FO bO bsum bzip T R RC
  refine Fun_okT F hc scOdr (fun vs H Q E h => ?_) (fun A outer s H vs Q E hr h => ?_)
  · obtain ⟨c, z, ys, ns, rfl, _⟩ := h
    rfl
  · obtain ⟨cw, z, ys, ns, rfl, hz, as, tb, q⟩ := h
    have hu1 : (A.deeper (envOfC (Str.ofString "Crowd.order") (defScope sOdr) s.heap.objs.size f (.ref c))).units + 1 < cLine := by
      have := hr.units
      omega
    refine ⟨_, (pss_cons (ps_set (i := 1) scOdr.nd rfl (.inr rfl) (pe_meth0 (pv 0) RC.cls mN GN (hr.mono (by decide)) bN .nil pass0))
      (pss_cons (ps_set (i := 2) scOdr.nd rfl (.inl rfl) (pe_sortKR (T := TT) (N := ["each", "beaten"]) (p := "each") (fr := ["beaten"]) (js := [1]) (k := 2) (tb := tCB (fun xs H Q => ∃ z, xs = [V.str z] ∧ z.length ≤ sizeLine ∧ Q (V.int z.length) H) (tCons (tDGet (tVar 1) (tVar 0)) tNil)) (by rfl) T.b_sorted (pa_cons (pe_callTy (call_listD rfl) (by rfl) T.b_list (by decide +kernel) (pa_cons (pv 1) pa_nil)) pa_nil) TB rfl hmT hu hr
        (show NdefX.ndefB (defScope sOdr) {kind := .function, names := [("each",.local),("beaten",.free),("len",.globalImplicit)], isGenerator := false, isCoroutine := false} ["beaten"] = true from by decide +kernel) (NdefX.nscope_by (by decide +kernel)) rfl rfl (fun b hb => hb.elim (fun e => e ▸ List.mem_cons_self) fun e => List.mem_cons.mpr (.inr e)) (fun _ _ _ _ _ _ => rfl)
        (fun q cl c' f B g G room => pe_callB call_len_str (by rfl) T.b_len (by decide +kernel) (pa_cons (pe_dget (Nat.lt_of_le_of_lt (Nat.add_le_add_left (by decide : 1 ≤ 64) _) room.units) (pv 1) (pv 0) (fun _ _ => rfl)) pa_nil))))
      (pss_cons (ps_for PassesOwn.never rfl (pi_enum (by rfl) T.b_enumerate (pa_cons (pv 2) pa_nil)) (pg_tup rfl (pgs_cons (pg_name (i := 3) scOdr.nd rfl (.inl rfl)) (pgs_cons (pg_name (i := 4) scOdr.nd rfl (.inr rfl)) pgs_nil)))
        (pss_one (ps_if (pt_not (pt_val (pe_callB (cr_all rfl) (by rfl) T.b_all (by decide +kernel) (pa_cons (pe_lc (own := [("other", 5)]) (g := gName 5) (tt := tYes) rfl scOdr.nd (pi_list (pe_slice sl_list (pv 2) (po_some (pe_op op_add (pv 3) pe_int)) po_none)) (blkOk_by (own := [("other", 5)]) (N := nOdr) (sc := defScope sOdr) (by decide +kernel))
            (fun _ _ _ _ _ => pg_name (i := 5) scOdr.nd rfl (Or.inl rfl)) (fun _ _ _ _ _ => pts_nil) (fun _ _ _ _ _ => pe_cmpR op_in_str (pv 5) (pe_dget hu1 (pv 1) (pv 4) (fun _ _ => rfl)) (by rfl))) pa_nil)))) (pss_one (ps_ret pe_non)) pss_nil)))
      (pss_one (ps_ret (pe_join pe_str (pv 2))))))), ?_⟩
    obtain ⟨hcr, dx, fs, r, t, e, l, no, ra⟩ := id hz
    have zl : z.cps.toList.length = z.cps.size := Array.length_toList
    have z6 := as.z6
    have lim : ∀ {n : Nat}, n ≤ 1000 → n ≤ sizeLine := fun h => by rw [sizeLine_eq]; omega
    refine ⟨_, rfl, cw, dx, fs, rfl, e, no _ (by decide) (by decide) (by decide), cw, z, ys, ns, rfl, hz, as, fun d H1 s1 n1 e1 => ?_⟩
    have kv : (bkv z ys ns z.cps.toList).map (fun kv => kV kv.1) = z.cps.toList.map fun a => V.str (chS a) := by
      unfold bkv
      rw [List.map_map] <;> rfl
    have dg : ∀ u H', H' d = some (.dK (bkv z ys ns z.cps.toList)) → u ∈ z.cps.toList → DGet H' d (.str (chS u)) (some (.str (btS z ys ns u))) := fun u H' s hu => .inl ⟨_, .inr (chS u), .inl s, rfl, (bkv_val hu).symm⟩
    have bl : ∀ a, (btS z ys ns a).length ≤ 6 := fun a => by
      show ((z.cps.toList.filter fun b => btB ys ns a b).toArray).size ≤ 6
      rw [List.size_toArray]
      exact Nat.le_trans (List.length_filter_le _ _) (by omega)
    refine ⟨_, rfl, d, _, rfl, .inl e1, fun l0 n0 => ⟨l0, _, rfl, upd_same, (tb.ext s1).ext (same_new n0), fun H2 e2 T2 => ⟨nbK z ys ns, fun x hx G1 g1 => ?_, fun p G1 g1 hp hG => ?_⟩⟩⟩
    · rw [kv] at hx
      obtain ⟨a, ha, rfl⟩ := List.mem_map.mp hx
      have ed : G1 d = some (.dK (bkv z ys ns z.cps.toList)) := g1 _ _ (e2 _ _ (same_new n0 _ _ e1) (fun ps z => by cases z))
      exact ⟨_, rfl, _, rfl, d, _, rfl, dg a _ ed ha, _, rfl, lim (Nat.le_trans (bl a) (by decide)), rfl, fun _ _ e => e⟩
    · rw [kv, rkd_vals] at hG
      have hG : G1 p = some (.lst ((rkd z ys ns).map fun a => V.str (chS a))) := hG
      have X1 : ExtN H G1 := (ExtN.of s1).trans ((ExtN.of (same_new n0)).trans (e2.trans (ExtN.of g1)))
      have T3 := T2.ext g1
      have ed : G1 d = some (.dK (bkv z ys ns z.cps.toList)) := g1 _ _ (e2 _ _ (same_new n0 _ _ e1) (fun ps z => by cases z))
      obtain ⟨rk, hrk⟩ : ∃ rk, rk = rkd z ys ns := ⟨_, rfl⟩
      have rp : rk.Perm z.cps.toList := hrk ▸ rkd_perm z ys ns
      have rl := rp.length_eq
      rw [← hrk] at hG
      have ml : (rk.map fun a => V.str (chS a)).length = rk.length := List.length_map ..
      refine ⟨_, rfl, p, _, rfl, SqL.of hG, for_it (walk_enum (K := K) (a := p) (xs := rk.map fun a => V.str (chS a))) (fun i σ H' => ∃ v3 v4 v5, σ = [some (.ref cw), some (.ref d), some (.ref p), v3, v4, v5] ∧ Same G1 H' ∧ ∀ i' < i, okAt z ys ns i' = true) ⟨_, _, _, rfl, fun _ _ e => e, fun i' h => absurd h (Nat.not_lt_zero _)⟩ (fun i σ H' _ hP => ?_) (fun i x σ H3 H4 hi hP hY => ?_) (fun σ H3 hP => ?_)⟩
      · obtain ⟨_, _, _, _, s, _⟩ := hP
        exact SqL.of (s _ _ hG)
      · obtain ⟨v3, v4, v5, rfl, s3, ok⟩ := hP
        obtain ⟨T', a', b', rfl, nT, rfl, f1, f2⟩ := hY
        cases f1
        rw [ml] at hi
        have f2 : (rk.map fun a => V.str (chS a))[i]? = some b' := f2
        rw [List.getElem?_map, List.getElem?_eq_getElem hi] at f2
        cases f2
        have s4 : Same G1 (upd H3 T' (.tup [.int (i : Nat), .str (chS rk[i])])) := s3.trans (same_new nT)
        refine ⟨T', _, rfl, SqT.of upd_same, rfl, _, _, rfl, _, _, rfl, rfl, ?_⟩
        generalize upd H3 T' (.tup [.int (i : Nat), .str (chS rk[i])]) = H4 at s4 ⊢
        clear nT s3 H3
        have ct : cutV (rk.map fun a => V.str (chS a)) (some ((i : Int) + 1)) none = (rk.drop (i + 1)).map fun a => V.str (chS a) := by
          rw [show (i : Int) + 1 = ((i + 1 : Nat) : Int) by omega, cutV_from, List.map_drop]
        refine ⟨_, rfl, _, rfl, _, _, rfl, rfl, _, rfl, p, _, rfl, SqL.of (s4 _ _ hG), fun F nF => ?_⟩
        rw [ct]
        have dl : ((rk.drop (i + 1)).map fun a => V.str (chS a)).length = (rk.drop (i + 1)).length := List.length_map ..
        refine ⟨F, rfl, ⟨_, SqL.of upd_same⟩, fun D nD => lc_list (K := K) (a := F) (xs := (rk.drop (i + 1)).map fun a => V.str (chS a)) (fun m H' => Same (upd H4 F (.lst ((rk.drop (i + 1)).map fun a => V.str (chS a)))) H' ∧ H' D = some (.lst ((((rk.drop (i + 1)).take m).map fun b => btB ys ns rk[i] b).map V.bl))) ⟨same_new nD, upd_same⟩ (fun m H' _ hP => SqL.of (hP.1 _ _ upd_same)) (fun m v H5 hv hP => ?_) (fun H5 hP => ?_)⟩
        · obtain ⟨s5, e5⟩ := hP
          rw [List.getElem?_map] at hv
          obtain ⟨o, ho, rfl⟩ := Option.map_eq_some_iff.mp hv
          have S5 := s4.trans ((same_new nF).trans s5)
          have oin : o ∈ z.cps.toList := rp.mem_iff.mp (List.mem_of_mem_drop (List.mem_of_getElem? ho))
          have iin : rk[i] ∈ z.cps.toList := rp.mem_iff.mp (List.getElem_mem hi)
          refine ⟨rfl, _, rfl, _, rfl, _, rfl, d, _, rfl, dg _ _ (S5 _ _ ed) iin, _, _, rfl, rfl, ?_⟩
          have fo := (PySem.StrLaws.found_one (btS z ys ns rk[i]) o).trans (in_btO oin)
          refine ⟨_, e5, by rw [List.length_map, List.length_map, List.length_take, List.length_drop, sizeLine_eq]; omega, fun b o' h => ?_, ?_⟩
          · rw [upd_ne (ne_of_none h nD)]
            exact s5 _ _ h
          · rw [upd_same, List.take_succ, ho, Option.toList_some, List.map_append, List.map_append]
            exact congrArg (fun b => some (HO.lst (((((rk.drop (i + 1)).take m).map fun b => btB ys ns rk[i] b).map V.bl) ++ [V.bl b]))) fo
        · obtain ⟨s5, e5⟩ := hP
          rw [dl, List.take_length] at e5
          refine ⟨D, _, rfl, SqL.of e5, ?_⟩
          have oa : ((rk.drop (i + 1)).map fun b => btB ys ns rk[i] b).all id = okAt z ys ns i := by
            unfold okAt
            rw [← hrk, List.all_map, List.getD_eq_getElem?_getD, List.getElem?_eq_getElem hi] <;> rfl
          rw [oa]
          refine ⟨_, rfl, ?_⟩
          have S5 := s4.trans ((same_new nF).trans s5)
          show if (!okAt z ys ns i) = true then _ else _
          cases c : okAt z ys ns i with
          | true =>
            refine iteF ⟨_, _, _, rfl, S5, fun i' h => ?_⟩
            rcases Nat.lt_succ_iff_lt_or_eq.mp h with h | rfl
            · exact ok i' h
            · exact c
          | false =>
            refine iteT ?_
            have nb : ordB_ z ys ns = false := by
              refine Bool.eq_false_iff.mpr fun all => ?_
              have := List.all_eq_true.mp all i (List.mem_range.mpr (by omega))
              rw [c] at this
              cases this
            have := q _ (X1.trans (ExtN.of S5)) (T3.ext S5)
            unfold OdrV at this
            rw [nb, if_neg Bool.false_ne_true] at this
            exact this
      · obtain ⟨v3, v4, v5, rfl, s3, ok⟩ := hP
        rw [ml] at ok
        have all : ordB_ z ys ns = true := List.all_eq_true.mpr fun i hi => ok i (by have := List.mem_range.mp hi; omega)
        have sg : (rk.map fun a => V.str (chS a)) = (signs ⟨rk.toArray⟩).map V.str := by
          unfold signs
          rw [List.map_map] <;> rfl
        have := q _ (X1.trans (ExtN.of s3)) (T3.ext s3)
        unfold OdrV at this
        rw [all, if_pos rfl, ← hrk] at this
        refine ⟨⟨_, rfl⟩, _, rfl, _, p, signs ⟨rk.toArray⟩, rfl, rfl, .inl (SqL.of (by rw [← sg]; exact s3 _ _ hG)), ?_, ?_⟩
        · rw [sign_sum, signs_length, show (PySem.Str.ofString "").length = 0 by decide +kernel]
          show rk.toArray.size + _ ≤ _
          rw [List.size_toArray]
          omega
        · rw [join_signs]
          exact this
end
end L2.Cal
end

section
set_option maxRecDepth 100000
set_option maxHeartbeats 4000000
/-! pure: the order of the most of three that stand in a row is the middle one -/
namespace L2.Cal
open PySem PySem.Spec PyProof.Rows L2 CpComb
theorem nd_le : ∀ {p L : List Nat}, p.Nodup → (∀ a, a ∈ p → a ∈ L) → p.length ≤ L.length
  | [], L, _, _ => Nat.zero_le _
  | a :: p, L, nd, h => by
    rw [List.nodup_cons] at nd
    have ha := h a List.mem_cons_self
    have := nd_le (L := L.erase a) nd.2 fun b hb => by
      refine (List.mem_erase_of_ne ?_).mpr (h b (List.mem_cons_of_mem _ hb))
      intro e
      exact nd.1 (e ▸ hb)
    rw [List.length_erase_of_mem ha] at this
    have pos : 0 < L.length := List.length_pos_of_mem ha
    rw [List.length_cons]
    omega
section
variable {z : Str} {ys : List Str} {ns : List Int}
theorem bt_asy (ys : List Str) (ns : List Int) : ∀ a b, btB ys ns a b = true → btB ys ns b a = false := fun a b h => by
  unfold btB at h ⊢
  have h := of_decide_eq_true h
  exact decide_eq_false (by omega)
/-- those of whom each beats all behind it are the ranked ones -/
theorem rkd_is {L : List Nat} (pm : L.Perm z.cps.toList) (nd : z.cps.toList.Nodup) (up : L.Pairwise fun a b => btB ys ns a b = true) : rkd z ys ns = L := by
  have irr : ∀ a, btB ys ns a a = false := fun a => by
    unfold btB
    exact decide_eq_false (Int.lt_irrefl _)
  have asy := bt_asy ys ns
  have ndL : L.Nodup := pm.nodup_iff.mpr nd
  have nb : ∀ a, nbt z ys ns a = (L.filter fun b => btB ys ns a b).length := fun a => by
    unfold nbt btS
    rw [List.size_toArray]
    exact ((pm.symm.filter _).length_eq)
  have less : ∀ i j (hi : i < L.length) (hj : j < L.length), i < j → nbt z ys ns L[j] < nbt z ys ns L[i] := fun i j hi hj lt => by
    rw [nb, nb]
    have sub : (L[j] :: L.filter fun c => btB ys ns L[j] c).Nodup := List.nodup_cons.mpr ⟨(fun q => by
      have := (List.mem_filter.mp q).2
      rw [irr] at this
      cases this), ndL.filter _⟩
    have sb : (L[j] :: L.filter fun c => btB ys ns L[j] c) ⊆ L.filter fun c => btB ys ns L[i] c := fun c hc => by
      rcases List.mem_cons.mp hc with rfl | hc
      · exact List.mem_filter.mpr ⟨List.getElem_mem hj, List.pairwise_iff_getElem.mp up i j hi hj lt⟩
      · obtain ⟨h1, h2⟩ := List.mem_filter.mp hc
        obtain ⟨k, hk, rfl⟩ := List.getElem_of_mem h1
        refine List.mem_filter.mpr ⟨h1, ?_⟩
        rcases Nat.lt_trichotomy k j with g | g | g
        · have := asy _ _ (List.pairwise_iff_getElem.mp up k j hk hj g)
          rw [h2] at this
          cases this
        · subst g
          rw [irr] at h2
          cases h2
        · exact List.pairwise_iff_getElem.mp up i k hi hk (Nat.lt_trans lt g)
    have := nd_le sub fun c hc => sb hc
    rw [List.length_cons] at this
    omega
  have so := List.pairwise_mergeSort (le := fun a b : Nat => decide (nbt z ys ns b ≤ nbt z ys ns a)) (fun a b c h1 h2 => decide_eq_true (Nat.le_trans (of_decide_eq_true h2) (of_decide_eq_true h1))) (fun a b => by
        rcases Nat.le_total (nbt z ys ns b) (nbt z ys ns a) with h | h <;> simp [h]) z.cps.toList
  refine List.Perm.eq_of_pairwise (le := fun a b => nbt z ys ns b ≤ nbt z ys ns a) (fun a b ha hb h1 h2 => ?_) (so.imp fun h => of_decide_eq_true h) ?_ ((rkd_perm z ys ns).trans pm.symm)
  · have ha := pm.mem_iff.mpr ((rkd_perm z ys ns).mem_iff.mp ha)
    obtain ⟨i, hi, rfl⟩ := List.getElem_of_mem ha
    obtain ⟨j, hj, rfl⟩ := List.getElem_of_mem hb
    rcases Nat.lt_trichotomy i j with g | g | g
    · have := less i j hi hj g
      omega
    · subst g
      rfl
    · have := less j i hj hi g
      omega
  · rw [List.pairwise_iff_getElem]
    exact fun i j hi hj g => Nat.le_of_lt (less i j hi hj g)
theorem odr_is {L : List Nat} (pm : L.Perm z.cps.toList) (nd : z.cps.toList.Nodup) (up : L.Pairwise fun a b => btB ys ns a b = true) : OdrV z ys ns = .str ⟨L.toArray⟩ := by
  have e := rkd_is (ys := ys) (ns := ns) pm nd up
  have zl : z.cps.toList.length = z.cps.size := Array.length_toList
  have ll := pm.length_eq
  unfold OdrV
  rw [e, if_pos]
  unfold ordB_
  rw [List.all_eq_true]
  intro i hi
  have hi := List.mem_range.mp hi
  unfold okAt
  rw [e, List.all_eq_true]
  intro b hb
  obtain ⟨k, hk, rfl⟩ := List.mem_drop_iff_getElem.mp hb
  have := List.pairwise_iff_getElem.mp up i (i + 1 + k) (by omega) (by omega) (by omega)
  rw [List.getD_eq_getElem?_getD, List.getElem?_eq_getElem (by omega)]
  exact this
end
/-- how often each of a lot stands among some -/
def cntS (ys l : List Str) : List Int := ys.map fun z => ((l.count z : Nat) : Int)
theorem zip_sum (p : Str → Bool) (f : Str → Int) : ∀ ys : List Str, (((ys.zip (ys.map f)).filter fun q => p q.1).map Prod.snd).sum = (ys.map fun z => if p z = true then f z else 0).sum
  | [] => rfl
  | y :: ys => by
    have ih := zip_sum p f ys
    rw [List.map_cons, List.zip_cons_cons, List.filter_cons, List.map_cons, List.sum_cons]
    by_cases h : p y = true
    · rw [if_pos h, if_pos h, List.map_cons, List.sum_cons, ih]
    · rw [if_neg h, if_neg h, ih, Int.zero_add]
theorem sum_two (f g : Str → Int) : ∀ ys : List Str, (ys.map fun z => f z + g z).sum = (ys.map f).sum + (ys.map g).sum
  | [] => rfl
  | y :: ys => by
    have ih := sum_two f g ys
    rw [List.map_cons, List.map_cons, List.map_cons, List.sum_cons, List.sum_cons, List.sum_cons, ih]
    omega
theorem sum_no (f : Str → Int) : ∀ ys : List Str, (∀ z ∈ ys, f z = 0) → (ys.map f).sum = 0
  | [], _ => rfl
  | y :: ys, h => by
    rw [List.map_cons, List.sum_cons, h y List.mem_cons_self, sum_no f ys fun z hz => h z (List.mem_cons_of_mem _ hz)] <;> rfl
theorem sum_one (p : Str → Bool) (x : Str) : ∀ ys : List Str, ys.Nodup → x ∈ ys → (ys.map fun z => if p z = true then (if (x == z) = true then (1 : Int) else 0) else 0).sum = if p x = true then 1 else 0
  | [], _, h => absurd h List.not_mem_nil
  | y :: ys, nd, h => by
    obtain ⟨n1, n2⟩ := List.nodup_cons.mp nd
    rw [List.map_cons, List.sum_cons]
    by_cases e : x = y
    · subst e
      rw [sum_no _ ys fun z hz => by
        have : (x == z) = false := beq_eq_false_iff_ne.mpr fun q => n1 (q ▸ hz)
        rw [this]
        simp, Int.add_zero, beq_self_eq_true]
      simp
    · have e2 : (x == y) = false := beq_eq_false_iff_ne.mpr e
      rw [sum_one p x ys n2 ((List.mem_cons.mp h).resolve_left e), e2]
      simp
theorem cnt_sum (p : Str → Bool) {ys : List Str} (nd : ys.Nodup) : ∀ l : List Str, (∀ x ∈ l, x ∈ ys) → (ys.map fun z => if p z = true then ((l.count z : Nat) : Int) else 0).sum = ((l.countP p : Nat) : Int)
  | [], _ => sum_no _ ys fun z _ => by simp
  | x :: l, h => by
    have ih := cnt_sum p nd l fun z hz => h z (List.mem_cons_of_mem _ hz)
    have one := sum_one p x ys nd (h x List.mem_cons_self)
    have e : (fun z => if p z = true then (((x :: l).count z : Nat) : Int) else 0) = fun z => (if p z = true then ((l.count z : Nat) : Int) else 0) + (if p z = true then (if (x == z) = true then (1 : Int) else 0) else 0) := by
      funext z
      rw [List.count_cons]
      by_cases a : p z = true
      · rw [if_pos a, if_pos a, if_pos a]
        by_cases b : (x == z) = true
        · rw [if_pos b, if_pos b] <;> omega
        · rw [if_neg b, if_neg b] <;> omega
      · rw [if_neg a, if_neg a, if_neg a] <;> rfl
    rw [e, sum_two, ih, one, List.countP_cons]
    by_cases a : p x = true
    · rw [if_pos a, if_pos a] <;> omega
    · rw [if_neg a, if_neg a] <;> omega
theorem abv_cnt {ys l : List Str} (nd : ys.Nodup) (h : ∀ x ∈ l, x ∈ ys) (a b : Nat) : abv ys (cntS ys l) a b = ((l.countP fun y => aheadS y a b : Nat) : Int) := by
  unfold abv abvL cntS
  rw [zip_sum (fun y => aheadS y a b), cnt_sum (fun y => aheadS y a b) nd l h]
theorem cnt_all {ys l : List Str} (nd : ys.Nodup) (h : ∀ x ∈ l, x ∈ ys) : (cntS ys l).sum = (l.length : Int) := by
  have := cnt_sum (fun _ => true) nd l h
  simp only [if_true, List.countP_true] at this
  exact this
theorem aheadS_L {y : Str} {a b : Nat} (nd : y.cps.toList.Nodup) (ha : a ∈ y.cps.toList) (hb : b ∈ y.cps.toList) : aheadS y a b = aheadL y (a, b) := by
  obtain ⟨i, hi⟩ := index0_in ha
  obtain ⟨j, hj⟩ := index0_in hb
  have ei := index0_pos nd hi
  have ej := index0_pos nd hj
  have hi : Txt.index0 y (chS a) = some i := hi
  have hj : Txt.index0 y (chS b) = some j := hj
  unfold aheadS aheadL
  rw [hi, hj, ei, ej]
end L2.Cal
end

section
set_option maxRecDepth 100000
set_option maxHeartbeats 4000000
/-! pure: over a spoken roll the order of the most of an odd crowd is somebody's -/
namespace L2.Cal
open PySem PySem.Spec PyProof.Rows L2 CpComb
theorem maj_12 (f g h : Nat × Nat → Bool) (p : Nat × Nat) : majF f g h p = majF g f h p := by
  unfold majF
  cases f p <;> cases g p <;> cases h p <;> rfl
theorem maj_23 (f g h : Nat × Nat → Bool) (p : Nat × Nat) : majF f g h p = majF f h g p := by
  unfold majF
  cases f p <;> cases g p <;> cases h p <;> rfl
theorem maj_two (f h : Nat × Nat → Bool) (p : Nat × Nat) : majF f f h p = f p := by
  unfold majF
  cases f p <;> cases h p <;> rfl
theorem bt_three {y a b c : Str} {ys : List Str} (let_ : Lett y) (kin : ∀ x ∈ [a, b, c], x.cps.toList.Perm y.cps.toList) (nd : ys.Nodup) (sub : ∀ x ∈ [a, b, c], x ∈ ys) {p q : Nat} (hp : p ∈ y.cps.toList) (hq : q ∈ y.cps.toList) (n : p ≠ q) : btB ys (cntS ys [a, b, c]) p q = majF (aheadL a) (aheadL b) (aheadL c) (p, q) := by
  have sw : ∀ x ∈ [a, b, c], aheadS x p q = aheadL x (p, q) ∧ aheadS x q p = !aheadL x (p, q) := fun x hx => by
    have px := kin x hx
    have ndx : x.cps.toList.Nodup := px.nodup_iff.mpr let_.1
    have mp := px.mem_iff.mpr hp
    have mq := px.mem_iff.mpr hq
    exact ⟨aheadS_L ndx mp mq, by rw [aheadS_L ndx mq mp]; exact ahead_swap mp mq n⟩
  obtain ⟨a1, a2⟩ := sw a (by simp)
  obtain ⟨b1, b2⟩ := sw b (by simp)
  obtain ⟨c1, c2⟩ := sw c (by simp)
  unfold btB
  rw [abv_cnt nd sub, abv_cnt nd sub]
  simp only [List.countP_cons, List.countP_nil, a1, a2, b1, b2, c1, c2]
  unfold majF
  cases aheadL a (p, q) <;> cases aheadL b (p, q) <;> cases aheadL c (p, q) <;> simp
end L2.Cal
end

section
set_option maxRecDepth 100000
set_option maxHeartbeats 4000000
/-! pure: rolls without wheels, and orders of the most of three that are put in -/
namespace L2.Cal
open PySem PySem.Spec PyProof.Rows L2 CpComb
/-- three stand so in an order -/
def Asc3 (o : Str) (a b c : Nat) : Prop := aheadL o (a, b) = true ∧ aheadL o (b, c) = true
/-- there are no three orders in which three things go round -/
def NoW (ys : List Str) (L : List Nat) : Prop := ∀ a ∈ L, ∀ b ∈ L, ∀ c ∈ L, a ≠ b → b ≠ c → a ≠ c → ¬ ((∃ o ∈ ys, Asc3 o a b c) ∧ (∃ o ∈ ys, Asc3 o b c a) ∧ ∃ o ∈ ys, Asc3 o c a b)
theorem NoW.sub {ys zs : List Str} {L : List Nat} (h : NoW ys L) (s : ∀ z ∈ zs, z ∈ ys) : NoW zs L := fun a ha b hb c hc n1 n2 n3 ⟨⟨o1, h1, e1⟩, ⟨o2, h2, e2⟩, o3, h3, e3⟩ => h a ha b hb c hc n1 n2 n3 ⟨⟨o1, s _ h1, e1⟩, ⟨o2, s _ h2, e2⟩, o3, s _ h3, e3⟩
/-- what the most of three hold of two pairs, one of them holds -/
theorem maj_meet {x y z : Str} {p q : Nat × Nat} (h1 : majF (aheadL x) (aheadL y) (aheadL z) p = true) (h2 : majF (aheadL x) (aheadL y) (aheadL z) q = true) : ∃ o ∈ [x, y, z], aheadL o p = true ∧ aheadL o q = true := by
  unfold majF at h1 h2
  have key : (aheadL x p = true ∧ aheadL x q = true) ∨ (aheadL y p = true ∧ aheadL y q = true) ∨ (aheadL z p = true ∧ aheadL z q = true) := by
    revert h1 h2
    cases aheadL x p <;> cases aheadL y p <;> cases aheadL z p <;> cases aheadL x q <;> cases aheadL y q <;> cases aheadL z q <;> simp
  rcases key with k | k | k
  · exact ⟨x, by simp, k⟩
  · exact ⟨y, by simp, k⟩
  · exact ⟨z, by simp, k⟩
theorem NoW.more {ys : List Str} {L : List Nat} {w x y z : Str} (h : NoW ys L) (inn : ∀ o ∈ [x, y, z], o ∈ ys) (mj : ∀ p ∈ L, ∀ q ∈ L, p ≠ q → aheadL w (p, q) = majF (aheadL x) (aheadL y) (aheadL z) (p, q)) : NoW (ys ++ [w]) L := by
  have back : ∀ {a b c : Nat}, a ∈ L → b ∈ L → c ∈ L → a ≠ b → b ≠ c → (∃ o ∈ ys ++ [w], Asc3 o a b c) → ∃ o ∈ ys, Asc3 o a b c := fun {a b c} ha hb hc n1 n2 ⟨o, ho, e1, e2⟩ => by
    rcases List.mem_append.mp ho with k | k
    · exact ⟨o, k, e1, e2⟩
    · rw [List.mem_singleton.mp k] at e1 e2
      rw [mj a ha b hb n1] at e1
      rw [mj b hb c hc n2] at e2
      obtain ⟨o', i, k1, k2⟩ := maj_meet e1 e2
      exact ⟨o', inn o' i, k1, k2⟩
  intro a ha b hb c hc n1 n2 n3 ⟨e1, e2, e3⟩
  exact h a ha b hb c hc n1 n2 n3 ⟨back ha hb hc n1 n2 e1, back hb hc ha n2 n3.symm e2, back hc ha hb n3.symm n1 e3⟩
/-- the most of three don't go round -/
theorem NoW.acyc {ys : List Str} {L : List Nat} {x y z : Str} (h : NoW ys L) (inn : ∀ o ∈ [x, y, z], o ∈ ys) {a b c : Nat} (ha : a ∈ L) (hb : b ∈ L) (hc : c ∈ L) (n1 : a ≠ b) (n2 : b ≠ c) (n3 : a ≠ c)
    (h1 : majF (aheadL x) (aheadL y) (aheadL z) (a, b) = true) (h2 : majF (aheadL x) (aheadL y) (aheadL z) (b, c) = true) (h3 : majF (aheadL x) (aheadL y) (aheadL z) (c, a) = true) : False := by
  obtain ⟨o1, i1, e1⟩ := maj_meet h1 h2
  obtain ⟨o2, i2, e2⟩ := maj_meet h2 h3
  obtain ⟨o3, i3, e3⟩ := maj_meet h3 h1
  exact h a ha b hb c hc n1 n2 n3 ⟨⟨o1, inn _ i1, e1⟩, ⟨o2, inn _ i2, e2⟩, o3, inn _ i3, e3⟩
/-- ranked by how many each beats, where who beats is told without going round -/
theorem ranked_tr {bt : Nat → Nat → Bool} {L rk : List Nat} {nb : Nat → Nat} (as : ∀ a b, bt a b = true → bt b a = false) (nd : L.Nodup) (hn : ∀ a, nb a = (L.filter fun b => bt a b).length) (pm : rk.Perm L) (so : rk.Pairwise fun a b => nb b ≤ nb a)
    (tie : ∀ a b, a ∈ L → b ∈ L → a ≠ b → bt a b = true ∨ bt b a = true) (tr : ∀ a b c, a ∈ L → b ∈ L → c ∈ L → bt a b = true → bt b c = true → bt a c = true) : rk.Pairwise fun a b => bt a b = true := by
  have irr : ∀ a, bt a a = false := fun a => by
    cases e : bt a a with
    | false => rfl
    | true => rw [as _ _ e] at e; cases e
  have more : ∀ a b, a ∈ L → b ∈ L → bt a b = true → nb b < nb a := fun a b ha hb h => by
    rw [hn, hn]
    have sub : (b :: L.filter fun c => bt b c).Nodup := List.nodup_cons.mpr ⟨(fun q => by
      have := (List.mem_filter.mp q).2
      rw [irr] at this
      cases this), nd.filter _⟩
    have := nd_le (L := L.filter fun c => bt a c) sub fun c hc => by
      rcases List.mem_cons.mp hc with rfl | hc
      · exact List.mem_filter.mpr ⟨hb, h⟩
      · obtain ⟨h1, h2⟩ := List.mem_filter.mp hc
        exact List.mem_filter.mpr ⟨h1, tr _ _ _ ha hb h1 h h2⟩
    rw [List.length_cons] at this
    omega
  refine (so.and (pm.nodup_iff.mpr nd)).imp_of_mem fun {a b} ha hb k => ?_
  rcases tie a b (pm.mem_iff.mp ha) (pm.mem_iff.mp hb) k.2 with h | h
  · exact h
  · have := more b a (pm.mem_iff.mp hb) (pm.mem_iff.mp ha) h
    omega
/-- three of a roll without wheels have an order of the most -/
theorem odr_some {y a b c : Str} {ys : List Str} (G : Good ys y) (sub : ∀ x ∈ [a, b, c], x ∈ ys) (nw : NoW ys y.cps.toList) : ∃ w : Str, OdrV (tidy y) ys (cntS ys [a, b, c]) = .str w ∧ w.cps.toList.Perm y.cps.toList ∧ ∀ p ∈ y.cps.toList, ∀ q ∈ y.cps.toList, p ≠ q → aheadL w (p, q) = majF (aheadL a) (aheadL b) (aheadL c) (p, q) := by
  have kin : ∀ x ∈ [a, b, c], x.cps.toList.Perm y.cps.toList := fun x hx => G.lot.of x (sub x hx)
  have tp := tidy_perm y
  have ndy := G.let_.1
  have ndz := tp.nodup_iff.mpr ndy
  have bt : ∀ {p q : Nat}, p ∈ y.cps.toList → q ∈ y.cps.toList → p ≠ q → btB ys (cntS ys [a, b, c]) p q = majF (aheadL a) (aheadL b) (aheadL c) (p, q) := fun hp hq n => bt_three G.let_ kin G.lot.one sub hp hq n
  have anti : ∀ {p q : Nat}, p ∈ y.cps.toList → q ∈ y.cps.toList → p ≠ q → majF (aheadL a) (aheadL b) (aheadL c) (q, p) = !majF (aheadL a) (aheadL b) (aheadL c) (p, q) := fun {p q} hp hq n => by
    have sw : ∀ x ∈ [a, b, c], aheadL x (q, p) = !aheadL x (p, q) := fun x hx => ahead_swap ((kin x hx).mem_iff.mpr hp) ((kin x hx).mem_iff.mpr hq) n
    unfold majF
    rw [sw a (by simp), sw b (by simp), sw c (by simp)]
    cases aheadL a (p, q) <;> cases aheadL b (p, q) <;> cases aheadL c (p, q) <;> rfl
  have irr : ∀ p, btB ys (cntS ys [a, b, c]) p p = false := fun p => decide_eq_false (Int.lt_irrefl _)
  have rp := rkd_perm (tidy y) ys (cntS ys [a, b, c])
  have so := List.pairwise_mergeSort (le := fun p q : Nat => decide (nbt (tidy y) ys (cntS ys [a, b, c]) q ≤ nbt (tidy y) ys (cntS ys [a, b, c]) p)) (fun a b c h1 h2 => decide_eq_true (Nat.le_trans (of_decide_eq_true h2) (of_decide_eq_true h1))) (fun p q => by
        rcases Nat.le_total (nbt (tidy y) ys (cntS ys [a, b, c]) q) (nbt (tidy y) ys (cntS ys [a, b, c]) p) with h | h <;> simp [h]) (tidy y).cps.toList
  have up : (rkd (tidy y) ys (cntS ys [a, b, c])).Pairwise fun p q => btB ys (cntS ys [a, b, c]) p q = true := by
    refine ranked_tr (L := (tidy y).cps.toList) (nb := nbt (tidy y) ys (cntS ys [a, b, c])) (bt_asy _ _) ndz (fun p => ?_) rp (so.imp fun h => of_decide_eq_true h) (fun p q hp hq n => ?_) (fun p q r hp hq hr h1 h2 => ?_)
    · unfold nbt btS
      rw [List.size_toArray]
    · have hp := tp.mem_iff.mp hp
      have hq := tp.mem_iff.mp hq
      rw [bt hp hq n, bt hq hp n.symm, anti hp hq n]
      cases majF (aheadL a) (aheadL b) (aheadL c) (p, q) <;> simp
    · have hp := tp.mem_iff.mp hp
      have hq := tp.mem_iff.mp hq
      have hr := tp.mem_iff.mp hr
      have n1 : p ≠ q := fun e => by rw [e, irr] at h1; cases h1
      have n2 : q ≠ r := fun e => by rw [e, irr] at h2; cases h2
      have n3 : p ≠ r := fun e => by rw [e, bt_asy _ _ _ _ h2] at h1; cases h1
      rw [bt hp hq n1] at h1
      rw [bt hq hr n2] at h2
      rw [bt hp hr n3]
      cases e : majF (aheadL a) (aheadL b) (aheadL c) (p, r) with
      | true => rfl
      | false =>
        have k := anti hp hr n3
        rw [e] at k
        exact (nw.acyc sub hp hq hr n1 n2 n3 h1 h2 k).elim
  refine ⟨⟨(rkd (tidy y) ys (cntS ys [a, b, c])).toArray⟩, odr_is rp ndz up, rp.trans tp, fun p hp q hq n => ?_⟩
  have pw : (⟨(rkd (tidy y) ys (cntS ys [a, b, c])).toArray⟩ : Str).cps.toList.Perm y.cps.toList := rp.trans tp
  obtain ⟨w, hw⟩ : ∃ w : Str, w = ⟨(rkd (tidy y) ys (cntS ys [a, b, c])).toArray⟩ := ⟨_, rfl⟩
  have uw : w.cps.toList.Pairwise fun p q => btB ys (cntS ys [a, b, c]) p q = true := by rw [hw]; exact up
  rw [← hw] at pw ⊢
  have key : ∀ {p q : Nat}, p ∈ y.cps.toList → q ∈ y.cps.toList → p ≠ q → aheadL w (p, q) = true → majF (aheadL a) (aheadL b) (aheadL c) (p, q) = true := fun {p q} hp hq n e => by
    have lt : posL w p < posL w q := of_decide_eq_true e
    have l1 : posL w p < w.cps.toList.length := List.idxOf_lt_length_iff.mpr (pw.mem_iff.mpr hp)
    have l2 : posL w q < w.cps.toList.length := List.idxOf_lt_length_iff.mpr (pw.mem_iff.mpr hq)
    have := List.pairwise_iff_getElem.mp uw _ _ l1 l2 lt
    rw [show w.cps.toList[posL w p] = p from List.getElem_idxOf l1, show w.cps.toList[posL w q] = q from List.getElem_idxOf l2, bt hp hq n] at this
    exact this
  have sw := ahead_swap (pw.mem_iff.mpr hp) (pw.mem_iff.mpr hq) n
  cases e1 : aheadL w (p, q) with
  | true => exact (key hp hq n e1).symm
  | false =>
    rw [e1] at sw
    have k := key hq hp n.symm sw
    rw [anti hp hq n] at k
    revert k
    cases majF (aheadL a) (aheadL b) (aheadL c) (p, q) <;> simp
end L2.Cal
end

section
set_option maxRecDepth 100000
set_option maxHeartbeats 4000000
/-! pure: how many orders a roll without wheels has -/
namespace L2.Cal
open PySem PySem.Spec PyProof.Rows L2 CpComb
/-- rows of codes of which at each place one of 0, 1, 2 and one of 3, 4, 5 is missing are nine at most -/
def chkC : Nat → List (List Nat) → Bool
  | 0, P => decide (P.length ≤ 9)
  | n + 1, P => [0, 1, 2].all fun u => [3, 4, 5].all fun v => chkC n ((P.filter fun l => l.headD 9 != u && l.headD 9 != v).map List.tail)
theorem head_get : ∀ l : List Nat, l.headD 9 = l.getD 0 9
  | [] => rfl
  | _ :: _ => rfl
theorem tail_get : ∀ (l : List Nat) (i : Nat), l.tail.getD i 9 = l.getD (i + 1) 9
  | [], _ => rfl
  | _ :: _, _ => rfl
theorem chk_len : ∀ (n : Nat) (P S : List (List Nat)), chkC n P = true → S.Sublist P → (∀ i < n, ∃ u ∈ [0, 1, 2], ∃ v ∈ [3, 4, 5], ∀ l ∈ S, l.getD i 9 ≠ u ∧ l.getD i 9 ≠ v) → S.length ≤ 9
  | 0, P, S, h, s, _ => Nat.le_trans s.length_le (of_decide_eq_true h)
  | n + 1, P, S, h, s, k => by
    obtain ⟨u, hu, v, hv, e⟩ := k 0 (Nat.succ_pos _)
    have c := List.all_eq_true.mp (List.all_eq_true.mp h u hu) v hv
    have fs : S.filter (fun l => l.headD 9 != u && l.headD 9 != v) = S := by
      rw [List.filter_eq_self]
      intro l hl
      obtain ⟨e1, e2⟩ := e l hl
      rw [Bool.and_eq_true, bne_iff_ne, bne_iff_ne, head_get]
      exact ⟨e1, e2⟩
    have sub : (S.map List.tail).Sublist ((P.filter fun l => l.headD 9 != u && l.headD 9 != v).map List.tail) := by
      have := (s.filter fun l => l.headD 9 != u && l.headD 9 != v).map List.tail
      rwa [fs] at this
    have := chk_len n _ (S.map List.tail) c sub fun i hi => by
      obtain ⟨u, hu, v, hv, e⟩ := k (i + 1) (Nat.succ_lt_succ hi)
      refine ⟨u, hu, v, hv, fun l hl => ?_⟩
      obtain ⟨m, hm, rfl⟩ := List.mem_map.mp hl
      rw [tail_get]
      exact e m hm
    rwa [List.length_map] at this
/-- how three stand, told by who is ahead in each pair -/
def cod (x y z : Bool) : Nat := match x, y, z with
  | true, true, true => 0
  | false, false, true => 1
  | true, false, false => 2
  | true, true, false => 3
  | false, false, false => 4
  | false, true, true => 5
  | _, _, _ => 6
def cod4 : List Bool → List Nat
  | [b01, b02, b03, b12, b13, b23] => [cod b01 b02 b12, cod b01 b03 b13, cod b02 b03 b23, cod b12 b13 b23]
  | _ => []
def bits : Nat → List (List Bool)
  | 0 => [[]]
  | n + 1 => (bits n).map (true :: ·) ++ (bits n).map (false :: ·)
theorem bits_in : ∀ (n : Nat) (l : List Bool), l.length = n → l ∈ bits n
  | 0, [], _ => List.mem_cons_self
  | n + 1, true :: l, h => List.mem_append_left _ (List.mem_map.mpr ⟨l, bits_in n l (by simpa using h), rfl⟩)
  | n + 1, false :: l, h => List.mem_append_right _ (List.mem_map.mpr ⟨l, bits_in n l (by simpa using h), rfl⟩)
def rows4 : List (List Nat) := ((bits 6).map cod4).filter fun l => !l.contains 6
end L2.Cal
end

section
set_option maxRecDepth 100000
set_option maxHeartbeats 4000000
namespace L2.Cal
theorem rows4_few : chkC 4 rows4 = true := by decide +kernel
end L2.Cal
end

section
set_option maxRecDepth 100000
set_option maxHeartbeats 4000000
namespace L2.Cal
open PySem PySem.Spec PyProof.Rows L2 CpComb
theorem nd_map {α β : Type} {f : α → β} {l : List α} (inj : ∀ a ∈ l, ∀ b ∈ l, f a = f b → a = b) (nd : l.Nodup) : (l.map f).Nodup := List.pairwise_map.mpr (nd.imp_of_mem fun ha hb n e => n (inj _ ha _ hb e))
/-- what an order says of each two of four letters -/
def bitsO (y o : Str) : List Bool := (prs (tidy y)).map (aheadL o)
theorem cod_ahead {o : Str} (nd : o.cps.toList.Nodup) {a b c : Nat} (ha : a ∈ o.cps.toList) (hb : b ∈ o.cps.toList) (hc : c ∈ o.cps.toList) (n1 : a ≠ b) (n2 : b ≠ c) (n3 : a ≠ c) :
    cod (aheadL o (a, b)) (aheadL o (a, c)) (aheadL o (b, c)) ≠ 6 ∧ (cod (aheadL o (a, b)) (aheadL o (a, c)) (aheadL o (b, c)) = 0 → Asc3 o a b c) ∧ (cod (aheadL o (a, b)) (aheadL o (a, c)) (aheadL o (b, c)) = 1 → Asc3 o b c a) ∧ (cod (aheadL o (a, b)) (aheadL o (a, c)) (aheadL o (b, c)) = 2 → Asc3 o c a b)
    ∧ (cod (aheadL o (a, b)) (aheadL o (a, c)) (aheadL o (b, c)) = 3 → Asc3 o a c b) ∧ (cod (aheadL o (a, b)) (aheadL o (a, c)) (aheadL o (b, c)) = 4 → Asc3 o c b a) ∧ (cod (aheadL o (a, b)) (aheadL o (a, c)) (aheadL o (b, c)) = 5 → Asc3 o b a c) := by
  have s1 := ahead_swap ha hb n1
  have s2 := ahead_swap hb hc n2
  have s3 := ahead_swap ha hc n3
  have t1 : aheadL o (a, b) = true → aheadL o (b, c) = true → aheadL o (a, c) = true := fun h1 h2 => by
    have h1 : posL o a < posL o b := of_decide_eq_true h1
    have h2 : posL o b < posL o c := of_decide_eq_true h2
    exact decide_eq_true (Nat.lt_trans h1 h2)
  have t2 : aheadL o (b, a) = true → aheadL o (c, b) = true → aheadL o (c, a) = true := fun h1 h2 => by
    have h1 : posL o b < posL o a := of_decide_eq_true h1
    have h2 : posL o c < posL o b := of_decide_eq_true h2
    exact decide_eq_true (Nat.lt_trans h2 h1)
  unfold Asc3
  rw [s1, s2, s3]
  rw [s1, s2, s3] at t2
  revert t1 t2
  cases aheadL o (a, b) <;> cases aheadL o (a, c) <;> cases aheadL o (b, c) <;> simp [cod]
/-- four letters: nine orders at most -/
theorem four_few {y : Str} {ys : List Str} (ly : Lett y) (h4 : y.cps.size = 4) (kin : ∀ z ∈ ys, z.cps.toList.Perm y.cps.toList) (nd : ys.Nodup) (nw : NoW ys y.cps.toList) : ys.length ≤ 9 := by
  have tp := tidy_perm y
  have zl : (tidy y).cps.toList.length = 4 := by rw [tp.length_eq, Array.length_toList, h4]
  have znd : (tidy y).cps.toList.Nodup := tp.nodup_iff.mpr ly.1
  have lp4 := prs_lp (tidy y) (by rw [perm_size tp, h4]; decide) (by rw [perm_size tp, h4]; decide)
  have inj : ∀ a ∈ ys, ∀ b ∈ ys, bitsO y a = bitsO y b → a = b := fun a ha b hb e => by
    refine order_ext ly (by omega) (by omega) (kin a ha) (kin b hb) fun p hp => ?_
    exact List.map_inj_left.mp e p hp
  have memy : ∀ {a}, a ∈ (tidy y).cps.toList → a ∈ y.cps.toList := fun h => tp.mem_iff.mp h
  generalize (tidy y).cps.toList = z at zl znd lp4 memy
  match z, zl with
  | [l0, l1, l2, l3], _ =>
    have n01 : l0 ≠ l1 := fun e => by simp [e] at znd
    have n02 : l0 ≠ l2 := fun e => by simp [e] at znd
    have n03 : l0 ≠ l3 := fun e => by simp [e] at znd
    have n12 : l1 ≠ l2 := fun e => by simp [e] at znd
    have n13 : l1 ≠ l3 := fun e => by simp [e] at znd
    have n23 : l2 ≠ l3 := fun e => by simp [e] at znd
    have i0 : l0 ∈ y.cps.toList := memy (by simp)
    have i1 : l1 ∈ y.cps.toList := memy (by simp)
    have i2 : l2 ∈ y.cps.toList := memy (by simp)
    have i3 : l3 ∈ y.cps.toList := memy (by simp)
    have eb : ∀ o, bitsO y o = [aheadL o (l0, l1), aheadL o (l0, l2), aheadL o (l0, l3), aheadL o (l1, l2), aheadL o (l1, l3), aheadL o (l2, l3)] := fun o => by
      unfold bitsO
      rw [lp4] <;> rfl
    -- the rows that are there
    obtain ⟨B, hB⟩ : ∃ B, B = (bits 6).filter fun r => decide (r ∈ ys.map (bitsO y)) := ⟨_, rfl⟩
    have memB : ∀ r, r ∈ B ↔ ∃ o ∈ ys, bitsO y o = r := fun r => by
      rw [hB, List.mem_filter, decide_eq_true_iff, List.mem_map]
      refine ⟨fun h => h.2, fun h => ⟨?_, h⟩⟩
      obtain ⟨o, _, rfl⟩ := h
      exact bits_in 6 _ (by rw [eb] <;> rfl)
    have lenB : ys.length ≤ B.length := by
      have : (ys.map (bitsO y)).Nodup := nd_map inj nd
      have := List.Nodup.length_le_of_subset this (l₂ := B) fun r hr => by
        obtain ⟨o, ho, rfl⟩ := List.mem_map.mp hr
        exact (memB _).mpr ⟨o, ho, rfl⟩
      rwa [List.length_map] at this
    refine Nat.le_trans lenB ?_
    rw [← List.length_map (f := cod4)]
    have six : ∀ l ∈ B.map cod4, (!l.contains 6) = true := fun l hl => by
      obtain ⟨r, hr, rfl⟩ := List.mem_map.mp hl
      obtain ⟨o, ho, rfl⟩ := (memB r).mp hr
      have ndo : o.cps.toList.Nodup := (kin o ho).nodup_iff.mpr ly.1
      have m : ∀ {a}, a ∈ y.cps.toList → a ∈ o.cps.toList := fun h => (kin o ho).mem_iff.mpr h
      rw [eb]
      have c1 := (cod_ahead ndo (m i0) (m i1) (m i2) n01 n12 n02).1
      have c2 := (cod_ahead ndo (m i0) (m i1) (m i3) n01 n13 n03).1
      have c3 := (cod_ahead ndo (m i0) (m i2) (m i3) n02 n23 n03).1
      have c4 := (cod_ahead ndo (m i1) (m i2) (m i3) n12 n23 n13).1
      simp only [cod4, List.contains_cons, List.contains_nil, Bool.or_false, Bool.not_eq_true', Bool.or_eq_false_iff, beq_eq_false_iff_ne]
      exact ⟨c1.symm, c2.symm, c3.symm, c4.symm⟩
    have sub : (B.map cod4).Sublist rows4 := by
      have h1 : (B.map cod4).Sublist ((bits 6).map cod4) := by
        rw [hB]
        exact List.filter_sublist.map cod4
      have h2 := h1.filter fun l => !l.contains 6
      rwa [List.filter_eq_self.mpr six] at h2
    refine chk_len 4 rows4 _ rows4_few sub fun i hi => ?_
    -- of each wheel one is missing
    have miss : ∀ (a b c : Nat) (k : Nat), a ∈ y.cps.toList → b ∈ y.cps.toList → c ∈ y.cps.toList → a ≠ b → b ≠ c → a ≠ c → (∀ o, (cod4 (bitsO y o)).getD k 9 = cod (aheadL o (a, b)) (aheadL o (a, c)) (aheadL o (b, c))) → ∃ u ∈ [0, 1, 2], ∃ v ∈ [3, 4, 5], ∀ l ∈ B.map cod4, l.getD k 9 ≠ u ∧ l.getD k 9 ≠ v := fun a b c k ha hb hc n1 n2 n3 ek => by
      have fact : ∀ {v : Nat}, ¬ (∀ l ∈ B.map cod4, l.getD k 9 ≠ v) → ∃ o ∈ ys, cod (aheadL o (a, b)) (aheadL o (a, c)) (aheadL o (b, c)) = v := fun {v} h => by
        refine Classical.byContradiction fun no => h fun l hl e => ?_
        obtain ⟨r, hr, rfl⟩ := List.mem_map.mp hl
        obtain ⟨o, ho, rfl⟩ := (memB r).mp hr
        exact no ⟨o, ho, (ek o).symm.trans e⟩
      have co : ∀ o ∈ ys, _ := fun o ho => cod_ahead (o := o) ((kin o ho).nodup_iff.mpr ly.1) ((kin o ho).mem_iff.mpr ha) ((kin o ho).mem_iff.mpr hb) ((kin o ho).mem_iff.mpr hc) n1 n2 n3
      have U : ∃ u ∈ [0, 1, 2], ∀ l ∈ B.map cod4, l.getD k 9 ≠ u := by
        refine Classical.byContradiction fun no => ?_
        obtain ⟨o0, h0, e0⟩ := fact (v := 0) fun h => no ⟨0, by simp, h⟩
        obtain ⟨o1, h1, e1⟩ := fact (v := 1) fun h => no ⟨1, by simp, h⟩
        obtain ⟨o2, h2, e2⟩ := fact (v := 2) fun h => no ⟨2, by simp, h⟩
        exact nw a ha b hb c hc n1 n2 n3 ⟨⟨o0, h0, (co o0 h0).2.1 e0⟩, ⟨o1, h1, (co o1 h1).2.2.1 e1⟩, o2, h2, (co o2 h2).2.2.2.1 e2⟩
      have V : ∃ v ∈ [3, 4, 5], ∀ l ∈ B.map cod4, l.getD k 9 ≠ v := by
        refine Classical.byContradiction fun no => ?_
        obtain ⟨o0, h0, e0⟩ := fact (v := 3) fun h => no ⟨3, by simp, h⟩
        obtain ⟨o1, h1, e1⟩ := fact (v := 4) fun h => no ⟨4, by simp, h⟩
        obtain ⟨o2, h2, e2⟩ := fact (v := 5) fun h => no ⟨5, by simp, h⟩
        exact nw a ha c hc b hb n3 n2.symm n1 ⟨⟨o0, h0, (co o0 h0).2.2.2.2.1 e0⟩, ⟨o1, h1, (co o1 h1).2.2.2.2.2.1 e1⟩, o2, h2, (co o2 h2).2.2.2.2.2.2 e2⟩
      obtain ⟨u, hu, ku⟩ := U
      obtain ⟨v, hv, kv⟩ := V
      exact ⟨u, hu, v, hv, fun l hl => ⟨ku l hl, kv l hl⟩⟩
    match i, hi with
    | 0, _ => exact miss l0 l1 l2 0 i0 i1 i2 n01 n12 n02 fun o => by rw [eb] <;> rfl
    | 1, _ => exact miss l0 l1 l3 1 i0 i1 i3 n01 n13 n03 fun o => by rw [eb] <;> rfl
    | 2, _ => exact miss l0 l2 l3 2 i0 i2 i3 n02 n23 n03 fun o => by rw [eb] <;> rfl
    | 3, _ => exact miss l1 l2 l3 3 i1 i2 i3 n12 n23 n13 fun o => by rw [eb] <;> rfl
    | n + 4, h => exact absurd h (by omega)
end L2.Cal
end

section
set_option maxRecDepth 100000
set_option maxHeartbeats 4000000
/-! pure: a roll without wheels of three to five things has 45 orders at most -/
namespace L2.Cal
open PySem PySem.Spec PyProof.Rows L2 CpComb
theorem idx_filter {f : Nat → Bool} : ∀ {l : List Nat}, l.Nodup → ∀ {p q : Nat}, p ∈ l → q ∈ l → f p = true → f q = true → ((l.filter f).idxOf p < (l.filter f).idxOf q ↔ l.idxOf p < l.idxOf q)
  | [], _, p, _, h, _, _, _ => absurd h List.not_mem_nil
  | a :: l, nd, p, q, hp, hq, fp, fq => by
    obtain ⟨n1, n2⟩ := List.nodup_cons.mp nd
    by_cases pa : p = a
    · subst pa
      rw [List.filter_cons, if_pos fp, List.idxOf_cons_self, List.idxOf_cons_self]
      by_cases qa : q = p
      · subst qa
        rw [List.idxOf_cons_self, List.idxOf_cons_self]
      · have : (p == q) = false := beq_eq_false_iff_ne.mpr (Ne.symm qa)
        rw [List.idxOf_cons, List.idxOf_cons, this]
        simp
    · by_cases qa : q = a
      · subst qa
        rw [List.filter_cons, if_pos fq, List.idxOf_cons_self, List.idxOf_cons_self]
        simp
      · have ih := idx_filter n2 ((List.mem_cons.mp hp).resolve_left pa) ((List.mem_cons.mp hq).resolve_left qa) fp fq
        have e1 : (a == p) = false := beq_eq_false_iff_ne.mpr (Ne.symm pa)
        have e2 : (a == q) = false := beq_eq_false_iff_ne.mpr (Ne.symm qa)
        rw [List.filter_cons]
        by_cases fa : f a = true
        · rw [if_pos fa]
          simp only [List.idxOf_cons, e1, e2, cond_false, Nat.add_lt_add_iff_right]
          exact ih
        · rw [if_neg fa]
          simp only [List.idxOf_cons, e1, e2, cond_false, Nat.add_lt_add_iff_right]
          exact ih
/-- an order without one thing -/
def cutO (e : Nat) (o : Str) : Str := ⟨(o.cps.toList.filter fun c => decide (c ≠ e)).toArray⟩
theorem cut_list (e : Nat) (o : Str) : (cutO e o).cps.toList = o.cps.toList.filter fun c => decide (c ≠ e) := rfl
theorem cut_ahead {e : Nat} {o : Str} (nd : o.cps.toList.Nodup) {p q : Nat} (hp : p ∈ o.cps.toList) (hq : q ∈ o.cps.toList) (np : p ≠ e) (nq : q ≠ e) : aheadL (cutO e o) (p, q) = aheadL o (p, q) := by
  unfold aheadL posL
  exact decide_eq_decide.mpr (idx_filter nd hp hq (decide_eq_true np) (decide_eq_true nq))
/-- where it stood tells the order -/
theorem put_back {e : Nat} {o : Str} (nd : o.cps.toList.Nodup) (he : e ∈ o.cps.toList) : o.cps.toList = (cutO e o).cps.toList.take (posL o e) ++ e :: (cutO e o).cps.toList.drop (posL o e) ∧ (cutO e o).cps.toList.length + 1 = o.cps.toList.length := by
  obtain ⟨A, B, h⟩ := List.append_of_mem he
  rw [cut_list]
  unfold posL
  rw [h] at nd ⊢
  obtain ⟨n1, n2, n3⟩ := List.nodup_append.mp nd
  have nA : e ∉ A := fun m => n3 e m e List.mem_cons_self rfl
  have nB : e ∉ B := (List.nodup_cons.mp n2).1
  have fA : A.filter (fun c => decide (c ≠ e)) = A := List.filter_eq_self.mpr fun c hc => decide_eq_true fun k => nA (k ▸ hc)
  have fB : B.filter (fun c => decide (c ≠ e)) = B := List.filter_eq_self.mpr fun c hc => decide_eq_true fun k => nB (k ▸ hc)
  rw [List.filter_append, List.filter_cons, fA, fB, if_neg (by simp), List.idxOf_append, if_neg nA, List.idxOf_cons_self]
  refine ⟨by simp, by simp; omega⟩
theorem lone : ∀ fs : List Str, ∃ l : List Str, l.Nodup ∧ ∀ x, x ∈ l ↔ x ∈ fs
  | [] => ⟨[], List.nodup_nil, fun _ => Iff.rfl⟩
  | a :: fs => by
    obtain ⟨l, h2, h3⟩ := lone fs
    by_cases m : a ∈ l
    · refine ⟨l, h2, fun x => ⟨fun h => List.mem_cons_of_mem _ ((h3 x).mp h), fun h => ?_⟩⟩
      rcases List.mem_cons.mp h with rfl | h
      · exact m
      · exact (h3 x).mpr h
    · exact ⟨a :: l, List.nodup_cons.mpr ⟨m, h2⟩, fun x => by rw [List.mem_cons, List.mem_cons, h3]⟩
def boxes (n : Nat) : List Str → List (Str × Nat)
  | [] => []
  | z :: zs => ((List.range n).map fun k => (z, k)) ++ boxes n zs
theorem boxes_len (n : Nat) : ∀ zs : List Str, (boxes n zs).length = zs.length * n
  | [] => (Nat.zero_mul n).symm
  | z :: zs => by
    show (((List.range n).map fun k => (z, k)) ++ boxes n zs).length = (zs.length + 1) * n
    rw [List.length_append, List.length_map, List.length_range, boxes_len n zs, Nat.succ_mul, Nat.add_comm]
theorem boxes_in {n : Nat} : ∀ {zs : List Str} {z : Str} {k : Nat}, z ∈ zs → k < n → (z, k) ∈ boxes n zs
  | z' :: zs, z, k, h, hk => by
    rcases List.mem_cons.mp h with rfl | h
    · exact List.mem_append_left _ (List.mem_map.mpr ⟨k, List.mem_range.mpr hk, rfl⟩)
    · exact List.mem_append_right _ (boxes_in h hk)
theorem five_few {y : Str} {ys : List Str} (ly : Lett y) (h5 : y.cps.size = 5) (kin : ∀ z ∈ ys, z.cps.toList.Perm y.cps.toList) (nd : ys.Nodup) (nw : NoW ys y.cps.toList) : ys.length ≤ 45 := by
  have yl : y.cps.toList.length = 5 := by rw [Array.length_toList, h5]
  obtain ⟨e, he⟩ : ∃ e, e ∈ y.cps.toList := ⟨_, List.getElem_mem (show 0 < y.cps.toList.length by omega)⟩
  have ndo : ∀ {o}, o ∈ ys → o.cps.toList.Nodup := fun h => (kin _ h).nodup_iff.mpr ly.1
  have ino : ∀ {o a}, o ∈ ys → a ∈ y.cps.toList → a ∈ o.cps.toList := fun h ha => (kin _ h).mem_iff.mpr ha
  obtain ⟨zs, znd, zin⟩ := lone (ys.map (cutO e))
  have four : zs.length ≤ 9 := by
    refine four_few (y := cutO e y) ⟨ly.1.filter _, fun c hc => ly.2 c (List.mem_filter.mp hc).1⟩ ?_ (fun z hz => ?_) znd ?_
    · have := (put_back ly.1 he).2
      rw [← Array.length_toList]
      omega
    · obtain ⟨o, ho, rfl⟩ := List.mem_map.mp ((zin z).mp hz)
      exact (kin o ho).filter _
    · have back : ∀ {a b c : Nat}, a ∈ (cutO e y).cps.toList → b ∈ (cutO e y).cps.toList → c ∈ (cutO e y).cps.toList → (∃ o ∈ zs, Asc3 o a b c) → ∃ o ∈ ys, Asc3 o a b c := fun {a b c} ha hb hc ⟨z, hz, k1, k2⟩ => by
        obtain ⟨o, ho, rfl⟩ := List.mem_map.mp ((zin z).mp hz)
        have ha := List.mem_filter.mp ha
        have hb := List.mem_filter.mp hb
        have hc := List.mem_filter.mp hc
        rw [cut_ahead (ndo ho) (ino ho ha.1) (ino ho hb.1) (of_decide_eq_true ha.2) (of_decide_eq_true hb.2)] at k1
        rw [cut_ahead (ndo ho) (ino ho hb.1) (ino ho hc.1) (of_decide_eq_true hb.2) (of_decide_eq_true hc.2)] at k2
        exact ⟨o, ho, k1, k2⟩
      intro a ha b hb c hc n1 n2 n3 ⟨e1, e2, e3⟩
      exact nw a (List.mem_filter.mp ha).1 b (List.mem_filter.mp hb).1 c (List.mem_filter.mp hc).1 n1 n2 n3 ⟨back ha hb hc e1, back hb hc ha e2, back hc ha hb e3⟩
  have ndp : (ys.map fun o => (cutO e o, posL o e)).Nodup := by
    refine nd_map (fun a ha b hb k => ?_) nd
    have k1 : cutO e a = cutO e b := congrArg Prod.fst k
    have k2 : posL a e = posL b e := congrArg Prod.snd k
    have pa := (put_back (ndo ha) (ino ha he)).1
    have pb := (put_back (ndo hb) (ino hb he)).1
    rw [k1, k2, ← pb] at pa
    exact strE pa
  have := List.Nodup.length_le_of_subset ndp (l₂ := boxes 5 zs) fun p hp => by
    obtain ⟨o, ho, rfl⟩ := List.mem_map.mp hp
    refine boxes_in ((zin _).mpr (List.mem_map.mpr ⟨o, ho, rfl⟩)) ?_
    have : posL o e < o.cps.toList.length := List.idxOf_lt_length_iff.mpr (ino ho he)
    rwa [(kin o ho).length_eq, yl] at this
  rw [List.length_map, boxes_len] at this
  omega
/-- three to five letters: 45 orders at most -/
theorem now_few {y : Str} {ys : List Str} (ly : Lett y) (h3 : 3 ≤ y.cps.size) (h5 : y.cps.size ≤ 5) (kin : ∀ z ∈ ys, z.cps.toList.Perm y.cps.toList) (nd : ys.Nodup) (nw : NoW ys y.cps.toList) : ys.length ≤ 45 := by
  rcases Nat.lt_or_ge y.cps.size 4 with h | h
  · have e3 : y.cps.size = 3 := by omega
    have tp := tidy_perm y
    have zl : (tidy y).cps.toList.length = 3 := by rw [tp.length_eq, Array.length_toList, e3]
    have lp3 := prs_lp (tidy y) (by rw [perm_size tp, e3]; decide) (by rw [perm_size tp, e3]; decide)
    have len : (prs (tidy y)).length = 3 := by
      rw [lp3]
      generalize (tidy y).cps.toList = z at zl
      match z, zl with
      | [_, _, _], _ => rfl
    have : (ys.map (bitsO y)).Nodup := nd_map (fun a ha b hb e => order_ext ly h3 (by omega) (kin a ha) (kin b hb) fun p hp => List.map_inj_left.mp e p hp) nd
    have := List.Nodup.length_le_of_subset this (l₂ := bits 3) fun r hr => by
      obtain ⟨o, _, rfl⟩ := List.mem_map.mp hr
      exact bits_in 3 _ (by unfold bitsO; rw [List.length_map, len])
    rw [List.length_map] at this
    exact Nat.le_trans this (by decide)
  · rcases Nat.lt_or_ge y.cps.size 5 with k | k
    · exact Nat.le_trans (four_few ly (by omega) kin nd nw) (by decide)
    · exact five_few ly (by omega) kin nd nw
end L2.Cal
end

section
set_option maxRecDepth 100000
set_option maxHeartbeats 4000000
/-! pure: calm is without wheels -/
namespace L2.Cal
open PySem PySem.Spec PyProof.Rows L2 CpComb
theorem press_asc {o x : Str} {u v w : Nat} (nd : o.cps.toList.Nodup) (h : press o x = s3 u v w) : aheadL o (u, v) = true ∧ aheadL o (v, w) = true ∧ aheadL o (u, w) = true := by
  have e : (o.cps.toList.filter fun c => decide (c ∈ x.cps.toList)) = [u, v, w] := by
    have := congrArg (fun s : Str => s.cps.toList) h
    simpa [press, s3] using this
  have pw := (ahead_asc nd).sublist (e ▸ List.filter_sublist)
  have p1 := List.pairwise_cons.mp pw
  exact ⟨p1.1 v (by simp), (List.pairwise_cons.mp p1.2).1 w (by simp), p1.1 w (by simp)⟩
/-- three things go round in some orders -/
def Wh (ys : List Str) (a b c : Nat) : Prop := (∃ o ∈ ys, Asc3 o a b c) ∧ (∃ o ∈ ys, Asc3 o b c a) ∧ ∃ o ∈ ys, Asc3 o c a b
theorem Wh.turn {ys : List Str} {a b c : Nat} (h : Wh ys a b c) : Wh ys b c a := ⟨h.2.1, h.2.2, h.1⟩
section
variable {ys : List Str} {y : Str} {a b c : Nat}
theorem press_iff (L : Loose ys y) (d : Apart a b c) (ha : a ∈ y.cps.toList) (hb : b ∈ y.cps.toList) (hc : c ∈ y.cps.toList) {o : Str} (ho : o ∈ ys) :
    (press o (s3 a b c) = s3 a b c ↔ Asc3 o a b c) ∧ (press o (s3 a b c) = s3 b c a ↔ Asc3 o b c a) ∧ (press o (s3 a b c) = s3 c a b ↔ Asc3 o c a b) ∧ (press o (s3 a b c) = s3 c b a ↔ Asc3 o c b a) ∧ (press o (s3 a b c) = s3 a c b ↔ Asc3 o a c b) ∧ (press o (s3 a b c) = s3 b a c ↔ Asc3 o b a c) := by
  have nd : o.cps.toList.Nodup := (L.let_.perm (L.of o ho)).1
  have m : ∀ {x}, x ∈ y.cps.toList → x ∈ o.cps.toList := fun h => (L.of o ho).mem_iff.mpr h
  have s1 := ahead_swap (m ha) (m hb) d.ab
  have s2 := ahead_swap (m hb) (m hc) d.bc
  have s3' := ahead_swap (m ha) (m hc) d.ac
  have six' := L.six d ha hb hc o ho
  obtain ⟨ab, ac, bc⟩ := d
  simp only [six, W1, W2, List.cons_append, List.nil_append, List.mem_cons, List.not_mem_nil, or_false] at six'
  unfold Asc3
  rw [s1, s2, s3']
  rcases six' with e | e | e | e | e | e <;> obtain ⟨k1, k2, k3⟩ := press_asc nd e <;> (try rw [s1] at *) <;> rw [e] <;> simp_all [s3]
theorem wheel_wh (L : Loose ys y) (d : Apart a b c) (ha : a ∈ y.cps.toList) (hb : b ∈ y.cps.toList) (hc : c ∈ y.cps.toList) : wheelAt ys (s3 a b c) = none ↔ ¬ Wh ys a b c ∧ ¬ Wh ys a c b := by
  have P := fun {o} (ho : o ∈ ys) => press_iff L d ha hb hc ho
  have ex : ∀ {e : Str} {u v w : Nat}, (∀ o ∈ ys, (press o (s3 a b c) = e ↔ Asc3 o u v w)) → (has (prW a b c) ys e = true ↔ ∃ o ∈ ys, Asc3 o u v w) := fun {e u v w} h => by
    rw [has_map, decide_eq_true_iff, List.mem_map]
    exact ⟨fun ⟨o, ho, k⟩ => ⟨o, ho, (h o ho).mp k⟩, fun ⟨o, ho, k⟩ => ⟨o, ho, (h o ho).mpr k⟩⟩
  have w1 : (W1 a b c).all (has (prW a b c) ys) = true ↔ Wh ys a b c := by
    unfold W1 Wh
    rw [List.all_cons, List.all_cons, List.all_cons, List.all_nil, Bool.and_true, Bool.and_eq_true, Bool.and_eq_true, ex fun o ho => (P ho).1, ex fun o ho => (P ho).2.1, ex fun o ho => (P ho).2.2.1]
  have w2 : (W2 a b c).all (has (prW a b c) ys) = true ↔ Wh ys a c b := by
    unfold W2 Wh
    rw [List.all_cons, List.all_cons, List.all_cons, List.all_nil, Bool.and_true, Bool.and_eq_true, Bool.and_eq_true, ex fun o ho => (P ho).2.2.2.1, ex fun o ho => (P ho).2.2.2.2.1, ex fun o ho => (P ho).2.2.2.2.2]
    exact ⟨fun ⟨x, y, z⟩ => ⟨y, x, z⟩, fun ⟨x, y, z⟩ => ⟨y, x, z⟩⟩
  rw [wheelAt_s3, ← w1, ← w2]
  unfold wheelR
  by_cases h1 : (W1 a b c).all (has (prW a b c) ys) = true
  · rw [if_pos h1]
    exact ⟨(fun h => by cases h), fun h => (h.1 h1).elim⟩
  · rw [if_neg h1]
    by_cases h2 : (W2 a b c).all (has (prW a b c) ys) = true
    · rw [if_pos h2]
      exact ⟨(fun h => by cases h), fun h => (h.2 h2).elim⟩
    · rw [if_neg h2]
      exact ⟨fun _ => ⟨h1, h2⟩, fun _ => rfl⟩
/-- calm is without wheels -/
theorem calm_now (L : Loose ys y) : calmB ys y = true ↔ NoW ys y.cps.toList := by
  have tp := tidy_perm y
  rw [calm_iff]
  constructor
  · intro h
    -- told of ascending letters
    have up : ∀ {i j k : Nat}, i ∈ y.cps.toList → j ∈ y.cps.toList → k ∈ y.cps.toList → i < j → j < k → ¬ Wh ys i j k ∧ ¬ Wh ys i k j := fun {i j k} hi hj hk l1 l2 =>
      (wheel_wh L ⟨by omega, by omega, by omega⟩ hi hj hk).mp (h _ (mem_tri.mpr ⟨i, j, k, tp.mem_iff.mpr hi, tp.mem_iff.mpr hj, tp.mem_iff.mpr hk, l1, l2, rfl⟩))
    intro a ha b hb c hc n1 n2 n3 w
    have w : Wh ys a b c := w
    rcases Nat.lt_or_gt_of_ne n1 with h1 | h1 <;> rcases Nat.lt_or_gt_of_ne n2 with h2 | h2 <;> rcases Nat.lt_or_gt_of_ne n3 with h3 | h3
    · exact (up ha hb hc h1 h2).1 w
    · omega
    · exact (up ha hc hb h3 h2).2 w
    · exact (up hc ha hb h3 h1).1 w.turn.turn
    · exact (up hb ha hc h1 h3).2 w.turn
    · exact (up hb hc ha h2 h3).1 w.turn
    · omega
    · exact (up hc hb ha h2 h1).2 w.turn.turn
  · intro h x hx
    obtain ⟨i, j, k, hi, hj, hk, l1, l2, rfl⟩ := mem_tri.mp hx
    have hi := tp.mem_iff.mp hi
    have hj := tp.mem_iff.mp hj
    have hk := tp.mem_iff.mp hk
    exact (wheel_wh L ⟨by omega, by omega, by omega⟩ hi hj hk).mpr ⟨fun w => h i hi j hj k hk (by omega) (by omega) (by omega) w, fun w => h i hi k hk j hj (by omega) (by omega) (by omega) w⟩
end
end L2.Cal
end

section
set_option maxRecDepth 100000
set_option maxHeartbeats 4000000
/-! pure: closed rolls, and what is put in by a hull -/
namespace L2.Cal
open PySem PySem.Spec PyProof.Rows L2 CpComb
/-- of each three somebody holds what the most of them hold -/
def Cls (ys : List Str) (y : Str) : Prop := ∀ a ∈ ys, ∀ b ∈ ys, ∀ c ∈ ys, ∃ d ∈ ys, ∀ p ∈ prs (tidy y), majF (aheadL a) (aheadL b) (aheadL c) p = aheadL d p
theorem all_cls {ys : List Str} {y : Str} (kin : ∀ z ∈ ys, z.cps.toList.Perm y.cps.toList) (h : allB ys y false = true) : Cls ys y := by
  unfold allB at h
  rw [List.all_eq_true] at h
  -- three at places that ascend
  have up : ∀ i j k, i < j → j < k → k < ys.length → ∃ d ∈ ys, ∀ p ∈ prs (tidy y), majF (aheadL (ys.getD i ⟨#[]⟩)) (aheadL (ys.getD j ⟨#[]⟩)) (aheadL (ys.getD k ⟨#[]⟩)) p = aheadL d p := fun i j k h1 h2 h3 => by
    have := h _ (trips_of h1 h2 h3)
    unfold fitB at this
    rw [if_neg Bool.false_ne_true, List.any_eq_true] at this
    obtain ⟨d, hd, e⟩ := this
    have pd : d.cps.toList.Perm y.cps.toList := kin d hd
    have e := of_decide_eq_true e
    unfold ansN at e
    rw [tidy_same pd] at e
    exact ⟨d, hd, fun p hp => (binQ_inj e p hp).symm⟩
  intro a ha b hb c hc
  obtain ⟨i, hi, ei⟩ := List.getElem_of_mem ha
  obtain ⟨j, hj, ej⟩ := List.getElem_of_mem hb
  obtain ⟨k, hk, ek⟩ := List.getElem_of_mem hc
  have gd : ∀ {n : Nat} (h : n < ys.length), ys.getD n ⟨#[]⟩ = ys[n] := fun h => by rw [List.getD_eq_getElem?_getD, List.getElem?_eq_getElem h] <;> rfl
  have U : ∀ {i j k : Nat} {a b c : Str} (hi : i < ys.length) (hj : j < ys.length) (hk : k < ys.length), ys[i] = a → ys[j] = b → ys[k] = c → i < j → j < k → ∃ d ∈ ys, ∀ p ∈ prs (tidy y), majF (aheadL a) (aheadL b) (aheadL c) p = aheadL d p := fun {i j k a b c} hi hj hk ei ej ek h1 h2 => by
    have := up i j k h1 h2 hk
    rw [gd hi, gd hj, gd hk, ei, ej, ek] at this
    exact this
  rcases Nat.lt_trichotomy i j with c1 | c1 | c1
  · rcases Nat.lt_trichotomy j k with c2 | c2 | c2
    · exact U hi hj hk ei ej ek c1 c2
    · have e : b = c := by rw [← ej, ← ek]; simp only [c2]
      exact ⟨b, hb, fun p _ => by rw [← e, maj_12, maj_23, maj_two]⟩
    · rcases Nat.lt_trichotomy i k with c3 | c3 | c3
      · obtain ⟨d, hd, e⟩ := U hi hk hj ei ek ej c3 c2
        exact ⟨d, hd, fun p hp => by rw [maj_23]; exact e p hp⟩
      · have e : a = c := by rw [← ei, ← ek]; simp only [c3]
        exact ⟨a, ha, fun p _ => by rw [← e, maj_23, maj_two]⟩
      · obtain ⟨d, hd, e⟩ := U hk hi hj ek ei ej c3 c1
        exact ⟨d, hd, fun p hp => by rw [maj_23, maj_12]; exact e p hp⟩
  · have e : a = b := by rw [← ei, ← ej]; simp only [c1]
    exact ⟨a, ha, fun p _ => by rw [← e, maj_two]⟩
  · rcases Nat.lt_trichotomy i k with c2 | c2 | c2
    · obtain ⟨d, hd, e⟩ := U hj hi hk ej ei ek c1 c2
      exact ⟨d, hd, fun p hp => by rw [maj_12]; exact e p hp⟩
    · have e : a = c := by rw [← ei, ← ek]; simp only [c2]
      exact ⟨a, ha, fun p _ => by rw [← e, maj_23, maj_two]⟩
    · rcases Nat.lt_trichotomy j k with c3 | c3 | c3
      · obtain ⟨d, hd, e⟩ := U hj hk hi ej ek ei c3 c2
        exact ⟨d, hd, fun p hp => by rw [maj_12, maj_23]; exact e p hp⟩
      · have e : b = c := by rw [← ej, ← ek]; simp only [c3]
        exact ⟨b, hb, fun p _ => by rw [← e, maj_12, maj_23, maj_two]⟩
      · obtain ⟨d, hd, e⟩ := U hk hj hi ek ej ei c3 c1
        exact ⟨d, hd, fun p hp => by rw [maj_23, maj_12, maj_23]; exact e p hp⟩
/-- the order of the most of three says what the most of them say -/
theorem odr_say {y a b c w : Str} {ys : List Str} (G : Good ys y) (sub : ∀ x ∈ [a, b, c], x ∈ ys) (pw : w.cps.toList.Perm y.cps.toList) (h : OdrV (tidy y) ys (cntS ys [a, b, c]) = .str w) : sayB y [a, b, c] w = true := by
  have kin : ∀ x ∈ [a, b, c], x.cps.toList.Perm y.cps.toList := fun x hx => G.lot.of x (sub x hx)
  have ndw : w.cps.toList.Nodup := pw.nodup_iff.mpr G.let_.1
  have rl := (rkd_perm (tidy y) ys (cntS ys [a, b, c])).length_eq
  have zl : (tidy y).cps.toList.length = (tidy y).cps.size := Array.length_toList
  unfold OdrV at h
  by_cases o : ordB_ (tidy y) ys (cntS ys [a, b, c]) = true
  · rw [if_pos o] at h
    have ew : rkd (tidy y) ys (cntS ys [a, b, c]) = w.cps.toList := by rw [← V.str.inj h]
    have up : w.cps.toList.Pairwise fun p q => btB ys (cntS ys [a, b, c]) p q = true := by
      rw [← ew, List.pairwise_iff_getElem]
      intro i j hi hj lt
      unfold ordB_ at o
      rw [List.all_eq_true] at o
      have := o i (List.mem_range.mpr (by omega))
      unfold okAt at this
      rw [List.all_eq_true] at this
      have := this _ (show (rkd (tidy y) ys (cntS ys [a, b, c]))[j] ∈ _ by rw [List.mem_drop_iff_getElem]; exact ⟨j - (i + 1), by omega, by congr 1; omega⟩)
      rw [List.getD_eq_getElem?_getD, List.getElem?_eq_getElem hi] at this
      exact this
    · refine decide_eq_true ?_
      unfold ansN
      rw [tidy_same pw]
      refine binQ_congr fun p hp => ?_
      obtain ⟨h1, h2, n⟩ := prs_in G.let_ G.h3 G.h6 hp
      have key : ∀ {p q : Nat}, p ∈ y.cps.toList → q ∈ y.cps.toList → p ≠ q → aheadL w (p, q) = true → majF (aheadL a) (aheadL b) (aheadL c) (p, q) = true := fun {p q} hp hq n e => by
        have lt : posL w p < posL w q := of_decide_eq_true e
        have l1 : posL w p < w.cps.toList.length := List.idxOf_lt_length_iff.mpr (pw.mem_iff.mpr hp)
        have l2 : posL w q < w.cps.toList.length := List.idxOf_lt_length_iff.mpr (pw.mem_iff.mpr hq)
        have := List.pairwise_iff_getElem.mp up _ _ l1 l2 lt
        rw [show w.cps.toList[posL w p] = p from List.getElem_idxOf l1, show w.cps.toList[posL w q] = q from List.getElem_idxOf l2, bt_three G.let_ kin G.lot.one sub hp hq n] at this
        exact this
      have sw : ∀ x ∈ [a, b, c], aheadL x (p.2, p.1) = !aheadL x (p.1, p.2) := fun x hx => ahead_swap ((kin x hx).mem_iff.mpr h1) ((kin x hx).mem_iff.mpr h2) n
      have sww := ahead_swap (pw.mem_iff.mpr h1) (pw.mem_iff.mpr h2) n
      show aheadL w (p.1, p.2) = majF (aheadL a) (aheadL b) (aheadL c) (p.1, p.2)
      cases e : aheadL w (p.1, p.2) with
      | true => exact (key h1 h2 n e).symm
      | false =>
        rw [e] at sww
        have := key h2 h1 n.symm sww
        unfold majF at this ⊢
        rw [sw a (by simp), sw b (by simp), sw c (by simp)] at this
        revert this
        cases aheadL a (p.1, p.2) <;> cases aheadL b (p.1, p.2) <;> cases aheadL c (p.1, p.2) <;> simp
  · rw [if_neg o] at h
    cases h
/-- so it is not in a roll that holds none for them -/
theorem none_in {y a b c w : Str} {ys : List Str} (G : Good ys y) (sub : ∀ x ∈ [a, b, c], x ∈ ys) (no : fitB ys y false [a, b, c] = false) (h : OdrV (tidy y) ys (cntS ys [a, b, c]) = .str w) : w ∉ ys := fun hw => by
  have say := odr_say G sub (G.lot.of w hw) h
  have : fitB ys y false [a, b, c] = true := by
    unfold fitB
    rw [if_neg Bool.false_ne_true, List.any_eq_true]
    exact ⟨w, hw, say⟩
  rw [no] at this
  cases this
/-- closed rolls are without wheels -/
theorem cls_now {ys : List Str} {y : Str} (G : Good ys y) (cl : Cls ys y) : NoW ys y.cps.toList := by
  rintro a ha b hb c hc n1 n2 n3 ⟨⟨o1, h1, e11, e12⟩, ⟨o2, h2, e21, e22⟩, o3, h3, e31, e32⟩
  obtain ⟨d, hd, e⟩ := cl o1 h1 o2 h2 o3 h3
  have pd := G.lot.of d hd
  have nd : d.cps.toList.Nodup := pd.nodup_iff.mpr G.let_.1
  have key : ∀ {p q : Nat}, p ∈ y.cps.toList → q ∈ y.cps.toList → p ≠ q → aheadL d (p, q) = majF (aheadL o1) (aheadL o2) (aheadL o3) (p, q) := fun {p q} hp hq n => by
    rcases prs_mem G.let_ G.h3 G.h6 hp hq n with m | m
    · exact (e _ m).symm
    · have k := e _ m
      have sw : ∀ x ∈ ys, aheadL x (q, p) = !aheadL x (p, q) := fun x hx => ahead_swap ((G.lot.of x hx).mem_iff.mpr hp) ((G.lot.of x hx).mem_iff.mpr hq) n
      unfold majF at k ⊢
      rw [sw _ h1, sw _ h2, sw _ h3, sw _ hd] at k
      revert k
      cases aheadL o1 (p, q) <;> cases aheadL o2 (p, q) <;> cases aheadL o3 (p, q) <;> cases aheadL d (p, q) <;> simp
  have t13 : aheadL o1 (a, c) = true := decide_eq_true (Nat.lt_trans (of_decide_eq_true e11) (of_decide_eq_true e12))
  have t21 : aheadL o2 (b, a) = true := decide_eq_true (Nat.lt_trans (of_decide_eq_true e21) (of_decide_eq_true e22))
  have t32 : aheadL o3 (c, b) = true := decide_eq_true (Nat.lt_trans (of_decide_eq_true e31) (of_decide_eq_true e32))
  have k1 : aheadL d (a, b) = true := by
    rw [key ha hb n1]
    unfold majF
    rw [e11, e32]
    cases aheadL o2 (a, b) <;> rfl
  have k2 : aheadL d (b, c) = true := by
    rw [key hb hc n2]
    unfold majF
    rw [e12, e21]
    cases aheadL o3 (b, c) <;> rfl
  have k3 : aheadL d (c, a) = true := by
    rw [key hc ha n3.symm]
    unfold majF
    rw [e22, e31]
    cases aheadL o1 (c, a) <;> rfl
  have q1 : posL d a < posL d b := of_decide_eq_true k1
  have q2 : posL d b < posL d c := of_decide_eq_true k2
  have q3 : posL d c < posL d a := of_decide_eq_true k3
  omega
/-! ### what a hull puts in -/
theorem hull_step {y a b c : Str} {zs : List Str} (G : Good zs y) (nw : NoW zs y.cps.toList) (sub : ∀ x ∈ [a, b, c], x ∈ zs) (no : fitB zs y false [a, b, c] = false) : ∃ w : Str, OdrV (tidy y) zs (cntS zs [a, b, c]) = .str w ∧ w.cps.toList.Perm y.cps.toList ∧ w ∉ zs ∧ (∀ ws : List Str, ws.Perm (zs ++ [w]) → NoW ws y.cps.toList) ∧ ∀ ws : List Str, (∀ o ∈ ws, o.cps.toList.Perm y.cps.toList) → Cls ws y → (∀ o ∈ zs, o ∈ ws) → w ∈ ws := by
  obtain ⟨w, h, pw, mj⟩ := odr_some G sub nw
  refine ⟨w, h, pw, none_in G sub no h, fun ws pm => (nw.more sub mj).sub fun z hz => pm.mem_iff.mp hz, fun ws kin cl inn => ?_⟩
  obtain ⟨d, hd, e⟩ := cl a (inn _ (sub a (by simp))) b (inn _ (sub b (by simp))) c (inn _ (sub c (by simp)))
  have : w = d := order_ext G.let_ G.h3 G.h6 pw (kin d hd) fun p hp => by
    obtain ⟨h1, h2, n⟩ := prs_in G.let_ G.h3 G.h6 hp
    rw [← e p hp]
    exact mj _ h1 _ h2 n
  rw [this]
  exact hd
end L2.Cal
end

section
set_option maxRecDepth 100000
set_option maxHeartbeats 4000000
/-! pure: closed and spoken rolls told by numbers of the orders' places in a line -/
namespace L2.Cal
open PySem PySem.Spec PyProof.Rows L2 CpComb
def ahI (l : List Nat) (p : Nat × Nat) : Bool := decide (l.idxOf p.1 < l.idxOf p.2)
/-- the pairs of places -/
def prI (n : Nat) : List (Nat × Nat) := (List.range n).flatMap fun j => (List.range j).map fun i => (i, j)
theorem mem_prI {n i j : Nat} : (i, j) ∈ prI n ↔ i < j ∧ j < n := by
  unfold prI
  simp only [List.mem_flatMap, List.mem_range, List.mem_map, Prod.mk.injEq]
  exact ⟨fun ⟨a, h, b, k, e1, e2⟩ => by subst e1; subst e2; exact ⟨k, h⟩, fun ⟨h, k⟩ => ⟨j, k, i, h, rfl, rfl⟩⟩
def mkN (n : Nat) (l : List Nat) : Nat := binQ (ahI l) (prI n)
def majN (a b c : Nat) : Nat := ((a &&& b) ||| (a &&& c)) ||| (b &&& c)
/-- whether the numbers tell a closed roll, a spoken one -/
def numB (ms : List Nat) (sp : Bool) : Bool := ms.all fun a => ms.all fun b => ms.all fun c => (if sp = true then [a, b, c] else ms).contains (majN a b c)
theorem maj_num {α : Type} (f g h : α → Bool) (l : List α) : majN (binQ f l) (binQ g l) (binQ h l) = binQ (fun p => (f p && g p || f p && h p) || g p && h p) l := by
  unfold majN
  rw [binQ_and, binQ_and, binQ_or, binQ_and, binQ_or]
theorem idx_map {f : Nat → Nat} {i : Nat} : ∀ {l : List Nat}, (∀ j ∈ l, f j = f i → j = i) → (l.map f).idxOf (f i) = l.idxOf i
  | [], _ => rfl
  | a :: l, h => by
    rw [List.map_cons, List.idxOf_cons, List.idxOf_cons]
    by_cases e : a = i
    · subst e
      rw [beq_self_eq_true, beq_self_eq_true]
      rfl
    · have e1 : (a == i) = false := beq_eq_false_iff_ne.mpr e
      have e2 : (f a == f i) = false := beq_eq_false_iff_ne.mpr fun k => e (h a List.mem_cons_self k)
      rw [e1, e2, cond_false, cond_false, idx_map fun j hj => h j (List.mem_cons_of_mem _ hj)]
/-- the orders of a roll as places in a line -/
structure Lin (ys : List Str) (y : Str) (n : Nat) (f : Nat → Nat) (L : List (List Nat)) : Prop where
  yl : y.cps.toList = (List.range n).map f
  inj : ∀ i < n, ∀ j < n, f i = f j → i = j
  pm : ∀ l ∈ L, l.Perm (List.range n)
  mem : ∀ o : Str, o ∈ ys ↔ ∃ l ∈ L, o.cps.toList = l.map f
section
variable {ys : List Str} {y : Str} {n : Nat} {f : Nat → Nat} {L : List (List Nat)}
theorem Lin.ah (I : Lin ys y n f L) {o : Str} {l : List Nat} (hl : l ∈ L) (e : o.cps.toList = l.map f) {i j : Nat} (hi : i < n) (hj : j < n) : aheadL o (f i, f j) = ahI l (i, j) := by
  have lt : ∀ k ∈ l, k < n := fun k hk => List.mem_range.mp ((I.pm l hl).mem_iff.mp hk)
  unfold aheadL posL ahI
  rw [e, idx_map fun k hk e => I.inj k (lt k hk) i hi e, idx_map fun k hk e => I.inj k (lt k hk) j hj e]
/-- what three say and what one says, told by numbers -/
theorem Lin.say (I : Lin ys y n f L) (G : Good ys y) {a b c d : Str} {la lb lc ld : List Nat} (ha : la ∈ L) (hb : lb ∈ L) (hc : lc ∈ L) (hd : ld ∈ L) (ea : a.cps.toList = la.map f) (eb : b.cps.toList = lb.map f) (ec : c.cps.toList = lc.map f) (ed : d.cps.toList = ld.map f) :
    (∀ p ∈ prs (tidy y), majF (aheadL a) (aheadL b) (aheadL c) p = aheadL d p) ↔ majN (mkN n la) (mkN n lb) (mkN n lc) = mkN n ld := by
  have inn : ∀ {o : Str} {l : List Nat}, l ∈ L → o.cps.toList = l.map f → o.cps.toList.Perm y.cps.toList := fun hl e => by rw [e, I.yl]; exact (I.pm _ hl).map f
  have pa := inn ha ea
  have pb := inn hb eb
  have pc := inn hc ec
  have pd := inn hd ed
  have swap : ∀ {p q : Nat}, p ∈ y.cps.toList → q ∈ y.cps.toList → p ≠ q → majF (aheadL a) (aheadL b) (aheadL c) (q, p) = aheadL d (q, p) → majF (aheadL a) (aheadL b) (aheadL c) (p, q) = aheadL d (p, q) := fun {p q} hp hq nn k => by
    unfold majF at k ⊢
    rw [ahead_swap (pa.mem_iff.mpr hp) (pa.mem_iff.mpr hq) nn, ahead_swap (pb.mem_iff.mpr hp) (pb.mem_iff.mpr hq) nn, ahead_swap (pc.mem_iff.mpr hp) (pc.mem_iff.mpr hq) nn, ahead_swap (pd.mem_iff.mpr hp) (pd.mem_iff.mpr hq) nn] at k
    revert k
    cases aheadL a (p, q) <;> cases aheadL b (p, q) <;> cases aheadL c (p, q) <;> cases aheadL d (p, q) <;> simp
  have fin : ∀ {i : Nat}, i < n → f i ∈ y.cps.toList := fun {i} hi => by rw [I.yl]; exact List.mem_map.mpr ⟨i, List.mem_range.mpr hi, rfl⟩
  have main : (∀ p ∈ prs (tidy y), majF (aheadL a) (aheadL b) (aheadL c) p = aheadL d p) ↔ ∀ p ∈ prI n, majF (ahI la) (ahI lb) (ahI lc) p = ahI ld p := by
    constructor
    · rintro h ⟨i, j⟩ hp
      obtain ⟨ij, jn⟩ := mem_prI.mp hp
      have iN : i < n := by omega
      have ne : f i ≠ f j := fun e => by have := I.inj i iN j jn e; omega
      have k : majF (aheadL a) (aheadL b) (aheadL c) (f i, f j) = aheadL d (f i, f j) := by
        rcases prs_mem G.let_ G.h3 G.h6 (fin iN) (fin jn) ne with m | m
        · exact h _ m
        · exact swap (fin iN) (fin jn) ne (h _ m)
      unfold majF at k ⊢
      rw [I.ah ha ea iN jn, I.ah hb eb iN jn, I.ah hc ec iN jn, I.ah hd ed iN jn] at k
      exact k
    · rintro h p hp
      obtain ⟨h1, h2, ne⟩ := prs_in G.let_ G.h3 G.h6 hp
      obtain ⟨p, q⟩ := p
      have h1 : p ∈ y.cps.toList := h1
      have h2 : q ∈ y.cps.toList := h2
      have ne : p ≠ q := ne
      have g1 : p ∈ (List.range n).map f := by rw [← I.yl]; exact h1
      have g2 : q ∈ (List.range n).map f := by rw [← I.yl]; exact h2
      clear h1 h2
      obtain ⟨i, hi, rfl⟩ := List.mem_map.mp g1
      obtain ⟨j, hj, rfl⟩ := List.mem_map.mp g2
      have hi := List.mem_range.mp hi
      have hj := List.mem_range.mp hj
      have key : ∀ {i j : Nat}, i < n → j < n → i < j → majF (aheadL a) (aheadL b) (aheadL c) (f i, f j) = aheadL d (f i, f j) := fun {i j} hi hj lt => by
        have k := h (i, j) (mem_prI.mpr ⟨lt, hj⟩)
        unfold majF at k ⊢
        rw [I.ah ha ea hi hj, I.ah hb eb hi hj, I.ah hc ec hi hj, I.ah hd ed hi hj]
        exact k
      rcases Nat.lt_trichotomy i j with lt | lt | lt
      · exact key hi hj lt
      · exact absurd (by rw [lt]) ne
      · exact swap (fin hi) (fin hj) ne (key hj hi lt)
  rw [main]
  unfold mkN
  rw [maj_num]
  exact ⟨fun h => binQ_congr h, fun h => binQ_inj h⟩
theorem cls_all (kin : ∀ z ∈ ys, z.cps.toList.Perm y.cps.toList) (h : Cls ys y) : allB ys y false = true := by
  unfold allB
  rw [List.all_eq_true]
  intro l hl
  obtain ⟨i, j, k, rfl, h1, h2, h3⟩ := trips_in hl
  obtain ⟨d, hd, e⟩ := h _ (getD_in (ys := ys) (n := i) (by omega)) _ (getD_in (ys := ys) (n := j) (by omega)) _ (getD_in (ys := ys) (n := k) (by omega))
  unfold fitB
  rw [if_neg Bool.false_ne_true, List.any_eq_true]
  refine ⟨d, hd, decide_eq_true ?_⟩
  unfold ansN
  rw [tidy_same (kin d hd)]
  exact binQ_congr fun p hp => (e p hp).symm
/-- of each three one holds what the most of them hold -/
def Spk (ys : List Str) (y : Str) : Prop := ∀ a ∈ ys, ∀ b ∈ ys, ∀ c ∈ ys, ∃ d ∈ [a, b, c], ∀ p ∈ prs (tidy y), majF (aheadL a) (aheadL b) (aheadL c) p = aheadL d p
theorem spk_all (kin : ∀ z ∈ ys, z.cps.toList.Perm y.cps.toList) (h : Spk ys y) : allB ys y true = true := by
  unfold allB
  rw [List.all_eq_true]
  intro l hl
  obtain ⟨i, j, k, rfl, h1, h2, h3⟩ := trips_in hl
  obtain ⟨d, hd, e⟩ := h _ (getD_in (ys := ys) (n := i) (by omega)) _ (getD_in (ys := ys) (n := j) (by omega)) _ (getD_in (ys := ys) (n := k) (by omega))
  unfold fitB
  rw [if_pos rfl, List.any_eq_true]
  have pd : d.cps.toList.Perm y.cps.toList := by
    simp only [List.mem_cons, List.not_mem_nil, or_false] at hd
    rcases hd with rfl | rfl | rfl
    · exact kin _ (getD_in (by omega))
    · exact kin _ (getD_in (by omega))
    · exact kin _ (getD_in (by omega))
  refine ⟨d, hd, decide_eq_true ?_⟩
  unfold ansN
  rw [tidy_same pd]
  exact binQ_congr fun p hp => (e p hp).symm
theorem all_spk (kin : ∀ z ∈ ys, z.cps.toList.Perm y.cps.toList) (h : allB ys y true = true) : Spk ys y := by
  unfold allB at h
  rw [List.all_eq_true] at h
  -- three at places that ascend
  have up : ∀ i j k, i < j → j < k → k < ys.length → ∃ d ∈ [ys.getD i ⟨#[]⟩, ys.getD j ⟨#[]⟩, ys.getD k ⟨#[]⟩], ∀ p ∈ prs (tidy y), majF (aheadL (ys.getD i ⟨#[]⟩)) (aheadL (ys.getD j ⟨#[]⟩)) (aheadL (ys.getD k ⟨#[]⟩)) p = aheadL d p := fun i j k h1 h2 h3 => by
    have := h _ (trips_of h1 h2 h3)
    unfold fitB at this
    rw [if_pos rfl, List.any_eq_true] at this
    obtain ⟨d, hd, e⟩ := this
    have hd : d ∈ [ys.getD i ⟨#[]⟩, ys.getD j ⟨#[]⟩, ys.getD k ⟨#[]⟩] := hd
    have pd : d.cps.toList.Perm y.cps.toList := by
      simp only [List.mem_cons, List.not_mem_nil, or_false] at hd
      rcases hd with rfl | rfl | rfl
      · exact kin _ (getD_in (by omega))
      · exact kin _ (getD_in (by omega))
      · exact kin _ (getD_in (by omega))
    have e := of_decide_eq_true e
    unfold ansN at e
    rw [tidy_same pd] at e
    exact ⟨d, hd, fun p hp => (binQ_inj e p hp).symm⟩
  intro a ha b hb c hc
  obtain ⟨i, hi, ei⟩ := List.getElem_of_mem ha
  obtain ⟨j, hj, ej⟩ := List.getElem_of_mem hb
  obtain ⟨k, hk, ek⟩ := List.getElem_of_mem hc
  have gd : ∀ {n : Nat} (h : n < ys.length), ys.getD n ⟨#[]⟩ = ys[n] := fun h => by rw [List.getD_eq_getElem?_getD, List.getElem?_eq_getElem h] <;> rfl
  have U : ∀ {i j k : Nat} {a b c : Str} (hi : i < ys.length) (hj : j < ys.length) (hk : k < ys.length), ys[i] = a → ys[j] = b → ys[k] = c → i < j → j < k → ∃ d ∈ [a, b, c], ∀ p ∈ prs (tidy y), majF (aheadL a) (aheadL b) (aheadL c) p = aheadL d p := fun {i j k a b c} hi hj hk ei ej ek h1 h2 => by
    have := up i j k h1 h2 hk
    rw [gd hi, gd hj, gd hk, ei, ej, ek] at this
    exact this
  have mem : ∀ {d u v w : Str}, d ∈ [u, v, w] → (u = a ∨ u = b ∨ u = c) → (v = a ∨ v = b ∨ v = c) → (w = a ∨ w = b ∨ w = c) → d ∈ [a, b, c] := fun {d u v w} h hu hv hw => by
    simp only [List.mem_cons, List.not_mem_nil, or_false] at h ⊢
    rcases h with rfl | rfl | rfl
    · exact hu
    · exact hv
    · exact hw
  rcases Nat.lt_trichotomy i j with c1 | c1 | c1
  · rcases Nat.lt_trichotomy j k with c2 | c2 | c2
    · exact U hi hj hk ei ej ek c1 c2
    · have e : b = c := by rw [← ej, ← ek]; simp only [c2]
      exact ⟨b, by simp, fun p _ => by rw [← e, maj_12, maj_23, maj_two]⟩
    · rcases Nat.lt_trichotomy i k with c3 | c3 | c3
      · obtain ⟨d, hd, e⟩ := U hi hk hj ei ek ej c3 c2
        exact ⟨d, mem hd (by simp) (by simp) (by simp), fun p hp => by rw [maj_23]; exact e p hp⟩
      · have e : a = c := by rw [← ei, ← ek]; simp only [c3]
        exact ⟨a, by simp, fun p _ => by rw [← e, maj_23, maj_two]⟩
      · obtain ⟨d, hd, e⟩ := U hk hi hj ek ei ej c3 c1
        exact ⟨d, mem hd (by simp) (by simp) (by simp), fun p hp => by rw [maj_23, maj_12]; exact e p hp⟩
  · have e : a = b := by rw [← ei, ← ej]; simp only [c1]
    exact ⟨a, by simp, fun p _ => by rw [← e, maj_two]⟩
  · rcases Nat.lt_trichotomy i k with c2 | c2 | c2
    · obtain ⟨d, hd, e⟩ := U hj hi hk ej ei ek c1 c2
      exact ⟨d, mem hd (by simp) (by simp) (by simp), fun p hp => by rw [maj_12]; exact e p hp⟩
    · have e : a = c := by rw [← ei, ← ek]; simp only [c2]
      exact ⟨a, by simp, fun p _ => by rw [← e, maj_23, maj_two]⟩
    · rcases Nat.lt_trichotomy j k with c3 | c3 | c3
      · obtain ⟨d, hd, e⟩ := U hj hk hi ej ek ei c3 c2
        exact ⟨d, mem hd (by simp) (by simp) (by simp), fun p hp => by rw [maj_12, maj_23]; exact e p hp⟩
      · have e : b = c := by rw [← ej, ← ek]; simp only [c3]
        exact ⟨b, by simp, fun p _ => by rw [← e, maj_12, maj_23, maj_two]⟩
      · obtain ⟨d, hd, e⟩ := U hk hj hi ek ej ei c3 c1
        exact ⟨d, mem hd (by simp) (by simp) (by simp), fun p hp => by rw [maj_23, maj_12, maj_23]; exact e p hp⟩
theorem Lin.wordOf (I : Lin ys y n f L) {l : List Nat} (hl : l ∈ L) : (⟨(l.map f).toArray⟩ : Str) ∈ ys := (I.mem _).mpr ⟨l, hl, rfl⟩
theorem Lin.all (I : Lin ys y n f L) (G : Good ys y) {ms : List Nat} (nm : L.map (mkN n) = ms) (sp : Bool) : allB ys y sp = numB ms sp := by
  have wd : ∀ l : List Nat, (⟨(l.map f).toArray⟩ : Str).cps.toList = l.map f := fun _ => rfl
  have out : ∀ {m : Nat}, m ∈ ms → ∃ l ∈ L, mkN n l = m := fun h => by rw [← nm] at h; exact List.mem_map.mp h
  have inn : ∀ {l : List Nat}, l ∈ L → mkN n l ∈ ms := fun h => by rw [← nm]; exact List.mem_map.mpr ⟨_, h, rfl⟩
  rw [Bool.eq_iff_iff]
  cases sp with
  | false =>
    have e : allB ys y false = true ↔ Cls ys y := ⟨all_cls G.lot.of, cls_all G.lot.of⟩
    rw [e]
    unfold numB
    simp only [List.all_eq_true, if_neg Bool.false_ne_true, List.contains_iff_mem]
    constructor
    · intro h a ha b hb c hc
      obtain ⟨la, ka, rfl⟩ := out ha
      obtain ⟨lb, kb, rfl⟩ := out hb
      obtain ⟨lc, kc, rfl⟩ := out hc
      obtain ⟨d, hd, k⟩ := h _ (I.wordOf ka) _ (I.wordOf kb) _ (I.wordOf kc)
      obtain ⟨ld, hd, ed⟩ := (I.mem d).mp hd
      rw [(I.say G ka kb kc hd (wd _) (wd _) (wd _) ed).mp k]
      exact inn hd
    · intro h a ha b hb c hc
      obtain ⟨la, ha, ea⟩ := (I.mem a).mp ha
      obtain ⟨lb, hb, eb⟩ := (I.mem b).mp hb
      obtain ⟨lc, hc, ec⟩ := (I.mem c).mp hc
      obtain ⟨ld, hd, ed⟩ := out (h _ (inn ha) _ (inn hb) _ (inn hc))
      exact ⟨_, I.wordOf hd, (I.say G ha hb hc hd ea eb ec (wd _)).mpr ed.symm⟩
  | true =>
    have e : allB ys y true = true ↔ Spk ys y := ⟨all_spk G.lot.of, spk_all G.lot.of⟩
    rw [e]
    unfold numB
    simp only [List.all_eq_true, if_true, List.contains_iff_mem, List.mem_cons, List.not_mem_nil, or_false]
    constructor
    · intro h a ha b hb c hc
      obtain ⟨la, ka, rfl⟩ := out ha
      obtain ⟨lb, kb, rfl⟩ := out hb
      obtain ⟨lc, kc, rfl⟩ := out hc
      obtain ⟨d, hd, k⟩ := h _ (I.wordOf ka) _ (I.wordOf kb) _ (I.wordOf kc)
      simp only [List.mem_cons, List.not_mem_nil, or_false] at hd
      rcases hd with rfl | rfl | rfl
      · exact .inl ((I.say G ka kb kc ka (wd _) (wd _) (wd _) (wd _)).mp k)
      · exact .inr (.inl ((I.say G ka kb kc kb (wd _) (wd _) (wd _) (wd _)).mp k))
      · exact .inr (.inr ((I.say G ka kb kc kc (wd _) (wd _) (wd _) (wd _)).mp k))
    · intro h a ha b hb c hc
      obtain ⟨la, ha, ea⟩ := (I.mem a).mp ha
      obtain ⟨lb, hb, eb⟩ := (I.mem b).mp hb
      obtain ⟨lc, hc, ec⟩ := (I.mem c).mp hc
      rcases h _ (inn ha) _ (inn hb) _ (inn hc) with k | k | k
      · exact ⟨a, by simp, (I.say G ha hb hc ha ea eb ec ea).mpr k⟩
      · exact ⟨b, by simp, (I.say G ha hb hc hb ea eb ec eb).mpr k⟩
      · exact ⟨c, by simp, (I.say G ha hb hc hc ea eb ec ec).mpr k⟩
end
end L2.Cal
end

section
set_option maxRecDepth 100000
set_option maxHeartbeats 4000000
/-! pure: rolls whose orders grow from the ends of a line -/
namespace L2.Cal
open PySem PySem.Spec PyProof.Rows L2 CpComb
/-- the same over places -/
def pkP : Nat → List Nat → List (List Nat × List Nat)
  | 0, y => [([], y)]
  | i + 1, y => (pkP i y).flatMap fun r => [(r.2.getD 0 0 :: r.1, r.2.drop 1), (r.2.getD (r.2.length - 1) 0 :: r.1, r.2.take (r.2.length - 1))]
def pkI (n : Nat) : List (List Nat) := (pkP (n - 1) (List.range n)).map fun r => r.2 ++ r.1
theorem pk_two (r : Str × Str) : (pkOf r).map (fun q => (q.1.cps.toList, q.2.cps.toList)) = [(r.2.cps.toList.getD 0 0 :: r.1.cps.toList, r.2.cps.toList.drop 1), (r.2.cps.toList.getD (r.2.cps.toList.length - 1) 0 :: r.1.cps.toList, r.2.cps.toList.take (r.2.cps.toList.length - 1))] := by
  unfold pkOf
  rw [List.map_cons, List.map_cons, List.map_nil, lsign, lsign, cut_tail, cut_init]
theorem pkIt_lists (y : Str) : ∀ i, (pkIt y i).map (fun q => (q.1.cps.toList, q.2.cps.toList)) = pkP i y.cps.toList
  | 0 => rfl
  | i + 1 => by
    show ((pkIt y i).flatMap pkOf).map _ = (pkP i y.cps.toList).flatMap _
    rw [← pkIt_lists y i, List.map_flatMap, List.flatMap_map]
    exact congrArg (fun g => List.flatMap g (pkIt y i)) (funext fun r => pk_two r)
theorem pkP_map {f : Nat → Nat} (l : List Nat) : ∀ i, i < l.length → pkP i (l.map f) = (pkP i l).map (fun r => (r.1.map f, r.2.map f)) ∧ ∀ r ∈ pkP i l, r.2.length + i = l.length
  | 0, _ => ⟨rfl, fun r hr => by rw [List.mem_singleton.mp hr] <;> rfl⟩
  | i + 1, h => by
    obtain ⟨e, ln⟩ := pkP_map l i (by omega)
    have gd : ∀ (m : List Nat) (k : Nat), k < m.length → (m.map f).getD k 0 = f (m.getD k 0) := fun m k hk => by
      rw [List.getD_eq_getElem?_getD, List.getElem?_map, List.getElem?_eq_getElem hk, List.getD_eq_getElem?_getD, List.getElem?_eq_getElem hk] <;> rfl
    refine ⟨?_, fun r hr => ?_⟩
    · show (pkP i (l.map f)).flatMap _ = ((pkP i l).flatMap _).map _
      rw [e, List.map_flatMap, List.flatMap_map, List.flatMap_def, List.flatMap_def]
      refine congrArg List.flatten (List.map_congr_left fun r hr => ?_)
      have := ln r hr
      simp only [List.length_map, List.map_cons, List.map_nil]
      rw [gd _ _ (by omega), gd _ _ (by omega), ← List.map_drop, ← List.map_take]
    · obtain ⟨q, hq, h2⟩ := List.mem_flatMap.mp hr
      have := ln q hq
      simp only [List.mem_cons, List.not_mem_nil, or_false] at h2
      rcases h2 with rfl | rfl
      · simp only [List.length_drop]; omega
      · simp only [List.length_take]; omega
theorem pkW_mem {y o : Str} {n : Nat} {f : Nat → Nat} (yl : y.cps.toList = (List.range n).map f) (n1 : 0 < n) : o ∈ pkW y ↔ ∃ l ∈ pkI n, o.cps.toList = l.map f := by
  have len : y.length = n := by
    have : y.cps.toList.length = n := by rw [yl, List.length_map, List.length_range]
    rw [Array.length_toList] at this
    exact this
  have key : (pkW y).map (fun s => s.cps.toList) = (pkI n).map fun l => l.map f := by
    unfold pkW pkI
    rw [List.map_map, List.map_map, len]
    have e := pkIt_lists y (n - 1)
    rw [yl, (pkP_map (f := f) (List.range n) (n - 1) (by rw [List.length_range]; omega)).1] at e
    have e2 := congrArg (List.map fun r : List Nat × List Nat => r.2 ++ r.1) e
    rw [List.map_map, List.map_map] at e2
    refine Eq.trans (List.map_congr_left fun r _ => ?_) (e2.trans (List.map_congr_left fun r _ => ?_))
    · exact app_cps _ _
    · exact (List.map_append ..).symm
  constructor
  · intro h
    have : o.cps.toList ∈ (pkW y).map (fun s => s.cps.toList) := List.mem_map.mpr ⟨o, h, rfl⟩
    rw [key] at this
    obtain ⟨l, hl, e⟩ := List.mem_map.mp this
    exact ⟨l, hl, e.symm⟩
  · rintro ⟨l, hl, e⟩
    have : o.cps.toList ∈ (pkI n).map fun l => l.map f := List.mem_map.mpr ⟨l, hl, e.symm⟩
    rw [← key] at this
    obtain ⟨s, hs, e⟩ := List.mem_map.mp this
    rw [← strE e]
    exact hs
theorem pkI_perm : ∀ n ∈ [3, 4, 5, 6], ∀ l ∈ pkI n, l.isPerm (List.range n) = true := by decide +kernel
theorem num3 : numB ((pkI 3).map (mkN 3)) false = true ∧ numB ((pkI 3).map (mkN 3)) true = true := by decide +kernel
theorem num4 : numB ((pkI 4).map (mkN 4)) false = true ∧ numB ((pkI 4).map (mkN 4)) true = false := by decide +kernel
theorem ms5 : (pkI 5).map (mkN 5) = [0, 1, 3, 19, 7, 23, 55, 183, 15, 31, 63, 191, 127, 255, 511, 1023] := by decide +kernel
theorem num5 : numB [0, 1, 3, 19, 7, 23, 55, 183, 15, 31, 63, 191, 127, 255, 511, 1023] false = true ∧ numB [0, 1, 3, 19, 7, 23, 55, 183, 15, 31, 63, 191, 127, 255, 511, 1023] true = false := by decide +kernel
theorem ms6 : (pkI 6).map (mkN 6) = [0, 1, 3, 35, 7, 39, 103, 615, 15, 47, 111, 623, 239, 751, 1775, 5871, 31, 63, 127, 639, 255, 767, 1791, 5887, 511, 1023, 2047, 6143, 4095, 8191, 16383, 32767] := by decide +kernel
/-- the same, with the first of three numbers given -/
def numA (ms : List Nat) (a : Nat) : Bool := ms.all fun b => ms.all fun c => ms.contains (majN a b c)
theorem numB_of {ms : List Nat} (h : ms.all (numA ms) = true) : numB ms false = true := by
  unfold numB
  simp only [if_neg Bool.false_ne_true]
  exact h
theorem num6_0 : ([0, 1] : List Nat).all (numA [0, 1, 3, 35, 7, 39, 103, 615, 15, 47, 111, 623, 239, 751, 1775, 5871, 31, 63, 127, 639, 255, 767, 1791, 5887, 511, 1023, 2047, 6143, 4095, 8191, 16383, 32767]) = true := by decide +kernel
theorem num6_1 : ([3, 35] : List Nat).all (numA [0, 1, 3, 35, 7, 39, 103, 615, 15, 47, 111, 623, 239, 751, 1775, 5871, 31, 63, 127, 639, 255, 767, 1791, 5887, 511, 1023, 2047, 6143, 4095, 8191, 16383, 32767]) = true := by decide +kernel
theorem num6_2 : ([7, 39] : List Nat).all (numA [0, 1, 3, 35, 7, 39, 103, 615, 15, 47, 111, 623, 239, 751, 1775, 5871, 31, 63, 127, 639, 255, 767, 1791, 5887, 511, 1023, 2047, 6143, 4095, 8191, 16383, 32767]) = true := by decide +kernel
theorem num6_3 : ([103, 615] : List Nat).all (numA [0, 1, 3, 35, 7, 39, 103, 615, 15, 47, 111, 623, 239, 751, 1775, 5871, 31, 63, 127, 639, 255, 767, 1791, 5887, 511, 1023, 2047, 6143, 4095, 8191, 16383, 32767]) = true := by decide +kernel
theorem num6_4 : ([15, 47] : List Nat).all (numA [0, 1, 3, 35, 7, 39, 103, 615, 15, 47, 111, 623, 239, 751, 1775, 5871, 31, 63, 127, 639, 255, 767, 1791, 5887, 511, 1023, 2047, 6143, 4095, 8191, 16383, 32767]) = true := by decide +kernel
theorem num6_5 : ([111, 623] : List Nat).all (numA [0, 1, 3, 35, 7, 39, 103, 615, 15, 47, 111, 623, 239, 751, 1775, 5871, 31, 63, 127, 639, 255, 767, 1791, 5887, 511, 1023, 2047, 6143, 4095, 8191, 16383, 32767]) = true := by decide +kernel
theorem num6_6 : ([239, 751] : List Nat).all (numA [0, 1, 3, 35, 7, 39, 103, 615, 15, 47, 111, 623, 239, 751, 1775, 5871, 31, 63, 127, 639, 255, 767, 1791, 5887, 511, 1023, 2047, 6143, 4095, 8191, 16383, 32767]) = true := by decide +kernel
theorem num6_7 : ([1775, 5871] : List Nat).all (numA [0, 1, 3, 35, 7, 39, 103, 615, 15, 47, 111, 623, 239, 751, 1775, 5871, 31, 63, 127, 639, 255, 767, 1791, 5887, 511, 1023, 2047, 6143, 4095, 8191, 16383, 32767]) = true := by decide +kernel
theorem num6_8 : ([31, 63] : List Nat).all (numA [0, 1, 3, 35, 7, 39, 103, 615, 15, 47, 111, 623, 239, 751, 1775, 5871, 31, 63, 127, 639, 255, 767, 1791, 5887, 511, 1023, 2047, 6143, 4095, 8191, 16383, 32767]) = true := by decide +kernel
theorem num6_9 : ([127, 639] : List Nat).all (numA [0, 1, 3, 35, 7, 39, 103, 615, 15, 47, 111, 623, 239, 751, 1775, 5871, 31, 63, 127, 639, 255, 767, 1791, 5887, 511, 1023, 2047, 6143, 4095, 8191, 16383, 32767]) = true := by decide +kernel
theorem num6_10 : ([255, 767] : List Nat).all (numA [0, 1, 3, 35, 7, 39, 103, 615, 15, 47, 111, 623, 239, 751, 1775, 5871, 31, 63, 127, 639, 255, 767, 1791, 5887, 511, 1023, 2047, 6143, 4095, 8191, 16383, 32767]) = true := by decide +kernel
theorem num6_11 : ([1791, 5887] : List Nat).all (numA [0, 1, 3, 35, 7, 39, 103, 615, 15, 47, 111, 623, 239, 751, 1775, 5871, 31, 63, 127, 639, 255, 767, 1791, 5887, 511, 1023, 2047, 6143, 4095, 8191, 16383, 32767]) = true := by decide +kernel
theorem num6_12 : ([511, 1023] : List Nat).all (numA [0, 1, 3, 35, 7, 39, 103, 615, 15, 47, 111, 623, 239, 751, 1775, 5871, 31, 63, 127, 639, 255, 767, 1791, 5887, 511, 1023, 2047, 6143, 4095, 8191, 16383, 32767]) = true := by decide +kernel
theorem num6_13 : ([2047, 6143] : List Nat).all (numA [0, 1, 3, 35, 7, 39, 103, 615, 15, 47, 111, 623, 239, 751, 1775, 5871, 31, 63, 127, 639, 255, 767, 1791, 5887, 511, 1023, 2047, 6143, 4095, 8191, 16383, 32767]) = true := by decide +kernel
theorem num6_14 : ([4095, 8191] : List Nat).all (numA [0, 1, 3, 35, 7, 39, 103, 615, 15, 47, 111, 623, 239, 751, 1775, 5871, 31, 63, 127, 639, 255, 767, 1791, 5887, 511, 1023, 2047, 6143, 4095, 8191, 16383, 32767]) = true := by decide +kernel
theorem num6_15 : ([16383, 32767] : List Nat).all (numA [0, 1, 3, 35, 7, 39, 103, 615, 15, 47, 111, 623, 239, 751, 1775, 5871, 31, 63, 127, 639, 255, 767, 1791, 5887, 511, 1023, 2047, 6143, 4095, 8191, 16383, 32767]) = true := by decide +kernel
theorem num6 : numB [0, 1, 3, 35, 7, 39, 103, 615, 15, 47, 111, 623, 239, 751, 1775, 5871, 31, 63, 127, 639, 255, 767, 1791, 5887, 511, 1023, 2047, 6143, 4095, 8191, 16383, 32767] false = true ∧ numB [0, 1, 3, 35, 7, 39, 103, 615, 15, 47, 111, 623, 239, 751, 1775, 5871, 31, 63, 127, 639, 255, 767, 1791, 5887, 511, 1023, 2047, 6143, 4095, 8191, 16383, 32767] true = false := by
  refine ⟨numB_of ?_, by decide +kernel⟩
  show ([0, 1] ++ ([3, 35] ++ ([7, 39] ++ ([103, 615] ++ ([15, 47] ++ ([111, 623] ++ ([239, 751] ++ ([1775, 5871] ++ ([31, 63] ++ ([127, 639] ++ ([255, 767] ++ ([1791, 5887] ++ ([511, 1023] ++ ([2047, 6143] ++ ([4095, 8191] ++ ([16383, 32767]))))))))))))))) : List Nat).all (numA [0, 1, 3, 35, 7, 39, 103, 615, 15, 47, 111, 623, 239, 751, 1775, 5871, 31, 63, 127, 639, 255, 767, 1791, 5887, 511, 1023, 2047, 6143, 4095, 8191, 16383, 32767]) = true
  rw [List.all_append, num6_0, Bool.true_and, List.all_append, num6_1, Bool.true_and, List.all_append, num6_2, Bool.true_and, List.all_append, num6_3, Bool.true_and, List.all_append, num6_4, Bool.true_and, List.all_append, num6_5, Bool.true_and, List.all_append, num6_6, Bool.true_and, List.all_append, num6_7, Bool.true_and, List.all_append, num6_8, Bool.true_and, List.all_append, num6_9, Bool.true_and, List.all_append, num6_10, Bool.true_and, List.all_append, num6_11, Bool.true_and, List.all_append, num6_12, Bool.true_and, List.all_append, num6_13, Bool.true_and, List.all_append, num6_14, Bool.true_and, num6_15]
end L2.Cal
end

section
set_option maxRecDepth 100000
set_option maxHeartbeats 4000000
/-! pure: what the law asks of rolls -/
namespace L2.Cal
open PySem PySem.Spec PyProof.Rows L2 CpComb
theorem line_of {y : Str} : y.cps.toList = (List.range y.cps.size).map fun i => y.cps.toList.getD i 0 := by
  refine List.ext_getElem (by rw [List.length_map, List.length_range, Array.length_toList]) fun i h1 h2 => ?_
  rw [List.getElem_map, List.getElem_range, List.getD_eq_getElem?_getD, List.getElem?_eq_getElem h1] <;> rfl
theorem line_inj {y : Str} (nd : y.cps.toList.Nodup) : ∀ i < y.cps.size, ∀ j < y.cps.size, y.cps.toList.getD i 0 = y.cps.toList.getD j 0 → i = j := fun i hi j hj e => by
  have hi : i < y.cps.toList.length := by rw [Array.length_toList]; exact hi
  have hj : j < y.cps.toList.length := by rw [Array.length_toList]; exact hj
  rw [List.getD_eq_getElem?_getD, List.getElem?_eq_getElem hi, List.getD_eq_getElem?_getD, List.getElem?_eq_getElem hj] at e
  exact (List.getElem_inj nd).mp e
/-- peaked rolls -/
theorem peaked_all {y : Str} {ys : List Str} (G : Good ys y) (pm : ys.Perm (pkW y)) : allB ys y false = true ∧ allB ys y true = decide (y.cps.size = 3) := by
  have h3 := G.h3
  have h6 := G.h6
  have lin : Lin ys y y.cps.size (fun i => y.cps.toList.getD i 0) (pkI y.cps.size) := ⟨line_of, line_inj G.let_.1, fun l hl => List.isPerm_iff.mp (pkI_perm _ (by simp only [List.mem_cons, List.not_mem_nil, or_false]; omega) l hl), fun o => pm.mem_iff.trans (pkW_mem line_of (by omega))⟩
  have c : y.cps.size = 3 ∨ y.cps.size = 4 ∨ y.cps.size = 5 ∨ y.cps.size = 6 := by omega
  rcases c with c | c | c | c <;> rw [c] at lin ⊢
  · rw [lin.all G rfl, lin.all G rfl, num3.1, num3.2]
    exact ⟨rfl, rfl⟩
  · rw [lin.all G rfl, lin.all G rfl, num4.1, num4.2]
    exact ⟨rfl, rfl⟩
  · rw [lin.all G ms5, lin.all G ms5, num5.1, num5.2]
    exact ⟨rfl, rfl⟩
  · rw [lin.all G ms6, lin.all G ms6, num6.1, num6.2]
    exact ⟨rfl, rfl⟩
theorem pkW_len {y : Str} {ys : List Str} (G : Good ys y) (pm : ys.Perm (pkW y)) : ys.length = 2 ^ (y.cps.size - 1) := by
  have h3 := G.h3
  have h6 := G.h6
  have e : ((pkW y).map fun s => s.cps.toList).length = ((pkI y.cps.size).map fun l => l.map fun i => y.cps.toList.getD i 0).length := by
    have := congrArg List.length (pkIt_lists y (y.cps.size - 1))
    unfold pkW pkI
    rw [List.length_map, List.length_map, List.length_map, List.length_map, show y.length = y.cps.size from rfl]
    rw [List.length_map] at this
    rw [this, line_of (y := y), (pkP_map (f := fun i => y.cps.toList.getD i 0) (List.range y.cps.size) (y.cps.size - 1) (by rw [List.length_range]; omega)).1, List.length_map]
  rw [List.length_map, List.length_map] at e
  rw [pm.length_eq, e]
  have c : y.cps.size = 3 ∨ y.cps.size = 4 ∨ y.cps.size = 5 ∨ y.cps.size = 6 := by omega
  rcases c with c | c | c | c <;> rw [c] <;> decide +kernel
/-! ### orders of a walk -/
theorem chn_spk {z y x : Str} {fs ys : List Str} (G : Good ys y) (same : ∀ o, o ∈ ys ↔ o ∈ fs) (zp : z.cps.toList.Perm y.cps.toList) (c : ChnW z fs x) : allB ys y true = true := by
  refine spk_all G.lot.of fun a ha b hb d hd => ?_
  have tot : ∀ {u v : Str}, u ∈ ys → v ∈ ys → LeW z u v ∨ LeW z v u := fun {u v} hu hv => by
    obtain ⟨i, hi, rfl⟩ := List.getElem_of_mem ((same u).mp hu)
    obtain ⟨j, hj, rfl⟩ := List.getElem_of_mem ((same v).mp hv)
    rcases Nat.lt_trichotomy i j with l | l | l
    · exact .inl (List.pairwise_iff_getElem.mp c.up i j hi hj l)
    · subst l
      exact .inl (LeW.refl _ _)
    · exact .inr (List.pairwise_iff_getElem.mp c.up j i hj hi l)
  have mid : ∀ {u m v : Str}, LeW z u m → LeW z m v → ∀ p ∈ prs (tidy y), majF (aheadL u) (aheadL m) (aheadL v) p = aheadL m p := fun {u m v} h1 h2 p hp => by
    obtain ⟨i1, i2, n⟩ := prs_in G.let_ G.h3 G.h6 hp
    have a1 := h1 p.1 p.2 (zp.mem_iff.mpr i1) (zp.mem_iff.mpr i2) n
    have a2 := h2 p.1 p.2 (zp.mem_iff.mpr i1) (zp.mem_iff.mpr i2) n
    have e : ∀ w : Str, ahB w p.1 p.2 = aheadL w p := fun _ => rfl
    rw [e, e, e] at a1 a2
    unfold majF
    revert a1 a2
    cases aheadL u p <;> cases aheadL m p <;> cases aheadL v p <;> cases aheadL z p <;> simp
  rcases tot ha hb with ab | ab <;> rcases tot hb hd with bd | bd <;> rcases tot ha hd with ad | ad
  · exact ⟨b, by simp, mid ab bd⟩
  · exact ⟨b, by simp, mid ab bd⟩
  · exact ⟨d, by simp, fun p hp => by rw [maj_23]; exact mid ad bd p hp⟩
  · exact ⟨a, by simp, fun p hp => by rw [maj_12, maj_23, maj_12, maj_23]; exact mid ad ab p hp⟩
  · exact ⟨a, by simp, fun p hp => by rw [maj_12]; exact mid ab ad p hp⟩
  · exact ⟨d, by simp, fun p hp => by rw [maj_12, maj_23]; exact mid bd ad p hp⟩
  · exact ⟨b, by simp, fun p hp => by rw [maj_12, maj_23, maj_12]; exact mid bd ab p hp⟩
  · exact ⟨b, by simp, fun p hp => by rw [maj_12, maj_23, maj_12]; exact mid bd ab p hp⟩
end L2.Cal
end

section
set_option maxRecDepth 100000
set_option maxHeartbeats 4000000
/-! pure: four known rolls over drawn letters -/
namespace L2.Cal
open PySem PySem.Spec PyProof.Rows L2 CpComb
abbrev atY (y : Str) (i : Nat) : Nat := y.cps.toList.getD i 0
/-- the order in which the letters of a line stand so -/
def wd (y : Str) (l : List Nat) : Str := ⟨(l.map (atY y)).toArray⟩
theorem wd_list (y : Str) (l : List Nat) : (wd y l).cps.toList = l.map (atY y) := rfl
section
variable {y : Str} {n : Nat} {L : List (List Nat)} {ys : List Str}
theorem wd_perm (hn : y.cps.size = n) {l : List Nat} (hl : l.isPerm (List.range n) = true) : (wd y l).cps.toList.Perm y.cps.toList := by
  subst hn
  rw [wd_list, line_of (y := y)]
  exact (List.isPerm_iff.mp hl).map _
theorem lin_of (ly : Lett y) (hn : y.cps.size = n) (hL : (L.all fun l => l.isPerm (List.range n)) = true) (pm : ys.Perm (L.map (wd y))) : Lin ys y n (atY y) L := by
  subst hn
  have hL := List.all_eq_true.mp hL
  refine ⟨line_of, line_inj ly.1, fun l hl => List.isPerm_iff.mp (hL l hl), fun o => pm.mem_iff.trans ?_⟩
  rw [List.mem_map]
  exact ⟨fun ⟨l, hl, e⟩ => ⟨l, hl, by rw [← e] <;> rfl⟩, fun ⟨l, hl, e⟩ => ⟨l, hl, strE e.symm⟩⟩
theorem wd_inj (ly : Lett y) (hn : y.cps.size = n) {l m : List Nat} (hl : l.isPerm (List.range n) = true) (hm : m.isPerm (List.range n) = true) (e : wd y l = wd y m) : l = m := by
  subst hn
  have e : l.map (atY y) = m.map (atY y) := congrArg (fun s : Str => s.cps.toList) e
  have b : ∀ {l : List Nat}, l.isPerm (List.range y.cps.size) = true → ∀ i ∈ l, i < y.cps.size := fun h i hi => List.mem_range.mp ((List.isPerm_iff.mp h).mem_iff.mp hi)
  have len : l.length = m.length := by rw [← List.length_map (f := atY y), e, List.length_map]
  refine List.ext_getElem len fun i h1 h2 => ?_
  have : (l.map (atY y))[i]'(by rw [List.length_map]; exact h1) = (m.map (atY y))[i]'(by rw [List.length_map]; exact h2) := by simp only [e]
  rw [List.getElem_map, List.getElem_map] at this
  exact line_inj ly.1 _ (b hl _ (List.getElem_mem h1)) _ (b hm _ (List.getElem_mem h2)) this
theorem good_wd (ly : Lett y) (hn : y.cps.size = n) (h3 : 3 ≤ n) (h6 : n ≤ 6) (hL : (L.all fun l => l.isPerm (List.range n)) = true) (nd : L.Nodup) (pos : 0 < L.length) (few : L.length ≤ 48) (pm : ys.Perm (L.map (wd y))) (so : sortedS ys = true) : Good ys y := by
  have hL := List.all_eq_true.mp hL
  have ndw : (L.map (wd y)).Nodup := List.pairwise_map.mpr (nd.imp_of_mem fun {l m} hl hm ne e => ne (wd_inj ly hn (hL l hl) (hL m hm) e))
  have cl : Climbs ys := climbs_sorted so (pm.nodup_iff.mpr ndw)
  have ln : ys.length = L.length := by rw [pm.length_eq, List.length_map]
  exact ⟨⟨cl, climbs_nodup cl, by rw [ln]; exact pos, fun z hz => by
    obtain ⟨l, hl, rfl⟩ := List.mem_map.mp (pm.mem_iff.mp hz)
    exact wd_perm hn (hL l hl)⟩, ly, by rw [hn]; exact h3, by rw [hn]; exact h6, by rw [ln]; exact few⟩
theorem trio_three (h : ys.length = 3) {l : List Nat} (hl : l ∈ trips ys) : trio ys l = ys := by
  obtain ⟨i, j, k, rfl, h1, h2, h3⟩ := trips_in hl
  obtain rfl : i = 0 := by omega
  obtain rfl : j = 1 := by omega
  obtain rfl : k = 2 := by omega
  match ys, h with
  | [a, b, c], _ => rfl
end
def LSq : List (List Nat) := [[0, 1, 2, 3], [0, 1, 3, 2], [1, 0, 2, 3], [1, 0, 3, 2]]
def LSo : List (List Nat) := [[0, 1, 2, 3], [1, 2, 3, 0], [2, 1, 0, 3]]
def LWi : List (List Nat) := LSo ++ [[1, 2, 0, 3]]
def LTu : List (List Nat) := [[0, 1, 2], [1, 2, 0], [2, 0, 1]]
theorem num_sq : numB (LSq.map (mkN 4)) true = true := by decide +kernel
theorem num_so : numB (LSo.map (mkN 4)) false = false := by decide +kernel
theorem num_wi : numB (LWi.map (mkN 4)) false = true ∧ numB (LWi.map (mkN 4)) true = false := by decide +kernel
theorem num_tu : numB (LTu.map (mkN 3)) false = false ∧ numB (LTu.map (mkN 3)) true = false := by decide +kernel
theorem maj_so : majN (mkN 4 [0, 1, 2, 3]) (mkN 4 [1, 2, 3, 0]) (mkN 4 [2, 1, 0, 3]) = mkN 4 [1, 2, 0, 3] := by decide +kernel
theorem bad_wi : ∀ a ∈ LWi, ∀ b ∈ LWi, ∀ c ∈ LWi, a ≠ b → b ≠ c → a ≠ c → [mkN 4 a, mkN 4 b, mkN 4 c].contains (majN (mkN 4 a) (mkN 4 b) (mkN 4 c)) = true ∨ (a ∈ LSo ∧ b ∈ LSo ∧ c ∈ LSo ∧ ∀ l ∈ LSo, l = a ∨ l = b ∨ l = c) := by decide +kernel
section
variable {y : Str} {so wi : List Str}
/-- the one that is put in -/
theorem hull_so (ly : Lett y) (hn : y.cps.size = 4) (Gs : Good so y) (Gw : Good wi y) (ps : so.Perm (LSo.map (wd y))) (pw : wi.Perm (LWi.map (wd y))) {zs : List Str} (Gz : Good zs y) (az : allB zs y false = true) (sub : ∀ o ∈ so, o ∈ zs)
    (mn : ∀ ws : List Str, (∀ o ∈ ws, o.cps.toList.Perm y.cps.toList) → Cls ws y → (∀ o ∈ so, o ∈ ws) → ∀ o ∈ zs, o ∈ ws) : zs = wi := by
  have I := lin_of ly hn (by decide +kernel : (LWi.all fun l => l.isPerm (List.range 4)) = true) pw
  have aw : allB wi y false = true := by rw [I.all Gw rfl]; exact num_wi.1
  have sw : ∀ o ∈ so, o ∈ wi := fun o ho => pw.mem_iff.mpr (by
    obtain ⟨l, hl, rfl⟩ := List.mem_map.mp (ps.mem_iff.mp ho)
    exact List.mem_map.mpr ⟨l, List.mem_append_left _ hl, rfl⟩)
  have c1 := mn wi Gw.lot.of (all_cls Gw.lot.of aw) sw
  have ins : ∀ l ∈ LSo, wd y l ∈ zs := fun l hl => sub _ (ps.mem_iff.mpr (List.mem_map.mpr ⟨l, hl, rfl⟩))
  obtain ⟨d, hd, e⟩ := all_cls Gz.lot.of az _ (ins [0, 1, 2, 3] (by decide)) _ (ins [1, 2, 3, 0] (by decide)) _ (ins [2, 1, 0, 3] (by decide))
  have k := (I.say Gw (la := [0, 1, 2, 3]) (lb := [1, 2, 3, 0]) (lc := [2, 1, 0, 3]) (ld := [1, 2, 0, 3]) (by decide) (by decide) (by decide) (by decide) (wd_list y _) (wd_list y _) (wd_list y _) (wd_list y _)).mpr maj_so
  have ed : d = wd y [1, 2, 0, 3] := order_ext ly Gs.h3 Gs.h6 (Gz.lot.of d hd) (wd_perm hn (by decide +kernel)) fun p hp => by rw [← e p hp, k p hp]
  refine only_order (climbs_all Gz.lot.up) (climbs_all Gw.lot.up) fun z => ⟨c1 z, fun hz => ?_⟩
  obtain ⟨l, hl, rfl⟩ := List.mem_map.mp (pw.mem_iff.mp hz)
  rcases List.mem_append.mp hl with h | h
  · exact ins l h
  · rw [List.mem_singleton.mp h, ← ed]
    exact hd
/-- the three that no one of them speaks for -/
theorem wide_bad (ly : Lett y) (hn : y.cps.size = 4) (Gs : Good so y) (Gw : Good wi y) (ps : so.Perm (LSo.map (wd y))) (pw : wi.Perm (LWi.map (wd y))) {l : List Nat} (hl : l ∈ trips wi) (hb : fitB wi y true (trio wi l) = false) : trio wi l = so := by
  have I := lin_of ly hn (by decide +kernel : (LWi.all fun l => l.isPerm (List.range 4)) = true) pw
  obtain ⟨i, j, k, rfl, h1, h2, h3⟩ := trips_in hl
  have g : ∀ {m : Nat} (h : m < wi.length), wi.getD m ⟨#[]⟩ = wi[m] := fun h => by rw [List.getD_eq_getElem?_getD, List.getElem?_eq_getElem h] <;> rfl
  have et : trio wi [i, j, k] = [wi[i], wi[j], wi[k]] := by
    show [wi.getD i ⟨#[]⟩, wi.getD j ⟨#[]⟩, wi.getD k ⟨#[]⟩] = _
    rw [g, g, g]
  rw [et] at hb ⊢
  have up := List.pairwise_iff_getElem.mp (climbs_all Gw.lot.up)
  have b1 := up i j (by omega) (by omega) h1
  have b2 := up j k (by omega) (by omega) h2
  have b3 := up i k (by omega) (by omega) (by omega)
  have ne : ∀ {a b : Str}, Below a b → a ≠ b := fun h e => below_irr (e ▸ h)
  obtain ⟨la, ha, ea⟩ := (I.mem _).mp (List.getElem_mem (show i < wi.length by omega))
  obtain ⟨lb, hb', eb⟩ := (I.mem _).mp (List.getElem_mem (show j < wi.length by omega))
  obtain ⟨lc, hc, ec⟩ := (I.mem _).mp (List.getElem_mem h3)
  have wa : wi[i] = wd y la := strE ea
  have wb : wi[j] = wd y lb := strE eb
  have wc : wi[k] = wd y lc := strE ec
  have nab : la ≠ lb := fun e => ne b1 (by rw [wa, wb, e])
  have nbc : lb ≠ lc := fun e => ne b2 (by rw [wb, wc, e])
  have nac : la ≠ lc := fun e => ne b3 (by rw [wa, wc, e])
  rcases bad_wi la ha lb hb' lc hc nab nbc nac with k' | ⟨m1, m2, m3, m4⟩
  · exfalso
    have : fitB wi y true [wi[i], wi[j], wi[k]] = true := by
      unfold fitB
      rw [if_pos rfl, List.any_eq_true]
      have fin : ∀ {d : Str} {ld : List Nat}, ld ∈ LWi → d.cps.toList = ld.map (atY y) → d ∈ [wi[i], wi[j], wi[k]] → majN (mkN 4 la) (mkN 4 lb) (mkN 4 lc) = mkN 4 ld → ∃ o ∈ [wi[i], wi[j], wi[k]], sayB y [wi[i], wi[j], wi[k]] o = true := fun {d ld} hd ed hm e => by
        refine ⟨d, hm, decide_eq_true ?_⟩
        unfold ansN
        rw [tidy_same (show d.cps.toList.Perm y.cps.toList by rw [ed, I.yl]; exact (I.pm _ hd).map _)]
        exact binQ_congr fun p hp => ((I.say Gw ha hb' hc hd ea eb ec ed).mpr e p hp).symm
      rw [List.contains_iff_mem] at k'
      simp only [List.mem_cons, List.not_mem_nil, or_false] at k'
      rcases k' with q | q | q
      · exact fin ha ea (by simp) q
      · exact fin hb' eb (by simp) q
      · exact fin hc ec (by simp) q
    rw [this] at hb
    cases hb
  · refine only_order (List.Pairwise.cons (fun x hx => ?_) (List.Pairwise.cons (fun x hx => ?_) (List.pairwise_singleton _ _))) (climbs_all Gs.lot.up) fun z => ⟨fun hz => ?_, fun hz => ?_⟩
    · simp only [List.mem_cons, List.not_mem_nil, or_false] at hx
      rcases hx with rfl | rfl
      · exact b1
      · exact b3
    · rw [List.mem_singleton.mp hx]
      exact b2
    · rw [ps.mem_iff]
      simp only [List.mem_cons, List.not_mem_nil, or_false] at hz
      rcases hz with rfl | rfl | rfl
      · rw [wa]; exact List.mem_map.mpr ⟨la, m1, rfl⟩
      · rw [wb]; exact List.mem_map.mpr ⟨lb, m2, rfl⟩
      · rw [wc]; exact List.mem_map.mpr ⟨lc, m3, rfl⟩
    · obtain ⟨l, hl, rfl⟩ := List.mem_map.mp (ps.mem_iff.mp hz)
      rcases m4 l hl with rfl | rfl | rfl
      · rw [← wa]; simp
      · rw [← wb]; simp
      · rw [← wc]; simp
end
/-- closed rolls are calm -/
theorem closed_calm {ys : List Str} {y : Str} (G : Good ys y) (h : allB ys y false = true) : calmB ys y = true := (calm_now G.loose).mpr (cls_now G (all_cls G.lot.of h))
end L2.Cal
end

section
set_option maxRecDepth 100000
set_option maxHeartbeats 4000000
/-! own error classes: under a base class of the program, with __init__ that says super().__init__(text) and self.f = f -/
namespace L2.Cal
open PySem PySem.W PySem.Calls PyProof.Rows
open Builtin Builtin.ObjectAttr
section
variable {prog : Program} {w : World} {A : Around} {E : Value → Shared → Prop} {R : Result → Shared → Prop} {hp : Heap} {g : Array GenState} {d : Drawn} {t : Nat} {os : OsState}
/-- `e.f = v` on a fresh error of an own class: its dict comes into being -/
theorem err_put {K : Frag} {B : String} {bmB : List Value} {f : Str} {tk : Tok} {v : Value} {e C t0 : Addr} (SF : StoreFacts B bmB "object.__setattr__" "object") (X : K.In hp) (he : hp.get? e = some (excObj C t0 none .none)) (over : excOver K C bmB = true) (hd : hasDictIn K C = true) (ha : findIn K (.ref C) f = some none)
    (done : ∀ h' tk' dx, (∀ b o, b ≠ e → hp.get? b = some o → h'.get? b = some o) → hp.get? dx = none → dx ≠ e → h'.get? e = some (excObj C t0 (some dx) .none) → h'.Ns1 dx (fun y => if y = f then some v else none) → R (.ok (.ret .none)) ⟨h', g, d, tk', os⟩) :
    codeAny (model prog w) A (.call (.builtin "object.__setattr__") ⟨[.ref e, .str f tk, v], []⟩) R ⟨hp, g, d, t, os⟩ := by
  have no : takerIn K C f = some none := by unfold takerIn; rw [ha]; rfl
  have away : hp.objs.size ≠ e := fun z => Nat.lt_irrefl _ (z ▸ Heap.lt_size he)
  refine osa_openX (od := none) SF X ⟨he, rfl, rfl, trivial⟩ over no fun _ => ?_
  obtain ⟨cd, hc, hdd⟩ := any_some hd
  refine wpAny_bind (wpAny_pure (wpAny_bind (instanceDict_exc he (looks_clsIn X hc) hdd ?_)))
  have kept : ∀ b o, b ≠ e → hp.get? b = some o → ((hp.push (dictOf [] 0)).update e fun o => { o with dict := some hp.objs.size }).get? b = some o := fun b o n z => (Heap.get?_update_ne _ _ _ _ n).trans (Heap.get?_push_of_some _ z)
  have fresh : hp.get? hp.objs.size = none := by
    cases z : hp.get? hp.objs.size with
    | none => rfl
    | some o => exact absurd (Heap.lt_size z) (Nat.lt_irrefl _)
  have dct : ((hp.push (dictOf [] 0)).update e fun o => { o with dict := some hp.objs.size }).get? hp.objs.size = some (dictOf [] 0) := (Heap.get?_update_ne _ _ _ _ away).trans (Heap.get?_push_at rfl rfl)
  have self : ((hp.push (dictOf [] 0)).update e fun o => { o with dict := some hp.objs.size }).get? e = some (excObj C t0 (some hp.objs.size) .none) := Heap.get?_update_self _ (Heap.get?_push_of_some _ he) rfl
  refine HandSPX.store_in_new ⟨_, #[], 0, dct, rfl, fun _ z => by simp at z, fun _ => rfl⟩ fun h' tk' n1 sb => ?_
  refine done h' tk' hp.objs.size (fun b o n z => ?_) fresh away ((sb.2 e away.symm).trans self) n1
  have : b ≠ hp.objs.size := fun q => by rw [q, fresh] at z; cases z
  exact (sb.2 b this).trans (kept b o n z)
end

/-- what is asked of a built-in base: ValueError, LookupError, ArithmeticError -/
structure BaseF (B newId initId : String) (bmB : List Value) : Prop where
  FB : ExcBaseFacts B newId initId bmB
  kx : KxsFacts B initId
  st : StoreFacts B bmB "object.__setattr__" "object"
theorem baseV : BaseF "ValueError" "ValueError.__new__" "ValueError.__init__" [.type "ValueError", .type "Exception", .type "BaseException", .type "object"] := ⟨F.excBase_ValueError, kxs_ValueError, PySem.F.store_ValueError⟩
theorem baseL : BaseF "LookupError" "LookupError.__new__" "LookupError.__init__" [.type "LookupError", .type "Exception", .type "BaseException", .type "object"] := ⟨F.excBase_LookupError, kxs_LookupError, PySem.F.store_LookupError⟩
theorem baseA : BaseF "ArithmeticError" "ArithmeticError.__new__" "ArithmeticError.__init__" [.type "ArithmeticError", .type "Exception", .type "BaseException", .type "object"] := ⟨F.excBase_ArithmeticError, kxs_ArithmeticError, PySem.F.store_ArithmeticError⟩


/-- what the written part says of an own error class -/
structure ErrC (K : Frag) (C : Addr) (B newId initId : String) (bmB : List Value) : Prop where
  bf : BaseF B newId initId bmB
  cls : ∃ nm q N bs bm sn sub ab col dd k0 k1 k2 k3 k5, K.lookup C = some (excClassObj nm q C N bs bm true sn sub ab col dd k0 k1 k2 k3 k5 newId) ∧ excTail bmB bm = true
  sa : findIn K (.ref C) "__setattr__" = some (some (.builtin "object.__setattr__"))
  kC : keepIn K (.ref C) = true
  ga : findIn K (.ref C) "__getattribute__" = some (some (.builtin "BaseException.__getattribute__"))
  gg : findIn K (.ref C) "__getattr__" = some none
  exC : subIn K (.ref C) (.type "BaseException") = some true
  tyC : typeIn K (.ref C) = some (.type "type")
  dcl : findIn K (.ref C) "__class__" = some (some (.builtin "object.__class__"))
  dget : specialIn K (.builtin "object.__class__") "__get__" = some (some (.builtin "getset_descriptor.__get__"))
  dtk : takesIn K (.builtin "object.__class__") = some true
  mobj : mroIn K C (.type "object") = some true
  opq : nsIn K cStatics "thirdparty.any" = some none
theorem ErrC.cd {K : Frag} {C : Addr} {B newId initId : String} {bmB : List Value} (T : ErrC K C B newId initId bmB) : ∃ cd bm, clsIn K C = some cd ∧ cd.mro = .ref C :: bm ∧ excTail bmB bm = true ∧ cd.hasDict = true := by
  obtain ⟨nm, q, N, bs, bm, sn, sub, ab, col, dd, k0, k1, k2, k3, k5, hC, hbm⟩ := T.cls
  exact ⟨{ name := nm, bases := bs, mro := .ref C :: bm, ns := N, qualname := q, hasDict := true, slotNames := sn, subclasses := sub, abstract := ab, collection := col, hasDel := false }, bm, by unfold clsIn; rw [hC] <;> rfl, rfl, hbm, rfl⟩
theorem ErrC.has {K : Frag} {C : Addr} {B newId initId : String} {bmB : List Value} (T : ErrC K C B newId initId bmB) {X : String} (h : bmB.contains (.type X) = true) : mroIn K C (.type X) = some true := by
  obtain ⟨cd, bm, hcd, hm, hbm, _⟩ := T.cd
  unfold mroIn
  rw [hcd, Option.bind_some, hm, if_neg (by simp), List.contains_cons, excTail_contains X bm hbm, h, Bool.or_true]

/-- the body of such an __init__ -/
abbrev initBody (txt n f : Str) (j : Nat) (p0 p1 p2 p3 p4 p5 p6 p7 p8 p9 : Pos) : List Stmt :=
  [.Expr (.Call (.Attribute (.Call (.Name "super" p0) [] [] p1) "__init__" p2) [.Constant (.str txt) j p3] [] p4) p5, .Assign [.Attribute (.Name "self" p6) f p7] (.Name n p8) p9]
section
variable {prog : Program} {w : World} {A : Around} {E : Value → Shared → Prop} {R : Result → Shared → Prop} {hp : Heap} {g : Array GenState} {d : Drawn} {t : Nat} {os : OsState} {K : Frag} {C : Addr} {B newId initId : String} {bmB : List Value}
theorem init_run {txt n f : Str} {j : Nat} {p0 p1 p2 p3 p4 p5 p6 p7 p8 p9 : Pos} {qual : Str} {params : Arguments} {scope : Scope} {kV doc pm ct oc ccl cl v : Value} {an od cdd cld : Option Addr} {osl ccs csl : Array (Option Value)} {fI cc cda e t0 : Addr}
    {vs : Array Value} {file : Str} {tf : Tok} {ar : Arg} {args : Args} {mg mb : Str → Option Value}
    (T : ErrC K C B newId initId bmB) (X : K.In hp) (hlim : hp.NoLimit) (hmg : hp.Ns mainGlobals mg) (hmb : hp.Ns builtinsNs mb) (hsb : mb "super" = some (.type "super")) (hsg : mg "super" = none)
    (hf : K.lookup fI = some ⟨oc, od, .func (ksFn "__init__" qual params (initBody txt n f j p0 p1 p2 p3 p4 p5 p6 p7 p8 p9) scope .none kV doc pm an (.ref cda) ct cc), osl⟩) (hcd : codeIn K (.ref cda) qual = true)
    (hcode : K.lookup cda = some ⟨ccl, cdd, .fields vs, ccs⟩) (hvs : vs[2]? = some (.str file tf)) (hfile : ((prog.main.file : Str) == file) = true) (hcell : K.lookup cc = some ⟨cl, cld, .cell (some (.ref C)), csl⟩)
    (htop : (prog.main.scope.names.lookup ("super" : Str)).isSome = false) (hpar : (params.posonlyargs ++ params.args).head? = some ar) (har : ar.arg = ("self" : Str))
    (hks : scope.names.lookup ("super" : Str) = some .globalImplicit) (hkc : scope.names.lookup ("__class__" : Str) = some .free) (hka : scope.names.lookup ("self" : Str) = some .local) (hkn : scope.names.lookup n = some .local) (hns : ¬ n = ("self" : Str)) (hnd : (n == ("__debug__" : Str)) = false)
    (hk : scope.kind = .function) (hnc : ∀ x ∈ scope.names, x.2 ≠ .cell) (hco : scope.isCoroutine = false) (hgen : scope.isGenerator = false)
    (hfo : findIn K (.ref C) f = some none) (hroom : A.depth < recursionLimit) (heK : K.lookup e = none) (he : hp.get? e = some (excObj C t0 none .none))
    (hbind : BindsTo ⟨hp, g, d, t, os⟩ (ksFn "__init__" qual params (initBody txt n f j p0 p1 p2 p3 p4 p5 p6 p7 p8 p9) scope .none kV doc pm an (.ref cda) ct cc) args [("self", .ref e), (n, v)])
    {pl : Env → Sem Bool} (hev : ∀ env : Env, eval (.Call (.Attribute (.Call (.Name "super" p0) [] [] p1) "__init__" p2) [.Constant (.str txt) j p3] [] p4) env = (do
      let ov ← attributeBase (.Call (.Name "super" p0) [] [] p1) "__init__" env (eval (.Call (.Name "super" p0) [] [] p1) env)
      standAt p2.atName
      let (f, first) ← holding [ov] (getMethod ov "__init__" (pl env))
      callWith p4 f first (backTo p4 (starEach [.Constant (.str txt) j p3] env)) []))
    (hsup : ks_superIn K C C "__init__" = some (some (.builtin initId)))
    (hq : ∀ h' tk' dx t1, (∀ b o, b ≠ e → hp.get? b = some o → h'.get? b = some o) → hp.get? dx = none → dx ≠ e → h'.get? e = some (excObj C t1 (some dx) .none) →
      h'.Ns1 dx (fun y => if y = f then some v else none) → R (.ok (.ret .none)) ⟨h', g, d, tk', os⟩) :
    codeAny (model prog w) A (.call (.ref fI) args) R ⟨hp, g, d, t, os⟩ := by
  refine ks_codeAny_call_defAt (fd := ksFn "__init__" qual params (initBody txt n f j p0 p1 p2 p3 p4 p5 p6 p7 p8 p9) scope .none kV doc pm an (.ref cda) ct cc) (body := initBody txt n f j p0 p1 p2 p3 p4 p5 p6 p7 p8 p9) (binds := [("self", .ref e), (n, v)]) hroom (X _ _ hf) rfl hlim (codeRec_of X hcd) rfl hbind hnc ?_ (fun h₁ hns1 hk₁ => ?_) hco hgen hk
  · intro y hy
    rcases List.mem_cons.mp hy with rfl | hy
    · exact hka
    · rcases List.mem_cons.mp hy with rfl | hy
      · exact hkn
      · cases hy
  · have X1 : K.In h₁ := X.keeps hk₁
    have he1 : h₁.get? e = some (excObj C t0 none .none) := hk₁ _ _ he
    obtain ⟨cd, bm, hcl, hm, hbm, hdct⟩ := T.cd
    obtain ⟨oD, hD1, hD2⟩ : ∃ oD, h₁.get? C = some oD ∧ oD.data = .cls cd := by
      unfold clsIn at hcl
      split at hcl
      · rename_i c d cd' sl ho
        cases hcl
        exact ⟨_, X1 _ _ ho, rfl⟩
      · cases hcl
    have mC : mroIn K C (.ref C) = some true := by
      unfold mroIn
      rw [hcl, Option.bind_some, hm, if_neg (by simp)]
      simp
    have hsB : subIn K (.ref C) (.type B) = some true := T.has (T.bf.FB.hasB)
    have I1 : InstAt h₁ e (excObj C t0 none .none) C none := ⟨he1, rfl, rfl, trivial⟩
    have hxC : e ≠ C := ks_ne X1 I1 hcl
    have lself : ([("self", Value.ref e), (n, v)] : List (Str × Value)).reverse.lookup ar.arg = some (.ref e) := by
      rw [har]
      show List.lookup ("self" : Str) [(n, v), (("self" : Str), Value.ref e)] = some (.ref e)
      simp [List.lookup, beq_eq_false_iff_ne.mpr (Ne.symm hns)]
    have lself2 : ([("self", Value.ref e), (n, v)] : List (Str × Value)).reverse.lookup ("self" : Str) = some (.ref e) := by
      show List.lookup ("self" : Str) [(n, v), (("self" : Str), Value.ref e)] = some (.ref e)
      simp [List.lookup, beq_eq_false_iff_ne.mpr (Ne.symm hns)]
    have ln : ([("self", Value.ref e), (n, v)] : List (Str × Value)).reverse.lookup n = some v := by
      show List.lookup n [(n, v), (("self" : Str), Value.ref e)] = some v
      simp [List.lookup]
    have hka' : scope.names.lookup ar.arg = some .local := by rw [har]; exact hka
    refine ks_wpAt_execs_cons ?_
    refine ks_wpAt_Expr_any ?_ (by unfold interactive; rw [show (callEnv (ksFn "__init__" qual params (initBody txt n f j p0 p1 p2 p3 p4 p5 p6 p7 p8 p9) scope .none kV doc pm an (.ref cda) ct cc) hp.objs.size fI).scope.kind = .function from hk]; rfl) (by rfl)
    refine ks_wpAt_MethodCall ?_ (hev _)
    refine ks_wpAt_super_base hks hkc rfl rfl (X1 _ _ hf) rfl hpar rfl (X1 _ _ hcode) rfl hvs hfile htop ?_
    refine ks_loadName_global hk hks (loadGlobal_builtin (hmg.keeps hk₁) hsg (hmb.keeps hk₁) hsb ⟨rfl, ?_⟩)
    refine wpAny_loadName_free hk hkc rfl ⟨_, X1 _ _ hcell, rfl⟩ ?_
    refine wpAny_loadName_local hk hka' hns1 lself ?_
    refine ks_wpAny_isType_cls hD1 hD2 ⟨rfl, ?_⟩
    refine ks_wpAny_call_super hD1 hD2 he1 rfl (fun c z => by cases z) (looks_mroIn X1 mC) (fun h2 es2 k2 => ?_)
    have X2 : K.In h2 := X1.keeps k2
    have he2 : h2.get? e = some (excObj C t0 none .none) := k2 _ _ he1
    have I2 : InstAt h2 e (excObj C t0 none .none) C none := ⟨he2, rfl, rfl, trivial⟩
    have hso : (h₁.objs.size : Nat) < h2.objs.size := Heap.lt_size es2
    refine kxs_getMethod T.bf.kx es2 (looks_opaque X2 T.opq) (l₀ := cd.mro) (fun A Q E s k q => wpAny_bind ((looks_clsIn X2 hcl) A _ E s k (wpAny_pure q))) rfl X2 ?_ (I2.type.andThen (looks_subIn X2 hsB)) hxC (by decide +kernel) ?_
    · unfold ks_superIn at hsup
      rw [hcl] at hsup
      exact hsup
    have k3 : ∀ b o, h2.get? b = some o → (h2.push (kxs_mw initId e)).get? b = some o := fun b o z => Heap.get?_push_of_some _ z
    have hu3 : (h2.push (kxs_mw initId e)).get? h2.objs.size = some (kxs_mw initId e) := Heap.get?_push_at rfl rfl
    have he3 := k3 _ _ he2
    obtain ⟨nm, q', N, bs, bm', sn, sub, ab, col, dd, k0', k1', k2', k3', k5', hC, hbm'⟩ := T.cls
    have hC3 := k3 _ _ (X2 _ _ hC)
    refine kxs_callWith (i := initId) (x := e) (by rfl) ?_
    refine evalArgs_plain ?_
    refine Calls.spliced_cons (x := eval (.Constant (.str txt) j p3) _) (Calls.Constant_str (k := j) (pos := p3) ?_)
    refine Calls.spliced_nil ⟨hu3, ?_⟩
    refine wpAny_call (codeAny_of_tree ?_)
    show wpAny _ _ (callAny (.ref h2.objs.size) ⟨[.str txt _], []⟩) _ _ _
    simp only [callAny]
    refine wpAny_bind (wpAny_load hu3 ?_)
    simp only [kxs_mw, show (Value.type "method-wrapper" == Value.type "method" || Value.type "method-wrapper" == Value.type "builtin_function_or_method" || Value.type "method-wrapper" == Value.type "method-wrapper") = true by decide, if_true]
    refine KFB.if_so (by decide) ?_
    refine wpAny_bind (check_bound_init T.bf.FB.toExcCallFacts hC3 he3 rfl ?_)
    refine wpAny_bind (wpAny_pure (wpAny_pure ?_))
    refine ⟨plainId_quiet T.bf.FB.init.plain _, codeAny_builtin T.bf.FB.initEntry ?_⟩
    refine exc_init_tree (cls := .ref C) (t0 := t0) (dv := none) (c2 := .none) (c3 := .none) (b4 := .bool false) he3 (by show 1 ≤ sizeLine; rw [sizeLine_eq]; omega) (fun h4 k4 he4 _ => ?_)
    have X4 : K.In h4 := fun b o z => k4 b o (fun y => by rw [y, heK] at z; cases z) (k3 _ _ (X2 b o z))
    have kk : ∀ b o, b ≠ e → h₁.get? b = some o → h4.get? b = some o := fun b o hb z => k4 b o hb (k3 _ _ (k2 _ _ z))
    obtain ⟨oL, es, ep, hL, hLr⟩ := id hns1
    have neL : hp.objs.size ≠ e := fun z => absurd (Heap.lt_size he) (by rw [← z]; exact Nat.lt_irrefl _)
    have hns4 : h4.Ns hp.objs.size (fun x => ([("self", Value.ref e), (n, v)] : List (Str × Value)).reverse.lookup x) := ⟨oL, es, ep, kk _ _ neL hL, hLr⟩
    refine wpAt_of_wpAny (wpAny_execs_cons (plainObj_wpAny_Assign_Attribute (wpAny_Name (wpAny_loadName_local hk hkn hns4 ln (wpAny_Name (wpAny_loadName_local hk hka hns4 lself2 ?_) (by decide +kernel))) hnd)))
    refine set_plain X4 (ox := excObj C h2.objs.size.succ none .none) (od := none) ⟨?_, rfl, rfl, trivial⟩ T.sa ?_
    · show h4.get? e = _
      rw [he4, Heap.size_push]
    have he5 : h4.get? e = some (excObj C (h2.objs.size + 1) none .none) := by
      rw [he4, Heap.size_push]
    have over : excOver K C bmB = true := by
      unfold excOver
      rw [hcl, Option.any_some, hm, Bool.and_eq_true]
      exact ⟨beq_self_eq_true C, hbm⟩
    have hdk : hasDictIn K C = true := by
      unfold hasDictIn
      rw [hcl, Option.any_some]
      exact hdct
    refine err_put T.bf.st X4 he5 over hdk hfo fun h' tk' dx k5 nd hdx he6 hns6 => ?_
    refine wpAny_execs_nil (hq h' tk' dx _ (fun b o hb z => k5 b o hb (kk b o hb (hk₁ _ _ z))) ?_ hdx he6 hns6)
    cases z : hp.get? dx with
    | none => rfl
    | some o => rw [kk dx o hdx (hk₁ _ _ z)] at nd; cases nd
end
end L2.Cal
end

section
set_option maxRecDepth 100000
set_option maxHeartbeats 4000000
/-! own errors made by word: C(f=v). The class's chain is that of a built-in base behind own ones; its `__new__` is the base's, its `__init__` its own -/
namespace L2.Cal
open PySem PySem.W PySem.Calls PySem.HandSPX
open Builtin Builtin.ObjectAttr
/-- the class as it lies in the heap -/
structure XCls (hp : Heap) (C : Addr) (B newId initId : String) (bmB bm : List Value) : Prop where
  at_ : ∃ nm q N bs dct sn sub ab col dd k0 k1 k2 k3 k5, hp.get? C = some (excClassObj nm q C N bs bm dct sn sub ab col dd k0 k1 k2 k3 k5 newId)
  facts : ExcBaseFacts B newId initId bmB
  same : ∀ T : String, bm.contains (.type T) = bmB.contains (.type T)
section
variable {prog : Program} {w : World} {M : Model} {A : Around} {E : Value → Shared → Prop} {R : Result → Shared → Prop} {hp : Heap} {g : Array GenState} {d : Drawn} {t : Nat} {os : OsState}
variable {C fI : Addr} {bm bmB : List Value} {B newId initId : String} {kws : List (Str × Value)}
theorem XCls.under {hp : Heap} {C : Addr} {B newId initId : String} {bmB bm : List Value} (O : XCls hp C B newId initId bmB bm) (T : String) (b : Bool) (e : bmB.contains (.type T) = b) : (Value.ref C :: bm).contains (.type T) = b := by
  have z := O.same T
  rw [e] at z
  exact (List.contains_cons ..).trans (by rw [z]; cases b <;> rfl)
/-- what `__new__` is asked before it runs -/
theorem XCls.asked (O : XCls hp C B newId initId bmB bm) {Q : Unit → Shared → Prop} (k : Q () ⟨hp, g, d, t, os⟩) : wpAny M A (checkBuiltinCall newId ⟨[.ref C], kws⟩) Q E ⟨hp, g, d, t, os⟩ := by
  obtain ⟨nm, q, N, bs, dct, sn, sub, ab, col, dd, k0, k1, k2, k3, k5, cl⟩ := O.at_
  have inB := O.under B true O.facts.hasB
  have st := O.facts.noStar
  simp only [checkBuiltinCall, O.facts.newRow, O.facts.newSplit, O.facts.newKind]
  repeat' (first
    | exact k
    | refine wpAny_madeBy_exc cl ?_
    | refine wpAny_staticBase_exc cl ?_
    | (refine wpAny_isSubtype_exc cl ?_
       rw [inB])
    | refine wpAny_loadPart_at cl ?_
    | simp only [bne_self_eq_false, if_false, Bool.false_eq_true]
    | wp_step)
/-- `__new__` lays an error without arguments -/
theorem XCls.laid (O : XCls hp C B newId initId bmB bm) (k : R (.ok (.ret (.ref (hp.objs.size + 1)))) ⟨(hp.push (kdv_tup [])).push (excO C hp.objs.size), g, d, t, os⟩) :
    codeAny (model prog w) A (.builtin newId ⟨[.ref C], kws⟩) R ⟨hp, g, d, t, os⟩ := by
  obtain ⟨nm, q, N, bs, dct, sn, sub, ab, col, dd, k0, k1, k2, k3, k5, cl⟩ := O.at_
  have inB := O.under B true O.facts.hasB
  have notA := O.under "AttributeError" false O.facts.noAttr
  have notN := O.under "NameError" false O.facts.noName
  have fin := O.facts.ends
  refine codeAny_builtinAt O.facts.entry (by
    unfold Builtin.«BaseException.__new__»
    refine PySem.wpAt_bind (show PySem.wpAt _ _ _ (stack >>= _) _ _ _ from PySem.wpAt_bind (wpAt_stack fun _ _ => wpAt_of_wpAny ?_))
    wp_walk
    refine wpAt_of_wpAny ?_
    rw [O.facts.owner]
    repeat (first
      | (with_reducible refine wpAny_isSubtype_exc cl ?_
         first | rw [notN] | rw [notA] | rw [inB])
      | with_reducible refine wpAny_madeHere_exc O.facts.canon cl ?_
      | with_reducible refine wpAny_loadPart_at cl ?_
      | wp_step)
    have z : (hp.push (kdv_tup [])).objs.size = hp.objs.size + 1 := Heap.size_push ..
    rw [← z] at k
    exact k)
/-- the whole of `type.__call__` -/
theorem XCls.born (O : XCls hp C B newId initId bmB bm) {Q : Fin → Shared → Prop} (look : Looks (model prog w) hp (typeLookup (.ref C) "__init__") (some (.ref fI))) (tie : ∀ self, Looks (model prog w) hp (bindSpecial (.ref fI) self) (.ref fI, [self]))
    (run : codeAny (model prog w) A (.call (.ref fI) ⟨[.ref (hp.objs.size + 1)], kws⟩) (fun r s' => match r with | .ok (.ret v) => v = .none ∧ Q (.done (.ret (.ref (hp.objs.size + 1)))) s' | .ok _ => False | .error e => E e s')
      ⟨(hp.push (kdv_tup [])).push (excO C hp.objs.size), g, d, t, os⟩) : wpAny (model prog w) A (Builtin.«type.__call__» ⟨[.ref C], kws⟩) Q E ⟨hp, g, d, t, os⟩ := by
  obtain ⟨nm, q, N, bs, dct, sn, sub, ab, col, dd, k0, k1, k2, k3, k5, cl⟩ := O.at_
  have on2 : ∀ b o, hp.get? b = some o → ((hp.push (kdv_tup [])).push (excO C hp.objs.size)).get? b = some o := fun _ _ z => Heap.get?_push_of_some _ (Heap.get?_push_of_some _ z)
  have self : (Value.ref C :: bm).contains (.ref C) = true := by simp
  have cl2 := on2 _ _ cl
  have me : ((hp.push (kdv_tup [])).push (excO C hp.objs.size)).get? (hp.objs.size + 1) = some (excO C hp.objs.size) := by heap_get
  repeat (first | with_reducible refine wpAny_madeBy_exc cl ?_ | with_reducible refine wpAny_loadPart_at cl ?_ | wp_step)
  refine codeAny_call_builtin_code (Code.quiet_builtin _ O.facts.quiet) (O.asked (O.laid ?_))
  show wpAny _ _ _ _ _ _
  unfold isInstance
  repeat (first
    | (with_reducible refine wpAny_isSubtype_exc cl2 ?_
       rw [self])
    | with_reducible refine wpAny_loadPart_at me ?_
    | wp_step)
  have bound := (tie (.ref (hp.objs.size + 1))).keeps on2
  show wpAny _ _ (typeLookup (.ref C) _) _ _ _
  refine (look.keeps on2).at (wpAny_holding (wpAny_bind (bound.at (wpAny_bind (wpAny_call (codeAny_mono run fun r s' z => ?_))))))
  match r, z with
  | .error _, z => exact z
  | .ok (.ret _), ⟨e, z⟩ =>
    subst e
    first | exact wpAny_pure (wpAny_pure z) | (wp_walk; exact z)
/-- what `type.__call__` is asked before it runs -/
theorem XCls.called (O : XCls hp C B newId initId bmB bm) {Q : Unit → Shared → Prop} (k : Q () ⟨hp, g, d, t, os⟩) : wpAny M A (checkBuiltinCall "type.__call__" ⟨[.ref C], kws⟩) Q E ⟨hp, g, d, t, os⟩ := by
  obtain ⟨nm, q, N, bs, dct, sn, sub, ab, col, dd, k0, k1, k2, k3, k5, cl⟩ := O.at_
  have kind : (⟨hp, g, d, t, os⟩ : Shared).TypeIs (.ref C) "type" := ⟨_, cl, rfl⟩
  have sub_ := tc_sub
  simp only [checkBuiltinCall, tc_split, tc_kind]
  repeat (any_goals (first | assumption | with_reducible refine wpAny_map ?_ | with_reducible refine wpAny_onRaise ?_ | with_reducible refine wpAny_loadPart_at cl ?_ | wp_step))
/-- C(f=v): `__init__` runs on the fresh error with the words -/
theorem XCls.by_word (O : XCls hp C B newId initId bmB bm) (look : Looks (model prog w) hp (typeLookup (.ref C) "__init__") (some (.ref fI))) (tie : ∀ self, Looks (model prog w) hp (bindSpecial (.ref fI) self) (.ref fI, [self]))
    (run : codeAny (model prog w) (A.under (.builtin "type.__call__" ⟨[.ref C], kws⟩)) (.call (.ref fI) ⟨[.ref (hp.objs.size + 1)], kws⟩) (InitBack (hp.objs.size + 1) R) ⟨(hp.push (kdv_tup [])).push (excO C hp.objs.size), g, d, t, os⟩) :
    codeAny (model prog w) A (.call (.ref C) ⟨[], kws⟩) R ⟨hp, g, d, t, os⟩ := by
  obtain ⟨nm, q, N, bs, dct, sn, sub, ab, col, dd, k0, k1, k2, k3, k5, cl⟩ := O.at_
  have look1 := tc_lookup
  have tie1 := tc_bind (.ref C)
  have kind : (⟨hp, g, d, t, os⟩ : Shared).TypeIs (.ref C) "type" := ⟨_, cl, rfl⟩
  refine codeAny_of_tree (show wpAny _ _ (callAny (.ref C) _) _ _ _ from ?_)
  repeat (any_goals (first | with_reducible refine wpAny_loadPart_at cl ?_ | assumption | wp_step))
  refine ⟨rfl, codeAny_call_builtin_at (Code.quiet_builtin _ (by decide +kernel)) entry_typeCall (O.called (O.born look tie (codeAny_mono run fun r s' z => ?_)))⟩
  match r, z with
  | .error _, z => exact z
  | .ok (.ret _), z => exact z
end
end L2.Cal
end

section
set_option maxRecDepth 100000
set_option maxHeartbeats 4000000
namespace L2.Cal
open PySem PySem.Spec PyProof.Rows L2
/-- an own error class, its __init__ told: C(v), C(n=v) -/
structure ErrI (P : Program) (K : PySem.W.Frag) (C : Addr) (n f : Str) : Prop where
  ex : ∃ (B newId initId : String) (bmB : List Value) (fI : Addr), ErrC K C B newId initId bmB ∧ PySem.W.findIn K (.ref C) "__init__" = some (some (.ref fI)) ∧ PySem.W.typeIn K (.ref fI) = some (.type "function") ∧
    ∀ {w : World} {A : Around} {hp : Heap} {g : Array GenState} {d : Drawn} {t : Nat} {os : OsState} {e t0 : Addr} {v : Value} {args : Args} {R : Result → Shared → Prop} {mg mb : Str → Option Value}, K.In hp → hp.NoLimit → hp.Ns mainGlobals mg → mg "super" = none → hp.Ns builtinsNs mb → mb "super" = some (.type "super") →
      A.depth < recursionLimit → K.lookup e = none → hp.get? e = some (PySem.W.excObj C t0 none .none) → (args = ⟨[.ref e, v], []⟩ ∨ args = ⟨[.ref e], [(n, v)]⟩) →
      (∀ h' tk' dx t1, (∀ b o, b ≠ e → hp.get? b = some o → h'.get? b = some o) → hp.get? dx = none → dx ≠ e → h'.get? e = some (PySem.W.excObj C t1 (some dx) .none) →
        h'.Ns1 dx (fun y => if y = f then some v else none) → R (.ok (.ret .none)) ⟨h', g, d, tk', os⟩) →
      codeAny (model P w) A (.call (.ref fI) args) R ⟨hp, g, d, t, os⟩
/-- the error as a value -/
def ErrAt (H : Hp) (e C : Addr) (f : Str) (v : V) : Prop := ∃ d, H e = some (exo e C (some d)) ∧ H d = some (exd d [(f, v)])
/-- a new error -/
abbrev NewErr (H : Hp) (C : Addr) (f : Str) (v : V) (Q : VK) : Prop := ∀ (a : Addr) (H2 : Hp), Same H H2 → H a = none → ErrAt H2 a C f v → Q (.ref a) H2
theorem NewErr.use {H : Hp} {C : Addr} {f : Str} {v : V} {Q : VK} (h : NewErr H C f v Q) (a d : Addr) (na : H a = none) (nd : H d = none) (ne : d ≠ a) : Q (.ref a) (upd (upd H d (exd d [(f, v)])) a (exo a C (some d))) :=
  h a _ ((same_new nd).trans (same_new (by rw [upd_ne (Ne.symm ne)]; exact na))) na ⟨d, upd_same, by rw [upd_ne ne, upd_same]⟩
theorem ErrAt.same {H H' : Hp} {e C : Addr} {f : Str} {v : V} (h : ErrAt H e C f v) (s : Same H H') : ErrAt H' e C f v := by
  obtain ⟨d, h1, h2⟩ := h
  exact ⟨d, s _ _ h1, s _ _ h2⟩
def tErr (f : Str) (C : Addr) (te : TE) : TE := fun σ H Q => te σ H fun v H1 => NewErr H1 C f v Q
def tErrK (f : Str) (C : Addr) (te : TE) : TE := fun σ H Q => tCons te tNil σ H fun vs H1 => ∃ v, vs = [v] ∧ NewErr H1 C f v Q
section
variable {X : Cx} {C : Addr} {n f x : Str} {p pos : Pos} {e : Expr} {te : TE}
theorem err_laid {pins : List (Addr × Obj)} {σ : St} {H : Hp} {hp h' : Heap} {g : Array GenState} {d : Drawn} {t t' : Nat} {os : OsState} {a dx t1 : Addr} {v : V} {u : Value} (I : Inv X pins σ H ⟨hp, g, d, t, os⟩) (rv : RelV v u)
    (k : ∀ b o, hp.get? b = some o → h'.get? b = some o) (ha : hp.get? a = none) (hd : hp.get? dx = none) (ne : dx ≠ a) (hx : h'.get? a = some (PySem.W.excObj C t1 (some dx) .none)) (hn : h'.Ns1 dx (fun y => if y = f then some u else none)) :
    Inv X pins σ (upd (upd H dx (exd dx [(f, v)])) a (exo a C (some dx))) ⟨h', g, d, t', os⟩ := by
  have na : H a = none := I.hok.gone ha
  have nd : H dx = none := I.hok.gone hd
  have ea : ∀ {b o}, hp.get? b = some o → b ≠ a := fun {b o} q z => by rw [z, ha] at q; cases q
  have ed : ∀ {b o}, hp.get? b = some o → b ≠ dx := fun {b o} q z => by rw [z, hd] at q; cases q
  have U : Un X.fs [] H (upd (upd H dx (exd dx [(f, v)])) a (exo a C (some dx))) hp h' := {
    keep := fun b o q _ _ _ => k b o q
    slot := fun b o q _ _ _ => ⟨o.slots, k b o q⟩
    free := fun b o q n' _ => by rw [upd_ne (ea q), upd_ne (ed q)]; exact n'
    there := fun b o q _ => ⟨o, k b o q⟩
    tups := fun b xs q => by rw [upd_ne (ne_of_none q na), upd_ne (ne_of_none q nd)]; exact q
    frzs := fun b o u q => by rw [upd_ne (ne_of_none q na), upd_ne (ne_of_none q nd)]; exact q
    tbls := fun b ps q => ⟨#[], by rw [upd_ne (ne_of_none q na), upd_ne (ne_of_none q nd), q]; simp⟩ }
  refine I.un (t' := t') U fun b o q => ?_
  by_cases hb : b = a
  · subst hb
    rw [upd_same] at q
    cases q
    exact exo_ok hx
  · rw [upd_ne hb] at q
    by_cases hb2 : b = dx
    · subst hb2
      rw [upd_same] at q
      cases q
      exact exd_ok hn (relO_put (fs := []) rv fun g => True.intro)
    · rw [upd_ne hb2] at q
      exact (I.hok b o q).stay (fun c v _ z => k c v z) (fun c hc => by rw [upd_ne (ne_of_none hc na), upd_ne (ne_of_none hc nd)]; exact hc) (fun c xs hc => by rw [upd_ne (ne_of_none hc na), upd_ne (ne_of_none hc nd)]; exact hc)
theorem super_mb {pins : List (Addr × Obj)} {σ : St} {H : Hp} {s : Shared} (I : Inv X pins σ H s) : ∃ mb, s.heap.Ns builtinsNs mb ∧ mb "super" = some (.type "super") := by
  obtain ⟨mb, h1, h2⟩ := I.mod.blt
  exact ⟨mb, h1.keeps I.bk, (h2 "super" (by decide +kernel)).trans (by first | boot_by_name | rfl | kernel_rfl)⟩
/-- C(v), by value -/
theorem call_err {pins : List (Addr × Obj)} {σ : St} {H : Hp} {s : Shared} {Q : VK} {v : V} {u : Value} (T : ErrI X.prog X.K C n f) (hsup : X.mg "super" = none) (hr : Room 1 X.A) (I : Inv X pins σ H s) (rv : RelV v u)
    (h : ∀ a d, H a = none → H d = none → d ≠ a → Q (.ref a) (upd (upd H d (exd d [(f, v)])) a (exo a C (some d)))) :
    wpAny (model X.prog X.w) X.A (call (.ref C) [u]) (EP X pins σ Q) X.xe s ∧ wpAny (model X.prog X.w) X.A (call (.ref C) [] [(n, u)]) (EP X pins σ Q) X.xe s := by
  obtain ⟨B, newId, initId, bmB, fI, TC, iC, tI, run⟩ := T.ex
  obtain ⟨nm, q, N, bs, bm, sn, sub, ab, col, dd, k0, k1, k2, k3, k5, hC, hbm⟩ := TC.cls
  obtain ⟨mb, hmb, hsb⟩ := super_mb I
  have hmg : s.heap.Ns mainGlobals X.mg := I.mod.glob.keeps I.bk
  have KX := I.kIn
  have lim := I.nolimit
  obtain ⟨hp, g, dr, tk, os⟩ := s
  have hT : ∀ Y : String, bm.contains (.type Y) = bmB.contains (.type Y) := fun Y => PySem.W.excTail_contains Y bm hbm
  have fin : ∀ (us : List Value), ∀ h' tk' dx t1, (∀ b o, b ≠ hp.objs.size + 1 → ((hp.push (PySem.W.kdv_tup us)).push (PySem.HandSPX.excO C hp.objs.size)).get? b = some o → h'.get? b = some o) → ((hp.push (PySem.W.kdv_tup us)).push (PySem.HandSPX.excO C hp.objs.size)).get? dx = none → dx ≠ hp.objs.size + 1 →
      h'.get? (hp.objs.size + 1) = some (PySem.W.excObj C t1 (some dx) .none) → h'.Ns1 dx (fun y => if y = f then some u else none) → EP X pins σ Q (.ref (hp.objs.size + 1)) ⟨h', g, dr, tk', os⟩ := fun us h' tk' dx t1 k hd ne hx hn => by
    have kk : ∀ b o, hp.get? b = some o → ((hp.push (PySem.W.kdv_tup us)).push (PySem.HandSPX.excO C hp.objs.size)).get? b = some o := fun b o e => Heap.get?_push_of_some _ (Heap.get?_push_of_some _ e)
    have h1 : hp.get? (hp.objs.size + 1) = none := Heap.get?_none_of_le (Nat.le_succ _)
    have h2 : hp.get? dx = none := by
      cases z : hp.get? dx with
      | none => rfl
      | some o => rw [kk _ _ z] at hd; cases hd
    have J := err_laid (C := C) (f := f) (t' := tk') I rv (fun b o z => k b o (Nat.ne_of_lt (Nat.lt_succ_of_lt (Heap.lt_size z))) (kk b o z)) h1 h2 ne hx hn
    exact ⟨.ref (hp.objs.size + 1), _, J, rfl, h _ _ (I.hok.gone h1) (I.hok.gone h2) ne⟩
  have look : PySem.W.Looks (model X.prog X.w) hp (typeLookup (.ref C) "__init__") (some (.ref fI)) := PySem.W.looks_findIn KX iC
  have heK : X.K.lookup (hp.objs.size + 1) = none := by
    cases z : X.K.lookup (hp.objs.size + 1) with
    | none => rfl
    | some o => exact absurd (show hp.objs.size + 1 < hp.objs.size from Heap.lt_size (KX _ _ z)) (by omega)
  have ready : ∀ (us : List Value) (args : Args) (args2 : Args) (R : Result → Shared → Prop), (args = ⟨[.ref (hp.objs.size + 1), u], []⟩ ∨ args = ⟨[.ref (hp.objs.size + 1)], [(n, u)]⟩) → (∀ s', EP X pins σ Q (.ref (hp.objs.size + 1)) s' → R (.ok (.ret .none)) s') → ∀ A : Around, A.depth < recursionLimit →
      codeAny (model X.prog X.w) A (.call (.ref fI) args) R ⟨(hp.push (PySem.W.kdv_tup us)).push (PySem.HandSPX.excO C hp.objs.size), g, dr, tk, os⟩ := fun us args args2 R ha hR A hA => by
    have kk : ∀ b o, hp.get? b = some o → ((hp.push (PySem.W.kdv_tup us)).push (PySem.HandSPX.excO C hp.objs.size)).get? b = some o := fun b o e => Heap.get?_push_of_some _ (Heap.get?_push_of_some _ e)
    refine run (KX.keeps kk) (lim.keeps kk) (hmg.keeps kk) hsup (hmb.keeps kk) hsb hA heK (by heap_get) ha fun h' tk' dx t1 k hd ne hx hn => hR _ (fin us h' tk' dx t1 k hd ne hx hn)
  constructor
  · refine wpAny_call (PySem.HandSPX.call_own TC.bf.FB hT (KX _ _ hC) look (fun self => PySem.W.bind_fn KX self tI) (by show 1 ≤ sizeLine; rw [sizeLine_eq]; omega) (ready [u] _ ⟨[u], []⟩ _ (.inl rfl) (fun s' q => ⟨rfl, q⟩) _ (hr.make C [u] []).depth))
  · refine wpAny_call ((XCls.mk (bm := bm) ⟨_, _, _, _, _, _, _, _, _, _, _, _, _, _, _, KX _ _ hC⟩ TC.bf.FB hT).by_word look (fun self => PySem.W.bind_fn KX self tI) (ready [] _ ⟨[], [(n, u)]⟩ _ (.inr rfl) (fun s' q => ⟨rfl, q⟩) _ (hr.make C [] [(n, u)]).depth))
theorem pe_err (T : ErrI X.prog X.K C n f) (hsup : X.mg "super" = none) (hr : Room 1 X.A) (hg : Gl X x) (hm : X.mg x = some (.ref C)) (he : PE X e te)
    (hdb : (x == ("__debug__" : Str)) = false := by decide) (hs : starEach [e] X.env = (false, eval e X.env) :: starEach [] X.env := by rfl) : PE X (.Call (.Name x p) [e] [] pos) (tErr f C te) := by
  refine ⟨fun pins s σ H Q I h => ?_⟩
  refine wpAny_Call_Name_kw (ld_glob I hg hm ?_ hdb)
  have kC : PySem.W.keepIn X.K (.ref C) = true := by
    obtain ⟨B, newId, initId, bmB, fI, TC, _⟩ := T.ex
    exact TC.kC
  refine PySem.W.callWith_K (h₀ := X.base) I.ok.mod.kin kC ?_ hs (by rfl)
  rw [hs]
  show wpAny _ _ (spliced ((false, eval e X.env) :: backTo pos (starEach [] X.env))) _ _ s
  refine Calls.spliced_cons (thn (he.run pins s σ H _ I h) fun u s1 ⟨v, H1, I1, r1, q1⟩ => ?_)
  exact Calls.spliced_nil ⟨I1.kIn, (call_err T hsup hr I1 r1 q1.use).1⟩
theorem pe_errK {kp : Pos} (T : ErrI X.prog X.K C n f) (hsup : X.mg "super" = none) (hr : Room 1 X.A) (hg : Gl X x) (hm : X.mg x = some (.ref C)) (he : PE X e te)
    (hdb : (x == ("__debug__" : Str)) = false := by decide) (hall : (backToKw pos (keywordEach [⟨some n, e, kp⟩] X.env)).all (·.1.isSome) = true := by rfl) (hks : (backToKw pos (keywordEach [⟨some n, e, kp⟩] X.env)).filterMap (·.1) = [n] := by rfl)
    (hpl : ((backTo pos (starEach [] X.env)).any (·.1) || (backToKw pos (keywordEach [⟨some n, e, kp⟩] X.env)).any (·.1.isNone)) = false := by rfl) : PE X (.Call (.Name x p) [] [⟨some n, e, kp⟩] pos) (tErrK f C te) := by
  refine ⟨fun pins s σ H Q I h => ?_⟩
  refine wpAny_Call_Name_kw (ld_glob I hg hm ?_ hdb)
  have kC : PySem.W.keepIn X.K (.ref C) = true := by
    obtain ⟨B, newId, initId, bmB, fI, TC, _⟩ := T.ex
    exact TC.kC
  refine PySem.W.callWith_KW0 (h₀ := X.base) I.ok.mod.kin kC hall ?_ hpl
  refine thn ((pk_cons (nm := some n) (kpos := kp) he pk_nil).run pos pins s σ H _ I h) fun ws s1 ⟨vs, H1, I1, r1, v, ev, q1⟩ => ?_
  subst ev
  rw [hks]
  cases r1 with
  | cons r rr =>
    cases rr
    exact ⟨I1.kIn, (call_err T hsup hr I1 r q1.use).2⟩
end
end L2.Cal
end

section
set_option maxRecDepth 100000
set_option maxHeartbeats 4000000
namespace L2.Cal
open PySem PySem.Spec PyProof.Rows L2
/-- what isinstance and the reading of an attribute ask of the class -/
structure ErrQ (K : PySem.W.Frag) (C : Addr) : Prop where
  cl : (PySem.W.clsIn K C).isSome = true
  hd : PySem.W.hasDictIn K C = true
  ga : PySem.W.findIn K (.ref C) "__getattribute__" = some (some (.builtin "BaseException.__getattribute__"))
  gg : PySem.W.findIn K (.ref C) "__getattr__" = some none
  exC : PySem.W.subIn K (.ref C) (.type "BaseException") = some true
  dcl : PySem.W.findIn K (.ref C) "__class__" = some (some (.builtin "object.__class__"))
  dget : PySem.W.specialIn K (.builtin "object.__class__") "__get__" = some (some (.builtin "getset_descriptor.__get__"))
  dtk : PySem.W.takesIn K (.builtin "object.__class__") = some true
  mobj : PySem.W.mroIn K C (.type "object") = some true
theorem ErrC.q {K : PySem.W.Frag} {C : Addr} {B newId initId : String} {bmB : List Value} (T : ErrC K C B newId initId bmB) : ErrQ K C := by
  obtain ⟨cd, bm, hcd, hm, hbm, hdct⟩ := T.cd
  exact ⟨by rw [hcd]; rfl, by unfold PySem.W.hasDictIn; rw [hcd]; exact hdct, T.ga, T.gg, T.exC, T.dcl, T.dget, T.dtk, T.mobj⟩
/-- an error of the class C stands at a -/
def ErrV (H : Hp) (a C : Addr) : Prop := H a = some (exo a C none) ∨ ∃ d fs, H a = some (exo a C (some d)) ∧ H d = some (exd d fs)
theorem ErrV.same {H H' : Hp} {a C : Addr} (h : ErrV H a C) (s : Same H H') : ErrV H' a C := by
  rcases h with h | ⟨d, fs, h1, h2⟩
  · exact .inl (s _ _ h)
  · exact .inr ⟨d, fs, s _ _ h1, s _ _ h2⟩
theorem ErrAt.v {H : Hp} {a C : Addr} {f : Str} {v : V} (h : ErrAt H a C f v) : ErrV H a C := by
  obtain ⟨d, h1, h2⟩ := h
  exact .inr ⟨d, _, h1, h2⟩
def rIsErr (K : PySem.W.Frag) : List V → Hp → VK → Prop := fun xs H Q => ∃ (a C : Addr) (c : V) (cv : Value) (b : Bool), xs = [.ref a, c] ∧ (∀ u, RelV c u → u = cv) ∧ ErrV H a C ∧ ErrQ K C ∧ PySem.W.kitOne K (.ref C) cv = some b ∧ Q (.bl b) H
def tErrFld (K : PySem.W.Frag) (f : Str) (te : TE) : TE := fun σ H Q => te σ H fun x H1 => ∃ (a C d : Addr) (fs : List (Str × V)) (v : V), x = .ref a ∧ H1 a = some (exo a C (some d)) ∧ H1 d = some (exd d fs) ∧ fs.lookup f = some v ∧ ErrQ K C ∧ PySem.W.findIn K (.ref C) f = some none ∧ Q v H1
section
variable {X : Cx} {C : Addr} {n f x : Str} {p pos : Pos} {e : Expr} {te : TE}
theorem call_isErr : CallR X (.builtin "isinstance") (rIsErr X.K) := by
  intro pins s σ H xs us Q I r h
  obtain ⟨a, C, c, cv, b, rfl, hcv, hE, T, e, q⟩ := h
  obtain ⟨u1, u2, rfl, r1, r2⟩ := vals2 r
  cases (show u1 = Value.ref a from r1)
  have ec := hcv _ r2
  subst ec
  rcases hE with h1 | ⟨d, fs, h1, h2⟩
  · obtain ⟨t1, ho⟩ := exo_at I.hok h1
    have J : PySem.W.InstAt s.heap a _ C none := ⟨ho, rfl, rfl, trivial⟩
    exact PySem.W.kia_one (PySem.W.kitx_exc T.cl T.ga T.gg T.exC T.dcl T.dget T.dtk T.mobj) I.kIn J e (fun z => nomatch z) fun tk => ⟨.bl b, H, I.kept (t' := tk) fun _ _ z => z, rfl, q⟩
  · obtain ⟨t1, ho⟩ := exo_at I.hok h1
    obtain ⟨mA, hns, _⟩ := exd_at I.hok h2
    obtain ⟨od, hod, _⟩ := lookIn_ns hns
    have J : PySem.W.InstAt s.heap a _ C (some od) := ⟨ho, rfl, rfl, hod⟩
    exact PySem.W.kia_one (PySem.W.kitx_exc T.cl T.ga T.gg T.exC T.dcl T.dget T.dtk T.mobj) I.kIn J e (fun z => nomatch z) fun tk => ⟨.bl b, H, I.kept (t' := tk) fun _ _ z => z, rfl, q⟩
theorem pe_errFld (he : PE X e te) (hb : attributeBase e f X.env (eval e X.env) = eval e X.env := by rfl) : PE X (.Attribute e f pos) (tErrFld X.K f te) := by
  refine ⟨fun pins s σ H Q I h => ?_⟩
  refine attr_of hb (thn (he.run pins s σ H _ I h) fun u s1 hh => ?_)
  obtain ⟨x, H1, I1, rx, a, C, d, fs, v, ex, h1, h2, hl, T, hno, q⟩ := hh
  subst ex
  obtain rfl : u = Value.ref a := rx
  obtain ⟨t1, ho⟩ := exo_at I1.hok h1
  obtain ⟨mA, hns, hr⟩ := exd_at I1.hok h2
  obtain ⟨od, hod, hlk⟩ := lookIn_ns hns
  obtain ⟨u, hu, ru⟩ := RelO.some_of (v := v) (o := mA f) (by rw [← hl]; exact hr f)
  have J : PySem.W.InstAt s1.heap a _ C (some od) := ⟨ho, rfl, rfl, hod⟩
  exact HandSPX.exc_get I1.kIn J T.ga T.gg T.exC (PySem.W.findObj_own T.hd hno rfl (by rw [hlk, hu])) (handed_of ru) ⟨v, H1, I1.tok _, ru, q⟩
/-- C() of an own error class without an __init__ of the program's -/
theorem pe_err0 {bmB : List Value} {B newId initId : String} (F : ExcBaseFacts B newId initId bmB) (q : PySem.W.excIn X.K C bmB newId = true) (kC : PySem.W.keepIn X.K (.ref C) = true) (hg : Gl X x) (hm : X.mg x = some (.ref C))
    (hdb : (x == ("__debug__" : Str)) = false := by decide) : PE X (.Call (.Name x p) [] [] pos) (fun _ H Q => ∀ (a : Addr) (H2 : Hp), Same H H2 → H a = none → H2 a = some (exo a C none) → Q (.ref a) H2) := by
  refine ⟨fun pins s σ H Q I h => ?_⟩
  refine wpAny_Call_Name_kw (ld_glob I hg hm ?_ hdb)
  refine PySem.W.callWith_K0 I.kIn kC ?_
  show wpAny _ _ (call (.ref C) []) _ _ _
  obtain ⟨bm, N, nm, qn, bs, hdct, sn, sub, ab, col, dd, k0, k1, k2, k3, k5, mN, hC, hN, hni, T⟩ := exc_obj I.kIn q
  refine wpAny_call_exc_subT F T hC hN hni (fun h' a hmk => ?_) (by show 0 ≤ sizeLine; exact Nat.zero_le _)
  have hn : H a = none := I.hok.gone hmk.new
  obtain ⟨t, ht, _, _⟩ := hmk.there
  exact ⟨.ref a, upd H a (exo a C none), I.laidN hmk.keeps hmk.new hn (exo_ok ht), rfl, h a _ (same_new hn) hn upd_same⟩
end
end L2.Cal
end

section
set_option maxRecDepth 100000
set_option maxHeartbeats 4000000
/-! raise C(v), C an own error class of two levels -/
namespace L2.Cal
open PySem PySem.Spec PyProof.Rows L2
/-- a new error of the class C with the field f, in the air: its dict at d -/
abbrev Thrown (H : Hp) (C : Addr) (f : Str) (v : V) (Q : XK) : Prop := ∀ d, H d = none → Q (.ref C) (some d) (upd H d (exd d [(f, v)]))
section
variable {X : Cx} {C : Addr} {n f x : Str} {p pos : Pos} {e : Expr} {te : TE}
theorem thr_laid {pins : List (Addr × Obj)} {σ : St} {H : Hp} {hp h' : Heap} {g : Array GenState} {d : Drawn} {t t' : Nat} {os : OsState} {a dx t1 : Addr} {v : V} {u : Value} {Q : XK} (I : Inv X pins σ H ⟨hp, g, d, t, os⟩) (rv : RelV v u)
    (k : ∀ b o, hp.get? b = some o → h'.get? b = some o) (ha : hp.get? a = none) (hd : hp.get? dx = none) (ne : dx ≠ a) (hx : h'.get? a = some (PySem.W.excObj C t1 (some dx) .none)) (hn : h'.Ns1 dx (fun y => if y = f then some u else none))
    (r : Raises X (.ref C)) (q : Thrown H C f v Q) : MkP X pins σ Q (.ref a) ⟨h', g, d, t', os⟩ := by
  have na : H a = none := I.hok.gone ha
  have nd : H dx = none := I.hok.gone hd
  obtain ⟨G, g1, g2⟩ := restrict h' fun b => decide (b ≠ a)
  have gk : ∀ b o, b ≠ a → h'.get? b = some o → G.get? b = some o := fun b o hb e => by
    rw [g1 b (decide_eq_true hb)]
    exact e
  have ga : G.get? a = none := g2 a (by simp)
  have gs : ∀ b o, G.get? b = some o → h'.get? b = some o := fun b o e => by
    by_cases hb : b = a
    · rw [hb, ga] at e
      cases e
    · exact (g1 b (decide_eq_true hb)).symm.trans e
  have ea : ∀ {b o}, hp.get? b = some o → b ≠ a := fun {b o} q z => by rw [z, ha] at q; cases q
  have ed : ∀ {b o}, hp.get? b = some o → b ≠ dx := fun {b o} q z => by rw [z, hd] at q; cases q
  have kG : ∀ b o, hp.get? b = some o → G.get? b = some o := fun b o q => gk b o (ea q) (k b o q)
  have U : Un X.fs [] H (upd H dx (exd dx [(f, v)])) hp G := {
    keep := fun b o q _ _ _ => kG b o q
    slot := fun b o q _ _ _ => ⟨o.slots, kG b o q⟩
    free := fun b o q n' _ => by rw [upd_ne (ed q)]; exact n'
    there := fun b o q _ => ⟨o, kG b o q⟩
    tups := fun b xs q => by rw [upd_ne (ne_of_none q nd)]; exact q
    frzs := fun b o u q => by rw [upd_ne (ne_of_none q nd)]; exact q
    tbls := fun b ps q => ⟨#[], by rw [upd_ne (ne_of_none q nd), q]; simp⟩ }
  have hnG : G.Ns1 dx (fun y => if y = f then some u else none) := by
    obtain ⟨o, es, ep, h1, h2⟩ := hn
    exact ⟨o, es, ep, gk _ _ ne h1, h2⟩
  have J : Inv X pins σ (upd H dx (exd dx [(f, v)])) ⟨G, g, d, t', os⟩ := I.un (t' := t') U fun b o q => by
    by_cases hb2 : b = dx
    · subst hb2
      rw [upd_same] at q
      cases q
      exact exd_ok hnG (relO_put (fs := []) rv fun g => True.intro)
    · rw [upd_ne hb2] at q
      exact (I.hok b o q).stay (fun c v _ z => kG c v z) (fun c hc => by rw [upd_ne (ne_of_none hc nd)]; exact hc) (fun c xs hc => by rw [upd_ne (ne_of_none hc nd)]; exact hc)
  exact ⟨a, _, _, ⟨G, g, d, t', os⟩, _, .ref C, some dx, rfl, J, gs, ga, hx, ⟨rfl, rfl⟩, rfl, rfl, by rw [upd_ne (Ne.symm ne)]; exact na, rfl, I.bare, r, q dx nd⟩
/-- C(v), to be raised -/
theorem call_thr {pins : List (Addr × Obj)} {σ : St} {H : Hp} {s : Shared} {Q : XK} {v : V} {u : Value} (T : ErrI X.prog X.K C n f) (hsup : X.mg "super" = none) (hr : Room 1 X.A) (I : Inv X pins σ H s) (rv : RelV v u)
    (h : Thrown H C f v Q) : wpAny (model X.prog X.w) X.A (call (.ref C) [u]) (MkP X pins σ Q) X.xe s := by
  obtain ⟨B, newId, initId, bmB, fI, TC, iC, tI, run⟩ := T.ex
  obtain ⟨nm, q, N, bs, bm, sn, sub, ab, col, dd, k0, k1, k2, k3, k5, hC, hbm⟩ := TC.cls
  obtain ⟨mb, hmb, hsb⟩ := super_mb I
  have hmg : s.heap.Ns mainGlobals X.mg := I.mod.glob.keeps I.bk
  have KX := I.kIn
  have lim := I.nolimit
  have rs : Raises X (.ref C) := raises_own TC.exC TC.tyC
  rcases s with ⟨hp, g, dr, tk, os⟩
  have hT : ∀ Y : String, bm.contains (.type Y) = bmB.contains (.type Y) := fun Y => PySem.W.excTail_contains Y bm hbm
  have fin : ∀ (us : List Value), ∀ h' tk' dx t1, (∀ b o, b ≠ hp.objs.size + 1 → ((hp.push (PySem.W.kdv_tup us)).push (PySem.HandSPX.excO C hp.objs.size)).get? b = some o → h'.get? b = some o) → ((hp.push (PySem.W.kdv_tup us)).push (PySem.HandSPX.excO C hp.objs.size)).get? dx = none → dx ≠ hp.objs.size + 1 →
      h'.get? (hp.objs.size + 1) = some (PySem.W.excObj C t1 (some dx) .none) → h'.Ns1 dx (fun y => if y = f then some u else none) → MkP X pins σ Q (.ref (hp.objs.size + 1)) ⟨h', g, dr, tk', os⟩ := fun us h' tk' dx t1 k hd ne hx hn => by
    have grown : ∀ b o, hp.get? b = some o → ((hp.push (PySem.W.kdv_tup us)).push (PySem.HandSPX.excO C hp.objs.size)).get? b = some o := fun b o e => Heap.get?_push_of_some _ (Heap.get?_push_of_some _ e)
    have h1 : hp.get? (hp.objs.size + 1) = none := Heap.get?_none_of_le (Nat.le_succ _)
    have h2 : hp.get? dx = none := by
      cases z : hp.get? dx with
      | none => rfl
      | some o => rw [grown _ _ z] at hd; cases hd
    exact thr_laid (C := C) (f := f) (t' := tk') I rv (fun b o z => k b o (Nat.ne_of_lt (Nat.lt_succ_of_lt (Heap.lt_size z))) (grown b o z)) h1 h2 ne hx hn rs h
  have look : PySem.W.Looks (model X.prog X.w) hp (typeLookup (.ref C) "__init__") (some (.ref fI)) := PySem.W.looks_findIn KX iC
  have heK : X.K.lookup (hp.objs.size + 1) = none := by
    cases z : X.K.lookup (hp.objs.size + 1) with
    | none => rfl
    | some o => exact absurd (show hp.objs.size + 1 < hp.objs.size from Heap.lt_size (KX _ _ z)) (by omega)
  have ready : ∀ (us : List Value) (args : Args) (R : Result → Shared → Prop), (args = ⟨[.ref (hp.objs.size + 1), u], []⟩ ∨ args = ⟨[.ref (hp.objs.size + 1)], [(n, u)]⟩) → (∀ s', MkP X pins σ Q (.ref (hp.objs.size + 1)) s' → R (.ok (.ret .none)) s') → ∀ A : Around, A.depth < recursionLimit →
      codeAny (model X.prog X.w) A (.call (.ref fI) args) R ⟨(hp.push (PySem.W.kdv_tup us)).push (PySem.HandSPX.excO C hp.objs.size), g, dr, tk, os⟩ := fun us args R ha hR A hA => by
    have grown : ∀ b o, hp.get? b = some o → ((hp.push (PySem.W.kdv_tup us)).push (PySem.HandSPX.excO C hp.objs.size)).get? b = some o := fun b o e => Heap.get?_push_of_some _ (Heap.get?_push_of_some _ e)
    refine run (KX.keeps grown) (lim.keeps grown) (hmg.keeps grown) hsup (hmb.keeps grown) hsb hA heK (by heap_get) ha fun h' tk' dx t1 k hd ne hx hn => hR _ (fin us h' tk' dx t1 k hd ne hx hn)
  refine wpAny_call (PySem.HandSPX.call_own TC.bf.FB hT (KX _ _ hC) look (fun self => PySem.W.bind_fn KX self tI) (by show 1 ≤ sizeLine; rw [sizeLine_eq]; omega) (ready [u] _ _ (.inl rfl) (fun s' q => ⟨rfl, q⟩) _ (hr.make C [u] []).depth))
/-- C(e), what a raise takes -/
theorem pmk_err (T : ErrI X.prog X.K C n f) (hsup : X.mg "super" = none) (hr : Room 1 X.A) (hg : Gl X x) (hm : X.mg x = some (.ref C)) (he : PE X e te)
    (hdb : (x == ("__debug__" : Str)) = false := by decide) (hs : starEach [e] X.env = (false, eval e X.env) :: starEach [] X.env := by rfl) : PMk X (.Call (.Name x p) [e] [] pos) (fun σ H Q => te σ H fun v H1 => Thrown H1 C f v Q) := by
  have kC : PySem.W.keepIn X.K (.ref C) = true := by
    obtain ⟨_, _, _, _, _, TC, _⟩ := T.ex
    exact TC.kC
  intro pins s σ H Q I asked
  refine wpAny_Call_Name_kw (ld_glob I hg hm (PySem.W.callWith_K (h₀ := X.base) I.ok.mod.kin kC (hs ▸ Calls.spliced_cons (thn (he.run pins s σ H _ I asked) ?_)) hs (by rfl)) hdb)
  rintro u s1 ⟨v, H1, J, rv, q⟩
  exact Calls.spliced_nil ⟨J.kIn, call_thr T hsup hr J rv q⟩
end
end L2.Cal
end

section
set_option maxRecDepth 100000
set_option maxHeartbeats 4000000
/-! try .. except (A, B, C) as e: the error tracked in the suite -/
namespace L2.Cal
open PySem PySem.Spec PyProof.Rows L2
/-- an error that was raised stands at a: its class, its dict -/
def exr (a : Addr) (cls : Value) (d : Option Addr) : HO := .ext fun h => ∃ (oe : Obj) (vs : Array Value), h.get? a = some oe ∧ Zc cls d oe ∧ oe.data = .fields vs
theorem exr_ok {P : Program} {w : World} {H : Hp} {h : Heap} {a : Addr} {cls : Value} {d : Option Addr} {oe : Obj} {vs : Array Value} (e : h.get? a = some oe) (z : Zc cls d oe) (hd : oe.data = .fields vs) : ObjOk P w H h a (exr a cls d) :=
  ⟨⟨oe, vs, e, z, hd⟩, ⟨oe, e⟩, fun _ _ ⟨o, v, q, r⟩ k => ⟨o, v, k o q, r⟩⟩
theorem exr_at {P : Program} {w : World} {H : Hp} {h : Heap} {a : Addr} {cls : Value} {d : Option Addr} (hok : HOk P w H h) (e : H a = some (exr a cls d)) : ∃ (oe : Obj) (vs : Array Value), h.get? a = some oe ∧ Zc cls d oe ∧ oe.data = .fields vs := (hok a _ e).1
theorem FlyingZ.kept {B h h' : Heap} {l : List Env} {a : Addr} {Z : Obj → Prop} (x : HandSPX.FlyingZ B l a Z h) (k : ∀ b o, h.get? b = some o → h'.get? b = some o) : HandSPX.FlyingZ B l a Z h' := by
  obtain ⟨x1, x2, x3, oe, vs, T, oT, ts, e1, e2, e3, e4, e5, e6, e7, e8, e9⟩ := x
  exact ⟨fun b o e => k b o (x1 b o e), x2, x3.of_keeps fun b o e _ => ⟨o, k b o e, rfl⟩, oe, vs, T, oT, ts, k _ _ e1, e2, e3, e4, e5, e6, k _ _ e7, e8, e9⟩
section
variable {X : Cx} {pins : List (Addr × Obj)} {σ : St} {H : Hp} {s₀ s₁ : Shared} {B : Heap} {a : Addr} {o : HO}
/-- the error stands on the ground, tracked from now on -/
theorem inv_found (I : Inv X pins σ H s₀) (ground : ∀ b u, s₀.heap.get? b = some u → b ∉ frs X.stack → B.get? b = some u) (stays : B.StaysIn s₁.heap) (up : s₀.heap.UpToSlots s₁.heap) (os : s₁.os = s₀.os) (bare : AllBare s₁.gens)
    (off : B.get? a = none) (noframe : a ∉ frs X.stack) (new : H a = none) (hO : ObjOk X.prog X.w (upd H a o) s₁.heap a o) : Inv X pins σ (upd H a o) s₁ := by
  have other : ∀ b u, s₀.heap.get? b = some u → b ≠ a := by
    rintro b u e rfl
    exact nomatch (show none = some u from off.symm.trans (ground b u e noframe))
  have hup : ∀ b u, H b = some u → upd H a o b = some u := fun b u e => (upd_ne (ne_of_none e new)).trans e
  have frame : ∀ b u, s₀.heap.get? b = some u → b ∈ frs X.stack → ∃ sl, s₁.heap.get? b = some { u with slots := sl } := fun b u e hb => by
    obtain ⟨_, v, hv, nf⟩ := I.stack.mem hb
    cases e.symm.trans hv
    exact up b u e nf
  refine I.call' (ch := []) os ⟨fun b u e _ hb _ => stays b u (ground b u e hb), fun b u e _ hb _ => frame b u e hb, fun b u e n _ => (upd_ne (other b u e)).trans n, fun b u e _ => ?_, fun b xs e => hup b _ e, fun b v xs e => hup b _ e, fun b ps e => ⟨#[], by simpa using hup b _ e⟩⟩
    (HOk.laidN ((I.inGround ground).kept stays) (fun _ _ e => e) new hO) bare fun _ z => nomatch z
  by_cases hb : b ∈ frs X.stack
  · exact (frame b u e hb).imp' _ fun _ q => q
  · exact ⟨u, stays b u (ground b u e hb)⟩
theorem inv_inSuite (I : Inv X pins σ H s₁) (a : Addr) : Inv (X.suite a (X.pn ++ pins)) [] σ H s₁ where
  ok := I.ok.suite _ _
  os := I.os
  bare := I.bare
  base := I.base
  loc := I.loc
  cell := I.cell
  free := I.free
  freeC := I.freeC
  pin := fun p hp => I.pin p (by simpa using hp)
  hok := I.hok
  len := I.len
theorem inv_offSuite {pn' : List (Addr × Obj)} (ok : X.Ok) (I : Inv (X.suite a (X.pn ++ pins)) pn' σ H s₁) : Inv X pins σ H s₁ where
  ok := ok
  os := I.os
  bare := I.bare
  base := I.base
  loc := I.loc
  cell := I.cell
  free := I.free
  freeC := I.freeC
  pin := fun p hp => I.pin p (List.mem_append.mpr (.inl hp))
  hok := I.hok
  len := I.len
end
/-- behind the suite the error's name is gone -/
abbrev endsLess (D : Ends) (i : Nat) : Ends := { nx := fun σ' H' => D.nx (σ'.set i none) H', rt := D.rt, bk := fun σ' H' => D.bk (σ'.set i none) H', ct := fun σ' H' => D.ct (σ'.set i none) H' }
/-- what is asked of an error that comes to 'except (..) as n': slot i is n's -/
def wAsT (K : PySem.W.Frag) (m : Nat) (cs : List Value) (i : Nat) (ts : TS) (Wout : WX) (D : Ends) : WX := fun cls d σ H =>
  ∃ b, PySem.W.exmAny K cls cs = some b ∧ (b = true → ∀ a, H a = none → σ.length = m → ts (endsLess D i) (σ.set i (some (.ref a))) (upd H a (exr a cls d))) ∧ (b = false → Wout cls d σ H)
section
variable {X : Cx} {x1 x2 x3 n : Str} {C1 C2 C3 : Addr} {i kk : Nat} {body suite : List Stmt} {b₀ : Stmt} {np1 np2 np3 np4 pos pos' : Pos} {tb : WX → TS} {ts : TS} {Wout : WX}
/-- the three classes' tuple -/
theorem three_classes {a : Addr} {pn : List (Addr × Obj)} {σ : St} {H : Hp} {s : Shared} {Q E : Value → Shared → Prop} (I : Inv (X.suite a pn) [] σ H s)
    (hg1 : Gl X x1) (hm1 : X.mg x1 = some (.ref C1)) (hg2 : Gl X x2) (hm2 : X.mg x2 = some (.ref C2)) (hg3 : Gl X x3) (hm3 : X.mg x3 = some (.ref C3)) (d1 : (x1 == ("__debug__" : Str)) = false) (d2 : (x2 == ("__debug__" : Str)) = false) (d3 : (x3 == ("__debug__" : Str)) = false)
    (q : Q (.ref s.heap.objs.size) { s with heap := s.heap.push { cls := .type "tuple", data := .seq [.ref C1, .ref C2, .ref C3].toArray } }) :
    wpAny (model X.prog X.w) (X.A.mark (some (.ref a))) (eval (.Tuple [.Name x1 np1, .Name x2 np2, .Name x3 np3] kk np4) X.env) Q E s :=
  wpAny_Tuple_spliced (Calls.spliced_cons (ld_glob (X := X.suite a pn) I hg1 hm1 (Calls.spliced_cons (ld_glob (X := X.suite a pn) I hg2 hm2 (Calls.spliced_cons (ld_glob (X := X.suite a pn) I hg3 hm3 (Calls.spliced_nil ⟨by show 3 ≤ sizeLine; decide, q⟩) d3)) d2)) d1))
/-- the suite's end -/
theorem suite_end {pins : List (Addr × Obj)} {a : Addr} {D : Ends} {fl : Flow} {s : Shared} (ok : X.Ok) (hN : X.N.Nodup) (hi : X.N[i]? = some n) (hln : X.env.kindOf n = some .local) (h : SP (X.suite a (X.pn ++ pins)) [] (endsLess D i) fl s) :
    wpAny (model X.prog X.w) X.A (do bindName X.env n .none; unbindBehindTheSuite X.env n pos') (fun _ s' => SP X pins D fl s') X.xe s := by
  rcases fl with _ | _ | _ | u
  all_goals first
    | (obtain ⟨v, σ', H', J, rv, q⟩ := h; exact gone_ok (inv_offSuite ok J) hN hi hln fun s' J' => ⟨v, _, H', J', rv, q⟩)
    | (obtain ⟨σ', H', J, q⟩ := h; exact gone_ok (inv_offSuite ok J) hN hi hln fun s' J' => ⟨_, H', J', q⟩)
theorem ps_try_asT3 (hs : X.stack = X.env :: X.outer) (hf : X.env.frame = some X.env.locals) (hN : X.N.Nodup) (hi : X.N[i]? = some n) (hln : X.env.kindOf n = some .local)
    (hg1 : Gl X x1) (hm1 : X.mg x1 = some (.ref C1)) (hg2 : Gl X x2) (hm2 : X.mg x2 = some (.ref C2)) (hg3 : Gl X x3) (hm3 : X.mg x3 = some (.ref C3)) (tk : Takes X Wout)
    (hb : ∀ (W : WX) (pn : List (Addr × Obj)) (xe : Value → Shared → Prop), Takes (X.tr pn xe) W → PassesOwn (model X.prog X.w) X.A X.env xe → PSs (X.tr pn xe) body (tb W)) (hsu : ∀ (a : Addr) (pn : List (Addr × Obj)), PSs (X.suite a pn) (b₀ :: suite) ts)
    (d1 : (x1 == ("__debug__" : Str)) = false := by decide) (d2 : (x2 == ("__debug__" : Str)) = false := by decide) (d3 : (x3 == ("__debug__" : Str)) = false := by decide) :
    PS X (.Try body [.ExceptHandler (some (.Tuple [.Name x1 np1, .Name x2 np2, .Name x3 np3] kk np4)) (some n) (b₀ :: suite) pos'] [] [] pos) (fun D σ H => tb (wAsT X.K X.N.length [.ref C1, .ref C2, .ref C3] i ts Wout D) D σ H) := by
  constructor
  intro pins s σ H D I asked
  have fine := I.ok
  have stk : X.A.frames = some (X.env :: X.outer) := hs ▸ fine.frames
  let hdl : ExceptHandler := .ExceptHandler (some (.Tuple [.Name x1 np1, .Name x2 np2, .Name x3 np3] kk np4)) (some n) (b₀ :: suite) pos'
  let catches : Value → Shared → Prop := fun e t => wpAny (model X.prog X.w) X.A (noteFrame e X.env) (fun _ t₂ => wpAny (model X.prog X.w) X.A (setFlight e none) (fun _ t₃ => wpAny (model X.prog X.w) X.A (handleBy e X.env [hdl]) (SP X pins D) X.xe t₃) X.xe t₂) X.xe t
  have caught : Takes (X.tr (X.pn ++ pins) catches) (wAsT X.K X.N.length [.ref C1, .ref C2, .ref C3] i ts Wout D) := by
    rintro _ t ⟨a, B, t₀, pins', σ', H', cls, d, rfl, I₀, ground, up, sky, new, os, bare, b, kind, yes, no⟩
    have J₀ : Inv X pins σ' H' t₀ := I₀.ofTry fine
    refine Sky.land Zc.steady stk hf (hs ▸ sky) fun h₁ fly₁ up₁ => ?_
    have J₁ : Inv X pins σ' H' { t with heap := h₁ } := J₀.landed ground fly₁.1 (up.trans up₁) os bare
    obtain ⟨ox, vx, there, hz, flds⟩ := fly₁.there
    have noframe : a ∉ frs X.stack := fun hm => by
      rw [hs] at hm
      obtain ⟨_, u, hu, nf⟩ := fly₁.2.2.1.mem hm
      cases there.symm.trans hu
      exact nf _ flds
    -- the tuple of the classes is laid
    have more : ∀ b u, h₁.get? b = some u → (h₁.push { cls := .type "tuple", data := .seq [.ref C1, .ref C2, .ref C3].toArray }).get? b = some u := fun b u e => Heap.get?_push_of_some _ e
    have J₂ := J₁.kept (t' := t.toks) more
    have fly₂ := FlyingZ.kept fly₁ more
    have up₂ := (up.trans up₁).trans (Heap.UpToSlots.of_keeps more)
    refine wpAny_handleBy_cons (codeAny_handlers_test (three_classes (inv_inSuite J₁ a) hg1 hm1 hg2 hm2 hg3 hm3 d1 d2 d3 ?_)) (fun z => nomatch z)
    have cls_of : PySem.W.Looks (model X.prog X.w) _ (typeOf (.ref a)) cls := fun A Q E s k q => wpAny_typeOf_ref (k _ _ (more _ _ there)) (by rw [hz.1]; exact q)
    refine (PySem.W.exm_tup3 (M := model X.prog X.w) (tp := h₁.objs.size) J₂.kIn cls_of (Heap.get?_push_size _ rfl) kind).here ?_
    cases b
    · -- it goes on
      refine wpAny_handleBy_nil ?_
      obtain ⟨_, _, _, oy, vy, T, _, _, hy, _, fy, t1, _⟩ := id fly₂
      have on : wpAny (model X.prog X.w) X.A (setFlight (.ref a) X.env.frame) (fun _ t₄ => wpAny (model X.prog X.w) X.A (throw (.ref a) : Sem Flow) (SP X pins D) X.xe t₄) X.xe { t with heap := h₁.push { cls := .type "tuple", data := .seq [.ref C1, .ref C2, .ref C3].toArray } } := by
        rw [hf]
        exact HandSPX.setFlight_upZ fly₂ fun h₄ held up₄ => wpAny_throw (tk _ _ ⟨a, B, t₀, pins, σ', H', cls, d, rfl, J₀, ground, up₂.trans up₄, .inr (.inr (hs ▸ held)), new, os, bare, no rfl⟩)
      unfold PySem.passOn
      refine wpAny_bind (wpAny_field hy fy t1 ?_)
      rw [if_neg (by simp)]
      first
        | exact wpAny_bind on
        | exact wpAny_bind (wpAny_pure (wpAny_bind on))
    · -- the suite
      refine codeAny_handlers_suite_as (HandSPX.lands_againZ fly₂ fun h₃ fly₃ up₃ => ?_)
      obtain ⟨oz, vz, hz₁, hz₂, hz₃⟩ := fly₃.there
      have J₃ : Inv X pins σ' (upd H' a (exr a cls d)) { t with heap := h₃ } := inv_found (s₁ := { t with heap := h₃ }) J₀ ground fly₃.1 (up₂.trans up₃) os bare fly₃.2.1 noframe new (exr_ok hz₁ hz₂ hz₃)
      refine store_ok (X := X.suite a (X.pn ++ pins)) (v := .ref a) (inv_inSuite J₃ a) hN hi (.inl hln) rfl (fun s₄ J₄ => ?_) (.inr hln)
      exact wpAny_mono ((hsu a (X.pn ++ pins)).run [] s₄ _ _ _ J₄ (yes rfl a new J₀.len)) (fun fl s₅ out => suite_end fine hN hi hln out) fun _ _ z => False.elim z
  refine wpAny_Try_except (wpAny_mono ((hb _ _ catches caught PassesOwn.looking).run [] s σ H D (I.toTry catches) asked) (fun fl t out => ?_) fun _ _ z => z)
  rcases fl with _ | _ | _ | u
  all_goals first
    | (obtain ⟨v, σ', H', J, rv, q⟩ := out; exact ⟨v, σ', H', J.ofTry fine, rv, q⟩)
    | (obtain ⟨σ', H', J, q⟩ := out; exact wpAny_execs_nil ⟨σ', H', J.ofTry fine, q⟩)
    | (obtain ⟨σ', H', J, q⟩ := out; exact ⟨σ', H', J.ofTry fine, q⟩)
end
end L2.Cal
end

section
set_option maxRecDepth 100000
set_option maxHeartbeats 4000000
/-! defs called while an error is handled; what they ask of it -/
namespace L2.Cal
open PySem PySem.Spec PyProof.Rows L2
structure RoomS (k : Nat) (A : Around) : Prop where
  deep : 3 * k + (A.depth + 5) < recursionLimit
  wide : 16 * k + (A.units + 200) < cLine
theorem RoomS.mono {j k : Nat} {A : Around} (r : RoomS k A) (h : j ≤ k) : RoomS j A := ⟨by have := r.deep; omega, by have := r.wide; omega⟩
theorem RoomS.within {k : Nat} {A : Around} (r : RoomS (k + 1) A) (env : Env) : RoomS k (A.deeper env) := by
  obtain ⟨h1, h2⟩ := r
  have d : (A.deeper env).depth = A.depth + 1 := rfl
  have u : (A.deeper env).units = A.units + 3 := rfl
  exact ⟨by omega, by omega⟩
theorem RoomS.calls {k : Nat} {A : Around} (r : RoomS k A) : A.depth < recursionLimit := by have := r.deep; omega
theorem RoomS.units {k : Nat} {A : Around} (r : RoomS k A) : A.units + 64 < cLine := by have := r.wide; omega
theorem roomS_of {k : Nat} {A : Around} (r : Room k A) : RoomS k A := ⟨by have := r.dp; omega, by have := r.un; omega⟩
theorem roomS_mark {k : Nat} {A : Around} {v : Option Value} (r : RoomS k A) : RoomS k (A.mark v) := ⟨r.deep, r.wide⟩
structure FnS (P : Program) (w : World) (K : PySem.W.Frag) (mg : Str → Option Value) (base : Heap) (k : Nat) (f : Addr) (fd : FuncData) (ps : List Str) (sp : Sp) : Prop where
  many : ∀ us H Q E, sp us H Q E → us.length = ps.length
  run : ∀ (A : Around) (outer : List Env) (s : Shared) (H : Hp) (args : Args) (us : List Value) (vs : List V) (Q : VK) (E : XK), A.guards = some [] → RoomS k A → Env0 P w K mg base A outer s H → BindsTo s fd args (ps.zip us) → Vals vs us → sp vs H Q E →
    codeAny (model P w) A (.call (.ref f) args) (CR CX0 outer P w H s Q E) s
/-- the context of such a def's body: the pin is the module's own dict, which stands everywhere -/
abbrev cxS (P : Program) (w : World) (K : PySem.W.Frag) (mg : Str → Option Value) (base : Heap) (N : List Str) (qual : Str) (scope : Scope) (f : Addr) (cd : Value) (A : Around) (outer : List Env) (s : Shared) (H : Hp) (E : XK) (p : Addr × Obj) : Cx :=
  (L2H.cxH CX0 P w K mg base N qual scope f cd A outer s H E p).nox
/-- an object that stands everywhere, tracked nowhere -/
theorem pin_any {P : Program} {w : World} {K : PySem.W.Frag} {mg : Str → Option Value} {base : Heap} {A : Around} {outer : List Env} {s : Shared} {H : Hp} (e0 : Env0 P w K mg base A outer s H) : ∃ p, L2H.PinOk outer H s p := by
  obtain ⟨o, es, ep, ho, hd, _⟩ := e0.mod.glob
  have hb := e0.bs mainGlobals o ho
  refine ⟨(mainGlobals, o), hb.1, hb.2, fun hm => ?_, fun v hv => ?_⟩
  · have z := (e0.funs.mem hm).1
    rw [ho] at z
    cases z
  · have z : o.data = .cell v := hv
    rw [hd] at z
    cases z
section
variable {base : Heap} {P : Program} {w : World} {K : PySem.W.Frag} {mg : Str → Option Value}
theorem Fun_okS {x qual : Str} {st : Stmt} {f : Addr} {fd : FuncData} {N ps : List Str} {k : Nat} {sp : Sp} (F : Fun K x qual st f fd) (S : FnScope N ps (defScope st)) (many : ∀ us H Q E, sp us H Q E → us.length = ps.length)
    (body : ∀ (cdv : Value) (A : Around) (outer : List Env) (s : Shared) (H : Hp) (us : List V) (Q : VK) (E : XK) (p : Addr × Obj), A.guards = some [] → RoomS k (A.deeper (envOfC qual (defScope st) s.heap.objs.size f cdv)) → sp us H Q E →
      ∃ t, PSs (cxS P w K mg base N qual (defScope st) f cdv A outer s H E p) (defBody st) t ∧ t { nx := fun _ H' => Q .non H', rt := Q } (start N us) H) : FnS P w K mg base (k + 1) f fd ps sp := by
  obtain ⟨c1, c2, c3, c4, c5, c6, c7, c8, c9, rfl, look, code⟩ := F.ex
  refine ⟨many, fun A outer s H args us vs Q E guards room e0 ties vals promise => ?_⟩
  have stands : ∀ b o, base.get? b = some o → s.heap.get? b = some o := fun b o e => (e0.bs b o e).1
  have inK := e0.mod.kin.keeps stands
  refine codeAny_call_function room.calls (inK _ _ look) rfl S.co S.gen rfl (PySem.W.codeRec_of inK code) (ties _ _ _ _ (wpAny_newFunctionEnv_cells S.kind ?_ ?_))
  · rintro ⟨n, v⟩ hy
    exact (S.par n (List.of_mem_zip hy).1).imp id fun k => ⟨k, PySem.W.cellsFrom_some _ _ _ (.inl k)⟩
  · rintro env rfl s1 begun
    refine ⟨(e0.mod.nolimit.keeps stands).keeps begun.toInCall.keep, codeAny_func ?_⟩
    obtain ⟨p, pinned⟩ := pin_any e0
    obtain ⟨t, walks, asked⟩ := body c7 A outer s H vs Q E p guards (room.within _) promise
    have I := L2H.inv_startH (CX := CX0) (E := E) S pinned e0 (many _ _ _ _ promise) vals begun
    refine wpAny_mono (PSs.nox (X := L2H.cxH CX0 P w K mg base N qual (defScope st) f c7 A outer s H E p) walks |>.run [] s1 _ H _ I asked) (fun fl s' hs => ?_) fun e s' hs => hs
    rcases fl with _ | _ | _ | u
    all_goals first
      | (obtain ⟨v, σ', H', J, rv, q⟩ := hs; exact ⟨v, H', J.os, J.bare, J.base, J.hok, rv, q⟩)
      | (obtain ⟨σ', H', J, q⟩ := hs; exact ⟨.non, H', J.os, J.bare, J.base, J.hok, rfl, q⟩)
      | (obtain ⟨_, _, _, q⟩ := hs; exact q.elim)
end
section
variable {X : Cx} {k : Nat} {f : Addr} {fd : FuncData} {ps : List Str} {sp : Sp} {E : XK} {x : Str} {p pos : Pos} {e : Expr} {es : List Expr} {t : TA} {te : TE}
theorem pe_callS (F : FnS X.prog X.w X.K X.mg X.base k f fd ps sp) (hA : X.A.guards = some []) (hr : RoomS k X.A) (hg : Gl X x) (hm : X.mg x = some (.ref f)) (hk : PySem.W.keepIn X.K (.ref f) = true) (hb : Binds X.K fd ps [])
    (ha : PA X (e :: es) t) (hdb : (x == ("__debug__" : Str)) = false := by decide)
    (he : starEach (e :: es) X.env = (false, eval e X.env) :: starEach es X.env := by rfl) (hpl : (backTo pos (starEach es X.env)).any (·.1) = false := by rfl) : PE X (.Call (.Name x p) (e :: es) [] pos) (tCall sp [] E0 t) := by
  constructor
  intro pins s σ H Q I asked
  refine wpAny_Call_Name_kw (ld_glob I hg hm (PySem.W.callWith_K (h₀ := X.base) I.ok.mod.kin hk (thn (ha.run pos pins s σ H _ I asked) ?_) he hpl) hdb)
  rintro us s1 ⟨vs, H1, J, vals, promise⟩
  have vals' : Vals (vs ++ []) (us ++ []) := vals.append .nil
  have ties := hb s1 us J.kIn (vals'.length.symm.trans (F.many _ _ _ _ promise))
  refine ⟨J.kIn, wpAny_call (codeAny_mono (F.run X.A X.stack s1 H1 ⟨us, []⟩ _ _ Q E0 hA hr J.env0 ties vals' promise) ?_)⟩
  rintro (_ | (_ | _ | _ | _)) s' out <;> first | exact J.after out | exact False.elim out
/-! ### what is asked of the error -/
def rIsErrR (K : PySem.W.Frag) : List V → Hp → VK → Prop := fun xs H Q => ∃ (a C : Addr) (d : Option Addr) (c : V) (cv : Value) (b : Bool), xs = [.ref a, c] ∧ (∀ u, RelV c u → u = cv) ∧ H a = some (exr a (.ref C) d) ∧ (∀ dd, d = some dd → ∃ fs, H dd = some (exd dd fs)) ∧ ErrQ K C ∧ PySem.W.kitOne K (.ref C) cv = some b ∧ Q (.bl b) H
/-- the error as an instance of its class -/
theorem errAt_inst {P : Program} {w : World} {H : Hp} {h : Heap} {a C : Addr} {d : Option Addr} (hok : HOk P w H h) (hE : H a = some (exr a (.ref C) d)) (hd : ∀ dd, d = some dd → ∃ fs, H dd = some (exd dd fs)) : ∃ ox od, PySem.W.InstAt h a ox C od := by
  obtain ⟨ox, vs, there, hz, flds⟩ := exr_at hok hE
  have nc : PySem.W.notCls ox := by unfold PySem.W.notCls; rw [flds] <;> rfl
  rcases d with _ | dd
  · exact ⟨ox, none, there, hz.1, nc, by rw [hz.2]; exact True.intro⟩
  · obtain ⟨fs, h2⟩ := hd dd rfl
    obtain ⟨mA, hns, _⟩ := exd_at hok h2
    obtain ⟨od, hod, _⟩ := lookIn_ns hns
    exact ⟨ox, some od, there, hz.1, nc, by rw [hz.2]; exact hod⟩
theorem call_isErrR : CallR X (.builtin "isinstance") (rIsErrR X.K) := by
  rintro pins s σ H _ us Q I r ⟨a, C, d, c, cv, b, rfl, hcv, hE, hd, T, e, q⟩
  obtain ⟨u1, u2, rfl, r1, r2⟩ := vals2 r
  obtain rfl : u1 = Value.ref a := r1
  obtain rfl := hcv _ r2
  obtain ⟨ox, od, J⟩ := errAt_inst I.hok hE hd
  exact PySem.W.kia_one (PySem.W.kitx_exc T.cl T.ga T.gg T.exC T.dcl T.dget T.dtk T.mobj) I.kIn J e (fun z => nomatch z) fun tk => ⟨.bl b, H, I.kept (t' := tk) fun _ _ z => z, rfl, q⟩
def tErrFldR (K : PySem.W.Frag) (f : Str) (te : TE) : TE := fun σ H Q => te σ H fun x H1 => ∃ (a C d : Addr) (fs : List (Str × V)) (v : V), x = .ref a ∧ H1 a = some (exr a (.ref C) (some d)) ∧ H1 d = some (exd d fs) ∧ fs.lookup f = some v ∧ ErrQ K C ∧ PySem.W.findIn K (.ref C) f = some none ∧ Q v H1
theorem pe_errFldR {f : Str} (he : PE X e te) (hb : attributeBase e f X.env (eval e X.env) = eval e X.env := by rfl) : PE X (.Attribute e f pos) (tErrFldR X.K f te) := by
  constructor
  intro pins s σ H Q I asked
  refine attr_of hb (thn (he.run pins s σ H _ I asked) ?_)
  rintro u s1 ⟨x, H1, J, rx, a, C, d, fs, v, rfl, h1, h2, hl, T, hno, q⟩
  obtain rfl : u = Value.ref a := rx
  obtain ⟨ox, vs, there, hz, flds⟩ := exr_at J.hok h1
  obtain ⟨mA, hns, hr⟩ := exd_at J.hok h2
  obtain ⟨od, hod, hlk⟩ := lookIn_ns hns
  obtain ⟨y, hy, ry⟩ := RelO.some_of (v := v) (o := mA f) (hl ▸ hr f)
  have inst : PySem.W.InstAt s1.heap a ox C (some od) := ⟨there, hz.1, by unfold PySem.W.notCls; rw [flds] <;> rfl, by rw [hz.2]; exact hod⟩
  exact HandSPX.exc_get J.kIn inst T.ga T.gg T.exC (PySem.W.findObj_own T.hd hno rfl (by rw [hlk, hy])) (handed_of ry) ⟨v, H1, J.tok _, ry, q⟩
/-! ### xs.count(y), flat items -/
theorem count_eqU {y : V} : ∀ {ys : List V} {us : List Value}, Vals ys us → (∀ z ∈ ys, flatV z = true) → (us.countP fun u => eqU y u) = ys.countP fun z => eqV z y
  | _, _, .nil, _ => rfl
  | _, _, .cons r t, f => by
    rw [List.countP_cons, List.countP_cons, count_eqU t fun z hz => f z (List.mem_cons_of_mem _ hz), eqU_of r (f _ List.mem_cons_self)]
def rCntF (K : PySem.W.Frag) : V → List V → Hp → VK → Prop := fun x xs H Q => ∃ (p : Addr) (ys : List V) (y : V), x = .ref p ∧ xs = [y] ∧ SqL K H p ys ∧ flatV y = true ∧ ys.all flatV = true ∧ Q (.int ((ys.countP fun z => eqV z y : Nat) : Int)) H
theorem mt_lcountF : MtR X "list.count" (rCntF X.K) := by
  rintro pins s σ H _ _ v us Q I rx rxs ⟨p, ys, y, rfl, rfl, hs, fy, fys, q⟩
  cases rx
  obtain ⟨u, rfl, ru⟩ := rxs.one
  obtain ⟨its, rv, ⟨⟨cls, dd, data, sl⟩, n, ho, hc, _, hd⟩, _⟩ := I.list hs
  obtain rfl : cls = _ := hc
  obtain rfl : data = _ := hd
  have same := count_eqU (y := y) rv (List.all_eq_true.mp fys)
  have meets := SeqAt.list_countAt p its.toArray n dd sl u (eqU y)
  rw [show its.toArray.toList = its from rfl, same] at meets
  exact call_meets PySem.F.slot_list_count ⟨_, ho, rfl⟩ PySem.F.entry_list_count (PySem.F.args_list_count_2 _ _) meets ⟨ho, fun w hw => mem_eqAt ru fy rv fys w (by simpa using hw), ⟨.int ((ys.countP fun z => eqV z y : Nat) : Int), H, I.tok _, ⟨_, rfl⟩, q⟩⟩
end
end L2.Cal
end

section
set_option maxRecDepth 100000
set_option maxHeartbeats 4000000
namespace L2.Cal
open PySem PySem.Spec PyProof.Rows L2
/-! ### values that are asked whether they are orders -/
def isOrd : V → Bool
  | .str y => ordB y
  | _ => false
def AskO (K : PySem.W.Frag) (H : Hp) (x : V) : Prop := (∃ y, x = .str y ∧ y.cps.size ≤ 1000) ∨ ((∀ y, x ≠ .str y) ∧ ∃ T, TyX K H x T ∧ PySem.W.kitOne K T (.type "str") = some false)
theorem isOrd_not {x : V} (h : ∀ y, x ≠ .str y) : isOrd x = false := by
  cases x <;> first | rfl | exact absurd rfl (h _)
def ordOf (z : Str) : V → Bool
  | .str y => ordB y && decide (tidy y = z)
  | _ => false
theorem ordOf_not {z : Str} {x : V} (h : ∀ y, x ≠ .str y) : ordOf z x = false := by
  cases x <;> first | rfl | exact absurd rfl (h _)
theorem ordOf_str (z y : Str) : ordOf z (.str y) = (ordB y && decide (tidy y = z)) := rfl
theorem ordB_size {y : Str} (h : ordB y = true) : y.cps.size ≤ 6 := by
  unfold ordB at h
  rw [Bool.and_eq_true] at h
  exact (of_decide_eq_true h.1).2
theorem fn_either {P : Program} {w : World} {K : PySem.W.Frag} {mg : Str → Option Value} {base : Heap} {CX : CXT} {k : Nat} {f : Addr} {fd : FuncData} {ps : List Str} {sp sp' : Sp} (F : FnOk P w K mg base CX k f fd ps sp) (F' : FnOk P w K mg base CX k f fd ps sp') :
    FnOk P w K mg base CX k f fd ps (fun vs H Q E => sp vs H Q E ∨ sp' vs H Q E) :=
  ⟨fun vs H Q E h => h.elim (F.len vs H Q E) (F'.len vs H Q E), fun A o s H args us vs Q E hr e0 hb r h => h.elim (F.run A o s H args us vs Q E hr e0 hb r) (F'.run A o s H args us vs Q E hr e0 hb r)⟩
theorem fn_from {P : Program} {w : World} {K : PySem.W.Frag} {mg : Str → Option Value} {base : Heap} {CX : CXT} {k : Nat} {f : Addr} {fd : FuncData} {ps : List Str} {sp sp' : Sp} (F : FnOk P w K mg base CX k f fd ps sp) (i : ∀ vs H Q E, sp' vs H Q E → sp vs H Q E) :
    FnOk P w K mg base CX k f fd ps sp' :=
  ⟨fun vs H Q E h => F.len vs H Q E (i _ _ _ _ h), fun A o s H args us vs Q E hr e0 hb r h => F.run A o s H args us vs Q E hr e0 hb r (i _ _ _ _ h)⟩
def spIsN (K : PySem.W.Frag) : Sp := fun vs H Q _ => ∃ x T, vs = [x] ∧ TyX K H x T ∧ PySem.W.kitOne K T (.type "str") = some false ∧ Q (.bl false) H
def spIsA (K : PySem.W.Frag) : Sp := fun vs H Q _ => ∃ x, vs = [x] ∧ AskO K H x ∧ ∀ H', Same H H' → Q (.bl (isOrd x)) H'
abbrev sIoo : Stmt := topS 22
theorem scIoo : FnScope ["things", "value"] ["things", "value"] (defScope sIoo) := ⟨rfl, rfl, rfl, by decide +kernel, rfl, by decide +kernel, by decide +kernel⟩
def spIoo (K : PySem.W.Frag) : Sp := fun vs H Q _ => ∃ z x, vs = [.str z, x] ∧ AskO K H x ∧ ∀ H', Same H H' → Q (.bl (ordOf z x)) H'
section
variable {P : Program} {w : World} {K : PySem.W.Frag} {mg : Str → Option Value} {base : Heap}
theorem ok_isn {f : Addr} {fd : FuncData} (D : DefAt K mg "is_order" sIsO ["value"] f fd) (T : Txt mg) (Lm : Lims mg) : FnOk P w K mg base CX0 1 f fd ["value"] (spIsN K) := by
  obtain ⟨_, c1⟩ := Lm.c1
  obtain ⟨_, c2⟩ := Lm.c2
  refine D.F.ok scIsO (fun vs H Q E h => ?_) (fun cdv A outer sh H vs Q E hr h => ?_)
  · obtain ⟨x, Ty, rfl, _⟩ := h
    rfl
  · obtain ⟨x, Ty, rfl, ty, kit, q⟩ := h
    refine ⟨_, (pss_cons (ps_if (PW.pt (pw_or (pt_not (pt_val (pe_callB call_isi (by rfl) T.b_isinstance (by decide +kernel) (pa_cons (pv 0) (pa_cons (pe_bty (n := "str") (by rfl) T.b_str (by decide +kernel)) pa_nil))))) (pw_or1 (pt_not (pt_chain op_le op_le (pe_glob (v := .int 3) (by rfl) c1 ⟨_, rfl⟩) (pe_callB call_len_str (by rfl) T.b_len (by decide +kernel) (pa_cons (pv 0) pa_nil)) (pe_glob (v := .int 6) (by rfl) c2 ⟨_, rfl⟩))))))
   (pss_one (ps_ret pe_bl))
   pss_nil)
  (pss_one ps_never)), ?_⟩
    exact ⟨_, rfl, x, .ty "str", Ty, .type "str", false, rfl, .ty _, ty, kit, false, rfl, iteT q⟩
theorem ok_isa {f : Addr} {fd : FuncData} (D : DefAt K mg "is_order" sIsO ["value"] f fd) (T : Txt mg) (Lm : Lims mg) : FnOk P w K mg base CX0 1 f fd ["value"] (spIsA K) :=
  fn_from (fn_either (ok_iso D T Lm) (ok_isn D T Lm)) fun vs H Q E ⟨x, ev, ask, q⟩ => by
    rcases ask with ⟨y, rfl, hy⟩ | ⟨ny, Ty, ty, kit⟩
    · exact .inl ⟨y, ev, hy, q⟩
    · exact .inr ⟨x, Ty, ev, ty, kit, by rw [← isOrd_not ny]; exact q H fun _ _ z => z⟩
theorem ok_ioo {f fI fT : Addr} {fd fdI fdT : FuncData} (D : DefAt K mg "is_order_of" sIoo ["things", "value"] f fd) (DI : DefAt K mg "is_order" sIsO ["value"] fI fdI) (DT : DefAt K mg "things_of" sThO ["order"] fT fdT) (T : Txt mg) (Lm : Lims mg) :
    FnOk P w K mg base CX0 2 f fd ["things", "value"] (spIoo K) := by
  have GI : FnOk P w K mg base CX0 1 fI fdI ["value"] (spIsA K) := ok_isa DI T Lm
  have GT : FnOk P w K mg base CX0 1 fT fdT ["order"] spThO := ok_tho DT T
  refine D.F.ok scIoo (fun vs H Q E h => ?_) (fun cdv A outer sh H vs Q E hr h => ?_)
  · obtain ⟨z, x, rfl, _⟩ := h
    rfl
  · obtain ⟨z, x, rfl, ask, q⟩ := h
    refine ⟨_, (pss_one (ps_ret (pe_and (pe_call GI (hr.mono (by decide)) (by rfl) DI.g DI.F.kp DI.b .nil pass0 (pa_cons (pv 1) pa_nil)) (pe_one (pe_cmpR op_eq (pe_call GT (hr.mono (by decide)) (by rfl) DT.g DT.F.kp DT.b .nil pass0 (pa_cons (pv 1) pa_nil)) (pv 0) (nomark _)))))), ?_⟩
    refine ⟨_, rfl, x, rfl, ask, fun H1 s1 => ⟨_, rfl, ?_⟩⟩
    rcases ask with ⟨y, rfl, hy⟩ | ⟨ny, _⟩
    · cases e : ordB y with
      | false =>
        have q1 := q H1 s1
        rw [ordOf_str, e, Bool.false_and] at q1
        rw [show isOrd (.str y) = false from e]
        exact iteF q1
      | true =>
        refine (ite2 (fun _ => ?_) (fun z => absurd e z))
        refine ⟨_, rfl, y, rfl, by have := ordB_size e; omega, fun H2 s2 => ⟨_, rfl, rfl, ?_⟩⟩
        have q2 := q H2 (s1.trans s2)
        rw [ordOf_str, e, Bool.true_and] at q2
        have e2 : decide (V.str (tidy y) = V.str z) = decide (tidy y = z) := by simp
        rw [e2]
        exact q2
    · have q1 := q H1 s1
      rw [ordOf_not ny] at q1
      rw [isOrd_not ny]
      exact iteF q1
end
end L2.Cal
end

section
set_option maxRecDepth 100000
set_option maxHeartbeats 4000000
/-! Roll.more of an order that is not there -/
namespace L2.Cal
open PySem PySem.Spec PyProof.Rows L2
theorem in_lst (z : Str) (L : List Str) : inV (.str z) (L.map V.str) = decide (z ∈ L) := by
  unfold inV
  rw [List.any_map, Bool.eq_iff_iff, List.any_eq_true, decide_eq_true_iff]
  constructor
  · rintro ⟨o, ho, e⟩
    have : o = z := eq_of_beq e
    exact this ▸ ho
  · exact fun h => ⟨z, h, beq_iff_eq.mpr rfl⟩
theorem flat_strs (L : List Str) : (L.map V.str).all flatV = true := by
  rw [List.all_map, List.all_eq_true]
  exact fun _ _ => rfl
abbrev sMor : Stmt := methS 8
theorem scMor : FnScope ["self", "order"] ["self", "order"] (defScope sMor) := ⟨rfl, rfl, rfl, by decide +kernel, rfl, by decide +kernel, by decide +kernel⟩
theorem ordOf_perm {y z : Str} (ly : Lett y) (h3 : 3 ≤ y.cps.size) (h6 : y.cps.size ≤ 6) (p : z.cps.toList.Perm y.cps.toList) : ordOf (tidy y) (.str z) = true := by
  have e : z.cps.size = y.cps.size := perm_size p
  have lz := ly.perm p
  rw [ordOf_str, decide_eq_true (tidy_same p), Bool.and_true]
  unfold ordB
  rw [decide_eq_true (show 3 ≤ z.cps.size ∧ z.cps.size ≤ 6 by omega), decide_eq_true lz.1, Bool.true_and, Bool.true_and, List.all_eq_true]
  intro c hc
  have := lz.2 c hc
  rw [decide_eq_true this.1, decide_eq_true this.2] <;> rfl
theorem good_more {ys zs : List Str} {y z : Str} (G : Good ys y) (pz : z.cps.toList.Perm y.cps.toList) (few : ys.length < 48) (pm : zs.Perm (ys ++ [z])) (cl : Climbs zs) : Good zs y where
  lot := ⟨cl, climbs_nodup cl, by rw [pm.length_eq, List.length_append]; exact Nat.succ_pos _, fun x hx => by
    rcases List.mem_append.mp (pm.mem_iff.mp hx) with h | h
    · exact G.lot.of x h
    · rw [List.mem_singleton.mp h]
      exact pz⟩
  let_ := G.let_
  h3 := G.h3
  h6 := G.h6
  few := by rw [pm.length_eq, List.length_append]; exact few
/-- a new roll, its tuple t, nothing else otherwise -/
def spMor (K : PySem.W.Frag) (C : Addr) : Sp := fun vs H Q _ => ∃ (a t : Addr) (ys : List Str) (y z : Str), vs = [.ref a, .str z] ∧ RollAt C H a t (tidy y) ∧ SqT K H t (ys.map V.str) ∧ Good ys y ∧ z.cps.toList.Perm y.cps.toList ∧ z ∉ ys ∧ ys.length < 48 ∧
  ∀ (x t' : Addr) (zs : List Str) (H' : Hp), Same H H' → RollAt C H' x t' (tidy y) → H' t' = some (.tup (zs.map V.str)) → Good zs y → zs.Perm (ys ++ [z]) → Q (.ref x) H'
section
variable {P : Program} {w : World} {K : PySem.W.Frag} {mg : Str → Option Value} {base : Heap} {C : Addr}
theorem ok_mor {f fO fI fH fN fR : Addr} {fd fdO fdI fdH fdN fdR : FuncData} (F : Fun K "more" "Roll.more" sMor f fd) (DO : DefAt K mg "is_order_of" sIoo ["things", "value"] fO fdO) (DI : DefAt K mg "is_order" sIsO ["value"] fI fdI) (DH : DefAt K mg "things_of" sThO ["order"] fH fdH)
    (FN : Fun K "__init__" "Roll.__init__" sIni fN fdN) (bI : Binds K fdN ["self", "orders"] []) (MK : Mk K C fN) (DR : DefAt K mg "right_ahead" sRah ["orders"] fR fdR) (T : Txt mg) (Lm : Lims mg) (R : RollC K mg C) : FnOk P w K mg base CX0 5 f fd ["self", "order"] (spMor K C) := by
  have GO : FnOk P w K mg base CX0 2 fO fdO ["things", "value"] (spIoo K) := ok_ioo DO DI DH T Lm
  have GN : FnOk P w K mg base CX0 3 fN fdN ["self", "orders"] (spIni K C) := ok_ini FN DR DI DH T Lm R
  obtain ⟨_, c3⟩ := Lm.c3
  refine F.ok scMor (fun vs H Q E h => ?_) (fun cdv A outer sh H vs Q E hr h => ?_)
  · obtain ⟨a, t, ys, y, z, rfl, _⟩ := h
    rfl
  · obtain ⟨a, t, ys, y, z, rfl, hR, hT, G, pz, hz, lt, q⟩ := h
    refine ⟨_, (pss_cons (ps_if (PW.pt (pw_or (pt_not (pt_val (pe_call GO (hr.mono (by decide)) (by rfl) DO.g DO.F.kp DO.b .nil pass0 (pa_cons (pe_fld (pv 0) rfl) (pa_cons (pv 1) pa_nil))))) (pw_or1 (pt_cmpR op_in_seq (pv 1) (pe_fld (pv 0) rfl) (by rfl))))) (pss_one ps_never) pss_nil)
  (pss_cons (ps_if (pt_cmpR op_eq (pe_callB call_len_seq (by rfl) T.b_len (by decide +kernel) (pa_cons (pe_fld (pv 0) rfl) pa_nil)) (pe_glob (v := .int 48) (by rfl) c3 ⟨_, rfl⟩) (nomark _)) (pss_one ps_never) pss_nil)
  (pss_one (ps_ret (pe_make MK GN (hr.mono (by decide)) (by rfl) R.g bI .nil pass0 (pa_cons (pe_callTy call_tuple_of (by rfl) T.b_tuple (by decide +kernel) (pa_cons (pe_callB cr_sortedS (by rfl) T.b_sorted (by decide +kernel) (pa_cons (pe_lstS (StX.pa_star (pe_fld (pv 0) rfl) (pa_cons (pv 1) pa_nil))) pa_nil)) pa_nil)) pa_nil)))))), ?_⟩
    obtain ⟨dx, fs, ha, l1, l2⟩ := id hR
    have z6 : z.cps.size ≤ 6 := by rw [perm_size pz]; exact G.h6
    refine ⟨_, rfl, a, C, dx, fs, _, rfl, ha, R.cls, R.no2, l2, _, rfl, tidy y, .str z, rfl, .inl ⟨z, rfl, by omega⟩, fun H1 s1 => ?_⟩
    rw [ordOf_perm G.let_ G.h3 G.h6 pz]
    refine ⟨_, rfl, iteF ⟨_, rfl, _, rfl, a, C, dx, fs, _, rfl, s1 _ _ ha, R.cls, R.no1, l1, t, _, rfl, .inr (same_seqT hT s1), rfl, flat_strs ys, ?_⟩⟩
    rw [in_lst, decide_eq_false hz]
    refine ⟨_, rfl, iteF ⟨_, rfl, a, C, dx, fs, _, rfl, s1 _ _ ha, R.cls, R.no1, l1, t, _, rfl, .inr (same_seqT hT s1), rfl, _, rfl, ite2 (fun e2 => ?_) (fun _ => ?_)⟩⟩
    · exfalso
      have := V.int.inj (of_decide_eq_true e2)
      rw [List.length_map] at this
      omega
    · refine ⟨_, rfl, a, C, dx, fs, _, rfl, s1 _ _ ha, R.cls, R.no1, l1, t, _, rfl, .inl (same_seqT hT s1), _, rfl, ?_, fun p H2 s2 np ep => ?_⟩
      · rw [List.length_append, List.length_map, sizeLine_eq]
        show ys.length + 1 ≤ _
        omega
      refine ⟨p, ys ++ [z], rfl, SqL.of (by rw [ep, List.map_append] <;> rfl), by rw [List.length_append]; show ys.length + 1 < 64; omega, fun zs p2 pm so np2 => ?_⟩
      refine ⟨p2, _, rfl, .inl ⟨SqL.of upd_same, fun t2 nt2 => ?_⟩⟩
      have nd : (ys ++ [z]).Nodup := List.nodup_append.mpr ⟨G.lot.one, by simp, fun a ha b hb => by rw [List.mem_singleton.mp hb]; exact fun c => hz (c ▸ ha)⟩
      have cl : Climbs zs := climbs_sorted so (pm.nodup_iff.mpr nd)
      have s5 : Same H (upd (upd H2 p2 (.lst (zs.map V.str))) t2 (.tup (zs.map V.str))) := s1.trans (s2.trans ((same_new np2).trans (same_new nt2)))
      have et : (upd (upd H2 p2 (.lst (zs.map V.str))) t2 (.tup (zs.map V.str))) t2 = some (.tup (zs.map V.str)) := upd_same
      generalize upd (upd H2 p2 (.lst (zs.map V.str))) t2 (.tup (zs.map V.str)) = H3 at s5 et ⊢
      have G2 := good_more G pz lt pm cl
      refine fun x1 dx1 nx1 nd1 ne1 => ?_
      have m1 : Same H3 (upd (upd H3 dx1 (.own x1)) x1 (.ins C dx1 [])) := fun b o e => by rw [upd_ne (ne_of_none e nx1), upd_ne (ne_of_none e nd1)]; exact e
      refine ⟨x1, t2, dx1, zs, y, rfl, upd_same, SqT.of (m1 _ _ et), .base (.tup (m1 _ _ et)), G2, fun H4 k4 r1 => ⟨rfl, ?_⟩⟩
      have s4 : Same H3 H4 := fun b o e => k4 b o (ne_of_none e nx1) (m1 _ _ e)
      exact q x1 t2 zs H4 (s5.trans s4) r1 (s4 _ _ et) G2 pm
end
end L2.Cal
end

section
set_option maxRecDepth 100000
set_option maxHeartbeats 4000000
/-! the repr of a text of plain signs is a text that can be laid -/
namespace L2.Cal
open PySem PySem.Spec PyProof.Rows L2
def plainT (q : Nat) : Bool := (List.range 128).all fun c => (Builtin.Str.reprChar q c).all fun d => decide (d < 128)
theorem plain_39 : plainT 39 = true := by decide +kernel
theorem plain_34 : plainT 34 = true := by decide +kernel
theorem quote_of (x : Str) : reprQuote x = 39 ∨ reprQuote x = 34 := by
  unfold reprQuote
  split <;> first | exact .inl rfl | exact .inr rfl
theorem repr_plain {x : Str} (h : ∀ c ∈ x.cps.toList, c < 128) : ∀ c ∈ (reprText x).cps.toList, c < 128 := by
  have hq : plainT (reprQuote x) = true := by
    rcases quote_of x with e | e <;> rw [e]
    · exact plain_39
    · exact plain_34
  have q128 : reprQuote x < 128 := by rcases quote_of x with e | e <;> rw [e] <;> decide
  have all : ∀ (l : List Nat) (acc : Array Nat), (∀ c ∈ l, c < 128) → (∀ c ∈ acc.toList, c < 128) → ∀ c ∈ (l.foldl (fun out c => out ++ (Builtin.Str.reprChar (reprQuote x) c).toArray) acc).toList, c < 128 := by
    intro l
    induction l with
    | nil => intro acc _ ha; exact ha
    | cons a r ih =>
      intro acc hl ha
      refine ih _ (fun c hc => hl c (List.mem_cons_of_mem _ hc)) fun c hc => ?_
      rw [Array.toList_append] at hc
      rcases List.mem_append.mp hc with hc | hc
      · exact ha c hc
      · have z := List.all_eq_true.mp hq a (List.mem_range.mpr (hl a List.mem_cons_self))
        exact of_decide_eq_true (List.all_eq_true.mp z c (by simpa using hc))
  intro c hc
  unfold reprText at hc
  simp only [Array.toList_push, ← Array.foldl_toList] at hc
  rcases List.mem_append.mp hc with hc | hc
  · exact all x.cps.toList _ h (by intro c hc; rw [List.mem_singleton.mp (show c ∈ [reprQuote x] from hc)]; exact q128) c hc
  · rw [List.mem_singleton.mp hc]; exact q128
theorem strOk_plain {x : Str} (h : ∀ c ∈ x.cps.toList, c < 128) : PyData.strOk x = true := by
  unfold PyData.strOk
  rw [Array.all_eq_true']
  intro c hc
  have := h c (Array.mem_toList_iff.mpr hc)
  exact decide_eq_true (by omega)
theorem strOk_repr {x : Str} (h : ∀ c ∈ x.cps.toList, c < 128) : PyData.strOk (reprText x) = true := strOk_plain (repr_plain h)
end L2.Cal
end

section
set_option maxRecDepth 100000
set_option maxHeartbeats 4000000
/-! values of any kind that a law draws: what they show, of which type they are -/
namespace L2.Cal
open PySem PySem.Spec PyProof.Rows L2
/-- a text of few plain signs, or no text -/
def smallT : PyData → Bool
  | .str y => decide (y.cps.size ≤ 20) && y.cps.toList.all fun c => decide (c < 128)
  | _ => true
def goodE (d : PyData) : Bool := d.showable && (decide (d.shown.length ≤ 1000) && (decide (d.depth ≤ 40) && (PyData.strOk d.shown && smallT d)))
inductive TyV (H : Hp) : V → PyData → String → Prop where
  | non : TyV H .non .none "NoneType"
  | bl (b : Bool) : TyV H (.bl b) (.bool b) "bool"
  | int (i : Int) : TyV H (.int i) (.int i) "int"
  | str (y : Str) : TyV H (.str y) (.str y) "str"
  | lst {l : Addr} {xs : List V} {ds : List PyData} (e : H l = some (.lst xs)) : TyV H (.ref l) (.list ds) "list"
  | tup {l : Addr} {xs : List V} {ds : List PyData} (e : H l = some (.tup xs)) : TyV H (.ref l) (.tuple ds) "tuple"
  | dct {l : Addr} {kvs : List (Key × V)} {ds : List (PyData × PyData)} (e : H l = some (.dK kvs)) : TyV H (.ref l) (.dict ds) "dict"
abbrev tyNames : List String := ["NoneType", "bool", "int", "str", "list", "tuple", "dict"]
theorem TyV.same {H H' : Hp} {v : V} {d : PyData} {T : String} (t : TyV H v d T) (s : Same H H') : TyV H' v d T := by
  cases t with
  | non => exact .non
  | bl b => exact .bl b
  | int i => exact .int i
  | str y => exact .str y
  | lst e => exact .lst (s _ _ e)
  | tup e => exact .tup (s _ _ e)
  | dct e => exact .dct (s _ _ e)
theorem TyV.ty {K : PySem.W.Frag} {H : Hp} {v : V} {d : PyData} {T : String} (t : TyV H v d T) : TyX K H v (.type T) := by
  cases t with
  | non => exact .base .non
  | bl b => exact .base (.bl b)
  | int i => exact .base (.int i)
  | str y => exact .base (.str y)
  | lst e => exact .base (.lst e)
  | tup e => exact .base (.tup e)
  | dct e => exact .base (.dK e)
theorem TyV.name {H : Hp} {v : V} {d : PyData} {T : String} (t : TyV H v d T) : T ∈ tyNames := by
  cases t <;> decide
theorem TyV.isStr {H : Hp} {v : V} {d : PyData} {T : String} (t : TyV H v d T) : (∃ y, v = .str y ∧ d = .str y ∧ T = "str") ∨ ((∀ y, v ≠ .str y) ∧ T ≠ "str") := by
  cases t
  case str y => exact .inl ⟨y, rfl, rfl, rfl⟩
  all_goals exact .inr ⟨(fun y z => nomatch z), by decide⟩
/-- a drawn value v, its data d -/
structure AnyV (K : PySem.W.Frag) (H : Hp) (v : V) (d : PyData) : Prop where
  dd : DD K H v d
  good : goodE d = true
  ty : ∃ T, TyV H v d T
theorem AnyV.same {K : PySem.W.Frag} {H H' : Hp} {v : V} {d : PyData} (h : AnyV K H v d) (s : Same H H') : AnyV K H' v d := ⟨h.dd.same s, h.good, h.ty.imp fun _ t => t.same s⟩
theorem AnyV.shown {K : PySem.W.Frag} {H : Hp} {v : V} {d : PyData} (h : AnyV K H v d) : d.showable = true ∧ d.shown.length ≤ 1000 ∧ d.depth ≤ 40 ∧ PyData.strOk d.shown = true := by
  have g := h.good
  unfold goodE at g
  simp only [Bool.and_eq_true, decide_eq_true_eq] at g
  exact ⟨g.1, g.2.1, g.2.2.1, g.2.2.2.1⟩
theorem AnyV.small {K : PySem.W.Frag} {H : Hp} {v : V} {y : Str} (h : AnyV K H v (.str y)) : y.cps.size ≤ 20 ∧ ∀ c ∈ y.cps.toList, c < 128 := by
  have g := h.good
  unfold goodE at g
  simp only [Bool.and_eq_true, decide_eq_true_eq] at g
  have s := g.2.2.2.2
  unfold smallT at s
  simp only [Bool.and_eq_true, decide_eq_true_eq, List.all_eq_true] at s
  exact s
/-- without the jar -/
def AnyJ (K : PySem.W.Frag) (j : Addr) (H : Hp) (v : V) : Prop := ∃ d, AnyV K (del H j) v d
theorem del_kp {j : Addr} {H H' : Hp} (k : ∀ b o, b ≠ j → H b = some o → H' b = some o) : Same (del H j) (del H' j) := fun b o e => by
  have hb : b ≠ j := fun z => by rw [z, del_same] at e; cases e
  rw [del_ne hb] at e ⊢
  exact k b o hb e
theorem del_in {j : Addr} {H : Hp} : Same (del H j) H := fun b o e => by
  have hb : b ≠ j := fun z => by rw [z, del_same] at e; cases e
  rw [del_ne hb] at e
  exact e
theorem AnyV.text {K : PySem.W.Frag} {H : Hp} {y : Str} (hl : y.cps.size ≤ 20) (hp : ∀ c ∈ y.cps.toList, c < 128) : AnyV K H (.str y) (.str y) := by
  refine ⟨.base (.str y), ?_, "str", .str y⟩
  have l := StrLaws.reprText_len y fun c hc => by have := hp c hc; omega
  have e : y.length = y.cps.size := rfl
  unfold goodE smallT
  simp only [Bool.and_eq_true, decide_eq_true_eq, List.all_eq_true]
  refine ⟨by simp [PyData.showable], by rw [PyData.shown_str]; omega, by simp [PyData.depth], by rw [PyData.shown_str]; exact strOk_repr hp, hl, hp⟩
/-- a written value -/
theorem any_by {K : PySem.W.Frag} {H : Hp} {v : V} {d : PyData} {T : String} (dd : DD K H v d) (t : TyV H v d T) (g : goodE d = true) : AnyV K H v d := ⟨dd, g, T, t⟩
end L2.Cal
end

section
set_option maxRecDepth 100000
set_option maxHeartbeats 4000000
/-! a text in a tuple of items of any kind -/
namespace L2.Cal
open PySem PySem.Spec PyProof.Rows L2
open SeqAt
abbrev dictObj (dd : Option Addr) (es : Array DictEntry) (n : Nat) (sl : Array (Option Value)) : Obj := { cls := .type "dict", dict := dd, data := .dict es n, slots := sl }
theorem dict_no_str (l : Addr) (dd : Option Addr) (es : Array DictEntry) (n : Nat) (sl : Array (Option Value)) (b : Str) (u : Tok) : Meets (Builtin.«dict.__eq__» ⟨[.ref l, .str b u], []⟩) (fun _ R s => s.heap.get? l = some (dictObj dd es n sl) ∧ R (.ok (.ret .notImplemented)) s) :=
  .of_wp fun _ _ _ _ s0 h => by
    obtain ⟨heap0, gens0, drawn0, toks0, os0⟩ := s0
    obtain ⟨hl, h⟩ := h
    have f1 := F.sub_str_dict
    unfold Builtin.«dict.__eq__»
    wp_walk using wpAny_load hl
    exact ⟨_, rfl, h⟩
theorem str_no_dict (b : Str) (u : Tok) (l : Addr) (dd : Option Addr) (es : Array DictEntry) (n : Nat) (sl : Array (Option Value)) : Meets (Builtin.«str.__eq__» ⟨[.str b u, .ref l], []⟩) (fun _ R s => s.heap.get? l = some (dictObj dd es n sl) ∧ R (.ok (.ret .notImplemented)) s) :=
  .of_wp fun _ _ _ _ s0 h => by
    obtain ⟨heap0, gens0, drawn0, toks0, os0⟩ := s0
    obtain ⟨hl, h⟩ := h
    wp_walk using wpAny_load hl
    exact ⟨_, rfl, h⟩
section
variable {A : Around} {s : Shared}
theorem eq_dict_str {l : Addr} {dd : Option Addr} {es : Array DictEntry} {n : Nat} {sl : Array (Option Value)} (b : Str) (u : Tok) (ho : s.heap.get? l = some (dictObj dd es n sl)) (hu : A.units < cLine) : SeqAt.EqAt A s (.ref l) (.str b u) false := fun prog w E Q h => by
  unfold eqBool
  refine wpAny_holding ?_
  refine wpAny_ite_split (fun hab => absurd (eq_of_beq hab) nofun) fun _ => wpAny_bind ?_
  exact rc_eq_decline_or (k := false) ⟨_, ho, rfl⟩ (typeIs_str s b u) (by decide) F.sub_str_dict F.slot_dict_eq F.slot_str_eq_refl
    (fun _ hq => call_meets F.slot_dict_eq ⟨_, ho, rfl⟩ F.entry_dict_eq (F.args_dict_eq_2 _ _) (dict_no_str l dd es n sl b u) ⟨ho, hq⟩)
    (fun _ hq => call_meets F.slot_str_eq_refl (typeIs_str s b u) F.entry_str_eq (F.args_str_eq_2 _ _) (str_no_dict b u l dd es n sl) ⟨ho, hq⟩)
    (fun _ hq => wpAny_of_eq (rfl : isSame (.ref l) (.str b u) = pure false) hq) (.inr hu) (wpAny_truthy_bool h)
end
/-- a value of a type of the language -/
def Item (H : Hp) (x : V) : Prop := ∃ d T, TyV H x d T
theorem Item.same {H H' : Hp} {x : V} (h : Item H x) (s : Same H H') : Item H' x := h.imp fun _ ⟨T, t⟩ => ⟨T, t.same s⟩
/-- == of a text -/
def isT (z : Str) : V → Bool
  | .str y => y == z
  | _ => false
def isU (z : Str) : Value → Bool
  | .str y _ => y == z
  | _ => false
section
variable {X : Cx} {pins : List (Addr × Obj)} {σ : St} {H : Hp} {s : Shared}
theorem item_eq (I : Inv X pins σ H s) {x : V} {u : Value} (it : Item H x) (r : RelV x u) (z : Str) (tk : Tok) (hu : X.A.in1.units < cLine) : SeqAt.EqAt X.A.in1 s u (.str z tk) (isT z x) ∧ isU z u = isT z x := by
  obtain ⟨d, T, ty⟩ := it
  cases ty with
  | non => cases r; exact ⟨SeqAt.EqAt.none_str z tk, rfl⟩
  | bl b => cases r; exact ⟨SeqAt.EqAt.bool_str b z tk, rfl⟩
  | int i => obtain ⟨t, rfl⟩ := r; exact ⟨SeqAt.EqAt.int_str i t z tk, rfl⟩
  | str y => obtain ⟨t, rfl⟩ := r; exact ⟨SeqAt.EqAt.str_str y t z tk, rfl⟩
  | lst e =>
    cases r
    obtain ⟨_, its, n, _, ho⟩ := I.hok _ _ e
    exact ⟨SeqAt.EqAt.list_str z tk ⟨_, ho, rfl, n, rfl⟩ hu, rfl⟩
  | tup e =>
    cases r
    obtain ⟨_, its, _, o, ho, hc, n, hd⟩ := I.hok _ _ e
    exact ⟨SeqAt.EqAt.tuple_str z tk ⟨o, ho, hc, n, hd⟩ hu, rfl⟩
  | dct e =>
    cases r
    obtain ⟨_, _, vs, _, da⟩ := I.hok _ _ e
    have ti : s.TypeIs (.ref _) "dict" := da.typeIs
    obtain ⟨⟨cls, dd, data, sl⟩, es, n, ho, _, hd, _⟩ := id da
    obtain ⟨o', ho', hc'⟩ := ti
    rw [ho] at ho'
    cases ho'
    simp only at hc' hd
    subst hc' hd
    exact ⟨eq_dict_str z tk ho hu, rfl⟩
/-- a text in a tuple of items of any kind -/
def rInT (K : PySem.W.Frag) (neg : Bool) : R2 := fun x y H Q => ∃ (z : Str) (p : Addr) (xs : List V), x = .str z ∧ y = .ref p ∧ SqT K H p xs ∧ (∀ v ∈ xs, Item H v) ∧ Q (.bl (if neg then !xs.any (isT z) else xs.any (isT z))) H
theorem any_items (I : Inv X pins σ H s) (z : Str) (tk : Tok) (hu : X.A.in1.units < cLine) : ∀ {xs : List V} {us : List Value}, Vals xs us → (∀ v ∈ xs, Item H v) → (∀ u ∈ us, SeqAt.EqAt X.A.in1 s u (.str z tk) (isU z u)) ∧ us.any (isU z) = xs.any (isT z)
  | _, _, .nil, _ => ⟨(fun u h => by cases h), rfl⟩
  | _, _, .cons r t, h => by
    obtain ⟨a1, a2⟩ := item_eq I (h _ List.mem_cons_self) r z tk hu
    obtain ⟨b1, b2⟩ := any_items I z tk hu t fun v hv => h v (List.mem_cons_of_mem _ hv)
    refine ⟨fun u hu => ?_, by rw [List.any_cons, List.any_cons, a2, b2]⟩
    rcases List.mem_cons.mp hu with rfl | hu
    · rw [a2]; exact a1
    · exact b1 u hu
theorem op_notInT (hu : X.A.in1.units < cLine) : OpR X (compareOp .NotIn) (rInT X.K true) := by
  intro pins s σ H x y v u Q I rx ry h
  obtain ⟨z, p, xs, rfl, rfl, hq, it, q⟩ := h
  cases ry
  obtain ⟨tk, rfl⟩ := rx
  obtain ⟨its, r, pl, hz⟩ := I.tuple hq
  obtain ⟨m1, m2⟩ := any_items I z tk hu r it
  refine SeqAt.notIn_tupleAt (isU z) pl (fun w hw => m1 w (by simpa using hw)) ⟨.bl _, H, I, rfl, ?_⟩
  rw [show its.toArray.any (isU z) = its.any (isU z) by simp, m2]
  exact q
end
end L2.Cal
end

section
set_option maxRecDepth 100000
set_option maxHeartbeats 4000000
/-! how often a text stands in a tuple of texts -/
namespace L2.Cal
open PySem PySem.Spec PyProof.Rows L2
theorem cnt_isT (z : Str) : ∀ zs : List Str, (zs.map V.str).countP (isT z) = zs.count z
  | [] => rfl
  | y :: zs => by
    rw [List.map_cons, List.countP_cons, List.count_cons, cnt_isT z zs]
    rfl
theorem cnt_vals {z : Str} : ∀ {zs : List Str} {us : List Value}, Vals (zs.map V.str) us → us.countP (isU z) = (zs.map V.str).countP (isT z)
  | [], _, .nil => rfl
  | y :: zs, _, .cons r t => by
    obtain ⟨tk, rfl⟩ := r
    rw [List.map_cons, List.countP_cons, List.countP_cons, cnt_vals t]
    rfl
section
variable {X : Cx}
def rCntT (K : PySem.W.Frag) : V → List V → Hp → VK → Prop := fun x xs H Q => ∃ (p : Addr) (zs : List Str) (z : Str), x = .ref p ∧ xs = [.str z] ∧ SqT K H p (zs.map V.str) ∧ Q (.int ((zs.count z : Nat) : Int)) H
theorem mt_tcount (hu : X.A.in1.units < cLine) : MtR X "tuple.count" (rCntT X.K) := by
  intro pins s σ H x xs v us Q I rx rxs h
  obtain ⟨p, zs, z, rfl, rfl, hs, q⟩ := h
  cases rx
  obtain ⟨u, rfl, ru⟩ := rxs.one
  obtain ⟨tk, rfl⟩ := ru
  obtain ⟨its, rv, ⟨⟨cls, dd, dat, sl⟩, ho, hc, n, hd⟩, few⟩ := I.tuple hs
  simp only at hc hd
  subst hc hd
  have it : ∀ v ∈ zs.map V.str, Item H v := fun v hv => by
    obtain ⟨y, _, rfl⟩ := List.mem_map.mp hv
    exact ⟨_, _, .str y⟩
  obtain ⟨m1, _⟩ := any_items I z tk hu rv it
  refine call_meets PySem.F.slot_tuple_count ⟨_, ho, rfl⟩ PySem.F.entry_tuple_count (PySem.F.args_tuple_count_2 _ _) (SeqAt.tuple_countAt p its.toArray n dd sl (.str z tk) (isU z)) ⟨ho, fun y hy => m1 y (by simpa using hy), ?_⟩
  refine ⟨.int ((zs.count z : Nat) : Int), H, I.tok _, ⟨s.toks, ?_⟩, q⟩
  show Value.int ((its.toArray.toList.countP (isU z) : Nat) : Int) s.toks = Value.int ((zs.count z : Nat) : Int) s.toks
  rw [show its.toArray.toList.countP (isU z) = its.countP (isU z) by simp, cnt_vals rv, cnt_isT]
end
end L2.Cal
end

section
set_option maxRecDepth 100000
set_option maxHeartbeats 4000000
set_option synthInstance.maxHeartbeats 400000
/-! of_three -/
namespace L2.Cal
open PySem PySem.Spec PyProof.Rows L2 CpComb LamX LamK L2.TupF
abbrev sRio : Stmt := topS 40
theorem scRio : FnScope ["roll", "orders", "index", "order"] ["roll", "orders"] (defScope sRio) := ⟨rfl, rfl, rfl, by decide +kernel, rfl, by decide +kernel, by decide +kernel⟩
abbrev sOf3 : Stmt := topS 44
theorem scOf3 : FnScope ["roll", "orders", "right", "order"] ["roll", "orders"] (defScope sOf3) := ⟨rfl, rfl, rfl, by decide +kernel, rfl, by decide +kernel, by decide +kernel⟩
def spRio (K : PySem.W.Frag) (C : Addr) : Sp := fun vs H Q _ => ∃ (a t n : Addr) (ys l : List Str) (z : Str), vs = [.ref a, .ref n] ∧ RollAt C H a t z ∧ SqT K H t (ys.map V.str) ∧ SqT K H n (l.map V.str) ∧ (∀ x ∈ l, x ∈ ys) ∧ l.length ≤ 3 ∧ ∀ H', Same H H' → Q (.int l.length) H'
/-- what the most of three say -/
def spOf3 (TT : List (Addr × Str)) (K : PySem.W.Frag) (C : Addr) : Sp := fun vs H Q _ => ∃ (r t n : Addr) (ys : List Str) (y a b c : Str), vs = [.ref r, .ref n] ∧ RollAt C H r t (tidy y) ∧ H t = some (.tup (ys.map V.str)) ∧ Good ys y ∧ Frt H n ([a, b, c].map V.str) ∧ (∀ x ∈ [a, b, c], x ∈ ys) ∧ Tabs TT H ∧
  ∀ H', ExtN H H' → Tabs TT H' → Q (OdrV (tidy y) ys (cntS ys [a, b, c])) H'
section
variable {P : Program} {w : World} {K : PySem.W.Frag} {mg : Str → Option Value} {base : Heap} {C Cr : Addr}
theorem ok_rio {f fC : Addr} {fd fdC : FuncData} (D : DefAt K mg "right_orders" sRio ["roll", "orders"] f fd) (OC : Own K C "__contains__" fC) (FC : Fun K "__contains__" "Roll.__contains__" sCon fC fdC) (bC : Binds K fdC ["self", "x"] []) (T : Txt mg) (R : RollC K mg C) : FnOk P w K mg base CX0 2 f fd ["roll", "orders"] (spRio K C) := by
  have GC : FnOk P w K mg base CX0 1 fC fdC ["self", "x"] (spCon K C) := ok_con FC T R
  refine D.F.ok scRio (fun vs H Q E h => ?_) (fun cdv A outer sh H vs Q E hr h => ?_)
  · obtain ⟨a, t, n, ys, l, z, rfl, _⟩ := h
    rfl
  · obtain ⟨a, t, n, ys, l, z, rfl, ra, ht, hn, inn, few, q⟩ := h
    refine ⟨_, (pss_cons (ps_for PassesOwn.never rfl (pi_enumT (by rfl) T.b_enumerate (pa_cons (pv 1) pa_nil)) (pg_tup rfl (pgs_cons (pg_name (i := 2) scRio.nd rfl (.inl rfl)) (pgs_cons (pg_name (i := 3) scRio.nd rfl (.inl rfl)) pgs_nil)))
        (pss_one (ps_if (PW.pt (pw_or (pt_cmpR op_eq (pv 2) pe_int (nomark _)) (pw_or1 (pt_cmpR (op_notInO OC GC (hr.mono (by decide)) bC pass0) (pv 3) (pv 0) (by rfl))))) (pss_one (ps_ret (pv 2))) pss_nil)))
      (pss_one (ps_ret (pe_callB call_len_seq (by rfl) T.b_len (by decide +kernel) (pa_cons (pv 1) pa_nil))))), ?_⟩
    obtain ⟨dx, fs, hx1, l1, l2⟩ := id ra
    refine ⟨_, rfl, n, _, rfl, hn, for_it (walk_enumT (xs := l.map V.str)) (fun i σ H' => ∃ v2 v3, σ = [some (.ref a), some (.ref n), v2, v3] ∧ Same H H') ⟨none, none, rfl, fun _ _ z => z⟩ (fun i σ H' _ hP => ?_) (fun i x σ H1 H2 hi hP hY => ?_) (fun σ H' hP => ?_)⟩
    · obtain ⟨_, _, _, sm⟩ := hP
      exact same_seqT hn sm
    · obtain ⟨v1, v2, rfl, sm⟩ := hP
      obtain ⟨T', a', b', rfl, nT, rfl, e1, e2⟩ := hY
      cases e1
      rw [List.length_map] at hi
      have e2 : (l.map V.str)[i]? = some b' := e2
      rw [List.getElem?_map, List.getElem?_eq_getElem hi] at e2
      cases e2
      have oin := inn _ (List.getElem_mem hi)
      have sm1 : Same H (upd H1 T' (.tup [.int (i : Nat), .str l[i]])) := sm.trans (same_new nT)
      refine ⟨T', _, rfl, SqT.of upd_same, rfl, _, _, rfl, _, _, rfl, rfl, ?_⟩
      generalize upd H1 T' (.tup [.int (i : Nat), .str l[i]]) = H3 at sm1 ⊢
      refine ⟨_, rfl, rfl, _, rfl, ite2 (fun e => absurd (V.int.inj (of_decide_eq_true e)) (by omega)) (fun e => ?_)⟩
      refine ⟨_, rfl, _, rfl, a, dx, fs.1, rfl, sm1 _ _ hx1, a, t, _, ys, .str l[i], .type "str", true, rfl, ra.same sm1, same_seqT ht sm1, .base (.str l[i]), by simp [PySem.W.kitOne], fun _ => ⟨l[i], rfl⟩, _, rfl, ?_⟩
      rw [Bool.true_and]
      show ∃ k, V.bl (!(decide (l[i] ∈ ys))) = V.bl k ∧ _
      rw [decide_eq_true oin]
      exact ⟨false, rfl, iteF ⟨_, _, rfl, sm1⟩⟩
    · obtain ⟨v1, v2, rfl, sm⟩ := hP
      exact ⟨_, rfl, n, _, rfl, .inr (same_seqT hn sm), by rw [List.length_map]; exact q _ sm⟩
theorem ok_of3 {f fK fRi fC fCI fM fN fL fOd fBn fB fA fChT pT fT pO fO cO PO1 : Addr} {fd fdK fdRi fdC fdCI fdM fdN fdL fdOd fdBn fdB fdA fdChT fdT fdO : FuncData} {TT : List (Addr × Str)} (D : DefAt K mg "of_three" sOf3 ["roll", "orders"] f fd) (DK : DefAt K mg "check_roll" sCkr ["roll"] fK fdK) (DRi : DefAt K mg "right_orders" sRio ["roll", "orders"] fRi fdRi)
    (OC : Own K C "__contains__" fC) (FC : Fun K "__contains__" "Roll.__contains__" sCon fC fdC) (bC : Binds K fdC ["self", "x"] [])
    (FCI : Fun K "__init__" "Crowd.__init__" sCIn fCI fdCI) (bCI : Binds K fdCI ["self", "roll", "numbers"] []) (MKc : Mk K Cr fCI) (DM : DefAt K mg "right_numbers" sRnu ["numbers", "many"] fM fdM) (DN : DefAt K mg "is_number" sNum ["value"] fN fdN) (FL : Fun K "__len__" "Roll.__len__" sLen fL fdL) (bL : Binds K fdL ["self"] []) (OL : Own K C "__len__" fL)
    (FOd : Fun K "order" "Crowd.order" sOdr fOd fdOd) (mOd : Meth K Cr "order" fOd) (bOd : Binds K fdOd ["self"] []) (hcO : fdOd.code = .ref cO) (TBO : TabB base mg cO PO1) (hmO : (PO1, ordQ) ∈ TT) (huO : ∀ z ∈ TT, z.1 = PO1 → z.2 = ordQ)
    (FBn : Fun K "_beaten" "Crowd._beaten" sBtn fBn fdBn) (mBn : Meth K Cr "_beaten" fBn) (bBn : Binds K fdBn ["self"] []) (FBt : Fun K "beats" "Crowd.beats" sBts fB fdB) (mBt : Meth K Cr "beats" fB) (bBt : Binds K fdB ["self", "thing", "other"] []) (FAb : Fun K "_above" "Crowd._above" sAb_ fA fdA) (mAb : Meth K Cr "_above" fA) (bAb : Binds K fdA ["self", "thing", "other"] []) (DChT : DefAt K mg "check_thing" sChT ["things", "thing"] fChT fdChT)
    (PT : PropOf K C "things" pT fT) (FT : Fun K "things" "Roll.things" sThi fT fdT) (bT : Binds K fdT ["self"] []) (PO : PropOf K C "orders" pO fO) (FO : Fun K "orders" "Roll.orders" sOrd fO fdO) (bO : Binds K fdO ["self"] []) (bsum : mg "sum" = none) (bzip : mg "zip" = none) (T : Txt mg) (R : RollC K mg C) (RC : CrC K mg Cr) :
    FnOk P w K mg base CX0 7 f fd ["roll", "orders"] (spOf3 TT K C) := by
  have GK : FnOk P w K mg base CX0 1 fK fdK ["roll"] (spCkr C) := ok_ckr DK T R
  have GRi : FnOk P w K mg base CX0 2 fRi fdRi ["roll", "orders"] (spRio K C) := ok_rio DRi OC FC bC T R
  have GCI : FnOk P w K mg base CX0 3 fCI fdCI ["self", "roll", "numbers"] (spCIn K C Cr) := ok_cin FCI DK DM DN FL bL OL bsum T R RC
  have GOd : FnOk P w K mg base CX0 6 fOd fdOd ["self"] (spOdr TT C Cr) := ok_odr FOd hcO TBO hmO huO FBn mBn bBn FBt mBt bBt FAb mAb bAb DChT PT FT bT PO FO bO bsum bzip T R RC
  have GOr : FnOk P w K mg base CX0 1 fO fdO ["self"] (spOrd C) := ok_ord FO R
  refine D.F.ok scOf3 (fun vs H Q E h => ?_) (fun cdv A outer sh H vs Q E hr h => ?_)
  · obtain ⟨r, t, n, ys, y, o1, o2, o3, rfl, _⟩ := h
    rfl
  · obtain ⟨r, t, n, ys, y, o1, o2, o3, rfl, ra, ht, G, hn, inn, tb, q⟩ := h
    have hu := hr.units
    have hu1 : (A.deeper (envOfC (Str.ofString "of_three") (defScope sOf3) sh.heap.objs.size f cdv)).units + 1 < cLine := by omega
    refine ⟨_, (pss_cons (ps_expr (pe_call GK (hr.mono (by decide)) (by rfl) DK.g DK.F.kp DK.b .nil pass0 (pa_cons (pv 0) pa_nil)))
      (pss_cons (ps_if (pt_not (pt_val (pe_callB call_isi (by rfl) T.b_isinstance (by decide +kernel) (pa_cons (pv 1) (pa_cons (pe_bty (n := "tuple") (by rfl) T.b_tuple (by decide +kernel)) pa_nil))))) (pss_one ps_never) pss_nil)
      (pss_cons (ps_set (i := 2) scOf3.nd rfl (.inl rfl) (pe_call GRi (hr.mono (by decide)) (by rfl) DRi.g DRi.F.kp DRi.b .nil pass0 (pa_cons (pv 0) (pa_cons (pv 1) pa_nil))))
      (pss_cons (ps_if (PW.pt (pw_or (pt_cmpR op_lt (pv 2) (pe_callB call_len_seq (by rfl) T.b_len (by decide +kernel) (pa_cons (pv 1) pa_nil)) (nomark _)) (pw_or1 (pt_cmpR op_lt (pv 2) pe_int (nomark _))))) (pss_one ps_never) pss_nil)
      (pss_one (ps_ret (pe_meth0 (pe_make MKc GCI (hr.mono (by decide)) (by rfl) RC.g bCI .nil pass0 (pa_cons (pv 0) (pa_cons (pe_callTy call_tuple_of (by rfl) T.b_tuple (by decide +kernel) (pa_cons (pe_lc (own := [("order", 3)]) (g := gName 3) (tt := tYes) rfl scOf3.nd (pi_tup (pe_prop (pv 0) R.cls PO GOr (hr.mono (by decide)) bO .nil pass0 rfl)) (blkOk_by (own := [("order", 3)]) (N := ["roll", "orders", "right", "order"]) (sc := defScope sOf3) (by decide +kernel))
          (fun _ _ _ _ _ => pg_name (i := 3) scOf3.nd rfl (Or.inl rfl)) (fun _ _ _ _ _ => pts_nil) (fun _ _ _ _ _ => pe_bmF PySem.F.slot_tuple_count PySem.F.type_tuple_count (show MtR _ _ (rCntT K) from mt_tcount hu1) (pv 1) (pa_cons (pv 3) pa_nil))) pa_nil)) pa_nil))) RC.cls mOd GOd (hr.mono (by decide)) bOd .nil pass0))))))), ?_⟩
    obtain ⟨dx, fs, hx1, l1, l2⟩ := id ra
    have ht' : SqT K H t (ys.map V.str) := SqT.of ht
    refine ⟨_, rfl, r, t, _, rfl, ra, ?_⟩
    refine ⟨_, rfl, .ref n, .ty "tuple", .type "tuple", .type "tuple", true, rfl, .ty _, hn.ty, rfl, true, rfl, iteF ?_⟩
    refine ⟨_, rfl, _, rfl, r, t, n, ys, [o1, o2, o3], _, rfl, ra, ht', hn.sq, inn, Nat.le_refl 3, fun H1 s1 => ?_⟩
    have hn1 := hn.same s1
    refine ⟨_, rfl, _, rfl, n, _, rfl, .inr hn1.sq, _, _, rfl, rfl, _, rfl, ite2 (fun e => absurd (of_decide_eq_true e) (show ¬ ((3 : Int) < 3) by decide)) (fun e => ?_)⟩
    refine ⟨_, rfl, _, _, rfl, rfl, _, rfl, ite2 (fun e => absurd (of_decide_eq_true e) (show ¬ ((3 : Int) < 3) by decide)) (fun e => ?_)⟩
    have ra1 := ra.same s1
    have ht1 := s1 _ _ ht
    have len8 : ys.length ≤ 48 := G.few
    refine ⟨_, rfl, _, rfl, r, dx, fs.1, rfl, s1 _ _ hx1, r, t, _, rfl, ra1, t, rfl, ⟨_, SqT.of ht1⟩, fun D nD => lc_tup (K := K) (a := t) (xs := ys.map V.str) (fun k H' => Same H1 H' ∧ H' D = some (.lst ((ys.take k).map fun z => V.int (([o1, o2, o3].count z : Nat) : Int)))) ⟨same_new nD, upd_same⟩ (fun k H' _ hP => SqT.of (hP.1 _ _ ht1)) (fun k v H3 hv hP => ?_) (fun H3 hP => ?_)⟩
    · obtain ⟨s3, e3⟩ := hP
      rw [List.getElem?_map] at hv
      obtain ⟨o, ho, rfl⟩ := Option.map_eq_some_iff.mp hv
      have kl := (List.getElem?_eq_some_iff.mp ho).1
      have tk : ys.take (k + 1) = ys.take k ++ [o] := by rw [List.take_succ, ho, Option.toList_some]
      have hn3 := hn1.same s3
      exact ⟨rfl, _, rfl, ⟨n, _, rfl, hn3⟩, _, rfl, n, [o1, o2, o3], o, rfl, rfl, hn3.sq, _, e3, by rw [List.length_map, List.length_take, sizeLine_eq]; omega, fun c o' h => by rw [upd_ne (ne_of_none h nD)]; exact s3 _ _ h, by rw [upd_same, tk, List.map_append] <;> rfl⟩
    · obtain ⟨s3, e3⟩ := hP
      rw [List.length_map, List.take_length] at e3
      refine ⟨D, _, rfl, .inl ⟨SqL.of e3, fun p np => ?_⟩⟩
      have em : (ys.map fun z => V.int (([o1, o2, o3].count z : Nat) : Int)) = (cntS ys [o1, o2, o3]).map V.int := by
        unfold cntS
        rw [List.map_map] <;> rfl
      rw [em]
      have s4 : Same H1 (upd H3 p (.tup ((cntS ys [o1, o2, o3]).map V.int))) := s3.trans (same_new np)
      have e4 : (upd H3 p (.tup ((cntS ys [o1, o2, o3]).map V.int))) p = some (.tup ((cntS ys [o1, o2, o3]).map V.int)) := upd_same
      generalize upd H3 p (.tup ((cntS ys [o1, o2, o3]).map V.int)) = H4 at s4 e4 ⊢
      have ra4 := ra1.same s4
      have ht4 := s4 _ _ ht1
      have nl : (cntS ys [o1, o2, o3]).length = ys.length := List.length_map ..
      have nsum := cnt_all G.lot.one inn
      have npos : ∀ i, i ∈ cntS ys [o1, o2, o3] → 0 ≤ i := fun i hi => by
        obtain ⟨z, _, rfl⟩ := List.mem_map.mp hi
        omega
      have n0 : 0 < (cntS ys [o1, o2, o3]).sum := by
        rw [nsum]
        exact (show (0 : Int) < 3 by decide)
      refine fun c1 d2 nc1 nd2 _ => mk_crowd ra4 ht4 e4 nl (by omega) npos n0 nc1 nd2 fun H5 s5 b1 nf1 => ⟨rfl, ?_⟩
      obtain ⟨dx', fs', ec5, no⟩ := id nf1
      have cz : CrdZ C Cr H5 c1 (tidy y) ys (cntS ys [o1, o2, o3]) := by
        obtain ⟨dx'', fs'', ec', l1', l2', l3'⟩ := id b1
        rw [ec5] at ec'
        cases ec'
        exact ⟨⟨r, p, t, _, b1, ra4.same s5, s5 _ _ ht4, s5 _ _ e4, G.strOk⟩, dx', fs', r, t, ec5, l1', no, ra4.same s5⟩
      have inz : ∀ {y' : Str} {a}, y' ∈ ys → a ∈ (tidy y).cps.toList → a ∈ y'.cps.toList := fun hy ha => (G.lot.of _ hy).mem_iff.mpr ((tidy_perm y).mem_iff.mp ha)
      have zn : (tidy y).cps.toList.Nodup := (tidy_perm y).nodup_iff.mpr G.let_.1
      have z6 : (tidy y).cps.size ≤ 6 := by rw [perm_size (tidy_perm y)]; exact G.h6
      have ask : AskAll (tidy y) ys (cntS ys [o1, o2, o3]) := ⟨fun a b ha hb => ⟨ha, hb, nl, len8, fun y' hy => ⟨index0_in (inz hy ha), index0_in (inz hy hb)⟩⟩, zn, z6⟩
      have X5 : ExtN H H5 := (ExtN.of s1).trans ((ExtN.of s4).trans (ExtN.of s5))
      have k := q
      exact ⟨c1, dx', fs', rfl, ec5, no _ (by decide) (by decide) (by decide), c1, _, ys, _, rfl, cz, ask, ((tb.ext s1).ext s4).ext s5, fun H6 x6 t6 => k H6 (X5.trans x6) t6⟩
end
end L2.Cal
end

section
set_option maxRecDepth 100000
set_option maxHeartbeats 4000000
set_option synthInstance.maxHeartbeats 400000
/-! hull of a roll that is calm -/
namespace L2.Cal
open PySem PySem.Spec PyProof.Rows L2 CpComb LamX LamK L2.TupF
theorem Good.rollY {K : PySem.W.Frag} {C : Addr} {H : Hp} {r t : Addr} {y : Str} {ys : List Str} (G : Good ys y) (ra : RollAt C H r t (tidy y)) (ht : SqT K H t (ys.map V.str)) : RollY K C H r t y ys :=
  ⟨ra, ht, by rw [perm_size (tidy_perm y)]; exact G.h6, fun z hz => by rw [perm_size (G.lot.of z hz)]; exact G.h6, by have := G.few; omega⟩
abbrev sHul : Stmt := topS 49
theorem scHul : FnScope ["roll", "whole", "three"] ["roll"] (defScope sHul) := ⟨rfl, rfl, rfl, by decide +kernel, rfl, by decide +kernel, by decide +kernel⟩
def spHul (TT : List (Addr × Str)) (K : PySem.W.Frag) (C : Addr) : Sp := fun vs H Q _ => ∃ (r t : Addr) (ys : List Str) (y : Str), vs = [.ref r] ∧ RollAt C H r t (tidy y) ∧ H t = some (.tup (ys.map V.str)) ∧ Good ys y ∧ (y.cps.size ≤ 5 ∨ allB ys y false = true) ∧ calmB ys y = true ∧ Tabs TT H ∧
  ∀ (x t' : Addr) (zs : List Str) (H' : Hp), ExtN H H' → Tabs TT H' → RollAt C H' x t' (tidy y) → H' t' = some (.tup (zs.map V.str)) → Good zs y → NoW zs y.cps.toList → allB zs y false = true → (∀ o ∈ ys, o ∈ zs) → (∀ ws : List Str, (∀ o ∈ ws, o.cps.toList.Perm y.cps.toList) → Cls ws y → (∀ o ∈ ys, o ∈ ws) → ∀ o ∈ zs, o ∈ ws) → Q (.ref x) H'
/-- what is asked for in a turn -/
def HInv (TT : List (Addr × Str)) (C r : Addr) (y : Str) (ys : List Str) (H : Hp) (m : Nat) (σ : St) (H' : Hp) : Prop := ∃ (x t : Addr) (zs : List Str) (v : V), σ = [some (.ref r), some (.ref x), some v] ∧ m = 48 - zs.length ∧ RollAt C H' x t (tidy y) ∧ H' t = some (.tup (zs.map V.str)) ∧ Good zs y ∧ NoW zs y.cps.toList ∧ (∀ o ∈ ys, o ∈ zs) ∧ (∀ ws : List Str, (∀ o ∈ ws, o.cps.toList.Perm y.cps.toList) → Cls ws y → (∀ o ∈ ys, o ∈ ws) → ∀ o ∈ zs, o ∈ ws) ∧ ExtN H H' ∧ Tabs TT H' ∧
  ((v = .non ∧ allB zs y false = true) ∨ ∃ (n : Addr) (a b c : Str), v = .ref n ∧ Frt H' n ([a, b, c].map V.str) ∧ (∀ o ∈ [a, b, c], o ∈ zs) ∧ fitB zs y false [a, b, c] = false ∧ y.cps.size ≤ 5)
section
variable {P : Program} {w : World} {K : PySem.W.Frag} {mg : Str → Option Value} {base : Heap} {C : Addr}
theorem ok_hul {f fIc fOp fO3 fMo : Addr} {fd fdIc fdOp fdO3 fdMo : FuncData} {TT : List (Addr × Str)} (D : DefAt K mg "hull" sHul ["roll"] f fd)
    (DIc : DefAt K mg "is_calm" sIsC ["roll"] fIc fdIc) (GIc : FnOk P w K mg base CX0 4 fIc fdIc ["roll"] (spIsC K C))
    (DOp : DefAt K mg "open_three" sOpn ["roll"] fOp fdOp) (GOp : FnOk P w K mg base CX0 4 fOp fdOp ["roll"] (spOpn K C false))
    (DO3 : DefAt K mg "of_three" sOf3 ["roll", "orders"] fO3 fdO3) (GO3 : FnOk P w K mg base CX0 7 fO3 fdO3 ["roll", "orders"] (spOf3 TT K C))
    (mMo : Meth K C "more" fMo) (bMo : Binds K fdMo ["self", "order"] []) (GMo : FnOk P w K mg base CX0 5 fMo fdMo ["self", "order"] (spMor K C)) (T : Txt mg) (R : RollC K mg C) :
    FnOk P w K mg base CX0 8 f fd ["roll"] (spHul TT K C) := by
  refine D.F.ok scHul (fun vs H Q E h => ?_) (fun cdv A outer sh H vs Q E hr h => ?_)
  · obtain ⟨r, t, ys, y, rfl, _⟩ := h
    rfl
  · obtain ⟨r, t, ys, y, rfl, ra, ht, G, y5, calm, tb, q⟩ := h
    refine ⟨_, (pss_cons (ps_if (pt_not (pt_val (pe_call GIc (hr.mono (by decide)) (by rfl) DIc.g DIc.F.kp DIc.b .nil pass0 (pa_cons (pv 0) pa_nil)))) (pss_one ps_never) pss_nil)
      (pss_cons (ps_set (i := 1) scHul.nd rfl (.inl rfl) (pv 0))
      (pss_cons (ps_set (i := 2) scHul.nd rfl (.inl rfl) (pe_call GOp (hr.mono (by decide)) (by rfl) DOp.g DOp.F.kp DOp.b .nil pass0 (pa_cons (pv 1) pa_nil)))
      (pss_cons (ps_while PassesOwn.never (pt_cmp (pc_notN (pv 2)))
        (pss_cons (ps_set (i := 1) scHul.nd rfl (.inl rfl) (pe_meth (pv 1) R.cls mMo GMo (hr.mono (by decide)) bMo .nil pass0 (pa_cons (pe_call GO3 (hr.mono (by decide)) (by rfl) DO3.g DO3.F.kp DO3.b .nil pass0 (pa_cons (pv 1) (pa_cons (pv 2) pa_nil))) pa_nil)))
        (pss_one (ps_set (i := 2) scHul.nd rfl (.inl rfl) (pe_call GOp (hr.mono (by decide)) (by rfl) DOp.g DOp.F.kp DOp.b .nil pass0 (pa_cons (pv 1) pa_nil))))))
      (pss_one (ps_ret (pv 1))))))), ?_⟩
    have nw0 : NoW ys y.cps.toList := (calm_now G.loose).mp calm
    -- what open_three tells keeps what is asked for
    have key : ∀ {x t : Addr} {zs : List Str} {H1 : Hp} {Q : VK} {E : XK}, RollAt C H1 x t (tidy y) → H1 t = some (.tup (zs.map V.str)) → Good zs y → NoW zs y.cps.toList → (∀ o ∈ ys, o ∈ zs) → (∀ ws : List Str, (∀ o ∈ ws, o.cps.toList.Perm y.cps.toList) → Cls ws y → (∀ o ∈ ys, o ∈ ws) → ∀ o ∈ zs, o ∈ ws) → ExtN H H1 → Tabs TT H1 → (y.cps.size ≤ 5 ∨ allB zs y false = true) → (∀ v H2, HInv TT C r y ys H (48 - zs.length) [some (.ref r), some (.ref x), some v] H2 → Q v H2) → spOpn K C false [.ref x] H1 Q E := fun {x t zs H1 Q E} ra1 ht1 G1 nw1 sb mn ex1 tb1 hy q1 => by
      refine ⟨x, t, zs, y, rfl, ra1, SqT.of ht1, G1, fun hb H2 s2 => q1 _ _ ⟨x, t, zs, .non, rfl, rfl, ra1.same s2, s2 _ _ ht1, G1, nw1, sb, mn, ex1.trans (ExtN.of s2), tb1.ext s2, .inl ⟨rfl, hb⟩⟩, fun l hl hb _ n H2 s2 _ ft => ?_⟩
      obtain ⟨i, j, k, rfl, h1, h2, h3⟩ := trips_in hl
      refine q1 _ _ ⟨x, t, zs, .ref n, rfl, rfl, ra1.same s2, s2 _ _ ht1, G1, nw1, sb, mn, ex1.trans (ExtN.of s2), tb1.ext s2, .inr ⟨n, _, _, _, rfl, ft, fun o ho => ?_, hb, hy.resolve_right fun e => by rw [List.all_eq_true.mp e _ hl] at hb; cases hb⟩⟩
      have ho : o ∈ [zs.getD i ⟨#[]⟩, zs.getD j ⟨#[]⟩, zs.getD k ⟨#[]⟩] := ho
      simp only [List.mem_cons, List.not_mem_nil, or_false] at ho
      rcases ho with rfl | rfl | rfl
      · exact getD_in (by omega)
      · exact getD_in (by omega)
      · exact getD_in (by omega)
    refine ⟨_, rfl, r, t, y, ys, rfl, G.rollY ra (SqT.of ht), fun H1 s1 => ?_⟩
    show ∃ k, V.bl (calmB ys y) = V.bl k ∧ _
    rw [calm]
    refine ⟨_, rfl, iteF ⟨_, rfl, _, rfl, ?_⟩⟩
    dsimp only [tNil, List.append_nil]
    refine key (ra.same s1) (s1 _ _ ht) G nw0 (fun _ h => h) (fun _ _ _ h => h) (ExtN.of s1) (tb.ext s1) y5 fun v H2 inv => ?_
    refine ⟨HInv TT C r y ys H, ⟨_, inv⟩, fun m σ H3 h => ?_⟩
    obtain ⟨x, t3, zs, v, rfl, rfl, ra3, ht3, G3, nw3, sb3, mn3, ex3, tb3, cs⟩ := h
    rcases cs with ⟨rfl, hb⟩ | ⟨n, a, b, c, rfl, ft, inn, no, y5⟩
    · refine ⟨_, rfl, false, by simp, iteF ⟨_, rfl, ?_⟩⟩
      exact q x t3 zs H3 ex3 tb3 ra3 ht3 G3 nw3 hb sb3 mn3
    · refine ⟨_, rfl, true, by simp, iteT ⟨fun σ' H' => ∃ m', m' < 48 - zs.length ∧ HInv TT C r y ys H m' σ' H', fun σ' H' h => h, ?_⟩⟩
      obtain ⟨w1, ew, pw, nin, nwm, inm⟩ := hull_step G3 nw3 inn no
      have few := now_few G.let_ G.h3 y5 G3.lot.of G3.lot.one nw3
      obtain ⟨dx, fs, hx, l1, l2⟩ := id ra3
      refine ⟨_, rfl, x, dx, fs.1, rfl, hx, fs.2 _ (by decide) (by decide), _, rfl, _, rfl, x, t3, n, zs, y, a, b, c, rfl, ra3, ht3, G3, ft, inn, tb3, fun H4 x4 t4 => ?_⟩
      rw [ew]
      have ra4 : RollAt C H4 x t3 (tidy y) := by
        obtain ⟨dx, fs, hx, r'⟩ := id ra3
        exact ⟨dx, fs, x4 _ _ hx (fun _ z => by cases z), r'⟩
      have ht4 : H4 t3 = some (.tup (zs.map V.str)) := x4 _ _ ht3 (fun _ z => by cases z)
      refine ⟨x, t3, zs, y, w1, rfl, ra4, SqT.of ht4, G3, pw, nin, by omega, fun x5 t5 ws H5 s5 ra5 ht5 G5 pm => ?_⟩
      refine ⟨_, rfl, ?_⟩
      dsimp only [tNil, List.append_nil]
      refine key ra5 ht5 G5 (nwm ws pm) (fun o ho => pm.mem_iff.mpr (List.mem_append_left _ (sb3 o ho))) (fun vs kin cl inn o ho => by
          rcases List.mem_append.mp (pm.mem_iff.mp ho) with k | k
          · exact mn3 vs kin cl inn o k
          · rw [List.mem_singleton.mp k]
            exact inm vs kin cl (mn3 vs kin cl inn)) (ex3.trans (x4.trans (ExtN.of s5))) (t4.ext s5) (.inl y5) fun v H6 inv6 => ⟨_, ?_, inv6⟩
      have := pm.length_eq
      rw [List.length_append] at this
      show 48 - ws.length < 48 - zs.length
      have : ws.length = zs.length + 1 := this
      omega
end
end L2.Cal
end

section
set_option maxRecDepth 100000
set_option maxHeartbeats 4000000
/-! f(k = v, ..): a def called by names alone -/
namespace L2.KwF
open PySem PySem.Spec PyProof.Rows L2
structure KB0 (fd : FuncData) (ps ks : List Str) (g : List Value → List Value) (gV : List V → List V) : Prop where
  to : ∀ (s : Shared) (ws : List Value), ws.length = ks.length → BindsTo s fd ⟨[], ks.zip ws⟩ (ps.zip (g ws))
  rel : ∀ {zs : List V} {ws : List Value}, zs.length = ks.length → Vals zs ws → Vals (gV zs) (g ws)
def tKw0 (n : Nat) (sp : Sp) (gV : List V → List V) (E : XK) (tk : TA) : TE := fun σ H Q => tk σ H fun zs H2 => zs.length = n ∧ sp (gV zs) H2 Q E
section
variable {X : Cx} {CX : CXT} {k : Nat} {f : Addr} {fd : FuncData} {ps ks : List Str} {sp : Sp} {E : XK} {x : Str} {p pos : Pos} {kws : List Keyword} {tk : TA} {g : List Value → List Value} {gV : List V → List V}
theorem pe_callK0 (F : FnOk X.prog X.w X.K X.mg X.base CX k f fd ps sp) (hr : Room k X.A) (hg : Gl X x) (hm : X.mg x = some (.ref f)) (hk : PySem.W.keepIn X.K (.ref f) = true) (hb : KB0 fd ps ks g gV) (hx : Passes CX X E) (hkw : PK X kws tk)
    (hall : (backToKw pos (keywordEach kws X.env)).all (·.1.isSome) = true := by rfl) (hks : (backToKw pos (keywordEach kws X.env)).filterMap (·.1) = ks := by rfl) (hdb : (x == ("__debug__" : Str)) = false := by decide)
    (hpl : ((backTo pos (starEach [] X.env)).any (·.1) || (backToKw pos (keywordEach kws X.env)).any (·.1.isNone)) = false := by rfl) :
    PE X (.Call (.Name x p) [] kws pos) (tKw0 ks.length sp gV E tk) := by
  refine ⟨fun pins s σ H Q I h => wpAny_Call_Name_kw (ld_glob I hg hm ?_ hdb)⟩
  refine PySem.W.callWith_KW0 (h₀ := X.base) I.ok.mod.kin hk hall (thn (hkw.run pos pins s σ H _ I h) fun ws s2 ⟨zs, H2, I2, rz, hl, q⟩ => ⟨I2.kIn, ?_⟩) hpl
  rw [hks]
  refine wpAny_call (codeAny_mono (F.run X.A X.stack s2 H2 ⟨[], ks.zip ws⟩ (g ws) (gV zs) Q E hr I2.env0 (hb.to s2 ws (rz.length.symm.trans hl)) (hb.rel hl rz) q) fun r s' hq => ?_)
  cases r with
  | error e => exact hx pins σ H2 s2 e s' I2 hq
  | ok fl => cases fl <;> first | exact I2.after hq | exact False.elim hq
end
end L2.KwF
end

section
set_option maxRecDepth 100000
set_option maxHeartbeats 4000000
set_option synthInstance.maxHeartbeats 400000
namespace L2.Cal
open PySem PySem.Spec PyProof.Rows L2 CpComb LamX LamK L2.TupF
/-! ### what stays: all but the jar and the tables -/
def KpN (j : Addr) (H H' : Hp) : Prop := ∀ b o, b ≠ j → (∀ ps, o ≠ .tbl ps) → H b = some o → H' b = some o
theorem KpN.refl {j : Addr} {H : Hp} : KpN j H H := fun _ _ _ _ h => h
theorem KpN.trans {j : Addr} {H H1 H2 : Hp} (a : KpN j H H1) (b : KpN j H1 H2) : KpN j H H2 := fun c o n t h => b c o n t (a c o n t h)
theorem KpN.kp {j : Addr} {H H' : Hp} (h : Kp j H H') : KpN j H H' := fun b o n _ e => h b o n e
theorem KpN.ext {j : Addr} {H H' : Hp} (h : ExtN H H') : KpN j H H' := fun b o _ t e => h b o e t
theorem Jar.ext {j : Addr} {H H' : Hp} (J : Jar H j) (h : ExtN H H') : Jar H' j := by
  obtain ⟨d, s, c, e, r⟩ := J
  exact ⟨d, s, c, h _ _ e (fun ps z => by cases z), r⟩
theorem tabs_kp {T : List (Addr × Str)} {j : Addr} {H H' : Hp} (t : Tabs T H) (J : Jar H j) (h : Kp j H H') : Tabs T H' := by
  obtain ⟨_, _, _, ej, _⟩ := J
  intro p hp
  obtain ⟨ps, h1, h2, h3⟩ := t p hp
  refine ⟨ps, h _ _ (ne_of h1 ej (by intro z; cases z)) h1, h2, fun pos cv hc => ?_⟩
  obtain ⟨c, e1, e2⟩ := h3 pos cv hc
  exact ⟨c, e1, h _ _ (ne_of e2 ej (by unfold CodeO; intro z; cases z)) e2⟩
theorem tup_kpn {j b : Addr} {H H' : Hp} {xs : List V} (J : Jar H j) (k : KpN j H H') (h : H b = some (.tup xs)) : H' b = some (.tup xs) := k _ _ (off_jar J h (fun _ => nofun)) (fun _ => nofun) h
theorem roll_kpn {C j a t : Addr} {z : Str} {H H' : Hp} (J : Jar H j) (k : KpN j H H') (r : RollAt C H a t z) : RollAt C H' a t z := by
  obtain ⟨dx, fs, h, r⟩ := r
  exact ⟨dx, fs, k _ _ (off_jar J h (fun _ => nofun)) (fun _ => nofun) h, r⟩
abbrev rLenS (K : PySem.W.Frag) : List V → Hp → VK → Prop := fun xs H Q => ∃ p ys, xs = [.ref p] ∧ (SqL K H p ys ∨ SqT K H p ys) ∧ Q (.int ys.length) H
/-- a word of four letters, of three -/
def tW4 (i j k l : Nat) : TE := fun σ H Q => ∃ a b c d : Nat, σ[i]? = some (some (.str (chS a))) ∧ σ[j]? = some (some (.str (chS b))) ∧ σ[k]? = some (some (.str (chS c))) ∧ σ[l]? = some (some (.str (chS d))) ∧ Q (.str ⟨#[a, b, c, d]⟩) H
def tW3 (i j k : Nat) : TE := fun σ H Q => ∃ a b c : Nat, σ[i]? = some (some (.str (chS a))) ∧ σ[j]? = some (some (.str (chS b))) ∧ σ[k]? = some (some (.str (chS c))) ∧ Q (.str ⟨#[a, b, c]⟩) H
abbrev rAdS : V → V → Hp → VK → Prop := fun x y H Q => ∃ i j, x = .str i ∧ y = .str j ∧ i.length + j.length ≤ sizeLine ∧ Q (.str (i ++ j)) H
theorem add_one (a b : Nat) : chS a ++ chS b = ⟨#[a, b]⟩ := strE (app_cps _ _)
theorem add_two (a b c : Nat) : (⟨#[a, b]⟩ : Str) ++ chS c = ⟨#[a, b, c]⟩ := strE (app_cps _ _)
theorem add_three (a b c d : Nat) : (⟨#[a, b, c]⟩ : Str) ++ chS d = ⟨#[a, b, c, d]⟩ := strE (app_cps _ _)
theorem w3_imp {i j k : Nat} (σ : St) (H : Hp) (Q : VK) (h : tW3 i j k σ H Q) : tOp rAdS (tOp rAdS (tVar i) (tVar j)) (tVar k) σ H Q := by
  obtain ⟨a, b, c, e1, e2, e3, q⟩ := h
  refine ⟨_, e1, _, e2, _, _, rfl, rfl, (by show 1 + 1 ≤ sizeLine; decide), _, e3, _, _, rfl, rfl, ?_, ?_⟩
  · rw [add_one]
    show 2 + 1 ≤ sizeLine
    decide
  · rw [add_one, add_two]
    exact q
theorem w4_imp {i j k l : Nat} (σ : St) (H : Hp) (Q : VK) (h : tW4 i j k l σ H Q) : tOp rAdS (tOp rAdS (tOp rAdS (tVar i) (tVar j)) (tVar k)) (tVar l) σ H Q := by
  obtain ⟨a, b, c, d, e1, e2, e3, e4, q⟩ := h
  refine ⟨_, e1, _, e2, _, _, rfl, rfl, (by show 1 + 1 ≤ sizeLine; decide), _, e3, _, _, rfl, rfl, ?_, _, e4, _, _, rfl, rfl, ?_, ?_⟩
  · rw [add_one]
    show 2 + 1 ≤ sizeLine
    decide
  · rw [add_one, add_two]
    show 3 + 1 ≤ sizeLine
    decide
  · rw [add_one, add_two, add_three]
    exact q
theorem nd_leS : ∀ {p L : List Str}, p.Nodup → (∀ a, a ∈ p → a ∈ L) → p.length ≤ L.length
  | [], L, _, _ => Nat.zero_le _
  | a :: p, L, nd, h => by
    rw [List.nodup_cons] at nd
    have ha := h a List.mem_cons_self
    have := nd_leS (L := L.erase a) nd.2 fun b hb => by
      refine (List.mem_erase_of_ne ?_).mpr (h b (List.mem_cons_of_mem _ hb))
      intro e
      exact nd.1 (e ▸ hb)
    rw [List.length_erase_of_mem ha] at this
    have pos : 0 < L.length := List.length_pos_of_mem ha
    rw [List.length_cons]
    omega
abbrev sRgt : Stmt := topS 57
abbrev nRgt : List Str := ["_law_creek", "_law_size", "_law_line_here", "_law_peaked_here", "_law_lane", "_law_a", "_law_b", "_law_c", "_law_d", "_law_square", "_law_some", "_law_wide", "_law_turned"]
theorem scRgt : FnScope nRgt ["_law_creek"] (defScope sRgt) := ⟨rfl, rfl, rfl, by decide +kernel, rfl, by decide +kernel, by decide +kernel⟩
abbrev lamQ : Str := ordQ
theorem bools_two : ∀ a b : Bool, (PyData.list [.bool a, .bool b]).showable = true ∧ (PyData.list [.bool a, .bool b]).shown.length ≤ 100 ∧ (PyData.list [.bool a, .bool b]).depth ≤ 40 := by decide +kernel
def spRgt (Pt : Addr) : Sp := fun vs H Q _ => ∃ j : Addr, vs = [.ref j] ∧ Jar H j ∧ Tabs [(Pt, lamQ)] H ∧ ∀ H', KpN j H H' → Jar H' j → Tabs [(Pt, lamQ)] H' → Q (.bl true) H'
section
variable {P : Program} {w : World} {K : PySem.W.Frag} {mg : Str → Option Value} {base : Heap} {C Cr : Addr}
theorem ok_rgt {f c Pt fTg fSi fSh fWk fPk fR fIs fH fIo fK fAn fMa fTha fOp fUs fClo fIsp fHu fO3 fRi fIc fRo fTs fSt fWu fWa fNm fNu fChT fN fC fMr fE fCI fL fOd fBn fBt fAb fOr fTh pO pT : Addr} {fd fdTg fdSi fdSh fdWk fdPk fdR fdIs fdH fdIo fdK fdAn fdMa fdTha fdOp fdUs fdClo fdIsp fdHu fdO3 fdRi fdIc fdRo fdTs fdSt fdWu fdWa fdNm fdNu fdChT fdN fdC fdMr fdE fdCI fdL fdOd fdBn fdBt fdAb fdOr fdTh : FuncData}
    (D : DefAt K mg "_law_right" sRgt ["_law_creek"] f fd) (DTg : DefAt K mg "_law_tags" sTag ["_law_creek", "_law_size"] fTg fdTg) (DSi : DefAt K mg "_law_sip" sSip ["_law_creek", "_law_size"] fSi fdSi) (DSh : DefAt K mg "_law_shuffled" sShu ["_law_creek", "_law_bag"] fSh fdSh) (DWk : DefAt K mg "_law_walk" sWlk ["_law_creek", "_law_letters"] fWk fdWk)
    (DPk : DefAt K mg "_law_peaked" sPek ["_law_line_here"] fPk fdPk) (DR : DefAt K mg "right_ahead" sRah ["orders"] fR fdR) (DIs : DefAt K mg "is_order" sIsO ["value"] fIs fdIs) (DH : DefAt K mg "things_of" sThO ["order"] fH fdH) (DIo : DefAt K mg "is_order_of" sIoo ["things", "value"] fIo fdIo)
    (DK : DefAt K mg "check_roll" sCkr ["roll"] fK fdK) (DAn : DefAt K mg "answers" sAns ["order"] fAn fdAn) (DMa : DefAt K mg "most_answers" sMst ["three"] fMa fdMa) (DTha : DefAt K mg "three_against" sTha ["roll", "spoken"] fTha fdTha) (DOp : DefAt K mg "open_three" sOpn ["roll"] fOp fdOp)
    (DUs : DefAt K mg "unspoken_three" sUns ["roll"] fUs fdUs) (DClo : DefAt K mg "is_closed" sClo ["roll"] fClo fdClo) (DIsp : DefAt K mg "is_spoken" sIsp ["roll"] fIsp fdIsp) (DHu : DefAt K mg "hull" sHul ["roll"] fHu fdHu) (DO3 : DefAt K mg "of_three" sOf3 ["roll", "orders"] fO3 fdO3)
    (DRi : DefAt K mg "right_orders" sRio ["roll", "orders"] fRi fdRi) (DIc : DefAt K mg "is_calm" sIsC ["roll"] fIc fdIc) (DRo : DefAt K mg "rough" sRou ["roll"] fRo fdRo) (DTs : DefAt K mg "threes_of" sThs ["things"] fTs fdTs) (DSt : DefAt K mg "standing" sSta ["order", "three"] fSt fdSt)
    (DWu : DefAt K mg "wheels_upon" sWup ["three"] fWu fdWu) (DWa : DefAt K mg "wheel_among" sWam ["orders", "three"] fWa fdWa) (DNm : DefAt K mg "right_numbers" sRnu ["numbers", "many"] fNm fdNm) (DNu : DefAt K mg "is_number" sNum ["value"] fNu fdNu) (DChT : DefAt K mg "check_thing" sChT ["things", "thing"] fChT fdChT)
    (FN : Fun K "__init__" "Roll.__init__" sIni fN fdN) (bI : Binds K fdN ["self", "orders"] []) (MK : Mk K C fN)
    (FE : Fun K "__eq__" "Roll.__eq__" sEqu fE fdE) (bE : Binds K fdE ["self", "other"] []) (OE : Own K C "__eq__" fE) (hneR : PySem.W.findIn K (.ref C) "__ne__" = some (some (.builtin "object.__ne__"))) (hob : PySem.W.mroIn K C (.type "object") = some true) (kUs : KwF.KB0 fdUs ["roll"] ["roll"] id id)
    (OC : Own K C "__contains__" fC) (FC : Fun K "__contains__" "Roll.__contains__" sCon fC fdC) (bC : Binds K fdC ["self", "x"] []) (FMr : Fun K "more" "Roll.more" sMor fMr fdMr) (mMr : Meth K C "more" fMr) (bMr : Binds K fdMr ["self", "order"] [])
    (FCI : Fun K "__init__" "Crowd.__init__" sCIn fCI fdCI) (bCI : Binds K fdCI ["self", "roll", "numbers"] []) (MKc : Mk K Cr fCI) (FL : Fun K "__len__" "Roll.__len__" sLen fL fdL) (bL : Binds K fdL ["self"] []) (OL : Own K C "__len__" fL)
    (FOd : Fun K "order" "Crowd.order" sOdr fOd fdOd) (mOd : Meth K Cr "order" fOd) (bOd : Binds K fdOd ["self"] []) (hc : fdOd.code = .ref c) (TB : TabB base mg c Pt)
    (FBn : Fun K "_beaten" "Crowd._beaten" sBtn fBn fdBn) (mBn : Meth K Cr "_beaten" fBn) (bBn : Binds K fdBn ["self"] []) (FBt : Fun K "beats" "Crowd.beats" sBts fBt fdBt) (mBt : Meth K Cr "beats" fBt) (bBt : Binds K fdBt ["self", "thing", "other"] []) (FAb : Fun K "_above" "Crowd._above" sAb_ fAb fdAb) (mAb : Meth K Cr "_above" fAb) (bAb : Binds K fdAb ["self", "thing", "other"] [])
    (PT : PropOf K C "things" pT fTh) (FT : Fun K "things" "Roll.things" sThi fTh fdTh) (bT : Binds K fdTh ["self"] []) (PO : PropOf K C "orders" pO fOr) (FO : Fun K "orders" "Roll.orders" sOrd fOr fdOr) (bO : Binds K fdOr ["self"] [])
    (hcb : mg "combinations" = some (.type "itertools.combinations")) (bd : mg "divmod" = none) (bsum : mg "sum" = none) (bzip : mg "zip" = none) (T : Txt mg) (Lm : Lims mg) (R : RollC K mg C) (RC : CrC K mg Cr) : FnOkG P w K mg base CX0 9 f fd ["_law_creek"] (spRgt Pt) := by
  have GTg : FnOk P w K mg base CX0 2 fTg fdTg ["_law_creek", "_law_size"] spTag := ok_tag DTg DSi bd T
  have GSi : FnOk P w K mg base CX0 1 fSi fdSi ["_law_creek", "_law_size"] spSip := ok_sip DSi bd T
  have GN : FnOk P w K mg base CX0 3 fN fdN ["self", "orders"] (spIni K C) := ok_ini FN DR DIs DH T Lm R
  have GTha : FnOk P w K mg base CX0 3 fTha fdTha ["roll", "spoken"] (spTha K C) := ok_tha DTha DK DAn DH DMa PO FO bO hcb T R
  have GOp : FnOk P w K mg base CX0 4 fOp fdOp ["roll"] (spOpn K C false) := ok_opn DOp DTha GTha
  have GClo : FnOk P w K mg base CX0 5 fClo fdClo ["roll"] (spClo K C false) := ok_clo DClo DOp GOp
  have GOd : FnOk P w K mg base CX0 6 fOd fdOd ["self"] (spOdr [(Pt, lamQ)] C Cr) := ok_odr FOd hc TB List.mem_cons_self (fun z hz _ => by rw [List.mem_singleton.mp hz]) FBn mBn bBn FBt mBt bBt FAb mAb bAb DChT PT FT bT PO FO bO bsum bzip T R RC
  have GO3 : FnOk P w K mg base CX0 7 fO3 fdO3 ["roll", "orders"] (spOf3 [(Pt, lamQ)] K C) := ok_of3 DO3 DK DRi OC FC bC FCI bCI MKc DNm DNu FL bL OL FOd mOd bOd hc TB List.mem_cons_self (fun z hz _ => by rw [List.mem_singleton.mp hz]) FBn mBn bBn FBt mBt bBt FAb mAb bAb DChT PT FT bT PO FO bO bsum bzip T R RC
  have GIc : FnOk P w K mg base CX0 4 fIc fdIc ["roll"] (spIsC K C) := ok_isc DIc DRo DK DTs DSt DWu DWa T R PT FT bT PO FO bO
  have GMr : FnOk P w K mg base CX0 5 fMr fdMr ["self", "order"] (spMor K C) := ok_mor FMr DIo DIs DH FN bI MK DR T Lm R
  have GHu : FnOk P w K mg base CX0 8 fHu fdHu ["roll"] (spHul [(Pt, lamQ)] K C) := ok_hul DHu DIc GIc DOp GOp DO3 GO3 mMr bMr GMr T R
  have GOr : FnOk P w K mg base CX0 1 fOr fdOr ["self"] (spOrd C) := ok_ord FO R
  have GSh : FnOk P w K mg base CX0 2 fSh fdSh ["_law_creek", "_law_bag"] spShu := ok_shu DSh DSi bd T
  have GWk : FnOk P w K mg base CX0 3 fWk fdWk ["_law_creek", "_law_letters"] spWlk := ok_wlk DWk DSi DSh bd T
  have GPk : FnOk P w K mg base CX0 1 fPk fdPk ["_law_line_here"] spPek := ok_pek DPk T
  have GUs : FnOk P w K mg base CX0 4 fUs fdUs ["roll"] (spOpn K C true) := ok_uns DUs DTha GTha
  have GIsp : FnOk P w K mg base CX0 5 fIsp fdIsp ["roll"] (spClo K C true) := ok_isp DIsp DUs GUs
  have GE : FnOk P w K mg base CX0 1 fE fdE ["self", "other"] (spEqu K C) := ok_equ FE T R
  have GLe : FnOk P w K mg base CX0 1 fL fdL ["self"] (spLen K C) := ok_len FL T R
  have nfC : PySem.W.notFirst K C (.ref C) = true := by simp [PySem.W.notFirst]
  refine Fun.okG D.F scRgt (fun vs H Q E h => ?_) (fun cdv A outer sh H vs Q E hA hr h => ?_)
  · obtain ⟨j, rfl, _⟩ := h
    rfl
  · obtain ⟨j, rfl, hj, hT, q⟩ := h
    have hu := hr.units
    refine ⟨_, (pss_cons (ps_set (i := 1) scRgt.nd rfl (.inl rfl) (pe_op op_add pe_int (pe_call GSi (hr.mono (by decide)) (by rfl) DSi.g DSi.F.kp DSi.b .nil pass0 (pa_cons (pv 0) (pa_cons pe_int pa_nil)))))
      (pss_cons (ps_set (i := 2) scRgt.nd rfl (.inl rfl) (pe_join pe_str (pe_call GSh (hr.mono (by decide)) (by rfl) DSh.g DSh.F.kp DSh.b .nil pass0 (pa_cons (pv 0) (pa_cons (pe_call GTg (hr.mono (by decide)) (by rfl) DTg.g DTg.F.kp DTg.b .nil pass0 (pa_cons (pv 0) (pa_cons (pv 1) pa_nil))) pa_nil)))))
      (pss_cons (ps_set (i := 3) scRgt.nd rfl (.inl rfl) (pe_make MK GN (hr.mono (by decide)) (by rfl) R.g bI .nil pass0 (pa_cons (pe_callTy call_tuple_of (by rfl) T.b_tuple (by decide +kernel) (pa_cons (pe_call GPk (hr.mono (by decide)) (by rfl) DPk.g DPk.F.kp DPk.b .nil pass0 (pa_cons (pv 2) pa_nil)) pa_nil)) pa_nil)))
      (pss_cons (ps_if (PW.pt (pw_or (pt_cmpR op_ne (pe_callB (call_lenO OL GLe (hr.mono (by decide)) bL pass0) (by rfl) T.b_len (by decide +kernel) (pa_cons (pv 3) pa_nil)) (pe_ix (show IxR _ (rIxL K) from ix_list) (pe_lstS (pa_cons pe_int (pa_cons pe_int (pa_cons pe_int pa_nil)))) (pe_op op_sub (pv 1) pe_int) (fun _ _ => rfl)) (nomark _)) (pw_or1 (pt_cmpR op_ne (pe_callB (call_reprD hA hu) (by rfl) T.b_repr (by decide +kernel) (pa_cons (pe_lstS (pa_cons (pe_call GClo (hr.mono (by decide)) (by rfl) DClo.g DClo.F.kp DClo.b .nil pass0 (pa_cons (pv 3) pa_nil)) (pa_cons (pe_call GIsp (hr.mono (by decide)) (by rfl) DIsp.g DIsp.F.kp DIsp.b .nil pass0 (pa_cons (pv 3) pa_nil)) pa_nil))) pa_nil)) (pe_callB (call_reprD hA hu) (by rfl) T.b_repr (by decide +kernel) (pa_cons (pe_lstS (pa_cons pe_bl (pa_cons (pe_cmpR op_eq (pv 1) pe_int (nomark _)) pa_nil))) pa_nil)) (nomark _))))) (pss_one (ps_ret pe_bl)) pss_nil)
      (pss_cons (ps_if (PW.pt (pw_or (pt_cmpR (op_neO OE hneR hob GE (hr.mono (by decide)) bE pass0) (pe_call GHu (hr.mono (by decide)) (by rfl) DHu.g DHu.F.kp DHu.b .nil pass0 (pa_cons (pv 3) pa_nil)) (pv 3) (by rfl)) (pw_or (pt_cmp (pc_notN (pe_call GOp (hr.mono (by decide)) (by rfl) DOp.g DOp.F.kp DOp.b .nil pass0 (pa_cons (pv 3) pa_nil)))) (pw_or1 (pt_cmpR op_ne (pe_cmp (pc_isN (pe_call GUs (hr.mono (by decide)) (by rfl) DUs.g DUs.F.kp DUs.b .nil pass0 (pa_cons (pv 3) pa_nil)))) (pe_cmpR op_eq (pv 1) pe_int (nomark _)) (nomark _)))))) (pss_one (ps_ret pe_bl)) pss_nil)
      (pss_cons (ps_set (i := 4) scRgt.nd rfl (.inl rfl) (pe_make MK GN (hr.mono (by decide)) (by rfl) R.g bI .nil pass0 (pa_cons (pe_callTy call_tuple_of (by rfl) T.b_tuple (by decide +kernel) (pa_cons (pe_sortedSet rfl (by rfl) T.b_sorted (by rfl) T.b_set (pe_call GWk (hr.mono (by decide)) (by rfl) DWk.g DWk.F.kp DWk.b .nil pass0 (pa_cons (pv 0) (pa_cons (pe_call GTg (hr.mono (by decide)) (by rfl) DTg.g DTg.F.kp DTg.b .nil pass0 (pa_cons (pv 0) (pa_cons (pe_op op_add pe_int (pe_call GSi (hr.mono (by decide)) (by rfl) DSi.g DSi.F.kp DSi.b .nil pass0 (pa_cons (pv 0) (pa_cons pe_int pa_nil)))) pa_nil))) pa_nil)))) pa_nil)) pa_nil)))
      (pss_cons (ps_if (PW.pt (pw_or (pt_not (pt_val (pe_call GIsp (hr.mono (by decide)) (by rfl) DIsp.g DIsp.F.kp DIsp.b .nil pass0 (pa_cons (pv 4) pa_nil)))) (pw_or (pt_not (pt_val (pe_call GClo (hr.mono (by decide)) (by rfl) DClo.g DClo.F.kp DClo.b .nil pass0 (pa_cons (pv 4) pa_nil)))) (pw_or1 (pt_cmpR (op_neO OE hneR hob GE (hr.mono (by decide)) bE pass0) (pe_call GHu (hr.mono (by decide)) (by rfl) DHu.g DHu.F.kp DHu.b .nil pass0 (pa_cons (pv 4) pa_nil)) (pv 4) (by rfl)))))) (pss_one (ps_ret pe_bl)) pss_nil)
      (pss_cons (ps_asg (pe_call GSh (hr.mono (by decide)) (by rfl) DSh.g DSh.F.kp DSh.b .nil pass0 (pa_cons (pv 0) (pa_cons (pe_call GTg (hr.mono (by decide)) (by rfl) DTg.g DTg.F.kp DTg.b .nil pass0 (pa_cons (pv 0) (pa_cons pe_int pa_nil))) pa_nil))) (pg_unl rfl (pgs_cons (pg_name (i := 5) scRgt.nd rfl (.inl rfl)) (pgs_cons (pg_name (i := 6) scRgt.nd rfl (.inl rfl)) (pgs_cons (pg_name (i := 7) scRgt.nd rfl (.inl rfl)) (pgs_cons (pg_name (i := 8) scRgt.nd rfl (.inl rfl)) pgs_nil))))))
      (pss_cons (ps_set (i := 9) scRgt.nd rfl (.inl rfl) (pe_make MK GN (hr.mono (by decide)) (by rfl) R.g bI .nil pass0 (pa_cons (pe_callTy call_tuple_of (by rfl) T.b_tuple (by decide +kernel) (pa_cons (pe_callB cr_sortedS (by rfl) T.b_sorted (by decide +kernel) (pa_cons (pe_lstS (pa_cons (pe_imp (t' := tW4 5 6 7 8) (pe_op op_add_str (pe_op op_add_str (pe_op op_add_str (pv 5) (pv 6)) (pv 7)) (pv 8)) w4_imp) (pa_cons (pe_imp (t' := tW4 5 6 8 7) (pe_op op_add_str (pe_op op_add_str (pe_op op_add_str (pv 5) (pv 6)) (pv 8)) (pv 7)) w4_imp) (pa_cons (pe_imp (t' := tW4 6 5 7 8) (pe_op op_add_str (pe_op op_add_str (pe_op op_add_str (pv 6) (pv 5)) (pv 7)) (pv 8)) w4_imp) (pa_cons (pe_imp (t' := tW4 6 5 8 7) (pe_op op_add_str (pe_op op_add_str (pe_op op_add_str (pv 6) (pv 5)) (pv 8)) (pv 7)) w4_imp) pa_nil))))) pa_nil)) pa_nil)) pa_nil)))
      (pss_cons (ps_set (i := 10) scRgt.nd rfl (.inl rfl) (pe_callTy call_tuple_of (by rfl) T.b_tuple (by decide +kernel) (pa_cons (pe_callB cr_sortedS (by rfl) T.b_sorted (by decide +kernel) (pa_cons (pe_lstS (pa_cons (pe_imp (t' := tW4 5 6 7 8) (pe_op op_add_str (pe_op op_add_str (pe_op op_add_str (pv 5) (pv 6)) (pv 7)) (pv 8)) w4_imp) (pa_cons (pe_imp (t' := tW4 6 7 8 5) (pe_op op_add_str (pe_op op_add_str (pe_op op_add_str (pv 6) (pv 7)) (pv 8)) (pv 5)) w4_imp) (pa_cons (pe_imp (t' := tW4 7 6 5 8) (pe_op op_add_str (pe_op op_add_str (pe_op op_add_str (pv 7) (pv 6)) (pv 5)) (pv 8)) w4_imp) pa_nil)))) pa_nil)) pa_nil)))
      (pss_cons (ps_set (i := 11) scRgt.nd rfl (.inl rfl) (pe_make MK GN (hr.mono (by decide)) (by rfl) R.g bI .nil pass0 (pa_cons (pe_callTy call_tuple_of (by rfl) T.b_tuple (by decide +kernel) (pa_cons (pe_callB cr_sortedT (by rfl) T.b_sorted (by decide +kernel) (pa_cons (pe_op op_catT (pv 10) (pe_tupS (pa_cons (pe_imp (t' := tW4 6 7 5 8) (pe_op op_add_str (pe_op op_add_str (pe_op op_add_str (pv 6) (pv 7)) (pv 5)) (pv 8)) w4_imp) pa_nil))) pa_nil)) pa_nil)) pa_nil)))
      (pss_cons (ps_if (PW.pt (pw_or (pt_not (pt_val (pe_call GIsp (hr.mono (by decide)) (by rfl) DIsp.g DIsp.F.kp DIsp.b .nil pass0 (pa_cons (pv 9) pa_nil)))) (pw_or (pt_val (pe_call GClo (hr.mono (by decide)) (by rfl) DClo.g DClo.F.kp DClo.b .nil pass0 (pa_cons (pe_make MK GN (hr.mono (by decide)) (by rfl) R.g bI .nil pass0 (pa_cons (pv 10) pa_nil)) pa_nil))) (pw_or (pt_cmpR (op_neD hu) (pe_call GOp (hr.mono (by decide)) (by rfl) DOp.g DOp.F.kp DOp.b .nil pass0 (pa_cons (pe_make MK GN (hr.mono (by decide)) (by rfl) R.g bI .nil pass0 (pa_cons (pv 10) pa_nil)) pa_nil)) (pv 10) (nomark _)) (pw_or1 (pt_cmpR (op_neO OE hneR hob GE (hr.mono (by decide)) bE pass0) (pe_call GHu (hr.mono (by decide)) (by rfl) DHu.g DHu.F.kp DHu.b .nil pass0 (pa_cons (pe_make MK GN (hr.mono (by decide)) (by rfl) R.g bI .nil pass0 (pa_cons (pv 10) pa_nil)) pa_nil)) (pv 11) (by rfl))))))) (pss_one (ps_ret pe_bl)) pss_nil)
      (pss_cons (ps_if (PW.pt (pw_or (pt_val (pe_call GIsp (hr.mono (by decide)) (by rfl) DIsp.g DIsp.F.kp DIsp.b .nil pass0 (pa_cons (pv 11) pa_nil))) (pw_or (pt_not (pt_val (pe_call GClo (hr.mono (by decide)) (by rfl) DClo.g DClo.F.kp DClo.b .nil pass0 (pa_cons (pv 11) pa_nil)))) (pw_or1 (pt_cmpR (op_neD hu) (pe_call GUs (hr.mono (by decide)) (by rfl) DUs.g DUs.F.kp DUs.b .nil pass0 (pa_cons (pv 11) pa_nil)) (pv 10) (nomark _)))))) (pss_one (ps_ret pe_bl)) pss_nil)
      (pss_cons (ps_set (i := 12) scRgt.nd rfl (.inl rfl) (pe_callTy call_tuple_of (by rfl) T.b_tuple (by decide +kernel) (pa_cons (pe_callB cr_sortedS (by rfl) T.b_sorted (by decide +kernel) (pa_cons (pe_lstS (pa_cons (pe_imp (t' := tW3 5 6 7) (pe_op op_add_str (pe_op op_add_str (pv 5) (pv 6)) (pv 7)) w3_imp) (pa_cons (pe_imp (t' := tW3 6 7 5) (pe_op op_add_str (pe_op op_add_str (pv 6) (pv 7)) (pv 5)) w3_imp) (pa_cons (pe_imp (t' := tW3 7 5 6) (pe_op op_add_str (pe_op op_add_str (pv 7) (pv 5)) (pv 6)) w3_imp) pa_nil)))) pa_nil)) pa_nil)))
      (pss_one (ps_ret (pe_and (pe_cmpR (op_eqD hu) (pe_call GOp (hr.mono (by decide)) (by rfl) DOp.g DOp.F.kp DOp.b .nil pass0 (pa_cons (pe_make MK GN (hr.mono (by decide)) (by rfl) R.g bI .nil pass0 (pa_cons (pv 12) pa_nil)) pa_nil)) (pv 12) (nomark _)) (pe_and (pe_cmpR (op_eqD hu) (KwF.pe_callK0 GUs (hr.mono (by decide)) (by rfl) DUs.g DUs.F.kp kUs pass0 (pk_cons (pe_make MK GN (hr.mono (by decide)) (by rfl) R.g bI .nil pass0 (pa_cons (pv 12) pa_nil)) pk_nil)) (pv 12) (nomark _)) (pe_one (pe_call GIsp (hr.mono (by decide)) (by rfl) DIsp.g DIsp.F.kp DIsp.b .nil pass0 (pa_cons (pe_make MK GN (hr.mono (by decide)) (by rfl) R.g bI .nil pass0 (pa_cons (pe_slice sl_tupA (pv 12) (po_some pe_int) po_none) pa_nil)) pa_nil))))))))))))))))))))), ?_⟩
    have lim : ∀ {n : Nat}, n ≤ 10000 → n ≤ sizeLine := fun h => by rw [sizeLine_eq]; omega
    refine ⟨_, rfl, j, 3, rfl, hj, by decide, by decide, fun r H1 r0 r3 k1 J1 => ?_⟩
    obtain ⟨n, rfl⟩ : ∃ n : Nat, r = n := ⟨r.toNat, by omega⟩
    refine ⟨_, _, rfl, rfl, ?_⟩
    refine ⟨⟨_, rfl⟩, _, rfl, _, rfl, _, rfl, j, 3 + n, by rw [show ((3 + n : Nat) : Int) = 3 + (n : Int) by omega] <;> rfl, J1, by omega, fun y0 H2 k2 J2 ly0 ysz => ?_⟩
    refine ⟨j, y0, rfl, J2, by omega, fun l2 y H3 k3 J3 n3 e3 pz => ?_⟩
    have ysize : y.cps.size = 3 + n := by rw [perm_size pz]; exact ysz
    have ly : Lett y := ly0.perm pz
    obtain ⟨sq, sz⟩ := join_sh (K := K) e3 (by omega)
    refine ⟨_, l2, signs y, rfl, rfl, .inl sq, sz, ?_⟩
    rw [join_signs]
    have y3 : 3 ≤ y.cps.size := by omega
    have y5 : y.cps.size ≤ 5 := by omega
    have y6 : y.cps.size ≤ 6 := by omega
    refine ⟨_, rfl, y, rfl, ly.1, by omega, y6, fun ys l4 H4 s4 n4 e4 cl nd kin y0' few pmw => ⟨l4, _, rfl, .inl ⟨SqL.of e4, fun p np => ?_⟩⟩⟩
    have G : Good ys y := ⟨⟨cl, nd, y0', kin⟩, ly, y3, y6, by omega⟩
    have ep : (upd H4 p (.tup (ys.map V.str))) p = some (.tup (ys.map V.str)) := upd_same
    have kk : Kp j H (upd H4 p (.tup (ys.map V.str))) := k1.trans (k2.trans (k3.trans ((Kp.of s4).trans (Kp.new np))))
    have J4 : Jar (upd H4 p (.tup (ys.map V.str))) j := (J3.same s4).new np
    have K4 : KpN j H (upd H4 p (.tup (ys.map V.str))) := .kp kk
    have T4 := tabs_kp hT hj kk
    clear kk k1 k2 k3 s4 n4 e4 np J1 J2 J3 n3 e3 sq sz hj hT ly0 ysz pz cl nd kin
    generalize upd H4 p (.tup (ys.map V.str)) = H4 at ep J4 K4 T4 ⊢
    refine fun x1 dx1 nx1 nd1 _ => mk_roll ep G nx1 nd1 fun H5 s5 ra => ⟨rfl, ?_⟩
    have ep5 := s5 _ _ ep
    have J5 := J4.same s5
    have K5 : KpN j H H5 := K4.trans (.ext (ExtN.of s5))
    have T5 := T4.ext s5
    clear s5 J4 K4 T4 nx1 nd1 ep
    obtain ⟨pa0, pa1⟩ := peaked_all G pmw
    have plen := pkW_len G pmw
    have pcalm := closed_calm G pa0
    obtain ⟨dx, fs, hx, _, _⟩ := id ra
    refine ⟨_, rfl, x1, dx, fs.1, rfl, hx, x1, p, _, ys.map V.str, rfl, ra, SqT.of ep5, ys.length, by rw [List.length_map], by omega, ?_⟩
    refine ⟨lim (show 3 ≤ 10000 by decide), fun l6 H6 s6 n6 e6 => ?_⟩
    have hix : atI [V.int 4, V.int 8, V.int 16] ((3 : Int) + (n : Int) - 3) = some (.int (ys.length : Nat)) := by
      rw [show (3 : Int) + (n : Int) - 3 = ((n : Nat) : Int) by omega]
      refine atI_nat ?_
      rw [plen, ysize]
      have : n = 0 ∨ n = 1 ∨ n = 2 := by omega
      rcases this with rfl | rfl | rfl <;> rfl
    have sz3 : decide (y.cps.size = 3) = decide (V.int ((3 : Int) + (n : Int)) = V.int 3) := by
      rw [decide_eq_decide, ysize]
      exact ⟨fun h => by rw [show n = 0 by omega] <;> rfl, fun h => by have := V.int.inj h; omega⟩
    refine ⟨_, rfl, _, _, rfl, rfl, l6, _, _, _, rfl, rfl, SqL.of e6, hix, rfl, _, rfl, ite2 (fun e => absurd e (by rw [decide_eq_true rfl]; decide)) (fun _ => ?_)⟩
    refine ⟨_, rfl, x1, p, ys, y, rfl, ra.same s6, SqT.of (s6 _ _ ep5), G, fun H7 s7 => ?_⟩
    refine ⟨_, rfl, x1, p, ys, y, rfl, ra.same (s6.trans s7), SqT.of ((s6.trans s7) _ _ ep5), G, fun H8 s8 => ?_⟩
    rw [pa0, pa1]
    refine ⟨lim (show 2 ≤ 10000 by decide), fun l9 H9 s9 n9 e9 => ?_⟩
    obtain ⟨f1, f2, f3⟩ := bools_two true (decide (y.cps.size = 3))
    have f2' : (PyData.list [.bool true, .bool (decide (y.cps.size = 3))]).shown.length ≤ sizeLine := lim (by omega)
    refine ⟨_, .list [.bool true, .bool (decide (y.cps.size = 3))], rfl, .base (.lst (SqL.of e9) (.cons (.bl _) (.cons (.bl _) .nil))), f1, f2', f3, ?_⟩
    refine ⟨_, rfl, rfl, lim (show 2 ≤ 10000 by decide), fun l10 H10 s10 n10 e10 => ?_⟩
    rw [← sz3] at e10
    refine ⟨_, .list [.bool true, .bool (decide (y.cps.size = 3))], rfl, .base (.lst (SqL.of e10) (.cons (.bl _) (.cons (.bl _) .nil))), f1, f2', f3, rfl, _, rfl, iteNS rfl ?_⟩
    have S10 := s6.trans (s7.trans (s8.trans (s9.trans s10)))
    have Ja := J5.same S10
    have Ka := K5.trans (.ext (ExtN.of S10))
    have Ta := T5.ext S10
    have raa := ra.same S10
    have epa := S10 _ _ ep5
    clear S10 s6 s7 s8 s9 s10 n6 e6 n9 e9 n10 e10 J5 K5 T5 ra ep5 hx hix f1 f2 f2' f3
    dsimp only [tNext]
    refine seq_key (fun σ H' => ∃ v1 v2 v3 v4 v5 v6 v7 v8 v9 v10 v11 v12, σ = [some (.ref j), v1, v2, v3, v4, v5, v6, v7, v8, v9, v10, v11, v12] ∧ Jar H' j ∧ KpN j H H' ∧ Tabs [(Pt, lamQ)] H') (fun σ H0 hx => ?_) (fun key => ?_)
    rotate_left
    · -- hull, open_three, unspoken_three
      refine ⟨_, rfl, x1, p, ys, y, rfl, raa, epa, G, .inl y5, pcalm, Ta, fun xh th zs Hb exb Tb rhb ehb Gz nwz az subz mnz => ?_⟩
      have ezs : zs = ys := only_order (climbs_all Gz.lot.up) (climbs_all G.lot.up) fun z => ⟨mnz ys G.lot.of (all_cls G.lot.of pa0) (fun _ h => h) z, subz z⟩
      subst ezs
      have kb : KpN j H10 Hb := .ext exb
      have Jb := Ja.ext exb
      have Kb := Ka.trans kb
      have rab := roll_kpn Ja kb raa
      have epb := tup_kpn Ja kb epa
      clear exb kb Ja Ka Ta raa epa Gz nwz az subz mnz
      obtain ⟨dh, gh, hh, _, _⟩ := id rhb
      obtain ⟨db, gb, hb1, _, _⟩ := id rab
      refine ⟨_, rfl, xh, dh, gh.1, .ref C, rfl, hh, .base (.ins hb1 R.cls R.dcl R.dget R.dtk R.mobj), nfC, xh, th, _, .ref x1, rfl, rhb, .inl ⟨x1, p, _, zs, zs, rfl, rab, SqT.of ehb, SqT.of epb, G.strOk, G.strOk, ?_⟩⟩
      refine ⟨_, rfl, _, rfl, ite2 (fun e => absurd e (by rw [decide_eq_true rfl]; decide)) (fun _ => ?_)⟩
      refine ⟨_, rfl, x1, p, zs, y, rfl, rab, SqT.of epb, G, fun _ Hc sc => ?_, fun l hl hb => absurd (List.all_eq_true.mp pa0 l hl) (by rw [hb]; exact Bool.false_ne_true)⟩
      refine ⟨false, by simp, iteF ?_⟩
      refine ⟨_, rfl, x1, p, zs, y, rfl, rab.same sc, SqT.of (sc _ _ epb), G, fun hb Hd sd => ?_, fun l hl hb _ pT Hd sd _ _ => ?_⟩
      · rw [pa1] at hb
        rw [sz3] at hb
        refine ⟨_, rfl, rfl, rfl, _, rfl, ?_⟩
        rw [hb]
        exact iteF (key _ _ ⟨_, _, _, _, _, _, _, _, _, _, _, _, rfl, (Jb.same sc).same sd, Kb.trans (.ext (ExtN.of (sc.trans sd))), (Tb.ext sc).ext sd⟩)
      · have hb : allB zs y true = false := Bool.eq_false_iff.mpr fun h => by rw [List.all_eq_true.mp h l hl] at hb; cases hb
        rw [pa1, sz3] at hb
        refine ⟨_, rfl, rfl, rfl, _, rfl, ?_⟩
        rw [hb]
        exact iteF (key _ _ ⟨_, _, _, _, _, _, _, _, _, _, _, _, rfl, (Jb.same sc).same sd, Kb.trans (.ext (ExtN.of (sc.trans sd))), (Tb.ext sc).ext sd⟩)
    clear Ja Ka Ta raa epa pcalm pa0 pa1 plen sz3 G pmw few y0' y3 y5 y6 ly ysize
    obtain ⟨v1, v2, v3, v4, v5, v6, v7, v8, v9, v10, v11, v12, rfl, J0, K0, T0⟩ := hx
    refine ⟨_, rfl, _, rfl, _, rfl, j, 4, rfl, J0, by decide, by decide, fun r H1 r0 r3 k1 J1 => ?_⟩
    obtain ⟨m, rfl⟩ : ∃ m : Nat, r = m := ⟨r.toNat, by omega⟩
    refine ⟨_, _, rfl, rfl, j, 3 + m, by rw [show ((3 + m : Nat) : Int) = 3 + (m : Int) by omega] <;> rfl, J1, by omega, fun y H2 k2 J2 ly ysz => ?_⟩
    refine ⟨j, y, rfl, J2, by omega, by omega, fun fs l H3 k3 J3 nl el kin f0 fl chn => ⟨l, fs, rfl, SqL.of el, by omega, fun ys p cl nd mem np => ⟨p, _, rfl, .inl ⟨SqL.of upd_same, fun t nt => ?_⟩⟩⟩⟩
    have y3 : 3 ≤ y.cps.size := by omega
    have y6 : y.cps.size ≤ 6 := by omega
    have ln : ys.length ≤ fs.length := nd_leS nd fun a ha => (mem a).mp ha
    have G : Good ys y := ⟨⟨cl, nd, by
      cases ys with
      | cons _ _ => exact Nat.succ_pos _
      | nil =>
        cases fs with
        | nil => exact f0
        | cons f _ => exact absurd ((mem f).mpr List.mem_cons_self) (by simp), fun z hz => kin z ((mem z).mp hz)⟩, ly, y3, y6, by omega⟩
    obtain ⟨z0, x0, zp, ch⟩ := chn ly.1
    have sp := chn_spk G mem zp ch
    have cl0 := spoken_closed sp
    have calm := closed_calm G cl0
    have ep : (upd (upd H3 p (.lst (ys.map V.str))) t (.tup (ys.map V.str))) t = some (.tup (ys.map V.str)) := upd_same
    have kk : Kp j H0 (upd (upd H3 p (.lst (ys.map V.str))) t (.tup (ys.map V.str))) := k1.trans (k2.trans (k3.trans ((Kp.new np).trans (Kp.new nt))))
    have J4 : Jar (upd (upd H3 p (.lst (ys.map V.str))) t (.tup (ys.map V.str))) j := (J3.new np).new nt
    have K4 := K0.trans (.kp kk)
    have T4 := tabs_kp T0 J0 kk
    clear kk k1 k2 k3 np nt J0 J1 J2 J3 nl el K0 T0 kin f0 fl chn mem cl nd ln ch zp ysz
    generalize upd (upd H3 p (.lst (ys.map V.str))) t (.tup (ys.map V.str)) = H4 at ep J4 K4 T4 ⊢
    refine fun x2 dx2 nx2 nd2 _ => mk_roll ep G nx2 nd2 fun H5 s5 ra => ⟨rfl, ?_⟩
    have ep5 := s5 _ _ ep
    refine ⟨_, rfl, x2, t, ys, y, rfl, ra, SqT.of ep5, G, fun H6 s6 => ?_⟩
    rw [sp]
    refine ⟨_, rfl, iteF ⟨_, rfl, x2, t, ys, y, rfl, ra.same s6, SqT.of (s6 _ _ ep5), G, fun H7 s7 => ?_⟩⟩
    rw [cl0]
    have S7 := s5.trans (s6.trans s7)
    have J7 := J4.same S7
    have K7 := K4.trans (.ext (ExtN.of S7))
    have T7 := T4.ext S7
    have ra7 := (ra.same s6).same s7
    have ep7 := s7 _ _ (s6 _ _ ep5)
    clear S7 s5 s6 s7 J4 K4 T4 ra ep5 ep nx2 nd2
    refine ⟨_, rfl, iteF ⟨_, rfl, x2, t, ys, y, rfl, ra7, ep7, G, .inr cl0, calm, T7, fun xh th zs H8 ex8 T8 rh eh Gz nwz az subz mnz => ?_⟩⟩
    have ezs : zs = ys := only_order (climbs_all Gz.lot.up) (climbs_all G.lot.up) fun z => ⟨mnz ys G.lot.of (all_cls G.lot.of cl0) (fun _ h => h) z, subz z⟩
    subst ezs
    have k8 : KpN j H7 H8 := .ext ex8
    have J8 := J7.ext ex8
    have K8 := K7.trans k8
    have ra8 := roll_kpn J7 k8 ra7
    have ep8 := tup_kpn J7 k8 ep7
    clear ex8 k8 J7 K7 T7 ra7 ep7 Gz nwz az subz mnz
    obtain ⟨dh, gh, hh, _, _⟩ := id rh
    obtain ⟨db, gb, hb1, _, _⟩ := id ra8
    refine ⟨_, rfl, xh, dh, gh.1, .ref C, rfl, hh, .base (.ins hb1 R.cls R.dcl R.dget R.dtk R.mobj), nfC, xh, th, _, .ref x2, rfl, rh, .inl ⟨x2, t, _, zs, zs, rfl, ra8, SqT.of eh, SqT.of ep8, G.strOk, G.strOk, ?_⟩⟩
    refine ⟨_, rfl, _, rfl, ite2 (fun e => absurd e (by rw [decide_eq_true rfl]; decide)) (fun _ => ?_)⟩
    clear hb1 hh rh eh ra8 ep8 calm cl0 sp G y3 y6 ly
    -- four letters
    refine ⟨_, rfl, _, rfl, j, 4, rfl, J8, by decide, fun y0 H9 k9 J9 ly0 ys0 => ?_⟩
    refine ⟨j, y0, rfl, J9, by omega, fun l2 y Ha ka Ja na ea pz => ?_⟩
    have ly : Lett y := ly0.perm pz
    have ysz : y.cps.size = 4 := by rw [perm_size pz]; exact ys0
    have Kb : KpN j H Ha := K8.trans ((KpN.kp k9).trans (.kp ka))
    have Tb := tabs_kp (tabs_kp T8 J8 k9) J9 ka
    clear k9 ka J8 J9 K8 T8 na pz ly0 ys0
    obtain ⟨a, b, c, d, rfl⟩ : ∃ a b c d : Nat, y = ⟨#[a, b, c, d]⟩ := by
      obtain ⟨⟨l⟩⟩ := y
      match l, ysz with
      | [a, b, c, d], _ => exact ⟨a, b, c, d, rfl⟩
    refine ⟨l2, [.str (chS a), .str (chS b), .str (chS c), .str (chS d)], rfl, SqL.of ea, rfl, _, _, rfl, _, _, rfl, _, _, rfl, _, _, rfl, rfl, ?_⟩
    clear ea
    obtain ⟨y, ey⟩ : ∃ y : Str, y = ⟨#[a, b, c, d]⟩ := ⟨_, rfl⟩
    rw [← ey] at ly ysz
    -- the square
    refine ⟨a, b, c, d, rfl, rfl, rfl, rfl, a, b, d, c, rfl, rfl, rfl, rfl, b, a, c, d, rfl, rfl, rfl, rfl, b, a, d, c, rfl, rfl, rfl, rfl, lim (show 4 ≤ 10000 by decide), fun l1 H1 s1 n1 e1 => ⟨l1, [⟨#[a, b, c, d]⟩, ⟨#[a, b, d, c]⟩, ⟨#[b, a, c, d]⟩, ⟨#[b, a, d, c]⟩], rfl, SqL.of e1, (by show 4 < 64; decide), fun sq p1 pmq soq np1 => ⟨p1, _, rfl, .inl ⟨SqL.of upd_same, fun t1 nt1 => ?_⟩⟩⟩⟩
    have pmq : sq.Perm (LSq.map (wd y)) := by rw [ey]; exact pmq
    have Gq : Good sq y := good_wd ly ysz (by decide) (by decide) (by decide +kernel : (LSq.all fun l => l.isPerm (List.range 4)) = true) (by decide) (by decide) (by decide) pmq soq
    have aq : allB sq y true = true := by rw [(lin_of ly ysz (by decide +kernel : (LSq.all fun l => l.isPerm (List.range 4)) = true) pmq).all Gq rfl]; exact num_sq
    have S1 : Same Ha (upd (upd H1 p1 (.lst (sq.map V.str))) t1 (.tup (sq.map V.str))) := s1.trans ((same_new np1).trans (same_new nt1))
    have eq1 : (upd (upd H1 p1 (.lst (sq.map V.str))) t1 (.tup (sq.map V.str))) t1 = some (.tup (sq.map V.str)) := upd_same
    clear s1 n1 e1 np1 nt1
    generalize upd (upd H1 p1 (.lst (sq.map V.str))) t1 (.tup (sq.map V.str)) = H2 at S1 eq1 ⊢
    refine fun x3 dx3 nx3 nd3 _ => mk_roll eq1 Gq nx3 nd3 fun H3 s3 rq => ⟨rfl, ?_⟩
    have J3 := Ja.same (S1.trans s3)
    have K3 := Kb.trans (.ext (ExtN.of (S1.trans s3)))
    have T3 := Tb.ext (S1.trans s3)
    have eq3 := s3 _ _ eq1
    clear S1 s3 Ja Kb Tb eq1 nx3 nd3
    -- the three
    refine ⟨a, b, c, d, rfl, rfl, rfl, rfl, b, c, d, a, rfl, rfl, rfl, rfl, c, b, a, d, rfl, rfl, rfl, rfl, lim (show 3 ≤ 10000 by decide), fun l1 H4 s4 n4 e4 => ⟨l1, [⟨#[a, b, c, d]⟩, ⟨#[b, c, d, a]⟩, ⟨#[c, b, a, d]⟩], rfl, SqL.of e4, (by show 3 < 64; decide), fun so p1 pms sos np1 => ⟨p1, _, rfl, .inl ⟨SqL.of upd_same, fun ts nts => ?_⟩⟩⟩⟩
    have pms : so.Perm (LSo.map (wd y)) := by rw [ey]; exact pms
    have Gs : Good so y := good_wd ly ysz (by decide) (by decide) (by decide +kernel : (LSo.all fun l => l.isPerm (List.range 4)) = true) (by decide) (by decide) (by decide) pms sos
    have as : allB so y false = false := by rw [(lin_of ly ysz (by decide +kernel : (LSo.all fun l => l.isPerm (List.range 4)) = true) pms).all Gs rfl]; exact num_so
    have S4 : Same H3 (upd (upd H4 p1 (.lst (so.map V.str))) ts (.tup (so.map V.str))) := s4.trans ((same_new np1).trans (same_new nts))
    have es4 : (upd (upd H4 p1 (.lst (so.map V.str))) ts (.tup (so.map V.str))) ts = some (.tup (so.map V.str)) := upd_same
    clear s4 n4 e4 np1 nts
    generalize upd (upd H4 p1 (.lst (so.map V.str))) ts (.tup (so.map V.str)) = H5 at S4 es4 ⊢
    have J5 := J3.same S4
    have K5 := K3.trans (.ext (ExtN.of S4))
    have T5 := T3.ext S4
    have rq5 := rq.same S4
    have eq5 := S4 _ _ eq3
    clear S4 J3 K3 T3 rq eq3
    -- the four
    have ls3 : so.length = 3 := by rw [pms.length_eq, List.length_map] <;> rfl
    refine ⟨_, rfl, b, c, a, d, rfl, rfl, rfl, rfl, lim (show 1 ≤ 10000 by decide), fun T1 H6 s6 n6 e6 => ⟨ts, T1, so.map V.str, [.str ⟨#[b, c, a, d]⟩], rfl, rfl, SqT.of (s6 _ _ es4), SqT.of e6, (fun h => by have := congrArg List.length h; rw [List.length_map, ls3] at this; cases this), by rw [List.length_map, ls3]; exact lim (show 3 + 1 ≤ 10000 by decide), (fun h => by cases h), fun _ pc npc => ?_⟩⟩
    refine ⟨pc, so ++ [⟨#[b, c, a, d]⟩], rfl, SqT.of (by rw [upd_same, List.map_append] <;> rfl), by rw [List.length_append, ls3]; show 3 + 1 < 64; decide, fun wi p1 pmw sow np1 => ⟨p1, _, rfl, .inl ⟨SqL.of upd_same, fun t1 nt1 => ?_⟩⟩⟩
    have pmw : wi.Perm (LWi.map (wd y)) := by
      refine pmw.trans ?_
      unfold LWi
      rw [List.map_append]
      exact pms.append (by rw [ey]; exact List.Perm.refl _)
    have Gw : Good wi y := good_wd ly ysz (by decide) (by decide) (by decide +kernel : (LWi.all fun l => l.isPerm (List.range 4)) = true) (by decide) (by decide) (by decide) pmw sow
    have Iw := lin_of ly ysz (by decide +kernel : (LWi.all fun l => l.isPerm (List.range 4)) = true) pmw
    have aw0 : allB wi y false = true := by rw [Iw.all Gw rfl]; exact num_wi.1
    have aw1 : allB wi y true = false := by rw [Iw.all Gw rfl]; exact num_wi.2
    have S7 : Same H5 (upd (upd (upd H6 pc (.tup (so.map V.str ++ [.str ⟨#[b, c, a, d]⟩]))) p1 (.lst (wi.map V.str))) t1 (.tup (wi.map V.str))) := s6.trans ((same_new npc).trans ((same_new np1).trans (same_new nt1)))
    have ew7 : (upd (upd (upd H6 pc (.tup (so.map V.str ++ [.str ⟨#[b, c, a, d]⟩]))) p1 (.lst (wi.map V.str))) t1 (.tup (wi.map V.str))) t1 = some (.tup (wi.map V.str)) := upd_same
    clear s6 n6 e6 npc np1 nt1
    generalize upd (upd (upd H6 pc (.tup (so.map V.str ++ [.str ⟨#[b, c, a, d]⟩]))) p1 (.lst (wi.map V.str))) t1 (.tup (wi.map V.str)) = H7 at S7 ew7 ⊢
    refine fun x4 dx4 nx4 nd4 _ => mk_roll ew7 Gw nx4 nd4 fun H8 s8 rw8 => ⟨rfl, ?_⟩
    have S8 := S7.trans s8
    have J8 := J5.same S8
    have K8 := K5.trans (.ext (ExtN.of S8))
    have T8 := T5.ext S8
    have rq8 := rq5.same S8
    have eq8 := S8 _ _ eq5
    have es8 := S8 _ _ es4
    have ew8 := s8 _ _ ew7
    clear S7 s8 S8 J5 K5 T5 rq5 eq5 es4 ew7 nx4 nd4
    have sok := Gs.strOk
    have calms : calmB so y = true := by
      refine (calm_now Gs.loose).mpr ((cls_now Gw (all_cls Gw.lot.of aw0)).sub fun z hz => pmw.mem_iff.mpr ?_)
      obtain ⟨l, hl, rfl⟩ := List.mem_map.mp (pms.mem_iff.mp hz)
      exact List.mem_map.mpr ⟨l, List.mem_append_left _ hl, rfl⟩
    -- what is told of them
    refine ⟨_, rfl, x3, _, sq, y, rfl, rq8, SqT.of eq8, Gq, fun H9 s9 => ?_⟩
    rw [aq]
    have es9 := s9 _ _ es8
    refine ⟨_, rfl, iteF ⟨_, rfl, fun x5 dx5 nx5 nd5 _ => mk_roll es9 Gs nx5 nd5 fun Ha sa r5 => ⟨rfl, x5, ts, so, y, rfl, r5, SqT.of (sa _ _ es9), Gs, fun Hb sb => ?_⟩⟩⟩
    rw [as]
    have Sb := s9.trans (sa.trans sb)
    have esb := Sb _ _ es8
    refine ⟨_, rfl, iteF ⟨_, rfl, fun x6 dx6 nx6 nd6 _ => mk_roll esb Gs nx6 nd6 fun Hc sc r6 => ⟨rfl, x6, ts, so, y, rfl, r6, SqT.of (sc _ _ esb), Gs, fun h => absurd h (by rw [as]; exact Bool.false_ne_true), fun l hl _ _ pT Hd sd _ ft => ?_⟩⟩⟩
    rw [trio_three ls3 hl] at ft
    have Sd := Sb.trans (sc.trans sd)
    have Jd := J8.same Sd
    have Kd := K8.trans (.ext (ExtN.of Sd))
    have Td := T8.ext Sd
    have esd := Sd _ _ es8
    have rwd := rw8.same Sd
    have ewd := Sd _ _ ew8
    refine ⟨_, rfl, .tuple (so.map PyData.str), .tuple (so.map PyData.str), .tup ft.sq (dp_strs _), .tup (SqT.of esd) (dp_strs _), shaped_strs _ sok, shaped_strs _ sok, ?_⟩
    rw [eqv_strs, decide_eq_true rfl]
    clear Sd Sb s9 sa sb sc sd J8 K8 T8 es8 rw8 ew8 rq8 eq8 es9 esb r5 r6 nx5 nd5 nx6 nd6 ft
    refine ⟨_, rfl, iteF ⟨_, rfl, fun x7 dx7 nx7 nd7 _ => mk_roll esd Gs nx7 nd7 fun He se r7 => ⟨rfl, ?_⟩⟩⟩
    refine ⟨x7, ts, so, y, rfl, r7, se _ _ esd, Gs, .inl (by omega), calms, Td.ext se, fun xh th zs Hf exf Tf rh eh Gz nwz az subz mnz => ?_⟩
    have ezs := hull_so ly ysz Gs Gw pms pmw Gz az subz mnz
    subst ezs
    have kf : KpN j Hd Hf := (KpN.ext (ExtN.of se)).trans (.ext exf)
    have Jf := (Jd.same se).ext exf
    have Kf := Kd.trans kf
    have esf := tup_kpn Jd kf esd
    have rwf := roll_kpn Jd kf rwd
    have ewf := tup_kpn Jd kf ewd
    clear exf kf se Jd Kd Td esd rwd ewd r7 nx7 nd7 Gz nwz subz mnz az
    obtain ⟨dh, gh, hh, _, _⟩ := id rh
    obtain ⟨db, gb, hb1, _, _⟩ := id rwf
    refine ⟨_, rfl, xh, dh, gh.1, .ref C, rfl, hh, .base (.ins hb1 R.cls R.dcl R.dget R.dtk R.mobj), nfC, xh, th, _, .ref x4, rfl, rh, .inl ⟨x4, _, _, zs, zs, rfl, rwf, SqT.of eh, SqT.of ewf, Gw.strOk, Gw.strOk, ?_⟩⟩
    refine ⟨_, rfl, _, rfl, ite2 (fun e => absurd e (by rw [decide_eq_true rfl]; decide)) (fun _ => ?_)⟩
    clear hb1 hh rh eh
    -- what is told of the four
    refine ⟨_, rfl, x4, _, zs, y, rfl, rwf, SqT.of ewf, Gw, fun Hg sg => ?_⟩
    rw [aw1]
    refine ⟨_, rfl, iteF ⟨_, rfl, x4, _, zs, y, rfl, rwf.same sg, SqT.of (sg _ _ ewf), Gw, fun Hh sh1 => ?_⟩⟩
    rw [aw0]
    have Sh := sg.trans sh1
    refine ⟨_, rfl, iteF ⟨_, rfl, x4, _, zs, y, rfl, rwf.same Sh, SqT.of (Sh _ _ ewf), Gw, fun h => absurd h (by rw [aw1]; exact Bool.false_ne_true), fun l hl hb _ pT Hi si _ ft => ?_⟩⟩
    rw [wide_bad ly ysz Gs Gw pms pmw hl hb] at ft
    have Si := Sh.trans si
    refine ⟨_, rfl, .tuple (so.map PyData.str), .tuple (so.map PyData.str), .tup ft.sq (dp_strs _), .tup (SqT.of (Si _ _ esf)) (dp_strs _), shaped_strs _ sok, shaped_strs _ sok, ?_⟩
    rw [eqv_strs, decide_eq_true rfl]
    have Ji := Jf.same Si
    have Ki := Kf.trans (.ext (ExtN.of Si))
    have Ti := Tf.ext Si
    clear Si Sh sg sh1 si Jf Kf Tf esf rwf ewf ft aw0 aw1 Iw Gw Gs as calms sok ls3 pmw pms sos sow
    refine ⟨_, rfl, iteF ?_⟩
    -- the wheel
    refine ⟨a, b, c, rfl, rfl, rfl, b, c, a, rfl, rfl, rfl, c, a, b, rfl, rfl, rfl, lim (show 3 ≤ 10000 by decide), fun l1 H1 s1 n1 e1 => ⟨l1, [⟨#[a, b, c]⟩, ⟨#[b, c, a]⟩, ⟨#[c, a, b]⟩], rfl, SqL.of e1, (by show 3 < 64; decide), fun tu p1 pmt sot np1 => ⟨p1, _, rfl, .inl ⟨SqL.of upd_same, fun tt ntt => ?_⟩⟩⟩⟩
    rw [ey] at ly
    have lt : Lett (⟨#[a, b, c]⟩ : Str) := ⟨ly.1.sublist (List.take_sublist 3 [a, b, c, d]), fun x hx => ly.2 x (List.mem_of_mem_take (i := 3) (l := [a, b, c, d]) hx)⟩
    obtain ⟨w3, ew3⟩ : ∃ w3 : Str, w3 = ⟨#[a, b, c]⟩ := ⟨_, rfl⟩
    have pmt : tu.Perm (LTu.map (wd w3)) := by rw [ew3]; exact pmt
    rw [← ew3] at lt
    have wz : w3.cps.size = 3 := by rw [ew3] <;> rfl
    have Gt : Good tu w3 := good_wd lt wz (by decide) (by decide) (by decide +kernel : (LTu.all fun l => l.isPerm (List.range 3)) = true) (by decide) (by decide) (by decide) pmt sot
    have It := lin_of lt wz (by decide +kernel : (LTu.all fun l => l.isPerm (List.range 3)) = true) pmt
    have at0 : allB tu w3 false = false := by rw [It.all Gt rfl]; exact num_tu.1
    have at1 : allB tu w3 true = false := by rw [It.all Gt rfl]; exact num_tu.2
    have lt3 : tu.length = 3 := by rw [pmt.length_eq, List.length_map] <;> rfl
    have tok := Gt.strOk
    have S2 : Same Hi (upd (upd H1 p1 (.lst (tu.map V.str))) tt (.tup (tu.map V.str))) := s1.trans ((same_new np1).trans (same_new ntt))
    have et : (upd (upd H1 p1 (.lst (tu.map V.str))) tt (.tup (tu.map V.str))) tt = some (.tup (tu.map V.str)) := upd_same
    clear s1 n1 e1 np1 ntt ey ly
    generalize upd (upd H1 p1 (.lst (tu.map V.str))) tt (.tup (tu.map V.str)) = H2 at S2 et ⊢
    refine ⟨_, rfl, fun x8 dx8 nx8 nd8 _ => mk_roll et Gt nx8 nd8 fun H3 s3 r8 => ⟨rfl, x8, tt, tu, w3, rfl, r8, SqT.of (s3 _ _ et), Gt, fun h => absurd h (by rw [at0]; exact Bool.false_ne_true), fun l hl _ _ pT H4 s4 _ ft => ?_⟩⟩
    rw [trio_three lt3 hl] at ft
    have S4 := S2.trans (s3.trans s4)
    have et4 := s4 _ _ (s3 _ _ et)
    refine ⟨_, rfl, .tuple (tu.map PyData.str), .tuple (tu.map PyData.str), .tup ft.sq (dp_strs _), .tup (SqT.of et4) (dp_strs _), shaped_strs _ tok, shaped_strs _ tok, ?_⟩
    rw [eqv_strs, decide_eq_true rfl]
    clear S2 s3 s4 et r8 nx8 nd8 ft
    refine ⟨_, rfl, iteT ⟨_, rfl, fun x9 dx9 nx9 nd9 _ => mk_roll et4 Gt nx9 nd9 fun H5 s5 r9 => ⟨rfl, rfl, x9, tt, tu, w3, rfl, r9, SqT.of (s5 _ _ et4), Gt, fun h => absurd h (by rw [at1]; exact Bool.false_ne_true), fun l hl _ _ pT H6 s6 _ ft => ?_⟩⟩⟩
    rw [trio_three lt3 hl] at ft
    have S6 := S4.trans (s5.trans s6)
    have et6 := s6 _ _ (s5 _ _ et4)
    refine ⟨_, rfl, .tuple (tu.map PyData.str), .tuple (tu.map PyData.str), .tup ft.sq (dp_strs _), .tup (SqT.of et6) (dp_strs _), shaped_strs _ tok, shaped_strs _ tok, ?_⟩
    rw [eqv_strs, decide_eq_true rfl]
    clear S4 s5 s6 et4 r9 nx9 nd9 ft
    refine ⟨_, rfl, iteT ⟨_, rfl, _, rfl, ?_⟩⟩
    dsimp only [tNoPart]
    refine sl_j et6 fun p9 H7 s7 e7 => ?_
    rw [show cutV (tu.map V.str) (some 1) none = (tu.drop 1).map V.str from (cutV_from _ 1).trans (List.map_drop ..).symm] at e7
    have G1 : Good (tu.drop 1) w3 := ⟨⟨climbs_of ((climbs_all Gt.lot.up).sublist (List.drop_sublist 1 tu)), Gt.lot.one.sublist (List.drop_sublist 1 tu), by rw [List.length_drop, lt3]; decide, fun z hz => Gt.lot.of z (List.mem_of_mem_drop hz)⟩, lt, Gt.h3, Gt.h6, by rw [List.length_drop, lt3]; decide⟩
    have a1 : allB (tu.drop 1) w3 true = true := by
      unfold allB trips
      rw [if_neg (by rw [List.length_drop, lt3]; decide)] <;> rfl
    refine fun xa dxa nxa nda _ => mk_roll e7 G1 nxa nda fun H8 s8 ra => ⟨rfl, xa, p9, tu.drop 1, w3, rfl, ra, SqT.of (s8 _ _ e7), G1, fun H9 s9 => ?_⟩
    rw [a1]
    have S9 := S6.trans (s7.trans (s8.trans s9))
    exact q _ (Ki.trans (.ext (ExtN.of S9))) (Ji.same S9) (Ti.ext S9)
end
end L2.Cal
end

section
set_option maxRecDepth 100000
set_option maxHeartbeats 4000000
/-! the law's call, from a promise that asks that nothing is being shown -/
namespace L2.Cal
open PySem PySem.Spec PyProof.Rows L2
/-- the script's object, as it is tracked: unless the module itself holds it -/
def scriptH (K : PySem.W.Frag) (a : Addr) (ob : Obj) (ns : List Int) : Hp := fun b => if b = a ∧ (K.lookup a).isNone = true then some (.frz ob (.lst (ns.map V.int))) else none
theorem scriptH_some {K : PySem.W.Frag} {a b : Addr} {ob : Obj} {ns : List Int} {u : HO} (e : scriptH K a ob ns b = some u) : b = a ∧ K.lookup a = none ∧ u = .frz ob (.lst (ns.map V.int)) := by
  unfold scriptH at e
  split at e
  · rename_i h
    exact ⟨h.1, Option.isNone_iff_eq_none.mp h.2, (Option.some.inj e).symm⟩
  · cases e
theorem law_callG {P : Program} {w : World} {K : PySem.W.Frag} {mg mb : Str → Option Value} {CX : CXT} {k : Nat} {fa a : Addr} {fd : FuncData} {x : Str} {sp : Sp} {s : Shared} {vs : List Value} {ns : List Int}
    (KX : K.In s.heap) (hmg : s.heap.Ns mainGlobals mg) (hmb : s.heap.Ns builtinsNs mb) (hbb : ∀ x : Str, x ≠ "__name__" → mb x = bootBuiltins x) (hlim : s.heap.NoLimit) (hg : s.gens = #[])
    (ha : s.heap.get? a = some { cls := .type "list", data := .seq vs.toArray }) (hi : IntsAre vs ns) (hl : ns.length ≤ sizeLine) (hr : Room k callerA)
    (F : ∀ base : Heap, K.In base → base.Ns mainGlobals mg → FnOkG P w K mg base CX k fa fd [x] sp) (hbind : ∀ (s : Shared) (u : Value), BindsTo s fd ⟨[u], []⟩ [(x, u)])
    (hsp : ∀ H : Hp, SqL K H a (ns.map V.int) → sp [.ref a] H (fun v _ => v = .bl true) fun _ _ _ => False)
    (hCX : ∀ H e s', CX [] H s (fun _ _ _ => False) e s' → False) :
    codeAny (model P w) callerA (.call (.ref fa) ⟨[.ref a], []⟩) (fun r s' => r = .ok (.ret (.bool true)) ∧ OldK s.heap s'.heap ∧ s'.os = s.os ∧ AllBare s'.gens) s := by
  have rv := vals_ints hi
  let ob : Obj := { cls := .type "list", data := .seq vs.toArray }
  let H := scriptH K a ob ns
  have stay : ∀ {b : Addr} {o : Obj}, s.heap.get? b = some o → (b ≠ a ∨ (K.lookup a).isSome = true) → (hidT s.heap H).get? b = some o := fun {b o} e h => hidT_get e (by
    cases q : H b with
    | none => rfl
    | some u =>
      obtain ⟨e1, e2, _⟩ := scriptH_some q
      rcases h with h | h
      · exact absurd e1 h
      · rw [e2] at h; cases h)
  have ndict : ∀ {b : Addr} {m : Str → Option Value}, s.heap.Ns b m → (hidT s.heap H).Ns b m := fun {b m} h => by
    obtain ⟨o, es, ep, e, d, r⟩ := h
    refine ⟨o, es, ep, stay e (.inl fun z => ?_), d, r⟩
    rw [z, ha] at e
    cases e
    cases d
  have KB : K.In (hidT s.heap H) := fun b o e => stay (KX b o e) (by
    by_cases h : b = a
    · exact .inr (by rw [← h, e]; rfl)
    · exact .inl h)
  have M : Mod K mg (hidT s.heap H) := ⟨KB, ndict hmg, ⟨mb, ndict hmb, hbb⟩, by obtain ⟨mc, h1, h2⟩ := hlim; exact ⟨mc, ndict h1, h2⟩⟩
  have hok : HOk P w H s.heap := fun b u e => by
    obtain ⟨rfl, _, rfl⟩ := scriptH_some e
    exact ⟨ha, by rw [List.length_map]; exact hl, vs, _, rv, ha⟩
  have hS : SqL K H a (ns.map V.int) := by
    cases q : K.lookup a with
    | none => exact .inl (.inr ⟨ob, if_pos ⟨rfl, by rw [q]; rfl⟩⟩)
    | some o =>
      have e := KX a o q
      rw [ha] at e
      cases e
      exact .inr ⟨_, vs.toArray, _, q, rfl, rfl, rfl, by rw [List.size_toArray, hi.length]; exact hl, by simpa using rv⟩
  have e0 : Env0 P w K mg (hidT s.heap H) callerA [] s H := ⟨rfl, M, fun b o e => of_hidT e, Nat.le_of_eq (hidT_size _ _), trivial, fun b hb => (List.not_mem_nil (show b ∈ ([] : List Addr) from hb)).elim, hok, .of_eq hg⟩
  refine codeAny_mono ((F _ KB (ndict hmg)).run callerA [] s H ⟨[.ref a], []⟩ [.ref a] [.ref a] _ _ rfl hr e0 (hbind s (.ref a)) (.cons rfl .nil) (hsp H hS)) fun r s' h => ?_
  cases r with
  | error e => exact (hCX H e s' h).elim
  | ok fl =>
    cases fl with
    | ret u =>
      obtain ⟨v, H', os, bare, un, hok', r', q⟩ := h
      obtain rfl : v = .bl true := q
      obtain rfl : u = Value.bool true := r'
      refine ⟨rfl, OldK.of_keep fun b o e => ?_, os, bare⟩
      cases q : H b with
      | none => exact un.keep b o e q List.not_mem_nil List.not_mem_nil
      | some u =>
        obtain ⟨rfl, _, rfl⟩ := scriptH_some q
        obtain ⟨e2, _⟩ := hok' b _ (un.frzs b _ _ q)
        rw [ha] at e
        cases e
        exact e2
    | next => exact False.elim h
    | brk => exact False.elim h
    | cont => exact False.elim h
theorem walkG {l : PySem.W.OpenLaw} {n k : Nat} {q : Program} {loose : List Str} {XP : (Str → Option Value) → Heap → Prop} {YP : World → Heap → Prop} {d : DefRec} {K : Params → PySem.W.Frag} {CX : World → CXT} {sp : World → Sp} {x : Str}
    (hn : l.most = some n) (hn2 : n ≤ sizeLine) (hdf : d.params.defaults = []) (hr : Room k callerA) (hY : ∀ (w : World) (h : Heap), YP w h → (K w.params).In h)
    (F : ∀ (w : World) (mg : Str → Option Value) (fa : Addr) (h : Heap), (K w.params).In h → h.Ns mainGlobals mg → mg d.name = some (.ref fa) → ∃ fd : FuncData, (∀ (s : Shared) (u : Value), BindsTo s fd ⟨[u], []⟩ [(x, u)]) ∧
        ∀ base : Heap, (K w.params).In base → base.Ns mainGlobals mg → FnOkG l.prog w (K w.params) mg base (CX w) k fa fd [x] (sp w))
    (hsp : ∀ (w : World) (H : Hp) (a : Addr) (ns : List Int), ns.length ≤ n → SqL (K w.params) H a (ns.map V.int) → sp w [.ref a] H (fun v _ => v = .bl true) fun _ _ _ => False)
    (hCX : ∀ (w : World) (H : Hp) (s : Shared) (e : Value) (s' : Shared), CX w [] H s (fun _ _ _ => False) e s' → False) :
    PySem.W.WalkO q loose XP YP l.row.toRowW d [] (fun f vs => PySem.call f vs) := by
  refine Att.attach_call hn hdf fun w s₀ s₁ mg mb fa o pm cd doc a vs ns G Y ho hd hcd hmg hobj hints hlen hg => ?_
  obtain ⟨fd, hb, hF⟩ := F w mg fa _ (hY w _ Y) G.T.g hmg
  exact law_callG (hY w _ Y) G.T.g G.T.b G.T.builtins G.T.nolimit hg hobj hints (Nat.le_trans hlen hn2) hr hF hb (fun H hS => hsp w H a ns hlen hS) fun H e s' => hCX w H s₁ e s'
end L2.Cal
end

section
set_option maxRecDepth 100000
set_option maxHeartbeats 4000000
/-! the law's call where lambdas are made: the tables of code objects are tracked -/
namespace L2.Cal
open PySem PySem.Spec PyProof.Rows L2 LamX
abbrev tabsOf (cs : List (Addr × Addr)) : List Addr := cs.map (·.2)
def scriptT (K : PySem.W.Frag) (cs : List (Addr × Addr)) (a : Addr) (ob : Obj) (ns : List Int) : Hp := fun b => if b ∈ tabsOf cs then some (.tbl #[]) else scriptH K a ob ns b
theorem scriptT_cases {K : PySem.W.Frag} {cs : List (Addr × Addr)} {a b : Addr} {ob : Obj} {ns : List Int} {u : HO} (e : scriptT K cs a ob ns b = some u) : (b ∈ tabsOf cs ∧ u = .tbl #[]) ∨ (b ∉ tabsOf cs ∧ b = a ∧ K.lookup a = none ∧ u = .frz ob (.lst (ns.map V.int))) := by
  unfold scriptT at e
  by_cases h : b ∈ tabsOf cs
  · rw [if_pos h] at e
    exact .inl ⟨h, (Option.some.inj e).symm⟩
  · rw [if_neg h] at e
    exact .inr ⟨h, scriptH_some e⟩
section
variable {P : Program} {w : World} {K : PySem.W.Frag} {mg mb : Str → Option Value} {CX : CXT} {k : Nat} {fa a : Addr} {cs : List (Addr × Addr)} {fd : FuncData} {x : Str} {sp : Sp} {s : Shared} {vs : List Value} {ns : List Int}
theorem law_callGT (KX : K.In s.heap) (hmg : s.heap.Ns mainGlobals mg) (hmb : s.heap.Ns builtinsNs mb) (hbb : ∀ x : Str, x ≠ "__name__" → mb x = bootBuiltins x) (hlim : s.heap.NoLimit) (hg : s.gens = #[])
    (empty : ∀ p ∈ cs, s.heap.get? p.2 = some { cls := .none, data := .fields #[] }) (apart : ∀ p ∈ cs, K.lookup p.2 = none) (heads : ∀ p ∈ cs, PySem.W.CodeHd s.heap p.1 p.2)
    (main : ∃ (bm : Addr) (om : Obj), mg "__builtins__" = some (.ref bm) ∧ bm ≠ builtinsNs ∧ s.heap.get? bm = some om ∧ om.cls = .type "module" ∧ om.dict = some builtinsNs ∧ om.data = .plain)
    (ha : s.heap.get? a = some { cls := .type "list", data := .seq vs.toArray }) (hi : IntsAre vs ns) (hl : ns.length ≤ sizeLine) (hr : Room k callerA)
    (F : ∀ base : Heap, K.In base → base.Ns mainGlobals mg → (∀ p ∈ cs, TabB base mg p.1 p.2) → FnOkG P w K mg base CX k fa fd [x] sp) (hbind : ∀ (s : Shared) (u : Value), BindsTo s fd ⟨[u], []⟩ [(x, u)])
    (hsp : ∀ H : Hp, (∀ p ∈ cs, H p.2 = some (.tbl #[])) → SqL K H a (ns.map V.int) → sp [.ref a] H (fun v _ => v = .bl true) fun _ _ _ => False)
    (hCX : ∀ H e s', CX [] H s (fun _ _ _ => False) e s' → False) :
    codeAny (model P w) callerA (.call (.ref fa) ⟨[.ref a], []⟩) (fun r s' => r = .ok (.ret (.bool true)) ∧ OldK s.heap s'.heap ∧ s'.os = s.os ∧ AllBare s'.gens) s := by
  have rv := vals_ints hi
  let ob : Obj := { cls := .type "list", data := .seq vs.toArray }
  let H := scriptT K cs a ob ns
  have tabAt : ∀ b, b ∈ tabsOf cs → s.heap.get? b = some { cls := .none, data := .fields #[] } := fun b hb => by
    obtain ⟨p, hp, rfl⟩ := List.mem_map.mp hb
    exact empty p hp
  have aOff : a ∉ tabsOf cs := fun hm => nomatch (show ob.data = Data.fields #[] from congrArg Obj.data (Option.some.inj (ha.symm.trans (tabAt a hm))))
  -- what is not tracked stands in the base
  have stay : ∀ {b : Addr} {o : Obj}, s.heap.get? b = some o → b ∉ tabsOf cs → (b ≠ a ∨ (K.lookup a).isSome = true) → (hidT s.heap H).get? b = some o := fun {b o} e nt h => hidT_get e (by
    cases q : H b with
    | none => rfl
    | some u =>
      rcases scriptT_cases q with ⟨z, _⟩ | ⟨_, e1, e2, _⟩
      · exact absurd z nt
      · rcases h with h | h
        · exact absurd e1 h
        · rw [e2] at h; cases h)
  have stayD : ∀ {b : Addr} {o : Obj}, s.heap.get? b = some o → o.data ≠ .fields #[] → (∀ m, o.data ≠ .seq vs.toArray m) → (hidT s.heap H).get? b = some o := fun {b o} e n1 n2 => stay e (fun hm => by
      have z := tabAt b hm
      rw [e] at z
      cases z
      exact n1 rfl) (.inl fun z => by
      rw [z, ha] at e
      cases e
      exact n2 _ rfl)
  have names : ∀ {b : Addr} {m : Str → Option Value}, s.heap.Ns b m → (hidT s.heap H).Ns b m := fun {b m} h => by
    obtain ⟨o, es, ep, e, d, r⟩ := h
    exact ⟨o, es, ep, stayD e (by rw [d]; exact fun z => nomatch z) (by rw [d]; exact fun _ z => nomatch z), d, r⟩
  have KB : K.In (hidT s.heap H) := fun b o e => stay (KX b o e) (fun hm => by
      obtain ⟨p, hp, rfl⟩ := List.mem_map.mp hm
      rw [apart p hp] at e
      cases e) (by
    by_cases h : b = a
    · exact .inr (by rw [← h, e]; rfl)
    · exact .inl h)
  have M : Mod K mg (hidT s.heap H) := ⟨KB, names hmg, ⟨mb, names hmb, hbb⟩, by obtain ⟨mc, h1, h2⟩ := hlim; exact ⟨mc, names h1, h2⟩⟩
  have tables : ∀ p ∈ cs, TabB (hidT s.heap H) mg p.1 p.2 := fun p hp => by
    obtain ⟨om, us, y1, y2, y3, y4, y5, y6, y7, there, c1, c2, c3, rest⟩ := heads p hp
    obtain ⟨bm, ox, b1, b2, b3, b4, b5, b6⟩ := main
    have inBase := stayD b3 (by rw [b6]; exact fun z => nomatch z) (by rw [b6]; exact fun _ z => nomatch z)
    refine ⟨⟨om, us, y1, y2, y3, y4, y5, y6, y7, stayD there (fun z => ?_) (by rw [c2]; exact fun _ z => nomatch z), c1, c2, c3, rest⟩, ⟨bm, ox, b1, b2, fun z => ?_, fun z => ?_, inBase, b4, b5, b6⟩, fun z => ?_⟩
    · obtain rfl : us = #[] := Data.fields.inj (c2.symm.trans z)
      exact nomatch (show (none : Option Value) = some _ from c3)
    · obtain ⟨og, es, ep, hgm, hdm, _⟩ := hmg
      rw [z, hgm] at b3
      cases b3
      exact nomatch (show Data.dict es ep = Data.plain from hdm.symm.trans b6)
    · rw [z, empty p hp] at b3
      cases b3
      exact nomatch (show Data.fields #[] = Data.plain from b6)
    · obtain ⟨og, es, ep, hgm, hdm, _⟩ := hmg
      rw [z, empty p hp] at hgm
      cases hgm
      exact nomatch (show Data.fields #[] = Data.dict es ep from hdm)
  have hok : HOk P w H s.heap := fun b u e => by
    rcases scriptT_cases e with ⟨hm, rfl⟩ | ⟨_, rfl, _, rfl⟩
    · exact tabAt b hm
    · exact ⟨ha, by rw [List.length_map]; exact hl, vs, _, rv, ha⟩
  have hT : ∀ p ∈ cs, H p.2 = some (.tbl #[]) := fun p hp => if_pos (List.mem_map.mpr ⟨p, hp, rfl⟩)
  have hS : SqL K H a (ns.map V.int) := by
    cases q : K.lookup a with
    | none => exact .inl (.inr ⟨ob, (if_neg aOff).trans (if_pos ⟨rfl, by rw [q]; rfl⟩)⟩)
    | some o =>
      have e := KX a o q
      rw [ha] at e
      cases e
      exact .inr ⟨_, vs.toArray, _, q, rfl, rfl, rfl, by rw [List.size_toArray, hi.length]; exact hl, by simpa using rv⟩
  have e0 : Env0 P w K mg (hidT s.heap H) callerA [] s H := ⟨rfl, M, fun b o e => of_hidT e, Nat.le_of_eq (hidT_size _ _), trivial, fun b hb => (List.not_mem_nil (show b ∈ ([] : List Addr) from hb)).elim, hok, .of_eq hg⟩
  refine codeAny_mono ((F _ KB (names hmg) tables).run callerA [] s H ⟨[.ref a], []⟩ [.ref a] [.ref a] _ _ rfl hr e0 (hbind s (.ref a)) (.cons rfl .nil) (hsp H hT hS)) fun r s' out => ?_
  rcases r with er | (_ | _ | _ | u)
  · exact (hCX H er s' out).elim
  all_goals first
    | exact False.elim out
    | skip
  obtain ⟨v, H', os, bare, un, hok', r', rfl⟩ := out
  obtain rfl : u = Value.bool true := r'
  have grown : ∀ b, b ∈ tabsOf cs → ∃ more : Array Value, s'.heap.get? b = some { cls := .none, data := .fields more } := fun b hb => by
    obtain ⟨more, z⟩ := un.tbls b #[] (if_pos hb)
    exact ⟨_, hok' b _ z⟩
  have kept : ∀ b o, b ∉ tabsOf cs → s.heap.get? b = some o → s'.heap.get? b = some o := fun b o nt e => by
    cases q : H b with
    | none => exact un.keep b o e q List.not_mem_nil List.not_mem_nil
    | some u =>
      rcases scriptT_cases q with ⟨z, _⟩ | ⟨_, rfl, _, rfl⟩
      · exact absurd z nt
      · obtain ⟨e2, _⟩ := hok' b _ (un.frzs b _ _ q)
        rw [ha] at e
        cases e
        exact e2
  refine ⟨rfl, ⟨fun b o e => ?_, fun b o e => ?_⟩, os, bare⟩
  · by_cases hb : b ∈ tabsOf cs
    · obtain ⟨more, hm⟩ := grown b hb
      obtain ⟨p, hp, rfl⟩ := List.mem_map.mp hb
      cases (empty p hp).symm.trans e
      exact .inr (.inl ⟨((heads p hp).tab (empty p hp)).isCodeTable, rfl, #[], more, rfl, by simpa using hm⟩)
    · exact .inl (kept b o hb e)
  · by_cases hb : b ∈ tabsOf cs
    · exact (grown b hb).imp' _ fun _ h => h
    · exact ⟨o, kept b o hb e⟩
end
/-- the walk to a law that makes lambdas -/
theorem walkGT {l : PySem.W.OpenLaw} {n k : Nat} {q : Program} {loose : List Str} {XP : (Str → Option Value) → Heap → Prop} {YP : World → Heap → Prop} {d : DefRec} {K : Params → PySem.W.Frag} {CX : World → CXT} {sp : World → Sp} {x : Str} {ts : List Addr} (cs : List (Addr × Addr))
    (hn : l.most = some n) (hn2 : n ≤ sizeLine) (hdf : d.params.defaults = []) (hr : Room k callerA) (hY : ∀ (w : World) (h : Heap), YP w h → (K w.params).In h ∧ ∀ P ∈ ts, h.get? P = some { cls := .none, data := .fields #[] }) (hcs : ∀ p ∈ cs, p.2 ∈ ts)
    (apart : ∀ w : World, ∀ p ∈ cs, (K w.params).lookup p.2 = none) (heads : ∀ w : World, ∀ p ∈ cs, PySem.W.codeHdIn (K w.params) p.1 p.2 = true)
    (F : ∀ (w : World) (mg : Str → Option Value) (fa : Addr) (h : Heap), (K w.params).In h → h.Ns mainGlobals mg → mg d.name = some (.ref fa) → ∃ fd : FuncData, (∀ (s : Shared) (u : Value), BindsTo s fd ⟨[u], []⟩ [(x, u)]) ∧
        ∀ base : Heap, (K w.params).In base → base.Ns mainGlobals mg → (∀ p ∈ cs, TabB base mg p.1 p.2) → FnOkG l.prog w (K w.params) mg base (CX w) k fa fd [x] (sp w))
    (hsp : ∀ (w : World) (H : Hp) (a : Addr) (ns : List Int), ns.length ≤ n → (∀ p ∈ cs, H p.2 = some (.tbl #[])) → SqL (K w.params) H a (ns.map V.int) → sp w [.ref a] H (fun v _ => v = .bl true) fun _ _ _ => False)
    (hCX : ∀ (w : World) (H : Hp) (s : Shared) (e : Value) (s' : Shared), CX w [] H s (fun _ _ _ => False) e s' → False) :
    PySem.W.WalkO q loose XP YP l.row.toRowW d [] (fun f vs => PySem.call f vs) := by
  refine Att.attach_call hn hdf fun w s₀ s₁ mg mb fa o pm cd doc a vs ns G Y ho hd hcd hmg hobj hints hlen hg => ?_
  obtain ⟨KX, hts⟩ := hY w _ Y
  obtain ⟨fd, hb, hF⟩ := F w mg fa _ KX G.T.g hmg
  exact law_callGT KX G.T.g G.T.b G.T.builtins G.T.nolimit hg (fun p hp => hts _ (hcs p hp)) (apart w) (fun p hp => PySem.W.codeHd_of_K KX (heads w p hp)) G.T.bmain hobj hints (Nat.le_trans hlen hn2) hr hF hb (fun H hT hS => hsp w H a ns hlen hT hS) fun H e s' => hCX w H s₁ e s'
end L2.Cal
end

section
set_option maxRecDepth 100000
set_option maxHeartbeats 4000000
/-! walkGT, the script's bits told -/
namespace L2.Cal
open PySem PySem.Spec PyProof.Rows L2 LamX
theorem walkGTB {l : PySem.W.OpenLaw} {n k : Nat} {q : Program} {loose : List Str} {XP : (Str → Option Value) → Heap → Prop} {YP : World → Heap → Prop} {d : DefRec} {K : Params → PySem.W.Frag} {CX : World → CXT} {sp : World → Sp} {x : Str} {ts : List Addr} (cs : List (Addr × Addr))
    (hn : l.most = some n) (hn2 : n ≤ sizeLine) (hdf : d.params.defaults = []) (hr : Room k callerA) (hY : ∀ (w : World) (h : Heap), YP w h → (K w.params).In h ∧ ∀ P ∈ ts, h.get? P = some { cls := .none, data := .fields #[] }) (hcs : ∀ p ∈ cs, p.2 ∈ ts)
    (apart : ∀ w : World, ∀ p ∈ cs, (K w.params).lookup p.2 = none) (heads : ∀ w : World, ∀ p ∈ cs, PySem.W.codeHdIn (K w.params) p.1 p.2 = true)
    (F : ∀ (w : World) (mg : Str → Option Value) (fa : Addr) (h : Heap), (K w.params).In h → h.Ns mainGlobals mg → mg d.name = some (.ref fa) → ∃ fd : FuncData, (∀ (s : Shared) (u : Value), BindsTo s fd ⟨[u], []⟩ [(x, u)]) ∧
        ∀ base : Heap, (K w.params).In base → base.Ns mainGlobals mg → (∀ p ∈ cs, TabB base mg p.1 p.2) → FnOkG l.prog w (K w.params) mg base (CX w) k fa fd [x] (sp w))
    (hsp : ∀ (w : World) (H : Hp) (a : Addr) (ns : List Int), ns.length ≤ n → (∀ z ∈ ns, Builtin.Int.intBits z ≤ 1048576) → (∀ p ∈ cs, H p.2 = some (.tbl #[])) → SqL (K w.params) H a (ns.map V.int) → sp w [.ref a] H (fun v _ => v = .bl true) fun _ _ _ => False)
    (hCX : ∀ (w : World) (H : Hp) (s : Shared) (e : Value) (s' : Shared), CX w [] H s (fun _ _ _ => False) e s' → False) :
    PySem.W.WalkO q loose XP YP l.row.toRowW d [] (fun f vs => PySem.call f vs) := by
  refine Att.attach_callB hn hdf fun w s₀ s₁ mg mb fa o pm cd doc a vs ns G Y ho hd hcd hmg hobj hints hlen hbits hg => ?_
  obtain ⟨KX, hts⟩ := hY w _ Y
  obtain ⟨fd, hb, hF⟩ := F w mg fa _ KX G.T.g hmg
  exact law_callGT KX G.T.g G.T.b G.T.builtins G.T.nolimit hg (fun p hp => hts _ (hcs p hp)) (apart w) (fun p hp => PySem.W.codeHd_of_K KX (heads w p hp)) G.T.bmain hobj hints (Nat.le_trans hlen hn2) hr hF hb (fun H hT hS => hsp w H a ns hlen hbits hT hS) fun H e s' => hCX w H s₁ e s'
end L2.Cal
end

section
set_option maxRecDepth 100000
set_option maxHeartbeats 4000000
set_option synthInstance.maxHeartbeats 400000
namespace L2.Cal
open PySem PySem.Spec PyProof.Rows L2 LamX CpComb
abbrev sLaw : Stmt := topS 58
theorem scLaw : FnScope ["_law_script", "_law_six", "_law_turn"] ["_law_script"] (defScope sLaw) := ⟨rfl, rfl, rfl, by decide +kernel, rfl, by decide +kernel, by decide +kernel⟩
def spLaw (K : PySem.W.Frag) (Pt : Addr) : Sp := fun vs H Q _ => ∃ (a : Addr) (ns : List Int), vs = [.ref a] ∧ SqL K H a (ns.map V.int) ∧ ns.length ≤ 63 ∧ (∀ n ∈ ns, Builtin.Int.intBits n ≤ 1048576) ∧ LamX.Tabs [(Pt, lamQ)] H ∧ ∀ H', Q (.bl true) H'
theorem seqL_extN {K : PySem.W.Frag} {H H1 : Hp} {a : Addr} {xs : List V} (h : SqL K H a xs) (s : ExtN H H1) : SqL K H1 a xs := by
  rcases h with (h | ⟨o, h⟩) | h
  · exact .inl (.inl (s _ _ h (fun ps z => by cases z)))
  · exact .inl (.inr ⟨o, s _ _ h (fun ps z => by cases z)⟩)
  · exact .inr h
theorem tabs_put {T : List (Addr × Str)} {H : Hp} {a : Addr} {xs : List V} {o : HO} (t : Tabs T H) (e : H a = some (.lst xs)) : Tabs T (upd H a o) := by
  intro p hp
  obtain ⟨ps, h1, h2, h3⟩ := t p hp
  refine ⟨ps, by rw [upd_ne (ne_of h1 e (by intro z; cases z))]; exact h1, h2, fun pos cv hc => ?_⟩
  obtain ⟨c, e1, e2⟩ := h3 pos cv hc
  exact ⟨c, e1, by rw [upd_ne (ne_of e2 e (by unfold CodeO; intro z; cases z))]; exact e2⟩
section
variable {P : Program} {w : World} {K : PySem.W.Frag} {mg : Str → Option Value} {base : Heap} {C Cr : Addr}
theorem ok_law {f c Pt fTg fSi fSh fWk fPk fR fIs fH fIo fK fAn fMa fTha fOp fUs fClo fIsp fHu fO3 fRi fIc fRo fTs fSt fWu fWa fNm fNu fChT fN fC fMr fE fCI fL fOd fBn fBt fAb fOr fTh pO pT : Addr} {fd fdTg fdSi fdSh fdWk fdPk fdR fdIs fdH fdIo fdK fdAn fdMa fdTha fdOp fdUs fdClo fdIsp fdHu fdO3 fdRi fdIc fdRo fdTs fdSt fdWu fdWa fdNm fdNu fdChT fdN fdC fdMr fdE fdCI fdL fdOd fdBn fdBt fdAb fdOr fdTh : FuncData} {fJ fW : Addr} {fdJ fdW : FuncData}
    (DW : DefAt K mg "law" sLaw ["_law_script"] fW fdW) (DJ : DefAt K mg "_law_origin" sOrg ["_law_script", "_law_turn"] fJ fdJ)
    (DR0 : DefAt K mg "_law_right" sRgt ["_law_creek"] f fd)
    (DTg : DefAt K mg "_law_tags" sTag ["_law_creek", "_law_size"] fTg fdTg)
    (DSi : DefAt K mg "_law_sip" sSip ["_law_creek", "_law_size"] fSi fdSi)
    (DSh : DefAt K mg "_law_shuffled" sShu ["_law_creek", "_law_bag"] fSh fdSh)
    (DWk : DefAt K mg "_law_walk" sWlk ["_law_creek", "_law_letters"] fWk fdWk)
    (DPk : DefAt K mg "_law_peaked" sPek ["_law_line_here"] fPk fdPk)
    (DR : DefAt K mg "right_ahead" sRah ["orders"] fR fdR)
    (DIs : DefAt K mg "is_order" sIsO ["value"] fIs fdIs)
    (DH : DefAt K mg "things_of" sThO ["order"] fH fdH)
    (DIo : DefAt K mg "is_order_of" sIoo ["things", "value"] fIo fdIo)
    (DK : DefAt K mg "check_roll" sCkr ["roll"] fK fdK)
    (DAn : DefAt K mg "answers" sAns ["order"] fAn fdAn)
    (DMa : DefAt K mg "most_answers" sMst ["three"] fMa fdMa)
    (DTha : DefAt K mg "three_against" sTha ["roll", "spoken"] fTha fdTha)
    (DOp : DefAt K mg "open_three" sOpn ["roll"] fOp fdOp)
    (DUs : DefAt K mg "unspoken_three" sUns ["roll"] fUs fdUs)
    (DClo : DefAt K mg "is_closed" sClo ["roll"] fClo fdClo)
    (DIsp : DefAt K mg "is_spoken" sIsp ["roll"] fIsp fdIsp)
    (DHu : DefAt K mg "hull" sHul ["roll"] fHu fdHu)
    (DO3 : DefAt K mg "of_three" sOf3 ["roll", "orders"] fO3 fdO3)
    (DRi : DefAt K mg "right_orders" sRio ["roll", "orders"] fRi fdRi)
    (DIc : DefAt K mg "is_calm" sIsC ["roll"] fIc fdIc)
    (DRo : DefAt K mg "rough" sRou ["roll"] fRo fdRo)
    (DTs : DefAt K mg "threes_of" sThs ["things"] fTs fdTs)
    (DSt : DefAt K mg "standing" sSta ["order", "three"] fSt fdSt)
    (DWu : DefAt K mg "wheels_upon" sWup ["three"] fWu fdWu)
    (DWa : DefAt K mg "wheel_among" sWam ["orders", "three"] fWa fdWa)
    (DNm : DefAt K mg "right_numbers" sRnu ["numbers", "many"] fNm fdNm)
    (DNu : DefAt K mg "is_number" sNum ["value"] fNu fdNu)
    (DChT : DefAt K mg "check_thing" sChT ["things", "thing"] fChT fdChT)
    (FN : Fun K "__init__" "Roll.__init__" sIni fN fdN)
    (bI : Binds K fdN ["self", "orders"] [])
    (MK : Mk K C fN)
    (FE : Fun K "__eq__" "Roll.__eq__" sEqu fE fdE)
    (bE : Binds K fdE ["self", "other"] [])
    (OE : Own K C "__eq__" fE)
    (hneR : PySem.W.findIn K (.ref C) "__ne__" = some (some (.builtin "object.__ne__")))
    (hob : PySem.W.mroIn K C (.type "object") = some true)
    (kUs : KwF.KB0 fdUs ["roll"] ["roll"] id id)
    (OC : Own K C "__contains__" fC)
    (FC : Fun K "__contains__" "Roll.__contains__" sCon fC fdC)
    (bC : Binds K fdC ["self", "x"] [])
    (FMr : Fun K "more" "Roll.more" sMor fMr fdMr)
    (mMr : Meth K C "more" fMr)
    (bMr : Binds K fdMr ["self", "order"] [])
    (FCI : Fun K "__init__" "Crowd.__init__" sCIn fCI fdCI)
    (bCI : Binds K fdCI ["self", "roll", "numbers"] [])
    (MKc : Mk K Cr fCI)
    (FL : Fun K "__len__" "Roll.__len__" sLen fL fdL)
    (bL : Binds K fdL ["self"] [])
    (OL : Own K C "__len__" fL)
    (FOd : Fun K "order" "Crowd.order" sOdr fOd fdOd)
    (mOd : Meth K Cr "order" fOd)
    (bOd : Binds K fdOd ["self"] [])
    (hc : fdOd.code = .ref c)
    (TB : TabB base mg c Pt)
    (FBn : Fun K "_beaten" "Crowd._beaten" sBtn fBn fdBn)
    (mBn : Meth K Cr "_beaten" fBn)
    (bBn : Binds K fdBn ["self"] [])
    (FBt : Fun K "beats" "Crowd.beats" sBts fBt fdBt)
    (mBt : Meth K Cr "beats" fBt)
    (bBt : Binds K fdBt ["self", "thing", "other"] [])
    (FAb : Fun K "_above" "Crowd._above" sAb_ fAb fdAb)
    (mAb : Meth K Cr "_above" fAb)
    (bAb : Binds K fdAb ["self", "thing", "other"] [])
    (PT : PropOf K C "things" pT fTh)
    (FT : Fun K "things" "Roll.things" sThi fTh fdTh)
    (bT : Binds K fdTh ["self"] [])
    (PO : PropOf K C "orders" pO fOr)
    (FO : Fun K "orders" "Roll.orders" sOrd fOr fdOr)
    (bO : Binds K fdOr ["self"] [])
    (hcb : mg "combinations" = some (.type "itertools.combinations"))
    (bd : mg "divmod" = none)
    (bsum : mg "sum" = none)
    (bzip : mg "zip" = none)
    (T : Txt mg)
    (Lm : Lims mg)
    (R : RollC K mg C)
    (RC : CrC K mg Cr) : FnOkG P w K mg base CX0 10 fW fdW ["_law_script"] (spLaw K Pt) := by
  have GR : FnOkG P w K mg base CX0 9 f fd ["_law_creek"] (spRgt Pt) := ok_rgt DR0 DTg DSi DSh DWk DPk DR DIs DH DIo DK DAn DMa DTha DOp DUs DClo DIsp DHu DO3 DRi DIc DRo DTs DSt DWu DWa DNm DNu DChT FN bI MK FE bE OE hneR hob kUs OC FC bC FMr mMr bMr FCI bCI MKc FL bL OL FOd mOd bOd hc TB FBn mBn bBn FBt mBt bBt FAb mAb bAb PT FT bT PO FO bO hcb bd bsum bzip T Lm R RC
  have GJ : FnOk P w K mg base CX0 1 fJ fdJ ["_law_script", "_law_turn"] (spOrg K) := ok_org DJ T
  refine Fun.okG DW.F scLaw (fun vs H Q E h => ?_) (fun cdv A outer sh H vs Q E hA hr h => ?_)
  · obtain ⟨a, ns, rfl, _⟩ := h
    rfl
  · obtain ⟨a, ns, rfl, hS, hn, hb, hT, q⟩ := h
    have GPk : FnOk P w K mg base CX0 1 fPk fdPk ["_law_line_here"] spPek := ok_pek DPk T
    have GN : FnOk P w K mg base CX0 3 fN fdN ["self", "orders"] (spIni K C) := ok_ini FN DR DIs DH T Lm R
    have GTha : FnOk P w K mg base CX0 3 fTha fdTha ["roll", "spoken"] (spTha K C) := ok_tha DTha DK DAn DH DMa PO FO bO hcb T R
    have GOp : FnOk P w K mg base CX0 4 fOp fdOp ["roll"] (spOpn K C false) := ok_opn DOp DTha GTha
    have GClo : FnOk P w K mg base CX0 5 fClo fdClo ["roll"] (spClo K C false) := ok_clo DClo DOp GOp
    have GUs : FnOk P w K mg base CX0 4 fUs fdUs ["roll"] (spOpn K C true) := ok_uns DUs DTha GTha
    have GIsp : FnOk P w K mg base CX0 5 fIsp fdIsp ["roll"] (spClo K C true) := ok_isp DIsp DUs GUs
    have GLe : FnOk P w K mg base CX0 1 fL fdL ["self"] (spLen K C) := ok_len FL T R
    refine ⟨_, (pss_cons (ps_set (i := 1) scLaw.nd rfl (.inl rfl) (pe_make MK GN (hr.mono (by decide)) (by rfl) R.g bI .nil pass0 (pa_cons (pe_callTy call_tuple_of (by rfl) T.b_tuple (by decide +kernel) (pa_cons (pe_call GPk (hr.mono (by decide)) (by rfl) DPk.g DPk.F.kp DPk.b .nil pass0 (pa_cons pe_str pa_nil)) pa_nil)) pa_nil)))
      (pss_cons (ps_if (PW.pt (pw_or (pt_cmpR op_ne (pe_callB (call_lenO OL GLe (hr.mono (by decide)) bL pass0) (by rfl) T.b_len (by decide +kernel) (pa_cons (pv 1) pa_nil)) pe_int (nomark _)) (pw_or (pt_not (pt_val (pe_call GClo (hr.mono (by decide)) (by rfl) DClo.g DClo.F.kp DClo.b .nil pass0 (pa_cons (pv 1) pa_nil)))) (pw_or1 (pt_val (pe_call GIsp (hr.mono (by decide)) (by rfl) DIsp.g DIsp.F.kp DIsp.b .nil pass0 (pa_cons (pv 1) pa_nil))))))) (pss_one (ps_ret pe_bl)) pss_nil)
      (pss_one (ps_ret (pe_callB (cr_all rfl) (by rfl) T.b_all (by decide +kernel) (pa_cons (pe_lc (own := [("_law_turn", 2)]) (g := gName 2) (tt := tYes) rfl scLaw.nd (pi_range1 (by rfl) T.b_range (pa_cons (pe_callB (call_max2 rfl) (by rfl) T.b_max (by decide +kernel) (pa_cons pe_int (pa_cons (pe_callB (call_min2 rfl) (by rfl) T.b_min (by decide +kernel) (pa_cons (pe_callB call_len_seq (by rfl) T.b_len (by decide +kernel) (pa_cons (pv 0) pa_nil)) (pa_cons pe_int pa_nil))) pa_nil))) pa_nil)) (blkOk_by (own := [("_law_turn", 2)]) (N := ["_law_script", "_law_six", "_law_turn"]) (sc := (defScope sLaw)) (by decide +kernel)) (fun _ _ _ _ _ => pg_name (i := 2) scLaw.nd rfl (Or.inl rfl)) (fun _ _ _ _ _ => pts_nil) (fun _ _ _ _ _ => (pe_callG GR hA (hr.mono (by decide)) (by rfl) DR0.g DR0.F.kp DR0.b .nil pass0 (pa_cons (pe_call GJ (hr.mono (by decide)) (by rfl) DJ.g DJ.F.kp DJ.b .nil pass0 (pa_cons (pv 0) (pa_cons (pv 2) pa_nil))) pa_nil)))) pa_nil)))))), ?_⟩
    have y6 : (PySem.Str.ofString "abcdef").cps.size = 6 := by decide +kernel
    have ly : Lett (PySem.Str.ofString "abcdef") := ⟨by decide +kernel, by decide +kernel⟩
    refine ⟨PySem.Str.ofString "abcdef", rfl, ly.1, by omega, by omega, fun ys l H1 s1 n1 e1 cl nd kin y0 few pm => ⟨l, _, rfl, .inl ⟨SqL.of e1, fun p np => ?_⟩⟩⟩
    have G : Good ys (PySem.Str.ofString "abcdef") := ⟨⟨cl, nd, y0, kin⟩, ly, by omega, by omega, by omega⟩
    obtain ⟨a0, a1⟩ := peaked_all G pm
    have len := pkW_len G pm
    rw [y6] at a1 len
    have S1 : Same H (upd H1 p (.tup (ys.map V.str))) := s1.trans (same_new np)
    have ep : (upd H1 p (.tup (ys.map V.str))) p = some (.tup (ys.map V.str)) := upd_same
    generalize upd H1 p (.tup (ys.map V.str)) = H2 at S1 ep ⊢
    refine fun x1 dx1 nx1 nd1 _ => mk_roll ep G nx1 nd1 fun H3 s3 ra => ⟨rfl, ?_⟩
    have ep3 := s3 _ _ ep
    obtain ⟨dx, fs, hx, _, _⟩ := id ra
    refine ⟨_, rfl, x1, dx, fs.1, rfl, hx, x1, p, _, ys.map V.str, rfl, ra, SqT.of ep3, ys.length, by rw [List.length_map], by omega, ?_⟩
    refine ⟨rfl, _, rfl, ite2 (fun e => absurd e (by rw [len]; decide)) (fun _ => ?_)⟩
    refine ⟨_, rfl, x1, p, ys, _, rfl, ra, SqT.of ep3, G, fun H4 s4 => ?_⟩
    rw [a0]
    refine ⟨_, rfl, iteF ⟨_, rfl, x1, p, ys, _, rfl, ra.same s4, SqT.of (s4 _ _ ep3), G, fun H5 s5 => ?_⟩⟩
    rw [a1]
    have S5 := S1.trans (s3.trans (s4.trans s5))
    have hS := S5.seq hS
    have hT := hT.ext S5
    refine ⟨_, rfl, iteF ?_⟩
    clear S5 S1 s3 s4 s5 s1 e1 ep ep3 ra hx
    refine ⟨_, rfl, a, _, rfl, .inl hS, _, _, rfl, _, _, rfl, ?_⟩
    obtain ⟨j, ej, j0, j4⟩ : ∃ j : Int, j = (if (if (4:Int) < ((ns.map V.int).length : Int) then (4:Int) else ((ns.map V.int).length : Int)) > 2 then (if (4:Int) < ((ns.map V.int).length : Int) then (4:Int) else ((ns.map V.int).length : Int)) else 2) ∧ 0 ≤ j ∧ j ≤ 5 := by
      refine ⟨_, rfl, ?_⟩
      split <;> split <;> omega
    rw [← ej]
    refine ⟨j, rfl, by omega, by omega, fun D2 nD2 => lc_range (lo := 0) (n := j.toNat) (fun k H' => ExtN H5 H' ∧ Tabs [(Pt, lamQ)] H' ∧ H' D2 = some (.lst ((List.replicate k true).map V.bl))) ⟨ExtN.of (same_new nD2), hT.ext (same_new nD2), upd_same⟩ (fun k H' hk hP => ?_) (fun G4 hP => ?_)⟩
    · obtain ⟨sk, Tk, ek⟩ := hP
      refine ⟨rfl, _, rfl, _, rfl, a, ns, (0 + (k : Int)), rfl, seqL_extN hS sk, hn, by omega, by omega, hb, fun H1 p t1 np J => ⟨p, rfl, J, Tk.ext t1, fun H2 kp _ T2 => ?_⟩⟩
      have pD : ∀ c o, H' c = some o → c ≠ p := fun c o h z => by rw [z] at h; rw [np] at h; cases h
      have hk2 : ∀ c o, H' c = some o → (∀ ps, o ≠ .tbl ps) → H2 c = some o := fun c o h n => kp _ _ (pD c o h) n (t1 _ _ h)
      refine ⟨_, hk2 _ _ ek (fun ps z => by cases z), (by rw [List.length_map, List.length_replicate]; exact Nat.lt_of_lt_of_le (by omega : k < 5) (show 5 ≤ sizeLine by decide)), fun c o h n => ?_, tabs_put T2 (hk2 _ _ ek (fun ps z => by cases z)), ?_⟩
      · rw [upd_ne (ne_of_none h nD2)]
        exact hk2 _ _ (sk _ _ h n) n
      · rw [upd_same, List.replicate_succ', List.map_append]
        rfl
    · obtain ⟨sk, Tk, ek⟩ := hP
      refine ⟨D2, List.replicate j.toNat true, rfl, SqL.of ek, ?_⟩
      rw [show (List.replicate j.toNat true).all id = true by simp]
      exact q _
end
end L2.Cal
end

section
set_option maxRecDepth 100000
set_option maxHeartbeats 4000000
namespace L2.Cal
open PySem PySem.Spec PyProof.Rows L2
theorem def_at {K : PySem.W.Frag} {h : Heap} {mg : Str → Option Value} {x : Str} {st : Stmt} {ps : List Str} {f : Addr} {od an : Option Addr} {sl : Array (Option Value)} {oc kV dc pm cd ct : Value} (X : K.In h) (G : h.Ns mainGlobals mg)
    (a : PySem.W.nsIn K mainGlobals x = some (some (.ref f))) (l : K.lookup f = some ⟨oc, od, .func (PySem.W.fnOf x x (defArgs st) (defBody st) (defScope st) .none kV dc pm an cd ct), sl⟩) (c : PySem.W.codeIn K cd x = true) (k : PySem.W.keepIn K (.ref f) = true)
    (b : ∀ (kV doc pm : Value) (an : Option Addr) (cdv ct : Value) (us : List Value), us.length = ps.length → bindArgs (PySem.W.fnOf x x (defArgs st) (defBody st) (defScope st) .none kV doc pm an cdv ct) ⟨us, []⟩ = pure (ps.zip us)) :
    DefAt K mg x st ps f (PySem.W.fnOf x x (defArgs st) (defBody st) (defScope st) .none kV dc pm an cd ct) :=
  ⟨fun_mk l c k, PySem.W.mg_of X G a, (fun_mk l c k).binds b⟩
theorem meth_at {K : PySem.W.Frag} {x q : Str} {st : Stmt} {ps : List Str} {f : Addr} {od an : Option Addr} {sl : Array (Option Value)} {oc kV dc pm cd ct : Value}
    (l : K.lookup f = some ⟨oc, od, .func (PySem.W.fnOf x q (defArgs st) (defBody st) (defScope st) .none kV dc pm an cd ct), sl⟩) (c : PySem.W.codeIn K cd q = true) (k : PySem.W.keepIn K (.ref f) = true)
    (b : ∀ (kV doc pm : Value) (an : Option Addr) (cdv ct : Value) (us : List Value), us.length = ps.length → bindArgs (PySem.W.fnOf x q (defArgs st) (defBody st) (defScope st) .none kV doc pm an cdv ct) ⟨us, []⟩ = pure (ps.zip us)) :
    Fun K x q st f (PySem.W.fnOf x q (defArgs st) (defBody st) (defScope st) .none kV dc pm an cd ct) ∧ Binds K (PySem.W.fnOf x q (defArgs st) (defBody st) (defScope st) .none kV dc pm an cd ct) ps [] :=
  ⟨fun_mk l c k, (fun_mk l c k).binds b⟩
theorem vals_app : ∀ {vs : List V} {us : List Value} {zs : List V} {ws : List Value}, Vals vs us → Vals zs ws → Vals (vs ++ zs) (us ++ ws)
  | _, _, _, _, .nil, h => h
  | _, _, _, _, .cons a r, h => .cons a (vals_app r h)
theorem all_mk {P : Program} {w : World} {K : PySem.W.Frag} {h : Heap} {mg : Str → Option Value} {fa : Addr} {t_LEAST_THINGS t_MOST_THINGS t_MOST_ORDERS : Tok} {fJ : Addr} {odJ anJ : Option Addr} {slJ : Array (Option Value)} {ocJ kVJ dcJ pmJ cdJ ctJ : Value} {fW : Addr} {odW anW : Option Addr} {slW : Array (Option Value)} {ocW kVW dcW pmW cdW ctW : Value} {fR0 : Addr} {odR0 anR0 : Option Addr} {slR0 : Array (Option Value)} {ocR0 kVR0 dcR0 pmR0 cdR0 ctR0 : Value} {fTg : Addr} {odTg anTg : Option Addr} {slTg : Array (Option Value)} {ocTg kVTg dcTg pmTg cdTg ctTg : Value} {fSi : Addr} {odSi anSi : Option Addr} {slSi : Array (Option Value)} {ocSi kVSi dcSi pmSi cdSi ctSi : Value} {fSh : Addr} {odSh anSh : Option Addr} {slSh : Array (Option Value)} {ocSh kVSh dcSh pmSh cdSh ctSh : Value} {fWk : Addr} {odWk anWk : Option Addr} {slWk : Array (Option Value)} {ocWk kVWk dcWk pmWk cdWk ctWk : Value} {fPk : Addr} {odPk anPk : Option Addr} {slPk : Array (Option Value)} {ocPk kVPk dcPk pmPk cdPk ctPk : Value} {fR : Addr} {odR anR : Option Addr} {slR : Array (Option Value)} {ocR kVR dcR pmR cdR ctR : Value} {fIs : Addr} {odIs anIs : Option Addr} {slIs : Array (Option Value)} {ocIs kVIs dcIs pmIs cdIs ctIs : Value} {fH : Addr} {odH anH : Option Addr} {slH : Array (Option Value)} {ocH kVH dcH pmH cdH ctH : Value} {fIo : Addr} {odIo anIo : Option Addr} {slIo : Array (Option Value)} {ocIo kVIo dcIo pmIo cdIo ctIo : Value} {fK : Addr} {odK anK : Option Addr} {slK : Array (Option Value)} {ocK kVK dcK pmK cdK ctK : Value} {fAn : Addr} {odAn anAn : Option Addr} {slAn : Array (Option Value)} {ocAn kVAn dcAn pmAn cdAn ctAn : Value} {fMa : Addr} {odMa anMa : Option Addr} {slMa : Array (Option Value)} {ocMa kVMa dcMa pmMa cdMa ctMa : Value} {fTha : Addr} {odTha anTha : Option Addr} {slTha : Array (Option Value)} {ocTha kVTha dcTha pmTha cdTha ctTha : Value} {fOp : Addr} {odOp anOp : Option Addr} {slOp : Array (Option Value)} {ocOp kVOp dcOp pmOp cdOp ctOp : Value} {fUs : Addr} {odUs anUs : Option Addr} {slUs : Array (Option Value)} {ocUs kVUs dcUs pmUs cdUs ctUs : Value} {fClo : Addr} {odClo anClo : Option Addr} {slClo : Array (Option Value)} {ocClo kVClo dcClo pmClo cdClo ctClo : Value} {fIsp : Addr} {odIsp anIsp : Option Addr} {slIsp : Array (Option Value)} {ocIsp kVIsp dcIsp pmIsp cdIsp ctIsp : Value} {fHu : Addr} {odHu anHu : Option Addr} {slHu : Array (Option Value)} {ocHu kVHu dcHu pmHu cdHu ctHu : Value} {fO3 : Addr} {odO3 anO3 : Option Addr} {slO3 : Array (Option Value)} {ocO3 kVO3 dcO3 pmO3 cdO3 ctO3 : Value} {fRi : Addr} {odRi anRi : Option Addr} {slRi : Array (Option Value)} {ocRi kVRi dcRi pmRi cdRi ctRi : Value} {fIc : Addr} {odIc anIc : Option Addr} {slIc : Array (Option Value)} {ocIc kVIc dcIc pmIc cdIc ctIc : Value} {fRo : Addr} {odRo anRo : Option Addr} {slRo : Array (Option Value)} {ocRo kVRo dcRo pmRo cdRo ctRo : Value} {fTs : Addr} {odTs anTs : Option Addr} {slTs : Array (Option Value)} {ocTs kVTs dcTs pmTs cdTs ctTs : Value} {fSt : Addr} {odSt anSt : Option Addr} {slSt : Array (Option Value)} {ocSt kVSt dcSt pmSt cdSt ctSt : Value} {fWu : Addr} {odWu anWu : Option Addr} {slWu : Array (Option Value)} {ocWu kVWu dcWu pmWu cdWu ctWu : Value} {fWa : Addr} {odWa anWa : Option Addr} {slWa : Array (Option Value)} {ocWa kVWa dcWa pmWa cdWa ctWa : Value} {fNm : Addr} {odNm anNm : Option Addr} {slNm : Array (Option Value)} {ocNm kVNm dcNm pmNm cdNm ctNm : Value} {fNu : Addr} {odNu anNu : Option Addr} {slNu : Array (Option Value)} {ocNu kVNu dcNu pmNu cdNu ctNu : Value} {fChT : Addr} {odChT anChT : Option Addr} {slChT : Array (Option Value)} {ocChT kVChT dcChT pmChT cdChT ctChT : Value} {C : Addr} {Cr : Addr} {fmN : Addr} {odmN anmN : Option Addr} {slmN : Array (Option Value)} {ocmN kVmN dcmN pmmN cdmN ctmN : Value} {fmT : Addr} {odmT anmT : Option Addr} {slmT : Array (Option Value)} {ocmT kVmT dcmT pmmT cdmT ctmT : Value} {pr_mT : Addr} {remT : List Value} {fmO : Addr} {odmO anmO : Option Addr} {slmO : Array (Option Value)} {ocmO kVmO dcmO pmmO cdmO ctmO : Value} {pr_mO : Addr} {remO : List Value} {fmL : Addr} {odmL anmL : Option Addr} {slmL : Array (Option Value)} {ocmL kVmL dcmL pmmL cdmL ctmL : Value} {fmC : Addr} {odmC anmC : Option Addr} {slmC : Array (Option Value)} {ocmC kVmC dcmC pmmC cdmC ctmC : Value} {fmE : Addr} {odmE anmE : Option Addr} {slmE : Array (Option Value)} {ocmE kVmE dcmE pmmE cdmE ctmE : Value} {fmM : Addr} {odmM anmM : Option Addr} {slmM : Array (Option Value)} {ocmM kVmM dcmM pmmM cdmM ctmM : Value} {fcI : Addr} {odcI ancI : Option Addr} {slcI : Array (Option Value)} {occI kVcI dccI pmcI cdcI ctcI : Value} {fcA : Addr} {odcA ancA : Option Addr} {slcA : Array (Option Value)} {occA kVcA dccA pmcA cdcA ctcA : Value} {fcB : Addr} {odcB ancB : Option Addr} {slcB : Array (Option Value)} {occB kVcB dccB pmcB cdcB ctcB : Value} {fcN : Addr} {odcN ancN : Option Addr} {slcN : Array (Option Value)} {occN kVcN dccN pmcN cdcN ctcN : Value} {fcD : Addr} {odcD ancD : Option Addr} {slcD : Array (Option Value)} {occD kVcD dccD pmcD cdcD ctcD : Value} {cR PR : Addr} (X : K.In h) (G : h.Ns mainGlobals mg) (hfa : mg "law" = some (.ref fa))
    (n_int : PySem.W.nsIn K mainGlobals "int" = some none)
    (n_len : PySem.W.nsIn K mainGlobals "len" = some none)
    (n_abs : PySem.W.nsIn K mainGlobals "abs" = some none)
    (n_range : PySem.W.nsIn K mainGlobals "range" = some none)
    (n_repr : PySem.W.nsIn K mainGlobals "repr" = some none)
    (n_max : PySem.W.nsIn K mainGlobals "max" = some none)
    (n_min : PySem.W.nsIn K mainGlobals "min" = some none)
    (n_all : PySem.W.nsIn K mainGlobals "all" = some none)
    (n_list : PySem.W.nsIn K mainGlobals "list" = some none)
    (n_sorted : PySem.W.nsIn K mainGlobals "sorted" = some none)
    (n_set : PySem.W.nsIn K mainGlobals "set" = some none)
    (n_tuple : PySem.W.nsIn K mainGlobals "tuple" = some none)
    (n_str : PySem.W.nsIn K mainGlobals "str" = some none)
    (n_bool : PySem.W.nsIn K mainGlobals "bool" = some none)
    (n_isinstance : PySem.W.nsIn K mainGlobals "isinstance" = some none)
    (n_enumerate : PySem.W.nsIn K mainGlobals "enumerate" = some none)
    (n_super : PySem.W.nsIn K mainGlobals "super" = some none)
    (n_divmod : PySem.W.nsIn K mainGlobals "divmod" = some none)
    (n_sum : PySem.W.nsIn K mainGlobals "sum" = some none)
    (n_zip : PySem.W.nsIn K mainGlobals "zip" = some none)
    (c_LEAST_THINGS : PySem.W.nsIn K mainGlobals "LEAST_THINGS" = some (some (.int 3 t_LEAST_THINGS)))
    (c_MOST_THINGS : PySem.W.nsIn K mainGlobals "MOST_THINGS" = some (some (.int 6 t_MOST_THINGS)))
    (c_MOST_ORDERS : PySem.W.nsIn K mainGlobals "MOST_ORDERS" = some (some (.int 48 t_MOST_ORDERS)))
    (aJ : PySem.W.nsIn K mainGlobals "_law_origin" = some (some (.ref fJ)))
    (lJ : K.lookup fJ = some ⟨ocJ, odJ, .func (PySem.W.fnOf "_law_origin" "_law_origin" (defArgs sOrg) (defBody sOrg) (defScope sOrg) .none kVJ dcJ pmJ anJ cdJ ctJ), slJ⟩)
    (ccJ : PySem.W.codeIn K cdJ "_law_origin" = true)
    (kkJ : PySem.W.keepIn K (.ref fJ) = true)
    (aW : PySem.W.nsIn K mainGlobals "law" = some (some (.ref fW)))
    (lW : K.lookup fW = some ⟨ocW, odW, .func (PySem.W.fnOf "law" "law" (defArgs sLaw) (defBody sLaw) (defScope sLaw) .none kVW dcW pmW anW cdW ctW), slW⟩)
    (ccW : PySem.W.codeIn K cdW "law" = true)
    (kkW : PySem.W.keepIn K (.ref fW) = true)
    (aR0 : PySem.W.nsIn K mainGlobals "_law_right" = some (some (.ref fR0)))
    (lR0 : K.lookup fR0 = some ⟨ocR0, odR0, .func (PySem.W.fnOf "_law_right" "_law_right" (defArgs sRgt) (defBody sRgt) (defScope sRgt) .none kVR0 dcR0 pmR0 anR0 cdR0 ctR0), slR0⟩)
    (ccR0 : PySem.W.codeIn K cdR0 "_law_right" = true)
    (kkR0 : PySem.W.keepIn K (.ref fR0) = true)
    (aTg : PySem.W.nsIn K mainGlobals "_law_tags" = some (some (.ref fTg)))
    (lTg : K.lookup fTg = some ⟨ocTg, odTg, .func (PySem.W.fnOf "_law_tags" "_law_tags" (defArgs sTag) (defBody sTag) (defScope sTag) .none kVTg dcTg pmTg anTg cdTg ctTg), slTg⟩)
    (ccTg : PySem.W.codeIn K cdTg "_law_tags" = true)
    (kkTg : PySem.W.keepIn K (.ref fTg) = true)
    (aSi : PySem.W.nsIn K mainGlobals "_law_sip" = some (some (.ref fSi)))
    (lSi : K.lookup fSi = some ⟨ocSi, odSi, .func (PySem.W.fnOf "_law_sip" "_law_sip" (defArgs sSip) (defBody sSip) (defScope sSip) .none kVSi dcSi pmSi anSi cdSi ctSi), slSi⟩)
    (ccSi : PySem.W.codeIn K cdSi "_law_sip" = true)
    (kkSi : PySem.W.keepIn K (.ref fSi) = true)
    (aSh : PySem.W.nsIn K mainGlobals "_law_shuffled" = some (some (.ref fSh)))
    (lSh : K.lookup fSh = some ⟨ocSh, odSh, .func (PySem.W.fnOf "_law_shuffled" "_law_shuffled" (defArgs sShu) (defBody sShu) (defScope sShu) .none kVSh dcSh pmSh anSh cdSh ctSh), slSh⟩)
    (ccSh : PySem.W.codeIn K cdSh "_law_shuffled" = true)
    (kkSh : PySem.W.keepIn K (.ref fSh) = true)
    (aWk : PySem.W.nsIn K mainGlobals "_law_walk" = some (some (.ref fWk)))
    (lWk : K.lookup fWk = some ⟨ocWk, odWk, .func (PySem.W.fnOf "_law_walk" "_law_walk" (defArgs sWlk) (defBody sWlk) (defScope sWlk) .none kVWk dcWk pmWk anWk cdWk ctWk), slWk⟩)
    (ccWk : PySem.W.codeIn K cdWk "_law_walk" = true)
    (kkWk : PySem.W.keepIn K (.ref fWk) = true)
    (aPk : PySem.W.nsIn K mainGlobals "_law_peaked" = some (some (.ref fPk)))
    (lPk : K.lookup fPk = some ⟨ocPk, odPk, .func (PySem.W.fnOf "_law_peaked" "_law_peaked" (defArgs sPek) (defBody sPek) (defScope sPek) .none kVPk dcPk pmPk anPk cdPk ctPk), slPk⟩)
    (ccPk : PySem.W.codeIn K cdPk "_law_peaked" = true)
    (kkPk : PySem.W.keepIn K (.ref fPk) = true)
    (aR : PySem.W.nsIn K mainGlobals "right_ahead" = some (some (.ref fR)))
    (lR : K.lookup fR = some ⟨ocR, odR, .func (PySem.W.fnOf "right_ahead" "right_ahead" (defArgs sRah) (defBody sRah) (defScope sRah) .none kVR dcR pmR anR cdR ctR), slR⟩)
    (ccR : PySem.W.codeIn K cdR "right_ahead" = true)
    (kkR : PySem.W.keepIn K (.ref fR) = true)
    (aIs : PySem.W.nsIn K mainGlobals "is_order" = some (some (.ref fIs)))
    (lIs : K.lookup fIs = some ⟨ocIs, odIs, .func (PySem.W.fnOf "is_order" "is_order" (defArgs sIsO) (defBody sIsO) (defScope sIsO) .none kVIs dcIs pmIs anIs cdIs ctIs), slIs⟩)
    (ccIs : PySem.W.codeIn K cdIs "is_order" = true)
    (kkIs : PySem.W.keepIn K (.ref fIs) = true)
    (aH : PySem.W.nsIn K mainGlobals "things_of" = some (some (.ref fH)))
    (lH : K.lookup fH = some ⟨ocH, odH, .func (PySem.W.fnOf "things_of" "things_of" (defArgs sThO) (defBody sThO) (defScope sThO) .none kVH dcH pmH anH cdH ctH), slH⟩)
    (ccH : PySem.W.codeIn K cdH "things_of" = true)
    (kkH : PySem.W.keepIn K (.ref fH) = true)
    (aIo : PySem.W.nsIn K mainGlobals "is_order_of" = some (some (.ref fIo)))
    (lIo : K.lookup fIo = some ⟨ocIo, odIo, .func (PySem.W.fnOf "is_order_of" "is_order_of" (defArgs sIoo) (defBody sIoo) (defScope sIoo) .none kVIo dcIo pmIo anIo cdIo ctIo), slIo⟩)
    (ccIo : PySem.W.codeIn K cdIo "is_order_of" = true)
    (kkIo : PySem.W.keepIn K (.ref fIo) = true)
    (aK : PySem.W.nsIn K mainGlobals "check_roll" = some (some (.ref fK)))
    (lK : K.lookup fK = some ⟨ocK, odK, .func (PySem.W.fnOf "check_roll" "check_roll" (defArgs sCkr) (defBody sCkr) (defScope sCkr) .none kVK dcK pmK anK cdK ctK), slK⟩)
    (ccK : PySem.W.codeIn K cdK "check_roll" = true)
    (kkK : PySem.W.keepIn K (.ref fK) = true)
    (aAn : PySem.W.nsIn K mainGlobals "answers" = some (some (.ref fAn)))
    (lAn : K.lookup fAn = some ⟨ocAn, odAn, .func (PySem.W.fnOf "answers" "answers" (defArgs sAns) (defBody sAns) (defScope sAns) .none kVAn dcAn pmAn anAn cdAn ctAn), slAn⟩)
    (ccAn : PySem.W.codeIn K cdAn "answers" = true)
    (kkAn : PySem.W.keepIn K (.ref fAn) = true)
    (aMa : PySem.W.nsIn K mainGlobals "most_answers" = some (some (.ref fMa)))
    (lMa : K.lookup fMa = some ⟨ocMa, odMa, .func (PySem.W.fnOf "most_answers" "most_answers" (defArgs sMst) (defBody sMst) (defScope sMst) .none kVMa dcMa pmMa anMa cdMa ctMa), slMa⟩)
    (ccMa : PySem.W.codeIn K cdMa "most_answers" = true)
    (kkMa : PySem.W.keepIn K (.ref fMa) = true)
    (aTha : PySem.W.nsIn K mainGlobals "three_against" = some (some (.ref fTha)))
    (lTha : K.lookup fTha = some ⟨ocTha, odTha, .func (PySem.W.fnOf "three_against" "three_against" (defArgs sTha) (defBody sTha) (defScope sTha) .none kVTha dcTha pmTha anTha cdTha ctTha), slTha⟩)
    (ccTha : PySem.W.codeIn K cdTha "three_against" = true)
    (kkTha : PySem.W.keepIn K (.ref fTha) = true)
    (aOp : PySem.W.nsIn K mainGlobals "open_three" = some (some (.ref fOp)))
    (lOp : K.lookup fOp = some ⟨ocOp, odOp, .func (PySem.W.fnOf "open_three" "open_three" (defArgs sOpn) (defBody sOpn) (defScope sOpn) .none kVOp dcOp pmOp anOp cdOp ctOp), slOp⟩)
    (ccOp : PySem.W.codeIn K cdOp "open_three" = true)
    (kkOp : PySem.W.keepIn K (.ref fOp) = true)
    (aUs : PySem.W.nsIn K mainGlobals "unspoken_three" = some (some (.ref fUs)))
    (lUs : K.lookup fUs = some ⟨ocUs, odUs, .func (PySem.W.fnOf "unspoken_three" "unspoken_three" (defArgs sUns) (defBody sUns) (defScope sUns) .none kVUs dcUs pmUs anUs cdUs ctUs), slUs⟩)
    (ccUs : PySem.W.codeIn K cdUs "unspoken_three" = true)
    (kkUs : PySem.W.keepIn K (.ref fUs) = true)
    (aClo : PySem.W.nsIn K mainGlobals "is_closed" = some (some (.ref fClo)))
    (lClo : K.lookup fClo = some ⟨ocClo, odClo, .func (PySem.W.fnOf "is_closed" "is_closed" (defArgs sClo) (defBody sClo) (defScope sClo) .none kVClo dcClo pmClo anClo cdClo ctClo), slClo⟩)
    (ccClo : PySem.W.codeIn K cdClo "is_closed" = true)
    (kkClo : PySem.W.keepIn K (.ref fClo) = true)
    (aIsp : PySem.W.nsIn K mainGlobals "is_spoken" = some (some (.ref fIsp)))
    (lIsp : K.lookup fIsp = some ⟨ocIsp, odIsp, .func (PySem.W.fnOf "is_spoken" "is_spoken" (defArgs sIsp) (defBody sIsp) (defScope sIsp) .none kVIsp dcIsp pmIsp anIsp cdIsp ctIsp), slIsp⟩)
    (ccIsp : PySem.W.codeIn K cdIsp "is_spoken" = true)
    (kkIsp : PySem.W.keepIn K (.ref fIsp) = true)
    (aHu : PySem.W.nsIn K mainGlobals "hull" = some (some (.ref fHu)))
    (lHu : K.lookup fHu = some ⟨ocHu, odHu, .func (PySem.W.fnOf "hull" "hull" (defArgs sHul) (defBody sHul) (defScope sHul) .none kVHu dcHu pmHu anHu cdHu ctHu), slHu⟩)
    (ccHu : PySem.W.codeIn K cdHu "hull" = true)
    (kkHu : PySem.W.keepIn K (.ref fHu) = true)
    (aO3 : PySem.W.nsIn K mainGlobals "of_three" = some (some (.ref fO3)))
    (lO3 : K.lookup fO3 = some ⟨ocO3, odO3, .func (PySem.W.fnOf "of_three" "of_three" (defArgs sOf3) (defBody sOf3) (defScope sOf3) .none kVO3 dcO3 pmO3 anO3 cdO3 ctO3), slO3⟩)
    (ccO3 : PySem.W.codeIn K cdO3 "of_three" = true)
    (kkO3 : PySem.W.keepIn K (.ref fO3) = true)
    (aRi : PySem.W.nsIn K mainGlobals "right_orders" = some (some (.ref fRi)))
    (lRi : K.lookup fRi = some ⟨ocRi, odRi, .func (PySem.W.fnOf "right_orders" "right_orders" (defArgs sRio) (defBody sRio) (defScope sRio) .none kVRi dcRi pmRi anRi cdRi ctRi), slRi⟩)
    (ccRi : PySem.W.codeIn K cdRi "right_orders" = true)
    (kkRi : PySem.W.keepIn K (.ref fRi) = true)
    (aIc : PySem.W.nsIn K mainGlobals "is_calm" = some (some (.ref fIc)))
    (lIc : K.lookup fIc = some ⟨ocIc, odIc, .func (PySem.W.fnOf "is_calm" "is_calm" (defArgs sIsC) (defBody sIsC) (defScope sIsC) .none kVIc dcIc pmIc anIc cdIc ctIc), slIc⟩)
    (ccIc : PySem.W.codeIn K cdIc "is_calm" = true)
    (kkIc : PySem.W.keepIn K (.ref fIc) = true)
    (aRo : PySem.W.nsIn K mainGlobals "rough" = some (some (.ref fRo)))
    (lRo : K.lookup fRo = some ⟨ocRo, odRo, .func (PySem.W.fnOf "rough" "rough" (defArgs sRou) (defBody sRou) (defScope sRou) .none kVRo dcRo pmRo anRo cdRo ctRo), slRo⟩)
    (ccRo : PySem.W.codeIn K cdRo "rough" = true)
    (kkRo : PySem.W.keepIn K (.ref fRo) = true)
    (aTs : PySem.W.nsIn K mainGlobals "threes_of" = some (some (.ref fTs)))
    (lTs : K.lookup fTs = some ⟨ocTs, odTs, .func (PySem.W.fnOf "threes_of" "threes_of" (defArgs sThs) (defBody sThs) (defScope sThs) .none kVTs dcTs pmTs anTs cdTs ctTs), slTs⟩)
    (ccTs : PySem.W.codeIn K cdTs "threes_of" = true)
    (kkTs : PySem.W.keepIn K (.ref fTs) = true)
    (aSt : PySem.W.nsIn K mainGlobals "standing" = some (some (.ref fSt)))
    (lSt : K.lookup fSt = some ⟨ocSt, odSt, .func (PySem.W.fnOf "standing" "standing" (defArgs sSta) (defBody sSta) (defScope sSta) .none kVSt dcSt pmSt anSt cdSt ctSt), slSt⟩)
    (ccSt : PySem.W.codeIn K cdSt "standing" = true)
    (kkSt : PySem.W.keepIn K (.ref fSt) = true)
    (aWu : PySem.W.nsIn K mainGlobals "wheels_upon" = some (some (.ref fWu)))
    (lWu : K.lookup fWu = some ⟨ocWu, odWu, .func (PySem.W.fnOf "wheels_upon" "wheels_upon" (defArgs sWup) (defBody sWup) (defScope sWup) .none kVWu dcWu pmWu anWu cdWu ctWu), slWu⟩)
    (ccWu : PySem.W.codeIn K cdWu "wheels_upon" = true)
    (kkWu : PySem.W.keepIn K (.ref fWu) = true)
    (aWa : PySem.W.nsIn K mainGlobals "wheel_among" = some (some (.ref fWa)))
    (lWa : K.lookup fWa = some ⟨ocWa, odWa, .func (PySem.W.fnOf "wheel_among" "wheel_among" (defArgs sWam) (defBody sWam) (defScope sWam) .none kVWa dcWa pmWa anWa cdWa ctWa), slWa⟩)
    (ccWa : PySem.W.codeIn K cdWa "wheel_among" = true)
    (kkWa : PySem.W.keepIn K (.ref fWa) = true)
    (aNm : PySem.W.nsIn K mainGlobals "right_numbers" = some (some (.ref fNm)))
    (lNm : K.lookup fNm = some ⟨ocNm, odNm, .func (PySem.W.fnOf "right_numbers" "right_numbers" (defArgs sRnu) (defBody sRnu) (defScope sRnu) .none kVNm dcNm pmNm anNm cdNm ctNm), slNm⟩)
    (ccNm : PySem.W.codeIn K cdNm "right_numbers" = true)
    (kkNm : PySem.W.keepIn K (.ref fNm) = true)
    (aNu : PySem.W.nsIn K mainGlobals "is_number" = some (some (.ref fNu)))
    (lNu : K.lookup fNu = some ⟨ocNu, odNu, .func (PySem.W.fnOf "is_number" "is_number" (defArgs sNum) (defBody sNum) (defScope sNum) .none kVNu dcNu pmNu anNu cdNu ctNu), slNu⟩)
    (ccNu : PySem.W.codeIn K cdNu "is_number" = true)
    (kkNu : PySem.W.keepIn K (.ref fNu) = true)
    (aChT : PySem.W.nsIn K mainGlobals "check_thing" = some (some (.ref fChT)))
    (lChT : K.lookup fChT = some ⟨ocChT, odChT, .func (PySem.W.fnOf "check_thing" "check_thing" (defArgs sChT) (defBody sChT) (defScope sChT) .none kVChT dcChT pmChT anChT cdChT ctChT), slChT⟩)
    (ccChT : PySem.W.codeIn K cdChT "check_thing" = true)
    (kkChT : PySem.W.keepIn K (.ref fChT) = true)
    (gC : PySem.W.nsIn K mainGlobals "Roll" = some (some (.ref C)))
    (gCr : PySem.W.nsIn K mainGlobals "Crowd" = some (some (.ref Cr)))
    (omN : PySem.W.findIn K (.ref C) "__init__" = some (some (.ref fmN)))
    (ymN : PySem.W.typeIn K (.ref fmN) = some (.type "function"))
    (lmN : K.lookup fmN = some ⟨ocmN, odmN, .func (PySem.W.fnOf "__init__" "Roll.__init__" (defArgs sIni) (defBody sIni) (defScope sIni) .none kVmN dcmN pmmN anmN cdmN ctmN), slmN⟩)
    (ccmN : PySem.W.codeIn K cdmN "Roll.__init__" = true)
    (kkmN : PySem.W.keepIn K (.ref fmN) = true)
    (omT : PySem.W.findIn K (.ref C) "things" = some (some (.ref pr_mT)))
    (gmT : PySem.W.specialIn K (.ref pr_mT) "__get__" = some (some (.builtin "property.__get__")))
    (tmT : PySem.W.takesIn K (.ref pr_mT) = some true)
    (rmT : PySem.W.recIn K pr_mT "property" = some (.ref fmT :: remT))
    (lmT : K.lookup fmT = some ⟨ocmT, odmT, .func (PySem.W.fnOf "things" "Roll.things" (defArgs sThi) (defBody sThi) (defScope sThi) .none kVmT dcmT pmmT anmT cdmT ctmT), slmT⟩)
    (ccmT : PySem.W.codeIn K cdmT "Roll.things" = true)
    (kkmT : PySem.W.keepIn K (.ref fmT) = true)
    (omO : PySem.W.findIn K (.ref C) "orders" = some (some (.ref pr_mO)))
    (gmO : PySem.W.specialIn K (.ref pr_mO) "__get__" = some (some (.builtin "property.__get__")))
    (tmO : PySem.W.takesIn K (.ref pr_mO) = some true)
    (rmO : PySem.W.recIn K pr_mO "property" = some (.ref fmO :: remO))
    (lmO : K.lookup fmO = some ⟨ocmO, odmO, .func (PySem.W.fnOf "orders" "Roll.orders" (defArgs sOrd) (defBody sOrd) (defScope sOrd) .none kVmO dcmO pmmO anmO cdmO ctmO), slmO⟩)
    (ccmO : PySem.W.codeIn K cdmO "Roll.orders" = true)
    (kkmO : PySem.W.keepIn K (.ref fmO) = true)
    (omL : PySem.W.findIn K (.ref C) "__len__" = some (some (.ref fmL)))
    (ymL : PySem.W.typeIn K (.ref fmL) = some (.type "function"))
    (lmL : K.lookup fmL = some ⟨ocmL, odmL, .func (PySem.W.fnOf "__len__" "Roll.__len__" (defArgs sLen) (defBody sLen) (defScope sLen) .none kVmL dcmL pmmL anmL cdmL ctmL), slmL⟩)
    (ccmL : PySem.W.codeIn K cdmL "Roll.__len__" = true)
    (kkmL : PySem.W.keepIn K (.ref fmL) = true)
    (omC : PySem.W.findIn K (.ref C) "__contains__" = some (some (.ref fmC)))
    (ymC : PySem.W.typeIn K (.ref fmC) = some (.type "function"))
    (lmC : K.lookup fmC = some ⟨ocmC, odmC, .func (PySem.W.fnOf "__contains__" "Roll.__contains__" (defArgs sCon) (defBody sCon) (defScope sCon) .none kVmC dcmC pmmC anmC cdmC ctmC), slmC⟩)
    (ccmC : PySem.W.codeIn K cdmC "Roll.__contains__" = true)
    (kkmC : PySem.W.keepIn K (.ref fmC) = true)
    (omE : PySem.W.findIn K (.ref C) "__eq__" = some (some (.ref fmE)))
    (ymE : PySem.W.typeIn K (.ref fmE) = some (.type "function"))
    (lmE : K.lookup fmE = some ⟨ocmE, odmE, .func (PySem.W.fnOf "__eq__" "Roll.__eq__" (defArgs sEqu) (defBody sEqu) (defScope sEqu) .none kVmE dcmE pmmE anmE cdmE ctmE), slmE⟩)
    (ccmE : PySem.W.codeIn K cdmE "Roll.__eq__" = true)
    (kkmE : PySem.W.keepIn K (.ref fmE) = true)
    (omM : PySem.W.findIn K (.ref C) "more" = some (some (.ref fmM)))
    (ymM : PySem.W.typeIn K (.ref fmM) = some (.type "function"))
    (lmM : K.lookup fmM = some ⟨ocmM, odmM, .func (PySem.W.fnOf "more" "Roll.more" (defArgs sMor) (defBody sMor) (defScope sMor) .none kVmM dcmM pmmM anmM cdmM ctmM), slmM⟩)
    (ccmM : PySem.W.codeIn K cdmM "Roll.more" = true)
    (kkmM : PySem.W.keepIn K (.ref fmM) = true)
    (ocI : PySem.W.findIn K (.ref Cr) "__init__" = some (some (.ref fcI)))
    (ycI : PySem.W.typeIn K (.ref fcI) = some (.type "function"))
    (lcI : K.lookup fcI = some ⟨occI, odcI, .func (PySem.W.fnOf "__init__" "Crowd.__init__" (defArgs sCIn) (defBody sCIn) (defScope sCIn) .none kVcI dccI pmcI ancI cdcI ctcI), slcI⟩)
    (cccI : PySem.W.codeIn K cdcI "Crowd.__init__" = true)
    (kkcI : PySem.W.keepIn K (.ref fcI) = true)
    (ocA : PySem.W.findIn K (.ref Cr) "_above" = some (some (.ref fcA)))
    (ycA : PySem.W.typeIn K (.ref fcA) = some (.type "function"))
    (lcA : K.lookup fcA = some ⟨occA, odcA, .func (PySem.W.fnOf "_above" "Crowd._above" (defArgs sAb_) (defBody sAb_) (defScope sAb_) .none kVcA dccA pmcA ancA cdcA ctcA), slcA⟩)
    (cccA : PySem.W.codeIn K cdcA "Crowd._above" = true)
    (kkcA : PySem.W.keepIn K (.ref fcA) = true)
    (ocB : PySem.W.findIn K (.ref Cr) "beats" = some (some (.ref fcB)))
    (ycB : PySem.W.typeIn K (.ref fcB) = some (.type "function"))
    (lcB : K.lookup fcB = some ⟨occB, odcB, .func (PySem.W.fnOf "beats" "Crowd.beats" (defArgs sBts) (defBody sBts) (defScope sBts) .none kVcB dccB pmcB ancB cdcB ctcB), slcB⟩)
    (cccB : PySem.W.codeIn K cdcB "Crowd.beats" = true)
    (kkcB : PySem.W.keepIn K (.ref fcB) = true)
    (ocN : PySem.W.findIn K (.ref Cr) "_beaten" = some (some (.ref fcN)))
    (ycN : PySem.W.typeIn K (.ref fcN) = some (.type "function"))
    (lcN : K.lookup fcN = some ⟨occN, odcN, .func (PySem.W.fnOf "_beaten" "Crowd._beaten" (defArgs sBtn) (defBody sBtn) (defScope sBtn) .none kVcN dccN pmcN ancN cdcN ctcN), slcN⟩)
    (cccN : PySem.W.codeIn K cdcN "Crowd._beaten" = true)
    (kkcN : PySem.W.keepIn K (.ref fcN) = true)
    (ocD : PySem.W.findIn K (.ref Cr) "order" = some (some (.ref fcD)))
    (ycD : PySem.W.typeIn K (.ref fcD) = some (.type "function"))
    (lcD : K.lookup fcD = some ⟨occD, odcD, .func (PySem.W.fnOf "order" "Crowd.order" (defArgs sOdr) (defBody sOdr) (defScope sOdr) .none kVcD dccD pmcD ancD cdcD ctcD), slcD⟩)
    (cccD : PySem.W.codeIn K cdcD "Crowd.order" = true)
    (kkcD : PySem.W.keepIn K (.ref fcD) = true)
    (mkm : PySem.W.makesIn K C = true)
    (mkk : PySem.W.keepIn K (.ref C) = true)
    (cpg : PySem.W.plainGet K C Str.empty = true)
    (chd : PySem.W.hasDictIn K C = true)
    (cpo : PySem.W.plainOver K C = true)
    (csa : PySem.W.findIn K (.ref C) "__setattr__" = some (some (.builtin "object.__setattr__")))
    (no1 : PySem.W.findIn K (.ref C) "_orders" = some none)
    (no2 : PySem.W.findIn K (.ref C) "_things" = some none)
    (dcl : PySem.W.findIn K (.ref C) "__class__" = some (some (.builtin "object.__class__")))
    (dget : PySem.W.specialIn K (.builtin "object.__class__") "__get__" = some (some (.builtin "getset_descriptor.__get__")))
    (dtk : PySem.W.takesIn K (.builtin "object.__class__") = some true)
    (mobj : PySem.W.mroIn K C (.type "object") = some true)
    (dkm : PySem.W.makesIn K Cr = true)
    (dkk : PySem.W.keepIn K (.ref Cr) = true)
    (dpg : PySem.W.plainGet K Cr Str.empty = true)
    (dhd : PySem.W.hasDictIn K Cr = true)
    (dpo : PySem.W.plainOver K Cr = true)
    (dsa : PySem.W.findIn K (.ref Cr) "__setattr__" = some (some (.builtin "object.__setattr__")))
    (dn1 : PySem.W.findIn K (.ref Cr) "_roll" = some none)
    (dn2 : PySem.W.findIn K (.ref Cr) "_numbers" = some none)
    (dn3 : PySem.W.findIn K (.ref Cr) "_people" = some none)
    (ddcl : PySem.W.findIn K (.ref Cr) "__class__" = some (some (.builtin "object.__class__")))
    (dmobj : PySem.W.mroIn K Cr (.type "object") = some true)
    (cmb : PySem.W.nsIn K mainGlobals "combinations" = some (some (.type "itertools.combinations")))
    (fncA : PySem.W.isFn K (.ref fcA) = true)
    (fncB : PySem.W.isFn K (.ref fcB) = true)
    (fncN : PySem.W.isFn K (.ref fcN) = true)
    (fncD : PySem.W.isFn K (.ref fcD) = true)
    (fnmM : PySem.W.isFn K (.ref fmM) = true)
    (hneR : PySem.W.findIn K (.ref C) "__ne__" = some (some (.builtin "object.__ne__")))
    (hcR : cdcD = .ref cR) :
    ∃ fd : FuncData, (∀ (s : Shared) (u : Value), BindsTo s fd ⟨[u], []⟩ [("_law_script", u)]) ∧ ∀ base : Heap, K.In base → base.Ns mainGlobals mg → (∀ p ∈ [(cR, PR)], LamX.TabB base mg p.1 p.2) → FnOkG P w K mg base CX0 10 fa fd ["_law_script"] (spLaw K PR) := by
  have e := hfa.symm.trans (PySem.W.mg_of X G aW)
  cases e
  have DJ := def_at (st := sOrg) (ps := ["_law_script", "_law_turn"]) X G aJ lJ ccJ kkJ fun _ _ _ _ _ _ us hl => match us, hl with | [_, _], _ => rfl
  have DW := def_at (st := sLaw) (ps := ["_law_script"]) X G aW lW ccW kkW fun _ _ _ _ _ _ us hl => match us, hl with | [_], _ => rfl
  have DR0 := def_at (st := sRgt) (ps := ["_law_creek"]) X G aR0 lR0 ccR0 kkR0 fun _ _ _ _ _ _ us hl => match us, hl with | [_], _ => rfl
  have DTg := def_at (st := sTag) (ps := ["_law_creek", "_law_size"]) X G aTg lTg ccTg kkTg fun _ _ _ _ _ _ us hl => match us, hl with | [_, _], _ => rfl
  have DSi := def_at (st := sSip) (ps := ["_law_creek", "_law_size"]) X G aSi lSi ccSi kkSi fun _ _ _ _ _ _ us hl => match us, hl with | [_, _], _ => rfl
  have DSh := def_at (st := sShu) (ps := ["_law_creek", "_law_bag"]) X G aSh lSh ccSh kkSh fun _ _ _ _ _ _ us hl => match us, hl with | [_, _], _ => rfl
  have DWk := def_at (st := sWlk) (ps := ["_law_creek", "_law_letters"]) X G aWk lWk ccWk kkWk fun _ _ _ _ _ _ us hl => match us, hl with | [_, _], _ => rfl
  have DPk := def_at (st := sPek) (ps := ["_law_line_here"]) X G aPk lPk ccPk kkPk fun _ _ _ _ _ _ us hl => match us, hl with | [_], _ => rfl
  have DR := def_at (st := sRah) (ps := ["orders"]) X G aR lR ccR kkR fun _ _ _ _ _ _ us hl => match us, hl with | [_], _ => rfl
  have DIs := def_at (st := sIsO) (ps := ["value"]) X G aIs lIs ccIs kkIs fun _ _ _ _ _ _ us hl => match us, hl with | [_], _ => rfl
  have DH := def_at (st := sThO) (ps := ["order"]) X G aH lH ccH kkH fun _ _ _ _ _ _ us hl => match us, hl with | [_], _ => rfl
  have DIo := def_at (st := sIoo) (ps := ["things", "value"]) X G aIo lIo ccIo kkIo fun _ _ _ _ _ _ us hl => match us, hl with | [_, _], _ => rfl
  have DK := def_at (st := sCkr) (ps := ["roll"]) X G aK lK ccK kkK fun _ _ _ _ _ _ us hl => match us, hl with | [_], _ => rfl
  have DAn := def_at (st := sAns) (ps := ["order"]) X G aAn lAn ccAn kkAn fun _ _ _ _ _ _ us hl => match us, hl with | [_], _ => rfl
  have DMa := def_at (st := sMst) (ps := ["three"]) X G aMa lMa ccMa kkMa fun _ _ _ _ _ _ us hl => match us, hl with | [_], _ => rfl
  have DTha := def_at (st := sTha) (ps := ["roll", "spoken"]) X G aTha lTha ccTha kkTha fun _ _ _ _ _ _ us hl => match us, hl with | [_, _], _ => rfl
  have DOp := def_at (st := sOpn) (ps := ["roll"]) X G aOp lOp ccOp kkOp fun _ _ _ _ _ _ us hl => match us, hl with | [_], _ => rfl
  have DUs := def_at (st := sUns) (ps := ["roll"]) X G aUs lUs ccUs kkUs fun _ _ _ _ _ _ us hl => match us, hl with | [_], _ => rfl
  have DClo := def_at (st := sClo) (ps := ["roll"]) X G aClo lClo ccClo kkClo fun _ _ _ _ _ _ us hl => match us, hl with | [_], _ => rfl
  have DIsp := def_at (st := sIsp) (ps := ["roll"]) X G aIsp lIsp ccIsp kkIsp fun _ _ _ _ _ _ us hl => match us, hl with | [_], _ => rfl
  have DHu := def_at (st := sHul) (ps := ["roll"]) X G aHu lHu ccHu kkHu fun _ _ _ _ _ _ us hl => match us, hl with | [_], _ => rfl
  have DO3 := def_at (st := sOf3) (ps := ["roll", "orders"]) X G aO3 lO3 ccO3 kkO3 fun _ _ _ _ _ _ us hl => match us, hl with | [_, _], _ => rfl
  have DRi := def_at (st := sRio) (ps := ["roll", "orders"]) X G aRi lRi ccRi kkRi fun _ _ _ _ _ _ us hl => match us, hl with | [_, _], _ => rfl
  have DIc := def_at (st := sIsC) (ps := ["roll"]) X G aIc lIc ccIc kkIc fun _ _ _ _ _ _ us hl => match us, hl with | [_], _ => rfl
  have DRo := def_at (st := sRou) (ps := ["roll"]) X G aRo lRo ccRo kkRo fun _ _ _ _ _ _ us hl => match us, hl with | [_], _ => rfl
  have DTs := def_at (st := sThs) (ps := ["things"]) X G aTs lTs ccTs kkTs fun _ _ _ _ _ _ us hl => match us, hl with | [_], _ => rfl
  have DSt := def_at (st := sSta) (ps := ["order", "three"]) X G aSt lSt ccSt kkSt fun _ _ _ _ _ _ us hl => match us, hl with | [_, _], _ => rfl
  have DWu := def_at (st := sWup) (ps := ["three"]) X G aWu lWu ccWu kkWu fun _ _ _ _ _ _ us hl => match us, hl with | [_], _ => rfl
  have DWa := def_at (st := sWam) (ps := ["orders", "three"]) X G aWa lWa ccWa kkWa fun _ _ _ _ _ _ us hl => match us, hl with | [_, _], _ => rfl
  have DNm := def_at (st := sRnu) (ps := ["numbers", "many"]) X G aNm lNm ccNm kkNm fun _ _ _ _ _ _ us hl => match us, hl with | [_, _], _ => rfl
  have DNu := def_at (st := sNum) (ps := ["value"]) X G aNu lNu ccNu kkNu fun _ _ _ _ _ _ us hl => match us, hl with | [_], _ => rfl
  have DChT := def_at (st := sChT) (ps := ["things", "thing"]) X G aChT lChT ccChT kkChT fun _ _ _ _ _ _ us hl => match us, hl with | [_, _], _ => rfl
  have MmN := meth_at (st := sIni) (ps := ["self", "orders"]) lmN ccmN kkmN fun _ _ _ _ _ _ us hl => match us, hl with | [_, _], _ => rfl
  have MmT := meth_at (st := sThi) (ps := ["self"]) lmT ccmT kkmT fun _ _ _ _ _ _ us hl => match us, hl with | [_], _ => rfl
  have MmO := meth_at (st := sOrd) (ps := ["self"]) lmO ccmO kkmO fun _ _ _ _ _ _ us hl => match us, hl with | [_], _ => rfl
  have MmL := meth_at (st := sLen) (ps := ["self"]) lmL ccmL kkmL fun _ _ _ _ _ _ us hl => match us, hl with | [_], _ => rfl
  have MmC := meth_at (st := sCon) (ps := ["self", "x"]) lmC ccmC kkmC fun _ _ _ _ _ _ us hl => match us, hl with | [_, _], _ => rfl
  have MmE := meth_at (st := sEqu) (ps := ["self", "other"]) lmE ccmE kkmE fun _ _ _ _ _ _ us hl => match us, hl with | [_, _], _ => rfl
  have MmM := meth_at (st := sMor) (ps := ["self", "order"]) lmM ccmM kkmM fun _ _ _ _ _ _ us hl => match us, hl with | [_, _], _ => rfl
  have McI := meth_at (st := sCIn) (ps := ["self", "roll", "numbers"]) lcI cccI kkcI fun _ _ _ _ _ _ us hl => match us, hl with | [_, _, _], _ => rfl
  have McA := meth_at (st := sAb_) (ps := ["self", "thing", "other"]) lcA cccA kkcA fun _ _ _ _ _ _ us hl => match us, hl with | [_, _, _], _ => rfl
  have McB := meth_at (st := sBts) (ps := ["self", "thing", "other"]) lcB cccB kkcB fun _ _ _ _ _ _ us hl => match us, hl with | [_, _, _], _ => rfl
  have McN := meth_at (st := sBtn) (ps := ["self"]) lcN cccN kkcN fun _ _ _ _ _ _ us hl => match us, hl with | [_], _ => rfl
  have McD := meth_at (st := sOdr) (ps := ["self"]) lcD cccD kkcD fun _ _ _ _ _ _ us hl => match us, hl with | [_], _ => rfl
  have T : Txt mg := ⟨PySem.W.mg_none_of X G n_int, PySem.W.mg_none_of X G n_len, PySem.W.mg_none_of X G n_abs, PySem.W.mg_none_of X G n_range, PySem.W.mg_none_of X G n_repr, PySem.W.mg_none_of X G n_max, PySem.W.mg_none_of X G n_min, PySem.W.mg_none_of X G n_all, PySem.W.mg_none_of X G n_list, PySem.W.mg_none_of X G n_sorted, PySem.W.mg_none_of X G n_set, PySem.W.mg_none_of X G n_tuple, PySem.W.mg_none_of X G n_str, PySem.W.mg_none_of X G n_bool, PySem.W.mg_none_of X G n_isinstance, PySem.W.mg_none_of X G n_enumerate, PySem.W.mg_none_of X G n_super⟩
  have Lm : Lims mg := ⟨⟨_, PySem.W.mg_of X G c_LEAST_THINGS⟩, ⟨_, PySem.W.mg_of X G c_MOST_THINGS⟩, ⟨_, PySem.W.mg_of X G c_MOST_ORDERS⟩⟩
  have R : RollC K mg C := ⟨PySem.W.mg_of X G gC, ⟨cpg, chd, cpo, csa⟩, no1, no2, dcl, dget, dtk, mobj⟩
  have MK : Mk K C fmN := ⟨mkm, omN, beq_iff_eq.mpr ymN, mkk⟩
  have RCr : CrC K mg Cr := ⟨PySem.W.mg_of X G gCr, ⟨dpg, dhd, dpo, dsa⟩, dn1, dn2, dn3, ddcl, dget, dtk, dmobj⟩
  have MKc : Mk K Cr fcI := ⟨dkm, ocI, beq_iff_eq.mpr ycI, dkk⟩
  exact ⟨_, fun s u => .of_eq rfl, fun base _ _ tb => ok_law DW DJ DR0 DTg DSi DSh DWk DPk DR DIs DH DIo DK DAn DMa DTha DOp DUs DClo DIsp DHu DO3 DRi DIc DRo DTs DSt DWu DWa DNm DNu DChT (MmN.1) (MmN.2) MK (MmE.1) (MmE.2) (⟨omE, ymE⟩) hneR (mobj) (⟨fun s ws h => match ws, h with | [_], _ => .of_eq rfl, fun _ h => h⟩) (⟨omC, ymC⟩) (MmC.1) (MmC.2) (MmM.1) (⟨omM, fnmM, kkmM⟩) (MmM.2) (McI.1) (McI.2) MKc (MmL.1) (MmL.2) (⟨omL, ymL⟩) (McD.1) (⟨ocD, fncD, kkcD⟩) (McD.2) (hcR) (tb (cR, PR) List.mem_cons_self) (McN.1) (⟨ocN, fncN, kkcN⟩) (McN.2) (McB.1) (⟨ocB, fncB, kkcB⟩) (McB.2) (McA.1) (⟨ocA, fncA, kkcA⟩) (McA.2) (⟨omT, gmT, tmT, ⟨_, rmT⟩⟩) (MmT.1) (MmT.2) (⟨omO, gmO, tmO, ⟨_, rmO⟩⟩) (MmO.1) (MmO.2) (PySem.W.mg_of X G cmb) (PySem.W.mg_none_of X G n_divmod) (PySem.W.mg_none_of X G n_sum) (PySem.W.mg_none_of X G n_zip) T Lm R (RCr)⟩
end L2.Cal
end

open PySem PySem.W PyProof.Rows
theorem L2.Cal.kIn_ofM {K : Params → Frag} {as : List Addr} {e : ∀ (P : Params), as = List.map (fun x => x.fst) (K P)} {ts : List Addr} {w : World} {h : Heap} (Y : (kmHook K as e ts).says w h) : (K w.params).In h := kIn_of (as := as) (e := e) Y.1
set_option maxRecDepth 100000 in
set_option maxHeartbeats 0 in
theorem PySem.Challenge.cw_calmlists_k46_known_closed_and_spoken_ro_holds : PySem.Challenge.rw_calmlists_k46_known_closed_and_spoken_ro.Holds := by
  w_on; o_law; k_head; (case hw => w_witness2)
  k_fill
  refine L2.Cal.walkGTB (l := PySem.Challenge.rw_calmlists_k46_known_closed_and_spoken_ro) (n := 63) (k := 10) (x := "_law_script") (CX := fun _ => L2.CX0) (sp := fun w => L2.Cal.spLaw _ 520) [(522, 520)] rfl (by decide) rfl ⟨rfl, by decide, by decide⟩ (fun w h Y => ⟨PySem.W.km_in_of Y, PySem.W.km_tabs_of Y⟩) (fun p hp => by rw [List.mem_singleton.mp hp]; first | exact List.mem_cons_self | exact List.mem_cons_of_mem _ List.mem_cons_self) (fun w p hp => by rw [List.mem_singleton.mp hp]; kernel_rfl) (fun w p hp => by rw [List.mem_singleton.mp hp]; kernel_rfl) ?F (fun _ _ a ns hl hb hT hS => ⟨a, ns, rfl, hS, hl, hb, fun p hp => by rw [List.mem_singleton.mp hp]; exact LamX.TabS.nil (hT _ List.mem_cons_self), fun _ => rfl⟩) (fun _ _ _ _ _ h => h)
  case F =>
    intro w mg fa h KX G hmg
    refine' L2.Cal.all_mk KX G hmg ?cm_n_int ?cm_n_len ?cm_n_abs ?cm_n_range ?cm_n_repr ?cm_n_max ?cm_n_min ?cm_n_all ?cm_n_list ?cm_n_sorted ?cm_n_set ?cm_n_tuple ?cm_n_str ?cm_n_bool ?cm_n_isinstance ?cm_n_enumerate ?cm_n_super ?cm_n_divmod ?cm_n_sum ?cm_n_zip ?cm_c_LEAST_THINGS ?cm_c_MOST_THINGS ?cm_c_MOST_ORDERS ?cm_aJ ?cm_lJ ?cm_ccJ ?cm_kkJ ?cm_aW ?cm_lW ?cm_ccW ?cm_kkW ?cm_aR0 ?cm_lR0 ?cm_ccR0 ?cm_kkR0 ?cm_aTg ?cm_lTg ?cm_ccTg ?cm_kkTg ?cm_aSi ?cm_lSi ?cm_ccSi ?cm_kkSi ?cm_aSh ?cm_lSh ?cm_ccSh ?cm_kkSh ?cm_aWk ?cm_lWk ?cm_ccWk ?cm_kkWk ?cm_aPk ?cm_lPk ?cm_ccPk ?cm_kkPk ?cm_aR ?cm_lR ?cm_ccR ?cm_kkR ?cm_aIs ?cm_lIs ?cm_ccIs ?cm_kkIs ?cm_aH ?cm_lH ?cm_ccH ?cm_kkH ?cm_aIo ?cm_lIo ?cm_ccIo ?cm_kkIo ?cm_aK ?cm_lK ?cm_ccK ?cm_kkK ?cm_aAn ?cm_lAn ?cm_ccAn ?cm_kkAn ?cm_aMa ?cm_lMa ?cm_ccMa ?cm_kkMa ?cm_aTha ?cm_lTha ?cm_ccTha ?cm_kkTha ?cm_aOp ?cm_lOp ?cm_ccOp ?cm_kkOp ?cm_aUs ?cm_lUs ?cm_ccUs ?cm_kkUs ?cm_aClo ?cm_lClo ?cm_ccClo ?cm_kkClo ?cm_aIsp ?cm_lIsp ?cm_ccIsp ?cm_kkIsp ?cm_aHu ?cm_lHu ?cm_ccHu ?cm_kkHu ?cm_aO3 ?cm_lO3 ?cm_ccO3 ?cm_kkO3 ?cm_aRi ?cm_lRi ?cm_ccRi ?cm_kkRi ?cm_aIc ?cm_lIc ?cm_ccIc ?cm_kkIc ?cm_aRo ?cm_lRo ?cm_ccRo ?cm_kkRo ?cm_aTs ?cm_lTs ?cm_ccTs ?cm_kkTs ?cm_aSt ?cm_lSt ?cm_ccSt ?cm_kkSt ?cm_aWu ?cm_lWu ?cm_ccWu ?cm_kkWu ?cm_aWa ?cm_lWa ?cm_ccWa ?cm_kkWa ?cm_aNm ?cm_lNm ?cm_ccNm ?cm_kkNm ?cm_aNu ?cm_lNu ?cm_ccNu ?cm_kkNu ?cm_aChT ?cm_lChT ?cm_ccChT ?cm_kkChT ?cm_gC ?cm_gCr ?cm_omN ?cm_ymN ?cm_lmN ?cm_ccmN ?cm_kkmN ?cm_omT ?cm_gmT ?cm_tmT ?cm_rmT ?cm_lmT ?cm_ccmT ?cm_kkmT ?cm_omO ?cm_gmO ?cm_tmO ?cm_rmO ?cm_lmO ?cm_ccmO ?cm_kkmO ?cm_omL ?cm_ymL ?cm_lmL ?cm_ccmL ?cm_kkmL ?cm_omC ?cm_ymC ?cm_lmC ?cm_ccmC ?cm_kkmC ?cm_omE ?cm_ymE ?cm_lmE ?cm_ccmE ?cm_kkmE ?cm_omM ?cm_ymM ?cm_lmM ?cm_ccmM ?cm_kkmM ?cm_ocI ?cm_ycI ?cm_lcI ?cm_cccI ?cm_kkcI ?cm_ocA ?cm_ycA ?cm_lcA ?cm_cccA ?cm_kkcA ?cm_ocB ?cm_ycB ?cm_lcB ?cm_cccB ?cm_kkcB ?cm_ocN ?cm_ycN ?cm_lcN ?cm_cccN ?cm_kkcN ?cm_ocD ?cm_ycD ?cm_lcD ?cm_cccD ?cm_kkcD ?cm_mkm ?cm_mkk ?cm_cpg ?cm_chd ?cm_cpo ?cm_csa ?cm_no1 ?cm_no2 ?cm_dcl ?cm_dget ?cm_dtk ?cm_mobj ?cm_dkm ?cm_dkk ?cm_dpg ?cm_dhd ?cm_dpo ?cm_dsa ?cm_dn1 ?cm_dn2 ?cm_dn3 ?cm_ddcl ?cm_dmobj ?cm_cmb ?cm_fncA ?cm_fncB ?cm_fncN ?cm_fncD ?cm_fnmM ?cm_hneR ?cm_hcR
    (case cm_n_int => k_is)
    (case cm_n_len => k_is)
    (case cm_n_abs => k_is)
    (case cm_n_range => k_is)
    (case cm_n_repr => k_is)
    (case cm_n_max => k_is)
    (case cm_n_min => k_is)
    (case cm_n_all => k_is)
    (case cm_n_list => k_is)
    (case cm_n_sorted => k_is)
    (case cm_n_set => k_is)
    (case cm_n_tuple => k_is)
    (case cm_n_str => k_is)
    (case cm_n_bool => k_is)
    (case cm_n_isinstance => k_is)
    (case cm_n_enumerate => k_is)
    (case cm_n_super => k_is)
    (case cm_n_divmod => k_is)
    (case cm_n_sum => k_is)
    (case cm_n_zip => k_is)
    (case cm_c_LEAST_THINGS => k_is)
    (case cm_c_MOST_THINGS => k_is)
    (case cm_c_MOST_ORDERS => k_is)
    (case cm_aJ => k_is)
    (case cm_lJ => k_is)
    (case cm_ccJ => k_is)
    (case cm_kkJ => k_is)
    (case cm_aW => k_is)
    (case cm_lW => k_is)
    (case cm_ccW => k_is)
    (case cm_kkW => k_is)
    (case cm_aR0 => k_is)
    (case cm_lR0 => k_is)
    (case cm_ccR0 => k_is)
    (case cm_kkR0 => k_is)
    (case cm_aTg => k_is)
    (case cm_lTg => k_is)
    (case cm_ccTg => k_is)
    (case cm_kkTg => k_is)
    (case cm_aSi => k_is)
    (case cm_lSi => k_is)
    (case cm_ccSi => k_is)
    (case cm_kkSi => k_is)
    (case cm_aSh => k_is)
    (case cm_lSh => k_is)
    (case cm_ccSh => k_is)
    (case cm_kkSh => k_is)
    (case cm_aWk => k_is)
    (case cm_lWk => k_is)
    (case cm_ccWk => k_is)
    (case cm_kkWk => k_is)
    (case cm_aPk => k_is)
    (case cm_lPk => k_is)
    (case cm_ccPk => k_is)
    (case cm_kkPk => k_is)
    (case cm_aR => k_is)
    (case cm_lR => k_is)
    (case cm_ccR => k_is)
    (case cm_kkR => k_is)
    (case cm_aIs => k_is)
    (case cm_lIs => k_is)
    (case cm_ccIs => k_is)
    (case cm_kkIs => k_is)
    (case cm_aH => k_is)
    (case cm_lH => k_is)
    (case cm_ccH => k_is)
    (case cm_kkH => k_is)
    (case cm_aIo => k_is)
    (case cm_lIo => k_is)
    (case cm_ccIo => k_is)
    (case cm_kkIo => k_is)
    (case cm_aK => k_is)
    (case cm_lK => k_is)
    (case cm_ccK => k_is)
    (case cm_kkK => k_is)
    (case cm_aAn => k_is)
    (case cm_lAn => k_is)
    (case cm_ccAn => k_is)
    (case cm_kkAn => k_is)
    (case cm_aMa => k_is)
    (case cm_lMa => k_is)
    (case cm_ccMa => k_is)
    (case cm_kkMa => k_is)
    (case cm_aTha => k_is)
    (case cm_lTha => k_is)
    (case cm_ccTha => k_is)
    (case cm_kkTha => k_is)
    (case cm_aOp => k_is)
    (case cm_lOp => k_is)
    (case cm_ccOp => k_is)
    (case cm_kkOp => k_is)
    (case cm_aUs => k_is)
    (case cm_lUs => k_is)
    (case cm_ccUs => k_is)
    (case cm_kkUs => k_is)
    (case cm_aClo => k_is)
    (case cm_lClo => k_is)
    (case cm_ccClo => k_is)
    (case cm_kkClo => k_is)
    (case cm_aIsp => k_is)
    (case cm_lIsp => k_is)
    (case cm_ccIsp => k_is)
    (case cm_kkIsp => k_is)
    (case cm_aHu => k_is)
    (case cm_lHu => k_is)
    (case cm_ccHu => k_is)
    (case cm_kkHu => k_is)
    (case cm_aO3 => k_is)
    (case cm_lO3 => k_is)
    (case cm_ccO3 => k_is)
    (case cm_kkO3 => k_is)
    (case cm_aRi => k_is)
    (case cm_lRi => k_is)
    (case cm_ccRi => k_is)
    (case cm_kkRi => k_is)
    (case cm_aIc => k_is)
    (case cm_lIc => k_is)
    (case cm_ccIc => k_is)
    (case cm_kkIc => k_is)
    (case cm_aRo => k_is)
    (case cm_lRo => k_is)
    (case cm_ccRo => k_is)
    (case cm_kkRo => k_is)
    (case cm_aTs => k_is)
    (case cm_lTs => k_is)
    (case cm_ccTs => k_is)
    (case cm_kkTs => k_is)
    (case cm_aSt => k_is)
    (case cm_lSt => k_is)
    (case cm_ccSt => k_is)
    (case cm_kkSt => k_is)
    (case cm_aWu => k_is)
    (case cm_lWu => k_is)
    (case cm_ccWu => k_is)
    (case cm_kkWu => k_is)
    (case cm_aWa => k_is)
    (case cm_lWa => k_is)
    (case cm_ccWa => k_is)
    (case cm_kkWa => k_is)
    (case cm_aNm => k_is)
    (case cm_lNm => k_is)
    (case cm_ccNm => k_is)
    (case cm_kkNm => k_is)
    (case cm_aNu => k_is)
    (case cm_lNu => k_is)
    (case cm_ccNu => k_is)
    (case cm_kkNu => k_is)
    (case cm_aChT => k_is)
    (case cm_lChT => k_is)
    (case cm_ccChT => k_is)
    (case cm_kkChT => k_is)
    (case cm_gC => k_is)
    (case cm_gCr => k_is)
    (case cm_omN => k_is)
    (case cm_ymN => k_is)
    (case cm_lmN => k_is)
    (case cm_ccmN => k_is)
    (case cm_kkmN => k_is)
    (case cm_omT => k_is)
    (case cm_gmT => k_is)
    (case cm_tmT => k_is)
    (case cm_rmT => k_is)
    (case cm_lmT => k_is)
    (case cm_ccmT => k_is)
    (case cm_kkmT => k_is)
    (case cm_omO => k_is)
    (case cm_gmO => k_is)
    (case cm_tmO => k_is)
    (case cm_rmO => k_is)
    (case cm_lmO => k_is)
    (case cm_ccmO => k_is)
    (case cm_kkmO => k_is)
    (case cm_omL => k_is)
    (case cm_ymL => k_is)
    (case cm_lmL => k_is)
    (case cm_ccmL => k_is)
    (case cm_kkmL => k_is)
    (case cm_omC => k_is)
    (case cm_ymC => k_is)
    (case cm_lmC => k_is)
    (case cm_ccmC => k_is)
    (case cm_kkmC => k_is)
    (case cm_omE => k_is)
    (case cm_ymE => k_is)
    (case cm_lmE => k_is)
    (case cm_ccmE => k_is)
    (case cm_kkmE => k_is)
    (case cm_omM => k_is)
    (case cm_ymM => k_is)
    (case cm_lmM => k_is)
    (case cm_ccmM => k_is)
    (case cm_kkmM => k_is)
    (case cm_ocI => k_is)
    (case cm_ycI => k_is)
    (case cm_lcI => k_is)
    (case cm_cccI => k_is)
    (case cm_kkcI => k_is)
    (case cm_ocA => k_is)
    (case cm_ycA => k_is)
    (case cm_lcA => k_is)
    (case cm_cccA => k_is)
    (case cm_kkcA => k_is)
    (case cm_ocB => k_is)
    (case cm_ycB => k_is)
    (case cm_lcB => k_is)
    (case cm_cccB => k_is)
    (case cm_kkcB => k_is)
    (case cm_ocN => k_is)
    (case cm_ycN => k_is)
    (case cm_lcN => k_is)
    (case cm_cccN => k_is)
    (case cm_kkcN => k_is)
    (case cm_ocD => k_is)
    (case cm_ycD => k_is)
    (case cm_lcD => k_is)
    (case cm_cccD => k_is)
    (case cm_kkcD => k_is)
    (case cm_mkm => kernel_rfl)
    (case cm_mkk => k_is)
    (case cm_cpg => kernel_rfl)
    (case cm_chd => kernel_rfl)
    (case cm_cpo => kernel_rfl)
    (case cm_csa => k_is)
    (case cm_no1 => k_is)
    (case cm_no2 => k_is)
    (case cm_dcl => k_is)
    (case cm_dget => k_is)
    (case cm_dtk => k_is)
    (case cm_mobj => k_is)
    (case cm_dkm => kernel_rfl)
    (case cm_dkk => k_is)
    (case cm_dpg => kernel_rfl)
    (case cm_dhd => kernel_rfl)
    (case cm_dpo => kernel_rfl)
    (case cm_dsa => k_is)
    (case cm_dn1 => k_is)
    (case cm_dn2 => k_is)
    (case cm_dn3 => k_is)
    (case cm_ddcl => k_is)
    (case cm_dmobj => k_is)
    (case cm_cmb => k_is)
    (case cm_fncA => first | k_is | kernel_rfl)
    (case cm_fncB => first | k_is | kernel_rfl)
    (case cm_fncN => first | k_is | kernel_rfl)
    (case cm_fncD => first | k_is | kernel_rfl)
    (case cm_fnmM => first | k_is | kernel_rfl)
    (case cm_hneR => k_is)
    (case cm_hcR => rfl)
