import PyProof.Rows.All
import Wide.All
import OpenK.AllK
import Wide.FinOn
import PyProof.EqAt
import PyProof.EqKinds
import PyProof.TupleCall
import KE.BitLaws
import PyProof.ReprRoads
import KE.KRevIter
import KE.KStar
import PyProof.CallFns
import PyProof.CollectWalk
import PyProof.FactsAll.tuple
import PyProof.ListRange
import PyProof.ReprLen
import PyProof.Rows.SetFrom
import PyProof.Rows.SortShellK
import PyProof.Rows.SortStr
import PyProof.Rows.StrInSeq3
import PyProof.SeqI3
import PyProof.SetRoads
import PyProof.TupleOfSeq
import PySem.Challenge.RW_callwishes_k37_tales_by_themselves
set_option Elab.async false
set_option linter.all false
set_option maxRecDepth 100000
namespace L2
open PySem PySem.Spec PyProof.Rows

mutual
def nOk : PyData → Bool
  | .none => true
  | .int _ => true
  | .str x => PyData.strOk x
  | .tuple xs => nOks xs
  | _ => false
def nOks : List PyData → Bool
  | [] => true
  | x :: xs => nOk x && nOks xs
end
mutual
def nHash (w : World) : PyData → Int
  | .none => reduceHash 0xFCA86420
  | .int i => hashInt i
  | .str x => hashStr w x
  | .tuple xs => reduceHash (Builtin.Tuple.tupleHashOf (nHashes w xs))
  | _ => 0
def nHashes (w : World) : List PyData → List Int
  | [] => []
  | x :: xs => nHash w x :: nHashes w xs
end
mutual
def nDraw : PyData → Nat
  | .none => 1
  | .int _ => 1
  | .str _ => 1
  | .tuple xs => nDraws xs + 1
  | _ => 0
def nDraws : List PyData → Nat
  | [] => 0
  | x :: xs => nDraw x + nDraws xs
end
mutual
theorem nOk_lay : ∀ {d : PyData}, nOk d = true → d.canLay0 = true
  | .none, _ => rfl
  | .int _, _ => rfl
  | .str _, h => by simpa [PyData.canLay0, nOk] using h
  | .tuple xs, h => by
    have := nOks_lay (ds := xs) (by simpa [nOk] using h)
    simpa [PyData.canLay0] using this
  | .bool _, h => by simp [nOk] at h
  | .list _, h => by simp [nOk] at h
  | .dict _, h => by simp [nOk] at h
theorem nOks_lay : ∀ {ds : List PyData}, nOks ds = true → PyData.canLayAll0 ds = true
  | [], _ => rfl
  | d :: ds, h => by
    have h' : nOk d = true ∧ nOks ds = true := by simpa [nOks] using h
    simp [PyData.canLayAll0, nOk_lay h'.1, nOks_lay h'.2]
end
mutual
theorem nOk_eqv : ∀ {d e : PyData}, nOk d = true → nOk e = true → PyData.eqv d e = true → d = e
  | .none, .none, _, _, _ => rfl
  | .int i, .int j, _, _, h => by have : i = j := by simpa [PyData.eqv] using h
                                  rw [this]
  | .str x, .str y, _, _, h => by have : x = y := by simpa [PyData.eqv] using h
                                  rw [this]
  | .tuple xs, .tuple ys, h1, h2, h => by
    have := nOks_eqv (ds := xs) (es := ys) (by simpa [nOk] using h1) (by simpa [nOk] using h2) (by simpa [PyData.eqv] using h)
    rw [this]
  | .none, .int _, _, _, h | .none, .str _, _, _, h | .none, .tuple _, _, _, h => by simp [PyData.eqv] at h
  | .int _, .none, _, _, h | .int _, .str _, _, _, h | .int _, .tuple _, _, _, h => by simp [PyData.eqv] at h
  | .str _, .none, _, _, h | .str _, .int _, _, _, h | .str _, .tuple _, _, _, h => by simp [PyData.eqv] at h
  | .tuple _, .none, _, _, h | .tuple _, .int _, _, _, h | .tuple _, .str _, _, _, h => by simp [PyData.eqv] at h
  | .bool _, _, h, _, _ | .list _, _, h, _, _ | .dict _, _, h, _, _ => by simp [nOk] at h
  | .none, .bool _, _, h, _ | .none, .list _, _, h, _ | .none, .dict _, _, h, _ => by simp [nOk] at h
  | .int _, .bool _, _, h, _ | .int _, .list _, _, h, _ | .int _, .dict _, _, h, _ => by simp [nOk] at h
  | .str _, .bool _, _, h, _ | .str _, .list _, _, h, _ | .str _, .dict _, _, h, _ => by simp [nOk] at h
  | .tuple _, .bool _, _, h, _ | .tuple _, .list _, _, h, _ | .tuple _, .dict _, _, h, _ => by simp [nOk] at h
theorem nOks_eqv : ∀ {ds es : List PyData}, nOks ds = true → nOks es = true → PyData.eqvAll ds es = true → ds = es
  | [], [], _, _, _ => rfl
  | [], _ :: _, _, _, h => by simp [PyData.eqvAll] at h
  | _ :: _, [], _, _, h => by simp [PyData.eqvAll] at h
  | d :: ds, e :: es, h1, h2, h => by
    have h1' : nOk d = true ∧ nOks ds = true := by simpa [nOks] using h1
    have h2' : nOk e = true ∧ nOks es = true := by simpa [nOks] using h2
    have h' : PyData.eqv d e = true ∧ PyData.eqvAll ds es = true := by simpa [PyData.eqvAll] using h
    rw [nOk_eqv h1'.1 h2'.1 h'.1, nOks_eqv h1'.2 h2'.2 h'.2]
end
mutual
theorem nOk_self : ∀ {d : PyData}, nOk d = true → PyData.eqv d d = true
  | .none, _ => by simp [PyData.eqv]
  | .int i, _ => by simp [PyData.eqv]
  | .str x, _ => by simp [PyData.eqv]
  | .tuple xs, h => by simp only [PyData.eqv]; exact nOks_self (ds := xs) (by simpa [nOk] using h)
  | .bool _, h => by simp [nOk] at h
  | .list _, h => by simp [nOk] at h
  | .dict _, h => by simp [nOk] at h
theorem nOks_self : ∀ {ds : List PyData}, nOks ds = true → PyData.eqvAll ds ds = true
  | [], _ => by simp [PyData.eqvAll]
  | d :: ds, h => by
    have h' : nOk d = true ∧ nOks ds = true := by simpa [nOks] using h
    simp only [PyData.eqvAll]
    rw [nOk_self h'.1, nOks_self h'.2]; rfl
end
noncomputable instance decPy : DecidableEq PyData := fun a b => Classical.propDecidable (a = b)
theorem nOk_dec {d e : PyData} (h1 : nOk d = true) (h2 : nOk e = true) : PyData.eqv d e = decide (d = e) := by
  by_cases h : d = e
  · subst h; rw [nOk_self h1, decide_eq_true rfl]
  · rw [decide_eq_false h]
    cases q : PyData.eqv d e with
    | false => rfl
    | true => exact absurd (nOk_eqv h1 h2 q) h

def nIs (h : Heap) (k : PyData) (a : Addr) : Prop := nOk k = true ∧ k.depth ≤ 8 ∧ ∃ as, Reads h (.ref a) k as
theorem nIs.inj {h : Heap} {a : Addr} {x y : PyData} (hx : nIs h x a) (hy : nIs h y a) : x = y := by
  obtain ⟨ox, _, as, rx⟩ := hx
  obtain ⟨_, _, bs, ry⟩ := hy
  exact SeqAt.Reads.unique x y _ as bs (nOk_lay ox) rx ry
mutual
theorem reads_keeps {h h' : Heap} {d : Addr} {o : Obj} {es ep} (ho : h.get? d = some o) (hd : o.data = .dict es ep) (hs : Heap.SameBut d h h') : ∀ (k : PyData) (v : Value) (as : List Addr), nOk k = true → Reads h v k as → Reads h' v k as
  | .none, _, _, _, r => by cases r; exact .none
  | .int _, _, _, _, r => by cases r; exact .int _ _
  | .str _, _, _, _, r => by cases r; exact .str _ _
  | .tuple xs, _, as, hk, r => by
    cases r with
    | @tuple a o' vs n _ _ g1 g2 g3 g4 =>
      have hne : a ≠ d := by
        rintro rfl
        obtain rfl : o' = o := Option.some.inj (g1.symm.trans ho)
        rw [hd] at g3; exact nomatch g3
      exact .tuple ((hs.2 a hne).trans g1) g2 g3 (readsAll_keeps ho hd hs xs _ _ (by simpa [nOk] using hk) g4)
  | .bool _, _, _, h, _ => by simp [nOk] at h
  | .list _, _, _, h, _ => by simp [nOk] at h
  | .dict _, _, _, h, _ => by simp [nOk] at h
theorem readsAll_keeps {h h' : Heap} {d : Addr} {o : Obj} {es ep} (ho : h.get? d = some o) (hd : o.data = .dict es ep) (hs : Heap.SameBut d h h') : ∀ (ks : List PyData) (vs : List Value) (as : List Addr), nOks ks = true → ReadsAll h vs ks as → ReadsAll h' vs ks as
  | [], _, _, _, r => by cases r; exact .nil
  | k :: ks, _, _, hk, r => by
    have hk' : nOk k = true ∧ nOks ks = true := by simpa [nOks] using hk
    cases r with
    | cons r1 r2 => exact .cons (reads_keeps ho hd hs k _ _ hk'.1 r1) (readsAll_keeps ho hd hs ks _ _ hk'.2 r2)
end
section
variable {prog : Program} {w : World} {E : Value → Shared → Prop}
set_option maxRecDepth 100000 in
mutual
theorem n_pyHash : ∀ (k : PyData) (v : Value) (as : List Addr) (A : Around) (s : Shared) (Q : Int → Shared → Prop), nOk k = true → Reads s.heap v k as → A.units + k.depth < cLine →
    Q (nHash w k) { s with toks := s.toks + nDraw k } → wpAny (model prog w) A (pyHash v) Q E s
  | .none, _, _, A, s, Q, _, r, hu, h => by
    cases r
    exact PySem.W.pyHash_slot (T := "NoneType") rfl F.slot_NoneType_hash F.entry_NoneType_hash (F.args_NoneType_hash_1 _) (beq_builtin_none _) (.inr (by omega)) (wpAny_bind (wpAny_pure (wpAny_bind (wpAny_mkInt (wpAny_pure ⟨_, _, rfl, h⟩)))))
  | .int i, _, _, A, s, Q, _, r, _, h => by cases r; exact wpAny_pyHash_int h
  | .str y, _, _, A, s, Q, _, r, _, h => by cases r; exact wpAny_pyHash_str h
  | .tuple xs, _, as, A, s, Q, hk, r, hu, h => by
    cases r with
    | @tuple a o vs n _ _ g1 g2 g3 g4 =>
      refine PySem.W.pyHash_slot (T := "tuple") ⟨_, g1, g2⟩ F.slot_tuple_hash F.entry_tuple_hash (F.args_tuple_hash_1 _) (beq_builtin_none _) (.inr (by omega)) ?_
      show wpAny _ _ (Builtin.Tuple.tupleItemsOf (.ref a) >>= _) _ _ s
      refine wpAny_bind (wpAny_tupleItemsOf g1 g3 ?_)
      refine wpAny_bind ?_
      rw [← Array.forIn_toList]
      refine n_hashes xs vs.toList as A.in1 s #[] _ (by simpa [nOk] using hk) g4 (by simp only [PyData.depth, Around.in1_units] at hu ⊢; omega) fun b hb => ?_
      show wpAny _ _ (retInt (Builtin.Tuple.tupleHashOf b.toList)) _ _ _
      rw [hb]
      refine wpAny_bind (wpAny_mkInt (wpAny_pure ⟨_, _, rfl, ?_⟩))
      have h : Q (reduceHash (Builtin.Tuple.tupleHashOf (nHashes w xs))) { s with toks := s.toks + (nDraws xs + 1) } := h
      simpa [Nat.add_assoc] using h
  | .bool _, _, _, _, _, _, h, _, _, _ => by simp [nOk] at h
  | .list _, _, _, _, _, _, h, _, _, _ => by simp [nOk] at h
  | .dict _, _, _, _, _, _, h, _, _, _ => by simp [nOk] at h
theorem n_hashes : ∀ (ks : List PyData) (vs : List Value) (as : List Addr) (A : Around) (s : Shared) (b : Array Int) (Q : Array Int → Shared → Prop), nOks ks = true → ReadsAll s.heap vs ks as → A.units + PyData.depthAll ks < cLine →
    (∀ b', b'.toList = b.toList ++ nHashes w ks → Q b' { s with toks := s.toks + nDraws ks }) →
    wpAny (model prog w) A (forIn vs b fun x r => do let h ← pyHash x; pure PUnit.unit; pure (ForInStep.yield (r.push h))) Q E s
  | [], _, _, A, s, b, Q, _, r, _, h => by cases r; exact wpAny_pure (h b (by simp [nHashes]))
  | k :: ks, _, _, A, s, b, Q, hk, r, hu, h => by
    have hk' : nOk k = true ∧ nOks ks = true := by simpa [nOks] using hk
    simp only [PyData.depthAll] at hu
    cases r with
    | cons r1 r2 =>
      rw [List.forIn_cons]
      refine wpAny_bind (wpAny_bind (n_pyHash k _ _ A s _ hk'.1 r1 (by omega) ?_))
      refine wpAny_bind (wpAny_pure (wpAny_pure ?_))
      refine n_hashes ks _ _ A _ _ Q hk'.2 r2 (by omega) fun b' hb => ?_
      have := h b' (by simp [hb, nHashes])
      simpa [nDraws, Nat.add_assoc] using this
end
mutual
theorem n_quiet : ∀ (k : PyData) (v : Value) (as : List Addr) (A : Around) (s : Shared) (Q : Bool → Shared → Prop) (n : Nat), nOk k = true → Reads s.heap v k as → k.depth ≤ n → Q true s → wpAny (model prog w) A (eqIsQuiet n v) Q E s
  | .none, _, _, A, s, Q, n, _, r, _, h => by cases r; rw [eqIsQuiet_byValue n rfl]; exact wpAny_pure h
  | .int i, _, _, A, s, Q, n, _, r, _, h => by cases r; rw [eqIsQuiet_byValue n rfl]; exact wpAny_pure h
  | .str y, _, _, A, s, Q, n, _, r, _, h => by cases r; rw [eqIsQuiet_byValue n rfl]; exact wpAny_pure h
  | .tuple xs, _, as, A, s, Q, n, hk, r, hn, h => by
    cases r with
    | @tuple a o vs nn _ _ g1 g2 g3 g4 =>
      simp only [PyData.depth] at hn
      obtain ⟨m, rfl⟩ : ∃ m, n = m + 1 := ⟨n - 1, by omega⟩
      have hT : s.TypeIs (.ref a) "tuple" := ⟨_, g1, g2⟩
      unfold eqIsQuiet
      refine wpAny_bind (wpAny_specialOf hT F.slot_tuple_eq.lookup ?_)
      show wpAny _ _ (isInstance (.ref a) (.type "tuple") >>= _) _ _ s
      refine wpAny_bind (wpAny_isInstance hT isSubtype_tuple_tuple ?_)
      simp only [Bool.not_true, Bool.false_eq_true, if_false]
      refine wpAny_bind (wpAny_seqItems g1 g3 ?_)
      refine wpAny_bind ?_
      show wpAny _ _ (forIn vs _ _) _ _ s
      rw [← Array.forIn_toList]
      refine wpAny_forIn_list _ (fun rest r s' => r.1 = none ∧ s' = s ∧ ∃ ys bs, ReadsAll s.heap rest ys bs ∧ nOks ys = true ∧ PyData.depthAll ys ≤ m ∧ ∀ y ∈ ys, y ∈ xs) _ ?_ ?_ _ _ ⟨rfl, rfl, xs, _, g4, by simpa [nOk] using hk, by omega, fun _ q => q⟩
      · rintro v rest r s' ⟨hr, rfl, ys, bs, q1, q2, q3, q4⟩
        cases q1 with
        | @cons _ _ d ds _ _ r1 r2 =>
          have q2' : nOk d = true ∧ nOks ds = true := by simpa [nOks] using q2
          simp only [PyData.depthAll] at q3
          have hmem := q4 d List.mem_cons_self
          refine wpAny_bind (n_quiet d v _ A s' _ m q2'.1 r1 (by omega) ?_)
          simp only [Bool.not_true, Bool.false_eq_true, if_false]
          exact wpAny_pure ⟨rfl, rfl, ds, _, r2, q2'.2, by omega, fun y hy => q4 y (List.mem_cons_of_mem _ hy)⟩
      · rintro ⟨r1, r2⟩ s' ⟨hr, rfl, _⟩
        simp only at hr
        subst hr
        exact wpAny_pure h
  | .bool _, _, _, _, _, _, _, h, _, _, _ => by simp [nOk] at h
  | .list _, _, _, _, _, _, _, h, _, _, _ => by simp [nOk] at h
  | .dict _, _, _, _, _, _, _, h, _, _, _ => by simp [nOk] at h
termination_by k => sizeOf k
decreasing_by
  all_goals simp_wf
  have := List.sizeOf_lt_of_mem hmem
  omega
end
end
noncomputable def nestKind (prog : Program) (w : World) : HeapKind prog w PyData where
  is := nIs
  hash := nHash w
  draws := nDraw
  room := fun A => A.units + 8 < cLine
  inj := fun hx hy => hx.inj hy
  keeps := fun x ho hd hs => by
    obtain ⟨o, d, as, r⟩ := x
    exact ⟨o, d, as, reads_keeps ho hd hs _ _ _ o r⟩
  pyHash := fun {A E s k a Q} hu hk h => by
    obtain ⟨o, d, as, r⟩ := hk
    exact n_pyHash k _ as A s Q o r (by omega) h
  eqBool := fun {A E s x y a b Q} hu hx hy h => by
    obtain ⟨ox, dx, as, rx⟩ := hx
    obtain ⟨oy, dy, bs, ry⟩ := hy
    refine SeqAt.eqAt_reads x y A s _ _ as bs rx ry (nOk_lay ox) (nOk_lay oy) (by have := Nat.min_le_left x.depth y.depth; omega) prog w E Q ?_
    rw [nOk_dec ox oy]; exact h
  quiet := fun {A E s k a Q} hk h => by
    obtain ⟨o, d, as, r⟩ := hk
    exact n_quiet k _ as A s Q 8 o r d h
end L2

namespace L2
open PySem PySem.Spec PyProof.Rows

/-- a key: an int or a str -/
abbrev Key := Sum Int Str
def keyIs : Key → Value → Bool
  | .inl k, v => Value.isInt k v
  | .inr x, v => Value.isStrOf x v
def keyH (w : World) : Key → Int
  | .inl k => hashInt k
  | .inr x => hashStr w x
theorem keyIs_shape : ∀ {k : Key} {v : Value}, keyIs k v = true → (∃ i t, k = Sum.inl i ∧ v = Value.int i t) ∨ (∃ x t, k = Sum.inr x ∧ v = Value.str x t)
  | .inl i, v, h => by
    obtain ⟨t, e⟩ := Value.isInt_shape (k := i) (v := v) h
    exact .inl ⟨i, t, rfl, e⟩
  | .inr x, v, h => by
    obtain ⟨t, e⟩ := Value.isStrOf_shape (x := x) (v := v) h
    exact .inr ⟨x, t, rfl, e⟩
theorem keyIs_int (i : Int) (t : Tok) : keyIs (.inl i) (.int i t) = true := by simp [keyIs, Value.isInt]
theorem keyIs_str (x : Str) (t : Tok) : keyIs (.inr x) (.str x t) = true := by simp [keyIs, Value.isStrOf]
theorem key_ll (a b : Int) : decide ((Sum.inl a : Key) = Sum.inl b) = (a == b) := by
  by_cases e : a = b
  · subst e; simp
  · have h : ¬ (Sum.inl a : Key) = Sum.inl b := fun q => e (Sum.inl.inj q)
    rw [decide_eq_false h]
    exact (beq_eq_false_iff_ne.mpr e).symm
theorem key_rr (a b : Str) : decide ((Sum.inr a : Key) = Sum.inr b) = decide (a = b) := by
  by_cases e : a = b
  · subst e; simp
  · have h : ¬ (Sum.inr a : Key) = Sum.inr b := fun q => e (Sum.inr.inj q)
    rw [decide_eq_false h, decide_eq_false e]
theorem key_lr (a : Int) (b : Str) : decide ((Sum.inl a : Key) = Sum.inr b) = false := decide_eq_false (fun q => nomatch q)
theorem key_rl (a : Str) (b : Int) : decide ((Sum.inr a : Key) = Sum.inl b) = false := decide_eq_false (fun q => nomatch q)

def mixKind (prog : Program) (w : World) : PySem.KeyKind prog w Key where
  is := keyIs
  hash := keyH w
  inj := fun v a b ha hb => by
    rcases keyIs_shape ha with ⟨i, t, rfl, rfl⟩ | ⟨x, t, rfl, rfl⟩
    · rcases keyIs_shape hb with ⟨j, u, rfl, e⟩ | ⟨y, u, rfl, e⟩
      · injection e with e1 _; rw [e1]
      · exact nomatch e
    · rcases keyIs_shape hb with ⟨j, u, rfl, e⟩ | ⟨y, u, rfl, e⟩
      · exact nomatch e
      · injection e with e1 _; rw [e1]
  byValue := fun k v h => by
    rcases keyIs_shape h with ⟨i, t, rfl, rfl⟩ | ⟨x, t, rfl, rfl⟩ <;> rfl
  pyHash := fun hv h => by
    rcases keyIs_shape hv with ⟨i, t, rfl, rfl⟩ | ⟨x, t, rfl, rfl⟩
    · exact wpAny_pyHash_int h
    · exact wpAny_pyHash_str h
  eqBool := fun hu hv h => by
    rcases keyIs_shape hu with ⟨i, t, rfl, rfl⟩ | ⟨x, t, rfl, rfl⟩
    · rcases keyIs_shape hv with ⟨j, u, rfl, rfl⟩ | ⟨y, u, rfl, rfl⟩
      · rw [key_ll] at h; exact wpAny_eqBool_int h
      · rw [key_lr] at h; exact SeqAt.EqAt.int_str i t y u _ _ _ _ h
    · rcases keyIs_shape hv with ⟨j, u, rfl, rfl⟩ | ⟨y, u, rfl, rfl⟩
      · rw [key_rl] at h; exact SeqAt.EqAt.str_int x t j u _ _ _ _ h
      · rw [key_rr] at h; exact wpAny_eqBool_str h
  «strs» := fun k x t v h => by
    rcases keyIs_shape h with ⟨i, u, rfl, e⟩ | ⟨y, u, rfl, e⟩
    · exact nomatch e
    · injection e with e1 _
      subst e1
      cases v <;> rfl

theorem mixKind_int (prog : Program) (w : World) (i : Int) (t : Tok) : (mixKind prog w).is (.inl i) (.int i t) = true := keyIs_int i t
theorem mixKind_str (prog : Program) (w : World) (x : Str) (t : Tok) : (mixKind prog w).is (.inr x) (.str x t) = true := keyIs_str x t
end L2

namespace L2
open PySem PySem.Spec PyProof.Rows

/-- a value, without the heap -/
inductive V where
  | non | bl (b : Bool) | int (i : Int) | str (x : Str) | byt (b : Array UInt8) | flt (b : UInt64) | ref (a : Addr) | ty (n : String)
  deriving DecidableEq

def RelV : V → Value → Prop
  | .non, u => u = Value.none
  | .bl b, u => u = Value.bool b
  | .int i, u => ∃ t, u = Value.int i t
  | .str x, u => ∃ t, u = Value.str x t
  | .byt b, u => ∃ t, u = Value.bytes b t
  | .flt b, u => ∃ t, u = Value.float b t
  | .ref a, u => u = Value.ref a
  | .ty n, u => u = Value.type n

abbrev Vals : List V → List Value → Prop := Paired RelV
theorem Vals.length {xs : List V} {us : List Value} (r : Vals xs us) : xs.length = us.length := Paired.length r
theorem Vals.get : ∀ {xs : List V} {us : List Value} {i : Nat} {x : V}, Vals xs us → xs[i]? = some x → ∃ u, us[i]? = some u ∧ RelV x u
  | _, _, _, _, .nil, e => by simp at e
  | _, _, 0, _, .cons r _, e => by simp at e; subst e; exact ⟨_, rfl, r⟩
  | _, _, i + 1, x, .cons _ t, e => by
    obtain ⟨u, h1, h2⟩ := Vals.get (i := i) (x := x) t (by simpa using e)
    exact ⟨u, by simpa using h1, h2⟩
theorem Vals.set {x : V} {u : Value} (r : RelV x u) : ∀ {xs : List V} {us : List Value} (i : Nat), Vals xs us → Vals (xs.set i x) (us.set i u)
  | _, _, _, .nil => .nil
  | _, _, 0, .cons _ t => .cons r t
  | _, _, i + 1, .cons q t => .cons q (Vals.set r i t)
theorem Vals.append : ∀ {xs ys : List V} {us ws : List Value}, Vals xs us → Vals ys ws → Vals (xs ++ ys) (us ++ ws)
  | _, _, _, _, .nil, s => s
  | _, _, _, _, .cons r t, s => .cons r (Vals.append t s)
theorem Vals.take : ∀ {xs : List V} {us : List Value} (n : Nat), Vals xs us → Vals (xs.take n) (us.take n)
  | _, _, 0, _ => .nil
  | _, _, _ + 1, .nil => .nil
  | _, _, n + 1, .cons r t => .cons r (Vals.take n t)
theorem Vals.drop : ∀ {xs : List V} {us : List Value} (n : Nat), Vals xs us → Vals (xs.drop n) (us.drop n)
  | _, _, 0, r => r
  | _, _, _ + 1, .nil => .nil
  | _, _, n + 1, .cons _ t => Vals.drop n t
theorem Vals.none_of : ∀ {xs : List V} {us : List Value} {i : Nat}, Vals xs us → xs[i]? = none → us[i]? = none := fun {xs us i} r e => by
  have h1 := r.length
  have h2 : xs.length ≤ i := List.getElem?_eq_none_iff.mp e
  exact List.getElem?_eq_none_iff.mpr (by omega)

def RelO : Option V → Option Value → Prop
  | some v, some u => RelV v u
  | none, none => True
  | _, _ => False
def KV {κ : Type} : List (κ × V) → List (κ × Value) → Prop := Paired fun (p : κ × V) (q : κ × Value) => p.1 = q.1 ∧ RelV p.2 q.2

/-- a key of a dict (00_mix): an int or a text -/
def kV : Key → V
  | .inl i => .int i
  | .inr x => .str x

/-- what stands at a tracked address -/
inductive HO where
  /-- a list -/
  | lst (xs : List V)
  /-- a tuple (never changes) -/
  | tup (xs : List V)
  /-- a dict whose keys are ints and texts; one whose keys are tuples of ints and texts (the empty one is both) -/
  | dK (kvs : List (Key × V)) | dT (kvs : List (List Key × V))
  /-- a dict whose keys are nested tuples: each with the address of its key -/
  | dN (kvs : List (PyData × Addr × V))
  /-- a set of ints: its members, its size -/
  | set (S : Int → Bool) (n : Nat)
  /-- an instance of the class at C, its dict at dx, its attributes -/
  | ins (C dx : Addr) (fs : List (Str × V))
  /-- the dict of the instance at x -/
  | own (x : Addr)
  /-- the dict of an exception -/
  | xd (fs : List (Str × V))
  /-- a bound method, f of x -/
  | met (f x : Addr)
  /-- a range object lo, lo + 1, .. below hi -/
  | rng (lo hi : Int)
  /-- a thing that is known to the object (the script; a dict while a loop walks it): read, never written while it is so -/
  | frz (o : Obj) (u : HO)
  /-- a code object's table -/
  | tbl (ps : Array Value)
  /-- any other thing, by what is true of its one object (a def of one's own: SetO a S n := HO.ext fun h => ..) -/
  | ext (φ : Heap → Prop)

abbrev Hp := Addr → Option HO
def upd (H : Hp) (a : Addr) (o : HO) : Hp := fun b => if b = a then some o else H b
theorem upd_same {H : Hp} {a : Addr} {o : HO} : upd H a o a = some o := by unfold upd; rw [if_pos rfl]
theorem upd_ne {H : Hp} {a b : Addr} {o : HO} (h : b ≠ a) : upd H a o b = H b := by unfold upd; rw [if_neg h]
/-- two objects of different content stand apart -/
theorem ne_of {H : Hp} {a b : Addr} {o u : HO} (h : H a = some o) (h' : H b = some u) (d : o ≠ u) : a ≠ b := by
  intro e; subst e; rw [h] at h'; exact d (Option.some.inj h')
theorem ne_of_none {H : Hp} {a b : Addr} {o : HO} (h : H a = some o) (h' : H b = none) : a ≠ b := by
  intro e; subst e; rw [h] at h'; cases h'

/-- a tuple without a dict of its own -/
def IsTupP (h : Heap) (a : Addr) (its : Array Value) : Prop := ∃ o, h.get? a = some o ∧ o.cls = .type "tuple" ∧ ∃ n, (o.data, o.dict) = (.seq its n, none)
theorem IsTupP.is {h : Heap} {a : Addr} {its : Array Value} (x : IsTupP h a its) : IsTup h a its := let ⟨o, e, c, n, d⟩ := x; ⟨o, e, c, n, congrArg Prod.fst d⟩
theorem IsTupP.nd {h : Heap} {a : Addr} {its : Array Value} (x : IsTupP h a its) : ∃ o, h.get? a = some o ∧ o.dict = none := let ⟨o, e, c, n, d⟩ := x; ⟨o, e, congrArg Prod.snd d⟩
theorem IsTupP.new (h : Heap) (items : Array Value) : IsTupP (h.push { cls := .type "tuple", data := .seq items }) h.objs.size items := ⟨_, Heap.get?_push_size _ rfl, rfl, _, rfl⟩
section
variable (P : Program) (w : World)
def ObjOk (H : Hp) (h : Heap) (a : Addr) : HO → Prop
  | .lst xs => xs.length ≤ sizeLine ∧ ∃ (its : List Value) (n : Nat), Vals xs its ∧ h.get? a = some { cls := .type "list", data := .seq its.toArray n }
  | .tup xs => xs.length ≤ sizeLine ∧ ∃ its : List Value, Vals xs its ∧ IsTupP h a its.toArray
  | .dK kvs => kvs.length ≤ sizeLine ∧ (a == sysModules) = false ∧ ∃ vs, KV kvs vs ∧ h.DictOf (mixKind P w) a vs
  | .dT kvs => kvs.length ≤ sizeLine ∧ (a == sysModules) = false ∧ ∃ xs : List (List Key × Addr × Value),
      Paired (fun (p : List Key × V) (q : List Key × Addr × Value) => p.1 = q.1 ∧ H q.2.1 = some (.tup (p.1.map kV)) ∧ RelV p.2 q.2.2) kvs xs ∧
      ∃ o es ep, h.get? a = some o ∧ o.ExactDict ∧ o.data = .dict es ep ∧ es.toList = xs.map (entryOfKey (tupleKind (mixKind P w))) ∧ (xs.map (·.1)).Nodup
  | .dN kvs => kvs.length ≤ sizeLine ∧ (a == sysModules) = false ∧ ∃ xs : List (PyData × Addr × Value),
      Paired (fun (p : PyData × Addr × V) (q : PyData × Addr × Value) => p.1 = q.1 ∧ p.2.1 = q.2.1 ∧ RelV p.2.2 q.2.2) kvs xs ∧
      ∃ o es ep, h.get? a = some o ∧ o.ExactDict ∧ o.data = .dict es ep ∧ es.toList = xs.map (entryOfKey (nestKind P w)) ∧ (xs.map (·.1)).Nodup
  | .set S n => h.SetOf (intKind P w) a S n
  | .ins C dx fs => H dx = some (.own a) ∧ fs.length ≤ 1000 ∧ dx ≠ a ∧ h.get? a = some (PySem.W.instObj C dx) ∧
      ∃ mA, h.Ns1 dx mA ∧ (∀ f, RelO (fs.lookup f) (mA f)) ∧ PySem.Within mA (fs.map (·.1))
  | .own _ => ∃ o, h.get? a = some o
  | .xd fs => ∃ mA, h.Ns1 a mA ∧ ∀ f, RelO (fs.lookup f) (mA f)
  | .rng lo hi => ∃ t u v, h.get? a = some { cls := .type "range", data := .fields #[.int lo t, .int hi u, .int 1 v] }
  | .frz o u => h.get? a = some o ∧ ObjOk H h a u
  | .tbl ps => h.get? a = some { cls := .none, data := .fields ps }
  | .met f x => h.get? a = some (PySem.W.methodObj (.ref f) (.ref x))
  | .ext φ => φ h ∧ (∃ o, h.get? a = some o) ∧ ∀ h1 h2 : Heap, φ h1 → (∀ o, h1.get? a = some o → h2.get? a = some o) → φ h2
/-- the abstract heap is held -/
def HOk (H : Hp) (h : Heap) : Prop := ∀ a o, H a = some o → ObjOk P w H h a o
end

section
variable {P : Program} {w : World} {H H' : Hp} {h h' : Heap} {a : Addr} {o : HO}
theorem ObjOk.lt (x : ObjOk P w H h a o) : a < h.objs.size := by
  cases o with
  | lst xs => obtain ⟨_, _, _, _, e⟩ := x; exact Heap.lt_size e
  | tup xs => obtain ⟨_, _, _, p⟩ := x; exact p.is.lt
  | dK kvs => obtain ⟨_, _, _, _, o, _, _, e, _⟩ := x; exact Heap.lt_size e
  | dT kvs => obtain ⟨_, _, _, _, o, _, _, e, _⟩ := x; exact Heap.lt_size e
  | dN kvs => obtain ⟨_, _, _, _, o, _, _, e, _⟩ := x; exact Heap.lt_size e
  | set S n => obtain ⟨o, _, _, _, e, _⟩ := x; exact Heap.lt_size e
  | ins C dx fs => obtain ⟨_, _, _, e, _⟩ := x; exact Heap.lt_size e
  | own y => obtain ⟨_, e⟩ := x; exact Heap.lt_size e
  | xd fs => obtain ⟨_, ⟨_, _, _, e, _⟩, _⟩ := x; exact Heap.lt_size e
  | rng lo hi => obtain ⟨_, _, _, e⟩ := x; exact Heap.lt_size e
  | frz ob u => obtain ⟨e, _⟩ := x; exact Heap.lt_size e
  | tbl ps => exact Heap.lt_size (show h.get? a = some _ from x)
  | met f y => exact Heap.lt_size (show h.get? a = some _ from x)
  | ext φ => obtain ⟨_, ⟨_, e⟩, _⟩ := x; exact Heap.lt_size e
theorem Paired.mapP {α β : Type} {F G : α → β → Prop} : ∀ {l₁ : List α} {l₂ : List β}, Paired F l₁ l₂ → (∀ a b, F a b → G a b) → Paired G l₁ l₂
  | _, _, .nil, _ => .nil
  | _, _, .cons r t, f => .cons (f _ _ r) (Paired.mapP t f)
/-- what an object's description leans on: its own object, its own dict, the tuples -/
theorem ObjOk.stay (x : ObjOk P w H h a o) (k : ∀ b u, (b = a ∨ H b = some (.own a)) → h.get? b = some u → h'.get? b = some u)
    (ho : ∀ b, H b = some (.own a) → H' b = some (.own a)) (ht : ∀ b xs, H b = some (.tup xs) → H' b = some (.tup xs)) : ObjOk P w H' h' a o := by
  induction o with
  | lst xs => obtain ⟨z, its, n, r, e⟩ := x; exact ⟨z, its, n, r, k _ _ (.inl rfl) e⟩
  | tup xs => obtain ⟨z, its, r, ob, e, c⟩ := x; exact ⟨z, its, r, ob, k _ _ (.inl rfl) e, c⟩
  | dK kvs => obtain ⟨z, y, vs, r, ob, es, ep, e, c⟩ := x; exact ⟨z, y, vs, r, ob, es, ep, k _ _ (.inl rfl) e, c⟩
  | dN kvs => obtain ⟨z, y, xs, r, ob, es, ep, e, c⟩ := x; exact ⟨z, y, xs, r, ob, es, ep, k _ _ (.inl rfl) e, c⟩
  | dT kvs =>
    obtain ⟨z, y, xs, r, ob, es, ep, e, c⟩ := x
    exact ⟨z, y, xs, Paired.mapP r fun p q z => ⟨z.1, ht _ _ z.2.1, z.2.2⟩, ob, es, ep, k _ _ (.inl rfl) e, c⟩
  | set S n => obtain ⟨ob, es, ep, t, e, c⟩ := x; exact ⟨ob, es, ep, t, k _ _ (.inl rfl) e, c⟩
  | ins C dx fs =>
    obtain ⟨d, z, ne, e, mA, ⟨od, es, ep, e2, c⟩, r⟩ := x
    exact ⟨ho _ d, z, ne, k _ _ (.inl rfl) e, mA, ⟨od, es, ep, k _ _ (.inr d) e2, c⟩, r⟩
  | own y => obtain ⟨ob, e⟩ := x; exact ⟨ob, k _ _ (.inl rfl) e⟩
  | xd fs => obtain ⟨mA, ⟨od, es, ep, e, c⟩, r⟩ := x; exact ⟨mA, ⟨od, es, ep, k _ _ (.inl rfl) e, c⟩, r⟩
  | rng lo hi => obtain ⟨t, u, v, e⟩ := x; exact ⟨t, u, v, k _ _ (.inl rfl) e⟩
  | frz ob u ih => obtain ⟨e, q⟩ := x; exact ⟨k _ _ (.inl rfl) e, ih q⟩
  | tbl ps =>
    have e : h.get? a = some { cls := .none, data := .fields ps } := x
    show h'.get? a = some { cls := .none, data := .fields ps }
    exact k a _ (.inl rfl) e
  | met f y =>
    have e : h.get? a = some (PySem.W.methodObj (.ref f) (.ref y)) := x
    show h'.get? a = some (PySem.W.methodObj (.ref f) (.ref y))
    exact k a _ (.inl rfl) e
  | ext φ => obtain ⟨p, ⟨o, e⟩, st⟩ := x; exact ⟨st _ _ p fun o q => k _ _ (.inl rfl) q, ⟨o, k _ _ (.inl rfl) e⟩, st⟩
theorem HOk.lt (x : HOk P w H h) (e : H a = some o) : a < h.objs.size := (x a o e).lt
theorem HOk.fresh (x : HOk P w H h) (e : h.objs.size ≤ a) : H a = none := by
  cases q : H a with
  | none => rfl
  | some u => exact absurd (Nat.lt_of_lt_of_le (x.lt q) e) (Nat.lt_irrefl _)
/-- every object of the heap is kept -/
theorem HOk.kept (x : HOk P w H h) (k : ∀ b u, h.get? b = some u → h'.get? b = some u) : HOk P w H h' := fun a o e =>
  (x a o e).stay (fun b u _ q => k b u q) (fun _ q => q) fun _ _ q => q
/-- a new object is laid and tracked -/
theorem HOk.laid (x : HOk P w H h) (k : ∀ b u, h.get? b = some u → h'.get? b = some u) (hp : h.objs.size ≤ a) (new : ObjOk P w (upd H a o) h' a o) : HOk P w (upd H a o) h' := fun b u e => by
  have hn := x.fresh hp
  by_cases hb : b = a
  · subst hb; rw [upd_same] at e; cases e; exact new
  · rw [upd_ne hb] at e
    exact (x b u e).stay (fun c v _ q => k c v q) (fun c q => by rw [upd_ne (ne_of_none q hn)]; exact q) fun c xs q => by rw [upd_ne (ne_of_none q hn)]; exact q
end

/-- what may be read as u: it is u, or a known u -/
def Rd (H : Hp) (a : Addr) (u : HO) : Prop := H a = some u ∨ ∃ o, H a = some (.frz o u)
theorem Rd.of {H : Hp} {a : Addr} {u : HO} (h : H a = some u) : Rd H a u := .inl h
theorem Rd.ok {P : Program} {w : World} {H : Hp} {h : Heap} {a : Addr} {u : HO} (r : Rd H a u) (x : HOk P w H h) : ObjOk P w H h a u := by
  rcases r with r | ⟨o, r⟩
  · exact x a u r
  · obtain ⟨_, q⟩ := x a _ r
    exact q
/-- what may be written -/
def Mut : Option HO → Prop
  | some (.lst _) => True
  | some (.dK _) => True
  | some (.dT _) => True
  | some (.dN _) => True
  | some (.set _ _) => True
  | some (.ins _ _ _) => True
  | some (.ext _) => True
  | _ => False
section
variable {P : Program} {w : World} {H : Hp} {h h' : Heap} {x e : Addr} {o' : HO}
/-- the object at e is changed: x itself, or the dict of the instance x -/
theorem HOk.write (ok : HOk P w H h) (mu : Mut (H x)) (he : e = x ∨ H e = some (.own x)) (k : ∀ b u, b ≠ e → h.get? b = some u → h'.get? b = some u) (heo : ∃ u, h'.get? e = some u)
    (new : ObjOk P w (upd H x o') h' x o') : HOk P w (upd H x o') h' := fun b u q => by
  have nown : ∀ c y, H c = some (.own y) → c ≠ x := fun c y r z => by subst z; rw [r] at mu; exact mu
  have ntup : ∀ c xs, H c = some (.tup xs) → c ≠ x := fun c xs r z => by subst z; rw [r] at mu; exact mu
  by_cases hb : b = x
  · subst hb; rw [upd_same] at q; cases q; exact new
  · rw [upd_ne hb] at q
    by_cases hbe : b = e
    · have q' : H b = some (.own x) := by
        rcases he with z | z
        · exact absurd (hbe.trans z) hb
        · rw [hbe]; exact z
      rw [q] at q'; cases q'
      obtain ⟨v, hv⟩ := heo
      exact ⟨v, by rw [hbe]; exact hv⟩
    · refine (ok b u q).stay (fun c v hc r => k c v ?_ r) (fun c r => by rw [upd_ne (nown c b r)]; exact r) fun c xs r => by rw [upd_ne (ntup c xs r)]; exact r
      rcases hc with rfl | hc
      · exact hbe
      · rintro rfl
        rcases he with z | z
        · exact nown c b hc z
        · rw [hc] at z; cases z; exact hb rfl
end

structure Un (fs ex : List Addr) (H H' : Hp) (h h' : Heap) : Prop where
  keep : ∀ b o, h.get? b = some o → H b = none → b ∉ fs → b ∉ ex → h'.get? b = some o
  slot : ∀ b o, h.get? b = some o → H b = none → b ∈ fs → b ∉ ex → ∃ sl, h'.get? b = some { o with slots := sl }
  free : ∀ b o, h.get? b = some o → H b = none → b ∉ ex → H' b = none
  there : ∀ b o, h.get? b = some o → b ∉ ex → ∃ o', h'.get? b = some o'
  tups : ∀ b xs, H b = some (.tup xs) → H' b = some (.tup xs)
  frzs : ∀ b o u, H b = some (.frz o u) → H' b = some (.frz o u)
  tbls : ∀ b ps, H b = some (.tbl ps) → ∃ more, H' b = some (.tbl (ps ++ more))
section
variable {fs fs' ex ex' : List Addr} {H H1 H2 : Hp} {h h1 h2 h' : Heap} {a x e : Addr} {o : HO}
theorem Un.any (u : Un fs ex H H1 h h1) {b : Addr} {ob : Obj} (q : h.get? b = some ob) (n : H b = none) (hx : b ∉ ex) : ∃ sl, h1.get? b = some { ob with slots := sl } := by
  by_cases hb : b ∈ fs
  · exact u.slot b ob q n hb hx
  · exact ⟨ob.slots, u.keep b ob q n hb hx⟩
theorem Un.trans (a : Un fs ex H H1 h h1) (b : Un fs ex H1 H2 h1 h2) : Un fs ex H H2 h h2 where
  keep := fun c ob q n hc hx => b.keep c ob (a.keep c ob q n hc hx) (a.free c ob q n hx) hc hx
  slot := fun c ob q n hc hx => by
    obtain ⟨sl, e1⟩ := a.slot c ob q n hc hx
    obtain ⟨sl', e2⟩ := b.slot c _ e1 (a.free c ob q n hx) hc hx
    exact ⟨sl', e2⟩
  free := fun c ob q n hx => by
    obtain ⟨o', e1⟩ := a.there c ob q hx
    exact b.free c o' e1 (a.free c ob q n hx) hx
  there := fun c ob q hx => by
    obtain ⟨o', e1⟩ := a.there c ob q hx
    exact b.there c o' e1 hx
  tups := fun c xs q => b.tups c xs (a.tups c xs q)
  frzs := fun c ob xs q => b.frzs c ob xs (a.frzs c ob xs q)
  tbls := fun c ps q => by
    obtain ⟨m1, e1⟩ := a.tbls c ps q
    obtain ⟨m2, e2⟩ := b.tbls c _ e1
    exact ⟨m1 ++ m2, by rw [e2, Array.append_assoc]⟩
theorem Un.kept (k : ∀ b u, h.get? b = some u → h'.get? b = some u) : Un fs ex H H h h' :=
  ⟨fun b ob q _ _ _ => k b ob q, fun b ob q _ _ _ => ⟨ob.slots, k b ob q⟩, fun _ _ _ n _ => n, fun b ob q _ => ⟨ob, k b ob q⟩, fun _ _ q => q, fun _ _ _ q => q, fun _ ps q => ⟨#[], by rw [q]; simp⟩⟩
theorem Un.refl : Un fs ex H H h h := Un.kept fun _ _ q => q
theorem Un.laid (k : ∀ b u, h.get? b = some u → h'.get? b = some u) (hp : h.objs.size ≤ a) (hn : H a = none) : Un fs ex H (upd H a o) h h' where
  keep := fun b u q _ _ _ => k b u q
  slot := fun b u q _ _ _ => ⟨u.slots, k b u q⟩
  free := fun b u q n _ => by rw [upd_ne (Nat.ne_of_lt (Nat.lt_of_lt_of_le (Heap.lt_size q) hp))]; exact n
  there := fun b u q _ => ⟨u, k b u q⟩
  tups := fun b xs q => by rw [upd_ne (ne_of_none q hn)]; exact q
  frzs := fun b u xs q => by rw [upd_ne (ne_of_none q hn)]; exact q
  tbls := fun b ps q => ⟨#[], by rw [upd_ne (ne_of_none q hn), q]; simp⟩
theorem Un.write (mu : Mut (H x)) (he : e = x ∨ H e = some (.own x)) (k : ∀ b u, b ≠ e → h.get? b = some u → h'.get? b = some u) (heo : ∃ u, h'.get? e = some u) : Un fs ex H (upd H x o) h h' := by
  have hx : ∀ b, H b = none → b ≠ x := fun b n z => by subst z; rw [n] at mu; exact mu
  have hb : ∀ b, H b = none → b ≠ e := fun b n z => by
    subst z
    rcases he with r | r
    · exact hx b n r
    · rw [n] at r; cases r
  have hm : ∀ b u, H b = some u → ¬ Mut (some u) → b ≠ x := fun b u q nm z => by subst z; rw [q] at mu; exact nm mu
  refine ⟨fun b u q n _ _ => k b u (hb b n) q, fun b u q n _ _ => ⟨u.slots, k b u (hb b n) q⟩, fun b u q n _ => by rw [upd_ne (hx b n)]; exact n, fun b u q _ => ?_,
    fun b xs q => by rw [upd_ne (hm b _ q fun z => z)]; exact q, fun b u xs q => by rw [upd_ne (hm b _ q fun z => z)]; exact q, fun b ps q => ⟨#[], by rw [upd_ne (hm b _ q fun z => z), q]; simp⟩⟩
  by_cases hbe : b = e
  · subst hbe; exact heo
  · exact ⟨u, k b u hbe q⟩
theorem Un.mono (u : Un fs ex H H1 h h1) (hs : ∀ b ∈ fs, b ∈ fs') (hx : ∀ b ∈ ex, b ∈ ex') : Un fs' ex' H H1 h h1 :=
  ⟨fun b ob q n hb he => u.keep b ob q n (fun z => hb (hs b z)) fun z => he (hx b z), fun _ _ q n _ he => u.any q n fun z => he (hx _ z), fun b ob q n he => u.free b ob q n fun z => he (hx b z), fun b ob q he => u.there b ob q fun z => he (hx b z), u.tups, u.frzs, u.tbls⟩
end

def trk (h : Heap) (H : Hp) : List Addr := (List.range h.objs.size).filter fun a => (H a).isSome
def hidT (h : Heap) (H : Hp) : Heap := PySem.W.hideAll h (trk h H)
theorem hidT_size (h : Heap) (H : Hp) : (hidT h H).objs.size = h.objs.size := PySem.W.hideAll_size _ _
theorem hidT_get {h : Heap} {H : Hp} {b : Addr} {o : Obj} (e : h.get? b = some o) (n : H b = none) : (hidT h H).get? b = some o :=
  PySem.W.hideAll_get _ e fun hm => by
    have q : (H b).isSome = true := (List.mem_filter.mp hm).2
    rw [n] at q; simp at q
theorem of_hidT {h : Heap} {H : Hp} {b : Addr} {o : Obj} (e : (hidT h H).get? b = some o) : h.get? b = some o ∧ H b = none := by
  have e' : h.get? b = some o := PySem.W.of_hideAll (trk h H) e
  refine ⟨e', ?_⟩
  cases q : H b with
  | none => rfl
  | some x =>
    have hm : b ∈ trk h H := List.mem_filter.mpr ⟨List.mem_range.mpr (Heap.lt_size e'), by simp [q]⟩
    have z : (hidT h H).get? b = none := PySem.W.hideAll_none (trk h H) hm
    rw [z] at e; cases e

def allNews (g h : Heap) (L : Addr) : List (Addr × Obj) := (List.range h.objs.size).filterMap fun a => if a = L ∨ (g.get? a).isSome = true then none else (h.get? a).map fun o => (a, o)
theorem mem_allNews {g h : Heap} {L a : Addr} {o : Obj} (h1 : a ≠ L) (h2 : g.get? a = none) (h3 : h.get? a = some o) : (a, o) ∈ allNews g h L :=
  List.mem_filterMap.mpr ⟨a, List.mem_range.mpr (Heap.lt_size h3), by simp [h1, h2, h3]⟩
theorem of_mem_allNews {g h : Heap} {L : Addr} {p : Addr × Obj} (hp : p ∈ allNews g h L) : p.1 ≠ L ∧ g.get? p.1 = none ∧ h.get? p.1 = some p.2 := by
  obtain ⟨b, _, e⟩ := List.mem_filterMap.mp hp
  split at e
  · cases e
  · rename_i hn
    cases q : h.get? b with
    | none => rw [q] at e; simp at e
    | some u =>
      rw [q] at e
      simp only [Option.map_some, Option.some.injEq] at e
      subst e
      refine ⟨fun z => hn (.inl z), ?_, q⟩
      show g.get? b = none
      cases r : g.get? b with
      | none => rfl
      | some v => exact (hn (.inr (by simp [r]))).elim
def rest (g h : Heap) (L d : Addr) : List (Addr × Obj) := (allNews g h L).filter fun p => decide (p.1 ≠ d)
theorem news_all {g h : Heap} {L : Addr} : News g L h (allNews g h L) := fun p hp => let ⟨a, b, c⟩ := of_mem_allNews hp; ⟨c, a, b⟩
end L2

namespace L2
open PySem PySem.Spec PyProof.Rows

/-- the module's facts, over the base: the heap at the law's entry without what is tracked there -/
structure Mod (K : PySem.W.Frag) (mg : Str → Option Value) (base : Heap) : Prop where
  kin : K.In base
  glob : base.Ns mainGlobals mg
  blt : ∃ mb, base.Ns builtinsNs mb ∧ ∀ x : Str, x ≠ "__name__" → mb x = bootBuiltins x
  nolimit : base.NoLimit

/-- the context: a def's body (or a comprehension's block) running. base: fixed through the whole law; s₀, H₀: the entry; outer: the frames whose slots others may change (a def's callers); stack: all frames that run;
   ex: iterators that were made ahead of the entry and are walked here (a comprehension's); fn: the names whose cells were made at the entry (a def: all; a comprehension's block: its own); calm: not within an except suite; pn: pins that every state bears; xe: what is wanted of an exception that leaves the code -/
structure Cx where
  prog : Program
  w : World
  K : PySem.W.Frag
  mg : Str → Option Value
  base : Heap
  A : Around
  N : List Str
  s_0 : Shared
  H_0 : Hp
  env : Env
  outer : List Env
  stack : List Env
  ex : List Addr
  fn : Str → Bool
  calm : Bool
  pn : List (Addr × Obj)
  xe : Value → Shared → Prop
/-- the callers' frames -/
def frs (l : List Env) : List Addr := l.filterMap (·.frame)
abbrev Cx.fs (X : Cx) : List Addr := frs X.outer

def Vis (sc : Scope) (x : Str) : Prop := sc.names.lookup x = some .local ∨ sc.names.lookup x = some .cell ∨ sc.names.lookup x = some .free
def Loc (sc : Scope) (x : Str) : Prop := sc.names.lookup x = some .local ∨ sc.names.lookup x = some .cell
def Look (env : Env) (h : Heap) (m : Str → Option Value) (x : Str) (u : Value) : Prop :=
  (env.kindOf x = some .local ∧ m x = some u) ∨ ((env.kindOf x = some .cell ∨ env.kindOf x = some .free) ∧ ∃ c, env.cells.lookup x = some c ∧ h.IsCell c (some u))

structure Cx.Ok (X : Cx) : Prop where
  mod : Mod X.K X.mg X.base
  kind : X.env.scope.kind = .function
  glob : X.env.globals = mainGlobals
  blt : X.env.builtins = builtinsNs
  above : X.s_0.heap.objs.size ≤ X.env.locals
  inj : ∀ x y c, X.env.cells.lookup x = some c → X.env.cells.lookup y = some c → x = y
  has : ∀ x, (X.env.kindOf x = some .cell ∨ X.env.kindOf x = some .free) → ∃ c, X.env.cells.lookup x = some c
  cab : ∀ x c, X.fn x = true → X.env.cells.lookup x = some c → X.s_0.heap.objs.size ≤ c
  hd : X.calm = true → X.A.handled = none
  frames : X.A.frames = some X.stack
  stk : X.stack = X.outer ∨ (X.stack = X.env :: X.outer ∧ X.env.frame = some X.env.locals)
  exf : ∀ b ∈ X.ex, b ≠ X.env.locals ∧ ∀ x c, X.env.cells.lookup x = some c → c ≠ b
  bs : ∀ b o, X.base.get? b = some o → X.s_0.heap.get? b = some o ∧ X.H_0 b = none
  bsz : X.base.objs.size ≤ X.s_0.heap.objs.size
  noex : ∀ b o, X.base.get? b = some o → b ∉ X.ex
  exfs : ∀ b ∈ X.ex, b ∉ X.fs
  funs : X.s_0.heap.FunFrames X.base X.outer
  frf : ∀ b ∈ X.fs, X.H_0 b = none

structure Inv (X : Cx) (pins : List (Addr × Obj)) (σ : List (Option V)) (H : Hp) (s : Shared) : Prop where
  ok : X.Ok
  os : s.os = X.s_0.os
  bare : AllBare s.gens
  base : Un X.fs X.ex X.H_0 H X.s_0.heap s.heap
  loc : ∃ m, s.heap.Ns X.env.locals m ∧ ∀ (i : Nat) (x : Str) (v : V), X.N[i]? = some x → σ[i]? = some (some v) → Vis X.env.scope x → ∃ u, RelV v u ∧ Look X.env s.heap m x u
  cell : ∀ x c, X.env.cells.lookup x = some c → ∃ v, s.heap.IsCell c v
  free : H X.env.locals = none
  freeC : ∀ x c, X.env.cells.lookup x = some c → H c = none
  pin : ∀ p ∈ X.pn ++ pins, s.heap.get? p.1 = some p.2 ∧ H p.1 = none ∧ p.1 ≠ X.env.locals ∧ p.1 ∉ X.fs ∧ ∀ v, p.2.data ≠ .cell v
  hok : HOk X.prog X.w H s.heap
  len : σ.length = X.N.length

section
variable {X : Cx} {pins : List (Addr × Obj)} {σ : List (Option V)} {H H' : Hp} {s : Shared} {h' : Heap}

theorem Cx.Ok.nofr (ok : X.Ok) {b : Addr} {o : Obj} (e : X.base.get? b = some o) : b ∉ X.fs := fun hb => by
  have := (ok.funs.mem hb).1
  rw [e] at this; cases this
theorem Inv.bs (I : Inv X pins σ H s) : ∀ b o, X.base.get? b = some o → s.heap.get? b = some o ∧ H b = none := fun b o e =>
  ⟨I.base.keep b o (I.ok.bs b o e).1 (I.ok.bs b o e).2 (I.ok.nofr e) (I.ok.noex b o e), I.base.free b o (I.ok.bs b o e).1 (I.ok.bs b o e).2 (I.ok.noex b o e)⟩
theorem Inv.bk (I : Inv X pins σ H s) : ∀ b o, X.base.get? b = some o → s.heap.get? b = some o := fun b o e => (I.bs b o e).1
theorem Inv.mod (I : Inv X pins σ H s) : Mod X.K X.mg X.base := I.ok.mod
theorem Inv.kIn (I : Inv X pins σ H s) : X.K.In s.heap := I.ok.mod.kin.keeps I.bk
theorem Inv.nolimit (I : Inv X pins σ H s) : s.heap.NoLimit := I.ok.mod.nolimit.keeps I.bk
/-- the frame over the base: for OpenK's rules (K.In X.base is I.mod.kin) -/
theorem Inv.fr (I : Inv X pins σ H s) : ∃ m, Fr X.base X.env.locals s.heap m :=
  let ⟨m, hn, _⟩ := I.loc
  ⟨m, hn, I.bk, Nat.le_trans I.ok.bsz I.ok.above⟩
theorem Inv.lt (I : Inv X pins σ H s) : X.env.locals < s.heap.objs.size := let ⟨_, hn, _⟩ := I.loc; hn.lt
theorem Inv.sz (I : Inv X pins σ H s) : X.s_0.heap.objs.size ≤ s.heap.objs.size := Nat.le_trans I.ok.above (Nat.le_of_lt I.lt)
theorem Inv.nofs (I : Inv X pins σ H s) {a : Addr} (h : s.heap.objs.size ≤ a) : a ∉ X.fs := fun hb => by
  obtain ⟨_, o, ho, _⟩ := I.ok.funs.mem hb
  exact absurd (Nat.lt_of_lt_of_le (Heap.lt_size ho) (Nat.le_trans I.sz h)) (Nat.lt_irrefl _)
theorem Inv.cne (I : Inv X pins σ H s) : ∀ x c, X.env.cells.lookup x = some c → c ≠ X.env.locals := fun x c e z => by
  obtain ⟨v, o, ho, hd⟩ := I.cell x c e
  obtain ⟨m, ⟨o', es, ep, ho', hd', _⟩, _⟩ := I.loc
  rw [z, ho'] at ho; cases ho; rw [hd'] at hd; cases hd
theorem Inv.funs (I : Inv X pins σ H s) : s.heap.FunFrames X.base X.outer := by
  have all : ∀ (l : List Env), (∀ b ∈ frs l, b ∈ X.fs) → X.s_0.heap.FunFrames X.base l → s.heap.FunFrames X.base l := by
    intro l
    induction l with
    | nil => intro _ _; trivial
    | cons env r ih =>
      intro hs hl
      obtain ⟨hk, ⟨L, o, hf, hn, ho, hd⟩, hr⟩ := hl
      have hL : L ∈ X.fs := hs L (by unfold frs; rw [List.filterMap_cons, hf]; exact List.mem_cons_self)
      obtain ⟨sl, e⟩ := I.base.slot L o ho (I.ok.frf L hL) hL fun z => I.ok.exfs L z hL
      exact ⟨hk, ⟨L, _, hf, hn, e, hd⟩, ih (fun b hb => hs b (by unfold frs; rw [List.filterMap_cons, hf]; exact List.mem_cons_of_mem _ hb)) hr⟩
  exact all X.outer (fun _ hb => hb) I.ok.funs

/-- the frames that run, for a call -/
theorem Inv.stack (I : Inv X pins σ H s) : s.heap.FunFrames X.base X.stack := by
  rcases I.ok.stk with e | ⟨e, hf⟩
  · rw [e]; exact I.funs
  · rw [e]
    obtain ⟨m, hn, _⟩ := I.loc
    refine .cons (by rw [I.ok.kind]; decide) hf hn ?_ I.funs
    exact Heap.get?_none_of_le (Nat.le_trans I.ok.bsz I.ok.above)
theorem Inv.stkSub (I : Inv X pins σ H s) : ∀ b ∈ frs X.stack, b ∈ X.env.locals :: X.fs := fun b hb => by
  rcases I.ok.stk with e | ⟨e, hf⟩
  · rw [e] at hb; exact List.mem_cons_of_mem _ hb
  · rw [e] at hb
    unfold frs at hb
    rw [List.filterMap_cons, hf] at hb
    exact hb
theorem Inv.stkFree (I : Inv X pins σ H s) : ∀ b ∈ frs X.stack, H b = none := fun b hb => by
  rcases List.mem_cons.mp (I.stkSub b hb) with e | hb
  · rw [e]; exact I.free
  · obtain ⟨_, o, ho, _⟩ := I.ok.funs.mem hb
    exact I.base.free b o ho (I.ok.frf b hb) fun z => I.ok.exfs b z hb

/-- THE STEP: the untracked objects but the frame and the records at ch are kept (the callers' frames up to slots), the frame's map is kept, the new abstract heap is held -/
theorem Inv.step {g' : Array GenState} {t' : Nat} {d' : Drawn} {ch : List Addr} (I : Inv X pins σ H s)
    (hch : ∀ b ∈ ch, (b ∈ X.ex ∨ X.s_0.heap.objs.size ≤ b) ∧ b ≠ X.env.locals ∧ (∀ x c, X.env.cells.lookup x = some c → c ≠ b) ∧ ∀ p ∈ X.pn ++ pins, p.1 ≠ b)
    (keep : ∀ b o, b ≠ X.env.locals → b ∉ X.fs → b ∉ ch → s.heap.get? b = some o → H b = none → h'.get? b = some o)
    (slot : ∀ b o, b ≠ X.env.locals → b ∈ X.fs → b ∉ ch → s.heap.get? b = some o → H b = none → ∃ sl, h'.get? b = some { o with slots := sl }) (free : ∀ b o, b ∉ ch → s.heap.get? b = some o → H b = none → H' b = none)
    (there : ∀ b o, b ∉ ch → s.heap.get? b = some o → ∃ o', h'.get? b = some o')
    (tups : ∀ b xs, H b = some (.tup xs) → H' b = some (.tup xs)) (frzs : ∀ b o u, H b = some (.frz o u) → H' b = some (.frz o u)) (tbls : ∀ b ps, H b = some (.tbl ps) → ∃ more, H' b = some (.tbl (ps ++ more)))
    (ns : ∀ m, s.heap.Ns X.env.locals m → h'.Ns X.env.locals m) (hok : HOk X.prog X.w H' h') (hg : AllBare g') :
    Inv X pins σ H' { s with heap := h', gens := g', drawn := d', toks := t' } := by
  have neL : ∀ b o, X.s_0.heap.get? b = some o → b ≠ X.env.locals := fun b o e => Nat.ne_of_lt (Nat.lt_of_lt_of_le (Heap.lt_size e) I.ok.above)
  have neC : ∀ b o, X.s_0.heap.get? b = some o → b ∉ X.ex → b ∉ ch := fun b o e hx hb => by
    rcases (hch b hb).1 with z | z
    · exact hx z
    · exact absurd (Nat.lt_of_lt_of_le (Heap.lt_size e) z) (Nat.lt_irrefl _)
  have cellK : ∀ x c, X.env.cells.lookup x = some c → ∀ v, s.heap.IsCell c v → h'.IsCell c v := fun x c e v ⟨o, ho, hd⟩ => by
    have nch : c ∉ ch := fun z => (hch c z).2.2.1 x c e rfl
    by_cases hc : c ∈ X.fs
    · obtain ⟨sl, q⟩ := slot c o (I.cne x c e) hc nch ho (I.freeC x c e)
      exact ⟨_, q, hd⟩
    · exact ⟨o, keep c o (I.cne x c e) hc nch ho (I.freeC x c e), hd⟩
  refine ⟨I.ok, I.os, hg, ⟨fun b o e n hb hx => ?_, fun b o e n hb hx => ?_, fun b o e n hx => ?_, fun b o e hx => ?_, fun b xs e => tups b xs (I.base.tups b xs e), fun b o xs e => frzs b o xs (I.base.frzs b o xs e), fun b ps e => ?_⟩, ?_, fun x c e => ?_, ?_, fun x c e => ?_, fun p hp => ?_, hok, I.len⟩
  · exact keep b o (neL b o e) hb (neC b o e hx) (I.base.keep b o e n hb hx) (I.base.free b o e n hx)
  · obtain ⟨sl, e1⟩ := I.base.slot b o e n hb hx
    obtain ⟨sl', e2⟩ := slot b _ (neL b o e) hb (neC b o e hx) e1 (I.base.free b o e n hx)
    exact ⟨sl', e2⟩
  · obtain ⟨o', e1⟩ := I.base.there b o e hx
    exact free b o' (neC b o e hx) e1 (I.base.free b o e n hx)
  · obtain ⟨o', e1⟩ := I.base.there b o e hx
    exact there b o' (neC b o e hx) e1
  · obtain ⟨m1, e1⟩ := I.base.tbls b ps e
    obtain ⟨m2, e2⟩ := tbls b _ e1
    exact ⟨m1 ++ m2, by rw [e2, Array.append_assoc]⟩
  · obtain ⟨m, hn, hl⟩ := I.loc
    refine ⟨m, ns m hn, fun i x v e1 e2 e3 => ?_⟩
    obtain ⟨u, r, l⟩ := hl i x v e1 e2 e3
    refine ⟨u, r, ?_⟩
    rcases l with l | ⟨k, c, e, z⟩
    · exact .inl l
    · exact .inr ⟨k, c, e, cellK x c e _ z⟩
  · obtain ⟨v, z⟩ := I.cell x c e
    exact ⟨v, cellK x c e v z⟩
  · obtain ⟨m, ⟨o, _, _, ho, _⟩, _⟩ := I.loc
    exact free _ o (fun z => (hch _ z).2.1 rfl) ho I.free
  · obtain ⟨v, o, ho, hd⟩ := I.cell x c e
    exact free c o (fun z => (hch c z).2.2.1 x c e rfl) ho (I.freeC x c e)
  · obtain ⟨e, n, ne, nf, d⟩ := I.pin p hp
    have nch : p.1 ∉ ch := fun z => (hch p.1 z).2.2.2 p hp rfl
    exact ⟨keep p.1 p.2 ne nf nch e n, free p.1 p.2 nch e n, ne, nf, d⟩
/-- .. where the frame's own object is kept too -/
theorem Inv.un {t' : Nat} (I : Inv X pins σ H s) (u : Un X.fs [] H H' s.heap h') (hok : HOk X.prog X.w H' h') : Inv X pins σ H' { s with heap := h', toks := t' } := by
  obtain ⟨m, ⟨o, es, ep, ho, r⟩, _⟩ := id I.loc
  obtain ⟨sl, hL⟩ := u.any ho I.free (by simp)
  exact I.step (g' := s.gens) (d' := s.drawn) (ch := []) (fun _ z => nomatch z) (fun b o _ hb _ e n => u.keep b o e n hb (by simp)) (fun b o _ hb _ e n => u.slot b o e n hb (by simp)) (fun b o _ e n => u.free b o e n (by simp)) (fun b o _ e => u.there b o e (by simp)) u.tups u.frzs u.tbls (fun m' hm => by
    obtain ⟨o', es', ep', ho', r'⟩ := hm
    rw [ho] at ho'; cases ho'
    exact ⟨_, es', ep', hL, r'⟩) hok I.bare
/-- behind a call (or a comprehension's block): the slots of this frame may have changed too, the records at ch may have turned -/
theorem Inv.call {g' : Array GenState} {t' : Nat} {d' : Drawn} {ch : List Addr} (I : Inv X pins σ H s) (u : Un (frs X.stack) ch H H' s.heap h') (hok : HOk X.prog X.w H' h') (hg : AllBare g')
    (hch : ∀ b ∈ ch, (b ∈ X.ex ∨ X.s_0.heap.objs.size ≤ b) ∧ b ≠ X.env.locals ∧ (∀ x c, X.env.cells.lookup x = some c → c ≠ b) ∧ ∀ p ∈ X.pn ++ pins, p.1 ≠ b) :
    Inv X pins σ H' { s with heap := h', gens := g', drawn := d', toks := t' } := by
  obtain ⟨m, ⟨o, es, ep, ho, r⟩, _⟩ := id I.loc
  obtain ⟨sl, hL⟩ := u.any ho I.free fun z => (hch _ z).2.1 rfl
  exact I.step (ch := ch) hch (fun b o hL hb hc e n => u.keep b o e n (fun z => (List.mem_cons.mp (I.stkSub b z)).elim hL hb) hc) (fun b o _ _ hc e n => u.any e n hc) (fun b o hc e n => u.free b o e n hc) (fun b o hc e => u.there b o e hc) u.tups u.frzs u.tbls (fun m' hm => by
    obtain ⟨o', es', ep', ho', r'⟩ := hm
    rw [ho] at ho'; cases ho'
    exact ⟨_, es', ep', hL, r'⟩) hok hg
/-- an untracked record of ours (an iterator) has turned -/
theorem Inv.turned {t' : Nat} {it : Addr} (I : Inv X pins σ H s) (k : ∀ b o, b ≠ it → s.heap.get? b = some o → h'.get? b = some o) (hn : H it = none) (hL : it ≠ X.env.locals)
    (h1 : it ∈ X.ex ∨ X.s_0.heap.objs.size ≤ it) (h2 : ∀ x c, X.env.cells.lookup x = some c → c ≠ it) (h3 : ∀ p ∈ X.pn ++ pins, p.1 ≠ it) : Inv X pins σ H { s with heap := h', toks := t' } := by
  have nit : ∀ b u, H b = some u → b ≠ it := fun b u e z => by rw [z, hn] at e; cases e
  refine I.step (g' := s.gens) (d' := s.drawn) (ch := [it]) (fun b hb => ?_) (fun b o _ _ hc e _ => k b o (fun z => hc (by simp [z])) e) (fun b o _ _ hc e _ => ⟨o.slots, k b o (fun z => hc (by simp [z])) e⟩) (fun _ _ _ _ n => n)
    (fun b o hc e => ⟨o, k b o (fun z => hc (by simp [z])) e⟩) (fun _ _ e => e) (fun _ _ _ e => e) (fun b ps e => ⟨#[], by rw [e]; simp⟩) (fun m hm => ?_) (fun b u e => ?_) I.bare
  · have e : b = it := by simpa using hb
    subst e
    exact ⟨h1, hL, h2, h3⟩
  · obtain ⟨o, es, ep, ho, r⟩ := hm
    exact ⟨o, es, ep, k _ o (Ne.symm hL) ho, r⟩
  · refine (I.hok b u e).stay (fun c v hc q => k c v ?_ q) (fun _ q => q) fun _ _ q => q
    rcases hc with z | z
    · rw [z]; exact nit b u e
    · exact nit c _ z
theorem Inv.tok (I : Inv X pins σ H s) (t : Nat) : Inv X pins σ H { s with toks := t } := I.un (h' := s.heap) (t' := t) Un.refl I.hok
/-- all objects kept -/
theorem Inv.kept {t' : Nat} (I : Inv X pins σ H s) (k : ∀ b u, s.heap.get? b = some u → h'.get? b = some u) : Inv X pins σ H { s with heap := h', toks := t' } := I.un (Un.kept k) (I.hok.kept k)
/-- a new object laid and tracked -/
theorem Inv.laid {a : Addr} {o : HO} {t' : Nat} (I : Inv X pins σ H s) (k : ∀ b u, s.heap.get? b = some u → h'.get? b = some u) (hp : s.heap.objs.size ≤ a) (new : ObjOk X.prog X.w (upd H a o) h' a o) :
    Inv X pins σ (upd H a o) { s with heap := h', toks := t' } := I.un (Un.laid k hp (I.hok.fresh hp)) (I.hok.laid k hp new)
/-- an object written -/
theorem Inv.write {x e : Addr} {o : HO} {t' : Nat} (I : Inv X pins σ H s) (mu : Mut (H x)) (he : e = x ∨ H e = some (.own x)) (k : ∀ b u, b ≠ e → s.heap.get? b = some u → h'.get? b = some u) (heo : ∃ u, h'.get? e = some u)
    (new : ObjOk X.prog X.w (upd H x o) h' x o) : Inv X pins σ (upd H x o) { s with heap := h', toks := t' } := I.un (Un.write mu he k heo) (I.hok.write mu he k heo new)
/-- forgetting slots, pins -/
theorem Inv.weak {σ' : List (Option V)} (I : Inv X pins σ H s) (hl : σ'.length = σ.length) (w : ∀ (i : Nat) v, σ'[i]? = some (some v) → σ[i]? = some (some v)) : Inv X pins σ' H s :=
  ⟨I.ok, I.os, I.bare, I.base, let ⟨m, hn, hl'⟩ := I.loc; ⟨m, hn, fun i x v e1 e2 e3 => hl' i x v e1 (w i v e2) e3⟩, I.cell, I.free, I.freeC, I.pin, I.hok, hl.trans I.len⟩
theorem Inv.pins_of {pins' : List (Addr × Obj)} (I : Inv X pins σ H s) (h : ∀ p ∈ pins', s.heap.get? p.1 = some p.2 ∧ H p.1 = none ∧ p.1 ≠ X.env.locals ∧ p.1 ∉ X.fs ∧ ∀ v, p.2.data ≠ .cell v) : Inv X pins' σ H s :=
  ⟨I.ok, I.os, I.bare, I.base, I.loc, I.cell, I.free, I.freeC, fun p hp => (List.mem_append.mp hp).elim (fun z => I.pin p (List.mem_append_left _ z)) (h p), I.hok, I.len⟩

theorem nodup_ix {N : List Str} (hN : N.Nodup) {i j : Nat} {x : Str} (a : N[i]? = some x) (b : N[j]? = some x) : i = j := by
  obtain ⟨h1, e1⟩ := List.getElem?_eq_some_iff.mp a
  obtain ⟨h2, e2⟩ := List.getElem?_eq_some_iff.mp b
  exact (List.getElem_inj hN).mp (e1.trans e2.symm)

/-- a name is stored; what changed -/
theorem store_ok2 {M : Model} {A : Around} {E : Value → Shared → Prop} {i : Nat} {x : Str} {v : V} {u : Value} {Q : Unit → Shared → Prop} (I : Inv X pins σ H s) (hN : X.N.Nodup) (hi : X.N[i]? = some x) (hx : Loc X.env.scope x) (r : RelV v u)
    (h : ∀ s', Inv X pins (σ.set i (some v)) H s' → (∃ a, Heap.SameBut a s.heap s'.heap ∧ (a = X.env.locals ∨ X.env.cells.lookup x = some a)) → Q () s') (hf : X.fn x = true ∨ X.env.scope.names.lookup x = some .local := by first | exact .inl rfl | exact .inr rfl | assumption) : wpAny M A (storeName X.env x u) Q E s := by
  obtain ⟨m, hn, hl⟩ := id I.loc
  have hcls : (X.env.scope.kind == .class || (X.env.scope.kind == .module && X.env.locals != X.env.globals)) = false := by rw [I.ok.kind]; rfl
  have hiσ : i < σ.length := by rw [I.len]; exact (List.getElem?_eq_some_iff.mp hi).1
  have cne := I.cne
  have tracked : ∀ {a : Addr} {h' : Heap}, (∃ o, s.heap.get? a = some o ∧ H a = none) → Heap.SameBut a s.heap h' → HOk X.prog X.w H h' := fun {a h'} ha hs b ob e => by
    obtain ⟨_, _, hfree⟩ := ha
    refine (I.hok b ob e).stay (fun c w' hc q => (hs.2 c ?_).trans q) (fun _ q => q) fun _ _ q => q
    rintro rfl
    rcases hc with rfl | hc
    · rw [hfree] at e; cases e
    · rw [hfree] at hc; cases hc
  rcases hx with hk | hk
  · refine wpAny_storeName_local hk hn (fun h' hn' hs => ?_) hcls
    obtain ⟨oL, _, _, hoL, _⟩ := id hn
    refine h _ ⟨I.ok, I.os, I.bare, ⟨fun b o e n hb hx => ?_, fun b o e n hb hx => ?_, I.base.free, fun b o e hx => ?_, I.base.tups, I.base.frzs, I.base.tbls⟩, ⟨_, hn', fun j y v' e1 e2 e3 => ?_⟩, fun y c e => ?_, I.free, I.freeC, fun p hp => ?_, tracked ⟨oL, hoL, I.free⟩ hs, by simpa using I.len⟩ ⟨_, hs, .inl rfl⟩
    · exact (hs.2 b (Nat.ne_of_lt (Nat.lt_of_lt_of_le (Heap.lt_size e) I.ok.above))).trans (I.base.keep b o e n hb hx)
    · obtain ⟨sl, e1⟩ := I.base.slot b o e n hb hx
      exact ⟨sl, (hs.2 b (Nat.ne_of_lt (Nat.lt_of_lt_of_le (Heap.lt_size e) I.ok.above))).trans e1⟩
    · obtain ⟨o', e1⟩ := I.base.there b o e hx
      exact ⟨o', (hs.2 b (Nat.ne_of_lt (Nat.lt_of_lt_of_le (Heap.lt_size e) I.ok.above))).trans e1⟩
    · by_cases hj : j = i
      · subst hj
        rw [hi] at e1; cases e1
        rw [List.getElem?_set_self hiσ] at e2
        cases e2
        exact ⟨u, r, .inl ⟨hk, by simp⟩⟩
      · rw [List.getElem?_set_ne (Ne.symm hj)] at e2
        obtain ⟨u', r', q⟩ := hl j y v' e1 e2 e3
        refine ⟨u', r', ?_⟩
        rcases q with ⟨k, e⟩ | ⟨k, c, e, z⟩
        · refine .inl ⟨k, ?_⟩
          have : y ≠ x := fun e => hj (nodup_ix hN e1 (e ▸ hi))
          simp [this, e]
        · exact .inr ⟨k, c, e, z.sameBut hs (cne y c e)⟩
    · obtain ⟨w', z⟩ := I.cell y c e
      exact ⟨w', z.sameBut hs (cne y c e)⟩
    · obtain ⟨e, n, ne, nf, d⟩ := I.pin p hp
      exact ⟨(hs.2 p.1 ne).trans e, n, ne, nf, d⟩
  · have hfn : X.fn x = true := by
      rcases hf with z | z
      · exact z
      · rw [z] at hk; cases hk
    obtain ⟨c, hc⟩ := I.ok.has x (.inl hk)
    obtain ⟨w', z⟩ := I.cell x c hc
    refine wpAny_storeName_cell I.ok.kind hk hc z (fun h' hc' hs => ?_)
    obtain ⟨oc, hoc, hocd⟩ := id z
    refine h { s with heap := h' } ⟨I.ok, I.os, I.bare, ⟨fun b o e n hb hx => ?_, fun b o e n hb hx => ?_, I.base.free, fun b o e hx => ?_, I.base.tups, I.base.frzs, I.base.tbls⟩, ⟨m, hn.sameBut hs (Ne.symm (cne x c hc)), fun j y v' e1 e2 e3 => ?_⟩, fun y c' e => ?_, I.free, I.freeC, fun p hp => ?_, tracked ⟨oc, hoc, I.freeC x c hc⟩ hs, by simpa using I.len⟩ ⟨c, hs, .inr hc⟩
    · exact (hs.2 b (Nat.ne_of_lt (Nat.lt_of_lt_of_le (Heap.lt_size e) (I.ok.cab x c hfn hc)))).trans (I.base.keep b o e n hb hx)
    · obtain ⟨sl, e1⟩ := I.base.slot b o e n hb hx
      exact ⟨sl, (hs.2 b (Nat.ne_of_lt (Nat.lt_of_lt_of_le (Heap.lt_size e) (I.ok.cab x c hfn hc)))).trans e1⟩
    · obtain ⟨o', e1⟩ := I.base.there b o e hx
      exact ⟨o', (hs.2 b (Nat.ne_of_lt (Nat.lt_of_lt_of_le (Heap.lt_size e) (I.ok.cab x c hfn hc)))).trans e1⟩
    · by_cases hj : j = i
      · subst hj
        rw [hi] at e1; cases e1
        rw [List.getElem?_set_self hiσ] at e2
        cases e2
        exact ⟨u, r, .inr ⟨.inl hk, c, hc, hc'⟩⟩
      · rw [List.getElem?_set_ne (Ne.symm hj)] at e2
        obtain ⟨u', r', q⟩ := hl j y v' e1 e2 e3
        refine ⟨u', r', ?_⟩
        rcases q with q | ⟨k, c', e, z'⟩
        · exact .inl q
        · refine .inr ⟨k, c', e, z'.sameBut hs ?_⟩
          rintro rfl
          exact hj (nodup_ix hN e1 (I.ok.inj _ _ _ e hc ▸ hi))
    · by_cases hcc : c' = c
      · subst hcc; exact ⟨_, hc'⟩
      · obtain ⟨w2, z2⟩ := I.cell y c' e
        exact ⟨w2, z2.sameBut hs hcc⟩
    · obtain ⟨e, n, ne, nf, d⟩ := I.pin p hp
      refine ⟨(hs.2 p.1 ?_).trans e, n, ne, nf, d⟩
      intro q
      rw [q, hoc] at e
      have q' : oc = p.2 := Option.some.inj e
      exact d w' (by rw [← q']; exact hocd)
theorem store_ok {M : Model} {A : Around} {E : Value → Shared → Prop} {i : Nat} {x : Str} {v : V} {u : Value} {Q : Unit → Shared → Prop} (I : Inv X pins σ H s) (hN : X.N.Nodup) (hi : X.N[i]? = some x) (hx : Loc X.env.scope x) (r : RelV v u)
    (h : ∀ s', Inv X pins (σ.set i (some v)) H s' → Q () s') (hf : X.fn x = true ∨ X.env.scope.names.lookup x = some .local := by first | exact .inl rfl | exact .inr rfl | assumption) : wpAny M A (storeName X.env x u) Q E s :=
  store_ok2 I hN hi hx r (fun s' I' _ => h s' I') hf
/-- behind a call or a block, the state as it is -/
theorem Inv.call' {s' : Shared} {ch : List Addr} (I : Inv X pins σ H s) (ho : s'.os = s.os) (u : Un (frs X.stack) ch H H' s.heap s'.heap) (hok : HOk X.prog X.w H' s'.heap) (hg : AllBare s'.gens)
    (hch : ∀ b ∈ ch, (b ∈ X.ex ∨ X.s_0.heap.objs.size ≤ b) ∧ b ≠ X.env.locals ∧ (∀ x c, X.env.cells.lookup x = some c → c ≠ b) ∧ ∀ p ∈ X.pn ++ pins, p.1 ≠ b) : Inv X pins σ H' s' := by
  obtain ⟨h', g', d', t', o'⟩ := s'
  have e : o' = s.os := ho
  subst e
  exact I.call (g' := g') (t' := t') (d' := d') u hok hg hch
end

/-- an exception: its class, its own dict's address (where it has one), the abstract heap behind it -/
abbrev XK := Value → Option Addr → Hp → Prop
abbrev St := List (Option V)
abbrev VK := V → Hp → Prop
/-- an expression's reading; a test's; an argument list's -/
abbrev TE := St → Hp → VK → Prop
abbrev TT := St → Hp → (Bool → Hp → Prop) → Prop
abbrev TA := St → Hp → (List V → Hp → Prop) → Prop
/-- what is wanted behind a statement -/
structure Ends where
  nx : St → Hp → Prop
  rt : VK
  bk : St → Hp → Prop := fun _ _ => False
  ct : St → Hp → Prop := fun _ _ => False
abbrev TS := Ends → St → Hp → Prop

def EP (X : Cx) (pins : List (Addr × Obj)) (σ : St) (Q : VK) (u : Value) (s' : Shared) : Prop := ∃ v H', Inv X pins σ H' s' ∧ RelV v u ∧ Q v H'
def TP (X : Cx) (pins : List (Addr × Obj)) (σ : St) (Q : Bool → Hp → Prop) (b : Bool) (s' : Shared) : Prop := ∃ H', Inv X pins σ H' s' ∧ Q b H'
def AP (X : Cx) (pins : List (Addr × Obj)) (σ : St) (Q : List V → Hp → Prop) (us : List Value) (s' : Shared) : Prop := ∃ vs H', Inv X pins σ H' s' ∧ Vals vs us ∧ Q vs H'
def SP (X : Cx) (pins : List (Addr × Obj)) (D : Ends) (f : Flow) (s' : Shared) : Prop :=
  match f with
  | .next => ∃ σ' H', Inv X pins σ' H' s' ∧ D.nx σ' H'
  | .brk => ∃ σ' H', Inv X pins σ' H' s' ∧ D.bk σ' H'
  | .cont => ∃ σ' H', Inv X pins σ' H' s' ∧ D.ct σ' H'
  | .ret u => ∃ v σ' H', Inv X pins σ' H' s' ∧ RelV v u ∧ D.rt v H'

def PE (X : Cx) (e : Expr) (t : TE) : Prop :=
  ∀ (pins : List (Addr × Obj)) (s : Shared) (σ : St) (H : Hp) (Q : VK), Inv X pins σ H s → t σ H Q → wpAny (model X.prog X.w) X.A (eval e X.env) (EP X pins σ Q) X.xe s
def PT (X : Cx) (e : Expr) (t : TT) : Prop :=
  ∀ (pins : List (Addr × Obj)) (s : Shared) (σ : St) (H : Hp) (Q : Bool → Hp → Prop), Inv X pins σ H s → t σ H Q → wpAny (model X.prog X.w) X.A (isTrue e X.env (eval e X.env)) (TP X pins σ Q) X.xe s
/-- a test whatever its 'whole' is (and, or) -/
def PW (X : Cx) (e : Expr) (t : TT) : Prop :=
  ∀ (whole : Sem Value) (pins : List (Addr × Obj)) (s : Shared) (σ : St) (H : Hp) (Q : Bool → Hp → Prop), Inv X pins σ H s → t σ H Q → wpAny (model X.prog X.w) X.A (isTrue e X.env whole) (TP X pins σ Q) X.xe s
theorem PW.pt {X : Cx} {e : Expr} {t : TT} (h : PW X e t) : PT X e t := h _
/-- an argument list (no star), from the left -/
def PA (X : Cx) (es : List Expr) (t : TA) : Prop :=
  ∀ (pos : Pos) (pins : List (Addr × Obj)) (s : Shared) (σ : St) (H : Hp) (Q : List V → Hp → Prop), Inv X pins σ H s → t σ H Q → wpAny (model X.prog X.w) X.A (spliced (backTo pos (starEach es X.env))) (AP X pins σ Q) X.xe s
def PS (X : Cx) (st : Stmt) (t : TS) : Prop :=
  ∀ (pins : List (Addr × Obj)) (s : Shared) (σ : St) (H : Hp) (D : Ends), Inv X pins σ H s → t D σ H → wpAny (model X.prog X.w) X.A (exec st X.env) (SP X pins D) X.xe s
def PSs (X : Cx) (st : List Stmt) (t : TS) : Prop :=
  ∀ (pins : List (Addr × Obj)) (s : Shared) (σ : St) (H : Hp) (D : Ends), Inv X pins σ H s → t D σ H → wpAny (model X.prog X.w) X.A (execs st X.env) (SP X pins D) X.xe s
/-- weaken the end -/
theorem thn {α : Type} {t : Sem α} {Q Q' : α → Shared → Prop} {M : Model} {A : Around} {E : Value → Shared → Prop} {s : Shared} (h : wpAny M A t Q E s) (hQ : ∀ a s, Q a s → Q' a s) : wpAny M A t Q' E s := wpAny_mono h hQ fun _ _ x => x
end L2

namespace L2
open PySem PySem.Spec PyProof.Rows
section
variable {X : Cx}

/-- two expressions in a row -/
theorem bin {a b : Expr} {ta tb : TE} (ha : PE X a ta) (hb : PE X b tb) {pins : List (Addr × Obj)} {s : Shared} {σ : St} {H : Hp} {R : V → V → Hp → Prop} (I : Inv X pins σ H s) (h : ta σ H fun x H1 => tb σ H1 fun y H2 => R x y H2)
    {α : Type} {Q : α → Shared → Prop} {f : Value → Value → Sem α}
    (hf : ∀ v u s2 x y H2, Inv X pins σ H2 s2 → RelV x v → RelV y u → R x y H2 → wpAny (model X.prog X.w) X.A (f v u) Q X.xe s2) :
    wpAny (model X.prog X.w) X.A (eval a X.env) (fun v s₁ => wpAny (model X.prog X.w) X.A (eval b X.env) (fun u s₂ => wpAny (model X.prog X.w) X.A (f v u) Q X.xe s₂) X.xe s₁) X.xe s := by
  refine thn (ha pins s σ H _ I h) fun v s1 ⟨x, H1, I1, r1, q1⟩ => ?_
  refine thn (hb pins s1 σ H1 _ I1 q1) fun u s2 ⟨y, H2, I2, r2, q2⟩ => ?_
  exact hf v u s2 x y H2 I2 r1 r2 q2

def tVar (i : Nat) : TE := fun σ H Q => ∃ v, σ[i]? = some (some v) ∧ Q v H
def tC (v : V) : TE := fun _ H Q => Q v H
theorem pe_var {i : Nat} {x : Str} {pos : Pos} (hN : X.N[i]? = some x) (hv : Vis X.env.scope x) (hd : (x == ("__debug__" : Str)) = false := by decide) (hcd : (x == ("__classdict__" : Str)) = false := by decide) : PE X (.Name x pos) (tVar i) := by
  intro pins s σ H Q I h
  obtain ⟨v, e, h⟩ := h
  obtain ⟨m, hn, hl⟩ := I.loc
  obtain ⟨u, r, l⟩ := hl i x v hN e hv
  have fin : EP X pins σ Q u s := ⟨v, H, I, r, h⟩
  rcases l with ⟨hk, hm⟩ | ⟨hk, c, hc, hcell⟩
  · exact wpAny_Name (wpAny_loadName_local I.ok.kind hk hn hm fin) hd
  · rcases hk with hk | hk
    · exact wpAny_Name (wpAny_loadName_cell I.ok.kind hk hc hcell fin) hd
    · exact wpAny_Name (wpAny_loadName_free I.ok.kind hk hc hcell fin hcd) hd
theorem pe_int {i j pos} : PE X (.Constant (.int i) j pos) (tC (.int i)) := fun _ _ _ H _ I h => wpAny_Constant_int ⟨.int i, H, I.tok _, ⟨_, rfl⟩, h⟩
theorem pe_bl {b j pos} : PE X (.Constant (.bool b) j pos) (tC (.bl b)) := fun _ _ _ H _ I h => Constant_bool ⟨.bl b, H, I, rfl, h⟩
theorem pe_non {j pos} : PE X (.Constant .none j pos) (tC .non) := fun _ _ _ H _ I h => Constant_none ⟨.non, H, I, rfl, h⟩
theorem pe_str {x j pos} : PE X (.Constant (.str x) j pos) (tC (.str x)) := fun _ _ _ H _ I h => Calls.Constant_str ⟨.str x, H, I.tok _, ⟨_, rfl⟩, h⟩

/-- a global name of the def -/
def Gl (X : Cx) (x : Str) : Prop := X.env.kindOf x = some .globalImplicit
theorem ld_glob {E : Value → Shared → Prop} {pins : List (Addr × Obj)} {s : Shared} {σ : St} {H : Hp} {x : Str} {u : Value} {pos : Pos} {Q : Value → Shared → Prop} (I : Inv X pins σ H s) (hg : Gl X x) (hm : X.mg x = some u) (h : Q u s)
    (hd : (x == ("__debug__" : Str)) = false := by decide) : wpAny (model X.prog X.w) X.A (eval (.Name x pos) X.env) Q E s :=
  Calls.Name_function_global I.ok.kind hg (Calls.loadGlobal_global (by rw [I.ok.glob]; exact I.mod.glob.keeps I.bk) hm h) hd
theorem ld_blt {E : Value → Shared → Prop} {pins : List (Addr × Obj)} {s : Shared} {σ : St} {H : Hp} {x : Str} {u : Value} {pos : Pos} {Q : Value → Shared → Prop} (I : Inv X pins σ H s) (hg : Gl X x) (hm : X.mg x = none) (hv : bootBuiltins x = some u) (h : Q u s)
    (hn : x ≠ "__name__" := by decide) (hd : (x == ("__debug__" : Str)) = false := by decide) : wpAny (model X.prog X.w) X.A (eval (.Name x pos) X.env) Q E s := by
  obtain ⟨mb, h1, h2⟩ := I.mod.blt
  exact Calls.Name_function_global I.ok.kind hg (Calls.loadGlobal_builtin (by rw [I.ok.glob]; exact I.mod.glob.keeps I.bk) hm (by rw [I.ok.blt]; exact h1.keeps I.bk) ((h2 x hn).trans hv) h) hd
/-- a module's constant, a class, a function, as a value -/
theorem pe_glob {x : Str} {v : V} {u : Value} {pos : Pos} (hg : Gl X x) (hm : X.mg x = some u) (r : RelV v u) (hd : (x == ("__debug__" : Str)) = false := by decide) : PE X (.Name x pos) (tC v) :=
  fun _ _ _ H _ I h => ld_glob I hg hm ⟨v, H, I, r, h⟩ hd
theorem pe_bltn {x : Str} {v : V} {u : Value} {pos : Pos} (hg : Gl X x) (hm : X.mg x = none) (hv : bootBuiltins x = some u) (r : RelV v u) (hn : x ≠ "__name__" := by decide) (hd : (x == ("__debug__" : Str)) = false := by decide) : PE X (.Name x pos) (tC v) :=
  fun _ _ _ H _ I h => ld_blt I hg hm hv ⟨v, H, I, r, h⟩ hn hd

variable {a b : Expr} {ta tb : TE} {pos : Pos}
def PC (X : Cx) (op : CmpOp) (a b : Expr) (t : TE) : Prop :=
  ∀ (pins : List (Addr × Obj)) (s : Shared) (σ : St) (H : Hp) (Q : VK), Inv X pins σ H s → t σ H Q →
    wpAny (model X.prog X.w) X.A (eval a X.env) (fun v s₁ => wpAny (model X.prog X.w) X.A (eval b X.env) (fun u s₂ => wpAny (model X.prog X.w) X.A (compareOp op v u) (EP X pins σ Q) X.xe s₂) X.xe s₁) X.xe s
theorem nobehind (b : Expr) {op : CmpOp} (h : op ≠ .In) (h2 : op ≠ .NotIn) : behindInMarks op b = false := by
  have e1 : (op == CmpOp.In) = false := by cases op <;> first | rfl | exact absurd rfl h
  have e2 : (op == CmpOp.NotIn) = false := by cases op <;> first | rfl | exact absurd rfl h2
  cases b <;> simp [behindInMarks, e1, e2]
/-- a comparison as a value, as a test -/
def tB (t : TE) : TT := fun σ H Q => t σ H fun x H1 => ∃ c, x = .bl c ∧ Q c H1
theorem pt_cmp {op : CmpOp} {t : TE} (h : PC X op a b t) (h1 : behindInMarks op b = false := by first | exact nobehind _ (by decide) (by decide) | rfl) : PT X (.Compare a [op] [b] pos) (tB t) := by
  intro pins s σ H Q I hw
  refine wpAny_isTrue_Compare1 (thn (h pins s σ H _ I hw) fun v s1 h1 => thn h1 fun u s2 h2 => thn h2 fun c s3 ⟨x, H1, I1, r1, q1⟩ => ?_) h1
  obtain ⟨d, rfl, q⟩ := q1
  cases r1
  exact wpAny_truthy_bool ⟨H1, I1, q⟩
/-- an expression whose value is a bool, as a test -/
theorem pt_val {e : Expr} {t : TE} (h : PE X e t) (he : ∀ whole, isTrue e X.env whole = (do let v ← whole; standAt e.pos; holding [v] (truthy v)) := by intro _; rfl) : PT X e (tB t) := by
  intro pins s σ H Q I hw
  refine isTrue_plain (thn (h pins s σ H _ I hw) fun v s1 ⟨x, H1, I1, r1, q1⟩ => ?_) (he _)
  obtain ⟨d, rfl, q⟩ := q1
  cases r1
  exact wpAny_truthy_bool ⟨H1, I1, q⟩

variable {tA tB' : TT} {rest : List Expr}
def tAnd (t u : TT) : TT := fun σ H Q => t σ H fun c H1 => if c = true then u σ H1 Q else Q false H1
def tOr (t u : TT) : TT := fun σ H Q => t σ H fun c H1 => if c = true then Q true H1 else u σ H1 Q
def tNot (t : TT) : TT := fun σ H Q => t σ H fun c H1 => Q (!c) H1
theorem pw_and1 (ha : PT X a tA) : PW X (.BoolOp .And [a] pos) tA := by
  intro wh pins s σ H Q I h
  refine isTrue_and (thn (ha pins s σ H Q I h) fun c s1 e => ?_)
  cases c with
  | true => exact isTrue_and_nil e
  | false => exact e
theorem pw_or1 (ha : PT X a tA) : PW X (.BoolOp .Or [a] pos) tA := by
  intro wh pins s σ H Q I h
  refine isTrue_or (thn (ha pins s σ H Q I h) fun c s1 e => ?_)
  cases c with
  | false => exact isTrue_or_nil e
  | true => exact e
theorem pw_and (ha : PT X a tA) (hb : PW X (.BoolOp .And (b :: rest) pos) tB') : PW X (.BoolOp .And (a :: b :: rest) pos) (tAnd tA tB') := by
  intro wh pins s σ H Q I h
  refine isTrue_and (thn (ha pins s σ H _ I h) fun c s1 ⟨H1, I1, q1⟩ => ?_)
  cases c with
  | true => exact hb wh pins s1 σ H1 Q I1 q1
  | false => exact ⟨H1, I1, q1⟩
theorem pw_or (ha : PT X a tA) (hb : PW X (.BoolOp .Or (b :: rest) pos) tB') : PW X (.BoolOp .Or (a :: b :: rest) pos) (tOr tA tB') := by
  intro wh pins s σ H Q I h
  refine isTrue_or (thn (ha pins s σ H _ I h) fun c s1 ⟨H1, I1, q1⟩ => ?_)
  cases c with
  | true => exact ⟨H1, I1, q1⟩
  | false => exact hb wh pins s1 σ H1 Q I1 q1
theorem pt_not (ha : PT X a tA) : PT X (.UnaryOp .Not a pos) (tNot tA) := by
  intro pins s σ H Q I h
  exact isTrue_not (ha pins s σ H (fun c H1 => Q (!c) H1) I h)
/-- .. as values (bools) -/
def tAndV (ta tb : TE) : TE := fun σ H Q => ta σ H fun x H1 => ∃ c, x = .bl c ∧ if c = true then tb σ H1 Q else Q (.bl false) H1
def tOrV (ta tb : TE) : TE := fun σ H Q => ta σ H fun x H1 => ∃ c, x = .bl c ∧ if c = true then Q (.bl true) H1 else tb σ H1 Q
def tNotV (ta : TE) : TE := fun σ H Q => ta σ H fun x H1 => ∃ c, x = .bl c ∧ Q (.bl (!c)) H1
theorem pe_one {op} {t : TE} (h : PE X a t) : PE X (.BoolOp op [a] pos) t := fun pins s σ H Q I hw => BoolOp_one (h pins s σ H Q I hw)
theorem pe_and (ha : PE X a ta) (hb : PE X (.BoolOp .And (b :: rest) pos) tb) : PE X (.BoolOp .And (a :: b :: rest) pos) (tAndV ta tb) := by
  intro pins s σ H Q I h
  refine BoolOp_and (thn (ha pins s σ H _ I h) fun v s1 ⟨x, H1, I1, r1, q1⟩ => ?_)
  obtain ⟨c, rfl, q1⟩ := q1
  cases r1
  refine wpAny_truthy_bool ?_
  cases c with
  | true => exact hb pins s1 σ H1 Q I1 q1
  | false => exact ⟨.bl false, H1, I1, rfl, q1⟩
theorem pe_or (ha : PE X a ta) (hb : PE X (.BoolOp .Or (b :: rest) pos) tb) : PE X (.BoolOp .Or (a :: b :: rest) pos) (tOrV ta tb) := by
  intro pins s σ H Q I h
  refine BoolOp_or (thn (ha pins s σ H _ I h) fun v s1 ⟨x, H1, I1, r1, q1⟩ => ?_)
  obtain ⟨c, rfl, q1⟩ := q1
  cases r1
  refine wpAny_truthy_bool ?_
  cases c with
  | false => exact hb pins s1 σ H1 Q I1 q1
  | true => exact ⟨.bl true, H1, I1, rfl, q1⟩
theorem pe_not (ha : PE X a ta) : PE X (.UnaryOp .Not a pos) (tNotV ta) := by
  intro pins s σ H Q I h
  refine UnaryOp_ (thn (ha pins s σ H _ I h) fun v s1 ⟨x, H1, I1, r1, q1⟩ => ?_)
  obtain ⟨c, rfl, q1⟩ := q1
  cases r1
  exact not_of (wpAny_truthy_bool ⟨.bl (!c), H1, I1, rfl, q1⟩)
end
end L2

namespace L2
open PySem PySem.Spec PyProof.Rows

def SqL (K : PySem.W.Frag) (H : Hp) (a : Addr) (xs : List V) : Prop :=
  Rd H a (.lst xs) ∨
    ∃ (o : Obj) (its : Array Value) (n : Nat), K.lookup a = some o ∧ o.cls = .type "list" ∧ o.dict = none ∧ o.data = .seq its n ∧ its.size ≤ sizeLine ∧ Vals xs its.toList
def SqT (K : PySem.W.Frag) (H : Hp) (a : Addr) (xs : List V) : Prop :=
  Rd H a (.tup xs) ∨
    ∃ (o : Obj) (its : Array Value) (n : Nat), K.lookup a = some o ∧ o.cls = .type "tuple" ∧ (o.data, o.dict) = (.seq its n, none) ∧ its.size ≤ sizeLine ∧ Vals xs its.toList
def absV : Value → Option V
  | .none => some .non
  | .bool b => some (.bl b)
  | .int i _ => some (.int i)
  | .str x _ => some (.str x)
  | .bytes b _ => some (.byt b)
  | .float b _ => some (.flt b)
  | .ref a => some (.ref a)
  | .type n => some (.ty n)
  | _ => none
theorem RelV.abs {x : V} {u : Value} (r : RelV x u) : absV u = some x := by
  cases x with
  | non => cases r; rfl
  | bl _ => cases r; rfl
  | int _ => obtain ⟨t, rfl⟩ := r; rfl
  | str _ => obtain ⟨t, rfl⟩ := r; rfl
  | byt _ => obtain ⟨t, rfl⟩ := r; rfl
  | flt _ => obtain ⟨t, rfl⟩ := r; rfl
  | ref _ => cases r; rfl
  | ty _ => cases r; rfl
theorem RelV.inj {x y : V} {u : Value} (r : RelV x u) (q : RelV y u) : x = y := Option.some.inj (r.abs.symm.trans q.abs)
theorem Vals.inj : ∀ {xs ys : List V} {us : List Value}, Vals xs us → Vals ys us → xs = ys
  | _, _, _, .nil, .nil => rfl
  | _, _, _, .cons r t, .cons r' t' => by rw [r.inj r', Vals.inj t t']
section
variable {X : Cx} {pins : List (Addr × Obj)} {σ : St} {H : Hp} {s : Shared} {a : Addr} {xs ys : List V}
theorem SqL.of {K : PySem.W.Frag} (h : H a = some (.lst xs)) : SqL K H a xs := .inl (.inl h)
theorem SqT.of {K : PySem.W.Frag} (h : H a = some (.tup xs)) : SqT K H a xs := .inl (.inl h)
theorem Inv.list (I : Inv X pins σ H s) (h : SqL X.K H a xs) : ∃ its : List Value, Vals xs its ∧ PlainL s.heap a its.toArray ∧ xs.length ≤ sizeLine := by
  rcases h with h | ⟨o, its, n, hk, hc, hd, hs, hz, r⟩
  · obtain ⟨z, its, n, r, e⟩ := h.ok I.hok
    exact ⟨its, r, ⟨_, n, e, rfl, rfl, rfl⟩, z⟩
  · refine ⟨its.toList, r, ⟨o, n, I.kIn a o hk, hc, hd, by simpa using hs⟩, ?_⟩
    have e := r.length
    simp only [Array.length_toList] at e
    omega
theorem Inv.tupleP (I : Inv X pins σ H s) (h : SqT X.K H a xs) : ∃ its : List Value, Vals xs its ∧ IsTupP s.heap a its.toArray ∧ xs.length ≤ sizeLine := by
  rcases h with h | ⟨o, its, n, hk, hc, hs, hz, r⟩
  · obtain ⟨z, its, r, p⟩ := h.ok I.hok
    exact ⟨its, r, p, z⟩
  · refine ⟨its.toList, r, ⟨o, I.kIn a o hk, hc, n, by simpa using hs⟩, ?_⟩
    have e := r.length
    simp only [Array.length_toList] at e
    omega
theorem Inv.tuple (I : Inv X pins σ H s) (h : SqT X.K H a xs) : ∃ its : List Value, Vals xs its ∧ IsTup s.heap a its.toArray ∧ xs.length ≤ sizeLine := let ⟨its, r, p, z⟩ := I.tupleP h; ⟨its, r, p.is, z⟩
theorem Inv.list_inj (I : Inv X pins σ H s) (h : SqL X.K H a xs) (h' : SqL X.K H a ys) : xs = ys := by
  obtain ⟨its, r, ⟨o, n, e, _, _, d⟩, _⟩ := I.list h
  obtain ⟨its', r', ⟨o', n', e', _, _, d'⟩, _⟩ := I.list h'
  rw [e] at e'; cases e'
  rw [d] at d'
  injection d' with d1 _
  have : its = its' := by simpa using congrArg Array.toList d1
  subst this
  exact r.inj r'
theorem Inv.tuple_inj (I : Inv X pins σ H s) (h : SqT X.K H a xs) (h' : SqT X.K H a ys) : xs = ys := by
  obtain ⟨its, r, ⟨o, e, _, n, d⟩, _⟩ := I.tuple h
  obtain ⟨its', r', ⟨o', e', _, n', d'⟩, _⟩ := I.tuple h'
  rw [e] at e'; cases e'
  rw [d] at d'
  injection d' with d1 _
  have : its = its' := by simpa using congrArg Array.toList d1
  subst this
  exact r.inj r'
end

abbrev Cx.wish (X : Cx) (E : Value → Shared → Prop) : Cx := { X with xe := E }
/-- no exception leaves -/
abbrev Cx.nox (X : Cx) : Cx := X.wish fun _ _ => False
theorem Cx.Ok.wish {X : Cx} (ok : X.Ok) (E : Value → Shared → Prop) : (X.wish E).Ok :=
  ⟨ok.mod, ok.kind, ok.glob, ok.blt, ok.above, ok.inj, ok.has, ok.cab, ok.hd, ok.frames, ok.stk, ok.exf, ok.bs, ok.bsz, ok.noex, ok.exfs, ok.funs, ok.frf⟩
theorem Cx.Ok.unwish {X : Cx} {E : Value → Shared → Prop} (ok : (X.wish E).Ok) : X.Ok :=
  ⟨ok.mod, ok.kind, ok.glob, ok.blt, ok.above, ok.inj, ok.has, ok.cab, ok.hd, ok.frames, ok.stk, ok.exf, ok.bs, ok.bsz, ok.noex, ok.exfs, ok.funs, ok.frf⟩
section
variable {X : Cx} {pins : List (Addr × Obj)} {σ : St} {H : Hp} {s : Shared} {E : Value → Shared → Prop}
theorem Inv.wish (I : Inv X pins σ H s) (E : Value → Shared → Prop) : Inv (X.wish E) pins σ H s := ⟨I.ok.wish E, I.os, I.bare, I.base, I.loc, I.cell, I.free, I.freeC, I.pin, I.hok, I.len⟩
theorem Inv.unwish (I : Inv (X.wish E) pins σ H s) : Inv X pins σ H s := ⟨I.ok.unwish, I.os, I.bare, I.base, I.loc, I.cell, I.free, I.freeC, I.pin, I.hok, I.len⟩
theorem SP.unwish {D : Ends} {f : Flow} {s' : Shared} (h : SP (X.wish E) pins D f s') : SP X pins D f s' := by
  cases f with
  | next => obtain ⟨σ', H', I, q⟩ := h; exact ⟨σ', H', I.unwish, q⟩
  | brk => obtain ⟨σ', H', I, q⟩ := h; exact ⟨σ', H', I.unwish, q⟩
  | cont => obtain ⟨σ', H', I, q⟩ := h; exact ⟨σ', H', I.unwish, q⟩
  | ret u => obtain ⟨v, σ', H', I, r, q⟩ := h; exact ⟨v, σ', H', I.unwish, r, q⟩
theorem PE.nox {e : Expr} {t : TE} (h : PE X.nox e t) : PE X e t := fun pins s σ H Q I hw =>
  wpAny_mono (h pins s σ H Q (I.wish _) hw) (fun _ _ ⟨v, H', I', r, q⟩ => ⟨v, H', I'.unwish, r, q⟩) fun _ _ z => False.elim z
theorem PT.nox {e : Expr} {t : TT} (h : PT X.nox e t) : PT X e t := fun pins s σ H Q I hw =>
  wpAny_mono (h pins s σ H Q (I.wish _) hw) (fun _ _ ⟨H', I', q⟩ => ⟨H', I'.unwish, q⟩) fun _ _ z => False.elim z
theorem PSs.nox {st : List Stmt} {t : TS} (h : PSs X.nox st t) : PSs X st t := fun pins s σ H D I hw =>
  wpAny_mono (h pins s σ H D (I.wish _) hw) (fun _ _ q => q.unwish) fun _ _ z => False.elim z
end

section
variable {X : Cx} {st : Stmt} {rest : List Stmt} {t u : TS} {e : Expr} {te : TE} {pos : Pos}
def tNext : TS := fun D σ H => D.nx σ H
def tSeq (t u : TS) : TS := fun D σ H => t { D with nx := u D } σ H
theorem pss_nil : PSs X [] tNext := fun _ _ σ H _ I h => wpAny_execs_nil ⟨σ, H, I, h⟩
theorem pss_cons (h1 : PS X st t) (h2 : PSs X rest u) : PSs X (st :: rest) (tSeq t u) := by
  intro pins s σ H D I h
  refine wpAny_execs_cons (thn (h1 pins s σ H { D with nx := u D } I h) fun f s1 q => ?_)
  cases f with
  | next =>
    obtain ⟨σ', H', I', q⟩ := q
    exact h2 pins s1 σ' H' D I' q
  | ret v => exact q
  | brk => exact q
  | cont => exact q
theorem pss_one (h1 : PS X st t) : PSs X [st] t := by
  intro pins s σ H D I h
  refine wpAny_execs_cons (thn (h1 pins s σ H D I h) fun f s1 q => ?_)
  cases f with
  | next => exact wpAny_execs_nil q
  | ret v => exact q
  | brk => exact q
  | cont => exact q
/-- in a def's body nothing is shown -/
theorem Inv.quiet {pins : List (Addr × Obj)} {σ : St} {H : Hp} {s : Shared} (I : Inv X pins σ H s) : interactive X.env = false := by simp [interactive, I.ok.kind]
/-- an expression whose value is dropped -/
def tDrop (te : TE) : TS := fun D σ H => te σ H fun _ H1 => D.nx σ H1
theorem ps_expr (he : PE X e te) (hs : swapsWith e none pos.line X.env = pure false := by rfl) : PS X (.Expr e pos) (tDrop te) := by
  intro pins s σ H D I h
  exact wpAny_Expr_any (thn (he pins s σ H _ I h) fun v s1 ⟨x, H1, I1, r1, q1⟩ => ⟨σ, H1, I1, q1⟩) I.quiet hs
def tRet (te : TE) : TS := fun D σ H => te σ H D.rt
theorem ps_ret (he : PE X e te) : PS X (.Return (some e) pos) (tRet te) := by
  intro pins s σ H D I h
  exact wpAny_Return_some (thn (he pins s σ H _ I h) fun v s1 ⟨x, H1, I1, r1, q1⟩ => ⟨x, σ, H1, I1, r1, q1⟩)
def tIfS (c : TT) (t u : TS) : TS := fun D σ H => c σ H fun b H1 => if b = true then t D σ H1 else u D σ H1
theorem ps_if {c : Expr} {a b : List Stmt} {tc : TT} (hc : PT X c tc) (ha : PSs X a t) (hb : PSs X b u) : PS X (.If c a b pos) (tIfS tc t u) := by
  intro pins s σ H D I h
  refine wpAny_If (thn (hc pins s σ H _ I h) fun d s1 ⟨H1, I1, q1⟩ => ?_)
  cases d with
  | true => exact ha pins s1 σ H1 D I1 q1
  | false => exact hb pins s1 σ H1 D I1 q1
end

abbrev TG := V → St → Hp → (St → Hp → Prop) → Prop
abbrev TGs := List V → St → Hp → (St → Hp → Prop) → Prop
def PG (X : Cx) (target : Expr) (t : TG) : Prop :=
  ∀ (pins : List (Addr × Obj)) (s : Shared) (σ : St) (H : Hp) (v : V) (u : Value) (Q : St → Hp → Prop), Inv X pins σ H s → RelV v u → t v σ H Q →
    wpAny (model X.prog X.w) X.A (assign target X.env u) (fun _ s' => ∃ σ' H', Inv X pins σ' H' s' ∧ Q σ' H') X.xe s
/-- several targets, one after another -/
def PGs (X : Cx) (ts : List Expr) (t : TGs) : Prop :=
  ∀ (pins : List (Addr × Obj)) (s : Shared) (σ : St) (H : Hp) (vs : List V) (us : List Value) (Q : St → Hp → Prop), Inv X pins σ H s → Vals vs us → t vs σ H Q →
    wpAny (model X.prog X.w) X.A (assignInOrder ((assignEach ts X.env).map (·.2)) us) (fun _ s' => ∃ σ' H', Inv X pins σ' H' s' ∧ Q σ' H') X.xe s
/-- o[i] = v, by values -/
abbrev TSet := V → V → V → Hp → (Hp → Prop) → Prop
def PSet (X : Cx) (t : TSet) : Prop :=
  ∀ (pins : List (Addr × Obj)) (s : Shared) (σ : St) (H : Hp) (o i v : V) (ov iv u : Value) (Q : Hp → Prop), Inv X pins σ H s → RelV o ov → RelV i iv → RelV v u → t o i v H Q →
    wpAny (model X.prog X.w) X.A (setItem ov iv u) (fun _ s' => ∃ H', Inv X pins σ H' s' ∧ Q H') X.xe s
section
variable {X : Cx} {pos : Pos}
def gName (i : Nat) : TG := fun v σ H Q => Q (σ.set i (some v)) H
theorem pg_name {i : Nat} {x : Str} (hN : X.N.Nodup) (hi : X.N[i]? = some x) (hx : Loc X.env.scope x) (hf : X.fn x = true ∨ X.env.scope.names.lookup x = some .local := by first | exact .inl rfl | exact .inr rfl | assumption) : PG X (.Name x pos) (gName i) := by
  intro pins s σ H v u Q I r h
  exact wpAny_assign_Name (store_ok I hN hi hx r (fun s' I' => ⟨_, H, I', h⟩) hf)
def gNil : TGs := fun vs σ H Q => vs = [] ∧ Q σ H
def gCons (t : TG) (u : TGs) : TGs := fun vs σ H Q => ∃ v r, vs = v :: r ∧ t v σ H fun σ' H' => u r σ' H' Q
theorem pgs_nil : PGs X [] gNil := by
  intro pins s σ H vs us Q I r h
  obtain ⟨e, h⟩ := h
  subst e
  cases r
  exact assignInOrder_nil ⟨σ, H, I, h⟩
theorem pgs_cons {e : Expr} {es : List Expr} {t : TG} {u : TGs} (h1 : PG X e t) (h2 : PGs X es u)
    (hs : (assignEach (e :: es) X.env).map (·.2) = assign e X.env :: (assignEach es X.env).map (·.2) := by rfl) : PGs X (e :: es) (gCons t u) := by
  intro pins s σ H vs us Q I r h
  obtain ⟨v, vr, e1, h⟩ := h
  subst e1
  cases r with
  | cons r rr =>
    rw [hs]
    refine assignInOrder_cons (thn (h1 pins s σ H _ _ _ I r h) fun _ s1 ⟨σ1, H1, I1, q1⟩ => ?_)
    exact h2 pins s1 σ1 H1 _ _ Q I1 rr q1
/-- (a, b, ..) = a tuple of that length -/
def gTup (K : PySem.W.Frag) (n : Nat) (t : TGs) : TG := fun v σ H Q => ∃ a xs, v = .ref a ∧ SqT K H a xs ∧ xs.length = n ∧ t xs σ H Q
theorem pg_tup {es : List Expr} {k : Nat} {t : TGs} {n : Nat} (hc : X.calm = true) (h : PGs X es t)
    (hn : (assignEach es X.env).length = n := by rfl) (hst : (assignEach es X.env).findIdx? (·.1) = none := by rfl) : PG X (.Tuple es k pos) (gTup X.K n t) := by
  intro pins s σ H v u Q I r hw
  obtain ⟨a, xs, e1, hq, hl, hw⟩ := hw
  subst e1
  cases r
  obtain ⟨its, rv, ht, hz⟩ := I.tuple hq
  refine assign_Tuple_tuple (I.ok.hd hc) ht (by simp [hn, ← hl, rv.length]) hst fun h' hx => ?_
  have I1 : Inv X pins σ H { s with heap := h' } := I.kept (t' := s.toks) fun b o e => hx b o (Nat.ne_of_lt (Heap.lt_size e)) e
  exact h pins _ σ H xs _ Q I1 (by simpa using rv) hw
/-- o[i] = .. -/
def gSub (to ti : TE) (t : TSet) : TG := fun v σ H Q => to σ H fun o H1 => ti σ H1 fun i H2 => t o i v H2 fun H3 => Q σ H3
theorem pg_sub {o i : Expr} {to ti : TE} {t : TSet} (ho : PE X o to) (hi : PE X i ti) (hs : PSet X t)
    (ha : ∀ v, assign (.Subscript o i pos) X.env v = (do
      let ov ← holding [v] (eval o X.env)
      let iv ← holding [v, ov] (eval i X.env)
      standAt pos
      holding [v, ov, iv] (setItem ov iv v)
      release [v, ov, iv] []) := by intro _; rfl) : PG X (.Subscript o i pos) (gSub to ti t) := by
  intro pins s σ H v u Q I r h
  rw [ha]
  refine wpAny_bind (wpAny_holding (thn (ho pins s σ H _ I h) fun ov s1 ⟨x, H1, I1, r1, q1⟩ => ?_))
  refine wpAny_bind (wpAny_holding (thn (hi pins s1 σ H1 _ I1 q1) fun iv s2 ⟨y, H2, I2, r2, q2⟩ => ?_))
  refine wpAny_bind (wpAny_standAt (wpAny_bind (wpAny_holding (thn (hs pins s2 σ H2 x y v ov iv u _ I2 r1 r2 r q2) fun _ s3 ⟨H3, I3, q3⟩ => ?_))))
  exact wpAny_release ⟨σ, H3, I3, q3⟩
/-- target = value -/
def tAsg (te : TE) (g : TG) : TS := fun D σ H => te σ H fun x H1 => g x σ H1 D.nx
theorem ps_asg {tg e : Expr} {te : TE} {g : TG} (he : PE X e te) (hg : PG X tg g) (hs : swapsWithSole [tg] e pos.line X.env = pure false := by rfl) (hw : swappedStores [tg] e X.env = pure none := by rfl)
    (h1 : (assignEach [tg] X.env).map (·.2) = [assign tg X.env] := by rfl) : PS X (.Assign [tg] e pos) (tAsg te g) := by
  intro pins s σ H D I h
  refine wpAny_Assign_stores (thn (he pins s σ H _ I h) fun v s1 ⟨x, H1, I1, r1, q1⟩ => ?_) hs hw
  rw [h1]
  exact thn (hg pins s1 σ H1 x v _ I1 r1 q1) fun _ s2 q => q
/-- name = value -/
theorem ps_set {i : Nat} {x : Str} {e : Expr} {te : TE} {pos' : Pos} (hN : X.N.Nodup) (hi : X.N[i]? = some x) (hx : Loc X.env.scope x) (he : PE X e te) (hs : swapsWith e (some (.Name x pos')) pos.line X.env = pure false := by rfl) (hf : X.fn x = true ∨ X.env.scope.names.lookup x = some .local := by first | exact .inl rfl | exact .inr rfl | assumption) :
    PS X (.Assign [.Name x pos'] e pos) (tAsg te (gName i)) := by
  intro pins s σ H D I h
  refine wpAny_Assign_Name (thn (he pins s σ H _ I h) fun v s1 ⟨y, H1, I1, r1, q1⟩ => ?_) hs
  exact store_ok I1 hN hi hx r1 (fun s2 I2 => ⟨_, H1, I2, q1⟩) hf
end

section
variable {X : Cx} {pos : Pos}
end

/-- at turn i: it yields x (the heap may grow), or it stops -/
structure It where
  go : Nat → Hp → Prop
  yld : Nat → Hp → V → Hp → Prop
  stop : Nat → Hp → Prop
/-- the iterator's own objects may turn: they are not the frame's, not pinned, younger than the entry (or a comprehension's own) -/
def FpOk (X : Cx) (pins : List (Addr × Obj)) (H : Hp) (b : Addr) : Prop :=
  H b = none ∧ b ≠ X.env.locals ∧ b ∉ X.fs ∧ (b ∈ X.ex ∨ X.s_0.heap.objs.size ≤ b) ∧ (∀ x c, X.env.cells.lookup x = some c → c ≠ b) ∧ ∀ p ∈ X.pn ++ pins, p.1 ≠ b
theorem Inv.fpOk {X : Cx} {pins : List (Addr × Obj)} {σ : St} {H H' : Hp} {s : Shared} {b : Addr} (I : Inv X pins σ H s) (hb : s.heap.objs.size ≤ b) (hn : H' b = none) : FpOk X pins H' b := by
  refine ⟨hn, Nat.ne_of_gt (Nat.lt_of_lt_of_le I.lt hb), I.nofs hb, .inr (Nat.le_trans I.sz hb), fun x c e z => ?_, fun p hp z => ?_⟩
  · obtain ⟨v, q⟩ := I.cell x c e
    exact absurd (Nat.lt_of_lt_of_le q.lt (by rw [z]; exact hb)) (Nat.lt_irrefl _)
  · exact absurd (Nat.lt_of_lt_of_le (Heap.lt_size (I.pin p hp).1) (by rw [z]; exact hb)) (Nat.lt_irrefl _)
structure Turn (P : Program) (w : World) (K : PySem.W.Frag) (tg : Expr) (J : It) (fp : List Addr) (it : Addr) (tn : Nat → Heap → Prop) : Prop where
  mem : it ∈ fp
  obj : ∀ i h, tn i h → ∀ b ∈ fp, ∃ o, h.get? b = some o ∧ ∀ v, o.data ≠ .cell v
  keep : ∀ i h h', tn i h → (∀ b ∈ fp, ∀ o, h.get? b = some o → h'.get? b = some o) → tn i h'
  item : ∀ (X : Cx), X.prog = P → X.w = w → X.K = K → X.calm = true → ∀ (i : Nat) (pins : List (Addr × Obj)) (s : Shared) (σ : St) (H : Hp) (E : Value → Shared → Prop), Inv X pins σ H s → (∀ b ∈ fp, FpOk X pins H b) → tn i s.heap → J.go i H →
    wpAny (model P w) X.A (pyNext (.ref it)) (fun r s1 => ∃ u, r = some u ∧
      wpAny (model P w) X.A (letOwnedTupleGo tg (.ref it) u) (fun _ s2 => ∃ x H', Inv X pins σ H' s2 ∧ RelV x u ∧ J.yld i H x H' ∧ tn (i + 1) s2.heap ∧ ∀ b ∈ fp, H' b = none) E s1) E s
  done : ∀ (X : Cx), X.prog = P → X.w = w → X.K = K → X.calm = true → ∀ (i : Nat) (pins : List (Addr × Obj)) (s : Shared) (σ : St) (H : Hp) (E : Value → Shared → Prop), Inv X pins σ H s → (∀ b ∈ fp, FpOk X pins H b) → tn i s.heap → J.stop i H →
    wpAny (model P w) X.A (pyNext (.ref it)) (fun r s1 => r = none ∧ Inv X pins σ H s1) E s
  self : ∀ (A : Around) (i : Nat) (s : Shared) (Q : Value → Shared → Prop) (E : Value → Shared → Prop), tn i s.heap → Q (.ref it) s → wpAny (model P w) A (pyIter (.ref it)) Q E s
abbrev TI := St → Hp → (It → Hp → Prop) → Prop
/-- an iterator has come -/
def PIE (X : Cx) (pins : List (Addr × Obj)) (σ : St) (tg : Expr) (R : It → Hp → Prop) (itv : Value) (s2 : Shared) : Prop :=
  ∃ (it : Addr) (fp : List Addr) (tn : Nat → Heap → Prop) (J : It) (H' : Hp), itv = .ref it ∧ Inv X pins σ H' s2 ∧ Turn X.prog X.w X.K tg J fp it tn ∧ tn 0 s2.heap ∧ (∀ b ∈ fp, FpOk X pins H' b) ∧ R J H'
def PI (X : Cx) (tg iter : Expr) (wi : TI) : Prop :=
  ∀ (pins : List (Addr × Obj)) (s : Shared) (σ : St) (H : Hp) (R : It → Hp → Prop), Inv X pins σ H s → wi σ H R →
    wpAny (model X.prog X.w) X.A (eval iter X.env) (fun v s1 => wpAny (model X.prog X.w) X.A (pyIter v) (PIE X pins σ tg R) X.xe s1) X.xe s

/-- the step ahead of the store is nothing for an iterator that keeps no tuple -/
theorem go_of {M : Model} {A : Around} {E : Value → Shared → Prop} {s : Shared} {tg : Expr} {it : Addr} {u : Value} {o : Obj} {n : String} {vs : Array Value} {Q : Unit → Shared → Prop} (ho : s.heap.get? it = some o) (hc : o.cls = .type n) (hd : o.data = .fields vs)
    (hn : ["enumerate", "zip", "dict_itemiterator", "dict_reverseitemiterator", "odict_iterator", "itertools.zip_longest", "itertools.pairwise"].contains n = false) (hQ : Q () s) : wpAny M A (letOwnedTupleGo tg (.ref it) u) Q E s := by
  unfold letOwnedTupleGo
  cases tg <;> first
    | exact wpAny_pure hQ
    | (cases u <;> first
        | exact wpAny_pure hQ
        | (refine wpAny_bind (wpAny_load ho ?_)
           rw [hc, hd]
           show wpAny M A (if (["enumerate", "zip", "dict_itemiterator", "dict_reverseitemiterator", "odict_iterator", "itertools.zip_longest", "itertools.pairwise"].contains n && vs[0]? == some (rawInt _)) = true then _ else _) Q E s
           rw [if_neg (by intro h; rw [hn, Bool.false_and] at h; cases h)]
           exact wpAny_pure hQ))

/-- the list at a, as it stands at each turn (a loop may append to it) -/
def Itl (K : PySem.W.Frag) (a : Addr) : It :=
  ⟨fun i H => ∃ xs x, SqL K H a xs ∧ xs[i]? = some x, fun i H x H' => H' = H ∧ ∀ xs, SqL K H a xs → xs[i]? = some x, fun i H => ∃ xs, SqL K H a xs ∧ xs.length ≤ i⟩
def Itt (K : PySem.W.Frag) (a : Addr) : It :=
  ⟨fun i H => ∃ xs x, SqT K H a xs ∧ xs[i]? = some x, fun i H x H' => H' = H ∧ ∀ xs, SqT K H a xs → xs[i]? = some x, fun i H => ∃ xs, SqT K H a xs ∧ xs.length ≤ i⟩
/-- lo, lo + 1, .. (n of them) -/
def Itr (lo : Int) (n : Nat) : It := ⟨fun i _ => i < n, fun i H x H' => H' = H ∧ x = .int (lo + i), fun i _ => n ≤ i⟩
theorem turn_list {P : Program} {w : World} {K : PySem.W.Frag} {tg : Expr} (a it : Addr) : Turn P w K tg (Itl K a) [it] it (fun i h => h.IsListIter it a i) where
  mem := by simp
  obj := fun i h st b hb => by
    have e : b = it := by simpa using hb
    subst e
    obtain ⟨o, e, c, d⟩ := st
    exact ⟨o, e, fun v z => by rw [d] at z; cases z⟩
  keep := fun i h h' st k => st.at fun o e => k it (by simp) o e
  item := by
    intro X hP hw hK hc i pins s σ H E I hf st hg
    subst hP hw hK
    obtain ⟨xs, x, hq, hx⟩ := hg
    obtain ⟨its, rv, p, hz⟩ := I.list hq
    obtain ⟨u, hu, ru⟩ := rv.get hx
    obtain ⟨f0, f1, f2, f3, f4, f5⟩ := hf it (by simp)
    refine wpAny_pyNext_list_item st p.isList (x := u) (by simpa using hu) fun h' st' sb => ?_
    have I1 : Inv X pins σ H { s with heap := h' } := I.turned (t' := s.toks) (fun b o hb e => (sb.2 b hb).trans e) f0 f1 f3 f4 f5
    obtain ⟨o, e, c, d⟩ := id st'
    exact ⟨u, rfl, go_of (s := { s with heap := h' }) e c d (by decide) ⟨x, H, I1, ru, ⟨rfl, fun ys hy => by rw [I.list_inj hy hq]; exact hx⟩, st', fun b hb => (hf b hb).1⟩⟩
  done := by
    intro X hP hw hK hc i pins s σ H E I hf st hg
    subst hP hw hK
    obtain ⟨xs, hq, hx⟩ := hg
    obtain ⟨its, rv, p, hz⟩ := I.list hq
    obtain ⟨f0, f1, f2, f3, f4, f5⟩ := hf it (by simp)
    have hl := rv.length
    exact wpAny_pyNext_list_end (I.ok.hd hc) st p.isList (by simp; omega) fun h' eb => ⟨rfl, I.turned (t' := s.toks) (fun b o hb e => eb b o hb e) f0 f1 f3 f4 f5⟩
  self := fun _ _ _ _ _ st h => wpAny_pyIter_listiter st h
theorem turn_tuple {P : Program} {w : World} {K : PySem.W.Frag} {tg : Expr} (a it : Addr) : Turn P w K tg (Itt K a) [it] it (fun i h => h.IsTupleIter it a i) where
  mem := by simp
  obj := fun i h st b hb => by
    have e : b = it := by simpa using hb
    subst e
    obtain ⟨o, e, c, d⟩ := st
    exact ⟨o, e, fun v z => by rw [d] at z; cases z⟩
  keep := fun i h h' st k => st.at fun o e => k it (by simp) o e
  item := by
    intro X hP hw hK hc i pins s σ H E I hf st hg
    subst hP hw hK
    obtain ⟨xs, x, hq, hx⟩ := hg
    obtain ⟨its, rv, p, hz⟩ := I.tuple hq
    obtain ⟨u, hu, ru⟩ := rv.get hx
    obtain ⟨f0, f1, f2, f3, f4, f5⟩ := hf it (by simp)
    refine wpAny_pyNext_tuple_item st (show s.heap.IsTuple a its.toArray from p) (x := u) (by simpa using hu) fun h' st' sb => ?_
    have I1 : Inv X pins σ H { s with heap := h' } := I.turned (t' := s.toks) (fun b o hb e => (sb.2 b hb).trans e) f0 f1 f3 f4 f5
    obtain ⟨o, e, c, d⟩ := id st'
    exact ⟨u, rfl, go_of (s := { s with heap := h' }) e c d (by decide) ⟨x, H, I1, ru, ⟨rfl, fun ys hy => by rw [I.tuple_inj hy hq]; exact hx⟩, st', fun b hb => (hf b hb).1⟩⟩
  done := by
    intro X hP hw hK hc i pins s σ H E I hf st hg
    subst hP hw hK
    obtain ⟨xs, hq, hx⟩ := hg
    obtain ⟨its, rv, p, hz⟩ := I.tuple hq
    obtain ⟨f0, f1, f2, f3, f4, f5⟩ := hf it (by simp)
    have hl := rv.length
    exact wpAny_pyNext_tuple_end (I.ok.hd hc) st (show s.heap.IsTuple a its.toArray from p) (by simp; omega) fun h' eb => ⟨rfl, I.turned (t' := s.toks) (fun b o hb e => eb b o hb e) f0 f1 f3 f4 f5⟩
  self := fun _ _ _ _ _ st h => wpAny_pyIter_tupleiter st h
theorem turn_range {P : Program} {w : World} {K : PySem.W.Frag} {tg : Expr} (it : Addr) (lo : Int) (n : Nat) : Turn P w K tg (Itr lo n) [it] it (fun i h => IsRangeIter h it (lo + (i : Nat) * 1) ((n : Int) - (i : Nat)) 1) where
  mem := by simp
  obj := fun i h st b hb => by
    have e : b = it := by simpa using hb
    subst e
    exact ⟨_, st, fun v z => by
      have z' : Data.fields _ = Data.cell v := z
      cases z'⟩
  keep := fun i h h' st k => k it (by simp) _ st
  item := by
    intro X hP hw hK hc i pins s σ H E I hf st hg
    subst hP hw hK
    obtain ⟨f0, f1, f2, f3, f4, f5⟩ := hf it (by simp)
    have W := Walks.range (prog := X.prog) (w := X.w) (I.ok.hd hc) it lo 1 n
    refine W.item i s _ _ hg st fun v h' tk hv st' kk => ?_
    obtain ⟨t, rfl⟩ := hv
    have I1 : Inv X pins σ H { s with heap := h', toks := tk } := I.turned (fun b o hb e => kk b o (by simpa using hb) e) f0 f1 f3 f4 f5
    refine ⟨_, rfl, go_of (s := { s with heap := h', toks := tk }) (n := "range_iterator") st' rfl rfl (by decide) ⟨.int (lo + i), H, I1, ⟨t, ?_⟩, ⟨rfl, rfl⟩, st', fun b hb => (hf b hb).1⟩⟩
    rw [Int.mul_one]
  done := by
    intro X hP hw hK hc i pins s σ H E I hf st hg
    subst hP hw hK
    obtain ⟨f0, f1, f2, f3, f4, f5⟩ := hf it (by simp)
    exact wpAny_pyNext_range_end (I.ok.hd hc) st (by have : n ≤ i := hg; omega) fun h' eb => ⟨rfl, I.turned (t' := s.toks) (fun b o hb e => eb b o hb e) f0 f1 f3 f4 f5⟩
  self := fun _ _ _ _ _ st h => wpAny_pyIter_rangeiter st h
end L2

namespace L2
open PySem PySem.Spec PyProof.Rows
section
variable {X : Cx} {tg : Expr}
def iList (K : PySem.W.Frag) (tl : TE) : TI := fun σ H R => tl σ H fun x H1 => ∃ a, x = .ref a ∧ (∃ xs, SqL K H1 a xs) ∧ R (Itl K a) H1
def iTup (K : PySem.W.Frag) (tl : TE) : TI := fun σ H R => tl σ H fun x H1 => ∃ a, x = .ref a ∧ (∃ xs, SqT K H1 a xs) ∧ R (Itt K a) H1
theorem pi_list {l : Expr} {tl : TE} (hl : PE X l tl) : PI X tg l (iList X.K tl) := by
  intro pins s σ H R I h
  refine thn (hl pins s σ H _ I h) fun v s1 ⟨x, H1, I1, r1, q1⟩ => ?_
  obtain ⟨a, e, ⟨xs, hq⟩, q⟩ := q1
  subst e
  cases r1
  obtain ⟨its, rv, p, hz⟩ := I1.list hq
  refine wpAny_pyIter_list p.isList ?_
  refine ⟨s1.heap.objs.size, [s1.heap.objs.size], _, _, H1, rfl, I1.kept (t' := s1.toks) fun b o e => Heap.get?_push_of_some _ e, turn_list a _, ⟨_, Heap.get?_push_size _ rfl, rfl, rfl⟩, fun b hb => ?_, q⟩
  have e : b = s1.heap.objs.size := by simpa using hb
  subst e
  exact I1.fpOk (Nat.le_refl _) (I1.hok.fresh (Nat.le_refl _))
theorem pi_tup {l : Expr} {tl : TE} (hl : PE X l tl) : PI X tg l (iTup X.K tl) := by
  intro pins s σ H R I h
  refine thn (hl pins s σ H _ I h) fun v s1 ⟨x, H1, I1, r1, q1⟩ => ?_
  obtain ⟨a, e, ⟨xs, hq⟩, q⟩ := q1
  subst e
  cases r1
  obtain ⟨its, rv, p, hz⟩ := I1.tuple hq
  refine wpAny_pyIter_tuple (show s1.heap.IsTuple a its.toArray from p) ?_
  refine ⟨s1.heap.objs.size, [s1.heap.objs.size], _, _, H1, rfl, I1.kept (t' := s1.toks) fun b o e => Heap.get?_push_of_some _ e, turn_tuple a _, ⟨_, Heap.get?_push_size _ rfl, rfl, rfl⟩, fun b hb => ?_, q⟩
  have e : b = s1.heap.objs.size := by simpa using hb
  subst e
  exact I1.fpOk (Nat.le_refl _) (I1.hok.fresh (Nat.le_refl _))
/-- a range object just made, walked -/
theorem range_it {pins : List (Addr × Obj)} {σ : St} {H : Hp} {s : Shared} {R : It → Hp → Prop} {E : Value → Shared → Prop} {lo hi : Int} {t u v : Tok} {tk : Nat} (I : Inv X pins σ H s) (h1 : -(2 ^ 62) ≤ lo) (h2 : lo < 2 ^ 62) (h3 : -(2 ^ 62) ≤ hi) (h4 : hi < 2 ^ 62)
    (q : R (Itr lo (hi - lo).toNat) H) : wpAny (model X.prog X.w) X.A (pyIter (.ref s.heap.objs.size)) (PIE X pins σ tg R) E { s with heap := s.heap.push { cls := .type "range", data := .fields #[.int lo t, .int hi u, .int 1 v] }, toks := tk } := by
  refine wpAny_pyIter_range (IsRange.new ..) (small_one h1 h2 h3 h4) ?_
  have I1 : Inv X pins σ H { s with heap := s.heap.push { cls := .type "range", data := .fields #[.int lo t, .int hi u, .int 1 v] }, toks := tk } := I.kept fun b o e => Heap.get?_push_of_some _ e
  refine ⟨(s.heap.push { cls := .type "range", data := .fields #[.int lo t, .int hi u, .int 1 v] }).objs.size, [(s.heap.push { cls := .type "range", data := .fields #[.int lo t, .int hi u, .int 1 v] }).objs.size], _, _, H, rfl,
    I1.kept (t' := tk) fun b o e => Heap.get?_push_of_some _ e, turn_range _ lo (hi - lo).toNat, ?_, fun b hb => ?_, q⟩
  · have e1 : lo + ((0 : Nat) : Int) * 1 = lo := by simp
    have e2 : (((hi - lo).toNat : Nat) : Int) - ((0 : Nat) : Int) = Builtin.Range.rangeSize lo hi 1 := by rw [rangeSize_one]; split <;> omega
    show IsRangeIter _ _ (lo + ((0 : Nat) : Int) * 1) ((((hi - lo).toNat : Nat) : Int) - ((0 : Nat) : Int)) 1
    rw [e1, e2]
    exact Heap.get?_push_size _ rfl
  · have e : b = (s.heap.push { cls := .type "range", data := .fields #[.int lo t, .int hi u, .int 1 v] }).objs.size := by simpa using hb
    subst e
    exact I1.fpOk (Nat.le_refl _) (I1.hok.fresh (Nat.le_refl _))
def iRng1 (ta : TA) : TI := fun σ H R => ta σ H fun vs H1 => ∃ j : Int, vs = [.int j] ∧ -(2 ^ 62) ≤ j ∧ j < 2 ^ 62 ∧ R (Itr 0 j.toNat) H1
theorem pi_range1 {a : Expr} {ta : TA} {p pos : Pos} (hg : Gl X "range") (hm : X.mg "range" = none) (ha : PA X [a] ta) (hs : starEach [a] X.env = [(false, eval a X.env)] := by rfl) : PI X tg (.Call (.Name "range" p) [a] [] pos) (iRng1 ta) := by
  intro pins s σ H R I h
  refine Call_ (ld_blt I hg hm boot_range (PyProof.Rows.callWith_type1 (thn (ha pos pins s σ H _ I h) fun us s1 ⟨vs, H1, I1, r1, q1⟩ => ?_) hs rfl))
  obtain ⟨j, e, q1, q2, q⟩ := q1
  subst e
  cases r1 with
  | cons r rr =>
    cases rr
    obtain ⟨t, rfl⟩ := r
    exact call_range_1 (range_it I1 (by omega) (by omega) q1 q2 (by simpa using q))
/-- W: the invariant by the turn and a measure; N: what the body is to reach -/
def tFor (wi : TI) (g : TG) (tb : TS) : TS := fun D σ H => wi σ H fun J H1 => ∃ W : Nat → Nat → St → Hp → Prop, (∃ m, W 0 m σ H1) ∧ ∀ i m σ H, W i m σ H →
  (J.stop i H ∧ D.nx σ H) ∨ (J.go i H ∧ ∃ N : St → Hp → Prop, (∀ σ' H', N σ' H' → ∃ m', m' < m ∧ W (i + 1) m' σ' H') ∧ ∀ x H', J.yld i H x H' → g x σ H' fun σ2 H2 => tb { D with nx := N, ct := N, bk := D.nx } σ2 H2)
/-- the records at fp as they stand -/
def pinsAt (fp : List Addr) (h : Heap) : List (Addr × Obj) := fp.filterMap fun b => (h.get? b).map fun o => (b, o)
theorem mem_pinsAt {fp : List Addr} {h : Heap} {b : Addr} {o : Obj} (hb : b ∈ fp) (e : h.get? b = some o) : (b, o) ∈ pinsAt fp h := List.mem_filterMap.mpr ⟨b, hb, by rw [e]; rfl⟩
theorem of_pinsAt {fp : List Addr} {h : Heap} {p : Addr × Obj} (hp : p ∈ pinsAt fp h) : p.1 ∈ fp ∧ h.get? p.1 = some p.2 := by
  obtain ⟨b, hb, e⟩ := List.mem_filterMap.mp hp
  cases q : h.get? b with
  | none => rw [q] at e; cases e
  | some o =>
    rw [q] at e
    have e' : (b, o) = p := Option.some.inj e
    subst e'
    exact ⟨hb, q⟩
theorem Inv.pinned {pins : List (Addr × Obj)} {σ : St} {H : Hp} {s : Shared} {fp : List Addr} (I : Inv X pins σ H s) (hf : ∀ b ∈ fp, FpOk X pins H b) (ho : ∀ b ∈ fp, ∃ o, s.heap.get? b = some o ∧ ∀ v, o.data ≠ .cell v) : Inv X (pins ++ pinsAt fp s.heap) σ H s :=
  I.pins_of fun p hp => (List.mem_append.mp hp).elim (fun z => I.pin p (List.mem_append_right _ z)) fun z => by
    obtain ⟨hb, e⟩ := of_pinsAt z
    obtain ⟨f0, f1, f2, _⟩ := hf p.1 hb
    obtain ⟨o, e', d⟩ := ho p.1 hb
    rw [e] at e'; cases e'
    exact ⟨e, f0, f1, f2, d⟩
theorem Inv.unpinned {pins pl : List (Addr × Obj)} {σ : St} {H : Hp} {s : Shared} (I : Inv X (pins ++ pl) σ H s) : Inv X pins σ H s := I.pins_of fun p hp => I.pin p (List.mem_append_right _ (List.mem_append_left _ hp))
theorem ps_for {iter : Expr} {body : List Stmt} {wi : TI} {g : TG} {tb : TS} {pos : Pos} (hp : PassesOwn (model X.prog X.w) X.A X.env X.xe) (hc : X.calm = true) (hi : PI X tg iter wi) (hg : PG X tg g) (hb : PSs X body tb)
    (hs : ∀ x, foldedSetIterable iter X.env x = pure x := by intro _; rfl) : PS X (.For tg iter body [] pos) (tFor wi g tb) := by
  intro pins s σ H D I h
  refine wpAny_For (thn (hi pins s σ H _ I h) fun v s1 h1 => thn h1 fun itv s2 h2 => ?_) hs
  obtain ⟨it, fp, tn, J, H2, e, I2, T, st2, f2, W, ⟨m0, w0⟩, turn⟩ := h2
  subst e
  -- what stays true of the iterator's objects through the loop
  have stat : ∀ {H' : Hp}, (∀ b ∈ fp, H' b = none) → ∀ b ∈ fp, FpOk X pins H' b := fun hn b hb => ⟨hn b hb, (f2 b hb).2⟩
  refine codeAny_forLoop_any (fun n s' => ∃ i σ' H', Inv X pins σ' H' s' ∧ tn i s'.heap ∧ (∀ b ∈ fp, H' b = none) ∧ W i n σ' H') ?_ m0 ⟨0, σ, H2, I2, st2, fun b hb => (f2 b hb).1, w0⟩
  rintro n s3 ⟨i, σ3, H3, I3, st3, fr3, w3⟩
  rcases turn i n σ3 H3 w3 with ⟨stop, qn⟩ | ⟨go, N, hN, step⟩
  · refine wpAny_passesOwn hp (thn (T.done X rfl rfl rfl hc i pins s3 σ3 H3 X.xe I3 (stat fr3) st3 stop) fun r s4 ⟨hr, I4⟩ => ?_)
    subst hr
    exact wpAny_execs_nil ⟨σ3, H3, I4, qn⟩
  · refine wpAny_passesOwn hp (thn (T.item X rfl rfl rfl hc i pins s3 σ3 H3 X.xe I3 (stat fr3) st3 go) fun r s4 ⟨u, hr, h4⟩ => ?_)
    subst hr
    refine wpAny_passesOwn hp (thn h4 fun _ s5 ⟨x, H5, I5, r5, y5, st5, fr5⟩ => ?_)
    have I5' := I5.pinned (stat fr5) (T.obj _ _ st5)
    refine wpAny_passesOwn hp (thn (hg _ s5 σ3 H5 x u _ I5' r5 (step x H5 y5)) fun _ s6 ⟨σ6, H6, I6, q6⟩ => ?_)
    refine wpAny_passesOwn hp (thn (hb _ s6 σ6 H6 _ I6 q6) fun f s7 q7 => ?_)
    have again : ∀ {σ7 : St} {H7 : Hp}, Inv X (pins ++ pinsAt fp s5.heap) σ7 H7 s7 → N σ7 H7 → ∃ m, m < n ∧ ∃ i σ' H', Inv X pins σ' H' s7 ∧ tn i s7.heap ∧ (∀ b ∈ fp, H' b = none) ∧ W i m σ' H' := fun {σ7 H7} I7 n7 => by
      obtain ⟨m', hm, w7⟩ := hN σ7 H7 n7
      refine ⟨m', hm, i + 1, σ7, H7, I7.unpinned, T.keep _ _ _ st5 fun b hb o e => (I7.pin (b, o) (List.mem_append_right _ (List.mem_append_right _ (mem_pinsAt hb e)))).1, fun b hb => ?_, w7⟩
      obtain ⟨o, e, d⟩ := T.obj _ _ st5 b hb
      exact (I7.pin (b, o) (List.mem_append_right _ (List.mem_append_right _ (mem_pinsAt hb e)))).2.1
    cases f with
    | next => obtain ⟨σ7, H7, I7, n7⟩ := q7; exact again I7 n7
    | cont => obtain ⟨σ7, H7, I7, n7⟩ := q7; exact again I7 n7
    | brk => obtain ⟨σ7, H7, I7, q7⟩ := q7; exact ⟨σ7, H7, I7.unpinned, q7⟩
    | ret v => obtain ⟨x7, σ7, H7, I7, r7, q7⟩ := q7; exact ⟨x7, σ7, H7, I7.unpinned, r7, q7⟩
end

end L2

namespace L2
open PySem PySem.Spec PyProof.Rows

abbrev R2 := V → V → Hp → VK → Prop
/-- a two-place operation on values: f is binaryOp op, inplaceOp op or compareOp op -/
def OpR (X : Cx) (f : Value → Value → Sem Value) (r : R2) : Prop :=
  ∀ (pins : List (Addr × Obj)) (s : Shared) (σ : St) (H : Hp) (x y : V) (v u : Value) (Q : VK), Inv X pins σ H s → RelV x v → RelV y u → r x y H Q →
    wpAny (model X.prog X.w) X.A (f v u) (EP X pins σ Q) X.xe s
/-- a call of a value that is known (a builtin, a type) with values -/
def CallR (X : Cx) (f : Value) (r : List V → Hp → VK → Prop) : Prop :=
  ∀ (pins : List (Addr × Obj)) (s : Shared) (σ : St) (H : Hp) (xs : List V) (us : List Value) (Q : VK), Inv X pins σ H s → Vals xs us → r xs H Q →
    wpAny (model X.prog X.w) X.A (call f us) (EP X pins σ Q) X.xe s
def tOp (r : R2) (ta tb : TE) : TE := fun σ H Q => ta σ H fun x H1 => tb σ H1 fun y H2 => r x y H2 Q
/-- ints in, under C, and a value out -/
def rI (C : Int → Int → Prop) (g : Int → Int → V) : R2 := fun x y H Q => ∃ i j, x = .int i ∧ y = .int j ∧ C i j ∧ Q (g i j) H
def rI0 (g : Int → Int → V) : R2 := fun x y H Q => ∃ i j, x = .int i ∧ y = .int j ∧ Q (g i j) H
section
variable {X : Cx} {a b c : Expr} {ta tb tc : TE} {pos : Pos}

theorem binT (ha : PE X a ta) (hb : PE X b tb) {pins : List (Addr × Obj)} {s : Shared} {σ : St} {H : Hp} {R : V → V → Hp → Prop} (I : Inv X pins σ H s)
    (h : ta σ H fun x H1 => tb σ H1 fun y H2 => R x y H2) {Q : Value → Shared → Prop} {f : Value → Value → Sem Value}
    (hf : ∀ v u s2 x y H2, Inv X pins σ H2 s2 → RelV x v → RelV y u → R x y H2 → wpAny (model X.prog X.w) X.A (f v u) Q X.xe s2) :
    wpAny (model X.prog X.w) X.A (eval a X.env) (fun v s₁ => wpAny (model X.prog X.w) X.A (eval b X.env) (fun u s₂ => wpAny (model X.prog X.w) X.A (f v u) Q X.xe s₂) X.xe s₁) X.xe s := by
  refine thn (ha pins s σ H _ I h) fun v s1 ⟨x, H1, I1, r1, q1⟩ => ?_
  refine thn (hb pins s1 σ H1 _ I1 q1) fun u s2 ⟨y, H2, I2, r2, q2⟩ => ?_
  exact hf v u s2 x y H2 I2 r1 r2 q2

theorem pe_op {op : Operator} {r : R2} (ho : OpR X (binaryOp op) r) (ha : PE X a ta) (hb : PE X b tb) : PE X (.BinOp a op b pos) (tOp r ta tb) := by
  intro pins s σ H Q I h
  exact wpAny_BinOp (binT ha hb I h fun v u s2 x y H2 I2 rx ry q => ho pins s2 σ H2 x y v u Q I2 rx ry q)
theorem opI {f : Value → Value → Sem Value} {C : Int → Int → Prop} {g : Int → Int → Int}
    (rule : ∀ (i j : Int) (t u : Tok) (s : Shared) (Q : Value → Shared → Prop) (E : Value → Shared → Prop), C i j → Q (.int (g i j) s.toks) { s with toks := s.toks + 1 } → wpAny (model X.prog X.w) X.A (f (.int i t) (.int j u)) Q E s) :
    OpR X f (rI C fun i j => .int (g i j)) := by
  intro pins s σ H x y v u Q I rx ry h
  obtain ⟨i, j, rfl, rfl, hc, q⟩ := h
  obtain ⟨t, rfl⟩ := rx
  obtain ⟨t', rfl⟩ := ry
  exact rule i j t t' s _ _ hc ⟨.int (g i j), H, I.tok _, ⟨_, rfl⟩, q⟩
theorem opI0 {f : Value → Value → Sem Value} {g : Int → Int → Int}
    (rule : ∀ (i j : Int) (t u : Tok) (s : Shared) (Q : Value → Shared → Prop) (E : Value → Shared → Prop), Q (.int (g i j) s.toks) { s with toks := s.toks + 1 } → wpAny (model X.prog X.w) X.A (f (.int i t) (.int j u)) Q E s) :
    OpR X f (rI0 fun i j => .int (g i j)) := by
  intro pins s σ H x y v u Q I rx ry h
  obtain ⟨i, j, rfl, rfl, q⟩ := h
  obtain ⟨t, rfl⟩ := rx
  obtain ⟨t', rfl⟩ := ry
  exact rule i j t t' s _ _ ⟨.int (g i j), H, I.tok _, ⟨_, rfl⟩, q⟩
theorem opB0 {f : Value → Value → Sem Value} {g : Int → Int → Bool}
    (rule : ∀ (i j : Int) (t u : Tok) (s : Shared) (Q : Value → Shared → Prop) (E : Value → Shared → Prop), Q (.bool (g i j)) s → wpAny (model X.prog X.w) X.A (f (.int i t) (.int j u)) Q E s) :
    OpR X f (rI0 fun i j => .bl (g i j)) := by
  intro pins s σ H x y v u Q I rx ry h
  obtain ⟨i, j, rfl, rfl, q⟩ := h
  obtain ⟨t, rfl⟩ := rx
  obtain ⟨t', rfl⟩ := ry
  exact rule i j t t' s _ _ ⟨.bl (g i j), H, I, rfl, q⟩

def CDiv (i j : Int) : Prop := 0 < j ∧ j < 1073741824
def CPow (i j : Int) : Prop := 0 ≤ j ∧ j ≤ 1000000 ∧ i.natAbs < 2 ^ 64
def CMul (i j : Int) : Prop := (-(2 ^ 64) < i ∧ i < 2 ^ 64) ∨ (-(2 ^ 64) < j ∧ j < 2 ^ 64)
theorem CMul.ok {i j : Int} (h : CMul i j) : IntMulOk i j := by
  rcases h with ⟨h1, h2⟩ | ⟨h1, h2⟩
  · exact .of_left (intBits_le_64 h1 h2)
  · exact .of_right (intBits_le_64 h1 h2)
theorem op_add : OpR X (binaryOp .Add) (rI0 fun i j => .int (i + j)) := opI0 fun _ _ _ _ _ _ _ q => add_int q
/-- // by a positive divisor -/
theorem op_fdiv : OpR X (binaryOp .FloorDiv) (rI CDiv fun i j => .int (i / j)) := opI fun i j _ _ _ _ _ hc q => by
  have h1 : (0 : Int) < j := hc.1
  have h2 : j < 1073741824 := hc.2
  exact floordiv_int (by omega) (by rw [Int.fdiv_eq_ediv_of_nonneg i (by omega)]; exact q) (.inl (PyProof.noPylong_small (by omega)))
/-- % by a positive divisor of any size -/
theorem op_mod : OpR X (binaryOp .Mod) (rI (fun _ j => 0 < j) fun i j => .int (i % j)) := opI fun i j _ _ _ _ _ hc q => by
  have h1 : (0 : Int) < j := hc
  exact mod_int' (by omega) (by rw [Int.fmod_eq_emod_of_nonneg i (by omega)]; exact q)
theorem op_pow : OpR X (binaryOp .Pow) (rI CPow fun i j => .int (i ^ j.toNat)) := opI fun _ _ _ _ _ _ _ hc q => pow_int_small hc.1 hc.2.1 hc.2.2 q
end

section
variable {X : Cx} {a b c : Expr} {ta tb tc : TE} {pos : Pos}
theorem fin_bl {pins : List (Addr × Obj)} {σ : St} {H : Hp} {s : Shared} {Q : VK} {k k' : Bool} (I : Inv X pins σ H s) (q : Q (.bl k) H) (e : k = k') : EP X pins σ Q (.bool k') s := by
  subst e
  exact ⟨.bl k, H, I, rfl, q⟩
theorem op_gt : OpR X (compareOp .Gt) (rI0 fun i j => .bl (decide (j < i))) := opB0 fun _ _ _ _ _ _ _ q => gt_int q
theorem op_ge : OpR X (compareOp .GtE) (rI0 fun i j => .bl (decide (j ≤ i))) := opB0 fun _ _ _ _ _ _ _ q => ge_int q
/-- is None, is not None: the right side a value none -/
theorem op_isN : OpR X (compareOp .Is) (fun x y H Q => y = .non ∧ Q (.bl (decide (x = .non))) H) := by
  intro pins s σ H x y v u Q I rx ry h
  obtain ⟨rfl, q⟩ := h
  cases ry
  refine is_none_gen (fin_bl I q ?_)
  cases x <;> first
    | (cases rx; rfl)
    | (obtain ⟨t, rfl⟩ := rx; rfl)
theorem op_notN : OpR X (compareOp .IsNot) (fun x y H Q => y = .non ∧ Q (.bl (!decide (x = .non))) H) := by
  intro pins s σ H x y v u Q I rx ry h
  obtain ⟨rfl, q⟩ := h
  cases ry
  refine isnot_none_gen (fin_bl I q ?_)
  cases x <;> first
    | (cases rx; rfl)
    | (obtain ⟨t, rfl⟩ := rx; rfl)

/-- is, is not of two objects that are tracked lists or instances -/
def isObj : HO → Bool
  | .lst _ => true
  | .ins _ _ _ => true
  | _ => false
/-- two rules for one operation: by cases -/
theorem OpR.or {f : Value → Value → Sem Value} {r r' : R2} (h : OpR X f r) (h' : OpR X f r') : OpR X f (fun x y H Q => r x y H Q ∨ r' x y H Q) := by
  intro pins s σ H x y v u Q I rx ry q
  rcases q with q | q
  · exact h pins s σ H x y v u Q I rx ry q
  · exact h' pins s σ H x y v u Q I rx ry q

theorem nomark (b : Expr) {op : CmpOp} (h : op ≠ .In := by decide) (h2 : op ≠ .NotIn := by decide) : behindInMarks op b = false := by
  have e1 : (op == CmpOp.In) = false := by cases op <;> first | rfl | exact absurd rfl h
  have e2 : (op == CmpOp.NotIn) = false := by cases op <;> first | rfl | exact absurd rfl h2
  cases b <;> simp [behindInMarks, e1, e2]
/-- a comparison as a value; hm: nomark b, or (for in, not in) by with_unfolding_all rfl -/
theorem pe_cmpR {op : CmpOp} {r : R2} (ho : OpR X (compareOp op) r) (ha : PE X a ta) (hb : PE X b tb) (hm : behindInMarks op b = false) : PE X (.Compare a [op] [b] pos) (tOp r ta tb) := by
  intro pins s σ H Q I h
  exact wpAny_Compare1 (binT ha hb I h fun v u s2 x y H2 I2 rx ry q => ho pins s2 σ H2 x y v u Q I2 rx ry q) hm
/-- a reading of a value as a test -/
def tTest (t : TE) : TT := fun σ H Q => t σ H fun x H' => ∃ k, x = .bl k ∧ Q k H'
theorem pt_cmpR {op : CmpOp} {r : R2} (ho : OpR X (compareOp op) r) (ha : PE X a ta) (hb : PE X b tb) (hm : behindInMarks op b = false) : PT X (.Compare a [op] [b] pos) (tTest (tOp r ta tb)) := by
  intro pins s σ H Q I h
  refine wpAny_isTrue_Compare1 (thn (ha pins s σ H _ I h) fun v s1 ⟨x, H1, I1, r1, q1⟩ => thn (hb pins s1 σ H1 _ I1 q1) fun u s2 ⟨y, H2, I2, r2, q2⟩ =>
    thn (ho pins s2 σ H2 x y v u _ I2 r1 r2 q2) fun c s3 ⟨z, H3, I3, r3, k, e, q3⟩ => ?_) hm
  subst e
  cases r3
  exact wpAny_truthy_bool ⟨H3, I3, q3⟩
theorem line63 : (sizeLine : Nat) < 2 ^ 63 := by rw [sizeLine_eq]; decide
theorem op_add_str : OpR X (binaryOp .Add) (fun x y H Q => ∃ i j, x = .str i ∧ y = .str j ∧ i.length + j.length ≤ sizeLine ∧ Q (.str (i ++ j)) H) := by
  intro pins s σ H x y v u Q I rx ry h
  obtain ⟨i, j, rfl, rfl, hz, q⟩ := h
  obtain ⟨t, rfl⟩ := rx
  obtain ⟨t', rfl⟩ := ry
  exact add_str (fun t' tk => ⟨.str (i ++ j), H, I.tok _, ⟨_, rfl⟩, q⟩) hz
theorem vals1 {x : V} {us : List Value} (r : Vals [x] us) : ∃ u, us = [u] ∧ RelV x u := by
  cases r with
  | cons r1 r2 => cases r2; exact ⟨_, rfl, r1⟩
theorem vals2 {x y : V} {us : List Value} (r : Vals [x, y] us) : ∃ u w', us = [u, w'] ∧ RelV x u ∧ RelV y w' := by
  cases r with
  | cons r1 r2 =>
    cases r2 with
    | cons r3 r4 => cases r4; exact ⟨_, _, rfl, r1, r3⟩
theorem call_abs : CallR X (.builtin "abs") (fun xs H Q => ∃ i, xs = [.int i] ∧ Q (.int (if i < 0 then -i else i)) H) := by
  intro pins s σ H xs us Q I r h
  obtain ⟨i, rfl, q⟩ := h
  obtain ⟨u, rfl, t, rfl⟩ := vals1 r
  exact call_abs_int fun u tk => ⟨.int (if i < 0 then -i else i), H, I.tok _, ⟨_, rfl⟩, q⟩
theorem call_int1 : CallR X (.type "int") (fun xs H Q => (∃ i, xs = [.int i] ∧ Q (.int i) H) ∨ ∃ k, xs = [.bl k] ∧ Q (.int (if k then 1 else 0)) H) := by
  intro pins s σ H xs us Q I r h
  rcases h with ⟨i, rfl, q⟩ | ⟨k, rfl, q⟩
  · obtain ⟨u, rfl, t, rfl⟩ := vals1 r
    exact call_int_int ⟨.int i, H, I, ⟨_, rfl⟩, q⟩
  · obtain ⟨u, rfl, r1⟩ := vals1 r
    cases r1
    exact call_int_bool ⟨.int (if k then 1 else 0), H, I.tok _, ⟨_, rfl⟩, q⟩
/-- len of a str, a bytes, a list, a tuple -/
def LenV (K : PySem.W.Frag) (x : V) (H : Hp) (n : Nat) : Prop :=
  match x with
  | .str y => y.length ≤ sizeLine ∧ n = y.length
  | .byt y => y.size ≤ sizeLine ∧ n = y.size
  | .ref p => (∃ xs, SqL K H p xs ∧ n = xs.length) ∨ ∃ xs, SqT K H p xs ∧ n = xs.length
  | _ => False
theorem call_len : CallR X (.builtin "len") (fun xs H Q => ∃ x n, xs = [x] ∧ LenV X.K x H n ∧ Q (.int n) H) := by
  intro pins s σ H xs us Q I r h
  obtain ⟨x, n, rfl, e, q⟩ := h
  obtain ⟨u, rfl, rx⟩ := vals1 r
  have hl := line63
  have hs : sizeLine = 16777216 := sizeLine_eq
  cases x with
  | str y =>
    obtain ⟨t, rfl⟩ := rx
    obtain ⟨hy, e'⟩ : y.length ≤ sizeLine ∧ n = y.length := e
    subst e'
    exact len_str (by omega) ⟨.int _, H, I.tok _, ⟨_, rfl⟩, q⟩
  | byt y =>
    obtain ⟨t, rfl⟩ := rx
    obtain ⟨hy, e'⟩ : y.size ≤ sizeLine ∧ n = y.size := e
    subst e'
    exact PySem.W.len_bytes (by omega) ⟨.int _, H, I.tok _, ⟨_, rfl⟩, q⟩
  | ref p =>
    cases rx
    have e' : (∃ xs, SqL X.K H p xs ∧ n = xs.length) ∨ ∃ xs, SqT X.K H p xs ∧ n = xs.length := e
    rcases e' with ⟨xs, hx, e'⟩ | ⟨xs, hx, e'⟩
    · subst e'
      obtain ⟨its, r', pl, hz⟩ := I.list hx
      have hlen := r'.length
      exact Calls.call_len_list pl.isList (by simp only [List.size_toArray]; omega) ⟨.int xs.length, H, I.tok _, ⟨_, by simp only [List.size_toArray]; rw [hlen]⟩, q⟩
    · subst e'
      obtain ⟨its, r', pl, hz⟩ := I.tuple hx
      have hlen := r'.length
      exact len_tuple pl (by simp only [List.size_toArray]; omega) ⟨.int xs.length, H, I.tok _, ⟨_, by simp only [List.size_toArray]; rw [hlen]⟩, q⟩
  | _ => exact (show False from e).elim
end
end L2

namespace L2
open PySem PySem.Spec PyProof.Rows

structure ObjM (h : Heap) (x dx C : Addr) (mA : Str → Option Value) : Prop where
  obj : h.get? x = some (PySem.W.instObj C dx)
  ns : h.Ns1 dx mA
  ne : dx ≠ x

theorem lookIn_ns {h : Heap} {dx : Addr} {mA : Str → Option Value} (n : h.Ns1 dx mA) : ∃ od, h.get? dx = some od ∧ ∀ name, PySem.W.lookIn name od = some (mA name) := by
  obtain ⟨o, es, ep, ho, hd, hk, _, hm⟩ := n
  refine ⟨o, ho, fun name => ?_⟩
  have e := hm name
  unfold nsFind findBy at e
  rw [← Array.find?_toList] at e
  unfold PySem.W.lookIn
  rw [hd]
  dsimp only
  split
  · rename_i y q
    rw [q] at e
    exact congrArg some e
  · rename_i q
    rw [q] at e
    have a : es.toList.any (·.refKey) = false := by
      rw [List.any_eq_false]
      intro y hy
      obtain ⟨z, t, hkey⟩ := hk y (Array.mem_toList_iff.mp hy)
      simp [DictEntry.refKey, hkey]
    have a' : ¬ es.toList.any (·.refKey) = true := by rw [a]; exact Bool.false_ne_true
    rw [if_neg a']
    exact congrArg some e

theorem ObjM.look {h : Heap} {x dx C : Addr} {mA : Str → Option Value} (I : ObjM h x dx C mA) : ∃ od, PySem.W.InstAt h x (PySem.W.instObj C dx) C (some od) ∧ ∀ name, PySem.W.lookIn name od = some (mA name) :=
  let ⟨od, ho, hl⟩ := lookIn_ns I.ns
  ⟨od, ⟨I.obj, rfl, rfl, ho⟩, hl⟩

section
variable {prog : Program} {w : World} {A : Around} {E : Value → Shared → Prop} {s : Shared} {K : PySem.W.Frag} {x dx C f : Addr} {mA : Str → Option Value} {name : Str} {v : Value}

theorem get_meth {pl : Sem Bool} {Q : Value × List Value → Shared → Prop} (X : K.In s.heap) (I : ObjM s.heap x dx C mA) (hg : PySem.W.plainGet K C name = true)
    (hf : PySem.W.findIn K (.ref C) name = some (some (.ref f))) (ht : PySem.W.isFn K (.ref f) = true) (hv : mA name = none) (h : Q (.ref f, [.ref x]) s) :
    wpAny (model prog w) A (getMethod (.ref x) name pl) Q E s := by
  obtain ⟨od, J, hl⟩ := I.look
  exact PySem.W.method_fn X J (PySem.W.plainGet_of hg).1 (PySem.W.plainGet_of hg).2 hf (beq_iff_eq.mp ht) (by show (PySem.W.lookIn name od).map (·.isSome) = some false; rw [hl, hv]; rfl) h

/-- C(..): the dict at the heap's end, the instance behind it; then its __init__ -/
theorem make_map {R : Result → Shared → Prop} {vs : List Value} {kw : List (Str × Value)} (X : K.In s.heap) (hm : PySem.W.makesIn K C = true)
    (hi : PySem.W.findIn K (.ref C) "__init__" = some (some (.ref f))) (hf : PySem.W.typeIn K (.ref f) = some (.type "function"))
    (h : codeAny (model prog w) (A.under (.builtin "type.__call__" ⟨.ref C :: vs, kw⟩)) (.call (.ref f) ⟨.ref (s.heap.objs.size + 1) :: vs, kw⟩) (PySem.W.InitBack (s.heap.objs.size + 1) R)
      { s with heap := (s.heap.push PySem.W.emptyDict).push (PySem.W.instObj C s.heap.objs.size) }) :
    codeAny (model prog w) A (.call (.ref C) ⟨vs, kw⟩) R s := by
  obtain ⟨hh, g, d, t, os⟩ := s
  exact PySem.W.make_core (PySem.W.makes_of X hm) (PySem.W.looks_findIn X hi) (fun self => PySem.W.bind_fn X self hf) (.inl rfl) h
end

def putF (f : Str) (v : V) : List (Str × V) → List (Str × V)
  | [] => [(f, v)]
  | (g, x) :: r => if g = f then (g, v) :: r else (g, x) :: putF f v r
theorem RelO.some_of {v : V} {o : Option Value} (r : RelO (some v) o) : ∃ u, o = some u ∧ RelV v u := by
  cases o with
  | none => exact (show False from r).elim
  | some u => exact ⟨u, rfl, r⟩
theorem RelO.none_of {o : Option Value} (r : RelO none o) : o = none := by
  cases o with
  | none => rfl
  | some u => exact (show False from r).elim
section
variable {P : Program} {w : World} {H H' : Hp} {h h' : Heap} {a C dx : Addr} {fs fs' : List (Str × V)}
theorem ins_get (hok : HOk P w H h) (e : H a = some (.ins C dx fs)) : ∃ mA, ObjM h a dx C mA ∧ (∀ f, RelO (fs.lookup f) (mA f)) ∧ PySem.Within mA (fs.map (·.1)) ∧ fs.length ≤ 1000 ∧ H dx = some (.own a) := by
  obtain ⟨d, z, ne, ob, mA, n, r, q⟩ := (show ObjOk P w H h a (.ins C dx fs) from hok a _ e)
  exact ⟨mA, ⟨ob, n, ne⟩, r, q, z, d⟩
end

structure Cls (K : PySem.W.Frag) (C : Addr) : Prop where
  pg : PySem.W.plainGet K C Str.empty = true
  hd : PySem.W.hasDictIn K C = true
  po : PySem.W.plainOver K C = true
  sa : PySem.W.findIn K (.ref C) "__setattr__" = some (some (.builtin "object.__setattr__"))
theorem Cls.get {K : PySem.W.Frag} {C : Addr} (c : Cls K C) (f : Str) : PySem.W.plainGet K C f = true := c.pg
/-- no class of it has the name -/
def NoAttr (K : PySem.W.Frag) (C : Addr) (f : Str) : Prop := PySem.W.findIn K (.ref C) f = some none
/-- a constant of the class -/
structure Con (K : PySem.W.Frag) (C : Addr) (f : Str) (v : V) (u : Value) : Prop where
  at_ : PySem.W.findIn K (.ref C) f = some (some u)
  rel : RelV v u
  get : PySem.W.specialIn K u "__get__" = some none
  cp : PySem.W.copiedNames.contains f = false
/-- a method: a plain def of the class or of one above it -/
structure Meth (K : PySem.W.Frag) (C : Addr) (m : Str) (f : Addr) : Prop where
  at_ : PySem.W.findIn K (.ref C) m = some (some (.ref f))
  fn : PySem.W.isFn K (.ref f) = true
  kp : PySem.W.keepIn K (.ref f) = true

section
variable {X : Cx} {pins : List (Addr × Obj)} {σ : St} {H : Hp} {s : Shared} {a C dx : Addr} {fs : List (Str × V)} {f : Str} {v : V} {A : Around} {E : Value → Shared → Prop}

theorem getmeth_ok {m : Str} {g : Addr} {pl : Sem Bool} {Q : Value × List Value → Shared → Prop} (I : Inv X pins σ H s) (e : H a = some (.ins C dx fs)) (c : Cls X.K C) (k : Meth X.K C m g) (l : fs.lookup m = none)
    (h : Q (.ref g, [.ref a]) s) : wpAny (model X.prog X.w) A (getMethod (.ref a) m pl) Q E s := by
  obtain ⟨mA, O, r, _, _, _⟩ := ins_get I.hok e
  have hn : mA m = none := RelO.none_of (by rw [← l]; exact r m)
  exact get_meth I.kIn O (c.get m) k.at_ k.fn hn h

/-- a new instance, tracked, without attributes -/
theorem Inv.made (I : Inv X pins σ H s) : Inv X pins σ (upd (upd H s.heap.objs.size (.own (s.heap.objs.size + 1))) (s.heap.objs.size + 1) (.ins C s.heap.objs.size []))
    { s with heap := (s.heap.push PySem.W.emptyDict).push (PySem.W.instObj C s.heap.objs.size) } := by
  have e1 : (s.heap.push PySem.W.emptyDict).get? s.heap.objs.size = some PySem.W.emptyDict := Heap.get?_push_size s.heap rfl
  have e2 : ((s.heap.push PySem.W.emptyDict).push (PySem.W.instObj C s.heap.objs.size)).get? (s.heap.objs.size + 1) = some (PySem.W.instObj C s.heap.objs.size) := by
    have := Heap.get?_push_size (s.heap.push PySem.W.emptyDict) (o := PySem.W.instObj C s.heap.objs.size) rfl
    rwa [Heap.size_push] at this
  have e3 : (s.heap.push PySem.W.emptyDict).Ns s.heap.objs.size (fun _ => none) := ⟨PySem.W.emptyDict, #[], _, e1, rfl, (fun e he => absurd he (by simp)), fun _ => rfl⟩
  have I1 := I.laid (a := s.heap.objs.size) (o := .own (s.heap.objs.size + 1)) (h' := s.heap.push PySem.W.emptyDict) (t' := s.toks) (fun b u q => Heap.get?_push_of_some _ q) (Nat.le_refl _) ⟨_, e1⟩
  refine I1.laid (a := s.heap.objs.size + 1) (o := .ins C s.heap.objs.size []) (t' := s.toks) (fun b u q => Heap.get?_push_of_some _ q) (Nat.le_of_eq (Heap.size_push _ _)) ?_
  have ne : s.heap.objs.size ≠ s.heap.objs.size + 1 := Nat.ne_of_lt (Nat.lt_succ_self _)
  refine ⟨by rw [upd_ne ne, upd_same], Nat.zero_le _, ne, e2, fun _ => none, (Heap.Ns1.of_empty e3).at fun o q => Heap.get?_push_of_some _ q, fun _ => True.intro, fun y hy => absurd rfl hy⟩

end

/-- e.f, an attribute of the instance -/
def tFld (K : PySem.W.Frag) (ta : TE) (f : Str) : TE := fun σ H Q => ta σ H fun x H1 => ∃ a C dx fs v, x = .ref a ∧ H1 a = some (.ins C dx fs) ∧ Cls K C ∧ NoAttr K C f ∧ fs.lookup f = some v ∧ Q v H1
section
variable {X : Cx} {o e value : Expr} {f : Str} {pos pos' tpos : Pos} {ta tv : TE}
def rAdd : V → V → Hp → VK → Prop := fun x y H Q => ∃ i j, x = .int i ∧ y = .int j ∧ Q (.int (i + j)) H
/-- what is between an instance and its method: the tree of a method call -/
theorem methcall_of {pl : Sem Bool} {m : Str} {apos : Pos} {args : List Expr} {pins : List (Addr × Obj)} {s : Shared} {σ : St} {H : Hp} {Q : Value → Shared → Prop} {te : TE} (he : PE X e te) (I : Inv X pins σ H s)
    (h : te σ H fun x H1 => ∃ a C dx fs g, x = .ref a ∧ H1 a = some (.ins C dx fs) ∧ Cls X.K C ∧ Meth X.K C m g ∧ fs.lookup m = none ∧
      ∀ s1, Inv X pins σ H1 s1 → wpAny (model X.prog X.w) X.A (callWith pos (.ref g) [.ref a] (backTo pos (starEach args X.env)) (backToKw pos (keywordEach [] X.env))) Q X.xe s1)
    (ht : eval (.Call (.Attribute e m apos) args [] pos) X.env = (do
      let ov ← eval e X.env
      standAt apos.atName
      let (f, first) ← holding [ov] (getMethod ov m pl)
      callWith pos f first (backTo pos (starEach args X.env)) (backToKw pos (keywordEach [] X.env)))) :
    wpAny (model X.prog X.w) X.A (eval (.Call (.Attribute e m apos) args [] pos) X.env) Q X.xe s := by
  refine PySem.W.methodCall_KW (pl := pl) (thn (he pins s σ H _ I h) fun u s1 ⟨x, H1, I1, rx, a, C, dx, fs, g, ex, ea, c, k, l, q⟩ => ?_) ht
  subst ex
  obtain rfl : u = Value.ref a := rx
  exact getmeth_ok I1 ea c k l (q s1 I1)
end

section
variable {X : Cx} {pins : List (Addr × Obj)} {σ : St} {H : Hp} {s : Shared} {A : Around} {E : Value → Shared → Prop} {Q : Value → Shared → Prop} {c : Value} {b : Bool}
/-- the type of a value, as the fragment's deciders take it; for an instance its class -/
inductive TyOf (K : PySem.W.Frag) (H : Hp) : V → Value → Prop where
  | non : TyOf K H .non (.type "NoneType")
  | bl (x : Bool) : TyOf K H (.bl x) (.type "bool")
  | int (i : Int) : TyOf K H (.int i) (.type "int")
  | str (x : Str) : TyOf K H (.str x) (.type "str")
  | flt (x : UInt64) : TyOf K H (.flt x) (.type "float")
  | lst {a : Addr} {xs : List V} (e : H a = some (.lst xs)) : TyOf K H (.ref a) (.type "list")
  | frz {a : Addr} {o : Obj} {xs : List V} (e : H a = some (.frz o (.lst xs))) : TyOf K H (.ref a) (.type "list")
  | tup {a : Addr} {xs : List V} (e : H a = some (.tup xs)) : TyOf K H (.ref a) (.type "tuple")
  | dK {a : Addr} {kvs : List (Key × V)} (e : H a = some (.dK kvs)) : TyOf K H (.ref a) (.type "dict")
  | dT {a : Addr} {kvs : List (List Key × V)} (e : H a = some (.dT kvs)) : TyOf K H (.ref a) (.type "dict")
  | ins {a C dx : Addr} {fs : List (Str × V)} (e : H a = some (.ins C dx fs)) (cl : Cls K C) (ha : PySem.W.findIn K (.ref C) "__class__" = some (some (.builtin "object.__class__")))
      (hn : PySem.W.specialIn K (.builtin "object.__class__") "__get__" = some (some (.builtin "getset_descriptor.__get__"))) (htk : PySem.W.takesIn K (.builtin "object.__class__") = some true)
      (hm : PySem.W.mroIn K C (.type "object") = some true) : TyOf K H (.ref a) (.ref C)
/-- isinstance(x, c) for one class c, a built-in or an own one: kitOne's answer -/
theorem isinst_ok {x : V} {u t : Value} (I : Inv X pins σ H s) (rx : RelV x u) (ty : TyOf X.K H x t) (e : PySem.W.kitOne X.K t c = some b) (h : ∀ tk, Q (.bool b) { s with toks := tk }) :
    wpAny (model X.prog X.w) A (call (.builtin "isinstance") [u, c]) Q E s := by
  cases ty with
  | non => cases (show u = Value.none from rx); exact PySem.W.kia_one PySem.W.kitx_none I.kIn True.intro e (fun z => nomatch z) h
  | bl y => cases (show u = Value.bool y from rx); exact PySem.W.kia_one PySem.W.kitx_bool I.kIn True.intro e (fun z => nomatch z) h
  | int i => obtain ⟨t, q⟩ := (show ∃ t, u = Value.int i t from rx); cases q; exact PySem.W.kia_one PySem.W.kitx_int I.kIn True.intro e (fun z => nomatch z) h
  | str y => obtain ⟨t, q⟩ := (show ∃ t, u = Value.str y t from rx); cases q; exact PySem.W.kia_one PySem.W.kitx_str I.kIn True.intro e (fun z => nomatch z) h
  | flt y => obtain ⟨t, q⟩ := (show ∃ t, u = Value.float y t from rx); cases q; exact PySem.W.kia_one PySem.W.kitx_float I.kIn True.intro e (fun z => nomatch z) h
  | @lst a xs ea =>
    cases (show u = Value.ref a from rx)
    obtain ⟨_, _, n, _, h1⟩ := (show ObjOk X.prog X.w H s.heap a (.lst xs) from I.hok a _ ea)
    exact PySem.W.kia_one PySem.W.kitx_list I.kIn ⟨_, h1, rfl⟩ e (fun z => nomatch z) h
  | @frz a ob xs ea =>
    cases (show u = Value.ref a from rx)
    obtain ⟨_, _, _, n, _, h1⟩ := (show ObjOk X.prog X.w H s.heap a (.frz ob (.lst xs)) from I.hok a _ ea)
    exact PySem.W.kia_one PySem.W.kitx_list I.kIn ⟨_, h1, rfl⟩ e (fun z => nomatch z) h
  | @tup a xs ea =>
    cases (show u = Value.ref a from rx)
    obtain ⟨_, _, _, p⟩ := (show ObjOk X.prog X.w H s.heap a (.tup xs) from I.hok a _ ea)
    obtain ⟨o, h1, h2, _⟩ := p
    exact PySem.W.kia_one PySem.W.kitx_tuple I.kIn ⟨o, h1, h2⟩ e (fun z => nomatch z) h
  | @dK a kvs ea =>
    cases (show u = Value.ref a from rx)
    obtain ⟨_, _, vs, _, p⟩ := (show ObjOk X.prog X.w H s.heap a (.dK kvs) from I.hok a _ ea)
    obtain ⟨o, es, ep, h1, h2, _⟩ := p
    exact PySem.W.kia_one PySem.W.kitx_dict I.kIn ⟨o, h1, h2.1⟩ e (fun z => nomatch z) h
  | @dT a kvs ea =>
    cases (show u = Value.ref a from rx)
    obtain ⟨_, _, xs, _, o, es, ep, h1, h2, _⟩ := (show ObjOk X.prog X.w H s.heap a (.dT kvs) from I.hok a _ ea)
    exact PySem.W.kia_one PySem.W.kitx_dict I.kIn ⟨o, h1, h2.1⟩ e (fun z => nomatch z) h
  | @ins a C dx fs ea cl ha hn htk hm =>
    cases (show u = Value.ref a from rx)
    obtain ⟨mA, O, _⟩ := ins_get I.hok ea
    obtain ⟨od, J, _⟩ := O.look
    exact PySem.W.kia_one (PySem.W.kitx_own (cl.get _) cl.hd ha hn htk hm) I.kIn J e (fun z => nomatch z) h
end
end L2

namespace L2
open PySem PySem.Spec PyProof.Rows

structure Room (k : Nat) (A : Around) : Prop where
  hd : A.handled = none
  dp : A.depth + 3 * k + 5 < recursionLimit
  un : A.units + 16 * k + 200 < cLine
  gd : A.guards = some []
theorem Room.mono {j k : Nat} {A : Around} (r : Room k A) (h : j ≤ k) : Room j A := ⟨r.hd, by have := r.dp; omega, by have := r.un; omega, r.gd⟩
theorem Room.deeper {k : Nat} {A : Around} (r : Room (k + 1) A) (env : Env) : Room k (A.deeper env) :=
  ⟨r.hd, by have := r.dp; show A.depth + 1 + 3 * k + 5 < _; omega, by have := r.un; show A.units + 3 + 16 * k + 200 < _; omega, r.gd⟩
theorem Room.in1 {k : Nat} {A : Around} (r : Room (k + 1) A) : Room k A.in1 :=
  ⟨r.hd, by have := r.dp; show A.depth + 3 * k + 5 < _; omega, by have := r.un; show A.units + 1 + 16 * k + 200 < _; omega, r.gd⟩
theorem make_depth {A : Around} {C : Addr} {us : List Value} {kw : List (Str × Value)} : (A.under (.builtin "type.__call__" ⟨.ref C :: us, kw⟩)).depth = A.depth + 1 := by
  first | rfl | simp [Around.under, Code.weight, Code.isCreation, Code.isGuard, Code.isCaller, Code.frames, Code.isFrame, guardIds]
theorem make_units {A : Around} {C : Addr} {us : List Value} {kw : List (Str × Value)} : (A.under (.builtin "type.__call__" ⟨.ref C :: us, kw⟩)).units = A.units + 1 := by
  first | rfl | simp [Around.under, Code.cUnits, Code.frames, Code.isFrame]
theorem Room.make {k : Nat} {A : Around} (r : Room (k + 1) A) (C : Addr) (us : List Value) (kw : List (Str × Value)) : Room k (A.under (.builtin "type.__call__" ⟨.ref C :: us, kw⟩)) :=
  ⟨r.hd, by have := r.dp; rw [make_depth]; omega, by have := r.un; rw [make_units]; omega, by show (Around.under _ _).guards = _; simp [Around.under, Code.guards, Code.isGuard, guardIds, pushGuards, r.gd]⟩
theorem Room.depth {k : Nat} {A : Around} (r : Room k A) : A.depth < recursionLimit := by have := r.dp; omega
theorem Room.units {k : Nat} {A : Around} (r : Room k A) : A.units + 64 < cLine := by have := r.un; omega
def tNil : TA := fun _ H Q => Q [] H
def tCons (ta : TE) (tr : TA) : TA := fun σ H Q => ta σ H fun x H1 => tr σ H1 fun xs H2 => Q (x :: xs) H2
section
variable {X : Cx} {e : Expr} {es : List Expr} {te : TE} {t : TA} {pos : Pos}
theorem pa_nil : PA X [] tNil := fun _ _ _ _ H Q I h => Calls.spliced_nil ⟨[], H, I, .nil, h⟩
theorem pa_cons (ha : PE X e te) (hr : PA X es t) (hs : starEach (e :: es) X.env = (false, eval e X.env) :: starEach es X.env := by rfl) : PA X (e :: es) (tCons te t) := by
  intro pos pins s σ H Q I h
  rw [hs]
  show wpAny _ _ (spliced ((false, eval e X.env) :: backTo pos (starEach es X.env))) _ _ s
  refine Calls.spliced_cons (thn (ha pins s σ H _ I h) fun u s1 ⟨x, H1, I1, r1, q1⟩ => ?_)
  exact thn (hr pos pins s1 σ H1 _ I1 q1) fun us s2 ⟨xs, H2, I2, r2, q2⟩ => ⟨x :: xs, H2, I2, .cons r1 r2, q2⟩

/-- a tuple, a list of written items -/
def tTup (t : TA) : TE := fun σ H Q => t σ H fun xs H1 => xs.length ≤ sizeLine ∧ ∀ p, H1 p = none → Q (.ref p) (upd H1 p (.tup xs))
def tLst (t : TA) : TE := fun σ H Q => t σ H fun xs H1 => xs.length ≤ sizeLine ∧ ∀ p, H1 p = none → Q (.ref p) (upd H1 p (.lst xs))
theorem pe_tup {x1} (h : PA X es t) : PE X (.Tuple es x1 pos) (tTup t) := by
  intro pins s σ H Q I hq
  refine wpAny_Tuple_spliced (thn (h pos pins s σ H _ I hq) fun us s1 ⟨xs, H1, I1, r, z, q⟩ => ⟨by rw [← r.length]; exact z, ?_⟩)
  have hf : H1 s1.heap.objs.size = none := I1.hok.fresh (Nat.le_refl _)
  refine ⟨.ref s1.heap.objs.size, upd H1 s1.heap.objs.size (.tup xs), I1.laid (t' := s1.toks) (fun b u e => Heap.get?_push_of_some _ e) (Nat.le_refl _) ?_, rfl, q _ hf⟩
  exact ⟨z, us, r, ⟨_, Heap.get?_push_size _ rfl, rfl, _, rfl⟩⟩
theorem pe_lst (h : PA X es t) : PE X (.List es pos) (tLst t) := by
  intro pins s σ H Q I hq
  refine wpAny_List_spliced (thn (h pos pins s σ H _ I hq) fun us s1 ⟨xs, H1, I1, r, z, q⟩ => ⟨by rw [← r.length]; exact z, ?_⟩)
  have hf : H1 s1.heap.objs.size = none := I1.hok.fresh (Nat.le_refl _)
  refine ⟨.ref s1.heap.objs.size, upd H1 s1.heap.objs.size (.lst xs), I1.laid (t' := s1.toks) (fun b u e => Heap.get?_push_of_some _ e) (Nat.le_refl _) ?_, rfl, q _ hf⟩
  exact ⟨z, us, 0, r, Heap.get?_push_size _ rfl⟩
end

/-- a def's promise: the bound arguments in the parameters' order, the heap, the wanted end, the wanted exception -/
abbrev Sp := List V → Hp → VK → XK → Prop
/-- how an exception lies behind a call (file 08 gives it): the callers' frames, abstract heap and state ahead of the call, the wish, the exception, the state -/
abbrev CXT := List Env → Hp → Shared → XK → Value → Shared → Prop

/-- the state at a call -/
structure Env0 (P : Program) (w : World) (K : PySem.W.Frag) (mg : Str → Option Value) (base : Heap) (A : Around) (outer : List Env) (s : Shared) (H : Hp) : Prop where
  frames : A.frames = some outer
  mod : Mod K mg base
  bs : ∀ b o, base.get? b = some o → s.heap.get? b = some o ∧ H b = none
  bsz : base.objs.size ≤ s.heap.objs.size
  funs : s.heap.FunFrames base outer
  frf : ∀ b ∈ frs outer, H b = none
  hok : HOk P w H s.heap
  bare : AllBare s.gens
/-- a call's end -/
def CE (outer : List Env) (P : Program) (w : World) (H : Hp) (s : Shared) (Q : VK) (u : Value) (s' : Shared) : Prop :=
  ∃ v H', s'.os = s.os ∧ AllBare s'.gens ∧ Un (frs outer) [] H H' s.heap s'.heap ∧ HOk P w H' s'.heap ∧ RelV v u ∧ Q v H'
def CR (CX : CXT) (outer : List Env) (P : Program) (w : World) (H : Hp) (s : Shared) (Q : VK) (E : XK) (r : Result) (s' : Shared) : Prop :=
  match r with
  | .ok (.ret u) => CE outer P w H s Q u s'
  | .ok _ => False
  | .error e => CX outer H s E e s'
structure FnOk (P : Program) (w : World) (K : PySem.W.Frag) (mg : Str → Option Value) (base : Heap) (CX : CXT) (k : Nat) (f : Addr) (fd : FuncData) (ps : List Str) (sp : Sp) : Prop where
  len : ∀ vs H Q E, sp vs H Q E → vs.length = ps.length
  run : ∀ (A : Around) (outer : List Env) (s : Shared) (H : Hp) (args : Args) (us : List Value) (vs : List V) (Q : VK) (E : XK), Room k A → Env0 P w K mg base A outer s H → BindsTo s fd args (ps.zip us) → Vals vs us → sp vs H Q E →
    codeAny (model P w) A (.call (.ref f) args) (CR CX outer P w H s Q E) s
theorem FnOk.mono {P : Program} {w : World} {K : PySem.W.Frag} {mg : Str → Option Value} {base : Heap} {CX : CXT} {j k : Nat} {f : Addr} {fd : FuncData} {ps : List Str} {sp : Sp} (F : FnOk P w K mg base CX j f fd ps sp) (h : j ≤ k) :
    FnOk P w K mg base CX k f fd ps sp := ⟨F.len, fun A outer s H args us vs Q E hr => F.run A outer s H args us vs Q E (hr.mono h)⟩
/-- a weaker promise -/
theorem FnOk.imp {P : Program} {w : World} {K : PySem.W.Frag} {mg : Str → Option Value} {base : Heap} {CX : CXT} {k : Nat} {f : Addr} {fd : FuncData} {ps : List Str} {sp sp' : Sp} (F : FnOk P w K mg base CX k f fd ps sp)
    (h : ∀ vs H Q E, sp' vs H Q E → sp vs H Q E) : FnOk P w K mg base CX k f fd ps sp' :=
  ⟨fun vs H Q E q => F.len vs H Q E (h _ _ _ _ q), fun A outer s H args us vs Q E hr he hb hv hs => F.run A outer s H args us vs Q E hr he hb hv (h _ _ _ _ hs)⟩

theorem Env0.make {P : Program} {w : World} {K : PySem.W.Frag} {mg : Str → Option Value} {base : Heap} {A : Around} {outer : List Env} {s : Shared} {H : Hp} (e : Env0 P w K mg base A outer s H) (C : Addr) (us : List Value) (kw : List (Str × Value)) :
    Env0 P w K mg base (A.under (.builtin "type.__call__" ⟨.ref C :: us, kw⟩)) outer s H := ⟨by first | exact e.frames | (simpa [Around.under, Code.envs, Code.isFrame, pushEnvs] using e.frames), e.mod, e.bs, e.bsz, e.funs, e.frf, e.hok, e.bare⟩
theorem Env0.in1 {P : Program} {w : World} {K : PySem.W.Frag} {mg : Str → Option Value} {base : Heap} {A : Around} {outer : List Env} {s : Shared} {H : Hp} (e : Env0 P w K mg base A outer s H) :
    Env0 P w K mg base A.in1 outer s H := ⟨e.frames, e.mod, e.bs, e.bsz, e.funs, e.frf, e.hok, e.bare⟩

section
variable {X : Cx} {pins : List (Addr × Obj)} {σ : St} {H : Hp} {s s' : Shared}
/-- from a body: what a callee wants -/
theorem Inv.env0 (I : Inv X pins σ H s) : Env0 X.prog X.w X.K X.mg X.base X.A X.stack s H :=
  ⟨I.ok.frames, I.ok.mod, I.bs, Nat.le_trans I.ok.bsz I.sz, I.stack, I.stkFree, I.hok, I.bare⟩
/-- behind a call -/
theorem Inv.after {Q : VK} {u : Value} (I : Inv X pins σ H s) (h : CE X.stack X.prog X.w H s Q u s') : EP X pins σ Q u s' := by
  obtain ⟨v, H', os, bare, un, hok, r, q⟩ := h
  obtain ⟨hh, g, d, t, os'⟩ := s'
  obtain rfl : os' = s.os := os
  exact ⟨v, H', I.call (h' := hh) (g' := g) (d' := d) (t' := t) (ch := []) un hok bare (fun b z => absurd z (by simp)), r, q⟩
end

/-- f(..): the written arguments, then the defaults dvs; E: what is wanted of an exception -/
def tCall (sp : Sp) (dvs : List V) (E : XK) (t : TA) : TE := fun σ H Q => t σ H fun vs H1 => sp (vs ++ dvs) H1 Q E
/-- o.m(..) of an instance of the class at C -/
def tMeth (C : Addr) (m : Str) (sp : Sp) (dvs : List V) (E : XK) (ta : TE) (t : TA) : TE := fun σ H Q => ta σ H fun x H1 => ∃ a dx fs, x = .ref a ∧ H1 a = some (.ins C dx fs) ∧ fs.lookup m = none ∧
  t σ H1 fun vs H2 => sp (x :: (vs ++ dvs)) H2 Q E
/-- C(..): a new instance and its dict, then __init__ -/
def tMake (C : Addr) (sp : Sp) (dvs : List V) (E : XK) (t : TA) : TE := fun σ H Q => t σ H fun vs H1 => ∀ x dx, H1 x = none → H1 dx = none → dx ≠ x →
  sp (.ref x :: (vs ++ dvs)) (upd (upd H1 dx (.own x)) x (.ins C dx [])) (fun v H2 => v = .non ∧ Q (.ref x) H2) E

/-- how the parameters are bound: us the positional arguments, kw the keywords' values by name, ds the defaults that fill up -/
def Binds (K : PySem.W.Frag) (fd : FuncData) (ps : List Str) (ds : List Value) : Prop :=
  ∀ (s : Shared) (us : List Value), K.In s.heap → (us ++ ds).length = ps.length → BindsTo s fd ⟨us, []⟩ (ps.zip (us ++ ds))
/-- every parameter is given -/
theorem Binds.all {K : PySem.W.Frag} {fd : FuncData} {ps : List Str} (h : ∀ us : List Value, us.length = ps.length → bindArgs fd ⟨us, []⟩ = pure (ps.zip us)) : Binds K fd ps [] := fun s us _ hl => by
  rw [List.append_nil] at hl ⊢
  exact .of_eq (h us hl)

/-- an exception of a callee reaches what this body wants of exceptions -/
def Passes (CX : CXT) (X : Cx) (E : XK) : Prop := ∀ (pins : List (Addr × Obj)) (σ : St) (H : Hp) (s : Shared) (e : Value) (s' : Shared), Inv X pins σ H s → CX X.stack H s E e s' → X.xe e s'

section
variable {X : Cx} {CX : CXT} {k : Nat} {f C : Addr} {fd : FuncData} {ps : List Str} {sp : Sp} {dvs : List V} {ds : List Value} {E : XK} {x m : Str} {p pos apos : Pos} {e o : Expr} {es : List Expr} {ta : TE} {t : TA}

/-- the callee runs -/
theorem run_fn {pins : List (Addr × Obj)} {σ : St} {H : Hp} {s : Shared} {Q : VK} {us : List Value} {vs : List V} (F : FnOk X.prog X.w X.K X.mg X.base CX k f fd ps sp) (hr : Room k X.A) (hb : Binds X.K fd ps ds) (hd : Vals dvs ds) (hx : Passes CX X E)
    (I : Inv X pins σ H s) (r : Vals vs us) (h : sp (vs ++ dvs) H Q E) : wpAny (model X.prog X.w) X.A (call (.ref f) us) (EP X pins σ Q) X.xe s := by
  have r2 : Vals (vs ++ dvs) (us ++ ds) := r.append hd
  have hl : (us ++ ds).length = ps.length := by rw [← r2.length]; exact F.len _ _ _ _ h
  refine wpAny_call (codeAny_mono (F.run X.A X.stack s H ⟨us, []⟩ (us ++ ds) (vs ++ dvs) Q E hr I.env0 (hb s us I.kIn hl) r2 h) fun r s' hq => ?_)
  cases r with
  | error e => exact hx pins σ H s e s' I hq
  | ok fl =>
    cases fl with
    | ret u => exact I.after hq
    | next => exact False.elim hq
    | brk => exact False.elim hq
    | cont => exact False.elim hq

theorem pe_call (F : FnOk X.prog X.w X.K X.mg X.base CX k f fd ps sp) (hr : Room k X.A) (hg : Gl X x) (hm : X.mg x = some (.ref f)) (hk : PySem.W.keepIn X.K (.ref f) = true) (hb : Binds X.K fd ps ds) (hd : Vals dvs ds) (hx : Passes CX X E)
    (ha : PA X (e :: es) t) (hdb : (x == ("__debug__" : Str)) = false := by decide) (he : starEach (e :: es) X.env = (false, eval e X.env) :: starEach es X.env := by rfl) (hpl : (backTo pos (starEach es X.env)).any (·.1) = false := by rfl) :
    PE X (.Call (.Name x p) (e :: es) [] pos) (tCall sp dvs E t) := by
  intro pins s σ H Q I h
  refine wpAny_Call_Name_kw (ld_glob I hg hm ?_ hdb)
  refine PySem.W.callWith_K (h₀ := X.base) I.ok.mod.kin hk (thn (ha pos pins s σ H _ I h) fun us s1 ⟨vs, H1, I1, r, q⟩ => ⟨I1.kIn, ?_⟩) he hpl
  exact run_fn F hr hb hd hx I1 r q
theorem pe_call0 (F : FnOk X.prog X.w X.K X.mg X.base CX k f fd ps sp) (hr : Room k X.A) (hg : Gl X x) (hm : X.mg x = some (.ref f)) (hk : PySem.W.keepIn X.K (.ref f) = true) (hb : Binds X.K fd ps ds) (hd : Vals dvs ds) (hx : Passes CX X E)
    (hdb : (x == ("__debug__" : Str)) = false := by decide) : PE X (.Call (.Name x p) [] [] pos) (tCall sp dvs E tNil) := by
  intro pins s σ H Q I h
  refine wpAny_Call_Name_kw (ld_glob I hg hm ?_ hdb)
  exact PySem.W.callWith_K0 I.kIn hk (run_fn (us := []) F hr hb hd hx I .nil h)

/-- what a class must have to be made -/
structure Mk (K : PySem.W.Frag) (C f : Addr) : Prop where
  makes : PySem.W.makesIn K C = true
  init : PySem.W.findIn K (.ref C) "__init__" = some (some (.ref f))
  fn : PySem.W.isFn K (.ref f) = true
  kp : PySem.W.keepIn K (.ref C) = true

end

section
variable {X : Cx} {CX : CXT} {k : Nat} {f C : Addr} {fd : FuncData} {ps ks : List Str} {sp : Sp} {E : XK} {x m : Str} {p pos apos kpos : Pos} {e o : Expr} {es : List Expr} {kws : List Keyword} {te ta : TE} {t tk : TA} {nm : Option Str}
/-- how a call with keywords binds: g puts the positional values us and the keywords' values ws (names ks) in the parameters' order, defaults among them -/
structure KBinds (K : PySem.W.Frag) (fd : FuncData) (ps ks : List Str) (g : List Value → List Value → List Value) (gV : List V → List V → List V) : Prop where
  to : ∀ (s : Shared) (us ws : List Value), K.In s.heap → (g us ws).length = ps.length → BindsTo s fd ⟨us, ks.zip ws⟩ (ps.zip (g us ws))
  rel : ∀ {vs : List V} {us : List Value} {zs : List V} {ws : List Value}, Vals vs us → Vals zs ws → Vals (gV vs zs) (g us ws)
variable {g : List Value → List Value → List Value} {gV : List V → List V → List V}
end

/-- names: the parameters first -/
structure FnScope (N P : List Str) (sc : Scope) : Prop where
  kind : sc.kind = .function
  co : sc.isCoroutine = false
  gen : sc.isGenerator = false
  nd : N.Nodup
  pre : N.take P.length = P
  par : ∀ x ∈ P, sc.names.lookup x = some .local ∨ sc.names.lookup x = some .cell
  nofree : ∀ y ∈ sc.names, y.2 ≠ .free

theorem bindL_out {kindOf : Str → Option NameKind} {x : Str} : ∀ {binds : List (Str × Value)} {m : Str → Option Value}, (∀ v, (x, v) ∉ binds) → bindL kindOf binds m x = m x
  | [], _, _ => rfl
  | (n, v) :: r, m, h => by
    unfold bindL
    rw [bindL_out fun w hw => h w (List.mem_cons_of_mem _ hw)]
    split
    · have : x ≠ n := by rintro rfl; exact h v List.mem_cons_self
      simp [this]
    · rfl
theorem bindC_out {kindOf : Str → Option NameKind} {x : Str} : ∀ {binds : List (Str × Value)} {m : Str → Option Value}, (∀ v, (x, v) ∉ binds) → bindC kindOf binds m x = m x
  | [], _, _ => rfl
  | (n, v) :: r, m, h => by
    unfold bindC
    rw [bindC_out fun w hw => h w (List.mem_cons_of_mem _ hw)]
    split
    · rfl
    · have : x ≠ n := by rintro rfl; exact h v List.mem_cons_self
      simp [this]
theorem bindL_get {kindOf : Str → Option NameKind} {x : Str} {v : Value} : ∀ {P : List Str} {vs : List Value} {i : Nat} {m : Str → Option Value}, P.Nodup → P[i]? = some x → vs[i]? = some v → kindOf x = some .local →
    bindL kindOf (P.zip vs) m x = some v
  | [], _, _, _, _, h, _, _ => by simp at h
  | _ :: _, [], _, _, _, _, h, _ => by simp at h
  | p :: P, w :: vs, 0, m, nd, h1, h2, hk => by
    simp at h1 h2; subst h1; subst h2
    show bindL kindOf ((p, w) :: P.zip vs) m p = _
    unfold bindL
    rw [bindL_out fun v hv => (List.nodup_cons.mp nd).1 (List.of_mem_zip hv).1, if_pos hk]
    simp
  | p :: P, w :: vs, i + 1, m, nd, h1, h2, hk => by
    show bindL kindOf ((p, w) :: P.zip vs) m x = _
    unfold bindL
    exact bindL_get (i := i) (List.nodup_cons.mp nd).2 (by simpa using h1) (by simpa using h2) hk
theorem bindC_get {kindOf : Str → Option NameKind} {x : Str} {v : Value} : ∀ {P : List Str} {vs : List Value} {i : Nat} {m : Str → Option Value}, P.Nodup → P[i]? = some x → vs[i]? = some v → kindOf x ≠ some .local →
    bindC kindOf (P.zip vs) m x = some v
  | [], _, _, _, _, h, _, _ => by simp at h
  | _ :: _, [], _, _, _, _, h, _ => by simp at h
  | p :: P, w :: vs, 0, m, nd, h1, h2, hk => by
    simp at h1 h2; subst h1; subst h2
    show bindC kindOf ((p, w) :: P.zip vs) m p = _
    unfold bindC
    rw [bindC_out fun v hv => (List.nodup_cons.mp nd).1 (List.of_mem_zip hv).1, if_neg hk]
    simp
  | p :: P, w :: vs, i + 1, m, nd, h1, h2, hk => by
    show bindC kindOf ((p, w) :: P.zip vs) m x = _
    unfold bindC
    exact bindC_get (i := i) (List.nodup_cons.mp nd).2 (by simpa using h1) (by simpa using h2) hk

/-- the names' values at the entry -/
def start (N : List Str) (vs : List V) : St := vs.map some ++ List.replicate (N.length - vs.length) none

/-- the context of a def's body, at its entry; an exception leaves the frame, then lies as CX says -/
def cxOf (CX : CXT) (P : Program) (w : World) (K : PySem.W.Frag) (mg : Str → Option Value) (base : Heap) (N : List Str) (qual : Str) (scope : Scope) (f : Addr) (cd : Value) (A : Around) (outer : List Env) (s : Shared) (H : Hp) (E : XK) : Cx where
  prog := P
  w := w
  K := K
  mg := mg
  base := base
  A := A.deeper (envOfC qual scope s.heap.objs.size f cd)
  N := N
  s_0 := s
  H_0 := H
  env := envOfC qual scope s.heap.objs.size f cd
  outer := outer
  stack := envOfC qual scope s.heap.objs.size f cd :: outer
  ex := []
  calm := true
  fn := fun _ => true
  pn := []
  xe := fun e s' => wpAny (model P w) (A.deeper (envOfC qual scope s.heap.objs.size f cd)) (leaving (envOfC qual scope s.heap.objs.size f cd) e) (fun _ s'' => CX outer H s E e s'') (fun e' s'' => CX outer H s E e' s'') s'

theorem cell_has {sc : Scope} {n : Nat} {x : Str} (h : sc.names.lookup x = some .cell) : ∃ c, (cellsFrom n sc.names []).lookup x = some c := by
  have q := PySem.W.cellsFrom_some sc.names n [] (.inl h)
  exact Option.isSome_iff_exists.mp q

theorem inv_start {CX : CXT} {P : Program} {w : World} {K : PySem.W.Frag} {mg : Str → Option Value} {base : Heap} {N ps : List Str} {qual : Str} {scope : Scope} {f : Addr} {cd : Value} {A : Around} {outer : List Env} {s s1 : Shared} {H : Hp} {E : XK} {us : List Value} {vs : List V}
    (S : FnScope N ps scope) (hd : A.handled = none) (e0 : Env0 P w K mg base A outer s H) (hl : vs.length = ps.length) (r : Vals vs us)
    (x : InCallC s s.heap.objs.size (bindL (envOfC qual scope s.heap.objs.size f cd).kindOf (ps.zip us) fun _ => none) (cellsFrom (s.heap.objs.size + 1) scope.names []) (bindC (envOfC qual scope s.heap.objs.size f cd).kindOf (ps.zip us) fun _ => none) s1) :
    Inv (cxOf CX P w K mg base N qual scope f cd A outer s H E) [] (start N vs) H s1 := by
  have hpl : ps.length ≤ N.length := by have := congrArg List.length S.pre; rw [List.length_take] at this; omega
  obtain ⟨h1, tk, rfl, hk⟩ := x.done
  have noA : ∀ b : Addr, b ∉ (cxOf CX P w K mg base N qual scope f cd A outer s H E).ex := fun b z => absurd (show b ∈ ([] : List Addr) from z) (by simp)
  refine ⟨⟨e0.mod, S.kind, rfl, rfl, Nat.le_refl _, fun y z c h1 h2 => ?_, fun y hy => ?_, fun y c _ h => ?_, fun _ => hd, Around.frames_deeper e0.frames, .inr ⟨rfl, rfl⟩, fun b z => absurd z (noA b), e0.bs, e0.bsz, fun b _ _ => noA b, fun b z => absurd z (noA b), e0.funs, e0.frf⟩,
    rfl, e0.bare, Un.kept hk, ⟨_, x.toInCall.ns, fun i y v h1 h2 h3 => ?_⟩, fun y c h => ⟨_, x.cell y c h⟩, e0.hok.fresh (Nat.le_refl _), fun y c h => ?_, fun p hp => absurd (show p ∈ ([] : List (Addr × Obj)) from hp) (by simp), e0.hok.kept hk, ?_⟩
  · exact name_of_addr x.apart (PySem.mem_of_lookup h1) (PySem.mem_of_lookup h2)
  · have hy : scope.names.lookup y = some .cell ∨ scope.names.lookup y = some .free := hy
    rcases hy with hy | hy
    · exact cell_has hy
    · exact absurd rfl (S.nofree _ (PySem.mem_of_lookup hy))
  · exact Nat.le_of_lt (x.above y c (PySem.mem_of_lookup h))
  · have hi : i < vs.length := by
      unfold start at h2
      by_cases hi : i < vs.length
      · exact hi
      · rw [List.getElem?_append_right (by simpa using hi)] at h2
        rw [List.getElem?_replicate] at h2
        split at h2 <;> cases h2
    have ha : vs[i]? = some v := by
      unfold start at h2
      rw [List.getElem?_append_left (by simpa using hi), List.getElem?_map] at h2
      cases e : vs[i]? with
      | none => rw [e] at h2; cases h2
      | some a => rw [e] at h2; cases h2; rfl
    obtain ⟨u, hu, rv⟩ := r.get ha
    have hp : ps[i]? = some y := by
      rw [← S.pre, List.getElem?_take_of_lt (by omega)]; exact h1
    have ndP : ps.Nodup := by rw [← S.pre]; exact S.nd.sublist (List.take_sublist _ _)
    refine ⟨u, rv, ?_⟩
    rcases S.par y (List.mem_of_getElem? hp) with k | k
    · exact .inl ⟨k, bindL_get ndP hp hu k⟩
    · obtain ⟨c, e⟩ := cell_has (n := s.heap.objs.size + 1) k
      refine .inr ⟨.inl k, c, e, ?_⟩
      have q := x.cell y c e
      rw [bindC_get ndP hp hu (by show scope.names.lookup y ≠ _; rw [k]; decide)] at q
      exact q
  · exact e0.hok.fresh (Nat.le_of_lt (x.above y c (PySem.mem_of_lookup h)))
  · unfold start
    show _ = N.length
    rw [List.length_append, List.length_map, List.length_replicate]
    omega

/-- THE RULE: a def (or a method) of the text, by its body. The body's reading t is chosen for each entry; it is run at the parameters' values -/
theorem fn_of {CX : CXT} {P : Program} {w : World} {K : PySem.W.Frag} {mg : Str → Option Value} {base : Heap} {k : Nat} {f : Addr} {name qual : Str} {params : Arguments} {body : List Stmt} {scope : Scope} {dV kV doc pm cdv ct oc : Value} {an od : Option Addr}
    {osl : Array (Option Value)} {N ps : List Str} {sp : Sp} (lk : K.lookup f = some ⟨oc, od, .func (PySem.W.fnOf name qual params body scope dV kV doc pm an cdv ct), osl⟩) (hcd : PySem.W.codeIn K cdv qual = true) (S : FnScope N ps scope)
    (len : ∀ vs H Q E, sp vs H Q E → vs.length = ps.length)
    (hbody : ∀ (A : Around) (outer : List Env) (s : Shared) (H : Hp) (vs : List V) (Q : VK) (E : XK), Room k (A.deeper (envOfC qual scope s.heap.objs.size f cdv)) → sp vs H Q E →
      ∃ t, PSs (cxOf CX P w K mg base N qual scope f cdv A outer s H E) body t ∧ t { nx := fun _ H' => Q .non H', rt := Q } (start N vs) H) :
    FnOk P w K mg base CX (k + 1) f (PySem.W.fnOf name qual params body scope dV kV doc pm an cdv ct) ps sp := by
  refine ⟨len, fun A outer s H args us vs Q E hr e0 hb r hsp => ?_⟩
  have hl := len _ _ _ _ hsp
  have KX : K.In s.heap := e0.mod.kin.keeps fun b o e => (e0.bs b o e).1
  have lim : s.heap.NoLimit := e0.mod.nolimit.keeps fun b o e => (e0.bs b o e).1
  have hkind : ∀ y ∈ ps.zip us, scope.names.lookup y.1 = some .local ∨ (scope.names.lookup y.1 = some .cell ∧ ((cellsFrom (s.heap.objs.size + 1) scope.names []).lookup y.1).isSome = true) := fun ⟨n, v⟩ hy => by
    rcases S.par n (List.of_mem_zip hy).1 with q | q
    · exact .inl q
    · exact .inr ⟨q, PySem.W.cellsFrom_some _ _ _ (.inl q)⟩
  refine codeAny_call_function hr.depth (KX _ _ lk) rfl S.co S.gen rfl (PySem.W.codeRec_of KX hcd) (hb _ _ _ _ ?_)
  refine wpAny_newFunctionEnv_cells S.kind hkind fun env he s1 x => ?_
  subst he
  refine ⟨lim.keeps x.toInCall.keep, codeAny_func ?_⟩
  obtain ⟨t, ht, hq⟩ := hbody A outer s H vs Q E (hr.deeper _) hsp
  have I : Inv (cxOf CX P w K mg base N qual scope f cdv A outer s H E) [] (start N vs) H s1 := inv_start S hr.hd e0 hl r x
  refine wpAny_mono (ht [] s1 (start N vs) H _ I hq) (fun fl s' hs => ?_) fun e s' hs => hs
  have fin : ∀ {σ' : St} {H' : Hp} {v : V} {u : Value}, Inv (cxOf CX P w K mg base N qual scope f cdv A outer s H E) [] σ' H' s' → RelV v u → Q v H' → CE outer P w H s Q u s' :=
    fun {σ' H' v u} J rv q => ⟨v, H', J.os, J.bare, J.base, J.hok, rv, q⟩
  cases fl with
  | ret u =>
    obtain ⟨v, σ', H', J, rv, q⟩ := hs
    exact fin J rv q
  | next =>
    obtain ⟨σ', H', J, q⟩ := hs
    exact fin (v := V.non) (u := Value.none) J rfl q
  | brk =>
    obtain ⟨_, _, _, q⟩ := hs
    exact False.elim q
  | cont =>
    obtain ⟨_, _, _, q⟩ := hs
    exact False.elim q
end L2

namespace L2
open PySem PySem.Spec PyProof.Rows
section
variable {X : Cx} {x : Str} {p pos : Pos} {e : Expr} {es : List Expr} {t : TA} {id T : String} {r : List V → Hp → VK → Prop}

def tCB (r : List V → Hp → VK → Prop) (t : TA) : TE := fun σ H Q => t σ H fun vs H1 => r vs H1 Q
/-- f(e, ..), f a built-in function -/
theorem pe_callB (hc : CallR X (.builtin id) r) (hg : Gl X x) (hm : X.mg x = none) (hv : bootBuiltins x = some (.builtin id)) (ha : PA X (e :: es) t) (hn : x ≠ "__name__" := by decide) (hdb : (x == ("__debug__" : Str)) = false := by decide)
    (he : starEach (e :: es) X.env = (false, eval e X.env) :: starEach es X.env := by rfl) (hpl : (backTo pos (starEach es X.env)).any (·.1) = false := by rfl) : PE X (.Call (.Name x p) (e :: es) [] pos) (tCB r t) := by
  intro pins s σ H Q I h
  refine wpAny_Call_Name_kw (ld_blt I hg hm hv ?_ hn hdb)
  exact PyProof.Rows.callWith_builtin1 (thn (ha pos pins s σ H _ I h) fun us s1 ⟨vs, H1, I1, r1, q1⟩ => hc pins s1 σ H1 vs us Q I1 r1 q1) he hpl
/-- T(e, ..), T a built-in type -/
theorem pe_callTy (hc : CallR X (.type T) r) (hg : Gl X x) (hm : X.mg x = none) (hv : bootBuiltins x = some (.type T)) (ha : PA X (e :: es) t) (hn : x ≠ "__name__" := by decide) (hdb : (x == ("__debug__" : Str)) = false := by decide)
    (he : starEach (e :: es) X.env = (false, eval e X.env) :: starEach es X.env := by rfl) (hpl : (backTo pos (starEach es X.env)).any (·.1) = false := by rfl) : PE X (.Call (.Name x p) (e :: es) [] pos) (tCB r t) := by
  intro pins s σ H Q I h
  refine wpAny_Call_Name_kw (ld_blt I hg hm hv ?_ hn hdb)
  exact PyProof.Rows.callWith_type1 (thn (ha pos pins s σ H _ I h) fun us s1 ⟨vs, H1, I1, r1, q1⟩ => hc pins s1 σ H1 vs us Q I1 r1 q1) he hpl
end
end L2

namespace HT
open PySem PyProof.Rows

section
open PySem.SeqAt
open PySem.AutoSeq1 (wpAny_loadPart')
open PySem.MeetsSeq PySem.MeetsSeq2 PySem.MeetsSeq3

end

section
variable {prog : Program} {w : World} {A : Around} {E : Value → Shared → Prop} {s : Shared}

/-- t + u, t not empty -/
theorem cat_tup {t b : Addr} {vs ws : List Value} {Q : Value → Shared → Prop} (ht : IsTup s.heap t vs.toArray) (hb : IsTup s.heap b ws.toArray) (hv : vs ≠ [])
    (h1 : ws = [] → Q (.ref t) s) (h2 : ws ≠ [] → Q (.ref s.heap.objs.size) { s with heap := s.heap.push { cls := .type "tuple", data := .seq (vs ++ ws).toArray } })
    (hsz : vs.length + ws.length ≤ sizeLine) : wpAny (model prog w) A (binaryOp .Add (.ref t) (.ref b)) Q E s := by
  obtain ⟨⟨cls, dd, data, sl⟩, ho, hc, n, hd⟩ := id ht
  obtain ⟨⟨cls2, dd2, data2, sl2⟩, ho2, hc2, n2, hd2⟩ := id hb
  simp only at hc hd hc2 hd2
  subst hc hd hc2 hd2
  have e : vs.toArray ++ ws.toArray = (vs ++ ws).toArray := by simp
  by_cases hw : ws = []
  · exact concat_meets ⟨_, ho, rfl⟩ ⟨_, ho2, rfl⟩ noFill_tuple_add seq_tuple_add PySem.F.slot_tuple_add PySem.F.entry_tuple_add (PySem.F.args_tuple_add_2 _ _)
      (tuple_addW1 t b vs.toArray ws.toArray n n2 dd dd2 sl sl2 (by simpa using hv) (by simp [hw])) ⟨ho, ho2, h1 hw⟩
  · refine concat_meets ⟨_, ho, rfl⟩ ⟨_, ho2, rfl⟩ noFill_tuple_add seq_tuple_add PySem.F.slot_tuple_add PySem.F.entry_tuple_add (PySem.F.args_tuple_add_2 _ _)
      (tuple_addW2 t b vs.toArray ws.toArray n n2 dd dd2 sl sl2 (by simpa using hv) (by simpa using hw) (by rw [List.size_toArray, List.size_toArray]; exact hsz)) ⟨ho, ho2, ?_⟩
    rw [e]
    exact h2 hw

/-- a slice's bound as a place among n (d where it is left out) -/
def sIx (n d : Nat) : Option Int → Nat
  | none => d
  | some v => if v < 0 then (v + (n : Int)).toNat else min v.toNat n
theorem sIx_le (n d : Nat) (hd : d ≤ n) (o : Option Int) : sIx n d o ≤ n := by
  cases o with
  | none => exact hd
  | some v =>
    show (if v < 0 then (v + (n : Int)).toNat else min v.toNat n) ≤ n
    by_cases hv : v < 0
    · rw [if_pos hv]; omega
    · rw [if_neg hv]; exact Nat.min_le_right _ _
theorem clip_eq (v : Int) (n d : Nat) : (if v < 0 then max (v + (n : Int)) 0 else min v (n : Int)) = ((sIx n d (some v) : Nat) : Int) := by
  show (if v < 0 then max (v + (n : Int)) 0 else min v (n : Int)) = (((if v < 0 then (v + (n : Int)).toNat else min v.toNat n) : Nat) : Int)
  by_cases hv : v < 0
  · simp only [if_pos hv]; omega
  · simp only [if_neg hv]; omega
theorem adjust_gen (lo hi : Option Int) (n : Nat) : Builtin.Slice.sliceAdjust lo hi 1 (n : Int) = (((sIx n 0 lo : Nat) : Int), ((sIx n n hi : Nat) : Int)) := by
  have h1 : ¬ ((1 : Int) < 0) := by omega
  unfold Builtin.Slice.sliceAdjust
  simp only [h1, if_false]
  refine Prod.ext ?_ ?_
  · cases lo with
    | none => rfl
    | some v => exact clip_eq v n 0
  · cases hi with
    | none => rfl
    | some v => exact clip_eq v n n
theorem places_gen (i j : Nat) : Builtin.Slice.slicePlaces (i : Int) (j : Int) 1 = j - i := by
  unfold Builtin.Slice.slicePlaces
  have h1 : (1 : Int) > 0 := by omega
  simp only [h1, if_true, Int.ediv_one]
  split <;> omega
theorem slicePart_ {v : Value} {o : Option Int} {Q : Option Int → Shared → Prop} (p : IsPart v o) (h : Q o s) : wpAny (model prog w) A (Builtin.Slice.slicePartIndex v) Q E s := by
  cases p with
  | none => exact slicePart_none h
  | int i t => exact slicePart_int h
theorem sliceApplied_gen {sl : Addr} {vl vu : Value} {lo hi : Option Int} {n : Nat} {Q : Int × Int × Nat → Shared → Prop} (hs : s.heap.IsSliceOf sl vl vu .none) (pl : IsPart vl lo) (pu : IsPart vu hi)
    (h : Q (((sIx n 0 lo : Nat) : Int), 1, sIx n n hi - sIx n 0 lo) s) : wpAny (model prog w) A (Builtin.Slice.sliceApplied (.ref sl) (pure (n : Int))) Q E s := by
  obtain ⟨os, hos, hcs, hds⟩ := id hs
  unfold Builtin.Slice.sliceApplied Builtin.Slice.sliceFields
  refine wpAny_bind (wpAny_bind (wpAny_field hos hds (x := vl) rfl (wpAny_bind (wpAny_field hos hds (x := vu) rfl (wpAny_bind (wpAny_field hos hds (x := .none) rfl (wpAny_pure ?_)))))))
  refine wpAny_bind (slicePart_none ?_)
  show wpAny _ _ (if ((1 : Int) == 0) = true then _ else _) _ _ s
  rw [if_neg (by decide)]
  refine wpAny_bind (slicePart_ pl (wpAny_bind (slicePart_ pu (wpAny_bind (wpAny_pure ?_)))))
  show wpAny _ _ (match Builtin.Slice.sliceAdjust lo hi 1 (n : Int) with | (lo, hi) => pure (lo, (1 : Int), Builtin.Slice.slicePlaces lo hi 1)) _ _ s
  rw [adjust_gen lo hi n]
  show wpAny _ _ (pure (((sIx n 0 lo : Nat) : Int), (1 : Int), Builtin.Slice.slicePlaces ((sIx n 0 lo : Nat) : Int) ((sIx n n hi : Nat) : Int) 1)) _ _ s
  rw [places_gen]
  exact wpAny_pure h
theorem pick_gen (xs : Array Value) (i k : Nat) : ((List.range k).filterMap fun (m : Nat) => xs[((i : Int) + (m : Int) * 1).toNat]?).toArray = ((xs.toList.drop i).take k).toArray := by
  have e : (fun (m : Nat) => xs[((i : Int) + (m : Int) * 1).toNat]?) = fun m => xs[i + m]? := by
    funext m
    have : ((i : Int) + (m : Int) * 1).toNat = i + m := by omega
    rw [this]
  rw [e]
  have := pick_run xs i k
  rw [List.filterMap_map] at this
  have e2 : ((fun x => xs[x]?) ∘ fun x => i + x) = fun m => xs[i + m]? := rfl
  rw [e2] at this
  rw [this]

theorem getItem_tuple_cut {t sl : Addr} {items : Array Value} {vl vu : Value} {lo hi : Option Int} {Q : Value → Shared → Prop} (ht : IsTup s.heap t items) (hs : s.heap.IsSliceOf sl vl vu .none) (pl : IsPart vl lo) (pu : IsPart vu hi)
    (hw : ¬ (sIx items.size 0 lo = 0 ∧ sIx items.size items.size hi = items.size))
    (h : Q (.ref s.heap.objs.size) { s with heap := s.heap.push { cls := .type "tuple", data := .seq ((items.toList.drop (sIx items.size 0 lo)).take (sIx items.size items.size hi - sIx items.size 0 lo)).toArray } })
    (hsz : items.size ≤ sizeLine) : wpAny (model prog w) A (getItem (.ref t) (.ref sl)) Q E s := by
  have htake : sizeOk (.seq ((items.toList.drop (sIx items.size 0 lo)).take (sIx items.size items.size hi - sIx items.size 0 lo)).toArray) := by
    show ((items.toList.drop (sIx items.size 0 lo)).take (sIx items.size items.size hi - sIx items.size 0 lo)).toArray.size ≤ sizeLine
    rw [List.size_toArray, List.length_take, List.length_drop, Array.length_toList]
    omega
  have hj : sIx items.size items.size hi ≤ items.size := sIx_le _ _ (Nat.le_refl _) hi
  obtain ⟨os, hos, hcs, hds⟩ := id hs
  have hTs : s.TypeIs (.ref sl) "slice" := ⟨os, hos, hcs⟩
  unfold getItem
  try with_reducible refine wpAny_holding ?_
  first | refine wpAny_bind (wpAny_pure ?_) | skip
  refine wpAny_bind (wpAny_sequenceKey ht.typeIs (by decide) ?_)
  refine wpAny_bind (wpAny_callSpecial?_slot (name := Str.ofString "__getitem__") ht.typeIs PyProof.Rows.slot_tuple_getitem
    (wpAny_call_entry PyProof.Rows.slot_tuple_getitem ht.typeIs entry_tuple_getitem ?_ (args_tuple_getitem _ _)))
  show wpAny _ _ (Builtin.Tuple.tupleItemsOf (.ref t) >>= _) _ _ s
  refine wpAny_bind (tupleItemsOf_ ht ?_)
  refine wpAny_bind (wpAny_typeOf hTs ?_)
  rw [if_pos (by decide)]
  refine wpAny_bind (sliceApplied_gen hs pl pu ?_)
  have hno : ¬ ((((sIx items.size 0 lo : Nat) : Int) == 0 && (1 : Int) == 1 && (sIx items.size items.size hi - sIx items.size 0 lo) == items.size) = true) := by
    intro q
    rw [Bool.and_eq_true, Bool.and_eq_true] at q
    have q1 : ((sIx items.size 0 lo : Nat) : Int) = 0 := eq_of_beq q.1.1
    have q2 : sIx items.size items.size hi - sIx items.size 0 lo = items.size := eq_of_beq q.2
    exact hw ⟨by omega, by omega⟩
  show wpAny _ _ (if (((sIx items.size 0 lo : Nat) : Int) == 0 && (1 : Int) == 1 && (sIx items.size items.size hi - sIx items.size 0 lo) == items.size) = true then _ else _) _ _ s
  rw [if_neg hno, pick_gen]
  first
    | exact wpAny_bind (m := Builtin.Tuple.tupleExact _) (wpAny_newObj_type (wpAny_pure ⟨_, rfl, wpAny_pure h⟩) htake)
    | exact wpAny_bind (m := Builtin.Tuple.tupleExact _) (wpAny_newObj_type (wpAny_bind (wpAny_pure (wpAny_pure ⟨_, rfl, wpAny_pure h⟩))) htake)
    | exact wpAny_bind (wpAny_bind (m := Builtin.Tuple.tupleExact _) (wpAny_newObj_type (wpAny_pure (wpAny_pure ⟨_, rfl, wpAny_pure h⟩)) htake))
    | exact wpAny_bind (wpAny_bind (m := Builtin.Tuple.tupleExact _) (wpAny_newObj_type (wpAny_pure ⟨_, rfl, wpAny_pure h⟩) htake))
end
end HT

namespace L2
open PySem PySem.Spec PyProof.Rows

abbrev TO := St → Hp → (Option Int → Hp → Prop) → Prop
/-- a slice's part (left out, or an int) -/
def PO (X : Cx) (e : Option Expr) (t : TO) : Prop :=
  ∀ (pins : List (Addr × Obj)) (s : Shared) (σ : St) (H : Hp) (Q : Option Int → Hp → Prop), Inv X pins σ H s → t σ H Q →
    wpAny (model X.prog X.w) X.A (evalPart e X.env) (fun u s' => ∃ o H', Inv X pins σ H' s' ∧ IsPart u o ∧ Q o H') X.xe s
def tNoPart : TO := fun _ H Q => Q none H
def tPart (t : TE) : TO := fun σ H Q => t σ H fun x H1 => ∃ i, x = .int i ∧ Q (some i) H1

section
variable {X : Cx} {e : Expr} {te : TE} {lo hi : Option Expr} {tl th : TO} {pos p2 : Pos}

theorem po_none : PO X none tNoPart := by
  intro pins s σ H Q I h
  rw [evalPart_none]
  exact wpAny_pure ⟨none, H, I, .none, h⟩
theorem po_some (h : PE X e te) : PO X (some e) (tPart te) := by
  intro pins s σ H Q I hw
  rw [evalPart_some]
  refine thn (h pins s σ H _ I hw) fun u s1 ⟨x, H1, I1, r1, q1⟩ => ?_
  obtain ⟨i, rfl, q⟩ := q1
  obtain ⟨t, rfl⟩ := r1
  exact ⟨some i, H1, I1, .int i t, q⟩

/-- what a slice of a value is, by values: the slice object stands at sl -/
def SlR (X : Cx) (r : V → Option Int → Option Int → Hp → VK → Prop) : Prop :=
  ∀ (pins : List (Addr × Obj)) (s : Shared) (σ : St) (H : Hp) (x : V) (v vl vu : Value) (lo hi : Option Int) (sl : Addr) (Q : VK), Inv X pins σ H s → RelV x v → s.heap.IsSliceOf sl vl vu .none → IsPart vl lo → IsPart vu hi → r x lo hi H Q →
    ∃ T id, typeLookup (.type T) "__getitem__" = pure (some (.builtin id)) ∧ s.TypeIs v T ∧ wpAny (model X.prog X.w) X.A (getItem v (.ref sl)) (EP X pins σ Q) X.xe s
theorem SlR.or {r r' : V → Option Int → Option Int → Hp → VK → Prop} (h : SlR X r) (h' : SlR X r') : SlR X (fun x lo hi H Q => r x lo hi H Q ∨ r' x lo hi H Q) := by
  intro pins s σ H x v vl vu lo hi sl Q I rx hs pl pu q
  rcases q with q | q
  · exact h pins s σ H x v vl vu lo hi sl Q I rx hs pl pu q
  · exact h' pins s σ H x v vl vu lo hi sl Q I rx hs pl pu q
def tSl (r : V → Option Int → Option Int → Hp → VK → Prop) (te : TE) (tl th : TO) : TE := fun σ H Q => te σ H fun x H1 => tl σ H1 fun l H2 => th σ H2 fun u H3 => r x l u H3 Q
/-- a[lo:hi], any a -/
theorem pe_slice {r : V → Option Int → Option Int → Hp → VK → Prop} (hr : SlR X r) (he : PE X e te) (hl : PO X lo tl) (hu : PO X hi th) : PE X (.Subscript e (.Slice lo hi none p2) pos) (tSl r te tl th) := by
  intro pins s σ H Q I h
  refine Subscript_ (thn (he pins s σ H _ I h) fun v s1 ⟨x, H1, I1, r1, q1⟩ => ?_)
  refine wpAny_Slice (thn (hl pins s1 σ H1 _ I1 q1) fun vl s2 ⟨l, H2, I2, pl, q2⟩ => thn (hu pins s2 σ H2 _ I2 q2) fun vu s3 ⟨u, H3, I3, pu, q3⟩ => ?_)
  rw [evalPart_none]
  refine wpAny_pure ?_
  have I4 : Inv X pins σ H3 { s3 with heap := s3.heap.push { cls := .type "slice", data := .fields #[vl, vu, .none] } } := I3.kept (t' := s3.toks) fun b ob q => Heap.get?_push_of_some _ q
  obtain ⟨T, id, hT, ht, hg⟩ := hr pins { s3 with heap := s3.heap.push { cls := .type "slice", data := .fields #[vl, vu, .none] } } σ H3 x v vl vu l u s3.heap.objs.size Q I4 r1 (Heap.IsSliceOf.new ..) pl pu q3
  show wpAny (model X.prog X.w) X.A (subscriptTail e (.Slice lo hi none p2) v (.ref s3.heap.objs.size)) (EP X pins σ Q) X.xe { s3 with heap := s3.heap.push { cls := .type "slice", data := .fields #[vl, vu, .none] } }
  exact tail_any (ops := [.ref s3.heap.objs.size, v]) ht hT hg (by with_unfolding_all rfl)

/-- the items of xs[lo:hi] -/
def cutV (xs : List V) (lo hi : Option Int) : List V := (xs.drop (HT.sIx xs.length 0 lo)).take (HT.sIx xs.length xs.length hi - HT.sIx xs.length 0 lo)
theorem cutV_length (xs : List V) (lo hi : Option Int) : (cutV xs lo hi).length ≤ xs.length := by
  unfold cutV
  rw [List.length_take, List.length_drop]
  omega
/-- t[lo:hi], not the whole of it (the whole would be t itself) -/
def rSlT (K : PySem.W.Frag) : V → Option Int → Option Int → Hp → VK → Prop := fun x lo hi H Q => ∃ a xs, x = .ref a ∧ SqT K H a xs ∧
  ¬ (HT.sIx xs.length 0 lo = 0 ∧ HT.sIx xs.length xs.length hi = xs.length) ∧ ∀ p, H p = none → Q (.ref p) (upd H p (.tup (cutV xs lo hi)))
theorem sl_tup : SlR X (rSlT X.K) := by
  intro pins s σ H x v vl vu lo hi sl Q I rx hs pl pu h
  obtain ⟨a, xs, rfl, hx, hw, q⟩ := h
  cases rx
  obtain ⟨its, r, ht, hz⟩ := I.tuple hx
  have hlen : its.toArray.size = xs.length := by rw [List.size_toArray]; exact r.length.symm
  refine ⟨"tuple", _, PyProof.Rows.slot_tuple_getitem.lookup, ht.typeIs, ?_⟩
  refine HT.getItem_tuple_cut ht hs pl pu (by rw [hlen]; exact hw) ?_ (by rw [hlen]; exact hz)
  rw [hlen]
  refine ⟨.ref s.heap.objs.size, _, I.laid (t' := s.toks) (o := .tup (cutV xs lo hi)) (fun b ob q => Heap.get?_push_of_some _ q) (Nat.le_refl _) ?_, rfl, q _ (I.hok.fresh (Nat.le_refl _))⟩
  exact ⟨Nat.le_trans (cutV_length xs lo hi) hz, _, (r.drop (HT.sIx xs.length 0 lo)).take (HT.sIx xs.length xs.length hi - HT.sIx xs.length 0 lo), IsTupP.new _ _⟩

/-- t + u, t not empty: u empty gives t itself -/
def rCatT (K : PySem.W.Frag) : R2 := fun x y H Q => ∃ a b xs ys, x = .ref a ∧ y = .ref b ∧ SqT K H a xs ∧ SqT K H b ys ∧ xs ≠ [] ∧ xs.length + ys.length ≤ sizeLine ∧
  (ys = [] → Q (.ref a) H) ∧ (ys ≠ [] → ∀ p, H p = none → Q (.ref p) (upd H p (.tup (xs ++ ys))))
theorem Vals.nil_iff {xs : List V} {us : List Value} (r : Vals xs us) : us = [] ↔ xs = [] := by
  cases r with
  | nil => simp
  | cons _ _ => simp
theorem op_catT : OpR X (binaryOp .Add) (rCatT X.K) := by
  intro pins s σ H x y v u Q I rx ry h
  obtain ⟨a, b, xs, ys, rfl, rfl, ha, hb, hx, hz, q1, q2⟩ := h
  cases rx
  cases ry
  obtain ⟨its, r1, p1, _⟩ := I.tuple ha
  obtain ⟨its2, r2, p2, _⟩ := I.tuple hb
  refine HT.cat_tup p1 p2 (fun z => hx (r1.nil_iff.mp z)) (fun z => ⟨.ref a, H, I, rfl, q1 (r2.nil_iff.mp z)⟩) (fun z => ?_) (by rw [← r1.length, ← r2.length]; exact hz)
  refine ⟨.ref s.heap.objs.size, _, I.laid (t' := s.toks) (o := .tup (xs ++ ys)) (fun b ob q => Heap.get?_push_of_some _ q) (Nat.le_refl _) ?_, rfl, q2 (fun w => z (r2.nil_iff.mpr w)) _ (I.hok.fresh (Nat.le_refl _))⟩
  exact ⟨by rw [List.length_append]; exact hz, _, r1.append r2, IsTupP.new _ _⟩
end
end L2

namespace L2
open PySem PySem.Spec PyProof.Rows

/-- the place that an index of any sign means -/
def ixN (n : Nat) (i : Int) : Option Nat := if 0 ≤ i then (if i < n then some i.toNat else none) else if -(n : Int) ≤ i then some (i + n).toNat else none
def atI {α : Type} (xs : List α) (i : Int) : Option α := (ixN xs.length i).bind fun j => xs[j]?
theorem ixN_seq {n : Nat} {i : Int} {j : Nat} (h : ixN n i = some j) : seqIndex? i n = some j ∧ j < n ∧ -(n : Int) ≤ i ∧ i < n := by
  unfold ixN at h
  by_cases h0 : 0 ≤ i
  · rw [if_pos h0] at h
    by_cases h1 : i < n
    · rw [if_pos h1] at h
      have e : i.toNat = j := Option.some.inj h
      exact ⟨by rw [seqIndex_of h0 h1, e], by omega, by omega, h1⟩
    · rw [if_neg h1] at h; cases h
  · rw [if_neg h0] at h
    by_cases h1 : -(n : Int) ≤ i
    · rw [if_pos h1] at h
      have e : (i + n).toNat = j := Option.some.inj h
      exact ⟨by rw [seqIndex_neg (by omega) h1, e], by omega, h1, by omega⟩
    · rw [if_neg h1] at h; cases h
theorem atI_get {α : Type} {xs : List α} {i : Int} {v : α} (h : atI xs i = some v) : ∃ j, seqIndex? i xs.length = some j ∧ xs[j]? = some v ∧ j < xs.length ∧ -(xs.length : Int) ≤ i ∧ i < xs.length := by
  unfold atI at h
  cases e : ixN xs.length i with
  | none => rw [e] at h; cases h
  | some j =>
    rw [e] at h
    obtain ⟨h1, h2, h3, h4⟩ := ixN_seq e
    exact ⟨j, h1, h, h2, h3, h4⟩
/-- what stands as an index of a plain subscript -/
def PlainIx (b : Expr) : Prop := ∀ o i, subscripted b false o i = operate [o, i] (getItem o i)
/-- a subscript by values -/
def IxR (X : Cx) (r : R2) : Prop :=
  ∀ (value slice : Expr) (pins : List (Addr × Obj)) (s : Shared) (σ : St) (H : Hp) (x y : V) (v u : Value) (Q : VK), Inv X pins σ H s → RelV x v → RelV y u → r x y H Q →
    subscripted slice false v u = operate [v, u] (getItem v u) → wpAny (model X.prog X.w) X.A (subscriptTail value slice v u) (EP X pins σ Q) X.xe s
/-- a call of a builtin's method by values: the receiver, the arguments -/
def MtR (X : Cx) (id : String) (r : V → List V → Hp → VK → Prop) : Prop :=
  ∀ (pins : List (Addr × Obj)) (s : Shared) (σ : St) (H : Hp) (x : V) (xs : List V) (v : Value) (us : List Value) (Q : VK), Inv X pins σ H s → RelV x v → Vals xs us → r x xs H Q →
    wpAny (model X.prog X.w) X.A (call (.builtin id) (v :: us)) (EP X pins σ Q) X.xe s
section
variable {X : Cx} {a b : Expr} {ta tb : TE} {pos : Pos}
theorem IxR.or {r r' : R2} (h : IxR X r) (h' : IxR X r') : IxR X (fun x y H Q => r x y H Q ∨ r' x y H Q) := by
  intro value slice pins s σ H x y v u Q I rx ry q hs
  rcases q with q | q
  · exact h value slice pins s σ H x y v u Q I rx ry q hs
  · exact h' value slice pins s σ H x y v u Q I rx ry q hs
theorem MtR.or {id : String} {r r' : V → List V → Hp → VK → Prop} (h : MtR X id r) (h' : MtR X id r') : MtR X id (fun x xs H Q => r x xs H Q ∨ r' x xs H Q) := by
  intro pins s σ H x xs v us Q I rx rs q
  rcases q with q | q
  · exact h pins s σ H x xs v us Q I rx rs q
  · exact h' pins s σ H x xs v us Q I rx rs q
/-- a[b] -/
theorem pe_ix {r : R2} (hr : IxR X r) (ha : PE X a ta) (hb : PE X b tb) (hs : PlainIx b) : PE X (.Subscript a b pos) (tOp r ta tb) := by
  intro pins s σ H Q I h
  exact Subscript_ (binT ha hb I h fun v u s2 x y H2 I2 rx ry q => hr a b pins s2 σ H2 x y v u Q I2 rx ry q (hs _ _))

def rIxL (K : PySem.W.Frag) : R2 := fun x y H Q => ∃ p xs i v, x = .ref p ∧ y = .int i ∧ SqL K H p xs ∧ atI xs i = some v ∧ Q v H
def rIxT (K : PySem.W.Frag) : R2 := fun x y H Q => ∃ p xs i v, x = .ref p ∧ y = .int i ∧ SqT K H p xs ∧ atI xs i = some v ∧ Q v H
def rIxS : R2 := fun x y H Q => ∃ z i c, x = .str z ∧ y = .int i ∧ z.length ≤ sizeLine ∧ atI z.cps.toList i = some c ∧ Q (.str ⟨#[c]⟩) H
theorem ix_list : IxR X (rIxL X.K) := by
  intro value slice pins s σ H x y v u Q I rx ry h hs
  obtain ⟨p, xs, i, z, rfl, rfl, hq, he, q⟩ := h
  cases rx
  obtain ⟨t, rfl⟩ := ry
  obtain ⟨its, r, pl, hz⟩ := I.list hq
  obtain ⟨j, h1, h2, h3, h4, h5⟩ := atI_get he
  obtain ⟨w, ew, rw'⟩ := r.get h2
  have hl := r.length
  have hn := line63
  have fin : EP X pins σ Q w s := ⟨z, H, I, rw', q⟩
  by_cases h0 : 0 ≤ i
  · have hj : i.toNat = j := by
      rw [seqIndex_of h0 h5] at h1
      exact Option.some.inj h1
    exact item_listR pl.isList h0 (by omega) (by rw [hj]; simpa using ew) fin hs
  · have hj : (i + (its.toArray.size : Int)).toNat = j := by
      rw [seqIndex_neg (by omega) h4] at h1
      rw [List.size_toArray, ← hl]
      exact Option.some.inj h1
    exact subscriptTail_builtinR (x := w) pl.isList.typeIs slot_list_getitem.lookup
      (wpAny_getItem_list_neg (Q := fun r s' => r = w ∧ EP X pins σ Q r s') pl.isList (by omega) (by rw [List.size_toArray] <;> omega) (by omega) (by rw [hj]; simpa using ew) ⟨rfl, fin⟩) hs
theorem ix_tup : IxR X (rIxT X.K) := by
  intro value slice pins s σ H x y v u Q I rx ry h hs
  obtain ⟨p, xs, i, z, rfl, rfl, hq, he, q⟩ := h
  cases rx
  obtain ⟨t, rfl⟩ := ry
  obtain ⟨its, r, pl, hz⟩ := I.tuple hq
  obtain ⟨j, h1, h2, h3, h4, h5⟩ := atI_get he
  obtain ⟨w, ew, rw'⟩ := r.get h2
  have hl := r.length
  have hn := line63
  have fin : EP X pins σ Q w s := ⟨z, H, I, rw', q⟩
  exact subscriptTail_builtinR (x := w) pl.typeIs slot_tuple_getitem.lookup
    (getItem_tuple (j := j) (Q := fun r s' => r = w ∧ EP X pins σ Q r s') pl (by omega) (by omega) (by rw [List.size_toArray, ← hl]; exact h1) (by simpa using ew) ⟨rfl, fin⟩) hs
theorem ix_str : IxR X rIxS := by
  intro value slice pins s σ H x y v u Q I rx ry h hs
  obtain ⟨z, i, c, rfl, rfl, hz, he, q⟩ := h
  obtain ⟨t, rfl⟩ := rx
  obtain ⟨t', rfl⟩ := ry
  obtain ⟨j, h1, h2, h3, h4, h5⟩ := atI_get he
  have hl : z.cps.toList.length = z.length := by simp [Str.length]
  rw [hl] at h1 h4 h5
  have hn := line63
  exact tail_any (typeIs_str s z t) slot_str_getitem.lookup (getItem_str (c := c) (by
    have e1 : decide (i < -(2 ^ 63 : Int)) = false := decide_eq_false (by omega)
    have e2 : decide (i ≥ 2 ^ 63) = false := decide_eq_false (by omega)
    rw [e1, e2, Bool.or_false]) (by rw [h1]; simpa using h2) ⟨.str ⟨#[c]⟩, H, I.tok _, ⟨_, rfl⟩, q⟩) hs
/-- list, tuple or str -/
def rIx (K : PySem.W.Frag) : R2 := fun x y H Q => rIxL K x y H Q ∨ rIxT K x y H Q ∨ rIxS x y H Q
theorem ix_seq : IxR X (rIx X.K) := ix_list.or (ix_tup.or ix_str)

/-- the list's object behind a store -/
theorem mapSeq_set (its : List Value) (n j : Nat) (u : Value) : Obj.mapSeq (·.setIfInBounds j u) { cls := .type "list", data := .seq its.toArray n } = { cls := .type "list", data := .seq (its.set j u).toArray n } := by
  simp [Obj.mapSeq]
theorem Inv.lst {pins : List (Addr × Obj)} {σ : St} {H : Hp} {s : Shared} {p : Addr} {xs : List V} (I : Inv X pins σ H s) (h : H p = some (.lst xs)) :
    ∃ (its : List Value) (n : Nat), Vals xs its ∧ s.heap.get? p = some { cls := .type "list", data := .seq its.toArray n } ∧ xs.length ≤ sizeLine := by
  obtain ⟨z, its, n, r, e⟩ := I.hok p _ h
  exact ⟨its, n, r, e, z⟩
/-- the list at p is written by an update of its object -/
theorem Inv.lstUpd {pins : List (Addr × Obj)} {σ : St} {H : Hp} {s : Shared} {p : Addr} {xs ys : List V} {its its' : List Value} {n n' : Nat} {f : Obj → Obj} (I : Inv X pins σ H s) (h : H p = some (.lst xs))
    (ho : s.heap.get? p = some { cls := .type "list", data := .seq its.toArray n }) (hf : f { cls := .type "list", data := .seq its.toArray n } = { cls := .type "list", data := .seq its'.toArray n' }) (r : Vals ys its') (hz : ys.length ≤ sizeLine) (t : Nat) :
    Inv X pins σ (upd H p (.lst ys)) { s with heap := s.heap.update p f, toks := t } := by
  have e : (s.heap.update p f).get? p = some { cls := .type "list", data := .seq its'.toArray n' } := by
    rw [Heap.get?_update_self f ho (by rw [hf] <;> rfl), hf]
  refine I.write (x := p) (e := p) (by rw [h]; trivial) (.inl rfl) (fun b u hb q => (Heap.get?_update_other _ _ (Ne.symm hb)).trans q) ⟨_, e⟩ ?_
  exact ⟨hz, its', n', r, e⟩
def rSetL : V → V → V → Hp → (Hp → Prop) → Prop := fun o i v H Q => ∃ p xs k j, o = .ref p ∧ i = .int k ∧ H p = some (.lst xs) ∧ ixN xs.length k = some j ∧ Q (upd H p (.lst (xs.set j v)))
theorem set_list : PSet X rSetL := by
  intro pins s σ H o i v ov iv u Q I ro ri rv h
  obtain ⟨p, xs, k, j, rfl, rfl, hp, hj, q⟩ := h
  cases ro
  obtain ⟨t, rfl⟩ := ri
  obtain ⟨its, n, r, ho, hz⟩ := I.lst hp
  obtain ⟨h1, h2, h3, h4⟩ := ixN_seq hj
  have hl := r.length
  have hn := line63
  have I' : Inv X pins σ (upd H p (.lst (xs.set j v))) { s with heap := s.heap.update p (Obj.mapSeq (·.setIfInBounds j u)) } :=
    I.lstUpd hp ho (mapSeq_set its n j u) (r.set rv j) (by rw [List.length_set]; exact hz) s.toks
  by_cases h0 : 0 ≤ k
  · have hk : k.toNat = j := by
      rw [seqIndex_of h0 h4] at h1
      exact Option.some.inj h1
    exact PySem.W.ki_setAt ho h0 (by omega) (by rw [List.size_toArray, ← hl]; exact h4) (by rw [hk]; exact ⟨_, I', q⟩)
  · have hk : (k + (its.toArray.size : Int)).toNat = j := by
      rw [seqIndex_neg (by omega) h3] at h1
      rw [List.size_toArray, ← hl]
      exact Option.some.inj h1
    exact PySem.W.ki_setBack ho (by omega) (by rw [List.size_toArray, ← hl]; exact h3) (by omega) (by rw [hk]; exact ⟨_, I', q⟩)

theorem slice_bounds (lo hi : Option Int) (n : Nat) : (sliceBounds lo hi none n).1 = ((HT.sIx n 0 lo : Nat) : Int) ∧ (sliceBounds lo hi none n).2.1 = ((HT.sIx n n hi : Nat) : Int) ∧ (sliceBounds lo hi none n).2.2 = 1 := by
  refine ⟨?_, ?_, rfl⟩
  · cases lo with
    | none => simp [sliceBounds, HT.sIx]
    | some i =>
      simp only [sliceBounds, HT.sIx, Option.getD_none, show (1 : Int) > 0 by decide, if_true]
      by_cases h : i < 0
      · simp only [h, if_true] <;> omega
      · simp only [h, if_false] <;> omega
  · cases hi with
    | none => simp [sliceBounds, HT.sIx]
    | some i =>
      simp only [sliceBounds, HT.sIx, Option.getD_none, show (1 : Int) > 0 by decide, if_true]
      by_cases h : i < 0
      · simp only [h, if_true] <;> omega
      · simp only [h, if_false] <;> omega
theorem slicePick_cut (its : List Value) (lo hi : Option Int) : slicePick its.toArray lo hi none = ((its.drop (HT.sIx its.length 0 lo)).take (HT.sIx its.length its.length hi - HT.sIx its.length 0 lo)).toArray := by
  obtain ⟨h1, h2, h3⟩ := slice_bounds lo hi its.toArray.size
  unfold slicePick
  rw [h1, h2, h3]
  simp only [sliceRange_one, pick_run, List.size_toArray] <;> rfl
/-- xs[lo:hi] of a list: a new list -/
def rSlL (K : PySem.W.Frag) : V → Option Int → Option Int → Hp → VK → Prop := fun x lo hi H Q => ∃ a xs, x = .ref a ∧ SqL K H a xs ∧ ∀ p, H p = none → Q (.ref p) (upd H p (.lst (cutV xs lo hi)))
theorem sl_list : SlR X (rSlL X.K) := by
  intro pins s σ H x v vl vu lo hi sl Q I rx hs pl pu h
  obtain ⟨a, xs, rfl, hx, q⟩ := h
  cases rx
  obtain ⟨its, r, ht, hz⟩ := I.list hx
  have hlen := r.length
  refine ⟨"list", _, slot_list_getitem.lookup, ht.isList.typeIs, ?_⟩
  refine wpAny_getItem_list_slice ht.isList hs pl pu .none (by simp) ?_ (by rw [List.size_toArray] <;> omega)
  rw [slicePick_cut, ← hlen]
  refine ⟨.ref s.heap.objs.size, _, I.laid (t' := s.toks) (o := .lst (cutV xs lo hi)) (fun b ob q => Heap.get?_push_of_some _ q) (Nat.le_refl _) ?_, rfl, q _ (I.hok.fresh (Nat.le_refl _))⟩
  exact ⟨Nat.le_trans (cutV_length xs lo hi) hz, _, 0, (r.drop (HT.sIx xs.length 0 lo)).take (HT.sIx xs.length xs.length hi - HT.sIx xs.length 0 lo), Heap.get?_push_size _ rfl⟩

theorem CallR.or {f : Value} {r r' : List V → Hp → VK → Prop} (h : CallR X f r) (h' : CallR X f r') : CallR X f (fun xs H Q => r xs H Q ∨ r' xs H Q) := by
  intro pins s σ H xs us Q I rs q
  rcases q with q | q
  · exact h pins s σ H xs us Q I rs q
  · exact h' pins s σ H xs us Q I rs q
theorem call_tuple_of : CallR X (.type "tuple") (fun xs H Q => ∃ p ys, xs = [.ref p] ∧ ((SqL X.K H p ys ∧ ∀ l, H l = none → Q (.ref l) (upd H l (.tup ys))) ∨ (SqT X.K H p ys ∧ Q (.ref p) H))) := by
  intro pins s σ H xs us Q I r h
  obtain ⟨p, ys, rfl, h⟩ := h
  obtain ⟨u, rfl, rx⟩ := vals1 r
  cases rx
  rcases h with ⟨hq, q⟩ | ⟨hq, q⟩
  · obtain ⟨its, r', pl, hz⟩ := I.list hq
    have hlen := r'.length
    refine call_tuple_list pl.isList (fun h' kp => ?_) (by simp only [List.size_toArray] <;> omega)
    have I1 : Inv X pins σ H { s with heap := h' } := I.kept (t' := s.toks) kp
    have I2 : Inv X pins σ (upd H h'.objs.size (.tup ys)) { s with heap := h'.push { cls := .type "tuple", data := .seq its.toArray } } :=
      I1.laid (t' := s.toks) (fun b o e => Heap.get?_push_of_some _ e) (Nat.le_refl _) (show ObjOk X.prog X.w _ _ _ (.tup ys) from ⟨hz, its, r', IsTupP.new _ _⟩)
    exact ⟨.ref h'.objs.size, _, I2, rfl, q _ (I1.hok.fresh (Nat.le_refl _))⟩
  · obtain ⟨its, r', pl, hz⟩ := I.tuple hq
    exact call_tuple_same pl ⟨.ref p, H, I, rfl, q⟩

/-- the value is of that builtin type -/
def tyV (K : PySem.W.Frag) (T : String) (x : V) (H : Hp) : Prop := match x with
  | .str _ => T = "str"
  | .int _ => T = "int"
  | .ref p => (T = "list" ∧ ∃ xs, SqL K H p xs) ∨ (T = "tuple" ∧ ∃ o, K.lookup p = some o ∧ o.cls = .type "tuple" ∧ o.dict = none) ∨
      (T = "dict" ∧ ((∃ kvs, H p = some (.dK kvs)) ∨ ∃ kvs, H p = some (.dT kvs))) ∨ (T = "set" ∧ ∃ S n, H p = some (.set S n))
  | _ => False
theorem tyV_is {pins : List (Addr × Obj)} {σ : St} {H : Hp} {s : Shared} {T : String} {x : V} {v : Value} (I : Inv X pins σ H s) (r : RelV x v) (ty : tyV X.K T x H) :
    s.TypeIs v T ∧ ∀ a, v = .ref a → ∃ ob, s.heap.get? a = some ob ∧ ob.dict = none := by
  cases x with
  | str z =>
    obtain ⟨t, rfl⟩ := r
    cases (show T = "str" from ty)
    exact ⟨typeIs_str s z t, fun _ e => nomatch e⟩
  | int i =>
    obtain ⟨t, rfl⟩ := r
    cases (show T = "int" from ty)
    exact ⟨typeIs_int s i t, fun _ e => nomatch e⟩
  | ref p =>
    cases r
    rcases ty with ⟨rfl, xs, hq⟩ | ⟨rfl, o, hk, hc, hd⟩ | ⟨rfl, hk⟩ | ⟨rfl, S, n, hk⟩
    · obtain ⟨its, _, pl, _⟩ := I.list hq
      refine ⟨pl.isList.typeIs, fun a e => ?_⟩
      cases e
      obtain ⟨o, n, e, c, hd, _⟩ := pl
      exact ⟨o, e, hd⟩
    · refine ⟨⟨o, I.kIn p o hk, hc⟩, fun a e => ?_⟩
      cases e
      exact ⟨o, I.kIn _ o hk, hd⟩
    · have z : ∃ o, s.heap.get? p = some o ∧ o.ExactDict := by
        rcases hk with ⟨kvs, hk⟩ | ⟨kvs, hk⟩
        · obtain ⟨_, _, _, _, o, _, _, e, ex, _⟩ := I.hok p _ hk
          exact ⟨o, e, ex⟩
        · obtain ⟨_, _, _, _, o, _, _, e, ex, _⟩ := I.hok p _ hk
          exact ⟨o, e, ex⟩
      obtain ⟨o, e, ex⟩ := z
      refine ⟨⟨o, e, ex.1⟩, fun a e2 => ?_⟩
      cases e2
      exact ⟨o, e, ex.2.1⟩
    · obtain ⟨o, _, _, _, e, ex, _⟩ := I.hok p _ hk
      refine ⟨⟨o, e, ex.1⟩, fun a e2 => ?_⟩
      cases e2
      exact ⟨o, e, ex.2.1⟩
  | _ => exact False.elim ty
def tBM (K : PySem.W.Frag) (T : String) (r : V → List V → Hp → VK → Prop) (to : TE) (t : TA) : TE := fun σ H Q => to σ H fun x H1 => tyV K T x H1 ∧ t σ H1 fun xs H2 => r x xs H2 Q
variable {o e : Expr} {es : List Expr} {to : TE} {t : TA} {name : Str} {apos cpos : Pos} {T id : String} {r : V → List V → Hp → VK → Prop}
theorem pe_bm (pa : PlainAttrs T) (slot : Slot T name id) (hty : typeOf (.builtin id) = pure (.type "method_descriptor")) (hm : MtR X id r) (ho : PE X o to) (ha : PA X (e :: es) t)
    (hbase : attributeBase o name X.env (eval o X.env) = eval o X.env := by rfl)
    (hfew : ((backTo cpos (starEach (e :: es) X.env)).all (fun x => !x.1) && (backToKw cpos (keywordEach [] X.env)).all (fun x => x.1.isSome)
      && decide ((e :: es).length + ([] : List Keyword).length + (if ([] : List Keyword).isEmpty then 0 else 1) < 30)) = true := by rfl)
    (hline : (apos.endLine == cpos.line) = true := by rfl) (hs : starEach (e :: es) X.env = (false, eval e X.env) :: starEach es X.env := by rfl) (hplain : (backTo cpos (starEach es X.env)).any (·.1) = false := by rfl) :
    PE X (.Call (.Attribute o name apos) (e :: es) [] cpos) (tBM X.K T r to t) := by
  intro pins s σ H Q I h
  refine wpAny_Call_method_late hbase hfew hline rfl (thn (ho pins s σ H _ I h) fun v s1 ⟨x, H1, I1, r1, ty, q1⟩ => ?_)
  obtain ⟨h1, h2⟩ := tyV_is I1 r1 ty
  refine ⟨T, id, pa, slot, hty, h1, h2, ?_⟩
  have hA := ha cpos pins s1 σ H1 _ I1 q1
  rw [hs] at hA ⊢
  refine Calls.callWith_builtin (by show (false || (backTo cpos (starEach es X.env)).any (·.1)) = false; rw [hplain] <;> rfl) (Calls.evalArgs_plain ?_)
  exact thn hA fun us s2 ⟨vs, H2, I2, r2, q2⟩ => hm pins s2 σ H2 x vs v us Q I2 r1 r2 q2
end
end L2

namespace L2
open PySem PySem.Spec PyProof.Rows

def MtM (X : Cx) (id : String) (r : V → List V → Hp → VK → Prop) : Prop :=
  ∀ (pins : List (Addr × Obj)) (s : Shared) (σ : St) (H : Hp) (x : V) (xs : List V) (v : Value) (us : List Value) (Q : VK), Inv X pins σ H s → RelV x v → Vals xs us → r x xs H Q →
    wpAny (model X.prog X.w) X.A (call (.builtin id) (v :: us)) (EP X pins σ Q) X.xe s

theorem Vals.one : ∀ {x : V} {us : List Value}, Vals [x] us → ∃ u, us = [u] ∧ RelV x u
  | _, _, .cons r .nil => ⟨_, rfl, r⟩
theorem Vals.two : ∀ {x y : V} {us : List Value}, Vals [x, y] us → ∃ u v, us = [u, v] ∧ RelV x u ∧ RelV y v
  | _, _, _, .cons r (.cons q .nil) => ⟨_, _, rfl, r, q⟩
theorem Vals.zero : ∀ {us : List Value}, Vals [] us → us = []
  | _, .nil => rfl
theorem Vals.reverse {xs : List V} {us : List Value} (h : Vals xs us) : Vals xs.reverse us.reverse := by
  induction h with
  | nil => exact .nil
  | cons r t ih => rw [List.reverse_cons, List.reverse_cons]; exact Vals.append ih (.cons r .nil)
theorem Vals.rep {xs : List V} {us : List Value} (h : Vals xs us) : ∀ k : Nat, Vals (List.replicate k xs).flatten (List.replicate k us).flatten
  | 0 => .nil
  | k + 1 => by
    rw [List.replicate_succ, List.replicate_succ, List.flatten_cons, List.flatten_cons]
    exact Vals.append h (Vals.rep h k)
section
variable {X : Cx} {pins : List (Addr × Obj)} {σ : St} {H : Hp} {s : Shared} {l b : Addr} {xs ys zs : List V}

theorem Inv.lset {its its' : List Value} {n : Nat} {f : Array Value → Array Value} {t' : Nat} (I : Inv X pins σ H s) (hH : H l = some (.lst xs))
    (e : s.heap.get? l = some { cls := .type "list", data := .seq its.toArray n }) (hf : f its.toArray = its'.toArray) (hv : Vals ys its') (hz : ys.length ≤ sizeLine) :
    Inv X pins σ (upd H l (.lst ys)) { s with heap := s.heap.update l (Obj.mapSeq f), toks := t' } := by
  have q := PySem.IsL.update e f
  rw [hf] at q
  refine I.write (x := l) (e := l) (by rw [hH]; exact trivial) (.inl rfl) (fun b' u hb hu => (Heap.get?_update_other s.heap (Obj.mapSeq f) (Ne.symm hb)).trans hu) ⟨_, q⟩ ?_
  exact ⟨hz, its', _, hv, q⟩
theorem Inv.lnew {its : List Value} {t' : Nat} (I : Inv X pins σ H s) (hv : Vals ys its) (hz : ys.length ≤ sizeLine) :
    Inv X pins σ (upd H s.heap.objs.size (.lst ys)) { s with heap := s.heap.push { cls := .type "list", data := .seq its.toArray }, toks := t' } :=
  I.laid (fun _ _ q => Heap.get?_push_of_some _ q) (Nat.le_refl _) ⟨hz, its, 0, hv, Heap.get?_push_size _ rfl⟩
theorem Inv.fresh (I : Inv X pins σ H s) : H s.heap.objs.size = none := I.hok.fresh (Nat.le_refl _)
theorem Inv.lstM (I : Inv X pins σ H s) (hH : H l = some (.lst xs)) : xs.length ≤ sizeLine ∧ ∃ (its : List Value) (n : Nat), Vals xs its ∧ xs.length = its.length ∧ s.heap.get? l = some { cls := .type "list", data := .seq its.toArray n } := by
  obtain ⟨z, its, n, r, e⟩ := I.hok l _ hH
  exact ⟨z, its, n, r, r.length, e⟩

theorem notLongL {n : Nat} (h : n ≤ sizeLine) : Builtin.List.listTooLong n = false := by
  unfold Builtin.List.listTooLong
  exact decide_eq_false (by omega)
end

section
variable {X : Cx}

def rAppend : V → List V → Hp → VK → Prop := fun x vs H Q => ∃ l xs y, x = .ref l ∧ vs = [y] ∧ H l = some (.lst xs) ∧ xs.length < sizeLine ∧ Q .non (upd H l (.lst (xs ++ [y])))
theorem mt_append : MtM X "list.append" rAppend := by
  intro pins s σ H x vs v us Q I rx rv h
  obtain ⟨l, xs, y, rfl, rfl, hH, hz, q⟩ := h
  cases rx
  obtain ⟨u, rfl, ru⟩ := rv.one
  obtain ⟨z, its, n, r, hl, e⟩ := I.lstM hH
  refine call_meets F.slot_list_append ⟨_, e, rfl⟩ F.entry_list_append (F.args_list_append_2 _ _) (PySem.list_append l its.toArray n u (by rw [List.size_toArray]; omega)) ⟨e, ?_⟩
  refine ⟨.non, _, I.lset (its' := its ++ [u]) hH e (by simp) (r.append (.cons ru .nil)) ?_, rfl, q⟩
  rw [List.length_append, List.length_singleton]
  omega

def rCat : R2 := fun x y H Q => ∃ l b xs zs, x = .ref l ∧ y = .ref b ∧ H l = some (.lst xs) ∧ H b = some (.lst zs) ∧ xs.length + zs.length ≤ sizeLine ∧ ∀ p, H p = none → Q (.ref p) (upd H p (.lst (xs ++ zs)))
theorem op_cat : OpR X (binaryOp .Add) rCat := by
  intro pins s σ H x y v u Q I rx ry h
  obtain ⟨l, b, xs, zs, rfl, rfl, hH, hB, hz, q⟩ := h
  cases rx
  cases ry
  obtain ⟨z, its, n, r, hl, e⟩ := I.lstM hH
  obtain ⟨z2, its2, n2, r2, hl2, e2⟩ := I.lstM hB
  refine PySem.P.add_list e e2 ?_ (by rw [List.size_toArray, List.size_toArray]; omega)
  have ea : its.toArray ++ its2.toArray = (its ++ its2).toArray := by simp
  rw [ea]
  exact ⟨.ref _, _, I.lnew (t' := s.toks) (r.append r2) (by rw [List.length_append]; omega), rfl, q _ I.fresh⟩
theorem len_rep {α : Type} (xs : List α) (k : Nat) : (List.replicate k xs).flatten.length = k * xs.length := by
  induction k with
  | zero => simp
  | succ k ih => rw [List.replicate_succ, List.flatten_cons, List.length_append, ih, Nat.succ_mul, Nat.add_comm]
end

section
variable {prog : Program} {w : World} {A : Around} {E : Value → Shared → Prop} {s : Shared}
theorem bounds_run {a c n : Nat} (hac : a ≤ c) (hc : c ≤ n) : sliceBounds (some (a : Int)) (some (c : Int)) none n = ((a : Int), (c : Int), 1) := by
  simp only [sliceBounds, Option.getD_none]
  have h1 : ¬ ((a : Int) < 0) := by omega
  have h2 : ¬ ((c : Int) < 0) := by omega
  simp only [h1, h2, if_false, show (1 : Int) > 0 by decide, if_true]
  congr 1
  · omega
  · congr 1; omega
set_option maxRecDepth 100000 in
/-- list.__setitem__ with a slice of step one and another list -/
theorem setItem_slice {l b sl : Addr} {items new : Array Value} {n n2 : Nat} {vl vu : Value} {a c : Nat} {Q : Unit → Shared → Prop}
    (e : s.heap.get? l = some { cls := .type "list", data := .seq items n }) (e2 : s.heap.get? b = some { cls := .type "list", data := .seq new n2 }) (hne : l ≠ b)
    (hs : s.heap.IsSliceOf sl vl vu .none) (pl : IsPart vl (some (a : Int))) (pu : IsPart vu (some (c : Int))) (hac : a ≤ c) (hc : c ≤ items.size)
    (hsz : items.size + new.size ≤ sizeLine) (h : Q () { s with heap := s.heap.update l (Obj.mapSeq fun xs => xs.extract 0 a ++ new ++ xs.extract c xs.size) }) :
    wpAny (model prog w) A (setItem (.ref l) (.ref sl) (.ref b)) Q E s := by
  have hl : s.heap.IsList l items := PySem.IsL.isList e
  have hb : s.heap.IsList b new := PySem.IsL.isList e2
  obtain ⟨os, hos, hcs, hds⟩ := id hs
  have hTs : s.TypeIs (.ref sl) "slice" := ⟨os, hos, hcs⟩
  have hstep : ¬ ((rawPart none == rawInt 0) = true) := Bool.false_ne_true
  have hsame : Builtin.List.listSameRef (.ref l) (.ref b) = false := by
    unfold Builtin.List.listSameRef
    exact beq_eq_false_iff_ne.mpr hne
  have hmax : (max (a : Int) (c : Int)).toNat = c := by omega
  have hz' : ((fun xs : Array Value => xs.extract 0 a ++ new ++ xs.extract c xs.size) items).size ≤ sizeLine + 1 := by
    simp only [Array.size_append, Array.size_extract]
    omega
  unfold setItem
  try with_reducible refine wpAny_holding ?_
  first | refine wpAny_bind (wpAny_pure ?_) | skip
  refine wpAny_bind (wpAny_sequenceKey hl.typeIs (by decide) ?_)
  refine wpAny_bind (wpAny_callSpecial?_slot (name := Str.ofString "__setitem__") hl.typeIs slot_list_setitem
    (wpAny_call_entry slot_list_setitem hl.typeIs entry_list_setitem ?_ (args_list_setitem _ _ _)))
  show wpAny _ _ (Builtin.List.listSubscript? (.ref sl) >>= _) _ _ s
  refine wpAny_bind ?_
  unfold Builtin.List.listSubscript?
  refine wpAny_bind (wpAny_specialOf hTs slice_no_index ?_)
  simp only [Option.isNone_none, if_true]
  refine wpAny_pure ?_
  show wpAny _ _ (typeOf (.ref sl) >>= _) _ _ s
  refine wpAny_bind (wpAny_typeOf hTs ?_)
  first
    | rw [if_neg (by decide)]
    | refine PySem.W.KFB.if_not (by decide) ?_
  rw [listSliceParts_eq]
  refine wpAny_bind (wpAny_bind (wpAny_field hos hds (x := .none) rfl (wpAny_bind (wpAny_listPart .none ?_))))
  rw [if_neg hstep]
  refine wpAny_bind (wpAny_field hos hds (x := vl) rfl (wpAny_bind (wpAny_listPart pl ?_)))
  refine wpAny_bind (wpAny_field hos hds (x := vu) rfl (wpAny_bind (wpAny_listPart pu (wpAny_pure ?_))))
  first
    | simp only [hsame, Bool.false_eq_true, if_false]
    | refine PySem.W.KFB.if_not hsame ?_
    | (dsimp only
       rw [if_neg (by rw [hsame]; exact Bool.false_ne_true)])
  refine wpAny_bind (m := Builtin.List.listAllItems (.ref b) "must assign iterable to extended slice") ?_
  unfold Builtin.List.listAllItems
  refine wpAny_bind (wpAny_typeOf hb.typeIs ?_)
  first
    | refine PySem.W.KFB.if_so (by decide) ?_
    | rw [if_pos (by decide)]
    | simp only [beq_self_eq_true, Bool.true_or, if_true]
  unfold Builtin.List.listItems
  refine wpAny_bind (wpAny_seqItems e2 rfl (wpAny_pure ?_))
  refine wpAny_bind (wpAny_bind (wpAny_seqItems e rfl (wpAny_pure ?_)))
  refine wpAny_bind (wpAny_of_eq ((sliceIndices_raw (some (a : Int)) (some (c : Int)) none items.size (by simp)).trans (congrArg (pure : Int × Int × Int → Sem (Int × Int × Int)) (bounds_run hac hc))) ?_)
  show wpAny _ _ (if ((1 : Int) == 1) = true then _ else _) _ _ s
  rw [if_pos (by decide)]
  refine wpAny_bind (wpAny_rule ?_)
  first
    | simp only [notLongL hsz, Bool.false_eq_true, if_false]
    | refine PySem.W.KFB.if_not (notLongL hsz) ?_
  first | refine wpAny_bind (wpAny_pure ?_) | skip
  show wpAny _ _ (updateSeq l (fun xs => xs.extract 0 ((a : Int)).toNat ++ new ++ xs.extract (max (a : Int) (c : Int)).toNat xs.size) >>= _) _ _ s
  rw [hmax, Int.toNat_natCast]
  refine wpAny_bind (wpAny_updateSeq (hz := Nat.le_trans (Nat.le_add_right _ _) hsz) (_hz' := hz') e rfl ?_)
  refine wpAny_bind (wpAny_letGo ?_)
  first
    | exact wpAny_bind (wpAny_pure (wpAny_pure ⟨.none, rfl, wpAny_pure h⟩))
    | exact wpAny_pure ⟨.none, rfl, wpAny_pure h⟩
end

section
variable {X : Cx}
end
end L2

namespace L2
open PySem PySem.Spec PyProof.Rows

theorem Vals.ints : ∀ {ns : List Int} {us : List Value}, Vals (ns.map V.int) us → IntsAre us ns
  | [], us, h => by
    rw [List.map_nil] at h
    cases h
    exact IntsAre.nil
  | n :: ns, us, h => by
    rw [List.map_cons] at h
    cases h with
    | cons r t =>
      obtain ⟨k, rfl⟩ := r
      exact IntsAre.cons n k (Vals.ints t)
theorem vals_of_ints : ∀ {us : List Value} {ns : List Int}, IntsAre us ns → Vals (ns.map V.int) us
  | _, _, .nil => by rw [List.map_nil]; exact Paired.nil
  | _, _, .cons n t h => by rw [List.map_cons]; exact Paired.cons (show RelV (V.int n) (Value.int n t) from ⟨t, rfl⟩) (vals_of_ints h)
theorem Vals.strs : ∀ {xs : List Str} {us : List Value}, Vals (xs.map V.str) us → StrsAre us xs
  | [], us, h => by
    rw [List.map_nil] at h
    cases h
    exact StrsAre.nil
  | x :: xs, us, h => by
    rw [List.map_cons] at h
    cases h with
    | cons r t =>
      obtain ⟨k, rfl⟩ := r
      exact StrsAre.cons x k (Vals.strs t)
theorem Vals.bls : ∀ {bs : List Bool} {us : List Value}, Vals (bs.map V.bl) us → us = bs.map Value.bool
  | [], us, h => by
    rw [List.map_nil] at h
    cases h
    rfl
  | b :: bs, us, h => by
    rw [List.map_cons] at h
    cases h with
    | cons r t =>
      cases r
      rw [Vals.bls t, List.map_cons]
theorem Vals.ref1 {a : Addr} {us : List Value} (r : Vals [V.ref a] us) : us = [Value.ref a] := by
  cases r with
  | cons r t =>
    cases t
    cases r
    rfl
section
variable {prog : Program} {w : World} {A : Around} {E : Value → Shared → Prop} {s : Shared} {l : Addr} {its : List Value} {ns : List Int} {Q : Value → Shared → Prop}
end

section
variable {X : Cx}
def rSorted (K : PySem.W.Frag) : List V → Hp → VK → Prop := fun vs H Q => ∃ (a : Addr) (ns : List Int), vs = [V.ref a] ∧ SqL K H a (ns.map V.int) ∧ ns.length < 64 ∧
  ∀ (ns' : List Int) (p : Addr), ns'.Perm ns → ns'.Pairwise (· ≤ ·) → H p = none → Q (.ref p) (upd H p (.lst (ns'.map V.int)))
theorem small64 {n : Nat} (h : n < 64) : n ≤ sizeLine := by rw [sizeLine_eq]; omega
theorem cr_sorted : CallR X (.builtin "sorted") (rSorted X.K) := by
  intro pins s σ H vs us Q I r h
  obtain ⟨a, ns, rfl, hs, h64, q⟩ := h
  obtain ⟨its, rv, hl, _⟩ := I.list hs
  rw [Vals.ref1 r]
  have hi := rv.ints
  refine PyProof.Rows.sorted_ints hl.isList hi (by rw [hi.length]; exact h64) fun out ns' h1 h2 h3 => ?_
  obtain ⟨ep, he'⟩ := PyProof.Rows.sortedAll_at s.heap its out
  have hlen : (ns'.map V.int).length ≤ sizeLine := by rw [List.length_map, h2.length_eq]; exact small64 h64
  exact ⟨.ref _, upd H (s.heap.objs.size + 1) (.lst (ns'.map V.int)), I.laid (t' := s.toks) (fun _ _ => PyProof.Rows.sortedAll_old) (Nat.le_succ _) ⟨hlen, out.toList, ep, vals_of_ints h1, he'⟩, rfl, q ns' _ h2 h3 (I.hok.fresh (Nat.le_succ _))⟩
end

section
variable {X : Cx}
end

section
variable {X : Cx}
end

theorem iter_any {prog : Program} {w : World} {A : Around} {E : Value → Shared → Prop} {s : Shared} {l : Addr} {items : Array Value} {Q : Value → Shared → Prop} (hl : s.heap.IsList l items)
    (h : ∀ s₂ : Shared, s₂ = { s with heap := s.heap.push { cls := .type "list_iterator", data := .fields #[.ref l, .int 0 0] } } →
      (s₂.heap.IsListIter s.heap.objs.size l 0 ∧ s₂.heap.IsList l items) → l ≠ s.heap.objs.size → Q (.ref s.heap.objs.size) s₂) : wpAny (model prog w) A (pyIter (.ref l)) Q E s := by
  have hlt : l < s.heap.objs.size := by obtain ⟨_, e, _⟩ := hl; exact Heap.lt_size e
  exact wpAny_pyIter_list hl (h _ rfl ⟨⟨_, Heap.get?_push_size _ rfl, rfl, rfl⟩, hl.push _⟩ (Nat.ne_of_lt hlt))
theorem truth_bools {prog : Program} {w : World} {A : Around} {bs : List Bool} {its : List Value} (e : its = bs.map Value.bool) :
    TruthOf prog w A (fun i v => its.toArray[i]? = some v) (fun i => bs.getD i false) := fun i v s Q E hv hq => by
  have hv' : its[i]? = some v := by simpa using hv
  rw [e, List.getElem?_map] at hv'
  obtain ⟨b, hb, rfl⟩ := Option.map_eq_some_iff.mp hv'
  have hg : bs.getD i false = b := by rw [List.getD_eq_getElem?_getD, hb] <;> rfl
  have hq' : Q (bs.getD i false) s := hq
  rw [hg] at hq'
  exact wpAny_truthy_bool hq'
theorem any_range : ∀ bs : List Bool, (List.range bs.length).any (fun i => bs.getD i false) = bs.any id
  | [] => rfl
  | b :: bs => by
    rw [List.length_cons, List.range_succ_eq_map, List.any_cons, List.any_map, List.any_cons, ← any_range bs]
    all_goals rfl
theorem all_range : ∀ bs : List Bool, (List.range bs.length).all (fun i => bs.getD i false) = bs.all id
  | [] => rfl
  | b :: bs => by
    rw [List.length_cons, List.range_succ_eq_map, List.all_cons, List.all_map, List.all_cons, ← all_range bs]
    all_goals rfl
section
variable {X : Cx}
def rAny (K : PySem.W.Frag) : List V → Hp → VK → Prop := fun vs H Q => ∃ (a : Addr) (bs : List Bool), vs = [V.ref a] ∧ SqL K H a (bs.map V.bl) ∧ Q (.bl (bs.any id)) H
def rAll (K : PySem.W.Frag) : List V → Hp → VK → Prop := fun vs H Q => ∃ (a : Addr) (bs : List Bool), vs = [V.ref a] ∧ SqL K H a (bs.map V.bl) ∧ Q (.bl (bs.all id)) H
theorem cr_any (hc : X.calm = true) : CallR X (.builtin "any") (rAny X.K) := by
  intro pins s σ H vs us Q I r h
  obtain ⟨a, bs, rfl, hs, q⟩ := h
  obtain ⟨its, rv, hl, _⟩ := I.list hs
  rw [Vals.ref1 r]
  have hb := rv.bls
  refine call_any_walk (iter_any hl.isList fun s₂ e2 st hne => ?_)
  subst e2
  refine ⟨_, _, _, _, _, _, _, rfl, Walks.list (A := X.A.in1) (I.ok.hd hc) _ a hne its.toArray, st, truth_bools hb, fun h' tk hk => ?_⟩
  refine ⟨.bl _, H, I.kept fun b o eo => hk b o (fun hmem => ?_) (Heap.get?_push_of_some _ eo), ?_, q⟩
  · rcases List.mem_cons.mp hmem with e1 | hmem
    · exact absurd (e1 ▸ Heap.lt_size eo) (Nat.lt_irrefl _)
    · cases hmem
  · show Value.bool _ = Value.bool _
    rw [← any_range, hb, List.size_toArray, List.length_map]
theorem cr_all (hc : X.calm = true) : CallR X (.builtin "all") (rAll X.K) := by
  intro pins s σ H vs us Q I r h
  obtain ⟨a, bs, rfl, hs, q⟩ := h
  obtain ⟨its, rv, hl, _⟩ := I.list hs
  rw [Vals.ref1 r]
  have hb := rv.bls
  refine call_all_walk (iter_any hl.isList fun s₂ e2 st hne => ?_)
  subst e2
  refine ⟨_, _, _, _, _, _, _, rfl, Walks.list (A := X.A.in1) (I.ok.hd hc) _ a hne its.toArray, st, truth_bools hb, fun h' tk hk => ?_⟩
  refine ⟨.bl _, H, I.kept fun b o eo => hk b o (fun hmem => ?_) (Heap.get?_push_of_some _ eo), ?_, q⟩
  · rcases List.mem_cons.mp hmem with e1 | hmem
    · exact absurd (e1 ▸ Heap.lt_size eo) (Nat.lt_irrefl _)
    · cases hmem
  · show Value.bool _ = Value.bool _
    rw [← all_range, hb, List.size_toArray, List.length_map]
end

mutual
inductive Dp (K : PySem.W.Frag) (H : Hp) : V → PyData → Prop
  | non : Dp K H .non .none
  | bl (b : Bool) : Dp K H (.bl b) (.bool b)
  | int (i : Int) : Dp K H (.int i) (.int i)
  | str (x : Str) : Dp K H (.str x) (.str x)
  | lst {a : Addr} {xs : List V} {ds : List PyData} : SqL K H a xs → DpAll K H xs ds → Dp K H (.ref a) (.list ds)
  | tup {a : Addr} {xs : List V} {ds : List PyData} : SqT K H a xs → DpAll K H xs ds → Dp K H (.ref a) (.tuple ds)
inductive DpAll (K : PySem.W.Frag) (H : Hp) : List V → List PyData → Prop
  | nil : DpAll K H [] []
  | cons {v : V} {vs : List V} {d : PyData} {ds : List PyData} : Dp K H v d → DpAll K H vs ds → DpAll K H (v :: vs) (d :: ds)
end
section
variable {X : Cx} {pins : List (Addr × Obj)} {σ : St} {H : Hp} {s : Shared}
mutual
theorem Dp.reads (I : Inv X pins σ H s) : ∀ (d : PyData) (v : V) (u : Value), Dp X.K H v d → RelV v u → ∃ as, Reads s.heap u d as
  | .none, _, _, h, r => by
    cases h
    cases r
    exact ⟨_, Reads.none⟩
  | .bool b, _, _, h, r => by
    cases h
    cases r
    exact ⟨_, Reads.bool b⟩
  | .int i, _, _, h, r => by
    cases h
    obtain ⟨t, rfl⟩ := r
    exact ⟨_, Reads.int i t⟩
  | .str x, _, _, h, r => by
    cases h
    obtain ⟨t, rfl⟩ := r
    exact ⟨_, Reads.str x t⟩
  | .list ds, _, _, h, r => by
    cases h with
    | lst hs ha =>
      cases r
      obtain ⟨its, rv, ⟨o, n, ho, hc, _, hd⟩, _⟩ := I.list hs
      obtain ⟨as, hr⟩ := Dp.readsAll I ds _ its ha rv
      exact ⟨_, Reads.list ho hc hd hr⟩
  | .tuple ds, _, _, h, r => by
    cases h with
    | tup hs ha =>
      cases r
      obtain ⟨its, rv, ⟨o, ho, hc, n, hd⟩, _⟩ := I.tuple hs
      obtain ⟨as, hr⟩ := Dp.readsAll I ds _ its ha rv
      exact ⟨_, Reads.tuple ho hc hd hr⟩
  | .dict _, _, _, h, _ => by cases h
theorem Dp.readsAll (I : Inv X pins σ H s) : ∀ (ds : List PyData) (vs : List V) (us : List Value), DpAll X.K H vs ds → Vals vs us → ∃ as, ReadsAll s.heap us ds as
  | [], _, _, h, r => by
    cases h
    cases r
    exact ⟨_, ReadsAll.nil⟩
  | d :: ds, _, _, h, r => by
    cases h with
    | cons h1 h2 =>
      cases r with
      | cons r1 r2 =>
        obtain ⟨as, q1⟩ := Dp.reads I d _ _ h1 r1
        obtain ⟨bs, q2⟩ := Dp.readsAll I ds _ _ h2 r2
        exact ⟨_, ReadsAll.cons q1 q2⟩
end
end
section
variable {X : Cx}
def rEqD (K : PySem.W.Frag) : R2 := fun x y H Q => ∃ d e, Dp K H x d ∧ Dp K H y e ∧ SeqAt.shaped d = true ∧ SeqAt.shaped e = true ∧ Q (.bl (PyData.eqv d e)) H
def rNeD (K : PySem.W.Frag) : R2 := fun x y H Q => ∃ d e, Dp K H x d ∧ Dp K H y e ∧ SeqAt.shaped d = true ∧ SeqAt.shaped e = true ∧ Q (.bl (!PyData.eqv d e)) H
theorem op_eqD (hu : X.A.units + 64 < cLine) : OpR X (compareOp .Eq) (rEqD X.K) := by
  intro pins s σ H x y v u Q I rx ry h
  obtain ⟨d, e, hd, he, sd, se, q⟩ := h
  obtain ⟨as, r1⟩ := Dp.reads I d x v hd rx
  obtain ⟨bs, r2⟩ := Dp.reads I e y u he ry
  exact SeqAt.compareEq_shaped r1 r2 sd se hu ⟨.bl _, H, I, rfl, q⟩
theorem op_neD (hu : X.A.units + 64 < cLine) : OpR X (compareOp .NotEq) (rNeD X.K) := by
  intro pins s σ H x y v u Q I rx ry h
  obtain ⟨d, e, hd, he, sd, se, q⟩ := h
  obtain ⟨as, r1⟩ := Dp.reads I d x v hd rx
  obtain ⟨bs, r2⟩ := Dp.reads I e y u he ry
  exact SeqAt.compareNe_shaped r1 r2 sd se hu ⟨.bl _, H, I, rfl, q⟩
end
end L2

namespace L2
open PySem PySem.Spec PyProof.Rows
abbrev CellAt (h : Heap) (c : Addr) (v : Option Value) : Prop := h.IsCell c v
def relS (scope sc : Scope) : Scope :=
  { scope with names := scope.names.map fun (n, k) => if (k == .free && sc.kind == .function && sc.names.lookup n == some .cell) then (n, .cell) else (n, k) }

def cloFrom (cells : List (Str × Addr)) : List (Str × NameKind) → List (Str × Addr) → List (Str × Addr)
  | [], acc => acc
  | (n, k) :: r, acc => if k == .free then cloFrom cells r ((n, (cells.lookup n).getD 0) :: acc) else cloFrom cells r acc

theorem closure_loop (env : Env) (f : Str × NameKind → List (Str × Addr) → Sem (ForInStep (List (Str × Addr))))
    (hf : ∀ n k c, f (n, k) c = if k == .free then (do let a ← cellOf env n; pure (.yield ((n, a) :: c))) else pure (.yield c)) :
    ∀ (names : List (Str × NameKind)) (acc : List (Str × Addr)), (∀ y ∈ names, y.2 = .free → ∃ c, env.cells.lookup y.1 = some c) → forIn names acc f = pure (cloFrom env.cells names acc)
  | [], acc, _ => by rw [List.forIn_nil]; rfl
  | (n, k) :: r, acc, h => by
    rw [List.forIn_cons, hf]
    have ih := fun acc => closure_loop env f hf r acc fun y hy => h y (List.mem_cons_of_mem _ hy)
    unfold cloFrom
    by_cases hk : (k == NameKind.free) = true
    · rw [if_pos hk, if_pos hk]
      obtain ⟨c, hc⟩ := h (n, k) List.mem_cons_self (by simpa using hk)
      have e : cellOf env n = pure c := by unfold cellOf; rw [hc]
      rw [e]
      have e2 : (env.cells.lookup n).getD 0 = c := by rw [hc]; rfl
      rw [e2]
      exact ih _
    · rw [if_neg hk, if_neg hk]
      exact ih _
theorem closure_ok {scope : Scope} {env : Env} (h : ∀ y ∈ scope.names, y.2 = .free → ∃ c, env.cells.lookup y.1 = some c) : closureFor scope env = pure (cloFrom env.cells scope.names []) := by
  simp only [closureFor]
  rw [closure_loop env _ (fun n k c => rfl) scope.names [] h]
  rfl

theorem mem_lookup {α : Type} : ∀ {l : List (Str × α)} {n : Str} {c : α}, (n, c) ∈ l → ∃ c', l.lookup n = some c'
  | (k, v) :: r, n, c, h => by
    rw [List.lookup_cons]
    cases hb : n == k with
    | true => exact ⟨_, rfl⟩
    | false =>
      rcases List.mem_cons.mp h with e | h
      · cases e; simp at hb
      · exact mem_lookup h

theorem cloFrom_mem {cells : List (Str × Addr)} : ∀ {names : List (Str × NameKind)} {acc : List (Str × Addr)} {n : Str} {c : Addr}, (n, c) ∈ cloFrom cells names acc → (n, c) ∈ acc ∨ ((n, .free) ∈ names ∧ c = (cells.lookup n).getD 0)
  | [], _, _, _, h => .inl h
  | (m, k) :: r, acc, n, c, h => by
    unfold cloFrom at h
    split at h
    · rename_i hk
      have hk : k = .free := by simpa using hk
      rcases cloFrom_mem h with h | ⟨h1, h2⟩
      · rcases List.mem_cons.mp h with e | h
        · cases e; exact .inr ⟨hk ▸ List.mem_cons_self, rfl⟩
        · exact .inl h
      · exact .inr ⟨List.mem_cons_of_mem _ h1, h2⟩
    · rcases cloFrom_mem h with h | ⟨h1, h2⟩
      · exact .inl h
      · exact .inr ⟨List.mem_cons_of_mem _ h1, h2⟩
theorem cloFrom_acc {cells : List (Str × Addr)} : ∀ {names : List (Str × NameKind)} {acc : List (Str × Addr)} {p : Str × Addr}, p ∈ acc → p ∈ cloFrom cells names acc
  | [], _, _, h => h
  | (m, k) :: r, acc, p, h => by
    unfold cloFrom
    split
    · exact cloFrom_acc (List.mem_cons_of_mem _ h)
    · exact cloFrom_acc h
theorem cloFrom_has {cells : List (Str × Addr)} : ∀ {names : List (Str × NameKind)} {acc : List (Str × Addr)} {n : Str}, (n, .free) ∈ names → (n, (cells.lookup n).getD 0) ∈ cloFrom cells names acc
  | (m, k) :: r, acc, n, h => by
    unfold cloFrom
    rcases List.mem_cons.mp h with e | h
    · cases e
      exact cloFrom_acc List.mem_cons_self
    · split
      · exact cloFrom_has h
      · exact cloFrom_has h

theorem cells_mem : ∀ {names : List (Str × NameKind)} {h : Heap} {acc : List (Str × Addr)} {x : Str} {c : Addr}, (x, c) ∈ cellsFrom h.objs.size names acc →
    (x, c) ∈ acc ∨ ((x, .cell) ∈ names ∧ h.objs.size ≤ c ∧ CellAt (pushCells h names) c none)
  | [], _, _, _, _, h => .inl h
  | (n, k) :: r, h, acc, x, c, hm => by
    unfold cellsFrom at hm
    unfold pushCells
    split at hm
    · rename_i hk
      rw [if_pos hk]
      have hk : k = .cell := by simpa using hk
      rw [← Heap.size_push h { cls := .type "cell", data := .cell none }] at hm
      rcases cells_mem hm with hm | ⟨h1, h2, h3⟩
      · rcases List.mem_cons.mp hm with e | hm
        · cases e
          exact .inr ⟨hk ▸ List.mem_cons_self, Nat.le_refl _, _, pushCells_keeps r _ _ _ (Heap.get?_push_size _ rfl), rfl⟩
        · exact .inl hm
      · rw [Heap.size_push] at h2
        exact .inr ⟨List.mem_cons_of_mem _ h1, Nat.le_of_succ_le h2, h3⟩
    · rename_i hk
      rw [if_neg hk]
      rcases cells_mem hm with hm | ⟨h1, h2, h3⟩
      · exact .inl hm
      · exact .inr ⟨List.mem_cons_of_mem _ h1, h2, h3⟩
theorem cells_acc : ∀ {names : List (Str × NameKind)} {n : Nat} {acc : List (Str × Addr)} {p : Str × Addr}, p ∈ acc → p ∈ cellsFrom n names acc
  | [], _, _, _, h => h
  | (m, k) :: r, n, acc, p, h => by
    unfold cellsFrom
    split
    · exact cells_acc (List.mem_cons_of_mem _ h)
    · exact cells_acc h
theorem cells_has : ∀ {names : List (Str × NameKind)} {n : Nat} {acc : List (Str × Addr)} {x : Str}, (x, .cell) ∈ names → ∃ c, (x, c) ∈ cellsFrom n names acc
  | (m, k) :: r, n, acc, x, h => by
    unfold cellsFrom
    rcases List.mem_cons.mp h with e | h
    · cases e
      exact ⟨n, cells_acc List.mem_cons_self⟩
    · split
      · exact cells_has h
      · exact cells_has h
theorem cells_inj : ∀ {names : List (Str × NameKind)} {h : Heap} {acc : List (Str × Addr)} {x y : Str} {c : Addr}, (∀ p ∈ acc, p.2 < h.objs.size) → (∀ x y c, (x, c) ∈ acc → (y, c) ∈ acc → x = y) →
    (x, c) ∈ cellsFrom h.objs.size names acc → (y, c) ∈ cellsFrom h.objs.size names acc → x = y
  | [], _, _, _, _, _, _, hi, h1, h2 => hi _ _ _ h1 h2
  | (n, k) :: r, h, acc, x, y, c, hl, hi, h1, h2 => by
    unfold cellsFrom at h1 h2
    split at h1
    · rename_i hk
      rw [if_pos hk] at h2
      rw [← Heap.size_push h { cls := .type "cell", data := .cell none }] at h1 h2
      refine cells_inj (h := h.push _) (fun p hp => ?_) (fun x y c a b => ?_) h1 h2
      · rw [Heap.size_push]
        rcases List.mem_cons.mp hp with rfl | hp
        · exact Nat.lt_succ_self _
        · exact Nat.lt_succ_of_lt (hl p hp)
      · rcases List.mem_cons.mp a with e | a <;> rcases List.mem_cons.mp b with e' | b
        · cases e; cases e'; rfl
        · cases e; exact absurd (hl _ b) (Nat.lt_irrefl _)
        · cases e'; exact absurd (hl _ a) (Nat.lt_irrefl _)
        · exact hi _ _ _ a b
    · rename_i hk
      rw [if_neg hk] at h2
      exact cells_inj hl hi h1 h2

theorem newEnv_comp {M : Model} {A : Around} {E : Value → Shared → Prop} {s : Shared} {scope : Scope} {globals : Addr} {closure : List (Str × Addr)} {qual : Str} {func : Option Addr} {code : Value} {around : Env} {builtins : Addr} {Q : Env → Shared → Prop}
    (h : Q (newEnv scope s.heap.objs.size globals (cellsFrom (s.heap.objs.size + 1) scope.names closure) qual func code (some around) builtins)
      { s with heap := pushCells (s.heap.push { cls := .type "dict", data := .dict #[] }) scope.names }) :
    wpAny M A (newFunctionEnv scope globals closure [] qual func code (some around) builtins) Q E s := by
  simp only [newFunctionEnv, Option.isSome_some, if_true]
  refine wpAny_bind (wpAny_alloc ?_)
  refine wpAny_bind (wpAny_layCells _ (fun n k c => rfl) scope.names closure _ _ ?_)
  rw [show ({ s with heap := s.heap.push { cls := .type "dict", data := .dict #[] } } : Shared).heap.objs.size = s.heap.objs.size + 1 from Heap.size_push ..]
  rw [List.forIn_nil]
  exact wpAny_bind (wpAny_pure (wpAny_pure h))

/-- every name of the written scope, in the scope that runs -/
theorem lookup_relS {sc : Scope} : ∀ {names : List (Str × NameKind)} {x : Str} {k : NameKind},
    (names.map fun (n, k) => if (k == NameKind.free && sc.kind == .function && sc.names.lookup n == some .cell) then (n, NameKind.cell) else (n, k)).lookup x = some k →
    ∃ k', names.lookup x = some k' ∧ (k = k' ∨ (k' = .free ∧ k = .cell))
  | [], _, _, h => by simp at h
  | (n, k₀) :: r, x, k, h => by
    have ih := @lookup_relS sc r x k
    have h' : List.lookup x ((if (k₀ == NameKind.free && sc.kind == .function && sc.names.lookup n == some .cell) = true then (n, NameKind.cell) else (n, k₀)) :: (r.map _)) = some k := h
    cases hx : x == n with
    | true =>
      simp only [List.lookup_cons, hx]
      by_cases hc : (k₀ == NameKind.free && sc.kind == .function && sc.names.lookup n == some .cell) = true
      · rw [if_pos hc] at h'
        simp only [List.lookup_cons, hx] at h'
        cases h'
        simp only [Bool.and_eq_true, beq_iff_eq] at hc
        exact ⟨k₀, rfl, .inr ⟨hc.1.1, rfl⟩⟩
      · rw [if_neg hc] at h'
        simp only [List.lookup_cons, hx] at h'
        cases h'
        exact ⟨_, rfl, .inl rfl⟩
    | false =>
      simp only [List.lookup_cons, hx]
      by_cases hc : (k₀ == NameKind.free && sc.kind == .function && sc.names.lookup n == some .cell) = true
      · rw [if_pos hc] at h'
        simp only [List.lookup_cons, hx] at h'
        exact ih h'
      · rw [if_neg hc] at h'
        simp only [List.lookup_cons, hx] at h'
        exact ih h'
/-- the names of a comprehension's block: its own (with their places in N), or captured -/
structure BlkOk (N : List Str) (sc scope : Scope) (own : List (Str × Nat)) : Prop where
  kind : scope.kind = .function
  uniq : ∀ y ∈ scope.names, scope.names.lookup y.1 = some y.2
  ix : ∀ p ∈ own, N[p.2]? = some p.1
  free : ∀ y ∈ scope.names, y.2 = .free → sc.names.lookup y.1 = some .cell ∨ sc.names.lookup y.1 = some .free
  own : ∀ y ∈ scope.names, y.2 = .local ∨ y.2 = .cell → y.1 ∈ own.map (·.1) ∨ y.1 ∉ N
/-- the slots of the block's own names forgotten -/
def wipe (σ : St) : List Nat → St
  | [] => σ
  | v :: vs => (wipe σ vs).set v none
theorem wipe_length (σ : St) : ∀ vs : List Nat, (wipe σ vs).length = σ.length
  | [] => rfl
  | v :: vs => by unfold wipe; rw [List.length_set, wipe_length σ vs]
theorem wipe_some {σ : St} {i : Nat} {x : V} : ∀ {vs : List Nat}, (wipe σ vs)[i]? = some (some x) → σ[i]? = some (some x) ∧ i ∉ vs
  | [], h => ⟨h, by simp⟩
  | v :: vs, h => by
    unfold wipe at h
    by_cases hi : v = i
    · subst hi
      by_cases hv : v < (wipe σ vs).length
      · rw [List.getElem?_set_self hv] at h; cases h
      · rw [List.getElem?_eq_none (by simpa using hv)] at h; cases h
    · rw [List.getElem?_set_ne hi] at h
      obtain ⟨h1, h2⟩ := wipe_some h
      exact ⟨h1, by simp only [List.mem_cons, not_or]; exact ⟨fun e => hi e.symm, h2⟩⟩

/-- the context of a block that starts at s, its iterator's objects at fp -/
abbrev Cx.blk (X : Cx) (s : Shared) (H : Hp) (scope : Scope) (cenv : Env) (fp : List Addr) : Cx := { X with s_0 := s, H_0 := H, env := cenv, outer := X.stack, ex := fp, fn := fun x => scope.names.lookup x == some .cell, pn := [], xe := fun _ _ => False }
section
variable {X : Cx} {pins : List (Addr × Obj)} {σ : St} {H : Hp} {s : Shared}
theorem block_start {scope : Scope} {own : List (Str × Nat)} {fp : List Addr} (I : Inv X pins σ H s) (ok : BlkOk X.N X.env.scope scope own) (hN : X.N.Nodup) (hfp : ∀ b ∈ fp, FpOk X pins H b ∧ b < s.heap.objs.size) :
    Inv (X.blk s H scope (compEnvC scope (cellsFrom (s.heap.objs.size + 1) scope.names (cloFrom X.env.cells scope.names [])) s.heap.objs.size X.env) fp) [] (wipe σ (own.map (·.2))) H { s with heap := pushCells (s.heap.push { cls := .type "dict", data := .dict #[] }) scope.names } := by
  have hfree : ∀ y ∈ scope.names, y.2 = .free → ∃ c, X.env.cells.lookup y.1 = some c := fun y hy e => by
    rcases ok.free y hy e with k | k
    · exact I.ok.has _ (.inl k)
    · exact I.ok.has _ (.inr k)
  generalize hcenv : compEnvC scope (cellsFrom (s.heap.objs.size + 1) scope.names (cloFrom X.env.cells scope.names [])) s.heap.objs.size X.env = cenv
  have kp : ∀ b o, s.heap.get? b = some o → (pushCells (s.heap.push { cls := .type "dict", data := .dict #[] }) scope.names).get? b = some o := fun b o e => pushCells_keeps _ _ _ _ (Heap.get?_push_of_some _ e)
  have hL : cenv.locals = s.heap.objs.size := by rw [← hcenv]; rfl
  have hcl : cenv.cells = cellsFrom (s.heap.objs.size + 1) scope.names (cloFrom X.env.cells scope.names []) := by rw [← hcenv]; rfl
  have hsc : cenv.scope = relS scope X.env.scope := by rw [← hcenv]; rfl
  rw [← Heap.size_push s.heap { cls := .type "dict", data := .dict #[] }] at hcl
  have cm : ∀ {y c}, (y, c) ∈ cloFrom X.env.cells scope.names [] → X.env.cells.lookup y = some c ∧ c < s.heap.objs.size := fun {y c} hm => by
    rcases cloFrom_mem hm with hm | ⟨h1, rfl⟩
    · cases hm
    · obtain ⟨c, hc⟩ := hfree _ h1 rfl
      rw [hc]
      obtain ⟨w, z⟩ := I.cell _ _ hc
      exact ⟨rfl, z.lt⟩
  have mem : ∀ {y c}, cenv.cells.lookup y = some c → (X.env.cells.lookup y = some c ∧ c < s.heap.objs.size) ∨ (s.heap.objs.size + 1 ≤ c ∧ CellAt (pushCells (s.heap.push { cls := .type "dict", data := .dict #[] }) scope.names) c none) := fun {y c} e => by
    rw [hcl] at e
    rcases cells_mem (PySem.mem_of_lookup e) with hm | ⟨_, h2, h3⟩
    · exact .inl (cm hm)
    · rw [Heap.size_push] at h2; exact .inr ⟨h2, h3⟩
  have look : ∀ {y}, scope.names.lookup y = some .free → ∃ c, cenv.cells.lookup y = some c ∧ X.env.cells.lookup y = some c := fun {y} hl => by
    have hy : (y, NameKind.free) ∈ scope.names := PySem.mem_of_lookup hl
    obtain ⟨c', e'⟩ := mem_lookup (cells_acc (names := scope.names) (n := (s.heap.push { cls := .type "dict", data := .dict #[] }).objs.size) (cloFrom_has (cells := X.env.cells) (acc := []) hy))
    rw [← hcl] at e'
    refine ⟨c', e', ?_⟩
    rw [hcl] at e'
    rcases cells_mem (PySem.mem_of_lookup e') with hm | ⟨h1, _, _⟩
    · exact (cm hm).1
    · have := ok.uniq _ h1
      rw [hl] at this; cases this
  have okB : (X.blk s H scope cenv fp).Ok := by
    refine ⟨I.ok.mod, by show cenv.scope.kind = _; rw [hsc]; exact ok.kind, by show cenv.globals = _; rw [← hcenv]; exact I.ok.glob, by show cenv.builtins = _; rw [← hcenv]; exact I.ok.blt, by show s.heap.objs.size ≤ cenv.locals; rw [hL]; exact Nat.le_refl _,
      fun y z c e1 e2 => ?_, fun y hy => ?_, fun y c z e => ?_, I.ok.hd, I.ok.frames, .inl rfl, fun b hb => ⟨?_, fun y c e z => ?_⟩, I.bs, Nat.le_trans I.ok.bsz I.sz, fun b o e hb => ?_, fun b hb z => ?_, I.stack, I.stkFree⟩
    · have e1 : cenv.cells.lookup y = some c := e1
      have e2 : cenv.cells.lookup z = some c := e2
      rw [hcl] at e1 e2
      refine cells_inj (fun p hp => ?_) (fun y z c a b => I.ok.inj y z c (cm a).1 (cm b).1) (PySem.mem_of_lookup e1) (PySem.mem_of_lookup e2)
      rw [Heap.size_push]
      exact Nat.lt_succ_of_lt (cm (y := p.1) (c := p.2) hp).2
    · show ∃ c, cenv.cells.lookup y = some c
      have key : ∀ k, cenv.kindOf y = some k → (k = .cell ∨ k = .free) → ∃ c, cenv.cells.lookup y = some c := fun k hk hk' => by
        unfold Env.kindOf at hk
        rw [hsc] at hk
        obtain ⟨k', e, r⟩ := lookup_relS hk
        have : k' = .cell ∨ k' = .free := by
          rcases r with rfl | ⟨rfl, _⟩
          · exact hk'
          · exact .inr rfl
        rcases this with rfl | rfl
        · obtain ⟨c, hm⟩ := cells_has (n := (s.heap.push { cls := .type "dict", data := .dict #[] }).objs.size) (acc := cloFrom X.env.cells scope.names []) (PySem.mem_of_lookup e)
          obtain ⟨c', e'⟩ := mem_lookup hm
          exact ⟨c', by rw [hcl]; exact e'⟩
        · obtain ⟨c, h1, _⟩ := look e
          exact ⟨c, h1⟩
      rcases hy with hy | hy
      · exact key _ hy (.inl rfl)
      · exact key _ hy (.inr rfl)
    · have z : (scope.names.lookup y == some NameKind.cell) = true := z
      have z : scope.names.lookup y = some .cell := by simpa using z
      have e : cenv.cells.lookup y = some c := e
      rw [hcl] at e
      rcases cells_mem (PySem.mem_of_lookup e) with hm | ⟨_, h2, _⟩
      · rcases cloFrom_mem hm with hm | ⟨h1, _⟩
        · cases hm
        · have q := ok.uniq _ h1
          rw [z] at q; cases q
      · rw [Heap.size_push] at h2
        exact Nat.le_of_succ_le h2
    · show b ≠ cenv.locals
      rw [hL]; exact Nat.ne_of_lt (hfp b hb).2
    · have e : cenv.cells.lookup y = some c := e
      rcases mem e with ⟨h1, _⟩ | ⟨h1, _⟩
      · exact (hfp b hb).1.2.2.2.2.1 y c h1 z
      · have h2 : s.heap.objs.size + 1 ≤ b := by rw [← z]; exact h1
        exact absurd (Nat.lt_of_lt_of_le (hfp b hb).2 (Nat.le_of_succ_le h2)) (Nat.lt_irrefl _)
    · rcases (hfp b hb).1.2.2.2.1 with z | z
      · exact I.ok.noex b o e z
      · exact absurd (Nat.lt_of_lt_of_le (Heap.lt_size e) (Nat.le_trans I.ok.bsz z)) (Nat.lt_irrefl _)
    · rcases List.mem_cons.mp (I.stkSub b z) with z | z
      · exact (hfp b hb).1.2.1 z
      · exact (hfp b hb).1.2.2.1 z
  refine ⟨okB, rfl, I.bare, Un.kept kp, ⟨fun _ => none, ?_, fun i y av e1 e2 e3 => ?_⟩, fun y c e => ?_, ?_, fun y c e => ?_, fun p hp => ?_, I.hok.kept kp, by rw [wipe_length]; exact I.len⟩
  · show Heap.Ns _ cenv.locals _
    rw [hL]
    exact Heap.Ns.keeps (Heap.Ns.new ..) fun b o e => pushCells_keeps _ _ _ _ e
  · obtain ⟨e2, hne⟩ := wipe_some e2
    have hfr : scope.names.lookup y = some .free ∧ (cenv.kindOf y = some .cell ∨ cenv.kindOf y = some .free) := by
      have key : ∀ k, cenv.scope.names.lookup y = some k → k = .local ∨ k = .cell ∨ k = .free → scope.names.lookup y = some .free ∧ (cenv.kindOf y = some .cell ∨ cenv.kindOf y = some .free) := fun k hk hk' => by
        have hk0 := hk
        rw [hsc] at hk
        obtain ⟨k', e, r⟩ := lookup_relS hk
        have no : ¬ (k' = .local ∨ k' = .cell) := fun hh => by
          rcases ok.own _ (PySem.mem_of_lookup e) hh with e' | e'
          · obtain ⟨p, hp, hpy⟩ := List.mem_map.mp e'
            have e3 := ok.ix p hp
            have : p.1 = y := hpy
            rw [this] at e3
            exact hne (List.mem_map.mpr ⟨p, hp, nodup_ix hN e3 e1⟩)
          · exact e' (List.mem_of_getElem? e1)
        rcases r with rfl | ⟨rfl, rfl⟩
        · rcases hk' with rfl | rfl | rfl
          · exact absurd (.inl rfl) no
          · exact absurd (.inr rfl) no
          · exact ⟨e, .inr hk0⟩
        · exact ⟨e, .inl hk0⟩
      have e3 : Vis cenv.scope y := e3
      rcases e3 with e3 | e3 | e3
      · exact key _ e3 (.inl rfl)
      · exact key _ e3 (.inr (.inl rfl))
      · exact key _ e3 (.inr (.inr rfl))
    obtain ⟨m, hn, hl⟩ := I.loc
    have hvis : Vis X.env.scope y := (ok.free _ (PySem.mem_of_lookup hfr.1) rfl).elim (fun k => .inr (.inl k)) (fun k => .inr (.inr k))
    obtain ⟨w, r, q⟩ := hl i y av e1 e2 hvis
    refine ⟨w, r, .inr ⟨hfr.2, ?_⟩⟩
    obtain ⟨c, h1, h2⟩ := look hfr.1
    rcases q with ⟨k, _⟩ | ⟨_, c', e', z⟩
    · have k : X.env.scope.names.lookup y = some .local := k
      rcases ok.free _ (PySem.mem_of_lookup hfr.1) rfl with k' | k' <;> rw [show X.env.scope.names.lookup y = _ from k'] at k <;> cases k
    · rw [h2] at e'; cases e'
      exact ⟨c, h1, z.keeps kp⟩
  · have e : cenv.cells.lookup y = some c := e
    rcases mem e with ⟨h1, _⟩ | ⟨_, z⟩
    · obtain ⟨w, z⟩ := I.cell y c h1
      exact ⟨w, z.keeps kp⟩
    · exact ⟨_, z⟩
  · show H cenv.locals = none
    rw [hL]; exact I.hok.fresh (Nat.le_refl _)
  · have e : cenv.cells.lookup y = some c := e
    rcases mem e with ⟨h1, _⟩ | ⟨h1, _⟩
    · exact I.freeC y c h1
    · exact I.hok.fresh (Nat.le_of_succ_le h1)
  · exact absurd (show p ∈ ([] : List (Addr × Obj)) ++ [] from hp) (by simp)

/-- an item appended to a tracked list -/
theorem app_ok {E : Value → Shared → Prop} {D : Addr} {xs : List V} {y : V} {v : Value} {Q : Value → Shared → Prop} (I : Inv X pins σ H s) (hD : H D = some (.lst xs)) (hz : xs.length < sizeLine) (r : RelV y v)
    (h : ∀ s', Inv X pins σ (upd H D (.lst (xs ++ [y]))) s' → Q .none s') : wpAny (model X.prog X.w) X.A (call (.builtin "list.append") [.ref D, v]) Q E s := by
  obtain ⟨hz', its, n, ri, e⟩ := I.hok D _ hD
  have hl := ri.length
  refine append_at (hsz := by rw [List.size_toArray]; omega) e fun h' sb ho' => ?_
  refine h { s with heap := h' } (I.write (t' := s.toks) (by rw [hD]; trivial) (.inl rfl) (fun b u hb q => (sb.2 b hb).trans q) ⟨_, ho'⟩ ⟨by rw [List.length_append]; exact hz, its ++ [v], n + 1, ri.append (.cons r .nil), ?_⟩)
  rw [ho']
  simp

/-- a clause's tests -/
def PTs (X : Cx) (ifs : List Expr) (t : TT) : Prop :=
  ∀ (pins : List (Addr × Obj)) (s : Shared) (σ : St) (H : Hp) (Q : Bool → Hp → Prop), Inv X pins σ H s → t σ H Q →
    wpAny (model X.prog X.w) X.A (forIn ifs true fun c r => if r = true then do let ok ← isTrue c X.env (eval c X.env); pure (ForInStep.yield ok) else pure (ForInStep.yield r)) (TP X pins σ Q) X.xe s
def tYes : TT := fun _ H Q => Q true H
theorem pts_nil : PTs X [] tYes := fun _ _ _ H _ I h => wpAny_tests_nil ⟨H, I, h⟩
theorem pts_one {c : Expr} {t : TT} (h : PT X c t) : PTs X [c] t := fun pins s σ H Q I hw => wpAny_tests_one (h pins s σ H Q I hw)
end

theorem thnF {α : Type} {t : Sem α} {Q Q' : α → Shared → Prop} {M : Model} {A : Around} {E : Value → Shared → Prop} {s : Shared} (h : wpAny M A t Q (fun _ _ => False) s) (hQ : ∀ a s, Q a s → Q' a s) : wpAny M A t Q' E s := wpAny_mono h hQ fun _ _ z => False.elim z

/-- the loop of a list comprehension's block, the target of any form (codeAny_compLoop_tests asks a target that no tuple goes to; statement and proof follow it, PyProof/CompMap.lean:41-61, with the step letOwnedTupleGo kept) -/
theorem compLoop_any {prog : Program} {w : World} {A : Around} {R : Result → Shared → Prop} {s : Shared} {elt target iter : Expr} {ifs : List Expr} {scope : Scope} {pos : Pos} {it acc : Value} {env : Env} (I : Nat → Shared → Prop)
    (turn : ∀ n s, I n s → wpAny (model prog w) A (pyNext it) (fun r s₁ => match r with
      | none => R (.ok .next) s₁
      | some v => wpAny (model prog w) A (letOwnedTupleGo target it v) (fun _ s₁' => wpAny (model prog w) A (assign target env v) (fun _ s₂ =>
          wpAny (model prog w) A (forIn ifs true fun c r => if r = true then do let ok ← isTrue c env (eval c env); pure (ForInStep.yield ok) else pure (ForInStep.yield r)) (fun ok s₃ =>
            if ok = true then wpAny (model prog w) A (eval elt env) (fun x s₄ =>
              wpAny (model prog w) A (call (.builtin "list.append") [acc, x]) (fun _ s₅ => ∃ m, m < n ∧ I m s₅) (notedBy (model prog w) A env fun e s' => R (.error e) s') s₄) (notedBy (model prog w) A env fun e s' => R (.error e) s') s₃
            else ∃ m, m < n ∧ I m s₃) (notedBy (model prog w) A env fun e s' => R (.error e) s') s₂) (notedBy (model prog w) A env fun e s' => R (.error e) s') s₁') (notedBy (model prog w) A env fun e s' => R (.error e) s') s₁) (notedBy (model prog w) A env fun e s' => R (.error e) s') s)
    (n : Nat) (h : I n s) :
    codeAny (model prog w) A (.compLoop (.ListComp elt [⟨target, iter, ifs, 0⟩] scope pos) 0 it acc env) R s := by
  refine codeAny_loop rfl I (fun n s hI => ?_) n h
  show wpAny _ A ((compTurn (.ListComp elt [⟨target, iter, ifs, 0⟩] scope pos) 0 it acc env).onRaise (fun x => do noteFrame x env; theTreesLotGoes x)) _ _ s
  refine wpAny_noted ?_
  rw [compTurn_list]
  refine wpAny_bind (wpAny_standAt (wpAny_bind (wpAny_mono (turn n s hI) (fun r s₁ h₁ => ?_) fun _ _ h' => h')))
  cases r with
  | none => exact wpAny_pure h₁
  | some v =>
    refine wpAny_bind (wpAny_mono h₁ (fun _ s₁' h₁' => ?_) fun _ _ h' => h')
    refine wpAny_bind (wpAny_mono h₁' (fun _ s₂ h₂ => wpAny_bind (wpAny_mono h₂ (fun ok s₃ h₃ => ?_) fun _ _ h' => h')) fun _ _ h' => h')
    cases ok with
    | false => exact wpAny_pure ⟨rfl, h₃⟩
    | true =>
      exact wpAny_bind (wpAny_bind (wpAny_mono h₃ (fun x s₄ h₄ => wpAny_bind (wpAny_mono h₄ (fun _ s₅ h₅ => wpAny_pure (wpAny_pure ⟨rfl, h₅⟩)) fun _ _ h' => h')) fun _ _ h' => h'))

section
variable {X : Cx}
/-- [elt for target in iter if ..]: D the new list; W by the turn and a measure, Nx what a turn is to reach -/
def tLc (wi : TI) (g : TG) (tt : TT) (te : TE) (vs : List Nat) : TE := fun σ H Q => wi σ H fun J H1 => ∀ D, H1 D = none → ∃ W : Nat → Nat → Hp → Prop, (∃ m, W 0 m (upd H1 D (.lst []))) ∧ ∀ i m H, W i m H →
  (J.stop i H ∧ Q (.ref D) H) ∨ (J.go i H ∧ ∃ Nx : Hp → Prop, (∀ H', Nx H' → ∃ m', m' < m ∧ W (i + 1) m' H') ∧ ∀ x H', J.yld i H x H' → g x (wipe σ vs) H' fun σ2 H2 => wipe σ2 vs = wipe σ vs ∧ tt σ2 H2 fun b H3 =>
    if b = true then te σ2 H3 fun y H4 => ∃ acc, H4 D = some (.lst acc) ∧ acc.length < sizeLine ∧ Nx (upd H4 D (.lst (acc ++ [y]))) else Nx H3)
theorem lc_core {pins : List (Addr × Obj)} {s : Shared} {σ : St} {H : Hp} {Q : VK} {elt tg iter : Expr} {ifs : List Expr} {scope : Scope} {own : List (Str × Nat)} {pos pos' : Pos} {wi : TI} {g : TG} {tt : TT} {te : TE} {use : Option (Value → Sem Unit)} {Qf : Value → Shared → Prop}
    (hc : X.calm = true) (hN : X.N.Nodup) (I : Inv X pins σ H s) (hi : PI X tg iter wi) (ok : BlkOk X.N X.env.scope scope own)
    (hg : ∀ (s : Shared) (H : Hp) (C : Addr) (cl : List (Str × Addr)) (fp : List Addr), PG (X.blk s H scope (compEnvC scope cl C X.env) fp) tg g) (ht : ∀ (s : Shared) (H : Hp) (C : Addr) (cl : List (Str × Addr)) (fp : List Addr), PTs (X.blk s H scope (compEnvC scope cl C X.env) fp) ifs tt)
    (he : ∀ (s : Shared) (H : Hp) (C : Addr) (cl : List (Str × Addr)) (fp : List Addr), PE (X.blk s H scope (compEnvC scope cl C X.env) fp) elt te) (hs : ∀ x, foldedSetIterable iter X.env x = pure x)
    (h : tLc wi g tt te (own.map (·.2)) σ H Q)
    (hRR : ∀ D C s' m H', Inv X pins σ H' s' → Q (.ref D) H' → s'.heap.Ns C m → FpOk X pins H' C → compPost (model X.prog X.w) X.A X.xe use Qf (.ref D) C (.ok .next) s') :
    wpAny (model X.prog X.w) X.A (comprehension (.ListComp elt [⟨tg, iter, ifs, 0⟩] scope pos) scope X.env pos' (newList []) false (eval iter X.env) use) Qf X.xe s := by
  have hfree : ∀ y ∈ scope.names, y.2 = .free → ∃ c, X.env.cells.lookup y.1 = some c := fun y hy e => by
    rcases ok.free y hy e with k | k
    · exact I.ok.has _ (.inl k)
    · exact I.ok.has _ (.inr k)
  refine wpAny_comprehension_free (use := use) rfl hs (closure_ok hfree) ok.kind (fun y hy e => by rw [ok.uniq y hy, e])
    (thn (hi pins s σ H _ I h) fun xv s1 hx => thn hx fun itv s2 h2 => ?_)
  obtain ⟨it, fp, tn, J, H2, e, I2, T, st2, f2, q⟩ := h2
  subst e
  refine wpAny_newObj_type (newEnv_comp ?_) (by show 0 ≤ sizeLine; decide)
  generalize hD : s2.heap.objs.size = D
  have hDn : H2 D = none := I2.hok.fresh (Nat.le_of_eq hD)
  obtain ⟨W, ⟨m0, w0⟩, turn⟩ := q D hDn
  -- the new list
  generalize hs3 : ({ s2 with heap := s2.heap.push { cls := .type "list", data := .seq ([] : List Value).toArray } } : Shared) = s3
  have I3 : Inv X pins σ (upd H2 D (.lst [])) s3 := by
    rw [← hs3]
    refine I2.laid (t' := s2.toks) (fun b o e => Heap.get?_push_of_some _ e) (Nat.le_of_eq hD) ⟨Nat.zero_le _, [], 0, .nil, ?_⟩
    rw [← hD]
    exact Heap.get?_push_size _ rfl
  have h3 : s3.heap = s2.heap.push { cls := .type "list", data := .seq ([] : List Value).toArray } := by rw [← hs3]
  have sz : ∀ b ∈ fp, b < s2.heap.objs.size := fun b hb => by
    obtain ⟨o, e, _⟩ := T.obj _ _ st2 b hb
    exact Heap.lt_size e
  have f3 : ∀ b ∈ fp, FpOk X pins (upd H2 D (.lst [])) b ∧ b < s3.heap.objs.size := fun b hb => by
    have hlt := sz b hb
    refine ⟨⟨?_, (f2 b hb).2⟩, by rw [h3, Heap.size_push]; exact Nat.lt_succ_of_lt hlt⟩
    rw [upd_ne (by rw [← hD]; exact Nat.ne_of_lt hlt)]
    exact (f2 b hb).1
  have st3 : tn 0 s3.heap := T.keep _ _ _ st2 fun b _ o e => by rw [h3]; exact Heap.get?_push_of_some _ e
  have I4 := block_start I3 ok hN f3
  have pg := hg s3 (upd H2 D (.lst [])) s3.heap.objs.size (cellsFrom (s3.heap.objs.size + 1) scope.names (cloFrom X.env.cells scope.names [])) fp
  have pt := ht s3 (upd H2 D (.lst [])) s3.heap.objs.size (cellsFrom (s3.heap.objs.size + 1) scope.names (cloFrom X.env.cells scope.names [])) fp
  have pe := he s3 (upd H2 D (.lst [])) s3.heap.objs.size (cellsFrom (s3.heap.objs.size + 1) scope.names (cloFrom X.env.cells scope.names [])) fp
  show codeAny _ _ (.compStart (.ListComp elt [⟨tg, iter, ifs, 0⟩] scope pos) 0 (.ref it) (.ref D) (compEnvC scope (cellsFrom (s3.heap.objs.size + 1) scope.names (cloFrom X.env.cells scope.names [])) s3.heap.objs.size X.env)) (compPost (model X.prog X.w) X.A X.xe use Qf (.ref D) s3.heap.objs.size) { s3 with heap := pushCells (s3.heap.push { cls := .type "dict", data := .dict #[] }) scope.names }
  have nfp : ∀ b ∈ fp, (upd H2 D (.lst [])) b = none := fun b hb => (f3 b hb).1.1
  generalize hce : compEnvC scope (cellsFrom (s3.heap.objs.size + 1) scope.names (cloFrom X.env.cells scope.names [])) s3.heap.objs.size X.env = ce at I4 pg pt pe ⊢
  have cL : ce.locals = s3.heap.objs.size := by subst hce; rfl
  generalize hH3 : upd H2 D (.lst []) = H3 at I3 I4 pg pt pe w0 nfp f3
  generalize hs4 : ({ s3 with heap := pushCells (s3.heap.push { cls := .type "dict", data := .dict #[] }) scope.names } : Shared) = s4 at I4 ⊢
  have st4 : tn 0 s4.heap := T.keep _ _ _ st3 fun b _ o e => by rw [← hs4]; exact pushCells_keeps _ _ _ _ (Heap.get?_push_of_some _ e)
  have stat : ∀ {σ' : St} {H' : Hp} {s' : Shared}, Inv (X.blk s3 H3 scope ce fp) [] σ' H' s' → (∀ b ∈ fp, H' b = none) → ∀ b ∈ fp, FpOk (X.blk s3 H3 scope ce fp) [] H' b := fun {σ' H' s'} I' hn b hb =>
    ⟨hn b hb, (I'.ok.exf b hb).1, I'.ok.exfs b hb, .inl hb, fun x c e => (I'.ok.exf b hb).2 x c e, fun p hp => absurd (show p ∈ ([] : List (Addr × Obj)) ++ [] from hp) (by simp)⟩
  have loop : codeAny (model X.prog X.w) X.A (.compLoop (.ListComp elt [⟨tg, iter, ifs, 0⟩] scope pos) 0 (.ref it) (.ref D) ce) (compPost (model X.prog X.w) X.A X.xe use Qf (.ref D) s3.heap.objs.size) s4 := by
    refine compLoop_any (fun n s' => ∃ i H', Inv (X.blk s3 H3 scope ce fp) [] (wipe σ (own.map (·.2))) H' s' ∧ tn i s'.heap ∧ (∀ b ∈ fp, H' b = none) ∧ W i n H') ?_ m0 ⟨0, H3, I4, st4, nfp, w0⟩
    rintro n s5 ⟨i, H5, I5, st5, n5, w5⟩
    rcases turn i n H5 w5 with ⟨stop, qq⟩ | ⟨go, Nx, hNx, step⟩
    · have td := T.done (X.blk s3 H3 scope ce fp) rfl rfl rfl hc i [] s5 _ H5 (fun _ _ => False) I5 (stat I5 n5) st5 stop
      refine thnF td fun r s6 ⟨hr, I6⟩ => ?_
      subst hr
      -- back in the def's context
      have I7 : Inv X pins σ H5 s6 := I3.call' (ch := fp) I6.os I6.base I6.hok I6.bare fun b hb => ⟨(f3 b hb).1.2.2.2.1, (f3 b hb).1.2.1, (f3 b hb).1.2.2.2.2.1, (f3 b hb).1.2.2.2.2.2⟩
      have nC : H5 s3.heap.objs.size = none := by
        have z : H5 ce.locals = none := I6.free
        rw [cL] at z
        exact z
      obtain ⟨m, hn, _⟩ := I6.loc
      have hn : s6.heap.Ns ce.locals m := hn
      rw [cL] at hn
      exact hRR D s3.heap.objs.size s6 m H5 I7 qq hn (I3.fpOk (Nat.le_refl _) nC)
    · have ti := T.item (X.blk s3 H3 scope ce fp) rfl rfl rfl hc i [] s5 _ H5 (fun _ _ => False) I5 (stat I5 n5) st5 go
      refine thnF ti fun r s6 ⟨u, hr, h6⟩ => ?_
      subst hr
      refine thnF h6 fun _ s7 ⟨x, H7, I7, r7, y7, st7, n7⟩ => ?_
      have I7' := I7.pinned (stat I7 n7) (T.obj _ _ st7)
      refine thnF (pg _ s7 _ H7 x u _ I7' r7 (step x H7 y7)) fun _ s8 ⟨σ8, H8, I8, hw8, q8⟩ => ?_
      refine thnF (pt _ s8 σ8 H8 _ I8 q8) fun b s9 ⟨H9, I9, q9⟩ => ?_
      -- the turn's end
      have fin : ∀ {s' : Shared} {H' : Hp}, Inv (X.blk s3 H3 scope ce fp) ([] ++ pinsAt fp s7.heap) σ8 H' s' → Nx H' → ∃ m, m < n ∧ ∃ i H', Inv (X.blk s3 H3 scope ce fp) [] (wipe σ (own.map (·.2))) H' s' ∧ tn i s'.heap ∧ (∀ b ∈ fp, H' b = none) ∧ W i m H' := fun {s' H'} I' nx => by
        obtain ⟨m', hm, w'⟩ := hNx H' nx
        have pin' : ∀ b ∈ fp, ∀ o, s7.heap.get? b = some o → s'.heap.get? b = some o ∧ H' b = none := fun b hb o e =>
          let z := I'.pin (b, o) (List.mem_append_right _ (List.mem_append_right _ (mem_pinsAt hb e)))
          ⟨z.1, z.2.1⟩
        have hl : (wipe σ (own.map (·.2))).length = σ8.length := by rw [← hw8, wipe_length]
        refine ⟨m', hm, i + 1, H', (I'.unpinned (pins := [])).weak hl (fun j v e => ?_), T.keep _ _ _ st7 fun b hb o e => (pin' b hb o e).1, fun b hb => ?_, w'⟩
        · rw [← hw8] at e
          exact (wipe_some e).1
        · obtain ⟨o, e, _⟩ := T.obj _ _ st7 b hb
          exact (pin' b hb o e).2
      cases b with
      | false =>
        simp only [Bool.false_eq_true, if_false] at q9 ⊢
        exact fin I9 q9
      | true =>
        simp only [if_true] at q9 ⊢
        refine thnF (pe _ s9 σ8 H9 _ I9 q9) fun z s10 ⟨yv, H10, I10, r10, acc, hD10, hz10, nx⟩ => ?_
        exact app_ok (X := X.blk s3 H3 scope ce fp) I10 hD10 hz10 r10 fun s11 I11 => fin I11 nx
  exact codeAny_compStart_list loop (T.self X.A 0 _ _ _ st4 loop)
/-- as a value -/
theorem pe_lc {elt tg iter : Expr} {ifs : List Expr} {scope : Scope} {own : List (Str × Nat)} {pos : Pos} {wi : TI} {g : TG} {tt : TT} {te : TE} (hc : X.calm = true) (hN : X.N.Nodup) (hi : PI X tg iter wi) (ok : BlkOk X.N X.env.scope scope own)
    (hg : ∀ (s : Shared) (H : Hp) (C : Addr) (cl : List (Str × Addr)) (fp : List Addr), PG (X.blk s H scope (compEnvC scope cl C X.env) fp) tg g) (ht : ∀ (s : Shared) (H : Hp) (C : Addr) (cl : List (Str × Addr)) (fp : List Addr), PTs (X.blk s H scope (compEnvC scope cl C X.env) fp) ifs tt)
    (he : ∀ (s : Shared) (H : Hp) (C : Addr) (cl : List (Str × Addr)) (fp : List Addr), PE (X.blk s H scope (compEnvC scope cl C X.env) fp) elt te) (hs : ∀ x, foldedSetIterable iter X.env x = pure x := by intro _; rfl) :
    PE X (.ListComp elt [⟨tg, iter, ifs, 0⟩] scope pos) (tLc wi g tt te (own.map (·.2))) := by
  intro pins s σ H Q I h
  rw [eval_ListComp]
  refine lc_core hc hN I hi ok hg ht he hs h fun D C s' m H' I' q hn f => ⟨m, hn, fun h'' sb => ?_⟩
  obtain ⟨f0, f1, f2, f3, f4, f5⟩ := f
  exact ⟨.ref D, H', I'.turned (t' := s'.toks) (fun b o hb e => (sb.2 b hb).trans e) f0 f1 f3 f4 f5, rfl, q⟩
/-- name = [..] on one line, the name a local -/
theorem ps_setLc {i : Nat} {y : Str} {py : Pos} {elt tg iter : Expr} {ifs : List Expr} {scope : Scope} {own : List (Str × Nat)} {pos spos : Pos} {wi : TI} {g : TG} {tt : TT} {te : TE} (hc : X.calm = true) (hN : X.N.Nodup) (hy : X.N[i]? = some y) (hyl : X.env.scope.names.lookup y = some .local)
    (hsw : swapsWith (.ListComp elt [⟨tg, iter, ifs, 0⟩] scope pos) (some (.Name y py)) spos.line X.env = pure true) (hi : PI X tg iter wi) (ok : BlkOk X.N X.env.scope scope own)
    (hg : ∀ (s : Shared) (H : Hp) (C : Addr) (cl : List (Str × Addr)) (fp : List Addr), PG (X.blk s H scope (compEnvC scope cl C X.env) fp) tg g) (ht : ∀ (s : Shared) (H : Hp) (C : Addr) (cl : List (Str × Addr)) (fp : List Addr), PTs (X.blk s H scope (compEnvC scope cl C X.env) fp) ifs tt)
    (he : ∀ (s : Shared) (H : Hp) (C : Addr) (cl : List (Str × Addr)) (fp : List Addr), PE (X.blk s H scope (compEnvC scope cl C X.env) fp) elt te) (hs : ∀ x, foldedSetIterable iter X.env x = pure x := by intro _; rfl) :
    PS X (.Assign [.Name y py] (.ListComp elt [⟨tg, iter, ifs, 0⟩] scope pos) spos) (tAsg (tLc wi g tt te (own.map (·.2))) (gName i)) := by
  intro pins s σ H D I h
  rw [exec_Assign_Name_used _ _ _ _ hsw]
  refine wpAny_bind (wpAny_standAt (wpAny_bind ?_))
  show wpAny _ X.A (do let _ ← comprehension (.ListComp elt [⟨tg, iter, ifs, 0⟩] scope pos) scope X.env (firstIterPos [⟨tg, iter, ifs, 0⟩] pos) (newList []) false (eval iter X.env) (some (assign (.Name y py) X.env))) _ _ s
  have h : tLc wi g tt te (own.map (·.2)) σ H (fun x H1 => gName i x σ H1 D.nx) := h
  refine wpAny_bind (thn (lc_core (Qf := fun _ s' => SP X pins D .next s') hc hN I hi ok hg ht he hs h fun L C s' m H' I' q hn f => ?_) fun _ s' hq => wpAny_pure (wpAny_pure hq))
  show wpAny _ _ (assign (.Name y py) X.env (.ref L)) _ _ _
  refine wpAny_assign_Name (store_ok2 (v := V.ref L) I' hN hy (.inl hyl) rfl (fun s2 I2 ⟨a, sb, ha⟩ => ?_) (.inr hyl))
  obtain ⟨f0, f1, f2, f3, f4, f5⟩ := f
  have haC : C ≠ a := by
    rcases ha with z | z
    · rw [z]; exact f1
    · exact fun e => f4 y a z e.symm
  refine ⟨m, hn.sameBut sb haC, fun h3 sb3 => ?_⟩
  exact ⟨_, H', I2.turned (t' := s2.toks) (fun b o hb e => (sb3.2 b hb).trans e) f0 f1 f3 f4 f5, q⟩
theorem sw_true {elt : Expr} {gs : List Comprehension} {scope : Scope} {pos py : Pos} {y : Str} {l : Nat} {env : Env} (hk : env.scope.kind = .function) (hy : env.scope.names.lookup y = some .local) (hl : (py.line == pos.line) = true)
    (ha : (scope.names.any fun (n, k) => n == y && (k == .local || k == .cell)) = false) : swapsWith (.ListComp elt gs scope pos) (some (.Name y py)) l env = pure true := by
  have ky : env.kindOf y = some .local := hy
  have hb : env.blockKind = .function := by unfold Env.blockKind; rw [hk]; rfl
  unfold swapsWith
  simp only [hb, ky, ha, Expr.pos, hl]
  rfl
end

def blkC (N : List Str) (sc scope : Scope) (own : List (Str × Nat)) : Bool :=
  (match scope.kind with | .function => true | _ => false) && (scope.names.all fun y => decide (scope.names.lookup y.1 = some y.2)) && (own.all fun p => decide (N[p.2]? = some p.1)) &&
    (scope.names.all fun y => match y.2 with
      | .free => (match sc.names.lookup y.1 with | some .cell => true | some .free => true | _ => false)
      | .local => decide (y.1 ∈ own.map (·.1)) || decide (y.1 ∉ N)
      | .cell => decide (y.1 ∈ own.map (·.1)) || decide (y.1 ∉ N)
      | _ => true)
theorem blkOk_by {N : List Str} {sc scope : Scope} {own : List (Str × Nat)} (h : blkC N sc scope own = true) : BlkOk N sc scope own := by
  unfold blkC at h
  simp only [Bool.and_eq_true, List.all_eq_true, decide_eq_true_eq] at h
  obtain ⟨⟨⟨h1, h2⟩, h3⟩, h4⟩ := h
  refine ⟨?_, h2, h3, fun y hy e => ?_, fun y hy e => ?_⟩
  · split at h1
    · assumption
    · cases h1
  · have q := h4 y hy
    simp only [e] at q
    split at q <;> first | exact .inl (by assumption) | exact .inr (by assumption) | cases q
  · have q := h4 y hy
    rcases e with e | e <;> (simp only [e, Bool.or_eq_true, decide_eq_true_eq] at q; exact q)
end L2

namespace L2
open PySem PySem.Spec PyProof.Rows

section
variable {prog : Program} {w : World} {A : Around} {R : Result → Shared → Prop} {s : Shared} {elt t0 i0 t1 i1 : Expr} {ifs0 ifs1 : List Expr} {scope : Scope} {pos : Pos} {it acc : Value} {env : Env}
end

section
variable {X : Cx}
end
end L2

namespace L2
open PySem PySem.Spec PyProof.Rows

section
variable {κ : Type} [DecidableEq κ]
def valV (kvs : List (κ × V)) (k : κ) : Option V := (kvs.find? fun kv => decide (kv.1 = k)).map (·.2)
/-- in its place, or at the end -/
def putK (kvs : List (κ × V)) (k : κ) (v : V) : List (κ × V) :=
  if (kvs.any fun kv => decide (kv.1 = k)) = true then kvs.map (fun kv => if kv.1 = k then (kv.1, v) else kv) else kvs ++ [(k, v)]
def dropK (kvs : List (κ × V)) (k : κ) : List (κ × V) := kvs.filter fun kv => decide (kv.1 ≠ k)

theorem valV_pos {p : κ × V} {r : List (κ × V)} {k : κ} (e : p.1 = k) : valV (p :: r) k = some p.2 := by simp [valV, List.find?_cons, e]
theorem valV_neg {p : κ × V} {r : List (κ × V)} {k : κ} (e : ¬ p.1 = k) : valV (p :: r) k = valV r k := by simp [valV, List.find?_cons, e]
theorem valV_any (k : κ) : ∀ kvs : List (κ × V), (kvs.any fun kv => decide (kv.1 = k)) = (valV kvs k).isSome
  | [] => rfl
  | p :: r => by
    rw [List.any_cons]
    by_cases e : p.1 = k
    · simp only [valV_pos e, decide_eq_true e, Bool.true_or, Option.isSome_some]
    · rw [valV_neg e, decide_eq_false e, Bool.false_or]; exact valV_any k r
theorem length_putK (kvs : List (κ × V)) (k : κ) (v : V) : (putK kvs k v).length ≤ kvs.length + 1 := by
  unfold putK
  split
  · rw [List.length_map]; omega
  · rw [List.length_append, List.length_cons, List.length_nil]; omega
theorem RelO.isSome_eq {o : Option V} {u : Option Value} (r : RelO o u) : o.isSome = u.isSome := by
  cases o with
  | none => cases u with
    | none => rfl
    | some _ => exact (show False from r).elim
  | some _ => cases u with
    | none => exact (show False from r).elim
    | some _ => rfl
theorem RelO.getD {o : Option V} {u : Option Value} {d : V} {d' : Value} (r : RelO o u) (rd : RelV d d') : RelV (o.getD d) (u.getD d') := by
  cases o with
  | none => cases u with
    | none => exact rd
    | some _ => exact (show False from r).elim
  | some _ => cases u with
    | none => exact (show False from r).elim
    | some _ => exact r

/-- raw tables of the same keys -/
theorem KV.val {kvs : List (κ × V)} {vs : List (κ × Value)} (r : KV kvs vs) (k : κ) : RelO (valV kvs k) (valueAt vs k) := by
  unfold KV at r
  induction r with
  | nil => exact True.intro
  | @cons p q ps qs h t ih =>
    obtain ⟨h1, h2⟩ := h
    by_cases e : p.1 = k
    · have e' : q.1 = k := h1.symm.trans e
      have b : valueAt (q :: qs) k = some q.2 := by simp [valueAt, List.find?_cons, e']
      rw [valV_pos e, b]; exact h2
    · have e' : ¬ q.1 = k := fun z => e (h1.trans z)
      have b : valueAt (q :: qs) k = valueAt qs k := by simp [valueAt, List.find?_cons, e']
      rw [valV_neg e, b]; exact ih
theorem KV.any {kvs : List (κ × V)} {vs : List (κ × Value)} (r : KV kvs vs) (k : κ) : (kvs.any fun kv => decide (kv.1 = k)) = vs.any fun kv => decide (kv.1 = k) := by
  unfold KV at r
  induction r with
  | nil => rfl
  | cons h t ih => rw [List.any_cons, List.any_cons, ih, h.1]
theorem KV.repl {kvs : List (κ × V)} {vs : List (κ × Value)} (r : KV kvs vs) (k : κ) {y : V} {u : Value} (ry : RelV y u) :
    KV (kvs.map fun kv => if kv.1 = k then (kv.1, y) else kv) (vs.map fun kv => if kv.1 = k then (kv.1, u) else kv) := by
  unfold KV at r ⊢
  induction r with
  | nil => exact .nil
  | @cons p q ps qs h t ih =>
    rw [List.map_cons, List.map_cons]
    refine .cons ?_ ih
    obtain ⟨h1, h2⟩ := h
    by_cases e : p.1 = k
    · rw [if_pos e, if_pos (h1.symm.trans e)]; exact ⟨h1, ry⟩
    · rw [if_neg e, if_neg (fun z => e (h1.trans z))]; exact ⟨h1, h2⟩
theorem KV.put {kvs : List (κ × V)} {vs : List (κ × Value)} (r : KV kvs vs) (k : κ) {y : V} {u : Value} (ry : RelV y u) : KV (putK kvs k y) (stored vs k u) := by
  unfold putK stored
  rw [r.any k]
  by_cases e : (vs.any fun kv => decide (kv.1 = k)) = true
  · rw [if_pos e, if_pos e]; exact r.repl k ry
  · rw [if_neg e, if_neg e]; exact Paired.snoc r ⟨rfl, ry⟩
theorem KV.drop {kvs : List (κ × V)} {vs : List (κ × Value)} (r : KV kvs vs) (k : κ) : KV (dropK kvs k) (without vs k) := by
  unfold KV at r ⊢
  unfold dropK without
  induction r with
  | nil => exact .nil
  | @cons p q ps qs h t ih =>
    obtain ⟨h1, h2⟩ := h
    rw [List.filter_cons, List.filter_cons]
    by_cases e : p.1 = k
    · have a : ¬ decide (p.1 ≠ k) = true := by simp [e]
      have b : ¬ decide (q.1 ≠ k) = true := by simp [h1.symm.trans e]
      rw [if_neg a, if_neg b]; exact ih
    · have e' : ¬ q.1 = k := fun z => e (h1.trans z)
      have a : decide (p.1 ≠ k) = true := by simp [e]
      have b : decide (q.1 ≠ k) = true := by simp [e']
      rw [if_pos a, if_pos b]; exact .cons ⟨h1, h2⟩ ih
theorem KV.keys {kvs : List (κ × V)} {vs : List (κ × Value)} (r : KV kvs vs) : kvs.map (·.1) = vs.map (·.1) := by
  unfold KV at r
  induction r with
  | nil => rfl
  | cons h t ih => rw [List.map_cons, List.map_cons, ih, h.1]
theorem KV.length {kvs : List (κ × V)} {vs : List (κ × Value)} (r : KV kvs vs) : kvs.length = vs.length := Paired.length r
end


theorem kV_is {P : Program} {w : World} {k : Key} {u : Value} (r : RelV (kV k) u) : (mixKind P w).is k u = true := by
  cases k with
  | inl i => obtain ⟨t, e⟩ := (show ∃ t, u = Value.int i t from r); subst e; exact mixKind_int P w i t
  | inr x => obtain ⟨t, e⟩ := (show ∃ t, u = Value.str x t from r); subst e; exact mixKind_str P w x t
theorem items_are {P : Program} {w : World} : ∀ {ks : List Key} {us : List Value}, Vals (ks.map kV) us → ItemsAre (mixKind P w) ks us
  | [], _, r => by rw [List.map_nil] at r; cases r; exact .nil
  | k :: ks, _, r => by
    rw [List.map_cons] at r
    cases r with
    | cons h t => exact .cons (kV_is h) (items_are t)

/-- raw entries of a dict with tuple keys -/
abbrev KT (H : Hp) : List (List Key × V) → List (List Key × Addr × Value) → Prop := Paired fun p q => p.1 = q.1 ∧ H q.2.1 = some (.tup (p.1.map kV)) ∧ RelV p.2 q.2.2
theorem KT.val {H : Hp} {kvs : List (List Key × V)} {xs : List (List Key × Addr × Value)} (r : KT H kvs xs) (k : List Key) : RelO (valV kvs k) ((atKey xs k).map (·.2)) := by
  induction r with
  | nil => exact True.intro
  | @cons p q ps qs h t ih =>
    obtain ⟨h1, _, h2⟩ := h
    by_cases e : p.1 = k
    · have e' : q.1 = k := h1.symm.trans e
      have b : atKey (q :: qs) k = some q.2 := by simp [atKey, List.find?_cons, e']
      rw [valV_pos e, b]; exact h2
    · have e' : ¬ q.1 = k := fun z => e (h1.trans z)
      have b : atKey (q :: qs) k = atKey qs k := by simp [atKey, List.find?_cons, e']
      rw [valV_neg e, b]; exact ih
theorem KT.repl {H : Hp} {kvs : List (List Key × V)} {xs : List (List Key × Addr × Value)} (r : KT H kvs xs) (k : List Key) {y : V} {u : Value} (ry : RelV y u) :
    KT H (kvs.map fun kv => if kv.1 = k then (kv.1, y) else kv) (xs.map (putAt k u)) := by
  induction r with
  | nil => exact .nil
  | @cons p q ps qs h t ih =>
    rw [List.map_cons, List.map_cons]
    refine .cons ?_ ih
    obtain ⟨h1, h2, h3⟩ := h
    unfold putAt
    by_cases e : p.1 = k
    · rw [if_pos e, if_pos (h1.symm.trans e)]; exact ⟨h1, h2, ry⟩
    · rw [if_neg e, if_neg (fun z => e (h1.trans z))]; exact ⟨h1, h2, h3⟩
theorem KT.put {H : Hp} {kvs : List (List Key × V)} {xs : List (List Key × Addr × Value)} (r : KT H kvs xs) (k : List Key) {b : Addr} {y : V} {u : Value} (hb : H b = some (.tup (k.map kV))) (ry : RelV y u) :
    KT H (putK kvs k y) (storedH xs k b u) := by
  have e : (kvs.any fun kv => decide (kv.1 = k)) = (atKey xs k).isSome := by
    rw [valV_any, (r.val k).isSome_eq, Option.isSome_map]
  unfold putK storedH
  rw [e]
  by_cases q : (atKey xs k).isSome = true
  · rw [if_pos q, if_pos q]; exact r.repl k ry
  · rw [if_neg q, if_neg q]; exact Paired.snoc r ⟨rfl, hb, ry⟩
theorem KT.keeps {H H' : Hp} {kvs : List (List Key × V)} {xs : List (List Key × Addr × Value)} (r : KT H kvs xs) (ht : ∀ b ys, H b = some (.tup ys) → H' b = some (.tup ys)) : KT H' kvs xs :=
  Paired.mapP r fun _ _ z => ⟨z.1, ht _ _ z.2.1, z.2.2⟩

section
variable {P : Program} {w : World} {H : Hp} {h : Heap} {a : Addr}
theorem rd_of {u : HO} (ok : HOk P w H h) (e : Rd H a u) : ObjOk P w H h a u := e.ok ok
theorem dk_rd {kvs : List (Key × V)} (ok : HOk P w H h) (e : Rd H a (.dK kvs)) : kvs.length ≤ sizeLine ∧ (a == sysModules) = false ∧ ∃ vs, KV kvs vs ∧ h.DictOf (mixKind P w) a vs :=
  show ObjOk P w H h a (.dK kvs) from rd_of ok e
theorem dk_of {kvs : List (Key × V)} (ok : HOk P w H h) (e : H a = some (.dK kvs)) : kvs.length ≤ sizeLine ∧ (a == sysModules) = false ∧ ∃ vs, KV kvs vs ∧ h.DictOf (mixKind P w) a vs := dk_rd ok (.inl e)
/-- a tracked tuple of ints and texts is a key -/
theorem key_of {ks : List Key} (ok : HOk P w H h) (e : H a = some (.tup (ks.map kV))) : (tupleKind (mixKind P w)).is h ks a := by
  obtain ⟨_, its, r, o, h1, h2, n, h3⟩ := (show ObjOk P w H h a (.tup (ks.map kV)) from ok a _ e)
  exact ⟨o, its.toArray, n, h1, h2, congrArg Prod.fst h3, by simpa using items_are r⟩
theorem dt_rd {kvs : List (List Key × V)} (ok : HOk P w H h) (e : Rd H a (.dT kvs)) : kvs.length ≤ sizeLine ∧ (a == sysModules) = false ∧
    ∃ xs, KT H kvs xs ∧ h.DictOfH (tupleKind (mixKind P w)) a xs := by
  obtain ⟨z, y, xs, r, o, es, ep, h1, h2, h3, h4, h5⟩ := (show ObjOk P w H h a (.dT kvs) from rd_of ok e)
  refine ⟨z, y, xs, r, o, es, ep, h1, h2, h3, h4, fun x hx => ?_, h5⟩
  have all : ∀ {l : List (List Key × V)} {m : List (List Key × Addr × Value)}, KT H l m → ∀ x ∈ m, (tupleKind (mixKind P w)).is h x.1 x.2.1 := by
    intro l m q
    induction q with
    | nil => intro x hx; exact nomatch hx
    | @cons p q ps qs hq t ih =>
      intro x hx
      rcases List.mem_cons.mp hx with e | hx
      · subst e
        exact key_of ok (by rw [← hq.1]; exact hq.2.1)
      · exact ih x hx
  exact all r x hx
theorem dt_of {kvs : List (List Key × V)} (ok : HOk P w H h) (e : H a = some (.dT kvs)) : kvs.length ≤ sizeLine ∧ (a == sysModules) = false ∧
    ∃ xs, KT H kvs xs ∧ h.DictOfH (tupleKind (mixKind P w)) a xs := dt_rd ok (.inl e)
end

/-- what the dict at a holds at the key y -/
def DGet (H : Hp) (a : Addr) (y : V) (r : Option V) : Prop :=
  (∃ kvs k, Rd H a (.dK kvs) ∧ y = kV k ∧ r = valV kvs k) ∨ ∃ kvs k b, Rd H a (.dT kvs) ∧ y = .ref b ∧ H b = some (.tup (k.map kV)) ∧ r = valV kvs k
/-- the heap behind a[y] = v -/
def DPut (H : Hp) (a : Addr) (y v : V) (H' : Hp) : Prop :=
  (∃ kvs k, H a = some (.dK kvs) ∧ y = kV k ∧ kvs.length < sizeLine ∧ H' = upd H a (.dK (putK kvs k v))) ∨
  ∃ kvs k b, H a = some (.dT kvs) ∧ y = .ref b ∧ H b = some (.tup (k.map kV)) ∧ kvs.length < sizeLine ∧ H' = upd H a (.dT (putK kvs k v))
theorem DGet.k {H : Hp} {a : Addr} {kvs : List (Key × V)} {k : Key} (e : H a = some (.dK kvs)) : DGet H a (kV k) (valV kvs k) := .inl ⟨kvs, k, .inl e, rfl, rfl⟩
theorem DGet.t {H : Hp} {a b : Addr} {kvs : List (List Key × V)} {k : List Key} (e : H a = some (.dT kvs)) (eb : H b = some (.tup (k.map kV))) : DGet H a (.ref b) (valV kvs k) := .inr ⟨kvs, k, b, .inl e, rfl, eb, rfl⟩
theorem DPut.k {H : Hp} {a : Addr} {kvs : List (Key × V)} {k : Key} {v : V} (e : H a = some (.dK kvs)) (hl : kvs.length < sizeLine) : DPut H a (kV k) v (upd H a (.dK (putK kvs k v))) := .inl ⟨kvs, k, e, rfl, hl, rfl⟩
theorem DPut.t {H : Hp} {a b : Addr} {kvs : List (List Key × V)} {k : List Key} {v : V} (e : H a = some (.dT kvs)) (eb : H b = some (.tup (k.map kV))) (hl : kvs.length < sizeLine) :
    DPut H a (.ref b) v (upd H a (.dT (putK kvs k v))) := .inr ⟨kvs, k, b, e, rfl, eb, hl, rfl⟩


section
variable {X : Cx} {pins : List (Addr × Obj)} {σ : St} {H : Hp} {s : Shared} {a : Addr} {y v : V} {u r : Value} {o : Option V} {A : Around} {E : Value → Shared → Prop}

theorem Inv.big (I : Inv X pins σ H s) : sysModules < s.heap.objs.size := by
  have h : mainGlobals < s.heap.objs.size := (I.mod.glob.keeps I.bk).lt
  exact Nat.lt_trans (by decide) h

/-- d[y], there -/
theorem d_getItem {Q : Value → Shared → Prop} (hu : A.units + 1 < cLine) (I : Inv X pins σ H s) (g : DGet H a y (some v)) (ry : RelV y u) (h : ∀ w' s', Inv X pins σ H s' → RelV v w' → Q w' s') :
    wpAny (model X.prog X.w) A (getItem (.ref a) u) Q E s := by
  rcases g with ⟨kvs, k, e, ey, l⟩ | ⟨kvs, k, b, e, ey, eb, l⟩
  · subst ey
    obtain ⟨z, hd, vs, rel, dd⟩ := dk_rd I.hok e
    obtain ⟨w', hw, rw'⟩ := RelO.some_of (v := v) (o := valueAt vs k) (by rw [l]; exact rel.val k)
    exact wpAny_getItem_of (kV_is ry) dd.mapOf hw (h w' _ (I.tok _) rw')
  · subst ey
    cases (show u = Value.ref b from ry)
    obtain ⟨z, hd, xs, rel, dd⟩ := dt_rd I.hok e
    obtain ⟨w', hw, rw'⟩ := RelO.some_of (v := v) (o := (atKey xs k).map (·.2)) (by rw [l]; exact rel.val k)
    obtain ⟨p, hp, hp2⟩ := Option.map_eq_some_iff.mp hw
    refine wpAny_getItem_heap (tupleKind_room_in1 hu) (key_of I.hok eb) dd hp ?_
    rw [hp2]
    exact h w' _ (I.tok _) rw'
/-- y in d -/
theorem d_in {Q : Value → Shared → Prop} (hu : A.units + 1 < cLine) (I : Inv X pins σ H s) (g : DGet H a y o) (ry : RelV y u) (h : ∀ s', Inv X pins σ H s' → Q (.bool o.isSome) s') :
    wpAny (model X.prog X.w) A (compareOp .In u (.ref a)) Q E s := by
  rcases g with ⟨kvs, k, e, ey, l⟩ | ⟨kvs, k, b, e, ey, eb, l⟩
  · subst ey
    obtain ⟨z, hd, vs, rel, dd⟩ := dk_rd I.hok e
    refine wpAny_in_of (kV_is ry) hd dd.mapOf ?_
    rw [← (rel.val k).isSome_eq, ← l]
    exact h _ (I.tok _)
  · subst ey
    cases (show u = Value.ref b from ry)
    obtain ⟨z, hd, xs, rel, dd⟩ := dt_rd I.hok e
    refine wpAny_in_heap (tupleKind_room_in1 hu) (key_of I.hok eb) hd dd ?_
    have q := (rel.val k).isSome_eq
    rw [Option.isSome_map] at q
    rw [← q, ← l]
    exact h _ (I.tok _)
/-- a dict's object is replaced -/
theorem d_write {h' : Heap} {t' : Nat} {ob : HO} (I : Inv X pins σ H s) (mu : Mut (H a)) (hs : Heap.SameBut a s.heap h') (he : ∃ q, h'.get? a = some q) (new : ObjOk X.prog X.w (upd H a ob) h' a ob) :
    Inv X pins σ (upd H a ob) { s with heap := h', toks := t' } :=
  I.write (x := a) (e := a) mu (.inl rfl) (fun b q hb z => (hs.2 b hb).trans z) he new
theorem dk_new {P : Program} {w : World} {H' : Hp} {h' : Heap} {kvs : List (Key × V)} {vs : List (Key × Value)} (z : kvs.length ≤ sizeLine) (hd : (a == sysModules) = false) (rel : KV kvs vs) (dd : h'.DictOf (mixKind P w) a vs) :
    ObjOk P w H' h' a (.dK kvs) := ⟨z, hd, vs, rel, dd⟩
/-- d[y] = v -/
theorem d_setItem {H' : Hp} {Q : Unit → Shared → Prop} (hu : A.units + 1 < cLine) (I : Inv X pins σ H s) (g : DPut H a y v H') (ry : RelV y u) (rv : RelV v r) (h : ∀ s', Inv X pins σ H' s' → Q () s') :
    wpAny (model X.prog X.w) A (setItem (.ref a) u r) Q E s := by
  rcases g with ⟨kvs, k, e, ey, l, eH⟩ | ⟨kvs, k, b, e, ey, eb, l, eH⟩
  · subst ey eH
    obtain ⟨z, hd, vs, rel, dd⟩ := dk_of I.hok e
    have hz : vs.length ≤ sizeLine := by rw [← rel.length]; exact z
    have hl : (putK kvs k v).length ≤ sizeLine := by have := length_putK kvs k v; omega
    refine wpAny_setItem_pairs (hsz := hz) (kV_is ry) dd fun h' dd' hs => h _ ?_
    have he : ∃ q, h'.get? a = some q := let ⟨q, _, _, hq, _⟩ := dd'; ⟨q, hq⟩
    exact d_write I (by rw [e]; exact True.intro) hs he (dk_new hl hd (rel.put k rv) dd')
  · subst ey eH
    cases (show u = Value.ref b from ry)
    obtain ⟨z, hd, xs, rel, dd⟩ := dt_of I.hok e
    have hz : xs.length ≤ sizeLine := by rw [← Paired.length rel]; exact z
    have hl : (putK kvs k v).length ≤ sizeLine := by have := length_putK kvs k v; omega
    refine wpAny_setItem_heap (hsz := hz) (tupleKind_room_in1 hu) (key_of I.hok eb) dd fun h' dd' hs => h _ ?_
    obtain ⟨q, es, ep, hq, h2, h3, h4, _, h5⟩ := dd'
    refine d_write I (by rw [e]; exact True.intro) hs ⟨q, hq⟩ ⟨hl, hd, _, (rel.put k eb rv).keeps fun c ys ec => ?_, q, es, ep, hq, h2, h3, h4, h5⟩
    rw [upd_ne (ne_of ec e (fun z => nomatch z))]
    exact ec
end

section
variable {X : Cx} {pins : List (Addr × Obj)} {σ : St} {H : Hp} {s : Shared} {a : Addr} {kvs : List (Key × V)} {k : Key} {u : Value} {A : Around} {E : Value → Shared → Prop}
end


/-- the element of a subscription, not a slice -/
def NoSl (i : Expr) : Prop := ∀ ov iv, subscripted i false ov iv = operate [ov, iv] (getItem ov iv)
theorem subD_of {prog : Program} {w : World} {A : Around} {E : Value → Shared → Prop} {s : Shared} {env : Env} {value slice : Expr} {pos : Pos} {T id : String} {Q : Value → Shared → Prop}
    (hl : typeLookup (.type T) "__getitem__" = pure (some (.builtin id))) (hs : NoSl slice)
    (h : wpAny (model prog w) A (eval value env) (fun o s₁ => wpAny (model prog w) A (eval slice env) (fun i s₂ => s₂.TypeIs o T ∧ wpAny (model prog w) A (getItem o i) Q E s₂) E s₁) E s) :
    wpAny (model prog w) A (eval (.Subscript value slice pos) env) Q E s := by
  refine Subscript_ (wpAny_mono h (fun o s₁ h₁ => wpAny_mono h₁ (fun i s₂ h₂ => ?_) fun _ _ x => x) fun _ _ x => x)
  obtain ⟨hT, h₂⟩ := h₂
  unfold subscriptTail
  refine wpAny_bind ?_
  rw [getitemInPython_of_ne hT.not_modules]
  refine wpAny_bind (wpAny_specialOf hT hl ?_)
  have fin : wpAny (model prog w) A (subscripted slice false o i) (fun r s₃ => wpAny (model prog w) A (letTemporaryGo value o r >>= fun _ => pure r) Q E s₃) E s₂ := by
    rw [hs o i]
    exact wpAny_operating (wpAny_mono h₂ (fun r s₃ h₃ => wpAny_bind (wpAny_letTemporaryGo (wpAny_pure h₃))) fun _ _ x => x)
  first
    | exact wpAny_pure (wpAny_bind fin)
    | exact wpAny_bind (wpAny_pure (wpAny_bind fin))
    | exact wpAny_bind fin

theorem dict_typeIs {X : Cx} {pins : List (Addr × Obj)} {σ : St} {H : Hp} {s : Shared} {a : Addr} {y : V} {o : Option V} (I : Inv X pins σ H s) (g : DGet H a y o) : s.TypeIs (.ref a) "dict" := by
  rcases g with ⟨kvs, k, e, _, _⟩ | ⟨kvs, k, b, e, _, _, _⟩
  · obtain ⟨_, _, vs, _, dd⟩ := dk_rd I.hok e
    exact dd.typeIs
  · obtain ⟨_, _, xs, _, dd⟩ := dt_rd I.hok e
    exact dd.typeIs
/-- d[y] -/
def tDGet (td ty : TE) : TE := fun σ H Q => td σ H fun x H1 => ty σ H1 fun y H2 => ∃ a v, x = .ref a ∧ DGet H2 a y (some v) ∧ Q v H2
/-- y in d, y not in d -/
def tDIn (ty td : TE) : TE := fun σ H Q => ty σ H fun y H1 => td σ H1 fun x H2 => ∃ a o, x = .ref a ∧ DGet H2 a y o ∧ Q (.bl o.isSome) H2
/-- d[y] = v -/
def sDPut (td ty tv : TE) : TS := fun D σ H => tv σ H fun v H1 => td σ H1 fun x H2 => ty σ H2 fun y H3 => ∃ a H4, x = .ref a ∧ DPut H3 a y v H4 ∧ D.nx σ H4
section
variable {X : Cx} {o i e value : Expr} {pos pos' tpos : Pos} {td ty tv : TE}
theorem pe_dget (hu : X.A.units + 1 < cLine) (ho : PE X o td) (hi : PE X i ty) (hs : NoSl i) : PE X (.Subscript o i pos) (tDGet td ty) := by
  intro pins s σ H Q I h
  refine subD_of PySem.F.slot_dict_getitem.lookup hs (thn (ho pins s σ H _ I h) fun u s1 ⟨x, H1, I1, rx, q1⟩ => thn (hi pins s1 σ H1 _ I1 q1) fun iv s2 ⟨y, H2, I2, ry, a, v, ex, g, q2⟩ => ?_)
  subst ex
  obtain rfl : u = Value.ref a := rx
  exact ⟨dict_typeIs I2 g, d_getItem hu I2 g ry fun w' s3 I3 rw' => ⟨v, H2, I3, rw', q2⟩⟩
theorem pc_din (hu : X.A.units + 1 < cLine) (hi : PE X i ty) (ho : PE X o td) : PC X .In i o (tDIn ty td) := by
  intro pins s σ H Q I h
  refine thn (hi pins s σ H _ I h) fun iv s1 ⟨y, H1, I1, ry, q1⟩ => thn (ho pins s1 σ H1 _ I1 q1) fun u s2 ⟨x, H2, I2, rx, a, ov, ex, g, q2⟩ => ?_
  subst ex
  obtain rfl : u = Value.ref a := rx
  exact d_in hu I2 g ry fun s3 I3 => ⟨.bl ov.isSome, H2, I3, rfl, q2⟩
theorem ps_dput (hu : X.A.units + 1 < cLine) (ho : PE X o td) (hi : PE X i ty) (hv : PE X value tv) (hs : swapsWith value (some (.Subscript o i pos')) pos.line X.env = pure false) :
    PS X (.Assign [.Subscript o i pos'] value pos) (sDPut td ty tv) := by
  intro pins s σ H D I h
  refine wpAny_Assign_Subscript (thn (hv pins s σ H _ I h) fun r s1 ⟨v, H1, I1, rv, q1⟩ => thn (ho pins s1 σ H1 _ I1 q1) fun u s2 ⟨x, H2, I2, rx, q2⟩ => thn (hi pins s2 σ H2 _ I2 q2) fun iv s3 ⟨y, H3, I3, ry, a, H4, ex, g, q3⟩ => ?_) hs
  subst ex
  obtain rfl : u = Value.ref a := rx
  exact d_setItem hu I3 g ry rv fun s4 I4 => ⟨σ, H4, I4, q3⟩
end


theorem dk_empty {P : Program} {w : World} {H : Hp} (h : Heap) (hb : sysModules < h.objs.size) : ObjOk P w H (h.push { cls := .type "dict", data := .dict #[] }) h.objs.size (.dK []) :=
  ⟨Nat.zero_le _, beq_eq_false_iff_ne.mpr (Ne.symm (Nat.ne_of_lt hb)), [], .nil, Heap.DictOf.new h⟩
section
variable {X : Cx} {pos : Pos}
end

/-- the pairs of a display, from the left -/
def tPairs : List (TE × TE) → St → Hp → (List (V × V) → Hp → Prop) → Prop
  | [], _, H, Q => Q [] H
  | (tk, tv) :: r, σ, H, Q => tk σ H fun x H1 => tv σ H1 fun y H2 => tPairs r σ H2 fun ps H3 => Q ((x, y) :: ps) H3
abbrev VV : List (V × V) → List (Value × Value) → Prop := Paired fun p q => RelV p.1 q.1 ∧ RelV p.2 q.2
def PPs (X : Cx) (pos : Pos) (keys : List (Option Expr)) (values : List Expr) (trs : List (TE × TE)) : Prop :=
  ∀ (pins : List (Addr × Obj)) (s : Shared) (σ : St) (H : Hp) (Q : List (V × V) → Hp → Prop), Inv X pins σ H s → tPairs trs σ H Q →
    wpAny (model X.prog X.w) X.A (evalPairs (pairTrees keys values X.env pos)) (fun vs s' => ∃ ps H', Inv X pins σ H' s' ∧ VV ps vs ∧ Q ps H') X.xe s
theorem pps_nil {X : Cx} {pos : Pos} : PPs X pos [] [] [] := fun pins s σ H Q I h => pairTrees_nil_walk ⟨[], H, I, .nil, h⟩
theorem pps_cons {X : Cx} {pos : Pos} {k v : Expr} {ks : List (Option Expr)} {vs : List Expr} {tk tv : TE} {trs : List (TE × TE)} (hk : PE X k tk) (hv : PE X v tv) (hr : PPs X pos ks vs trs) :
    PPs X pos (some k :: ks) (v :: vs) ((tk, tv) :: trs) := fun pins s σ H Q I h =>
  pairTrees_cons_walk (thn (hk pins s σ H _ I h) fun u s1 ⟨x, H1, I1, rx, q1⟩ => thn (hv pins s1 σ H1 _ I1 q1) fun w2 s2 ⟨y, H2, I2, ry, q2⟩ =>
    thn (hr pins s2 σ H2 _ I2 q2) fun ws s3 ⟨ps, H3, I3, rel, q3⟩ => ⟨(x, y) :: ps, H3, I3, .cons ⟨rx, ry⟩ rel, q3⟩)

def mergeK (kvs more : List (Key × V)) : List (Key × V) := more.foldl (fun acc kv => putK acc kv.1 kv.2) kvs
theorem KV.merge : ∀ {more : List (Key × V)} {rs : List (Key × Value)} {kvs : List (Key × V)} {vs : List (Key × Value)}, KV more rs → KV kvs vs → KV (mergeK kvs more) (merged vs rs) := by
  intro more rs kvs vs r
  unfold KV at r
  induction r generalizing kvs vs with
  | nil => intro q; exact q
  | @cons p q ps qs h t ih =>
    intro r0
    have e : KV (putK kvs p.1 p.2) (stored vs q.1 q.2) := by
      have := r0.put p.1 h.2
      rw [← h.1]; exact this
    exact ih e
theorem length_mergeK : ∀ (more kvs : List (Key × V)), (mergeK kvs more).length ≤ kvs.length + more.length
  | [], kvs => by show kvs.length ≤ kvs.length + 0; omega
  | p :: r, kvs => by
    have h1 := length_mergeK r (putK kvs p.1 p.2)
    have h2 := length_putK kvs p.1 p.2
    show (mergeK (putK kvs p.1 p.2) r).length ≤ _
    rw [List.length_cons]; omega
theorem carries_of {P : Program} {w : World} : ∀ {kvs : List (Key × V)} {ws : List (Value × Value)}, VV (kvs.map fun kv => (kV kv.1, kv.2)) ws → ∃ rs, Carries (mixKind P w) ws rs ∧ KV kvs rs
  | [], _, r => by rw [List.map_nil] at r; cases r; exact ⟨[], True.intro, .nil⟩
  | p :: kvs, _, r => by
    rw [List.map_cons] at r
    cases r with
    | @cons a b as bs h t =>
      obtain ⟨rs, c, q⟩ := carries_of (P := P) (w := w) t
      obtain ⟨b1, b2⟩ := b
      exact ⟨(p.1, b2) :: rs, ⟨kV_is h.1, rfl, c⟩, .cons ⟨rfl, h.2⟩ q⟩
/-- {k: v, ..} with keys ints and texts; the new dict stands empty while the pairs are made -/
def tDisp (trs : List (TE × TE)) : TE := fun σ H Q => ∀ p, H p = none → tPairs trs σ (upd H p (.dK [])) fun ps H2 => H2 p = some (.dK []) ∧ ∃ kvs : List (Key × V), ps = kvs.map (fun kv => (kV kv.1, kv.2)) ∧ kvs.length ≤ 15 ∧ Q (.ref p) (upd H2 p (.dK (mergeK [] kvs)))
theorem pe_disp {X : Cx} {pos : Pos} {keys : List (Option Expr)} {values : List Expr} {trs : List (TE × TE)} (h : PPs X pos keys values trs) (hall : keys.all (·.isSome) = true) (hl : keys.length = values.length) (h0 : keys ≠ [])
    (h15 : keys.length ≤ 15) : PE X (.Dict keys values pos) (tDisp trs) := by
  intro pins s σ H Q I q
  have hn := I.hok.fresh (Nat.le_refl s.heap.objs.size)
  have I1 := I.laid (a := s.heap.objs.size) (o := .dK []) (h' := s.heap.push { cls := .type "dict", data := .dict #[] }) (t' := s.toks) (fun _ _ q => Heap.get?_push_of_some _ q) (Nat.le_refl _) (dk_empty s.heap I.big)
  refine wpAny_Dict_walk (knd := mixKind X.prog X.w) hall hl h0 h15 (thn (h pins _ σ _ _ I1 (q _ hn)) fun ws s2 ⟨ps, H2, I2, rel, e, kvs, ep, lk, q2⟩ => ?_)
  subst ep
  obtain ⟨rs, c, rk⟩ := carries_of (P := X.prog) (w := X.w) rel
  obtain ⟨z, hd, vs0, r0, dd⟩ := dk_of I2.hok e
  cases r0
  refine ⟨rs, c, dd, fun h' dd' hs => ⟨.ref s.heap.objs.size, _, ?_, rfl, q2⟩⟩
  have hz : (mergeK [] kvs).length ≤ sizeLine := by
    have h1 := length_mergeK kvs []
    rw [List.length_nil] at h1
    rw [sizeLine_eq]; omega
  have he : ∃ q, h'.get? s.heap.objs.size = some q := let ⟨q, _, _, hq, _⟩ := dd'; ⟨q, hq⟩
  exact d_write I2 (by rw [e]; exact True.intro) hs he (dk_new hz hd (rk.merge .nil) dd')


/-- a method call o.m(e) of a built-in, with one argument: what must be seen of the text -/
structure M1 (X : Cx) (o : Expr) (m : Str) (apos : Pos) (e : Expr) (cpos : Pos) : Prop where
  base : attributeBase o m X.env (eval o X.env) = eval o X.env
  few : ((backTo cpos (starEach [e] X.env)).all (fun x => !x.1) && (backToKw cpos (keywordEach [] X.env)).all (fun x => x.1.isSome)
    && decide (([e] : List Expr).length + ([] : List Keyword).length + (if ([] : List Keyword).isEmpty then 0 else 1) < 30)) = true
  line : (apos.endLine == cpos.line) = true
  trees : backTo cpos (starEach [e] X.env) = [(false, eval e X.env)]
structure M2 (X : Cx) (o : Expr) (m : Str) (apos : Pos) (e f : Expr) (cpos : Pos) : Prop where
  base : attributeBase o m X.env (eval o X.env) = eval o X.env
  few : ((backTo cpos (starEach [e, f] X.env)).all (fun x => !x.1) && (backToKw cpos (keywordEach [] X.env)).all (fun x => x.1.isSome)
    && decide (([e, f] : List Expr).length + ([] : List Keyword).length + (if ([] : List Keyword).isEmpty then 0 else 1) < 30)) = true
  line : (apos.endLine == cpos.line) = true
  trees : backTo cpos (starEach [e, f] X.env) = [(false, eval e X.env), (false, eval f X.env)]

section
variable {X : Cx} {pins : List (Addr × Obj)} {σ : St} {H : Hp} {s : Shared} {a : Addr} {y d : V} {u r : Value} {o : Option V} {A : Around} {E : Value → Shared → Prop}
end

section
variable {X : Cx} {o e f : Expr} {apos cpos : Pos} {td ty tx : TE}
end

section
variable {X : Cx} {pins : List (Addr × Obj)} {σ : St} {H : Hp} {s : Shared} {a : Addr} {kvs : List (Key × V)} {A : Around} {E : Value → Shared → Prop}
end


section
variable {X : Cx} {pins : List (Addr × Obj)} {σ : St} {H : Hp} {s : Shared} {a : Addr} {y : V} {u : Value} {A : Around} {E : Value → Shared → Prop}
end
end L2

namespace L2
open PySem PySem.Spec PyProof.Rows

section
variable {prog : Program} {w : World} {A : Around} {E : Value → Shared → Prop}
end

section
variable {X : Cx}
end
end L2

namespace L2
open PySem PySem.Spec PyProof.Rows

section
variable {X : Cx} {pins : List (Addr × Obj)} {σ : St} {H : Hp} {s : Shared} {h' : Heap}
/-- several records of ours have turned -/
theorem Inv.turnedL {t' : Nat} {ch : List Addr} (I : Inv X pins σ H s) (k : ∀ b o, b ∉ ch → s.heap.get? b = some o → h'.get? b = some o) (hf : ∀ b ∈ ch, FpOk X pins H b) : Inv X pins σ H { s with heap := h', toks := t' } := by
  have nit : ∀ b u, H b = some u → b ∉ ch := fun b u e z => by
    have q := (hf b z).1
    rw [q] at e; cases e
  refine I.step (g' := s.gens) (d' := s.drawn) (ch := ch) (fun b hb => ⟨(hf b hb).2.2.2.1, (hf b hb).2.1, (hf b hb).2.2.2.2.1, (hf b hb).2.2.2.2.2⟩) (fun b o _ _ hc e _ => k b o hc e) (fun b o _ _ hc e _ => ⟨o.slots, k b o hc e⟩)
    (fun _ _ _ _ n => n) (fun b o hc e => ⟨o, k b o hc e⟩) (fun _ _ e => e) (fun _ _ _ e => e) (fun b ps e => ⟨#[], by rw [e]; simp⟩) (fun m hm => ?_) (fun b u e => ?_) I.bare
  · obtain ⟨o, es, ep, ho, r⟩ := hm
    exact ⟨o, es, ep, k _ o (fun z => (hf _ z).2.1 rfl) ho, r⟩
  · refine (I.hok b u e).stay (fun c v hc q => k c v ?_ q) (fun _ q => q) fun _ _ q => q
    rcases hc with z | z
    · rw [z]; exact nit b u e
    · exact nit c _ z
/-- .. and one new object is laid -/
theorem Inv.turnedNew {t' : Nat} {ch : List Addr} {T : Addr} {ob : HO} (I : Inv X pins σ H s) (k : ∀ b o, b ∉ ch → s.heap.get? b = some o → h'.get? b = some o) (hf : ∀ b ∈ ch, FpOk X pins H b) (hT : s.heap.objs.size ≤ T)
    (new : ObjOk X.prog X.w (upd H T ob) h' T ob) : Inv X pins σ (upd H T ob) { s with heap := h', toks := t' } := by
  have hn : H T = none := I.hok.fresh hT
  have nit : ∀ b u, H b = some u → b ∉ ch := fun b u e z => by
    have q := (hf b z).1
    rw [q] at e; cases e
  refine I.step (g' := s.gens) (d' := s.drawn) (ch := ch) (fun b hb => ⟨(hf b hb).2.2.2.1, (hf b hb).2.1, (hf b hb).2.2.2.2.1, (hf b hb).2.2.2.2.2⟩) (fun b o _ _ hc e _ => k b o hc e) (fun b o _ _ hc e _ => ⟨o.slots, k b o hc e⟩)
    (fun b o _ e n => ?_) (fun b o hc e => ⟨o, k b o hc e⟩) (fun b xs e => ?_) (fun b o u e => ?_) (fun b ps e => ⟨#[], ?_⟩) (fun m hm => ?_) (fun b u e => ?_) I.bare
  · rw [upd_ne (Nat.ne_of_lt (Nat.lt_of_lt_of_le (Heap.lt_size e) hT))]; exact n
  · rw [upd_ne (ne_of_none e hn)]; exact e
  · rw [upd_ne (ne_of_none e hn)]; exact e
  · rw [upd_ne (ne_of_none e hn), e]; simp
  · obtain ⟨o, es, ep, ho, r⟩ := hm
    exact ⟨o, es, ep, k _ o (fun z => (hf _ z).2.1 rfl) ho, r⟩
  · by_cases hb : b = T
    · subst hb
      rw [upd_same] at e
      cases e
      exact new
    · rw [upd_ne hb] at e
      refine (I.hok b u e).stay (fun c v hc q => k c v ?_ q) (fun c q => by rw [upd_ne (ne_of_none q hn)]; exact q) fun c xs q => by rw [upd_ne (ne_of_none q hn)]; exact q
      rcases hc with z | z
      · rw [z]; exact nit b u e
      · exact nit c _ z

end
section
variable {X : Cx}
end

/-- range(i, j, c): small bounds, n items -/
def RgC (i j c : Int) (n : Nat) : Prop := c ≠ 0 ∧ c.natAbs < 1073741824 ∧ Builtin.Range.small i j c = true ∧ Builtin.Range.rangeSize i j c = n
theorem RgC.neg {i j : Int} (ha : -(2 ^ 62) ≤ i) (ha' : i < 2 ^ 62) (hb : -(2 ^ 62) ≤ j) (hb' : j < 2 ^ 62) : RgC i j (-1) (i - j).toNat :=
  ⟨by decide, by decide, PySem.W.small_down ha ha' hb hb', PySem.W.rangeSize_downNat i j⟩
section
variable {X : Cx} {tg : Expr}
end
section
variable {X : Cx} {tg : Expr}
end

section
variable {prog : Program} {w : World} {A : Around} {E : Value → Shared → Prop} {s : Shared}
end

section
variable {X : Cx} {pins : List (Addr × Obj)} {σ : St} {H : Hp} {s : Shared} {d : Addr} {o : Obj}
end

section
variable {P : Program} {w : World} {K : PySem.W.Frag} {tg : Expr} {d : Addr} {o : Obj} {es : Array DictEntry} {ep : Nat}
end

section
variable {X : Cx} {tg e : Expr} {td : TE} {apos cpos : Pos}
end

/-- the list at a as it stands at each turn, each item in a new pair -/
def Ite (K : PySem.W.Frag) (a : Addr) : It :=
  ⟨fun i H => ∃ (xs : List V) (x : V), SqL K H a xs ∧ xs[i]? = some x, fun i H v H' => ∃ T x, v = .ref T ∧ H T = none ∧ H' = upd H T (.tup [.int (i : Nat), x]) ∧ ∀ xs, SqL K H a xs → xs[i]? = some x, fun i H => ∃ xs : List V, SqL K H a xs ∧ xs.length ≤ i⟩
theorem turn_enum {P : Program} {w : World} {K : PySem.W.Frag} {elts : List Expr} {kk : Nat} {tpos : Pos} (a e it : Addr) :
    Turn P w K (.Tuple elts kk tpos) (Ite K a) [e, it] e (fun i h => (∃ old, IsEnum h e it ((i : Nat) : Int) old) ∧ h.IsListIter it a i ∧ e ≠ it) where
  mem := by simp
  obj := fun i h st b hb => by
    obtain ⟨⟨old, he⟩, ⟨o, ho, hc, hd⟩, _⟩ := st
    have e' : b = e ∨ b = it := by simpa using hb
    rcases e' with z | z
    · rw [z]; exact ⟨_, he, fun v q => nomatch q⟩
    · rw [z]; exact ⟨o, ho, fun v q => by rw [hd] at q; cases q⟩
  keep := fun i h h' st k => let ⟨⟨old, he⟩, hi, hne⟩ := st; ⟨⟨old, k e (by simp) _ he⟩, hi.at fun o q => k it (by simp) o q, hne⟩
  item := by
    intro X hP hw hK hc i pins s σ H E I hf st hg
    subst hP hw hK
    obtain ⟨⟨old, he⟩, hit, hne⟩ := st
    obtain ⟨xs, x, hq, hx⟩ := hg
    obtain ⟨its, rv, p, hz⟩ := I.list hq
    obtain ⟨u, hu, ru⟩ := rv.get hx
    have hel : e < s.heap.objs.size := Heap.lt_size he
    have hil : it < s.heap.objs.size := by obtain ⟨_, q, _⟩ := hit; exact Heap.lt_size q
    refine wpAny_pyNext_enum_item he hit p.isList (x := u) (by simpa using hu) hne fun h' ho hit' hT hsz hk => ?_
    refine ⟨_, rfl, wpAny_letOwnedTupleGo_enum (s := { s with heap := h', toks := s.toks + 1 }) ho fun h'' he' sb => ?_⟩
    have hT2 : h''.get? s.heap.objs.size = some { cls := .type "tuple", data := .seq #[.int i s.toks, u] } := (sb.2 _ (Nat.ne_of_gt hel)).trans hT
    have new : ObjOk X.prog X.w (upd H s.heap.objs.size (.tup [.int (i : Nat), x])) h'' s.heap.objs.size (.tup [.int (i : Nat), x]) :=
      ⟨by show 2 ≤ sizeLine; decide, [.int i s.toks, u], .cons ⟨_, rfl⟩ (.cons ru .nil), ⟨_, hT2, rfl, _, rfl⟩⟩
    have I1 : Inv X pins σ (upd H s.heap.objs.size (.tup [.int (i : Nat), x])) { s with heap := h'', toks := s.toks + 1 } :=
      I.turnedNew (ch := [e, it]) (fun b ob hb q => (sb.2 b (fun z => hb (by simp [z]))).trans (hk b ob (fun z => hb (by simp [z])) (fun z => hb (by simp [z])) q)) hf (Nat.le_refl _) new
    refine ⟨.ref s.heap.objs.size, _, I1, rfl, ⟨_, x, rfl, I.hok.fresh (Nat.le_refl _), rfl, fun ys hy => by rw [I.list_inj hy hq]; exact hx⟩, ⟨⟨u, ?_⟩, hit'.at fun o q => (sb.2 it (Ne.symm hne)).trans q, hne⟩, fun b hb => ?_⟩
    · have e1 : ((i + 1 : Nat) : Int) = (i : Int) + 1 := by omega
      rw [e1]; exact he'
    · have hb' : b < s.heap.objs.size := by
        have e' : b = e ∨ b = it := by simpa using hb
        rcases e' with z | z
        · rw [z]; exact hel
        · rw [z]; exact hil
      rw [upd_ne (Nat.ne_of_lt hb')]
      exact (hf b hb).1
  done := by
    intro X hP hw hK hc i pins s σ H E I hf st hg
    subst hP hw hK
    obtain ⟨⟨old, he⟩, hit, hne⟩ := st
    obtain ⟨xs, hq, hx⟩ := hg
    obtain ⟨its, rv, p, hz⟩ := I.list hq
    obtain ⟨f0, f1, f2, f3, f4, f5⟩ := hf it (by simp)
    have hl := rv.length
    exact wpAny_pyNext_enum_end (I.ok.hd hc) he hit p.isList (by simp; omega) fun h' eb => ⟨rfl, I.turned (t' := s.toks) (fun b o hb q => eb b o hb q) f0 f1 f3 f4 f5⟩
  self := fun A i s Q E st h => let ⟨⟨_, he⟩, _⟩ := st; wpAny_pyIter_enum he h
def iEnum (K : PySem.W.Frag) (ta : TA) : TI := fun σ H R => ta σ H fun vs H1 => ∃ a xs, vs = [.ref a] ∧ SqL K H1 a xs ∧ R (Ite K a) H1
theorem pi_enum {X : Cx} {e : Expr} {ta : TA} {p pos tpos : Pos} {elts : List Expr} {kk : Nat} (hg : Gl X "enumerate") (hm : X.mg "enumerate" = none) (ha : PA X [e] ta) (hs : starEach [e] X.env = [(false, eval e X.env)] := by rfl) :
    PI X (.Tuple elts kk tpos) (.Call (.Name "enumerate" p) [e] [] pos) (iEnum X.K ta) := by
  intro pins s σ H R I h
  refine Call_ (ld_blt I hg hm boot_enumerate (PyProof.Rows.callWith_type1 (thn (ha pos pins s σ H _ I h) fun us s1 ⟨vs, H1, I1, r1, q1⟩ => ?_) hs rfl))
  obtain ⟨a, xs, ex, hq, q⟩ := q1
  subst ex
  cases r1 with
  | cons r rr =>
    cases rr
    cases r
    obtain ⟨its, rv, p', hz⟩ := I1.list hq
    refine call_enumerate_list p'.isList fun h' he hit hsz hk => wpAny_pyIter_enum he ?_
    have I2 : Inv X pins σ H1 { s1 with heap := h' } := I1.kept (t' := s1.toks) hk
    refine ⟨s1.heap.objs.size + 1, [s1.heap.objs.size + 1, s1.heap.objs.size], _, _, H1, rfl, I2, turn_enum a (s1.heap.objs.size + 1) s1.heap.objs.size, ⟨⟨.none, he⟩, hit, Nat.succ_ne_self _⟩, fun b hb => ?_, q⟩
    have e' : b = s1.heap.objs.size + 1 ∨ b = s1.heap.objs.size := by simpa using hb
    have hle : s1.heap.objs.size ≤ b := by
      rcases e' with z | z
      · rw [z]; exact Nat.le_add_right _ _
      · rw [z]; exact Nat.le_refl _
    exact I1.fpOk hle (I1.hok.fresh hle)
end L2

section 
namespace Bits
open PySem PyProof.Rows

end Bits
end 

section 
namespace TL
open PySem PySem.Builtin PySem.Builtin.Str PySem.StrLaws

abbrev tl (x : Str) : List Nat := x.cps.toList
/-- S stands at the head of l -/
def pre (S l : List Nat) : Bool := l.take S.length == S
/-- l cut at each S from the left; k signs are still to be passed over -/
def spl (S : List Nat) : Nat → List Nat → List Nat → List (List Nat)
  | _, acc, [] => [acc]
  | 0, acc, c :: r => if pre S (c :: r) = true then acc :: spl S (S.length - 1) [] r else spl S 0 (acc ++ [c]) r
  | k + 1, acc, _ :: r => spl S k acc r
/-- what stands before the first S, and behind it -/
def par (S : List Nat) : List Nat → List Nat → Option (List Nat × List Nat)
  | _, [] => none
  | acc, c :: r => if pre S (c :: r) = true then some (acc, (c :: r).drop S.length) else par S (acc ++ [c]) r

end TL
end 

namespace L2
open PySem PySem.Spec PyProof.Rows

section
variable {X : Cx} {pins : List (Addr × Obj)} {σ : St} {H : Hp} {s : Shared} {Q : VK}
end

section
variable {X : Cx}

end

section
variable {X : Cx} {o e : Expr} {to te : TE}
end
end L2

namespace L2
open PySem PySem.Spec PyProof.Rows

section
variable {X : Cx}
end

theorem IsPart.raw {v : Value} {o : Option Int} (p : IsPart v o) : ∃ l : Option (Int × Tok), v = partValue l ∧ l.map (·.1) = o := by
  cases p with
  | none => exact ⟨none, rfl, rfl⟩
  | int i t => exact ⟨some (i, t), rfl, rfl⟩

/-- a part, clipped, as the text's slice reckons it -/
def clipS (n d : Nat) : Option Int → Int
  | none => (d : Int)
  | some i => max 0 (min (if i < 0 then i + (n : Int) else i) (n : Int))
theorem clipS_eq (n d : Nat) (o : Option Int) : clipS n d o = ((HT.sIx n d o : Nat) : Int) := by
  cases o with
  | none => rfl
  | some v =>
    show max (0 : Int) (min (if v < 0 then v + (n : Int) else v) (n : Int)) = (((if v < 0 then (v + (n : Int)).toNat else min v.toNat n) : Nat) : Int)
    by_cases hv : v < 0
    · simp only [if_pos hv]
      omega
    · simp only [if_neg hv]
      omega
theorem sidx_clip (a b : Option Int) (n : Nat) : Builtin.Str.strSliceIndices a b 1 n = sliceRange (clipS n 0 a) (clipS n n b) 1 := by
  have h1 : ((1 : Int) > 0) = True := by simp
  cases a <;> cases b <;> first
    | rfl
    | (simp only [Builtin.Str.strSliceIndices, clipS, h1, if_true]; rfl)
    | simp [Builtin.Str.strSliceIndices, clipS]
theorem sidx (a b : Option Int) (n : Nat) : Builtin.Str.strSliceIndices a b 1 n = (List.range (HT.sIx n n b - HT.sIx n 0 a)).map (fun k => HT.sIx n 0 a + k) := by
  rw [sidx_clip, clipS_eq, clipS_eq]
  generalize HT.sIx n 0 a = p
  generalize HT.sIx n n b = q
  simp only [sliceRange, show ((1 : Int) > 0) = True from by simp, if_true]
  by_cases hlt : (p : Int) < q
  · have e3 : (((q : Int) - p + 1 - 1) / 1).toNat = q - p := by first | omega | (simp; done) | (simp; omega)
    simp only [hlt, if_true, e3]
    refine List.map_congr_left fun k _ => ?_
    omega
  · have : q - p = 0 := by omega
    simp [hlt, this]

/-- z[lo:hi] -/
def cutS (z : Str) (lo hi : Option Int) : Str :=
  ⟨((z.cps.toList.drop (HT.sIx z.length 0 lo)).take (HT.sIx z.length z.length hi - HT.sIx z.length 0 lo)).toArray⟩
theorem sliceText_cut (z : Str) (lo hi : Option Int) : PySem.StrLaws.sliceText z lo hi = cutS z lo hi := by
  have h1 : HT.sIx z.length 0 lo ≤ z.length := HT.sIx_le _ _ (Nat.zero_le _) _
  have h2 : HT.sIx z.length z.length hi ≤ z.length := HT.sIx_le _ _ (Nat.le_refl _) _
  have hp : HT.sIx z.length 0 lo ≤ max (HT.sIx z.length 0 lo) (HT.sIx z.length z.length hi) := Nat.le_max_left _ _
  have hq : max (HT.sIx z.length 0 lo) (HT.sIx z.length z.length hi) ≤ z.length := Nat.max_le.mpr ⟨h1, h2⟩
  have hd : max (HT.sIx z.length 0 lo) (HT.sIx z.length z.length hi) - HT.sIx z.length 0 lo = HT.sIx z.length z.length hi - HT.sIx z.length 0 lo := by omega
  have e : Builtin.Str.strSliceIndices lo hi 1 z.length =
      Builtin.Str.strSliceIndices (some ((HT.sIx z.length 0 lo : Nat) : Int)) (some ((max (HT.sIx z.length 0 lo) (HT.sIx z.length z.length hi) : Nat) : Int)) 1 z.length := by
    rw [PySem.StrLaws.strSliceIndices_plain hp hq, hd, sidx]
  have e2 : PySem.StrLaws.sliceText z lo hi =
      PySem.StrLaws.sliceText z (some ((HT.sIx z.length 0 lo : Nat) : Int)) (some ((max (HT.sIx z.length 0 lo) (HT.sIx z.length z.length hi) : Nat) : Int)) := by
    unfold PySem.StrLaws.sliceText
    rw [e]
  rw [e2, PySem.StrLaws.sliceText_nat z hp hq, hd]
  rfl
theorem cutS_length (z : Str) (lo hi : Option Int) : (cutS z lo hi).length ≤ z.length := by
  show (((z.cps.toList.drop (HT.sIx z.length 0 lo)).take (HT.sIx z.length z.length hi - HT.sIx z.length 0 lo)).toArray).size ≤ z.cps.size
  rw [List.size_toArray, List.length_take, List.length_drop, Array.length_toList]
  omega
def rSlS : V → Option Int → Option Int → Hp → VK → Prop := fun x lo hi H Q => ∃ z, x = .str z ∧ z.length ≤ sizeLine ∧ Q (.str (cutS z lo hi)) H
theorem sl_str {X : Cx} : SlR X rSlS := by
  intro pins s σ H x v vl vu lo hi sl Q I rx hs pl pu h
  obtain ⟨z, rfl, hz, q⟩ := h
  obtain ⟨t, rfl⟩ := rx
  obtain ⟨os, hos, hcs, hds⟩ := hs
  obtain ⟨l, rfl, rfl⟩ := IsPart.raw pl
  obtain ⟨u, rfl, rfl⟩ := IsPart.raw pu
  refine ⟨"str", _, F.slot_str_getitem.lookup, typeIs_str _ _ _, ?_⟩
  refine wpAny_getItem_str_slice (l := l) (u := u) (st := none) ⟨os, hos, hcs, hds⟩ rfl ?_
  have hl : (PySem.StrLaws.sliceText z (l.map (·.1)) (u.map (·.1))).length ≤ sizeLine := by
    rw [sliceText_cut]
    exact Nat.le_trans (cutS_length z _ _) hz
  rw [← sliceText_cut] at q
  unfold PySem.StrLaws.sliceText at q hl
  show Made.post (if ((1 : Int) == 1 && (Builtin.Str.strSliceIndices (l.map (·.1)) (u.map (·.1)) 1 z.length).length == z.length) = true then Made.val (.str z t)
    else Made.str ⟨((Builtin.Str.strSliceIndices (l.map (·.1)) (u.map (·.1)) 1 z.length).filterMap (z.cps[·]?)).toArray⟩) (EP X pins σ Q) s
  by_cases c : ((1 : Int) == 1 && (Builtin.Str.strSliceIndices (l.map (·.1)) (u.map (·.1)) 1 z.length).length == z.length) = true
  · rw [if_pos c] at q ⊢
    exact ⟨.str z, H, I, ⟨t, rfl⟩, q⟩
  · rw [if_neg c] at q hl ⊢
    exact ⟨hl, .str _, H, I.tok _, ⟨_, rfl⟩, q⟩
end L2

namespace Att
open PySem PySem.W PySem.Calls PyProof.Rows

theorem ints_of_wellAll {P : Params} {h : Heap} : ∀ (ns : List Int) (vs : List Value), WellAll P h vs (ns.map WData.int) → IntsAre vs ns := by
  intro ns
  induction ns with
  | nil =>
    intro vs w
    rw [List.map_nil] at w
    cases w
    exact .nil
  | cons n ns ih =>
    intro vs w
    rw [List.map_cons] at w
    cases w with
    | cons a b =>
      cases a
      exact .cons _ _ (ih _ b)

theorem script_of {l : OpenLaw} {n : Nat} (hn : l.most = some n) {P : Params} {h : Heap} {args : List WData} {vals : List Value}
    (hpre : l.row.toRowW.claim.pre args = true) (hwl : WellAll P h vals args) :
    ∃ a vs ns, vals = [Value.ref a] ∧ args = [WData.list (ns.map WData.int)] ∧ h.get? a = some { cls := .type "list", data := .seq vs.toArray } ∧ IntsAre vs ns ∧ ns.length ≤ n := by
  have hsh : WShape.hasAll [] args [.list .int] = true := (pre_splitW hpre).1
  have hc : l.pre.holds [] { args := args } = true := (pre_splitW hpre).2
  obtain ⟨d, r, rfl, h1, h2⟩ := hasAllW_cons hsh
  obtain rfl := hasAllW_nil h2
  obtain ⟨xs, rfl, h3⟩ := hasW_list h1
  obtain ⟨ns, rfl⟩ := items_int h3
  have hlen : ns.length ≤ n := by
    unfold OpenLaw.pre at hc
    have h4 : (WTm.not (.lt (.lit (.int (n : Int))) (.len (.arg 0)))).holds [] { args := [.list (ns.map .int)] } = true := by
      have h4 := (holds_andW hc).1
      rw [hn] at h4
      exact h4
    have h5 := condW_of h4 (w_not (w_lt w_lit (w_len_list (w_arg rfl))))
    rw [List.length_map] at h5
    refine Nat.le_of_not_lt fun q => ?_
    have q' : (n : Int) < ((ns.length : Nat) : Int) := by omega
    first
      | (rw [decide_eq_true q'] at h5; exact absurd h5 (by decide))
      | (simp at h5; omega)
  cases hwl with
  | cons w1 w2 =>
    cases w2
    cases w1 with
    | list ho hall => exact ⟨_, _, ns, rfl, rfl, ho, ints_of_wellAll ns _ hall, hlen⟩

theorem post_true (l : OpenLaw) (args : List WData) : l.row.toRowW.claim.post args (.bool true) args = true :=
  postW_of (r := l.row.toRowW) (X := (true == true))
    (show WShape.has [] (.bool true) .bool = true by first | rfl | decide | simp [WShape.has, WShape.arms, WShape.armsAll])
    (show (WTm.eq .res (.lit (.bool true))).value [] { args := args, res := some (.bool true), after := args } = some (.bool (true == true)) from w_eq_bool (w_res rfl) w_lit) rfl

/-- the same from a codeAny of the CALL (for a layer whose function contracts speak of calls) -/
theorem attach_call {l : OpenLaw} {n : Nat} {q : Program} {loose : List Str} {XP : (Str → Option Value) → Heap → Prop} {YP : World → Heap → Prop} {d : DefRec}
    (hn : l.most = some n) (hdf : d.params.defaults = [])
    (call : ∀ (w : World) (s₀ s₁ : Shared) (mg mb : Str → Option Value) (fa : Addr) (o : Obj) (pm cd doc : Value) (a : Addr) (vs : List Value) (ns : List Int),
      Ground q loose [] XP w s₀ mg mb s₁.heap → YP w s₁.heap →
      s₁.heap.get? fa = some o → o.data = .func (docDef d.name d.params d.body d.scope pm cd doc) → s₁.heap.CodeRec cd d.name → mg d.name = some (.ref fa) →
      s₁.heap.get? a = some { cls := .type "list", data := .seq vs.toArray } → IntsAre vs ns → ns.length ≤ n → s₁.gens = #[] →
      codeAny (model l.prog w) callerA (.call (.ref fa) ⟨[.ref a], []⟩) (fun r s' => r = .ok (.ret (.bool true)) ∧ OldK s₁.heap s'.heap ∧ s'.os = s₁.os ∧ AllBare s'.gens) s₁) :
    WalkO q loose XP YP l.row.toRowW d [] (fun f vs => PySem.call f vs) := by
  intro w s₀ s₁ mg mb G Y fa o pm cd doc dV kV ho hd hcd hD hmg hg args vals as hpre hlay hrd hwl hlo
  obtain rfl : dV = .none := Dflts.none hD hdf
  obtain rfl : kV = .none := Dflts.noKw hD
  obtain ⟨a, vs, ns, rfl, rfl, hobj, hints, hlen⟩ := script_of hn hpre hwl
  refine enter_call (codeAny_mono (call w s₀ s₁ mg mb fa o pm cd doc a vs ns G Y ho (fd_plain hd) hcd hmg hobj hints hlen hg) fun r s' hq => ?_)
  obtain ⟨rfl, h2, h3, h4⟩ := hq
  exact ⟨.inl ⟨.bool true, .bool true, [], rfl, fun _ => rfl, .bool true, post_true l _, fun _ => ⟨List.Pairwise.nil, fun _ hm => (nomatch hm)⟩⟩, h2, h3, h4⟩

section
variable {prog : Program} {w : World} {A : Around} {E : Value → Shared → Prop} {s : Shared} {K : Frag}

/-- C(..): dict at size, instance at size + 1, then __init__ -/
theorem make_obj {R : Result → Shared → Prop} {C fI : Addr} {rest : List Value} {kw : List (Str × Value)}
    (X : K.In s.heap) (hm : makesIn K C = true) (hi : findIn K (.ref C) "__init__" = some (some (.ref fI))) (hf : isFn K (.ref fI) = true)
    (h : codeAny (model prog w) (A.under (.builtin "type.__call__" ⟨.ref C :: rest, kw⟩)) (.call (.ref fI) ⟨.ref (s.heap.objs.size + 1) :: rest, kw⟩) (InitBack (s.heap.objs.size + 1) R)
      { s with heap := (s.heap.push emptyDict).push (instObj C s.heap.objs.size) }) : codeAny (model prog w) A (.call (.ref C) ⟨rest, kw⟩) R s := by
  obtain ⟨hh, g, d, t, os⟩ := s
  exact make_core (makes_of X hm) (looks_findIn X hi) (fun self => bind_fn X self (beq_iff_eq.mp hf)) (.inl rfl) h

/-- x.name where the instance's dict holds the name and the class does not -/
theorem get_field {x C : Addr} {ox : Obj} {es : List DictEntry} {n : Nat} {name : Str} {expr : Bool} {v : Value} {Q : Value → Shared → Prop}
    (X : K.In s.heap) (I : PySem.W.InstAt s.heap x ox C (some (dictOf es n))) (hg : plainGet K C name = true) (hh : hasDictIn K C = true) (ha : findIn K (.ref C) name = some none)
    (hl : getL name es = some (some v)) (hv : handedIn v = true) (h : Q v { s with toks := s.toks + 1 }) : wpAny (model prog w) A (getAttr (.ref x) name expr) Q E s :=
  get_value X I (plainGet_of hg).1 (findObj_own hh ha rfl hl) hv h

def ledger (h : Heap) (L d : Addr) : List (Addr × Obj) := (List.range h.objs.size).filterMap fun a => if a = L ∨ a = d then none else (h.get? a).map fun o => (a, o)
end
end Att

namespace L2
open PySem PySem.Spec PyProof.Rows

theorem vals_ints : ∀ {vs : List Value} {ns : List Int}, IntsAre vs ns → Vals (ns.map V.int) vs
  | _, _, .nil => .nil
  | _, _, .cons n t h => .cons ⟨t, rfl⟩ (vals_ints h)

/-- nothing is tracked but the script, known to the object (or it is an object of the module) -/
def Only (H : Hp) : Prop := ∀ b, H b = none ∨ ∃ o xs, H b = some (.frz o (.lst xs))

/-- THE HEAD: the law's promise, at the heap behind the top. F, the promise of the law's def, may use that base is part of the heap (so K.In base, base.Ns mainGlobals mg stand in Mod) -/
theorem law_call {P : Program} {w : World} {K : PySem.W.Frag} {mg mb : Str → Option Value} {CX : CXT} {k : Nat} {fa a : Addr} {fd : FuncData} {x : Str} {sp : Sp} {s₁ : Shared} {vs : List Value} {ns : List Int}
    (KX : K.In s₁.heap) (hns : s₁.heap.Ns mainGlobals mg) (hb : s₁.heap.Ns builtinsNs mb) (hbb : ∀ x : Str, x ≠ "__name__" → mb x = bootBuiltins x) (hlim : s₁.heap.NoLimit) (hg : s₁.gens = #[])
    (ha : s₁.heap.get? a = some { cls := .type "list", data := .seq vs.toArray }) (hi : IntsAre vs ns) (hl : ns.length ≤ sizeLine) (hr : Room k callerA)
    (F : ∀ base : Heap, K.In base → base.Ns mainGlobals mg → FnOk P w K mg base CX k fa fd [x] sp) (hbind : ∀ (s : Shared) (u : Value), BindsTo s fd ⟨[u], []⟩ [(x, u)])
    (hsp : ∀ H : Hp, Only H → SqL K H a (ns.map V.int) → sp [.ref a] H (fun v _ => v = .bl true) fun _ _ _ => False)
    (hCX : ∀ H e s', CX [] H s₁ (fun _ _ _ => False) e s' → False) :
    codeAny (model P w) callerA (.call (.ref fa) ⟨[.ref a], []⟩) (fun r s' => r = .ok (.ret (.bool true)) ∧ OldK s₁.heap s'.heap ∧ s'.os = s₁.os ∧ AllBare s'.gens) s₁ := by
  have rv := vals_ints hi
  have lenV := hi.length
  -- from an abstract heap in which nothing but the script may be tracked
  have core : ∀ H : Hp, Only H → SqL K H a (ns.map V.int) → HOk P w H s₁.heap → (∀ b, H b ≠ none → b = a) → (H a ≠ none → K.lookup a = none) →
      codeAny (model P w) callerA (.call (.ref fa) ⟨[.ref a], []⟩) (fun r s' => r = .ok (.ret (.bool true)) ∧ OldK s₁.heap s'.heap ∧ s'.os = s₁.os ∧ AllBare s'.gens) s₁ := by
    intro H hO hS hok hA hK
    have base_of : ∀ {b : Addr} {o : Obj}, s₁.heap.get? b = some o → H b = none → (hidT s₁.heap H).get? b = some o := fun e n => hidT_get e n
    have noA : ∀ {b : Addr} {o : Obj} {es : Array DictEntry} {ep : Nat}, s₁.heap.get? b = some o → o.data = .dict es ep → H b = none := fun {b o es ep} e d => by
      cases q : H b with
      | none => rfl
      | some u =>
        have e' : b = a := hA b (by rw [q]; simp)
        subst e'
        rw [ha] at e; cases e
        have d' : Data.seq vs.toArray _ = Data.dict es ep := d
        cases d'
    have nsK : ∀ {b : Addr} {m : Str → Option Value}, s₁.heap.Ns b m → (hidT s₁.heap H).Ns b m := fun {b m} ⟨o, es, ep, e, d, r⟩ => ⟨o, es, ep, base_of e (noA e d), d, r⟩
    have hKb : K.In (hidT s₁.heap H) := fun b o e => base_of (KX b o e) (by
      cases q : H b with
      | none => rfl
      | some u =>
        have e' : b = a := hA b (by rw [q]; simp)
        subst e'
        rw [hK (by rw [q]; simp)] at e; cases e)
    have hM : Mod K mg (hidT s₁.heap H) := ⟨hKb, nsK hns, ⟨mb, nsK hb, hbb⟩, let ⟨mc, h1, h2⟩ := hlim; ⟨mc, nsK h1, h2⟩⟩
    have e0 : Env0 P w K mg (hidT s₁.heap H) callerA [] s₁ H := ⟨rfl, hM, fun b o e => of_hidT e, Nat.le_of_eq (hidT_size _ _), trivial, fun b hb => absurd (show b ∈ ([] : List Addr) from hb) (by simp), hok, .of_eq hg⟩
    refine codeAny_mono ((F _ hKb (nsK hns)).run callerA [] s₁ H ⟨[.ref a], []⟩ [.ref a] [.ref a] _ _ hr e0 (hbind s₁ (.ref a)) (.cons rfl .nil) (hsp H hO hS)) fun r s' h => ?_
    cases r with
    | error e => exact (hCX H e s' h).elim
    | ok fl =>
      cases fl with
      | next => exact False.elim h
      | brk => exact False.elim h
      | cont => exact False.elim h
      | ret u =>
        obtain ⟨v, H', os, bare, un, hok', r', q⟩ := h
        have q' : v = .bl true := q
        subst q'
        obtain rfl : u = Value.bool true := r'
        refine ⟨rfl, OldK.of_keep fun b o e => ?_, os, bare⟩
        cases q : H b with
        | none => exact un.keep b o e q (by intro z; exact absurd (show b ∈ ([] : List Addr) from z) (by simp)) (by simp)
        | some u =>
          rcases hO b with z | ⟨ob, xs, z⟩
          · rw [q] at z; cases z
          · have z2 := un.frzs b ob _ z
            obtain ⟨e1, _⟩ := hok b _ z
            obtain ⟨e2, _⟩ := hok' b _ z2
            rw [e] at e1; cases e1
            exact e2
  cases hk : K.lookup a with
  | some o =>
    -- the script is one of the module's own objects
    have e := KX a o hk
    rw [ha] at e
    cases e
    refine core (fun _ => none) (fun _ => .inl rfl) (.inr ⟨_, vs.toArray, _, hk, rfl, rfl, rfl, by rw [List.size_toArray, lenV]; exact hl, by simpa using rv⟩) (fun b u z => by have z' : (none : Option HO) = some u := z; cases z') (fun b z => absurd rfl z) fun z => absurd rfl z
  | none =>
    refine core (fun b => if b = a then some (.frz { cls := .type "list", data := .seq vs.toArray } (.lst (ns.map V.int))) else none) (fun b => ?_) (.inl (.inr ⟨{ cls := .type "list", data := .seq vs.toArray }, if_pos rfl⟩)) (fun b u z => ?_) (fun b z => ?_) fun _ => hk
    · by_cases hb : b = a
      · exact .inr ⟨_, _, if_pos hb⟩
      · exact .inl (if_neg hb)
    · by_cases hb : b = a
      · have z' := (if_pos hb).symm.trans z
        cases z'
        subst hb
        exact ⟨ha, by rw [List.length_map]; exact hl, vs, _, rv, ha⟩
      · have z' := (if_neg hb).symm.trans z
        cases z'
    · by_cases hb : b = a
      · exact hb
      · exact absurd (if_neg hb) z
end L2

namespace L2
open PySem PySem.Spec PyProof.Rows

abbrev KOf {K : PySem.W.Frag} {h : Heap} (_ : K.In h) : PySem.W.Frag := K

/-- the goal that k_head leaves (case hc), from the law's promise. F gives the function object fd (K's own) once, then the promise over every base -/
theorem walk_of {l : PySem.W.OpenLaw} {n k : Nat} {q : Program} {loose : List Str} {XP : (Str → Option Value) → Heap → Prop} {YP : World → Heap → Prop} {d : DefRec} {K : Params → PySem.W.Frag} {CX : World → CXT} {sp : World → Sp} {x : Str}
    (hn : l.most = some n) (hn2 : n ≤ sizeLine) (hdf : d.params.defaults = []) (hr : Room k callerA)
    (hY : ∀ (w : World) (h : Heap), YP w h → (K w.params).In h)
    (F : ∀ (w : World) (mg : Str → Option Value) (fa : Addr) (h : Heap), (K w.params).In h → h.Ns mainGlobals mg → mg d.name = some (.ref fa) →
      ∃ fd : FuncData, (∀ (s : Shared) (u : Value), BindsTo s fd ⟨[u], []⟩ [(x, u)]) ∧
        ∀ base : Heap, (K w.params).In base → base.Ns mainGlobals mg → FnOk l.prog w (K w.params) mg base (CX w) k fa fd [x] (sp w))
    (hsp : ∀ (w : World) (H : Hp) (a : Addr) (ns : List Int), ns.length ≤ n → Only H → SqL (K w.params) H a (ns.map V.int) → sp w [.ref a] H (fun v _ => v = .bl true) fun _ _ _ => False)
    (hCX : ∀ (w : World) (H : Hp) (s : Shared) (e : Value) (s' : Shared), CX w [] H s (fun _ _ _ => False) e s' → False) :
    PySem.W.WalkO q loose XP YP l.row.toRowW d [] (fun f vs => PySem.call f vs) := by
  refine Att.attach_call hn hdf fun w s₀ s₁ mg mb fa o pm cd doc a vs ns G Y ho hd hcd hmg hobj hints hlen hg => ?_
  have KX := hY w _ Y
  obtain ⟨fd, hb, hF⟩ := F w mg fa _ KX G.T.g hmg
  exact law_call KX G.T.g G.T.b G.T.builtins G.T.nolimit hg hobj hints (Nat.le_trans hlen hn2) hr hF hb (fun H hO hS => hsp w H a ns hlen hO hS) fun H e s' => hCX w H s₁ e s'
end L2

namespace L2
open PySem PySem.Spec PyProof.Rows

def defArgs (s : Stmt) : Arguments := match s with
  | .FunctionDef _ a _ _ _ _ _ _ _ _ => a
  | _ => { posonlyargs := [], args := [], vararg := none, kwonlyargs := [], kw_defaults := [], kwarg := none, defaults := [] }
def defBody (s : Stmt) : List Stmt := match s with
  | .FunctionDef _ _ b _ _ _ _ _ _ _ => b
  | _ => []
def defScope (s : Stmt) : Scope := match s with
  | .FunctionDef _ _ _ _ _ _ sc _ _ _ => sc
  | _ => { kind := .function, names := [], isGenerator := false, isCoroutine := false }

abbrev CX0 : CXT := fun _ _ _ _ _ _ => False
abbrev E0 : XK := fun _ _ _ => False
theorem pass0 {X : Cx} : Passes CX0 X E0 := fun _ _ _ _ _ _ _ h => h.elim

structure Fun (K : PySem.W.Frag) (x qual : Str) (st : Stmt) (f : Addr) (fd : FuncData) : Prop where
  ex : ∃ (oc : Value) (od : Option Addr) (kV doc pm : Value) (an : Option Addr) (cdv ct : Value) (osl : Array (Option Value)),
    fd = PySem.W.fnOf x qual (defArgs st) (defBody st) (defScope st) .none kV doc pm an cdv ct ∧ K.lookup f = some ⟨oc, od, .func fd, osl⟩ ∧ PySem.W.codeIn K cdv qual = true
  kp : PySem.W.keepIn K (.ref f) = true
section
variable {P : Program} {w : World} {K : PySem.W.Frag} {mg : Str → Option Value} {base : Heap}
/-- THE RULE for a def: its body as a term of rules, and the reading of that term -/
theorem Fun.ok {x qual : Str} {st : Stmt} {f : Addr} {fd : FuncData} {N ps : List Str} {k : Nat} {sp : Sp} (F : Fun K x qual st f fd) (S : FnScope N ps (defScope st)) (len : ∀ vs H Q E, sp vs H Q E → vs.length = ps.length)
    (hbody : ∀ (cdv : Value) (A : Around) (outer : List Env) (s : Shared) (H : Hp) (vs : List V) (Q : VK) (E : XK), Room k (A.deeper (envOfC qual (defScope st) s.heap.objs.size f cdv)) → sp vs H Q E →
      ∃ t, PSs (cxOf CX0 P w K mg base N qual (defScope st) f cdv A outer s H E).nox (defBody st) t ∧ t { nx := fun _ H' => Q .non H', rt := Q } (start N vs) H) : FnOk P w K mg base CX0 (k + 1) f fd ps sp := by
  obtain ⟨oc, od, kV, doc, pm, an, cdv, ct, osl, rfl, lk, hcd⟩ := F.ex
  refine fn_of lk hcd S len fun A outer s H vs Q E hr hsp => ?_
  obtain ⟨t, h, q⟩ := hbody cdv A outer s H vs Q E hr hsp
  exact ⟨t, h.nox, q⟩
/-- how its arguments bind (no defaults): h is «fun _ _ _ _ _ _ us hl => match us, hl with | [_, _], _ => rfl», one _ a parameter -/
theorem Fun.binds {x qual : Str} {st : Stmt} {f : Addr} {fd : FuncData} {ps : List Str} (F : Fun K x qual st f fd)
    (h : ∀ (kV doc pm : Value) (an : Option Addr) (cdv ct : Value) (us : List Value), us.length = ps.length → bindArgs (PySem.W.fnOf x qual (defArgs st) (defBody st) (defScope st) .none kV doc pm an cdv ct) ⟨us, []⟩ = pure (ps.zip us)) : Binds K fd ps [] := by
  obtain ⟨oc, od, kV, doc, pm, an, cdv, ct, osl, rfl, lk, hcd⟩ := F.ex
  exact .all (h kV doc pm an cdv ct)
end
theorem hu_of {A : Around} {k : Nat} (hr : Room k A) : A.units + 1 < cLine := Nat.lt_of_le_of_lt (Nat.add_le_add_left (by decide : 1 ≤ 64) _) hr.units
section
variable {X : Cx}
theorem pv (i : Nat) {x : Str} {pos : Pos} (hN : X.N[i]? = some x := by rfl) (hv : Vis X.env.scope x := by first | exact Or.inl rfl | exact Or.inr (Or.inl rfl) | exact Or.inr (Or.inr rfl)) (hd : (x == ("__debug__" : Str)) = false := by decide)
    (hcd : (x == ("__classdict__" : Str)) = false := by decide) : PE X (.Name x pos) (tVar i) := pe_var hN hv hd hcd
end

theorem iteF {A B : Prop} (h : B) : if false = true then A else B := by
  rw [if_neg Bool.false_ne_true]
  exact h
theorem iteT {A B : Prop} (h : A) : if true = true then A else B := by
  rw [if_pos rfl]
  exact h
theorem ite2 {c A B : Prop} [Decidable c] (h1 : c → A) (h2 : ¬ c → B) : if c then A else B := by
  by_cases h : c
  · rw [if_pos h]
    exact h1 h
  · rw [if_neg h]
    exact h2 h
/-- all that was tracked is as it was -/
def Same (H H' : Hp) : Prop := ∀ b o, H b = some o → H' b = some o
theorem Same.refl (H : Hp) : Same H H := fun _ _ h => h
theorem Same.trans {H H1 H2 : Hp} (a : Same H H1) (b : Same H1 H2) : Same H H2 := fun c o h => b c o (a c o h)
theorem Same.free {H H' : Hp} (e : Same H H') {l : Addr} (h : H' l = Option.none) : H l = Option.none := by
  cases q : H l with
  | none => rfl
  | some o =>
    rw [e l o q] at h
    cases h
theorem Same.seq {K : PySem.W.Frag} {H H' : Hp} {a : Addr} {xs : List V} (e : Same H H') (h : SqL K H a xs) : SqL K H' a xs := by
  rcases h with (h | ⟨o, h⟩) | h
  · exact .inl (.inl (e _ _ h))
  · exact .inl (.inr ⟨o, e _ _ h⟩)
  · exact .inr h

section
variable {κ : Type} [DecidableEq κ]
end
/-- a new instance and its __init__ leave all that was tracked as it was -/
theorem Same.made {H H1 : Hp} {x dx C : Addr} (nx : H x = Option.none) (nd : H dx = Option.none) (k : ∀ b o, (upd (upd H dx (.own x)) x (.ins C dx [])) b = some o → b ≠ x → H1 b = some o) : Same H H1 := fun b o e =>
  k b o (by rw [upd_ne (ne_of_none e nx), upd_ne (ne_of_none e nd)]; exact e) (ne_of_none e nx)
end L2

set_option maxHeartbeats 4000000
namespace CW
open PySem PySem.Spec PyProof.Rows L2

inductive D where
  | non | bl (b : Bool) | int (i : Int) | str (x : Str) | tup (xs : List D) | fl (xs : List D) | ref (l : Nat) | fn (x : Str)
inductive Cell where
  | lst (xs : List D) | dct (kvs : List (Key × D)) | obj (c : Str) (fs : List (Str × D)) | dcn (kvs : List (D × D)) | lck (kvs : List (Key × D))
abbrev Mu := List Cell
abbrev Env := List (Option D)
abbrev St := L2.St

/-- a list that never changes -/
def Fz (K : PySem.W.Frag) (H : Hp) (a : Addr) (xs : List V) : Prop :=
  (∃ o, H a = some (.frz o (.lst xs))) ∨ ∀ H', SqL K H' a xs
theorem Fz.sq {K : PySem.W.Frag} {H : Hp} {a : Addr} {xs : List V} (h : Fz K H a xs) : SqL K H a xs := by
  rcases h with ⟨o, h⟩ | h
  · exact .inl (.inr ⟨o, h⟩)
  · exact h H
/-- what stays through every step -/
structure Ext (R : List Addr) (H : Hp) (R' : List Addr) (H' : Hp) : Prop where
  pre : ∃ t, R' = R ++ t
  tups : ∀ a xs, H a = some (.tup xs) → H' a = some (.tup xs)
  frzs : ∀ a o u, H a = some (.frz o u) → H' a = some (.frz o u)
theorem Ext.refl {R : List Addr} {H : Hp} : Ext R H R H := ⟨⟨[], by simp⟩, fun _ _ h => h, fun _ _ _ h => h⟩
theorem Ext.trans {R R1 R2 : List Addr} {H H1 H2 : Hp} (a : Ext R H R1 H1) (b : Ext R1 H1 R2 H2) : Ext R H R2 H2 := by
  obtain ⟨t, rfl⟩ := a.pre
  obtain ⟨u, rfl⟩ := b.pre
  exact ⟨⟨t ++ u, by simp⟩, fun x xs h => b.tups x xs (a.tups x xs h), fun x o u h => b.frzs x o u (a.frzs x o u h)⟩
theorem Ext.sqT {K : PySem.W.Frag} {R R1 : List Addr} {H H1 : Hp} (e : Ext R H R1 H1) {a : Addr} {xs : List V} (h : SqT K H a xs) : SqT K H1 a xs := by
  rcases h with (h | ⟨o, h⟩) | h
  · exact .inl (.inl (e.tups a xs h))
  · exact .inl (.inr ⟨o, e.frzs a o _ h⟩)
  · exact .inr h
theorem Ext.fz {K : PySem.W.Frag} {R R1 : List Addr} {H H1 : Hp} (e : Ext R H R1 H1) {a : Addr} {xs : List V} (h : Fz K H a xs) : Fz K H1 a xs := by
  rcases h with ⟨o, h⟩ | h
  · exact .inl ⟨o, e.frzs a o _ h⟩
  · exact .inr h
theorem Ext.get {R R1 : List Addr} {H H1 : Hp} (e : Ext R H R1 H1) {l : Nat} {a : Addr} (h : R[l]? = some a) : R1[l]? = some a := by
  obtain ⟨t, rfl⟩ := e.pre
  have hl : l < R.length := (List.getElem?_eq_some_iff.mp h).1
  rw [List.getElem?_append_left hl]; exact h

mutual
inductive RD (K : PySem.W.Frag) (R : List Addr) (H : Hp) : D → V → Prop
  | non : RD K R H .non .non
  | bl (b : Bool) : RD K R H (.bl b) (.bl b)
  | int (i : Int) : RD K R H (.int i) (.int i)
  | str (x : Str) : RD K R H (.str x) (.str x)
  | tup {a : Addr} {ds : List D} {vs : List V} : SqT K H a vs → RDs K R H ds vs → RD K R H (.tup ds) (.ref a)
  | fl {a : Addr} {ds : List D} {vs : List V} : Fz K H a vs → RDs K R H ds vs → RD K R H (.fl ds) (.ref a)
  | ref {l : Nat} {a : Addr} : R[l]? = some a → RD K R H (.ref l) (.ref a)
  | fn {x : Str} {a : Addr} : PySem.W.nsIn K mainGlobals x = some (some (.ref a)) → RD K R H (.fn x) (.ref a)
inductive RDs (K : PySem.W.Frag) (R : List Addr) (H : Hp) : List D → List V → Prop
  | nil : RDs K R H [] []
  | cons {d : D} {v : V} {ds : List D} {vs : List V} : RD K R H d v → RDs K R H ds vs → RDs K R H (d :: ds) (v :: vs)
end

section
variable {K : PySem.W.Frag} {R R' : List Addr} {H H' : Hp}
mutual
theorem RD.ext (e : Ext R H R' H') : ∀ {d : D} {v : V}, RD K R H d v → RD K R' H' d v
  | _, _, .non => .non
  | _, _, .bl b => .bl b
  | _, _, .int i => .int i
  | _, _, .str x => .str x
  | _, _, .tup h r => .tup (e.sqT h) (RDs.ext e r)
  | _, _, .fl h r => .fl (e.fz h) (RDs.ext e r)
  | _, _, .ref h => .ref (e.get h)
  | _, _, .fn h => .fn h
theorem RDs.ext (e : Ext R H R' H') : ∀ {ds : List D} {vs : List V}, RDs K R H ds vs → RDs K R' H' ds vs
  | _, _, .nil => .nil
  | _, _, .cons r t => .cons (RD.ext e r) (RDs.ext e t)
end
theorem RDs.length : ∀ {ds : List D} {vs : List V}, RDs K R H ds vs → ds.length = vs.length
  | _, _, .nil => rfl
  | _, _, .cons _ t => by simp [RDs.length t]
theorem RDs.get : ∀ {ds : List D} {vs : List V} {i : Nat} {d : D}, RDs K R H ds vs → ds[i]? = some d → ∃ v, vs[i]? = some v ∧ RD K R H d v
  | _, _, _, _, .nil, e => by simp at e
  | _, _, 0, _, .cons r _, e => by simp at e; subst e; exact ⟨_, rfl, r⟩
  | _, _, i + 1, d, .cons _ t, e => by
    obtain ⟨v, h1, h2⟩ := RDs.get (i := i) (d := d) t (by simpa using e)
    exact ⟨v, by simpa using h1, h2⟩
theorem RDs.append : ∀ {ds es : List D} {vs us : List V}, RDs K R H ds vs → RDs K R H es us → RDs K R H (ds ++ es) (vs ++ us)
  | _, _, _, _, .nil, s => s
  | _, _, _, _, .cons r t, s => .cons r (RDs.append t s)
theorem RDs.set {d : D} {v : V} (r : RD K R H d v) : ∀ {ds : List D} {vs : List V} (i : Nat), RDs K R H ds vs → RDs K R H (ds.set i d) (vs.set i v)
  | _, _, _, .nil => .nil
  | _, _, 0, .cons _ t => .cons r t
  | _, _, i + 1, .cons q t => .cons q (RDs.set r i t)
theorem RDs.take : ∀ {ds : List D} {vs : List V} (n : Nat), RDs K R H ds vs → RDs K R H (ds.take n) (vs.take n)
  | _, _, 0, _ => .nil
  | _, _, _ + 1, .nil => .nil
  | _, _, n + 1, .cons r t => .cons r (RDs.take n t)
theorem RDs.drop : ∀ {ds : List D} {vs : List V} (n : Nat), RDs K R H ds vs → RDs K R H (ds.drop n) (vs.drop n)
  | _, _, 0, r => r
  | _, _, _ + 1, .nil => .nil
  | _, _, n + 1, .cons _ t => RDs.drop n t
theorem RDs.ints : ∀ (ns : List Int), RDs K R H (ns.map D.int) (ns.map V.int)
  | [] => .nil
  | n :: ns => .cons (.int n) (RDs.ints ns)
end

/-- dict's pairs -/
inductive RKs (K : PySem.W.Frag) (R : List Addr) (H : Hp) : List (Key × D) → List (Key × V) → Prop
  | nil : RKs K R H [] []
  | cons {k : Key} {d : D} {v : V} {ds : List (Key × D)} {vs : List (Key × V)} : RD K R H d v → RKs K R H ds vs → RKs K R H ((k, d) :: ds) ((k, v) :: vs)
theorem RKs.ext {K : PySem.W.Frag} {R R' : List Addr} {H H' : Hp} (e : Ext R H R' H') : ∀ {ds : List (Key × D)} {vs : List (Key × V)}, RKs K R H ds vs → RKs K R' H' ds vs
  | _, _, .nil => .nil
  | _, _, .cons r t => .cons (r.ext e) (RKs.ext e t)

/-- an object's attributes -/
inductive RFs (K : PySem.W.Frag) (R : List Addr) (H : Hp) : List (Str × D) → List (Str × V) → Prop
  | nil : RFs K R H [] []
  | cons {f : Str} {d : D} {v : V} {ds : List (Str × D)} {vs : List (Str × V)} : RD K R H d v → RFs K R H ds vs → RFs K R H ((f, d) :: ds) ((f, v) :: vs)
theorem RFs.ext {K : PySem.W.Frag} {R R' : List Addr} {H H' : Hp} (e : Ext R H R' H') : ∀ {ds : List (Str × D)} {vs : List (Str × V)}, RFs K R H ds vs → RFs K R' H' ds vs
  | _, _, .nil => .nil
  | _, _, .cons r t => .cons (r.ext e) (RFs.ext e t)

/-- keys that are nested tuples -/
def nkD : Nat → D → Option PyData
  | _, .non => some .none
  | _, .int i => some (.int i)
  | _, .str x => if PyData.strOk x = true then some (.str x) else none
  | n + 1, .tup xs => (xs.mapM (nkD n)).map .tuple
  | _, _ => none
inductive RNs (K : PySem.W.Frag) (R : List Addr) (H : Hp) : List (D × D) → List (PyData × Addr × V) → Prop
  | nil : RNs K R H [] []
  | cons {d v : D} {k : PyData} {q : Addr} {u : V} {ds : List (D × D)} {vs : List (PyData × Addr × V)} : nkD 8 d = some k → RD K R H d (.ref q) → RD K R H v u → RNs K R H ds vs → RNs K R H ((d, v) :: ds) ((k, q, u) :: vs)
theorem RNs.ext {K : PySem.W.Frag} {R R' : List Addr} {H H' : Hp} (e : Ext R H R' H') : ∀ {ds : List (D × D)} {vs : List (PyData × Addr × V)}, RNs K R H ds vs → RNs K R' H' ds vs
  | _, _, .nil => .nil
  | _, _, .cons g r s t => .cons g (r.ext e) (s.ext e) (RNs.ext e t)

def CellOk (K : PySem.W.Frag) (R : List Addr) (H : Hp) : Cell → Addr → Prop
  | .lst ds, a => ∃ vs, H a = some (.lst vs) ∧ RDs K R H ds vs
  | .dct ks, a => ∃ vs, H a = some (.dK vs) ∧ RKs K R H ks vs
  | .obj c fs, a => ∃ C dx vs, H a = some (.ins C dx vs) ∧ PySem.W.nsIn K mainGlobals c = some (some (.ref C)) ∧ RFs K R H fs vs
  | .dcn ks, a => ∃ vs, H a = some (.dN vs) ∧ RNs K R H ks vs
  | .lck ks, a => ∃ o vs, H a = some (.frz o (.dK vs)) ∧ RKs K R H ks vs
/-- what a cell may be: what may be written, or a locked dict -/
def Cel : Option HO → Prop
  | some (.frz _ (.dK _)) => True
  | o => Mut o
theorem Cel.of {o : HO} (h : Mut (some o)) : Cel (some o) := by
  cases o <;> first | exact h | exact h.elim
theorem mut_of {H : Hp} {a : Addr} {o : HO} (e : H a = some o) (m : Mut (some o)) : Mut (H a) := by rw [e]; exact m
theorem CellOk.some {K : PySem.W.Frag} {R : List Addr} {H : Hp} {c : Cell} {a : Addr} (h : CellOk K R H c a) : ∃ o, H a = some o ∧ Cel (some o) := by
  cases c with
  | lst ds => obtain ⟨vs, h, _⟩ := h; exact ⟨_, h, trivial⟩
  | dct ds => obtain ⟨vs, h, _⟩ := h; exact ⟨_, h, trivial⟩
  | obj c fs => obtain ⟨C, dx, vs, h, _⟩ := h; exact ⟨_, h, trivial⟩
  | dcn ds => obtain ⟨vs, h, _⟩ := h; exact ⟨_, h, trivial⟩
  | lck ds => obtain ⟨o, vs, h, _⟩ := h; exact ⟨_, h, trivial⟩
theorem CellOk.move {K : PySem.W.Frag} {R R' : List Addr} {H H' : Hp} {c : Cell} {a : Addr} (h : CellOk K R H c a) (e : Ext R H R' H') (s : H' a = H a) : CellOk K R' H' c a := by
  cases c with
  | lst ds => obtain ⟨vs, h, r⟩ := h; exact ⟨vs, s.trans h, r.ext e⟩
  | dct ds => obtain ⟨vs, h, r⟩ := h; exact ⟨vs, s.trans h, r.ext e⟩
  | obj c fs => obtain ⟨C, dx, vs, h, n, r⟩ := h; exact ⟨C, dx, vs, s.trans h, n, r.ext e⟩
  | dcn ds => obtain ⟨vs, h, r⟩ := h; exact ⟨vs, s.trans h, r.ext e⟩
  | lck ds => obtain ⟨o, vs, h, r⟩ := h; exact ⟨o, vs, s.trans h, r.ext e⟩

def tabOf (vs : Array Value) : Option Addr := match vs.getD 11 .none, vs.getD 18 .none, vs.getD 7 .none, vs.getD 9 .none, vs.getD 10 .none with
  | .ref P, .str _ _, .int _ _, .bool _, .int _ _ => some P
  | _, _, _, _, _ => none
/-- a def of the text, its code at c, the code's table at P -/
structure FnTab (K : PySem.W.Frag) (c P : Addr) : Prop where
  ex : ∃ (f : Addr) (oc : Value) (od : Option Addr) (fd : FuncData) (sl : Array (Option Value)) (od2 : Option Addr) (vs : Array Value) (sl2 : Array (Option Value)),
    K.lookup f = some ⟨oc, od, .func fd, sl⟩ ∧ fd.code = .ref c ∧ K.lookup c = some ⟨.type "code", od2, .fields vs, sl2⟩ ∧ tabOf vs = some P
def TbOk (K : PySem.W.Frag) (H : Hp) : Prop := ∀ c P, FnTab K c P → ∃ ps : Array Value, H P = some (.tbl ps) ∧ TriplesOk ps.toList
theorem TbOk.laid {K : PySem.W.Frag} {H : Hp} (h : TbOk K H) {p : Addr} {o : HO} (hp : H p = none) : TbOk K (upd H p o) := fun c P t => by
  obtain ⟨ps, e, q⟩ := h c P t
  exact ⟨ps, by rw [upd_ne (ne_of_none e hp)]; exact e, q⟩
theorem TbOk.write {K : PySem.W.Frag} {H : Hp} (h : TbOk K H) {p : Addr} {o : HO} (mu : Mut (H p)) : TbOk K (upd H p o) := fun c P t => by
  obtain ⟨ps, e, q⟩ := h c P t
  exact ⟨ps, by rw [upd_ne (fun z => by subst z; rw [e] at mu; exact mu)]; exact e, q⟩
theorem TbOk.table {K : PySem.W.Frag} {H : Hp} (h : TbOk K H) {p : Addr} {ps : Array Value} (q : TriplesOk ps.toList) : TbOk K (upd H p (.tbl ps)) := fun c P t => by
  by_cases z : P = p
  · subst z; exact ⟨ps, upd_same, q⟩
  · obtain ⟨ps', e, q'⟩ := h c P t
    exact ⟨ps', by rw [upd_ne z]; exact e, q'⟩

structure HR (K : PySem.W.Frag) (R : List Addr) (H : Hp) (μ : Mu) : Prop where
  len : R.length = μ.length
  nd : R.Nodup
  tb : TbOk K H
  cell : ∀ (l : Nat) (a : Addr) (c : Cell), R[l]? = some a → μ[l]? = some c → CellOk K R H c a
section
variable {K : PySem.W.Frag} {R R' : List Addr} {H H' : Hp} {μ μ' : Mu}
theorem HR.at_ (h : HR K R H μ) {l : Nat} {c : Cell} (e : μ[l]? = some c) : ∃ a, R[l]? = some a ∧ CellOk K R H c a := by
  have hl : l < μ.length := (List.getElem?_eq_some_iff.mp e).1
  have hl' : l < R.length := by rw [h.len]; exact hl
  exact ⟨_, List.getElem?_eq_getElem hl', h.cell l _ c (List.getElem?_eq_getElem hl') e⟩
theorem HR.cellAt (h : HR K R H μ) {l : Nat} {a : Addr} {c : Cell} (e : μ[l]? = some c) (ea : R[l]? = some a) : CellOk K R H c a := h.cell l a c ea e
theorem HR.mem (h : HR K R H μ) {a : Addr} (ha : a ∈ R) : ∃ o, H a = some o ∧ Cel (some o) := by
  obtain ⟨l, hl, e⟩ := List.getElem_of_mem ha
  have hm : l < μ.length := by rw [← h.len]; exact hl
  exact (h.cell l a _ (by rw [List.getElem?_eq_getElem hl, e]) (List.getElem?_eq_getElem hm)).some
theorem HR.notin (h : HR K R H μ) {p : Addr} (hp : H p = none) : p ∉ R := fun z => by
  obtain ⟨o, e, _⟩ := h.mem z
  rw [hp] at e; cases e
/-- a tuple (or anything that is no cell) is laid -/
theorem ext_laid {p : Addr} {o : HO} (hp : H p = none) : Ext R H R (upd H p o) :=
  ⟨⟨[], by simp⟩, fun a xs h => by rw [upd_ne (ne_of_none h hp)]; exact h, fun a ob u h => by rw [upd_ne (ne_of_none h hp)]; exact h⟩
theorem HR.laid (h : HR K R H μ) {p : Addr} {o : HO} (hp : H p = none) : HR K R (upd H p o) μ :=
  ⟨h.len, h.nd, h.tb.laid hp, fun l a c e1 e2 => (h.cell l a c e1 e2).move (ext_laid hp) (by
    have := h.notin hp
    rw [upd_ne (show a ≠ p from fun z => this (z ▸ List.mem_of_getElem? e1))])⟩
/-- a cell is laid -/
theorem ext_new {p : Addr} {o : HO} (hp : H p = none) : Ext R H (R ++ [p]) (upd H p o) :=
  ⟨⟨[p], rfl⟩, (ext_laid (R := R) hp).tups, (ext_laid (R := R) hp).frzs⟩
theorem HR.new (h : HR K R H μ) {p : Addr} {o : HO} {c : Cell} (hp : H p = none) (ok : CellOk K (R ++ [p]) (upd H p o) c p) : HR K (R ++ [p]) (upd H p o) (μ ++ [c]) := by
  have np := h.notin hp
  refine ⟨by simp [h.len], ?_, h.tb.laid hp, fun l a d e1 e2 => ?_⟩
  · rw [List.nodup_append]
    exact ⟨h.nd, by simp, fun a ha b hb => by simp at hb; subst hb; exact fun z => np (z ▸ ha)⟩
  · by_cases hl : l < R.length
    · rw [List.getElem?_append_left hl] at e1
      rw [List.getElem?_append_left (by rw [← h.len]; exact hl)] at e2
      exact (h.cell l a d e1 e2).move (ext_new hp) (by rw [upd_ne (show a ≠ p from fun z => np (z ▸ List.mem_of_getElem? e1))])
    · have hl2 : l = R.length := by
        have := (List.getElem?_eq_some_iff.mp e1).1
        simp at this; omega
      subst hl2
      rw [List.getElem?_append_right (Nat.le_refl _)] at e1
      rw [List.getElem?_append_right (by rw [h.len]; exact Nat.le_refl _)] at e2
      simp [h.len] at e1 e2
      subst e1; subst e2
      exact ok
/-- a cell is written -/
theorem ext_write {p : Addr} {o : HO} (h : HR K R H μ) (hp : p ∈ R) (mu : Mut (H p) := by refine mut_of (by assumption) ?_; trivial) : Ext R H R (upd H p o) := by
  obtain ⟨u, e, _⟩ := h.mem hp
  have m : Mut (some u) := by rw [← e]; exact mu
  refine ⟨⟨[], by simp⟩, fun a xs q => ?_, fun a ob v q => ?_⟩
  · by_cases z : a = p
    · subst z; rw [q] at e; cases e; exact m.elim
    · rw [upd_ne z]; exact q
  · by_cases z : a = p
    · subst z; rw [q] at e; cases e; exact m.elim
    · rw [upd_ne z]; exact q
theorem HR.write (h : HR K R H μ) {p : Addr} {o : HO} {c : Cell} {l : Nat} (hp : R[l]? = some p) (ok : CellOk K R (upd H p o) c p) (mu : Mut (H p) := by refine mut_of (by assumption) ?_; trivial) : HR K R (upd H p o) (μ.set l c) := by
  refine ⟨by simp [h.len], h.nd, h.tb.write mu, fun j a d e1 e2 => ?_⟩
  have pm := List.mem_of_getElem? hp
  by_cases hj : j = l
  · subst hj
    rw [hp] at e1; cases e1
    have hlt : j < μ.length := by rw [← h.len]; exact (List.getElem?_eq_some_iff.mp hp).1
    rw [List.getElem?_set_self hlt] at e2; cases e2
    exact ok
  · rw [List.getElem?_set_ne (Ne.symm hj)] at e2
    refine (h.cell j a d e1 e2).move (ext_write h pm mu) (by
      refine upd_ne (show a ≠ p from fun z => ?_)
      subst z
      obtain ⟨h1, e1'⟩ := List.getElem?_eq_some_iff.mp e1
      obtain ⟨h2, e2'⟩ := List.getElem?_eq_some_iff.mp hp
      exact hj ((List.getElem_inj h.nd).mp (e1'.trans e2'.symm)))
end

structure RE (K : PySem.W.Frag) (R : List Addr) (H : Hp) (env : Env) (σ : St) : Prop where
  len : env.length = σ.length
  val : ∀ (i : Nat) (d : D), env[i]? = some (some d) → ∃ v, σ[i]? = some (some v) ∧ RD K R H d v
structure Rel (K : PySem.W.Frag) (R : List Addr) (H : Hp) (μ : Mu) (env : Env) (σ : St) : Prop where
  hp : HR K R H μ
  en : RE K R H env σ
section
variable {K : PySem.W.Frag} {R R' : List Addr} {H H' : Hp} {μ μ' : Mu} {env : Env} {σ : St}
theorem RE.ext (h : RE K R H env σ) (e : Ext R H R' H') : RE K R' H' env σ := ⟨h.len, fun i d q => let ⟨v, h1, h2⟩ := h.val i d q; ⟨v, h1, h2.ext e⟩⟩
theorem Rel.ext (h : Rel K R H μ env σ) (e : Ext R H R' H') (hr : HR K R' H' μ') : Rel K R' H' μ' env σ := ⟨hr, h.en.ext e⟩
theorem RE.set (h : RE K R H env σ) {d : D} {v : V} (r : RD K R H d v) (i : Nat) : RE K R H (env.set i (some d)) (σ.set i (some v)) := by
  refine ⟨by simp [h.len], fun j e q => ?_⟩
  by_cases hj : j = i
  · subst hj
    have hlt : j < env.length := by have := (List.getElem?_eq_some_iff.mp q).1; simpa using this
    rw [List.getElem?_set_self hlt] at q
    cases q
    exact ⟨v, List.getElem?_set_self (by rw [← h.len]; exact hlt), r⟩
  · rw [List.getElem?_set_ne (Ne.symm hj)] at q
    obtain ⟨u, h1, h2⟩ := h.val j e q
    exact ⟨u, by rw [List.getElem?_set_ne (Ne.symm hj)]; exact h1, h2⟩
end

abbrev Sm := Env → Mu → Option (D × Mu)
abbrev Tm := Env → Mu → Option (Bool × Mu)
abbrev Am := Env → Mu → Option (List D × Mu)
inductive Fl where
  | nx (env : Env) | rt (d : D) | bk (env : Env) | ct (env : Env)
abbrev Bm := Env → Mu → Option (Fl × Mu)
abbrev Gm := D → Env → Mu → Option (Env × Mu)

def Adq (K : PySem.W.Frag) (t : TE) (f : Sm) : Prop :=
  ∀ {R : List Addr} {H : Hp} {μ : Mu} {env : Env} {σ : St} {d : D} {μ' : Mu}, Rel K R H μ env σ → f env μ = some (d, μ') → ∀ {Q : VK}, (∀ v H' R', Ext R H R' H' → HR K R' H' μ' → RD K R' H' d v → Q v H') → t σ H Q
def AdqT (K : PySem.W.Frag) (t : TT) (f : Tm) : Prop :=
  ∀ {R : List Addr} {H : Hp} {μ : Mu} {env : Env} {σ : St} {b : Bool} {μ' : Mu}, Rel K R H μ env σ → f env μ = some (b, μ') → ∀ {Q : Bool → Hp → Prop}, (∀ H' R', Ext R H R' H' → HR K R' H' μ' → Q b H') → t σ H Q
def AdqA (K : PySem.W.Frag) (t : TA) (f : Am) : Prop :=
  ∀ {R : List Addr} {H : Hp} {μ : Mu} {env : Env} {σ : St} {ds : List D} {μ' : Mu}, Rel K R H μ env σ → f env μ = some (ds, μ') → ∀ {Q : List V → Hp → Prop}, (∀ vs H' R', Ext R H R' H' → HR K R' H' μ' → RDs K R' H' ds vs → Q vs H') → t σ H Q
def Post (K : PySem.W.Frag) (R : List Addr) (H : Hp) (μ' : Mu) (E : Ends) : Fl → Prop
  | .nx env => ∀ σ' H' R', Ext R H R' H' → Rel K R' H' μ' env σ' → E.nx σ' H'
  | .bk env => ∀ σ' H' R', Ext R H R' H' → Rel K R' H' μ' env σ' → E.bk σ' H'
  | .ct env => ∀ σ' H' R', Ext R H R' H' → Rel K R' H' μ' env σ' → E.ct σ' H'
  | .rt d => ∀ v H' R', Ext R H R' H' → HR K R' H' μ' → RD K R' H' d v → E.rt v H'
theorem Post.ext {K : PySem.W.Frag} {R R' : List Addr} {H H' : Hp} {μ' : Mu} {E : Ends} {fl : Fl} (p : Post K R H μ' E fl) (e : Ext R H R' H') : Post K R' H' μ' E fl := by
  cases fl with
  | nx env => exact fun σ2 H2 R2 e2 r => p σ2 H2 R2 (e.trans e2) r
  | bk env => exact fun σ2 H2 R2 e2 r => p σ2 H2 R2 (e.trans e2) r
  | ct env => exact fun σ2 H2 R2 e2 r => p σ2 H2 R2 (e.trans e2) r
  | rt d => exact fun v H2 R2 e2 h r => p v H2 R2 (e.trans e2) h r
def AdqS (K : PySem.W.Frag) (t : TS) (f : Bm) : Prop :=
  ∀ {R : List Addr} {H : Hp} {μ : Mu} {env : Env} {σ : St} {fl : Fl} {μ' : Mu}, Rel K R H μ env σ → f env μ = some (fl, μ') → ∀ {E : Ends}, Post K R H μ' E fl → t E σ H
def AdqG (K : PySem.W.Frag) (t : TG) (f : Gm) : Prop :=
  ∀ {R : List Addr} {H : Hp} {μ : Mu} {env env' : Env} {σ : St} {d : D} {v : V} {μ' : Mu}, Rel K R H μ env σ → RD K R H d v → f d env μ = some (env', μ') → ∀ {Q : St → Hp → Prop}, (∀ σ' H' R', Ext R H R' H' → Rel K R' H' μ' env' σ' → Q σ' H') → t v σ H Q

structure DE (X : Cx) (e : Expr) (f : Sm) : Prop where
  ex : ∃ t, PE X e t ∧ Adq X.K t f
structure DT (X : Cx) (e : Expr) (f : Tm) : Prop where
  ex : ∃ t, PT X e t ∧ AdqT X.K t f
structure DW (X : Cx) (e : Expr) (f : Tm) : Prop where
  ex : ∃ t, PW X e t ∧ AdqT X.K t f
structure DA (X : Cx) (es : List Expr) (f : Am) : Prop where
  ex : ∃ t, PA X es t ∧ AdqA X.K t f
structure DS (X : Cx) (st : Stmt) (f : Bm) : Prop where
  ex : ∃ t, PS X st t ∧ AdqS X.K t f
structure DSs (X : Cx) (st : List Stmt) (f : Bm) : Prop where
  ex : ∃ t, PSs X st t ∧ AdqS X.K t f
structure DG (X : Cx) (tg : Expr) (f : Gm) : Prop where
  ex : ∃ t, PG X tg t ∧ AdqG X.K t f

def visB (sc : Scope) (x : Str) : Bool := match sc.names.lookup x with
  | some .local => true
  | some .cell => true
  | some .free => true
  | _ => false
def locB (sc : Scope) (x : Str) : Bool := match sc.names.lookup x with
  | some .local => true
  | some .cell => true
  | _ => false
def slotB (N : List Str) (i : Nat) (x : Str) : Bool := match N[i]? with
  | some y => y == x
  | none => false
theorem slotB_ok {N : List Str} {i : Nat} {x : Str} (h : slotB N i x = true) : N[i]? = some x := by
  unfold slotB at h
  split at h
  · rename_i y e
    rw [e, beq_iff_eq.mp h]
  · cases h
theorem visB_ok {sc : Scope} {x : Str} (h : visB sc x = true) : Vis sc x := by
  unfold visB at h
  split at h
  · rename_i e; exact .inl e
  · rename_i e; exact .inr (.inl e)
  · rename_i e; exact .inr (.inr e)
  · cases h
theorem locB_ok {sc : Scope} {x : Str} (h : locB sc x = true) : Loc sc x := by
  unfold locB at h
  split at h
  · rename_i e; exact .inl e
  · rename_i e; exact .inr e
  · cases h
def varB (N : List Str) (sc : Scope) (i : Nat) (x : Str) : Bool := slotB N i x && (visB sc x && (!(x == ("__debug__" : Str)) && !(x == ("__classdict__" : Str))))
theorem varB_ok {N : List Str} {sc : Scope} {i : Nat} {x : Str} (h : varB N sc i x = true) : N[i]? = some x ∧ Vis sc x ∧ (x == ("__debug__" : Str)) = false ∧ (x == ("__classdict__" : Str)) = false := by
  unfold varB at h
  simp only [Bool.and_eq_true, Bool.not_eq_true'] at h
  exact ⟨slotB_ok h.1, visB_ok h.2.1, h.2.2.1, h.2.2.2⟩
/-- a name that is stored -/
def tgtB (N : List Str) (sc : Scope) (fn : Str → Bool) (i : Nat) (x : Str) : Bool := slotB N i x && (locB sc x && (fn x || (match sc.names.lookup x with
  | some .local => true
  | _ => false)))
theorem tgtB_ok {N : List Str} {sc : Scope} {fn : Str → Bool} {i : Nat} {x : Str} (h : tgtB N sc fn i x = true) : N[i]? = some x ∧ Loc sc x ∧ (fn x = true ∨ sc.names.lookup x = some .local) := by
  unfold tgtB at h
  simp only [Bool.and_eq_true, Bool.or_eq_true] at h
  refine ⟨slotB_ok h.1, locB_ok h.2.1, ?_⟩
  rcases h.2.2 with z | z
  · exact .inl z
  · right
    split at z
    · rename_i e; exact e
    · cases z
def vD (i : Nat) : Sm := fun env μ => match env[i]? with
  | some (some d) => some (d, μ)
  | _ => none
def cD (d : D) : Sm := fun _ μ => some (d, μ)
section
variable {X : Cx}
theorem de_var (i : Nat) {x : Str} {pos : Pos} (hv : varB X.N X.env.scope i x = true := by kernel_rfl) : DE X (.Name x pos) (vD i) := by
  obtain ⟨v1, v2, v3, v4⟩ := varB_ok hv
  refine ⟨_, pe_var (i := i) v1 v2 v3 v4, fun {R H μ env σ d μ'} r e Q k => ?_⟩
  unfold vD at e
  split at e
  · rename_i d' h
    cases e
    obtain ⟨v, h1, h2⟩ := r.en.val i _ h
    exact ⟨v, h1, k v H R .refl r.hp h2⟩
  · cases e
theorem adq_c {K : PySem.W.Frag} {v : V} {d : D} (h : ∀ R H, RD K R H d v) : Adq K (tC v) (cD d) := fun {R H μ env σ d' μ'} r e Q k => by
  cases e
  exact k v H R .refl r.hp (h R H)
theorem de_int {i j pos} : DE X (.Constant (.int i) j pos) (cD (.int i)) := ⟨_, pe_int, adq_c fun _ _ => .int i⟩
theorem de_bl {b j pos} : DE X (.Constant (.bool b) j pos) (cD (.bl b)) := ⟨_, pe_bl, adq_c fun _ _ => .bl b⟩
theorem de_non {j pos} : DE X (.Constant .none j pos) (cD .non) := ⟨_, pe_non, adq_c fun _ _ => .non⟩
theorem de_str {x j pos} : DE X (.Constant (.str x) j pos) (cD (.str x)) := ⟨_, pe_str, adq_c fun _ _ => .str x⟩
/-- a module's constant -/
theorem de_glob {x : Str} {d : D} {v : V} {u : Value} {pos : Pos} (hm : X.mg x = some u) (r : RelV v u) (h : ∀ R H, RD X.K R H d v) (hg : Gl X x := by show _ = _; kernel_rfl) (hd : (x == ("__debug__" : Str)) = false := by kernel_rfl) : DE X (.Name x pos) (cD d) :=
  ⟨_, pe_glob hg hm r hd, adq_c h⟩
end

def bin (g : D → D → Mu → Option (D × Mu)) (fa fb : Sm) : Sm := fun env μ => match fa env μ with
  | none => none
  | some (x, μ1) => match fb env μ1 with
    | none => none
    | some (y, μ2) => g x y μ2
def una (g : D → Mu → Option (D × Mu)) (fa : Sm) : Sm := fun env μ => match fa env μ with
  | none => none
  | some (x, μ1) => g x μ1
def OpA (K : PySem.W.Frag) (r : R2) (g : D → D → Mu → Option (D × Mu)) : Prop :=
  ∀ {R : List Addr} {H : Hp} {μ : Mu} {x y d : D} {vx vy : V} {μ' : Mu}, HR K R H μ → RD K R H x vx → RD K R H y vy → g x y μ = some (d, μ') → ∀ {Q : VK}, (∀ v H' R', Ext R H R' H' → HR K R' H' μ' → RD K R' H' d v → Q v H') → r vx vy H Q
theorem adq_bin {K : PySem.W.Frag} {r : R2} {g : D → D → Mu → Option (D × Mu)} {ta tb : TE} {fa fb : Sm} (hg : OpA K r g) (ha : Adq K ta fa) (hb : Adq K tb fb) : Adq K (tOp r ta tb) (bin g fa fb) := fun {R H μ env σ d μ'} rl e Q k => by
  unfold bin at e
  split at e
  · cases e
  · rename_i x μ1 e1
    split at e
    · cases e
    · rename_i y μ2 e2
      refine ha rl e1 fun v H1 R1 x1 h1 r1 => ?_
      refine hb (rl.ext x1 h1) e2 fun u H2 R2 x2 h2 r2 => ?_
      exact hg h2 (r1.ext x2) r2 e fun w H3 R3 x3 h3 r3 => k w H3 R3 ((x1.trans x2).trans x3) h3 r3
section
variable {X : Cx} {a b : Expr} {fa fb : Sm} {pos : Pos}
theorem de_op {op : Operator} {r : R2} {g : D → D → Mu → Option (D × Mu)} (ho : OpR X (binaryOp op) r) (hg : OpA X.K r g) (ha : DE X a fa) (hb : DE X b fb) : DE X (.BinOp a op b pos) (bin g fa fb) := by
  obtain ⟨ta, pa, qa⟩ := ha.ex
  obtain ⟨tb, pb, qb⟩ := hb.ex
  exact ⟨_, pe_op ho pa pb, adq_bin hg qa qb⟩
theorem de_cmp {op : CmpOp} {r : R2} {g : D → D → Mu → Option (D × Mu)} (ho : OpR X (compareOp op) r) (hg : OpA X.K r g) (ha : DE X a fa) (hb : DE X b fb) (hm : behindInMarks op b = false) : DE X (.Compare a [op] [b] pos) (bin g fa fb) := by
  obtain ⟨ta, pa, qa⟩ := ha.ex
  obtain ⟨tb, pb, qb⟩ := hb.ex
  exact ⟨_, pe_cmpR ho pa pb hm, adq_bin hg qa qb⟩
/-- a truth as a test -/
def tst (f : Sm) : Tm := fun env μ => match f env μ with
  | some (.bl b, μ1) => some (b, μ1)
  | _ => none
theorem adqT_tst {K : PySem.W.Frag} {t : TE} {f : Sm} (h : Adq K t f) : AdqT K (tTest t) (tst f) := fun {R H μ env σ b μ'} rl e Q k => by
  unfold tst at e
  split at e
  · rename_i c μ1 e1
    cases e
    refine h rl e1 fun v H1 R1 x1 h1 r1 => ?_
    cases r1
    exact ⟨_, rfl, k H1 R1 x1 h1⟩
  · cases e
theorem dt_cmp {op : CmpOp} {r : R2} {g : D → D → Mu → Option (D × Mu)} (ho : OpR X (compareOp op) r) (hg : OpA X.K r g) (ha : DE X a fa) (hb : DE X b fb) (hm : behindInMarks op b = false) : DT X (.Compare a [op] [b] pos) (tst (bin g fa fb)) := by
  obtain ⟨ta, pa, qa⟩ := ha.ex
  obtain ⟨tb, pb, qb⟩ := hb.ex
  exact ⟨_, pt_cmpR ho pa pb hm, adqT_tst (adq_bin hg qa qb)⟩
theorem dt_val {e : Expr} {f : Sm} (h : DE X e f) (he : ∀ whole, isTrue e X.env whole = (do let v ← whole; standAt e.pos; holding [v] (truthy v)) := by intro _; kernel_rfl) : DT X e (tst f) := by
  obtain ⟨t, p, q⟩ := h.ex
  exact ⟨_, pt_val p he, adqT_tst q⟩
def notT (f : Tm) : Tm := fun env μ => match f env μ with
  | none => none
  | some (b, μ1) => some (!b, μ1)
def andT (f g : Tm) : Tm := fun env μ => match f env μ with
  | none => none
  | some (b, μ1) => if b = true then g env μ1 else some (false, μ1)
def orT (f g : Tm) : Tm := fun env μ => match f env μ with
  | none => none
  | some (b, μ1) => if b = true then some (true, μ1) else g env μ1
theorem dt_not {f : Tm} (h : DT X a f) : DT X (.UnaryOp .Not a pos) (notT f) := by
  obtain ⟨t, p, q⟩ := h.ex
  refine ⟨_, pt_not p, fun {R H μ env σ b μ'} rl e Q k => ?_⟩
  unfold notT at e
  split at e
  · cases e
  · rename_i c μ1 e1
    cases e
    exact q rl e1 fun H1 R1 x1 h1 => k H1 R1 x1 h1
theorem DW.dt {f : Tm} (h : DW X a f) : DT X a f := let ⟨t, p, q⟩ := h.ex; ⟨t, p.pt, q⟩
theorem dw_and1 {f : Tm} (h : DT X a f) : DW X (.BoolOp .And [a] pos) f := let ⟨t, p, q⟩ := h.ex; ⟨t, pw_and1 p, q⟩
theorem dw_or1 {f : Tm} (h : DT X a f) : DW X (.BoolOp .Or [a] pos) f := let ⟨t, p, q⟩ := h.ex; ⟨t, pw_or1 p, q⟩
theorem dw_and {rest : List Expr} {f g : Tm} (h : DT X a f) (h2 : DW X (.BoolOp .And (b :: rest) pos) g) : DW X (.BoolOp .And (a :: b :: rest) pos) (andT f g) := by
  obtain ⟨t, p, q⟩ := h.ex
  obtain ⟨t2, p2, q2⟩ := h2.ex
  refine ⟨_, pw_and p p2, fun {R H μ env σ b μ'} rl e Q k => ?_⟩
  unfold andT at e
  split at e
  · cases e
  · rename_i c μ1 e1
    refine q rl e1 fun H1 R1 x1 h1 => ?_
    cases c with
    | true =>
      rw [if_pos rfl] at e ⊢
      exact q2 (rl.ext x1 h1) e fun H2 R2 x2 h2 => k H2 R2 (x1.trans x2) h2
    | false =>
      rw [if_neg Bool.false_ne_true] at e ⊢
      cases e
      exact k H1 R1 x1 h1
theorem dw_or {rest : List Expr} {f g : Tm} (h : DT X a f) (h2 : DW X (.BoolOp .Or (b :: rest) pos) g) : DW X (.BoolOp .Or (a :: b :: rest) pos) (orT f g) := by
  obtain ⟨t, p, q⟩ := h.ex
  obtain ⟨t2, p2, q2⟩ := h2.ex
  refine ⟨_, pw_or p p2, fun {R H μ env σ b μ'} rl e Q k => ?_⟩
  unfold orT at e
  split at e
  · cases e
  · rename_i c μ1 e1
    refine q rl e1 fun H1 R1 x1 h1 => ?_
    cases c with
    | true =>
      rw [if_pos rfl] at e ⊢
      cases e
      exact k H1 R1 x1 h1
    | false =>
      rw [if_neg Bool.false_ne_true] at e ⊢
      exact q2 (rl.ext x1 h1) e fun H2 R2 x2 h2 => k H2 R2 (x1.trans x2) h2
def andV (f g : Sm) : Sm := fun env μ => match f env μ with
  | some (.bl b, μ1) => if b = true then g env μ1 else some (.bl false, μ1)
  | _ => none
def orV (f g : Sm) : Sm := fun env μ => match f env μ with
  | some (.bl b, μ1) => if b = true then some (.bl true, μ1) else g env μ1
  | _ => none
def notV (f : Sm) : Sm := fun env μ => match f env μ with
  | some (.bl b, μ1) => some (.bl (!b), μ1)
  | _ => none
theorem de_one {op} {f : Sm} (h : DE X a f) : DE X (.BoolOp op [a] pos) f := let ⟨t, p, q⟩ := h.ex; ⟨t, pe_one p, q⟩
theorem de_and {rest : List Expr} {f g : Sm} (h : DE X a f) (h2 : DE X (.BoolOp .And (b :: rest) pos) g) : DE X (.BoolOp .And (a :: b :: rest) pos) (andV f g) := by
  obtain ⟨t, p, q⟩ := h.ex
  obtain ⟨t2, p2, q2⟩ := h2.ex
  refine ⟨_, pe_and p p2, fun {R H μ env σ d μ'} rl e Q k => ?_⟩
  unfold andV at e
  split at e
  · rename_i c μ1 e1
    refine q rl e1 fun v H1 R1 x1 h1 r1 => ?_
    cases r1
    refine ⟨c, rfl, ?_⟩
    cases c with
    | true =>
      rw [if_pos rfl] at e ⊢
      exact q2 (rl.ext x1 h1) e fun w H2 R2 x2 h2 r2 => k w H2 R2 (x1.trans x2) h2 r2
    | false =>
      rw [if_neg Bool.false_ne_true] at e ⊢
      cases e
      exact k _ H1 R1 x1 h1 (.bl false)
  · cases e
theorem de_or {rest : List Expr} {f g : Sm} (h : DE X a f) (h2 : DE X (.BoolOp .Or (b :: rest) pos) g) : DE X (.BoolOp .Or (a :: b :: rest) pos) (orV f g) := by
  obtain ⟨t, p, q⟩ := h.ex
  obtain ⟨t2, p2, q2⟩ := h2.ex
  refine ⟨_, pe_or p p2, fun {R H μ env σ d μ'} rl e Q k => ?_⟩
  unfold orV at e
  split at e
  · rename_i c μ1 e1
    refine q rl e1 fun v H1 R1 x1 h1 r1 => ?_
    cases r1
    refine ⟨c, rfl, ?_⟩
    cases c with
    | true =>
      rw [if_pos rfl] at e ⊢
      cases e
      exact k _ H1 R1 x1 h1 (.bl true)
    | false =>
      rw [if_neg Bool.false_ne_true] at e ⊢
      exact q2 (rl.ext x1 h1) e fun w H2 R2 x2 h2 r2 => k w H2 R2 (x1.trans x2) h2 r2
  · cases e
theorem de_not {f : Sm} (h : DE X a f) : DE X (.UnaryOp .Not a pos) (notV f) := by
  obtain ⟨t, p, q⟩ := h.ex
  refine ⟨_, pe_not p, fun {R H μ env σ d μ'} rl e Q k => ?_⟩
  unfold notV at e
  split at e
  · rename_i c μ1 e1
    cases e
    refine q rl e1 fun v H1 R1 x1 h1 r1 => ?_
    cases r1
    exact ⟨c, rfl, k _ H1 R1 x1 h1 (.bl _)⟩
  · cases e
def ifV (c : Tm) (f g : Sm) : Sm := fun env μ => match c env μ with
  | none => none
  | some (b, μ1) => if b = true then f env μ1 else g env μ1
end
end CW

namespace CW
open PySem PySem.Spec PyProof.Rows L2

def nilA : Am := fun _ μ => some ([], μ)
def consA (f : Sm) (g : Am) : Am := fun env μ => match f env μ with
  | none => none
  | some (d, μ1) => match g env μ1 with
    | none => none
    | some (ds, μ2) => some (d :: ds, μ2)
/-- a written list of arguments, with its length -/
structure DL (X : Cx) (es : List Expr) (f : Am) : Prop where
  da : DA X es f
  len : ∀ env μ ds μ', f env μ = some (ds, μ') → ds.length = es.length
section
variable {X : Cx} {e : Expr} {es : List Expr} {f : Sm} {g : Am} {pos : Pos}
theorem dl_nil : DL X [] nilA := ⟨⟨_, pa_nil, fun {R H μ env σ ds μ'} rl e Q k => by
  cases e
  exact k [] H R .refl rl.hp .nil⟩, fun env μ ds μ' e => by cases e; rfl⟩
theorem dl_cons (h : DE X e f) (h2 : DL X es g) (hs : starEach (e :: es) X.env = (false, eval e X.env) :: starEach es X.env := by kernel_rfl) : DL X (e :: es) (consA f g) := by
  obtain ⟨t, p, q⟩ := h.ex
  obtain ⟨t2, p2, q2⟩ := h2.da.ex
  refine ⟨⟨_, pa_cons p p2 hs, fun {R H μ env σ ds μ'} rl e Q k => ?_⟩, fun env μ ds μ' e => ?_⟩
  · unfold consA at e
    split at e
    · cases e
    · rename_i d μ1 e1
      split at e
      · cases e
      · rename_i ds1 μ2 e2
        cases e
        refine q rl e1 fun v H1 R1 x1 h1 r1 => ?_
        exact q2 (rl.ext x1 h1) e2 fun vs H2 R2 x2 h2 r2 => k _ H2 R2 (x1.trans x2) h2 (.cons (r1.ext x2) r2)
  · unfold consA at e
    split at e
    · cases e
    · split at e
      · cases e
      · rename_i ds1 μ2 e2
        cases e
        simp [h2.len _ _ _ _ e2]
def tupE (f : Am) : Sm := fun env μ => match f env μ with
  | none => none
  | some (ds, μ1) => some (.tup ds, μ1)
def lstE (f : Am) : Sm := fun env μ => match f env μ with
  | none => none
  | some (ds, μ1) => some (.ref μ1.length, μ1 ++ [.lst ds])
theorem rd_new {K : PySem.W.Frag} {R : List Addr} {H : Hp} {μ : Mu} {p : Addr} (h : HR K R H μ) : (R ++ [p])[μ.length]? = some p := by
  rw [List.getElem?_append_right (by rw [h.len]; exact Nat.le_refl _)]; simp [h.len]
theorem de_tup {x1} (h : DL X es g) (hl : Nat.ble es.length 1000 = true := by kernel_rfl) : DE X (.Tuple es x1 pos) (tupE g) := by
  obtain ⟨t, p, q⟩ := h.da.ex
  refine ⟨_, pe_tup p, fun {R H μ env σ d μ'} rl e Q k => ?_⟩
  unfold tupE at e
  split at e
  · cases e
  · rename_i ds μ1 e1
    cases e
    refine q rl e1 fun vs H1 R1 x1 h1 r1 => ⟨?_, fun p hp => ?_⟩
    · rw [← r1.length, h.len _ _ _ _ e1]; exact Nat.le_trans (Nat.le_of_ble_eq_true hl) (by decide)
    · exact k _ _ R1 (x1.trans (ext_laid hp)) (h1.laid hp) (.tup (SqT.of upd_same) (r1.ext (ext_laid hp)))
theorem de_lst (h : DL X es g) (hl : Nat.ble es.length 1000 = true := by kernel_rfl) : DE X (.List es pos) (lstE g) := by
  obtain ⟨t, p, q⟩ := h.da.ex
  refine ⟨_, pe_lst p, fun {R H μ env σ d μ'} rl e Q k => ?_⟩
  unfold lstE at e
  split at e
  · cases e
  · rename_i ds μ1 e1
    cases e
    refine q rl e1 fun vs H1 R1 x1 h1 r1 => ⟨?_, fun p hp => ?_⟩
    · rw [← r1.length, h.len _ _ _ _ e1]; exact Nat.le_trans (Nat.le_of_ble_eq_true hl) (by decide)
    · exact k _ _ _ (x1.trans (ext_new hp)) (h1.new hp ⟨vs, upd_same, r1.ext (ext_new hp)⟩) (.ref (rd_new h1))
end

/-- the items of a sequence -/
def itemsD (μ : Mu) : D → Option (List D)
  | .tup xs => some xs
  | .fl xs => some xs
  | .ref l => match μ[l]? with
    | some (.lst xs) => some xs
    | _ => none
  | _ => none
theorem sq_of {K : PySem.W.Frag} {R : List Addr} {H : Hp} {μ : Mu} {x : D} {v : V} {xs : List D} (h : HR K R H μ) (r : RD K R H x v) (e : itemsD μ x = some xs) :
    ∃ a vs, v = .ref a ∧ (SqL K H a vs ∨ SqT K H a vs) ∧ RDs K R H xs vs := by
  cases r with
  | tup s t => cases e; exact ⟨_, _, rfl, .inr s, t⟩
  | fl s t => cases e; exact ⟨_, _, rfl, .inl s.sq, t⟩
  | ref hl =>
    rename_i l a
    unfold itemsD at e
    simp only at e
    split at e
    · rename_i ys e1
      cases e
      obtain ⟨vs, h1, h2⟩ := h.cellAt e1 hl
      exact ⟨_, vs, rfl, .inl (SqL.of h1), h2⟩
    · cases e
  | _ => cases e
theorem atI_rd {K : PySem.W.Frag} {R : List Addr} {H : Hp} {xs : List D} {vs : List V} {i : Int} {d : D} (r : RDs K R H xs vs) (h : atI xs i = some d) : ∃ v, atI vs i = some v ∧ RD K R H d v := by
  unfold atI at h ⊢
  rw [← r.length]
  cases e : ixN xs.length i with
  | none => rw [e] at h; cases h
  | some j =>
    rw [e] at h
    exact r.get h
def ixD (x y : D) (μ : Mu) : Option (D × Mu) := match y with
  | .int i => match x with
    | .str z => if z.length ≤ 1000000 then match atI z.cps.toList i with
        | some c => some (.str ⟨#[c]⟩, μ)
        | none => none
      else none
    | x => match itemsD μ x with
      | none => none
      | some xs => match atI xs i with
        | some d => some (d, μ)
        | none => none
  | _ => none
theorem cap_line {n : Nat} (h : n ≤ 1000000) : n ≤ sizeLine := Nat.le_trans h (by decide)
theorem opA_ix {K : PySem.W.Frag} : OpA K (rIx K) ixD := fun {R H μ x y d vx vy μ'} h rx ry e Q k => by
  unfold ixD at e
  split at e
  · rename_i i
    cases ry
    split at e
    · rename_i z
      cases rx
      split at e
      · rename_i hz
        split at e
        · rename_i c ec
          cases e
          exact .inr (.inr ⟨z, i, c, rfl, rfl, cap_line hz, ec, k _ H R .refl h (.str _)⟩)
        · cases e
      · cases e
    · split at e
      · cases e
      · rename_i xs ex
        split at e
        · rename_i d' ed
          cases e
          obtain ⟨a, vs, rfl, s, rr⟩ := sq_of h rx ex
          obtain ⟨v, hv, rv⟩ := atI_rd rr ed
          rcases s with s | s
          · exact .inl ⟨a, vs, i, v, rfl, rfl, s, hv, k v H R .refl h rv⟩
          · exact .inr (.inl ⟨a, vs, i, v, rfl, rfl, s, hv, k v H R .refl h rv⟩)
        · cases e
  · cases e
section
variable {X : Cx} {a b : Expr} {fa fb : Sm} {pos : Pos}
theorem de_ix (ha : DE X a fa) (hb : DE X b fb) (hs : PlainIx b := by intro _ _; kernel_rfl) : DE X (.Subscript a b pos) (bin ixD fa fb) := by
  obtain ⟨ta, pa, qa⟩ := ha.ex
  obtain ⟨tb, pb, qb⟩ := hb.ex
  exact ⟨_, pe_ix ix_seq pa pb hs, adq_bin opA_ix qa qb⟩
end

def skS : Bm := fun env μ => some (.nx env, μ)
def seqS (f g : Bm) : Bm := fun env μ => match f env μ with
  | some (.nx env1, μ1) => g env1 μ1
  | r => r
section
variable {X : Cx} {st : Stmt} {rest : List Stmt} {f g : Bm} {pos : Pos}
theorem ss_nil : DSs X [] skS := ⟨_, pss_nil, fun {R H μ env σ fl μ'} rl e E p => by
  cases e
  exact p σ H R .refl rl⟩
theorem ss_cons (h : DS X st f) (h2 : DSs X rest g) : DSs X (st :: rest) (seqS f g) := by
  obtain ⟨t, p, q⟩ := h.ex
  obtain ⟨t2, p2, q2⟩ := h2.ex
  refine ⟨_, pss_cons p p2, fun {R H μ env σ fl μ'} rl e E po => ?_⟩
  unfold seqS at e
  split at e
  · rename_i env1 μ1 e1
    exact q rl e1 (E := { E with nx := t2 E }) fun σ1 H1 R1 x1 r1 => q2 r1 e (po.ext x1)
  · rename_i hn
    refine q rl e (E := { E with nx := t2 E }) ?_
    cases fl with
    | nx env1 => exact (hn env1 μ' e).elim
    | rt d => exact po
    | bk env1 => exact po
    | ct env1 => exact po
theorem ss_one (h : DS X st f) : DSs X [st] f := let ⟨t, p, q⟩ := h.ex; ⟨t, pss_one p, q⟩
def dropS (f : Sm) : Bm := fun env μ => match f env μ with
  | none => none
  | some (_, μ1) => some (.nx env, μ1)
def retS (f : Sm) : Bm := fun env μ => match f env μ with
  | none => none
  | some (d, μ1) => some (.rt d, μ1)
variable {e : Expr} {fe : Sm}
theorem ds_expr (h : DE X e fe) (hs : swapsWith e none pos.line X.env = pure false := by kernel_rfl) : DS X (.Expr e pos) (dropS fe) := by
  obtain ⟨t, p, q⟩ := h.ex
  refine ⟨_, ps_expr p hs, fun {R H μ env σ fl μ'} rl e E po => ?_⟩
  unfold dropS at e
  split at e
  · cases e
  · rename_i d μ1 e1
    cases e
    exact q rl e1 fun v H1 R1 x1 h1 _ => po σ H1 R1 x1 (rl.ext x1 h1)
theorem ds_ret (h : DE X e fe) : DS X (.Return (some e) pos) (retS fe) := by
  obtain ⟨t, p, q⟩ := h.ex
  refine ⟨_, ps_ret p, fun {R H μ env σ fl μ'} rl e E po => ?_⟩
  unfold retS at e
  split at e
  · cases e
  · rename_i d μ1 e1
    cases e
    exact q rl e1 fun v H1 R1 x1 h1 r1 => po v H1 R1 x1 h1 r1
def ifS (c : Tm) (f g : Bm) : Bm := fun env μ => match c env μ with
  | none => none
  | some (b, μ1) => if b = true then f env μ1 else g env μ1
theorem ds_if {c : Expr} {as bs : List Stmt} {fc : Tm} (hc : DT X c fc) (h : DSs X as f) (h2 : DSs X bs g) : DS X (.If c as bs pos) (ifS fc f g) := by
  obtain ⟨tc, pc, qc⟩ := hc.ex
  obtain ⟨t, p, q⟩ := h.ex
  obtain ⟨t2, p2, q2⟩ := h2.ex
  refine ⟨_, ps_if pc p p2, fun {R H μ env σ fl μ'} rl e E po => ?_⟩
  unfold ifS at e
  split at e
  · cases e
  · rename_i c μ1 e1
    refine qc rl e1 fun H1 R1 x1 h1 => ?_
    cases c with
    | true =>
      rw [if_pos rfl] at e ⊢
      exact q (rl.ext x1 h1) e (po.ext x1)
    | false =>
      rw [if_neg Bool.false_ne_true] at e ⊢
      exact q2 (rl.ext x1 h1) e (po.ext x1)
end

def nmG (i : Nat) : Gm := fun d env μ => some (env.set i (some d), μ)
abbrev Gms := List D → Env → Mu → Option (Env × Mu)
def nilG : Gms := fun ds env μ => match ds with
  | [] => some (env, μ)
  | _ => none
def consG (g : Gm) (h : Gms) : Gms := fun ds env μ => match ds with
  | [] => none
  | d :: r => match g d env μ with
    | none => none
    | some (env1, μ1) => h r env1 μ1
def AdqGs (K : PySem.W.Frag) (t : TGs) (f : Gms) : Prop :=
  ∀ {R : List Addr} {H : Hp} {μ : Mu} {env env' : Env} {σ : St} {ds : List D} {vs : List V} {μ' : Mu}, Rel K R H μ env σ → RDs K R H ds vs → f ds env μ = some (env', μ') → ∀ {Q : St → Hp → Prop}, (∀ σ' H' R', Ext R H R' H' → Rel K R' H' μ' env' σ' → Q σ' H') → t vs σ H Q
structure DGs (X : Cx) (tgs : List Expr) (f : Gms) : Prop where
  ex : ∃ t, PGs X tgs t ∧ AdqGs X.K t f
section
variable {X : Cx} {pos : Pos}
theorem adqG_name {K : PySem.W.Frag} (i : Nat) : AdqG K (gName i) (nmG i) := fun {R H μ env env' σ d v μ'} rl r e Q k => by
  cases e
  exact k _ H R .refl ⟨rl.hp, rl.en.set r i⟩
theorem dg_name (i : Nat) {x : Str} (hN : X.N.Nodup) (hv : tgtB X.N X.env.scope X.fn i x = true := by kernel_rfl) : DG X (.Name x pos) (nmG i) :=
  ⟨_, pg_name (i := i) hN (tgtB_ok hv).1 (tgtB_ok hv).2.1 (tgtB_ok hv).2.2, fun {R H μ env env' σ d v μ'} rl r e Q k => by
    cases e
    exact k _ H R .refl ⟨rl.hp, rl.en.set r i⟩⟩
theorem dgs_nil : DGs X [] nilG := ⟨_, pgs_nil, fun {R H μ env env' σ ds vs μ'} rl r e Q k => by
  cases r with
  | nil => cases e; exact ⟨rfl, k σ H R .refl rl⟩
  | cons _ _ => cases e⟩
theorem dgs_cons {e : Expr} {es : List Expr} {g : Gm} {h : Gms} (h1 : DG X e g) (h2 : DGs X es h)
    (hs : (assignEach (e :: es) X.env).map (·.2) = assign e X.env :: (assignEach es X.env).map (·.2) := by kernel_rfl) : DGs X (e :: es) (consG g h) := by
  obtain ⟨t, p, q⟩ := h1.ex
  obtain ⟨t2, p2, q2⟩ := h2.ex
  refine ⟨_, pgs_cons p p2 hs, fun {R H μ env env' σ ds vs μ'} rl r e Q k => ?_⟩
  cases r with
  | nil => cases e
  | cons r rr =>
    unfold consG at e
    simp only at e
    split at e
    · cases e
    · rename_i env1 μ1 e1
      refine ⟨_, _, rfl, q rl r e1 fun σ1 H1 R1 x1 r1 => ?_⟩
      exact q2 r1 (rr.ext x1) e fun σ2 H2 R2 x2 r2 => k σ2 H2 R2 (x1.trans x2) r2
def tupG (n : Nat) (h : Gms) : Gm := fun d env μ => match d with
  | .tup xs => if xs.length = n then h xs env μ else none
  | _ => none
theorem dg_tup {es : List Expr} {k n : Nat} {h : Gms} (hc : X.calm = true) (hh : DGs X es h)
    (hn : (assignEach es X.env).length = n := by kernel_rfl) (hst : (assignEach es X.env).findIdx? (·.1) = none := by kernel_rfl) : DG X (.Tuple es k pos) (tupG n h) := by
  obtain ⟨t, p, q⟩ := hh.ex
  refine ⟨_, pg_tup hc p hn hst, fun {R H μ env env' σ d v μ'} rl r e Q k => ?_⟩
  unfold tupG at e
  split at e
  · rename_i xs
    split at e
    · rename_i hl
      cases r with
      | tup s rr => exact ⟨_, _, rfl, s, by rw [← rr.length]; exact hl, q rl rr e k⟩
    · cases e
  · cases e
/-- xs[i] = v -/
def setD (x y d : D) (μ : Mu) : Option Mu := match x, y with
  | .ref l, .int i => match μ[l]? with
    | some (.lst xs) => match ixN xs.length i with
      | some j => some (μ.set l (.lst (xs.set j d)))
      | none => none
    | _ => none
  | _, _ => none
def subG (fo fi : Sm) : Gm := fun d env μ => match fo env μ with
  | none => none
  | some (x, μ1) => match fi env μ1 with
    | none => none
    | some (y, μ2) => match setD x y d μ2 with
      | none => none
      | some μ3 => some (env, μ3)
theorem dg_sub {o i : Expr} {fo fi : Sm} (ho : DE X o fo) (hi : DE X i fi)
    (ha : ∀ v, assign (.Subscript o i pos) X.env v = (do
      let ov ← holding [v] (eval o X.env)
      let iv ← holding [v, ov] (eval i X.env)
      standAt pos
      holding [v, ov, iv] (setItem ov iv v)
      release [v, ov, iv] []) := by intro _; kernel_rfl) : DG X (.Subscript o i pos) (subG fo fi) := by
  obtain ⟨t, p, q⟩ := ho.ex
  obtain ⟨t2, p2, q2⟩ := hi.ex
  refine ⟨_, pg_sub p p2 set_list ha, fun {R H μ env env' σ d v μ'} rl r e Q k => ?_⟩
  unfold subG at e
  split at e
  · cases e
  · rename_i x μ1 e1
    split at e
    · cases e
    · rename_i y μ2 e2
      split at e
      · cases e
      · rename_i μ3 e3
        cases e
        refine q rl e1 fun u H1 R1 x1 h1 r1 => ?_
        refine q2 (rl.ext x1 h1) e2 fun w H2 R2 x2 h2 r2 => ?_
        have r1' := r1.ext x2
        unfold setD at e3
        split at e3
        · rename_i l z
          split at e3
          · rename_i xs el
            split at e3
            · rename_i j ej
              cases e3
              cases r2
              cases r1' with
              | ref hl =>
                obtain ⟨vs, g1, g2⟩ := h2.cellAt el hl
                refine ⟨_, vs, _, j, rfl, rfl, g1, by rw [← g2.length]; exact ej, ?_⟩
                have hm := List.mem_of_getElem? hl
                have xw : Ext R2 H2 R2 (upd H2 _ (.lst (vs.set j v))) := ext_write h2 hm
                refine k σ _ R2 ((x1.trans x2).trans xw) ⟨h2.write hl ⟨_, upd_same, ?_⟩, (rl.en.ext (x1.trans x2)).ext xw⟩
                exact RDs.set (((r.ext x1).ext x2).ext xw) j (g2.ext xw)
            · cases e3
          · cases e3
        · cases e3
def asgS (f : Sm) (g : Gm) : Bm := fun env μ => match f env μ with
  | none => none
  | some (d, μ1) => match g d env μ1 with
    | none => none
    | some (env1, μ2) => some (.nx env1, μ2)
theorem adq_asg {K : PySem.W.Frag} {te : TE} {tg : TG} {f : Sm} {g : Gm} (q : Adq K te f) (q2 : AdqG K tg g) : AdqS K (tAsg te tg) (asgS f g) := fun {R H μ env σ fl μ'} rl e E po => by
  unfold asgS at e
  split at e
  · cases e
  · rename_i d μ1 e1
    split at e
    · cases e
    · rename_i env1 μ2 e2
      cases e
      refine q rl e1 fun v H1 R1 x1 h1 r1 => ?_
      exact q2 (rl.ext x1 h1) r1 e2 fun σ2 H2 R2 x2 r2 => po σ2 H2 R2 (x1.trans x2) r2
theorem ds_asg {tg e : Expr} {f : Sm} {g : Gm} (he : DE X e f) (hg : DG X tg g) (hs : swapsWithSole [tg] e pos.line X.env = pure false := by kernel_rfl) (hw : swappedStores [tg] e X.env = pure none := by kernel_rfl)
    (h1 : (assignEach [tg] X.env).map (·.2) = [assign tg X.env] := by kernel_rfl) : DS X (.Assign [tg] e pos) (asgS f g) := by
  obtain ⟨t, p, q⟩ := he.ex
  obtain ⟨t2, p2, q2⟩ := hg.ex
  exact ⟨_, ps_asg p p2 hs hw h1, adq_asg q q2⟩
theorem ds_set (i : Nat) {x : Str} {e : Expr} {f : Sm} {pos' : Pos} (hN : X.N.Nodup) (he : DE X e f) (hv : tgtB X.N X.env.scope X.fn i x = true := by kernel_rfl) (hs : swapsWith e (some (.Name x pos')) pos.line X.env = pure false := by kernel_rfl) : DS X (.Assign [.Name x pos'] e pos) (asgS f (nmG i)) := by
  obtain ⟨t, p, q⟩ := he.ex
  exact ⟨_, ps_set (i := i) hN (tgtB_ok hv).1 (tgtB_ok hv).2.1 p hs (tgtB_ok hv).2.2, adq_asg q (adqG_name i)⟩
def parS (i j : Nat) (f : Am) : Bm := fun env μ => match f env μ with
  | some ([x, y], μ1) => some (.nx ((env.set i (some x)).set j (some y)), μ1)
  | _ => none
end
end CW

namespace CW
open PySem PySem.Spec PyProof.Rows L2

def tSem (K : PySem.W.Frag) (f : Sm) : TE := fun σ H Q => ∃ R μ env d μ', Rel K R H μ env σ ∧ f env μ = some (d, μ') ∧ ∀ v H' R', Ext R H R' H' → HR K R' H' μ' → RD K R' H' d v → Q v H'
def tSemT (K : PySem.W.Frag) (f : Tm) : TT := fun σ H Q => ∃ R μ env b μ', Rel K R H μ env σ ∧ f env μ = some (b, μ') ∧ ∀ H' R', Ext R H R' H' → HR K R' H' μ' → Q b H'
theorem DE.pe {X : Cx} {e : Expr} {f : Sm} (h : DE X e f) : PE X e (tSem X.K f) := fun pins s σ H Q I ⟨R, μ, env, d, μ', rl, ef, k⟩ => by
  obtain ⟨t, p, q⟩ := h.ex
  exact p pins s σ H Q I (q rl ef k)
theorem DT.pt {X : Cx} {e : Expr} {f : Tm} (h : DT X e f) : PT X e (tSemT X.K f) := fun pins s σ H Q I ⟨R, μ, env, d, μ', rl, ef, k⟩ => by
  obtain ⟨t, p, q⟩ := h.ex
  exact p pins s σ H Q I (q rl ef k)
theorem adq_sem {K : PySem.W.Frag} {f : Sm} : Adq K (tSem K f) f := fun {R H μ env σ d μ'} rl e Q k => ⟨R, μ, env, d, μ', rl, e, k⟩
structure ItD where
  item : Nat → Mu → Option (Option D)
  fuel : Nat
abbrev Im := Env → Mu → Option (ItD × Mu)
structure ItOk (K : PySem.W.Frag) (R : List Addr) (H : Hp) (J : It) (it : Nat → Mu → Option (Option D)) : Prop where
  stop : ∀ {R' H' μ' i}, Ext R H R' H' → HR K R' H' μ' → it i μ' = some none → J.stop i H'
  go : ∀ {R' H' μ' i x}, Ext R H R' H' → HR K R' H' μ' → it i μ' = some (some x) → J.go i H' ∧ ∀ v H'', J.yld i H' v H'' → Ext R' H' R' H'' ∧ HR K R' H'' μ' ∧ RD K R' H'' x v
def AdqI (K : PySem.W.Frag) (t : TI) (f : Im) : Prop :=
  ∀ {R : List Addr} {H : Hp} {μ : Mu} {env : Env} {σ : St} {it : ItD} {μ' : Mu}, Rel K R H μ env σ → f env μ = some (it, μ') → ∀ {Q : It → Hp → Prop}, (∀ J H' R', Ext R H R' H' → HR K R' H' μ' → ItOk K R' H' J it.item → Q J H') → t σ H Q
structure DI (X : Cx) (tg iter : Expr) (f : Im) : Prop where
  ex : ∃ t, PI X tg iter t ∧ AdqI X.K t f
theorem ItOk.ext {K : PySem.W.Frag} {R R' : List Addr} {H H' : Hp} {J : It} {it : Nat → Mu → Option (Option D)} (h : ItOk K R H J it) (e : Ext R H R' H') : ItOk K R' H' J it :=
  ⟨fun e2 h2 q => h.stop (e.trans e2) h2 q, fun e2 h2 q => h.go (e.trans e2) h2 q⟩

def fixIt (xs : List D) : ItD := ⟨fun i _ => some xs[i]?, xs.length + 1⟩
def lstIt (l n : Nat) : ItD := ⟨fun i μ => match μ[l]? with
  | some (.lst xs) => some xs[i]?
  | _ => none, n + 1⟩
section
variable {K : PySem.W.Frag} {R : List Addr} {H : Hp}
/-- a tuple -/
theorem itOk_tup {a : Addr} {vs : List V} {xs : List D} (hs : SqT K H a vs) (r : RDs K R H xs vs) : ItOk K R H (Itt K a) (fixIt xs).item := by
  refine ⟨fun {R' H' μ' i} e h q => ?_, fun {R' H' μ' i x} e h q => ?_⟩
  · refine ⟨vs, e.sqT hs, ?_⟩
    have q' : xs[i]? = none := Option.some.inj q
    rw [← r.length]; exact List.getElem?_eq_none_iff.mp q'
  · have q' : xs[i]? = some x := Option.some.inj q
    obtain ⟨v, h1, h2⟩ := r.get q'
    refine ⟨⟨vs, v, e.sqT hs, h1⟩, fun w H'' y => ?_⟩
    obtain ⟨rfl, y⟩ := y
    have z := y vs (e.sqT hs)
    rw [h1] at z; cases z
    exact ⟨.refl, h, h2.ext e⟩
theorem itOk_fz {a : Addr} {vs : List V} {xs : List D} (hs : Fz K H a vs) (r : RDs K R H xs vs) : ItOk K R H (Itl K a) (fixIt xs).item := by
  refine ⟨fun {R' H' μ' i} e h q => ?_, fun {R' H' μ' i x} e h q => ?_⟩
  · refine ⟨vs, (e.fz hs).sq, ?_⟩
    have q' : xs[i]? = none := Option.some.inj q
    rw [← r.length]; exact List.getElem?_eq_none_iff.mp q'
  · have q' : xs[i]? = some x := Option.some.inj q
    obtain ⟨v, h1, h2⟩ := r.get q'
    refine ⟨⟨vs, v, (e.fz hs).sq, h1⟩, fun w H'' y => ?_⟩
    obtain ⟨rfl, y⟩ := y
    have z := y vs (e.fz hs).sq
    rw [h1] at z; cases z
    exact ⟨.refl, h, h2.ext e⟩
theorem itOk_lst {a : Addr} {l n : Nat} (hl : R[l]? = some a) : ItOk K R H (Itl K a) (lstIt l n).item := by
  refine ⟨fun {R' H' μ' i} e h q => ?_, fun {R' H' μ' i x} e h q => ?_⟩
  · unfold lstIt at q
    simp only at q
    split at q
    · rename_i ys el
      obtain ⟨vs, h1, h2⟩ := h.cellAt el (e.get hl)
      refine ⟨vs, SqL.of h1, ?_⟩
      have q' : ys[i]? = none := Option.some.inj q
      rw [← h2.length]; exact List.getElem?_eq_none_iff.mp q'
    · cases q
  · unfold lstIt at q
    simp only at q
    split at q
    · rename_i ys el
      obtain ⟨vs, h1, h2⟩ := h.cellAt el (e.get hl)
      have q' : ys[i]? = some x := Option.some.inj q
      obtain ⟨v, g1, g2⟩ := h2.get q'
      refine ⟨⟨vs, v, SqL.of h1, g1⟩, fun w H'' y => ?_⟩
      obtain ⟨rfl, y⟩ := y
      have z := y vs (SqL.of h1)
      rw [g1] at z; cases z
      exact ⟨.refl, h, g2⟩
    · cases q
theorem itOk_range (lo : Int) (n : Nat) : ItOk K R H (Itr lo n) (fixIt ((List.range n).map fun k : Nat => D.int (lo + k))).item := by
  refine ⟨fun {R' H' μ' i} e h q => ?_, fun {R' H' μ' i x} e h q => ?_⟩
  · have q' := Option.some.inj q
    rw [List.getElem?_eq_none_iff, List.length_map, List.length_range] at q'
    exact q'
  · have q' := Option.some.inj q
    have hi : i < n := by
      have := (List.getElem?_eq_some_iff.mp q').1
      simpa using this
    refine ⟨hi, fun w H'' y => ?_⟩
    obtain ⟨rfl, rfl⟩ := y
    rw [List.getElem?_map, List.getElem?_range hi] at q'
    cases q'
    exact ⟨.refl, h, .int _⟩
end
/-- for x in e: a tuple, a list -/
def seqI (f : Sm) : Im := fun env μ => match f env μ with
  | some (.tup xs, μ1) => some (fixIt xs, μ1)
  | some (.fl xs, μ1) => some (fixIt xs, μ1)
  | some (.ref l, μ1) => match μ1[l]? with
    | some (.lst xs) => some (lstIt l xs.length, μ1)
    | _ => none
  | _ => none
section
variable {X : Cx} {tg : Expr} {e : Expr} {f : Sm} {pos : Pos}
theorem pi_or {w1 w2 : TI} (h1 : PI X tg e w1) (h2 : PI X tg e w2) : PI X tg e (fun σ H R => w1 σ H R ∨ w2 σ H R) := fun pins s σ H R I q => by
  rcases q with q | q
  · exact h1 pins s σ H R I q
  · exact h2 pins s σ H R I q
theorem di_seq (h : DE X e f) : DI X tg e (seqI f) := by
  obtain ⟨t, p, q⟩ := h.ex
  refine ⟨_, pi_or (pi_list p) (pi_tup p), fun {R H μ env σ it μ'} rl e Q k => ?_⟩
  unfold seqI at e
  split at e
  · rename_i xs μ1 e1
    cases e
    refine .inr (q rl e1 fun v H1 R1 x1 h1 r1 => ?_)
    cases r1 with
    | tup s rr => exact ⟨_, rfl, ⟨_, s⟩, k _ H1 R1 x1 h1 (itOk_tup s rr)⟩
  · rename_i xs μ1 e1
    cases e
    refine .inl (q rl e1 fun v H1 R1 x1 h1 r1 => ?_)
    cases r1 with
    | fl s rr => exact ⟨_, rfl, ⟨_, s.sq⟩, k _ H1 R1 x1 h1 (itOk_fz s rr)⟩
  · rename_i l μ1 e1
    split at e
    · rename_i xs el
      cases e
      refine .inl (q rl e1 fun v H1 R1 x1 h1 r1 => ?_)
      cases r1 with
      | ref hl =>
        obtain ⟨vs, g1, g2⟩ := h1.cellAt el hl
        exact ⟨_, rfl, ⟨_, SqL.of g1⟩, k _ H1 R1 x1 h1 (itOk_lst hl)⟩
    · cases e
  · cases e
def rng1 (g : Am) : Im := fun env μ => match g env μ with
  | some ([.int j], μ1) => if -(2 ^ 62) ≤ j ∧ j < 2 ^ 62 then some (fixIt ((List.range j.toNat).map fun k : Nat => D.int (0 + k)), μ1) else none
  | _ => none
theorem di_range1 {a : Expr} {g : Am} {p pos : Pos} (hm : X.mg "range" = none) (h : DL X [a] g) (hg : Gl X "range" := by show _ = _; kernel_rfl) (hs : starEach [a] X.env = [(false, eval a X.env)] := by kernel_rfl) : DI X tg (.Call (.Name "range" p) [a] [] pos) (rng1 g) := by
  obtain ⟨t, p, q⟩ := h.da.ex
  refine ⟨_, pi_range1 hg hm p hs, fun {R H μ env σ it μ'} rl e Q k => ?_⟩
  unfold rng1 at e
  split at e
  · rename_i j μ1 e1
    split at e
    · rename_i hj
      cases e
      refine q rl e1 fun vs H1 R1 x1 h1 r1 => ?_
      cases r1 with
      | cons r rr =>
        cases rr
        cases r
        exact ⟨j, rfl, hj.1, hj.2, k _ H1 R1 x1 h1 (itOk_range 0 j.toNat)⟩
    · cases e
  · cases e
/-- enumerate of a list -/
def enumIt (l n : Nat) : ItD := ⟨fun i μ => match μ[l]? with
  | some (.lst xs) => some (match xs[i]? with
    | some x => some (.tup [.int (i : Nat), x])
    | none => none)
  | _ => none, n + 1⟩
def enumI (g : Am) : Im := fun env μ => match g env μ with
  | some ([.ref l], μ1) => match μ1[l]? with
    | some (.lst xs) => some (enumIt l xs.length, μ1)
    | _ => none
  | _ => none
theorem itOk_enum {K : PySem.W.Frag} {R : List Addr} {H : Hp} {a : Addr} {l n : Nat} (hl : R[l]? = some a) : ItOk K R H (Ite K a) (enumIt l n).item := by
  refine ⟨fun {R' H' μ' i} e h q => ?_, fun {R' H' μ' i x} e h q => ?_⟩
  · unfold enumIt at q
    simp only at q
    split at q
    · rename_i ys el
      obtain ⟨vs, h1, h2⟩ := h.cellAt el (e.get hl)
      refine ⟨vs, SqL.of h1, ?_⟩
      have q' := Option.some.inj q
      split at q'
      · cases q'
      · rename_i hn
        rw [← h2.length]; exact List.getElem?_eq_none_iff.mp hn
    · cases q
  · unfold enumIt at q
    simp only at q
    split at q
    · rename_i ys el
      obtain ⟨vs, h1, h2⟩ := h.cellAt el (e.get hl)
      have q' := Option.some.inj q
      split at q'
      · rename_i y hy
        cases q'
        obtain ⟨v, g1, g2⟩ := h2.get hy
        refine ⟨⟨vs, v, SqL.of h1, g1⟩, fun w H'' yy => ?_⟩
        obtain ⟨T, z, rfl, hT, rfl, hz⟩ := yy
        have z2 := hz vs (SqL.of h1)
        rw [g1] at z2; cases z2
        exact ⟨ext_laid hT, h.laid hT, .tup (SqT.of upd_same) (.cons (.int _) (.cons (g2.ext (ext_laid hT)) .nil))⟩
      · cases q'
    · cases q
theorem di_enum {p pos tpos : Pos} {elts : List Expr} {kk : Nat} {g : Am} (hm : X.mg "enumerate" = none) (h : DL X [e] g) (hg : Gl X "enumerate" := by show _ = _; kernel_rfl) (hs : starEach [e] X.env = [(false, eval e X.env)] := by kernel_rfl) :
    DI X (.Tuple elts kk tpos) (.Call (.Name "enumerate" p) [e] [] pos) (enumI g) := by
  obtain ⟨t, p, q⟩ := h.da.ex
  refine ⟨_, pi_enum hg hm p hs, fun {R H μ env σ it μ'} rl e Q k => ?_⟩
  unfold enumI at e
  split at e
  · rename_i l μ1 e1
    split at e
    · rename_i xs el
      cases e
      refine q rl e1 fun vs H1 R1 x1 h1 r1 => ?_
      cases r1 with
      | cons r rr =>
        cases rr
        cases r with
        | ref hl =>
          obtain ⟨ws, g1, g2⟩ := h1.cellAt el hl
          exact ⟨_, _, rfl, SqL.of g1, k _ H1 R1 x1 h1 (itOk_enum hl)⟩
    · cases e
  · cases e
end

def forGo (it : Nat → Mu → Option (Option D)) (g : Gm) (body : Bm) : Nat → Nat → Env → Mu → Option (Fl × Mu)
  | 0, _, _, _ => none
  | n + 1, i, env, μ => match it i μ with
    | none => none
    | some none => some (.nx env, μ)
    | some (some x) => match g x env μ with
      | none => none
      | some (env1, μ1) => match body env1 μ1 with
        | none => none
        | some (.nx env2, μ2) => forGo it g body n (i + 1) env2 μ2
        | some (.ct env2, μ2) => forGo it g body n (i + 1) env2 μ2
        | some (.bk env2, μ2) => some (.nx env2, μ2)
        | some (.rt d, μ2) => some (.rt d, μ2)
def forS (fi : Im) (g : Gm) (body : Bm) : Bm := fun env μ => match fi env μ with
  | none => none
  | some (it, μ1) => forGo it.item g body it.fuel 0 env μ1
section
variable {X : Cx} {tg : Expr} {pos : Pos} {body : List Stmt} {fb : Bm} {fi : Im} {g : Gm}
theorem ds_for {iter : Expr} (hc : X.calm = true) (hp : PassesOwn (model X.prog X.w) X.A X.env X.xe) (hi : DI X tg iter fi) (hg : DG X tg g) (hb : DSs X body fb)
    (hs : ∀ x, foldedSetIterable iter X.env x = pure x := by intro _; kernel_rfl) : DS X (.For tg iter body [] pos) (forS fi g fb) := by
  obtain ⟨ti, pi, qi⟩ := hi.ex
  obtain ⟨tg', pg, qg⟩ := hg.ex
  obtain ⟨tb, pb, qb⟩ := hb.ex
  refine ⟨_, ps_for hp hc pi pg pb hs, fun {R H μ env σ fl μ'} rl e E po => ?_⟩
  unfold forS at e
  split at e
  · cases e
  · rename_i it μ1 e1
    refine qi rl e1 fun J H1 R1 x1 h1 ok => ?_
    have po1 := po.ext x1
    refine ⟨fun i m σ2 H2 => ∃ R2 μ2 env2, Ext R1 H1 R2 H2 ∧ Rel X.K R2 H2 μ2 env2 σ2 ∧ forGo it.item g fb m i env2 μ2 = some (fl, μ'), ⟨_, R1, μ1, env, .refl, rl.ext x1 h1, e⟩, ?_⟩
    rintro i m σ2 H2 ⟨R2, μ2, env2, x2, rl2, e2⟩
    cases m with
    | zero => cases e2
    | succ n =>
      unfold forGo at e2
      split at e2
      · cases e2
      · rename_i ei
        cases e2
        exact .inl ⟨ok.stop x2 rl2.hp ei, po1 σ2 H2 R2 x2 rl2⟩
      · rename_i x ei
        obtain ⟨go, yl⟩ := ok.go x2 rl2.hp ei
        refine .inr ⟨go, fun σ3 H3 => ∃ R3 μ3 env3, Ext R1 H1 R3 H3 ∧ Rel X.K R3 H3 μ3 env3 σ3 ∧ forGo it.item g fb n (i + 1) env3 μ3 = some (fl, μ'), fun σ3 H3 h3 => ⟨n, Nat.lt_succ_self n, h3⟩, fun v H3 hy => ?_⟩
        obtain ⟨x3, h3, r3⟩ := yl v H3 hy
        split at e2
        · cases e2
        · rename_i env4 μ4 e4
          refine qg (rl2.ext x3 h3) r3 e4 fun σ5 H5 R5 x5 rl5 => ?_
          have x25 := (x2.trans x3).trans x5
          split at e2
          · cases e2
          · rename_i env6 μ6 e6
            exact qb rl5 e6 fun σ7 H7 R7 x7 rl7 => ⟨R7, _, _, x25.trans x7, rl7, e2⟩
          · rename_i env6 μ6 e6
            exact qb rl5 e6 fun σ7 H7 R7 x7 rl7 => ⟨R7, _, _, x25.trans x7, rl7, e2⟩
          · rename_i env6 μ6 e6
            cases e2
            exact qb rl5 e6 fun σ7 H7 R7 x7 rl7 => po1 σ7 H7 R7 (x25.trans x7) rl7
          · rename_i d μ6 e6
            cases e2
            exact qb rl5 e6 fun w H7 R7 x7 h7 r7 => po1 w H7 R7 (x25.trans x7) h7 r7
end

def wipeE (env : Env) : List Nat → Env
  | [] => env
  | v :: vs => (wipeE env vs).set v none
theorem wipe_set (σ : St) (x : Option V) : ∀ {vs : List Nat} {i : Nat}, i ∈ vs → wipe (σ.set i x) vs = wipe σ vs
  | [], _, h => nomatch h
  | v :: vs, i, h => by
    by_cases hi : i ∈ vs
    · unfold wipe; rw [wipe_set σ x hi]
    · have e : i = v := by
        rcases List.mem_cons.mp h with z | z
        · exact z
        · exact absurd z hi
      subst e
      have comm : ∀ (us : List Nat), i ∉ us → wipe (σ.set i x) us = (wipe σ us).set i x := by
        intro us
        induction us with
        | nil => intro _; rfl
        | cons u us ih =>
          intro hu
          simp only [List.mem_cons, not_or] at hu
          unfold wipe
          rw [ih hu.2, List.set_comm _ _ (Ne.symm hu.1).symm]
      unfold wipe
      rw [comm vs hi, List.set_set]
theorem wipe_at (σ : St) {u : Nat} : ∀ ws : List Nat, u ∈ ws → (wipe σ ws).set u none = wipe σ ws
  | [], h => nomatch h
  | w :: ws, h => by
    show ((wipe σ ws).set w none).set u none = (wipe σ ws).set w none
    by_cases hw : u = w
    · subst hw; rw [List.set_set]
    · rw [List.set_comm _ _ (Ne.symm hw), wipe_at σ ws (by rcases List.mem_cons.mp h with z | z; exact absurd z hw; exact z)]
theorem wipe_wipe (σ : St) (vs : List Nat) : ∀ us : List Nat, (∀ j ∈ us, j ∈ vs) → wipe (wipe σ vs) us = wipe σ vs
  | [], _ => rfl
  | u :: us, hu => by
    show (wipe (wipe σ vs) us).set u none = wipe σ vs
    rw [wipe_wipe σ vs us fun j hj => hu j (List.mem_cons_of_mem _ hj), wipe_at σ vs (hu u List.mem_cons_self)]
theorem RE.wipe {K : PySem.W.Frag} {R : List Addr} {H : Hp} {env : Env} {σ : St} (h : RE K R H env σ) : ∀ vs : List Nat, RE K R H (wipeE env vs) (L2.wipe σ vs)
  | [] => h
  | v :: vs => by
    have ih := RE.wipe h vs
    unfold wipeE L2.wipe
    refine ⟨by simp [ih.len], fun j e q => ?_⟩
    by_cases hj : j = v
    · subst hj
      have hlt : j < (wipeE env vs).length := by have := (List.getElem?_eq_some_iff.mp q).1; simpa using this
      rw [List.getElem?_set_self hlt] at q
      cases q
    · rw [List.getElem?_set_ne (Ne.symm hj)] at q
      obtain ⟨u, h1, h2⟩ := ih.val j e q
      exact ⟨u, by rw [List.getElem?_set_ne (Ne.symm hj)]; exact h1, h2⟩
/-- targets of a comprehension: names of its own -/
def AdqGw (K : PySem.W.Frag) (vs : List Nat) (t : TG) (f : Gm) : Prop :=
  ∀ {R : List Addr} {H : Hp} {μ : Mu} {env env' : Env} {σ : St} {d : D} {v : V} {μ' : Mu}, Rel K R H μ env σ → RD K R H d v → f d env μ = some (env', μ') → ∀ {Q : St → Hp → Prop}, (∀ σ' H' R', Ext R H R' H' → Rel K R' H' μ' env' σ' → wipe σ' vs = wipe σ vs → Q σ' H') → t v σ H Q
def AdqGws (K : PySem.W.Frag) (vs : List Nat) (t : TGs) (f : Gms) : Prop :=
  ∀ {R : List Addr} {H : Hp} {μ : Mu} {env env' : Env} {σ : St} {ds : List D} {us : List V} {μ' : Mu}, Rel K R H μ env σ → RDs K R H ds us → f ds env μ = some (env', μ') → ∀ {Q : St → Hp → Prop}, (∀ σ' H' R', Ext R H R' H' → Rel K R' H' μ' env' σ' → wipe σ' vs = wipe σ vs → Q σ' H') → t us σ H Q
def tSemG (K : PySem.W.Frag) (vs : List Nat) (f : Gm) : TG := fun v σ H Q => ∃ R μ env d env' μ', Rel K R H μ env σ ∧ RD K R H d v ∧ f d env μ = some (env', μ') ∧ ∀ σ' H' R', Ext R H R' H' → Rel K R' H' μ' env' σ' → wipe σ' vs = wipe σ vs → Q σ' H'
structure DGw (X : Cx) (vs : List Nat) (tg : Expr) (f : Gm) : Prop where
  ex : ∃ t, PG X tg t ∧ AdqGw X.K vs t f
structure DGws (X : Cx) (vs : List Nat) (tgs : List Expr) (f : Gms) : Prop where
  ex : ∃ t, PGs X tgs t ∧ AdqGws X.K vs t f
theorem DGw.pg {X : Cx} {vs : List Nat} {tg : Expr} {f : Gm} (h : DGw X vs tg f) : PG X tg (tSemG X.K vs f) := fun pins s σ H v u Q I r ⟨R, μ, env, d, env', μ', rl, rd, ef, k⟩ => by
  obtain ⟨t, p, q⟩ := h.ex
  exact p pins s σ H v u Q I r (q rl rd ef k)
section
variable {X : Cx} {vs : List Nat} {pos : Pos}
theorem dgw_name (i : Nat) {x : Str} (hN : X.N.Nodup) (hi : vs.contains i = true := by kernel_rfl) (hv : tgtB X.N X.env.scope X.fn i x = true := by kernel_rfl) : DGw X vs (.Name x pos) (nmG i) :=
  ⟨_, pg_name (i := i) hN (tgtB_ok hv).1 (tgtB_ok hv).2.1 (tgtB_ok hv).2.2, fun {R H μ env env' σ d v μ'} rl r e Q k => by
    cases e
    exact k _ H R .refl ⟨rl.hp, rl.en.set r i⟩ (wipe_set _ _ (by simpa using hi))⟩
theorem dgws_nil : DGws X vs [] nilG := ⟨_, pgs_nil, fun {R H μ env env' σ ds us μ'} rl r e Q k => by
  cases r with
  | nil => cases e; exact ⟨rfl, k σ H R .refl rl rfl⟩
  | cons _ _ => cases e⟩
theorem dgws_cons {e : Expr} {es : List Expr} {g : Gm} {h : Gms} (h1 : DGw X vs e g) (h2 : DGws X vs es h)
    (hs : (assignEach (e :: es) X.env).map (·.2) = assign e X.env :: (assignEach es X.env).map (·.2) := by kernel_rfl) : DGws X vs (e :: es) (consG g h) := by
  obtain ⟨t, p, q⟩ := h1.ex
  obtain ⟨t2, p2, q2⟩ := h2.ex
  refine ⟨_, pgs_cons p p2 hs, fun {R H μ env env' σ ds us μ'} rl r e Q k => ?_⟩
  cases r with
  | nil => cases e
  | cons r rr =>
    unfold consG at e
    simp only at e
    split at e
    · cases e
    · rename_i env1 μ1 e1
      refine ⟨_, _, rfl, q rl r e1 fun σ1 H1 R1 x1 r1 w1 => ?_⟩
      exact q2 r1 (rr.ext x1) e fun σ2 H2 R2 x2 r2 w2 => k σ2 H2 R2 (x1.trans x2) r2 (w2.trans w1)
theorem dgw_tup {es : List Expr} {k n : Nat} {h : Gms} (hc : X.calm = true) (hh : DGws X vs es h)
    (hn : (assignEach es X.env).length = n := by kernel_rfl) (hst : (assignEach es X.env).findIdx? (·.1) = none := by kernel_rfl) : DGw X vs (.Tuple es k pos) (tupG n h) := by
  obtain ⟨t, p, q⟩ := hh.ex
  refine ⟨_, pg_tup hc p hn hst, fun {R H μ env env' σ d v μ'} rl r e Q k => ?_⟩
  unfold tupG at e
  split at e
  · rename_i xs
    split at e
    · rename_i hl
      cases r with
      | tup s rr => exact ⟨_, _, rfl, s, by rw [← rr.length]; exact hl, q rl rr e k⟩
    · cases e
  · cases e
end
/-- the tests of a comprehension -/
structure DTs (X : Cx) (ifs : List Expr) (f : Tm) : Prop where
  ex : ∃ t, PTs X ifs t ∧ AdqT X.K t f
def yesT : Tm := fun _ μ => some (true, μ)
theorem dts_nil {X : Cx} : DTs X [] yesT := ⟨_, pts_nil, fun {R H μ env σ b μ'} rl e Q k => by cases e; exact k H R .refl rl.hp⟩
theorem dts_one {X : Cx} {c : Expr} {f : Tm} (h : DT X c f) : DTs X [c] f := let ⟨t, p, q⟩ := h.ex; ⟨t, pts_one p, q⟩
theorem DTs.pts {X : Cx} {ifs : List Expr} {f : Tm} (h : DTs X ifs f) : PTs X ifs (tSemT X.K f) := fun pins s σ H Q I ⟨R, μ, env, d, μ', rl, ef, k⟩ => by
  obtain ⟨t, p, q⟩ := h.ex
  exact p pins s σ H Q I (q rl ef k)
def compGo (it : Nat → Mu → Option (Option D)) (g : Gm) (tt : Tm) (fe : Sm) (l : Nat) (env : Env) : Nat → Nat → Mu → Option Mu
  | 0, _, _ => none
  | n + 1, i, μ => match it i μ with
    | none => none
    | some none => some μ
    | some (some x) => match g x env μ with
      | none => none
      | some (env1, μ1) => match tt env1 μ1 with
        | none => none
        | some (b, μ2) => if b = true then match fe env1 μ2 with
            | none => none
            | some (y, μ3) => match μ3[l]? with
              | some (.lst acc) => if acc.length < 1000000 then compGo it g tt fe l env n (i + 1) (μ3.set l (.lst (acc ++ [y]))) else none
              | _ => none
          else compGo it g tt fe l env n (i + 1) μ2
def lcE (fi : Im) (g : Gm) (tt : Tm) (fe : Sm) (vs : List Nat) : Sm := fun env μ => match fi env μ with
  | none => none
  | some (it, μ1) => match compGo it.item g tt fe μ1.length (wipeE env vs) it.fuel 0 (μ1 ++ [.lst []]) with
    | none => none
    | some μ2 => some (.ref μ1.length, μ2)
theorem adq_lc {K : PySem.W.Frag} {ti : TI} {fi : Im} {g : Gm} {tt : Tm} {fe : Sm} {vs : List Nat} (qi : AdqI K ti fi) : Adq K (tLc ti (tSemG K vs g) (tSemT K tt) (tSem K fe) vs) (lcE fi g tt fe vs) := fun {R H μ env σ d μ'} rl e Q k => by
  unfold lcE at e
  split at e
  · cases e
  · rename_i it μ1 e1
    split at e
    · cases e
    · rename_i μ2 e2
      cases e
      refine qi rl e1 fun J H1 R1 x1 h1 ok => ?_
      intro D hD
      have h0 : HR K (R1 ++ [D]) (upd H1 D (.lst [])) (μ1 ++ [.lst []]) := h1.new hD ⟨[], upd_same, .nil⟩
      have x0 : Ext R1 H1 (R1 ++ [D]) (upd H1 D (.lst [])) := ext_new hD
      have hl : (R1 ++ [D])[μ1.length]? = some D := rd_new h1
      refine ⟨fun i m H2 => ∃ R2 μ2', Ext (R1 ++ [D]) (upd H1 D (.lst [])) R2 H2 ∧ HR K R2 H2 μ2' ∧ compGo it.item g tt fe μ1.length (wipeE env vs) m i μ2' = some μ', ⟨_, _, _, .refl, h0, e2⟩, ?_⟩
      rintro i m H2 ⟨R2, μ3, x2, h2, e3⟩
      have x02 := x0.trans x2
      have x12 := x1.trans x02
      cases m with
      | zero => cases e3
      | succ n =>
        unfold compGo at e3
        split at e3
        · cases e3
        · rename_i ei
          cases e3
          exact .inl ⟨ok.stop x02 h2 ei, k _ H2 R2 x12 h2 (.ref (x2.get hl))⟩
        · rename_i x ei
          obtain ⟨go, yl⟩ := ok.go x02 h2 ei
          refine .inr ⟨go, fun H3 => ∃ R3 μ3, Ext (R1 ++ [D]) (upd H1 D (.lst [])) R3 H3 ∧ HR K R3 H3 μ3 ∧ compGo it.item g tt fe μ1.length (wipeE env vs) n (i + 1) μ3 = some μ', fun H3 h3 => ⟨n, Nat.lt_succ_self n, h3⟩, fun v H3 hy => ?_⟩
          obtain ⟨x3, h3, r3⟩ := yl v H3 hy
          have re : RE K R2 H3 (wipeE env vs) (wipe σ vs) := (rl.en.ext (x12.trans x3)).wipe vs
          split at e3
          · cases e3
          · rename_i env4 μ4 e4
            refine ⟨R2, _, _, _, env4, μ4, ⟨h3, re⟩, r3, e4, fun σ5 H5 R5 x5 rl5 w5 => ⟨?_, ?_⟩⟩
            · rw [w5]; exact wipe_wipe σ vs vs fun _ h => h
            · split at e3
              · cases e3
              · rename_i b μ6 e6
                refine ⟨R5, μ4, env4, b, μ6, rl5, e6, fun H7 R7 x7 h7 => ?_⟩
                have x57 := ((x2.trans x3).trans x5).trans x7
                cases b with
                | false =>
                  rw [if_neg Bool.false_ne_true] at e3
                  exact iteF ⟨R7, μ6, x57, h7, e3⟩
                | true =>
                  rw [if_pos rfl] at e3
                  refine iteT ?_
                  split at e3
                  · cases e3
                  · rename_i y μ8 e8
                    refine ⟨R7, μ6, env4, y, μ8, rl5.ext x7 h7, e8, fun w H9 R9 x9 h9 r9 => ?_⟩
                    have x59 := x57.trans x9
                    split at e3
                    · rename_i acc ea
                      split at e3
                      · rename_i hz
                        have hD9 := x59.get hl
                        obtain ⟨ws, g1, g2⟩ := h9.cellAt ea hD9
                        refine ⟨ws, g1, by rw [← g2.length]; exact Nat.lt_of_lt_of_le hz (by decide), R9, _, x59.trans (ext_write h9 (List.mem_of_getElem? hD9)), h9.write (c := .lst (acc ++ [y])) hD9 ⟨_, upd_same, ?_⟩, e3⟩
                        have xw := ext_write (o := .lst (ws ++ [w])) h9 (List.mem_of_getElem? hD9)
                        exact (g2.ext xw).append (.cons (r9.ext xw) .nil)
                      · cases e3
                    · cases e3
section
variable {X : Cx}
theorem de_lc {elt tg iter : Expr} {ifs : List Expr} {scope : Scope} {pos : Pos} {fi : Im} {g : Gm} {tt : Tm} {fe : Sm} (own : List (Str × Nat)) (hc : X.calm = true) (hN : X.N.Nodup) (hi : DI X tg iter fi) (ok : BlkOk X.N X.env.scope scope own)
    (hg : ∀ (s : Shared) (H : Hp) (C : Addr) (cl : List (Str × Addr)) (fp : List Addr), DGw (X.blk s H scope (compEnvC scope cl C X.env) fp) (own.map (·.2)) tg g)
    (ht : ∀ (s : Shared) (H : Hp) (C : Addr) (cl : List (Str × Addr)) (fp : List Addr), DTs (X.blk s H scope (compEnvC scope cl C X.env) fp) ifs tt)
    (he : ∀ (s : Shared) (H : Hp) (C : Addr) (cl : List (Str × Addr)) (fp : List Addr), DE (X.blk s H scope (compEnvC scope cl C X.env) fp) elt fe) (hs : ∀ x, foldedSetIterable iter X.env x = pure x := by intro _; kernel_rfl) :
    DE X (.ListComp elt [⟨tg, iter, ifs, 0⟩] scope pos) (lcE fi g tt fe (own.map (·.2))) := by
  obtain ⟨ti, pi, qi⟩ := hi.ex
  exact ⟨_, pe_lc hc hN pi ok (fun s H C cl fp => (hg s H C cl fp).pg) (fun s H C cl fp => (ht s H C cl fp).pts) (fun s H C cl fp => (he s H C cl fp).pe) hs, adq_lc qi⟩
theorem ds_setLc (i : Nat) {y : Str} {py : Pos} {elt tg iter : Expr} {ifs : List Expr} {scope : Scope} {pos spos : Pos} {fi : Im} {g : Gm} {tt : Tm} {fe : Sm} (own : List (Str × Nat)) (hc : X.calm = true) (hN : X.N.Nodup)
    (hsw : swapsWith (.ListComp elt [⟨tg, iter, ifs, 0⟩] scope pos) (some (.Name y py)) spos.line X.env = pure true) (hi : DI X tg iter fi) (ok : BlkOk X.N X.env.scope scope own)
    (hg : ∀ (s : Shared) (H : Hp) (C : Addr) (cl : List (Str × Addr)) (fp : List Addr), DGw (X.blk s H scope (compEnvC scope cl C X.env) fp) (own.map (·.2)) tg g)
    (ht : ∀ (s : Shared) (H : Hp) (C : Addr) (cl : List (Str × Addr)) (fp : List Addr), DTs (X.blk s H scope (compEnvC scope cl C X.env) fp) ifs tt)
    (he : ∀ (s : Shared) (H : Hp) (C : Addr) (cl : List (Str × Addr)) (fp : List Addr), DE (X.blk s H scope (compEnvC scope cl C X.env) fp) elt fe) (hy : X.N[i]? = some y := by kernel_rfl) (hyl : X.env.scope.names.lookup y = some .local := by kernel_rfl) (hs : ∀ x, foldedSetIterable iter X.env x = pure x := by intro _; kernel_rfl) :
    DS X (.Assign [.Name y py] (.ListComp elt [⟨tg, iter, ifs, 0⟩] scope pos) spos) (asgS (lcE fi g tt fe (own.map (·.2))) (nmG i)) := by
  obtain ⟨ti, pi, qi⟩ := hi.ex
  exact ⟨_, ps_setLc (i := i) hc hN hy hyl hsw pi ok (fun s H C cl fp => (hg s H C cl fp).pg) (fun s H C cl fp => (ht s H C cl fp).pts) (fun s H C cl fp => (he s H C cl fp).pe) hs, adq_asg (adq_lc qi) (adqG_name i)⟩
end

def spD (K : PySem.W.Frag) (sem : List D → Mu → Option (D × Mu)) : Sp := fun vs H Q _ => ∃ R μ ds r μ', RDs K R H ds vs ∧ HR K R H μ ∧ sem ds μ = some (r, μ') ∧ ∀ v H' R', Ext R H R' H' → HR K R' H' μ' → RD K R' H' r v → Q v H'
def mkSem (np n : Nat) (fb : Bm) : List D → Mu → Option (D × Mu) := fun ds μ =>
  if ds.length = np then match fb (ds.map some ++ List.replicate (n - np) none) μ with
    | some (.rt d, μ1) => some (d, μ1)
    | some (.nx _, μ1) => some (.non, μ1)
    | _ => none
  else none
/-- a def that is called by its name -/
structure FnK (P : Program) (w : World) (K : PySem.W.Frag) (mg : Str → Option Value) (base : Heap) (k : Nat) (x : Str) (sem : List D → Mu → Option (D × Mu)) : Prop where
  ex : ∃ fa fd ps, FnOk P w K mg base CX0 k fa fd ps (spD K sem) ∧ mg x = some (.ref fa) ∧ PySem.W.keepIn K (.ref fa) = true ∧ Binds K fd ps []
theorem body_start {K : PySem.W.Frag} {N ps : List Str} {sc : Scope} {t : TS} {fb : Bm} {R : List Addr} {H : Hp} {μ μ' : Mu} {ds : List D} {vs : List V} {r : D} {Q : VK} (S : FnScope N ps sc) (q : AdqS K t fb) (rd : RDs K R H ds vs) (hh : HR K R H μ) (e : mkSem ps.length N.length fb ds μ = some (r, μ'))
    (kk : ∀ v H' R', Ext R H R' H' → HR K R' H' μ' → RD K R' H' r v → Q v H') : t { nx := fun _ H' => Q .non H', rt := Q } (L2.start N vs) H := by
  unfold mkSem at e
  split at e
  · rename_i hl
    have re : RE K R H (ds.map some ++ List.replicate (N.length - ps.length) none) (L2.start N vs) := by
      have hvl : vs.length = ps.length := by rw [← rd.length]; exact hl
      unfold L2.start
      refine ⟨by simp [rd.length, hvl], fun i d q => ?_⟩
      by_cases hi : i < ds.length
      · rw [List.getElem?_append_left (by simpa using hi), List.getElem?_map] at q
        cases e1 : ds[i]? with
        | none => rw [e1] at q; cases q
        | some d1 =>
          rw [e1] at q
          cases q
          obtain ⟨v, h1, h2⟩ := rd.get e1
          refine ⟨v, ?_, h2⟩
          have hiv : i < vs.length := (List.getElem?_eq_some_iff.mp h1).1
          rw [List.getElem?_append_left (by simpa using hiv), List.getElem?_map, h1]
          rfl
      · rw [List.getElem?_append_right (by simpa using hi), List.getElem?_replicate] at q
        split at q <;> cases q
    split at e
    · rename_i d μ1 e1
      cases e
      exact q ⟨hh, re⟩ e1 fun v H' R' x h r => kk v H' R' x h r
    · rename_i env1 μ1 e1
      cases e
      exact q ⟨hh, re⟩ e1 fun σ' H' R' x rl => kk _ H' R' x rl.hp .non
    · cases e
  · cases e
theorem fn_ok {P : Program} {w : World} {K : PySem.W.Frag} {mg : Str → Option Value} {base : Heap} {k : Nat} {x qual : Str} {st : Stmt} {fa : Addr} {fd : FuncData} {N ps : List Str} {fb : Bm} (F : Fun K x qual st fa fd) (S : FnScope N ps (defScope st))
    (hb : ∀ (cdv : Value) (A : Around) (outer : List PySem.Env) (s : Shared) (H : Hp) (E : XK), Room k (A.deeper (envOfC qual (defScope st) s.heap.objs.size fa cdv)) → DSs (cxOf CX0 P w K mg base N qual (defScope st) fa cdv A outer s H E).nox (defBody st) fb) :
    FnOk P w K mg base CX0 (k + 1) fa fd ps (spD K (mkSem ps.length N.length fb)) := by
  refine F.ok S (fun vs H Q E ⟨R, μ, ds, r, μ', rd, _, e, _⟩ => ?_) (fun cdv A outer s H vs Q E hr ⟨R, μ, ds, r, μ', rd, hh, e, kk⟩ => ?_)
  · unfold mkSem at e
    split at e
    · rename_i hl
      rw [← rd.length]; exact hl
    · cases e
  · obtain ⟨t, p, q⟩ := (hb cdv A outer s H E hr).ex
    exact ⟨t, p, body_start S q rd hh e kk⟩
theorem fnK_of {P : Program} {w : World} {K : PySem.W.Frag} {mg : Str → Option Value} {base : Heap} {k : Nat} {x : Str} {fa : Addr} {fd : FuncData} {ps : List Str} {sem : List D → Mu → Option (D × Mu)} (h : FnOk P w K mg base CX0 k fa fd ps (spD K sem))
    (hm : mg x = some (.ref fa)) (hk : PySem.W.keepIn K (.ref fa) = true) (hb : Binds K fd ps []) : FnK P w K mg base k x sem := ⟨fa, fd, ps, h, hm, hk, hb⟩
def callE (sem : List D → Mu → Option (D × Mu)) (g : Am) : Sm := fun env μ => match g env μ with
  | none => none
  | some (ds, μ1) => sem ds μ1
section
variable {X : Cx} {k : Nat} {x : Str} {sem : List D → Mu → Option (D × Mu)} {e : Expr} {es : List Expr} {p pos : Pos} {g : Am}
theorem de_call (F : FnK X.prog X.w X.K X.mg X.base k x sem) (hr : Room k X.A) (h : DL X (e :: es) g) (hg : Gl X x := by show _ = _; kernel_rfl) (hdb : (x == ("__debug__" : Str)) = false := by kernel_rfl) (he : starEach (e :: es) X.env = (false, eval e X.env) :: starEach es X.env := by kernel_rfl) (hpl : (backTo pos (starEach es X.env)).any (·.1) = false := by kernel_rfl) :
    DE X (.Call (.Name x p) (e :: es) [] pos) (callE sem g) := by
  obtain ⟨fa, fd, ps, F, hm, hk, hb⟩ := F.ex
  obtain ⟨t, pa, q⟩ := h.da.ex
  refine ⟨_, pe_call F hr hg hm hk hb (.nil : Vals [] []) pass0 pa hdb he hpl, fun {R H μ env σ d μ'} rl ef Q kk => ?_⟩
  unfold callE at ef
  split at ef
  · cases ef
  · rename_i ds μ1 e1
    refine q rl e1 fun vs H1 R1 x1 h1 r1 => ?_
    rw [List.append_nil]
    exact ⟨R1, μ1, ds, d, μ', r1, h1, ef, fun v H2 R2 x2 h2 r2 => kk v H2 R2 (x1.trans x2) h2 r2⟩
theorem de_call0 (F : FnK X.prog X.w X.K X.mg X.base k x sem) (hr : Room k X.A) (hg : Gl X x := by show _ = _; kernel_rfl) (hdb : (x == ("__debug__" : Str)) = false := by kernel_rfl) : DE X (.Call (.Name x p) [] [] pos) (callE sem nilA) := by
  obtain ⟨fa, fd, ps, F, hm, hk, hb⟩ := F.ex
  refine ⟨_, pe_call0 F hr hg hm hk hb (.nil : Vals [] []) pass0 hdb, fun {R H μ env σ d μ'} rl ef Q kk => ?_⟩
  exact ⟨R, μ, [], d, μ', .nil, rl.hp, ef, kk⟩
end
def CallA (K : PySem.W.Frag) (r : List V → Hp → VK → Prop) (g : List D → Mu → Option (D × Mu)) : Prop :=
  ∀ {R : List Addr} {H : Hp} {μ : Mu} {ds : List D} {vs : List V} {d : D} {μ' : Mu}, HR K R H μ → RDs K R H ds vs → g ds μ = some (d, μ') → ∀ {Q : VK}, (∀ v H' R', Ext R H R' H' → HR K R' H' μ' → RD K R' H' d v → Q v H') → r vs H Q
section
variable {X : Cx} {x : Str} {id : String} {e : Expr} {es : List Expr} {p pos : Pos} {g : Am} {r : List V → Hp → VK → Prop} {f : List D → Mu → Option (D × Mu)}
theorem adq_callB {K : PySem.W.Frag} {t : TA} (hf : CallA K r f) (q : AdqA K t g) : Adq K (tCB r t) (callE f g) := fun {R H μ env σ d μ'} rl ef Q kk => by
  unfold callE at ef
  split at ef
  · cases ef
  · rename_i ds μ1 e1
    refine q rl e1 fun vs H1 R1 x1 h1 r1 => ?_
    exact hf h1 r1 ef fun v H2 R2 x2 h2 r2 => kk v H2 R2 (x1.trans x2) h2 r2
theorem de_callB (hc : CallR X (.builtin id) r) (hf : CallA X.K r f) (hm : X.mg x = none) (h : DL X (e :: es) g) (hv : bootBuiltins x = some (.builtin id) := by decide +kernel) (hg : Gl X x := by show _ = _; kernel_rfl) (hn : x ≠ "__name__" := by decide) (hdb : (x == ("__debug__" : Str)) = false := by kernel_rfl)
    (he : starEach (e :: es) X.env = (false, eval e X.env) :: starEach es X.env := by kernel_rfl) (hpl : (backTo pos (starEach es X.env)).any (·.1) = false := by kernel_rfl) : DE X (.Call (.Name x p) (e :: es) [] pos) (callE f g) := by
  obtain ⟨t, pa, q⟩ := h.da.ex
  exact ⟨_, pe_callB hc hg hm hv pa hn hdb he hpl, adq_callB hf q⟩
theorem de_callTy (hc : CallR X (.type id) r) (hf : CallA X.K r f) (hm : X.mg x = none) (h : DL X (e :: es) g) (hv : bootBuiltins x = some (.type id) := by decide +kernel) (hg : Gl X x := by show _ = _; kernel_rfl) (hn : x ≠ "__name__" := by decide) (hdb : (x == ("__debug__" : Str)) = false := by kernel_rfl)
    (he : starEach (e :: es) X.env = (false, eval e X.env) :: starEach es X.env := by kernel_rfl) (hpl : (backTo pos (starEach es X.env)).any (·.1) = false := by kernel_rfl) : DE X (.Call (.Name x p) (e :: es) [] pos) (callE f g) := by
  obtain ⟨t, pa, q⟩ := h.da.ex
  exact ⟨_, pe_callTy hc hg hm hv pa hn hdb he hpl, adq_callB hf q⟩
end
end CW

namespace CW
open PySem PySem.Spec PyProof.Rows L2

def pyD : Nat → Mu → D → Option PyData
  | _, _, .non => some .none
  | _, _, .bl b => some (.bool b)
  | _, _, .int i => some (.int i)
  | _, _, .str x => if PyData.strOk x = true then some (.str x) else none
  | n + 1, μ, .tup xs => (xs.mapM (pyD n μ)).map .tuple
  | n + 1, μ, .fl xs => (xs.mapM (pyD n μ)).map .list
  | n + 1, μ, .ref l => match μ[l]? with
    | some (.lst xs) => (xs.mapM (pyD n μ)).map .list
    | _ => none
  | _ + 1, _, .fn _ => none
  | 0, _, _ => none
structure PyOk (K : PySem.W.Frag) (H : Hp) (n : Nat) (v : V) (p : PyData) : Prop where
  dp : Dp K H v p
  lay : p.canLay0 = true
  dep : p.depth ≤ n
structure PyOks (K : PySem.W.Frag) (H : Hp) (n : Nat) (vs : List V) (ps : List PyData) : Prop where
  dp : DpAll K H vs ps
  lay : PyData.canLayAll0 ps = true
  dep : PyData.depthAll ps ≤ n
theorem py_all {K : PySem.W.Frag} {R : List Addr} {H : Hp} {n : Nat} {f : D → Option PyData} (ih : ∀ d v p, RD K R H d v → f d = some p → PyOk K H n v p) :
    ∀ {ds : List D} {vs : List V} {ps : List PyData}, RDs K R H ds vs → ds.mapM f = some ps → PyOks K H n vs ps := by
  intro ds
  induction ds with
  | nil => intro vs ps r e; cases r; simp at e; subst e; exact ⟨.nil, rfl, Nat.zero_le _⟩
  | cons d ds ih2 =>
    intro vs ps r e
    cases r with
    | cons r rr =>
      rw [List.mapM_cons] at e
      cases e1 : f d with
      | none => rw [e1] at e; cases e
      | some p =>
        rw [e1] at e
        cases e2 : ds.mapM f with
        | none => rw [e2] at e; cases e
        | some q =>
          rw [e2] at e
          have e' : some (p :: q) = some ps := e
          cases e'
          obtain ⟨a, b, c⟩ := ih d _ p r e1
          obtain ⟨a2, b2, c2⟩ := ih2 rr e2
          refine ⟨.cons a a2, by simp [PyData.canLayAll0, b, b2], ?_⟩
          simp only [PyData.depthAll]
          omega
theorem py_ok {K : PySem.W.Frag} {R : List Addr} {H : Hp} {μ : Mu} (h : HR K R H μ) : ∀ (n : Nat) (d : D) (v : V) (p : PyData), RD K R H d v → pyD n μ d = some p → PyOk K H n v p := by
  intro n
  induction n with
  | zero =>
    intro d v p r e
    cases r with
    | non => cases e; exact ⟨.non, rfl, Nat.zero_le _⟩
    | bl b => cases e; exact ⟨.bl b, rfl, Nat.zero_le _⟩
    | int i => cases e; exact ⟨.int i, rfl, Nat.zero_le _⟩
    | str x =>
      unfold pyD at e
      split at e
      · rename_i hx; cases e; exact ⟨.str x, by simpa [PyData.canLay0] using hx, Nat.zero_le _⟩
      · cases e
    | tup _ _ => cases e
    | fl _ _ => cases e
    | ref _ => cases e
    | fn _ => cases e
  | succ n ih =>
    intro d v p r e
    cases r with
    | non => cases e; exact ⟨.non, rfl, Nat.zero_le _⟩
    | bl b => cases e; exact ⟨.bl b, rfl, Nat.zero_le _⟩
    | int i => cases e; exact ⟨.int i, rfl, Nat.zero_le _⟩
    | str x =>
      unfold pyD at e
      split at e
      · rename_i hx; cases e; exact ⟨.str x, by simpa [PyData.canLay0] using hx, Nat.zero_le _⟩
      · cases e
    | tup s rr =>
      rename_i a ds vs
      have e' : (ds.mapM (pyD n μ)).map PyData.tuple = some p := e
      cases e1 : ds.mapM (pyD n μ) with
      | none => rw [e1] at e'; cases e'
      | some ps =>
        rw [e1] at e'; cases e'
        obtain ⟨x, y, z⟩ := py_all ih rr e1
        exact ⟨.tup s x, by simpa [PyData.canLay0] using y, by simp only [PyData.depth]; omega⟩
    | fl s rr =>
      rename_i a ds vs
      have e' : (ds.mapM (pyD n μ)).map PyData.list = some p := e
      cases e1 : ds.mapM (pyD n μ) with
      | none => rw [e1] at e'; cases e'
      | some ps =>
        rw [e1] at e'; cases e'
        obtain ⟨x, y, z⟩ := py_all ih rr e1
        exact ⟨.lst s.sq x, by simpa [PyData.canLay0] using y, by simp only [PyData.depth]; omega⟩
    | ref hl =>
      rename_i l a
      unfold pyD at e
      split at e
      · rename_i ds el
        obtain ⟨vs, g1, g2⟩ := h.cellAt el hl
        cases e1 : ds.mapM (pyD n μ) with
        | none => rw [e1] at e; cases e
        | some ps =>
          rw [e1] at e; cases e
          obtain ⟨x, y, z⟩ := py_all ih g2 e1
          exact ⟨.lst (SqL.of g1) x, by simpa [PyData.canLay0] using y, by simp only [PyData.depth]; omega⟩
      · cases e
    | fn _ => cases e
theorem PyOk.shaped {K : PySem.W.Frag} {H : Hp} {v : V} {p : PyData} (h : PyOk K H 8 v p) : SeqAt.shaped p = true := by
  unfold SeqAt.shaped
  rw [h.lay, Bool.true_and]
  exact decide_eq_true (Nat.le_trans h.dep (by decide))

def eqD (x y : D) (μ : Mu) : Option (D × Mu) := match pyD 8 μ x, pyD 8 μ y with
  | some a, some b => some (.bl (PyData.eqv a b), μ)
  | _, _ => none
def neD (x y : D) (μ : Mu) : Option (D × Mu) := match pyD 8 μ x, pyD 8 μ y with
  | some a, some b => some (.bl (!PyData.eqv a b), μ)
  | _, _ => none
theorem opA_eq {K : PySem.W.Frag} : OpA K (rEqD K) eqD := fun {R H μ x y d vx vy μ'} h rx ry e Q k => by
  unfold eqD at e
  split at e
  · rename_i a b ea eb
    cases e
    have ka := py_ok h 8 x vx a rx ea
    have kb := py_ok h 8 y vy b ry eb
    exact ⟨a, b, ka.dp, kb.dp, ka.shaped, kb.shaped, k _ H R .refl h (.bl _)⟩
  · cases e
theorem opA_ne {K : PySem.W.Frag} : OpA K (rNeD K) neD := fun {R H μ x y d vx vy μ'} h rx ry e Q k => by
  unfold neD at e
  split at e
  · rename_i a b ea eb
    cases e
    have ka := py_ok h 8 x vx a rx ea
    have kb := py_ok h 8 y vy b ry eb
    exact ⟨a, b, ka.dp, kb.dp, ka.shaped, kb.shaped, k _ H R .refl h (.bl _)⟩
  · cases e
/-- x in xs, a list or a tuple, by data -/
def rInD (K : PySem.W.Frag) (neg : Bool) : R2 := fun x y H Q => ∃ p d, Dp K H x d ∧ d.canLay0 = true ∧ d.depth ≤ 64 ∧
  ((∃ ds, p = PyData.list ds ∧ PyData.canLayAll0 ds = true ∧ Q (.bl (if neg then !ds.any fun z => PyData.eqv z d else ds.any fun z => PyData.eqv z d)) H) ∨
   (∃ ds, p = PyData.tuple ds ∧ PyData.canLayAll0 ds = true ∧ Q (.bl (if neg then !ds.any fun z => PyData.eqv z d else ds.any fun z => PyData.eqv z d)) H)) ∧ Dp K H y p
section
variable {X : Cx}
theorem op_inD (hu : X.A.units + 128 < cLine) : OpR X (compareOp .In) (rInD X.K false) := by
  intro pins s σ H x y v u Q I rx ry h
  obtain ⟨p, d, hd, ld, dd, hp, hy⟩ := h
  obtain ⟨as, r1⟩ := Dp.reads I d x v hd rx
  obtain ⟨bs, r2⟩ := Dp.reads I p y u hy ry
  rcases hp with ⟨ds, rfl, l, q⟩ | ⟨ds, rfl, l, q⟩
  · exact SeqAt.in_list_reads r2 r1 l ld (by have := Nat.min_le_right (PyData.depthAll ds) d.depth; omega) ⟨.bl _, H, I, rfl, q⟩
  · exact SeqAt.in_tuple_reads r2 r1 l ld (by have := Nat.min_le_right (PyData.depthAll ds) d.depth; omega) ⟨.bl _, H, I, rfl, q⟩
theorem op_notInD (hu : X.A.units + 128 < cLine) : OpR X (compareOp .NotIn) (rInD X.K true) := by
  intro pins s σ H x y v u Q I rx ry h
  obtain ⟨p, d, hd, ld, dd, hp, hy⟩ := h
  obtain ⟨as, r1⟩ := Dp.reads I d x v hd rx
  obtain ⟨bs, r2⟩ := Dp.reads I p y u hy ry
  rcases hp with ⟨ds, rfl, l, q⟩ | ⟨ds, rfl, l, q⟩
  · exact SeqAt.notIn_list_reads r2 r1 l ld (by have := Nat.min_le_right (PyData.depthAll ds) d.depth; omega) ⟨.bl _, H, I, rfl, q⟩
  · exact SeqAt.notIn_tuple_reads r2 r1 l ld (by have := Nat.min_le_right (PyData.depthAll ds) d.depth; omega) ⟨.bl _, H, I, rfl, q⟩
end
def inD (neg : Bool) (x y : D) (μ : Mu) : Option (D × Mu) := match pyD 8 μ x, pyD 8 μ y with
  | some d, some (.list ds) => some (.bl (if neg then !ds.any fun z => PyData.eqv z d else ds.any fun z => PyData.eqv z d), μ)
  | some d, some (.tuple ds) => some (.bl (if neg then !ds.any fun z => PyData.eqv z d else ds.any fun z => PyData.eqv z d), μ)
  | _, _ => none
theorem opA_in {K : PySem.W.Frag} {neg : Bool} : OpA K (rInD K neg) (inD neg) := fun {R H μ x y d vx vy μ'} h rx ry e Q k => by
  unfold inD at e
  split at e
  · rename_i d ds ea eb
    cases e
    have ka := py_ok h 8 x vx _ rx ea
    have kb := py_ok h 8 y vy _ ry eb
    exact ⟨_, d, ka.dp, ka.lay, Nat.le_trans ka.dep (by decide), .inl ⟨ds, rfl, by simpa [PyData.canLay0] using kb.lay, k _ H R .refl h (.bl _)⟩, kb.dp⟩
  · rename_i d ds ea eb
    cases e
    have ka := py_ok h 8 x vx _ rx ea
    have kb := py_ok h 8 y vy _ ry eb
    exact ⟨_, d, ka.dp, ka.lay, Nat.le_trans ka.dep (by decide), .inr ⟨ds, rfl, by simpa [PyData.canLay0] using kb.lay, k _ H R .refl h (.bl _)⟩, kb.dp⟩
  · cases e
section
variable {X : Cx} {a b : Expr} {fa fb : Sm} {pos : Pos} {k : Nat}
theorem u64 (hr : Room k X.A) : X.A.units + 64 < cLine := hr.units
theorem u128 (hr : Room k X.A) : X.A.units + 128 < cLine := by have := hr.un; omega
theorem de_eq (hr : Room k X.A) (ha : DE X a fa) (hb : DE X b fb) : DE X (.Compare a [.Eq] [b] pos) (bin eqD fa fb) := de_cmp (op_eqD (u64 hr)) opA_eq ha hb (nomark _)
theorem de_in (hr : Room k X.A) (ha : DE X a fa) (hb : DE X b fb) (hm : behindInMarks .In b = false := by kernel_rfl) : DE X (.Compare a [.In] [b] pos) (bin (inD false) fa fb) := de_cmp (op_inD (u128 hr)) opA_in ha hb hm
theorem de_notIn (hr : Room k X.A) (ha : DE X a fa) (hb : DE X b fb) (hm : behindInMarks .NotIn b = false := by kernel_rfl) : DE X (.Compare a [.NotIn] [b] pos) (bin (inD true) fa fb) := de_cmp (op_notInD (u128 hr)) opA_in ha hb hm
theorem dt_eq (hr : Room k X.A) (ha : DE X a fa) (hb : DE X b fb) : DT X (.Compare a [.Eq] [b] pos) (tst (bin eqD fa fb)) := dt_cmp (op_eqD (u64 hr)) opA_eq ha hb (nomark _)
theorem dt_ne (hr : Room k X.A) (ha : DE X a fa) (hb : DE X b fb) : DT X (.Compare a [.NotEq] [b] pos) (tst (bin neD fa fb)) := dt_cmp (op_neD (u64 hr)) opA_ne ha hb (nomark _)
theorem dt_in (hr : Room k X.A) (ha : DE X a fa) (hb : DE X b fb) (hm : behindInMarks .In b = false := by kernel_rfl) : DT X (.Compare a [.In] [b] pos) (tst (bin (inD false) fa fb)) := dt_cmp (op_inD (u128 hr)) opA_in ha hb hm
theorem dt_notIn (hr : Room k X.A) (ha : DE X a fa) (hb : DE X b fb) (hm : behindInMarks .NotIn b = false := by kernel_rfl) : DT X (.Compare a [.NotIn] [b] pos) (tst (bin (inD true) fa fb)) := dt_cmp (op_notInD (u128 hr)) opA_in ha hb hm
end

def arI (C : Int → Int → Bool) (g : Int → Int → D) (x y : D) (μ : Mu) : Option (D × Mu) := match x, y with
  | .int i, .int j => if C i j = true then some (g i j, μ) else none
  | _, _ => none
def yesI (_ _ : Int) : Bool := true
theorem opA_rI {K : PySem.W.Frag} {C : Int → Int → Prop} {Cb : Int → Int → Bool} {g : Int → Int → V} {gd : Int → Int → D} (hC : ∀ i j, Cb i j = true → C i j) (hg : ∀ R H i j, RD K R H (gd i j) (g i j)) : OpA K (rI C g) (arI Cb gd) := fun {R H μ x y d vx vy μ'} h rx ry e Q k => by
  unfold arI at e
  split at e
  · rename_i i j
    split at e
    · rename_i hc
      cases e
      cases rx
      cases ry
      exact ⟨i, j, rfl, rfl, hC i j hc, k _ H R .refl h (hg R H i j)⟩
    · cases e
  · cases e
theorem opA_rI0 {K : PySem.W.Frag} {g : Int → Int → V} {gd : Int → Int → D} (hg : ∀ R H i j, RD K R H (gd i j) (g i j)) : OpA K (rI0 g) (arI yesI gd) := fun {R H μ x y d vx vy μ'} h rx ry e Q k => by
  unfold arI at e
  split at e
  · rename_i i j
    rw [if_pos (show yesI i j = true from rfl)] at e
    cases e
    cases rx
    cases ry
    exact ⟨i, j, rfl, rfl, k _ H R .refl h (hg R H i j)⟩
  · cases e
def subD := arI yesI fun i j => .int (i - j)
def ltD := arI yesI fun i j => .bl (decide (i < j))
def leD := arI yesI fun i j => .bl (decide (i ≤ j))
def gtD := arI yesI fun i j => .bl (decide (j < i))
def geD := arI yesI fun i j => .bl (decide (j ≤ i))
def fdivD := arI (fun _ j => decide (0 < j) && decide (j < 1073741824)) fun i j => .int (i / j)
def modD := arI (fun _ j => decide (0 < j)) fun i j => .int (i % j)
def powD := arI (fun i j => decide (0 ≤ j) && decide (j ≤ 1000000) && decide (i.natAbs < 2 ^ 64)) fun i j => .int (i ^ j.toNat)
def bigI (i : Int) : Bool := decide (i.natAbs < 2 ^ 16000)
def mulG (i j : Int) : Bool := (decide (i.natAbs < 2 ^ 64) || decide (j.natAbs < 2 ^ 64)) || (bigI i && bigI j)
theorem bits_of {i : Int} {n : Nat} (h : i.natAbs < 2 ^ n) : Builtin.Int.intBits i ≤ n := by
  unfold Builtin.Int.intBits
  split
  · exact Nat.zero_le _
  · rename_i hz
    have : i.natAbs.log2 < n := by
      rcases Nat.eq_zero_or_pos i.natAbs with h0 | hp
      · exact absurd (by simpa using Int.natAbs_eq_zero.mp h0) hz
      · exact (Nat.log2_lt (Nat.ne_of_gt hp)).mpr h
    omega
theorem mulG_ok {i j : Int} (h : mulG i j = true) : IntMulOk i j := by
  unfold mulG at h
  rw [Bool.or_eq_true, Bool.or_eq_true, Bool.and_eq_true] at h
  rcases h with (h | h) | ⟨h, h2⟩
  · exact .of_left (bits_of (of_decide_eq_true h))
  · exact .of_right (bits_of (of_decide_eq_true h))
  · exact .of_bits (Nat.le_trans (bits_of (of_decide_eq_true h)) (by decide)) (Nat.le_trans (bits_of (of_decide_eq_true h2)) (by decide))
section
variable {X : Cx} {a b : Expr} {fa fb : Sm} {pos : Pos} {k : Nat}
theorem op_mulW : OpR X (binaryOp .Mult) (rI (fun i j => IntMulOk i j) fun i j => .int (i * j)) := opI fun _ _ _ _ _ _ _ hc q => mul_int q hc
theorem de_fdiv (ha : DE X a fa) (hb : DE X b fb) : DE X (.BinOp a .FloorDiv b pos) (bin fdivD fa fb) := de_op op_fdiv (opA_rI (fun i j h => by simpa [CDiv] using h) fun _ _ _ _ => .int _) ha hb
theorem de_mod (ha : DE X a fa) (hb : DE X b fb) : DE X (.BinOp a .Mod b pos) (bin modD fa fb) := de_op op_mod (opA_rI (fun i j h => by simpa using h) fun _ _ _ _ => .int _) ha hb
theorem de_pow (ha : DE X a fa) (hb : DE X b fb) : DE X (.BinOp a .Pow b pos) (bin powD fa fb) := de_op op_pow (opA_rI (fun i j h => by simpa [CPow, and_assoc] using h) fun _ _ _ _ => .int _) ha hb
theorem dt_gt (ha : DE X a fa) (hb : DE X b fb) : DT X (.Compare a [.Gt] [b] pos) (tst (bin gtD fa fb)) := dt_cmp op_gt (opA_rI0 fun _ _ _ _ => .bl _) ha hb (nomark _)
theorem dt_ge (ha : DE X a fa) (hb : DE X b fb) : DT X (.Compare a [.GtE] [b] pos) (tst (bin geD fa fb)) := dt_cmp op_ge (opA_rI0 fun _ _ _ _ => .bl _) ha hb (nomark _)
/-- is None, is not None -/
def isND (neg : Bool) (x y : D) (μ : Mu) : Option (D × Mu) := match y with
  | .non => some (.bl (match x with
    | .non => !neg
    | _ => neg), μ)
  | _ => none
theorem non_iff {K : PySem.W.Frag} {R : List Addr} {H : Hp} {x : D} {v : V} (r : RD K R H x v) : decide (v = V.non) = (match x with
    | .non => true
    | _ => false) := by
  cases r <;> first | rfl | exact decide_eq_false (fun z => nomatch z)
theorem opA_isN {K : PySem.W.Frag} : OpA K (fun x y H Q => y = .non ∧ Q (.bl (decide (x = .non))) H) (isND false) := fun {R H μ x y d vx vy μ'} h rx ry e Q k => by
  unfold isND at e
  split at e
  · cases ry
    refine ⟨rfl, ?_⟩
    have e' := Option.some.inj e
    rw [Prod.mk.injEq] at e'
    obtain ⟨e1, e2⟩ := e'
    subst e1; subst e2
    rw [non_iff rx]
    exact k _ H R .refl h (by cases x <;> exact .bl _)
  · cases e
theorem opA_notN {K : PySem.W.Frag} : OpA K (fun x y H Q => y = .non ∧ Q (.bl (!decide (x = .non))) H) (isND true) := fun {R H μ x y d vx vy μ'} h rx ry e Q k => by
  unfold isND at e
  split at e
  · cases ry
    refine ⟨rfl, ?_⟩
    have e' := Option.some.inj e
    rw [Prod.mk.injEq] at e'
    obtain ⟨e1, e2⟩ := e'
    subst e1; subst e2
    rw [non_iff rx]
    exact k _ H R .refl h (by cases x <;> exact .bl _)
  · cases e
theorem de_isN (ha : DE X a fa) (hb : DE X b fb) : DE X (.Compare a [.Is] [b] pos) (bin (isND false) fa fb) := de_cmp op_isN opA_isN ha hb (nomark _)
theorem de_notN (ha : DE X a fa) (hb : DE X b fb) : DE X (.Compare a [.IsNot] [b] pos) (bin (isND true) fa fb) := de_cmp op_notN opA_notN ha hb (nomark _)
theorem dt_isN (ha : DE X a fa) (hb : DE X b fb) : DT X (.Compare a [.Is] [b] pos) (tst (bin (isND false) fa fb)) := dt_cmp op_isN opA_isN ha hb (nomark _)
end

end CW

namespace CW
open PySem PySem.Spec PyProof.Rows L2

section
variable {X : Cx} {a b c : Expr} {fa fb fc : Sm} {pos : Pos}
end

section
variable {prog : Program} {w : World} {A : Around} {E : Value → Shared → Prop} {s : Shared}
theorem catNil {t b : Addr} {ws : List Value} {Q : Value → Shared → Prop} (ht : IsTup s.heap t #[]) (hb : IsTup s.heap b ws.toArray) (hq : Q (.ref b) s) : wpAny (model prog w) A (binaryOp .Add (.ref t) (.ref b)) Q E s := by
  obtain ⟨⟨c1, d1, a1, l1⟩, ho, hc, n, hd⟩ := ht
  obtain ⟨⟨c2, d2, a2, l2⟩, ho2, hc2, n2, hd2⟩ := hb
  simp only at hc hd hc2 hd2
  subst hc hd hc2 hd2
  exact concat_meets ⟨_, ho, rfl⟩ ⟨_, ho2, rfl⟩ noFill_tuple_add seq_tuple_add PySem.F.slot_tuple_add PySem.F.entry_tuple_add (PySem.F.args_tuple_add_2 _ _) (tuple_addW0 t b #[] ws.toArray n n2 d1 d2 l1 l2 rfl) ⟨ho, ho2, hq⟩
end
section
variable {X : Cx}
def rCat0 (K : PySem.W.Frag) : R2 := fun x y H Q => ∃ a b ys, x = .ref a ∧ y = .ref b ∧ SqT K H a [] ∧ SqT K H b ys ∧ Q (.ref b) H
theorem op_cat0 : OpR X (binaryOp .Add) (rCat0 X.K) := by
  intro pins s σ H x y v u Q I rx ry h
  obtain ⟨a, b, ys, rfl, rfl, ha, hb, q⟩ := h
  cases rx
  cases ry
  obtain ⟨its, r1, p1, _⟩ := I.tuple ha
  cases r1
  obtain ⟨its2, r2, p2, _⟩ := I.tuple hb
  exact catNil p1 p2 ⟨.ref b, H, I, rfl, q⟩
end
def addD (x y : D) (μ : Mu) : Option (D × Mu) := match x, y with
  | .int i, .int j => some (.int (i + j), μ)
  | .str a, .str b => if a.length + b.length ≤ 1000000 then some (.str (a ++ b), μ) else none
  | .tup xs, .tup ys => match xs with
    | [] => some (.tup ys, μ)
    | x0 :: xs0 => if (x0 :: xs0).length + ys.length ≤ 1000000 then some (.tup ((x0 :: xs0) ++ ys), μ) else none
  | .ref l, .ref m => match μ[l]?, μ[m]? with
    | some (.lst xs), some (.lst ys) => if xs.length + ys.length ≤ 1000000 then some (.ref μ.length, μ ++ [.lst (xs ++ ys)]) else none
    | _, _ => none
  | _, _ => none
def rAdd (K : PySem.W.Frag) : R2 := fun x y H Q => rI0 (fun i j => .int (i + j)) x y H Q ∨ (fun x y H Q => ∃ i j, x = .str i ∧ y = .str j ∧ i.length + j.length ≤ sizeLine ∧ Q (.str (i ++ j)) H) x y H Q ∨ rCat0 K x y H Q ∨ rCatT K x y H Q ∨ rCat x y H Q
theorem opA_add {K : PySem.W.Frag} : OpA K (rAdd K) addD := fun {R H μ x y d vx vy μ'} h rx ry e Q k => by
  unfold addD at e
  split at e
  · cases e; cases rx; cases ry
    exact .inl ⟨_, _, rfl, rfl, k _ H R .refl h (.int _)⟩
  · split at e
    · rename_i hz
      cases e; cases rx; cases ry
      exact .inr (.inl ⟨_, _, rfl, rfl, cap_line hz, k _ H R .refl h (.str _)⟩)
    · cases e
  · cases rx with
    | tup sx rrx =>
      cases ry with
      | tup sy rry =>
        split at e
        · cases e
          cases rrx
          exact .inr (.inr (.inl ⟨_, _, _, rfl, rfl, sx, sy, k _ H R .refl h (.tup sy rry)⟩))
        · split at e
          · rename_i hz
            cases e
            cases rrx with
            | cons r1 r2 =>
              refine .inr (.inr (.inr (.inl ⟨_, _, _, _, rfl, rfl, sx, sy, (by simp), ?_, fun z => ?_, fun _ p hp => ?_⟩)))
              · have e1 := (RDs.cons r1 r2).length
                rw [← e1, ← rry.length]; exact cap_line hz
              · subst z
                cases rry
                rw [List.append_nil] at k
                exact k _ H R .refl h (.tup sx (.cons r1 r2))
              · exact k _ _ R (ext_laid hp) (h.laid hp) (.tup (SqT.of upd_same) ((RDs.append (.cons r1 r2) rry).ext (ext_laid hp)))
          · cases e
  · split at e
    · rename_i l m xs ys el em
      split at e
      · rename_i hz
        cases e
        cases rx with
        | ref hl =>
          cases ry with
          | ref hm =>
            obtain ⟨vs, g1, g2⟩ := h.cellAt el hl
            obtain ⟨ws, g3, g4⟩ := h.cellAt em hm
            refine .inr (.inr (.inr (.inr ⟨_, _, vs, ws, rfl, rfl, g1, g3, by rw [← g2.length, ← g4.length]; exact cap_line hz, fun p hp => ?_⟩)))
            exact k _ _ _ (ext_new hp) (h.new hp ⟨_, upd_same, (g2.append g4).ext (ext_new hp)⟩) (.ref (rd_new h))
      · cases e
    · cases e
  · cases e
end CW

namespace CW
open PySem PySem.Spec PyProof.Rows L2
open Sem (wp)
section
variable {prog : Program} {w : World} {A : Around} {E : Value → Shared → Prop} {s : Shared}
theorem nxT_item {jt l : Addr} {i : Nat} {items} {x : Value} {Q : Value → Shared → Prop} (gi : s.heap.IsTupleIter jt l i)
    (gl : s.heap.IsTuple l items) (gx : items[i]? = some x)
    (gQ : ∀ h', h'.IsTupleIter jt l (i + 1) → Heap.SameBut jt s.heap h' → Q x { s with heap := h' }) :
    wpAny (model prog w) A (Builtin.SmallTypes.nextOf (.ref jt)) Q E s := by
  obtain ⟨o, go, gc, gd⟩ := id gi
  obtain ⟨ol, gol, _, nl, gdl⟩ := gl
  unfold Builtin.SmallTypes.nextOf
  refine wpAny_bind (wpAny_callSpecial?_slot (name := Str.ofString "__next__") gi.typeIs PySem.F.slot_tuple_iterator_next
    (wpAny_call_entry PySem.F.slot_tuple_iterator_next gi.typeIs PySem.F.entry_tuple_iterator_next ?_ (PySem.F.args_tuple_iterator_next_1 _)))
  show wpAny _ _ (field (.ref jt) 0 >>= _) _ _ s
  refine wpAny_bind (wpAny_field go gd (x := .ref l) rfl ?_)
  show wpAny _ _ (if (Value.ref l == Value.none) = true then _ else _) _ _ s
  rw [if_neg (show ¬ ((Value.ref l == Value.none) = true) from Bool.false_ne_true)]
  show wpAny _ _ (field (.ref jt) 1 >>= _) _ _ s
  refine wpAny_bind (wpAny_field go gd (x := .int i 0) rfl ?_)
  show wpAny _ _ (seqItems? (.ref l) >>= _) _ _ s
  refine wpAny_bind (wpAny_seqItems gol gdl ?_)
  simp only [Int.toNat_natCast, gx]
  refine wpAny_bind (wpAny_setField go gd (by simp) (wpAny_pure ⟨x, rfl, wpAny_pure (gQ _ ?_ (Heap.SameBut.update ..))⟩))
  exact ⟨_, Heap.get?_update_self _ go (Obj.isFreed_of_fields (Obj.data_mapFields gd _)), (Obj.cls_mapFields ..).trans gc, by
    rw [Obj.data_mapFields gd]; simp [rawInt]⟩

theorem nxT_end {jt l : Addr} {i : Nat} {items} {Q : Value → Shared → Prop} (gg : A.handled = none)
    (gi : s.heap.IsTupleIter jt l i) (gl : s.heap.IsTuple l items) (gx : items[i]? = none)
    (gE : ∀ h' e, Heap.ExtBut jt s.heap h' → (∃ o, h'.get? e = some o ∧ o.cls = .type "StopIteration") → E (.ref e) { s with heap := h' }) :
    wpAny (model prog w) A (Builtin.SmallTypes.nextOf (.ref jt)) Q E s := by
  obtain ⟨o, go, gc, gd⟩ := id gi
  obtain ⟨ol, gol, _, nl, gdl⟩ := gl
  unfold Builtin.SmallTypes.nextOf
  refine wpAny_bind (wpAny_callSpecial?_slot (name := Str.ofString "__next__") gi.typeIs PySem.F.slot_tuple_iterator_next
    (wpAny_call_entry PySem.F.slot_tuple_iterator_next gi.typeIs PySem.F.entry_tuple_iterator_next ?_ (PySem.F.args_tuple_iterator_next_1 _)))
  show wpAny _ _ (field (.ref jt) 0 >>= _) _ _ s
  refine wpAny_bind (wpAny_field go gd (x := .ref l) rfl ?_)
  show wpAny _ _ (if (Value.ref l == Value.none) = true then _ else _) _ _ s
  rw [if_neg (show ¬ ((Value.ref l == Value.none) = true) from Bool.false_ne_true)]
  show wpAny _ _ (field (.ref jt) 1 >>= _) _ _ s
  refine wpAny_bind (wpAny_field go gd (x := .int i 0) rfl ?_)
  show wpAny _ _ (seqItems? (.ref l) >>= _) _ _ s
  refine wpAny_bind (wpAny_seqItems gol gdl ?_)
  simp only [Int.toNat_natCast, gx]
  refine wpAny_bind (wpAny_rule (wpAny_bind (wpAny_setField go gd (by simp) ?_)))
  show wpAny _ _ (newExc (.type "StopIteration") [] >>= _) _ _ _
  refine wpAny_bind ?_
  simp only [newExc, newTuple]
  refine wpAny_bind (wpAny_newObj_type ?_ (by size_fits))
  refine wpAny_bind (m := firstArgMember _ _) (wpAny_of_eq (a := Value.none) (by first | rfl | (simp only [firstArgMember]; rfl)) ?_)
  refine wpAny_newObj_type ?_ (by size_fits)
  simp only [raiseNew]
  refine wpAny_bind (wpAny_handled ?_)
  first | rw [show A.in1.handled = none from gg] | rw [gg]
  refine wpAny_bind (wpAny_pure (wpAny_throw ?_))
  exact gE _ _ (((Heap.SameBut.update ..).extBut.push _).push _) ⟨_, Heap.get?_push_size _ rfl, rfl⟩

theorem zip_next_itemT {z TI TO i1 i2 l1 l2 : Addr} {k1 k2 : Nat} {xs ys : Array Value} {x y a b : Value} {Q : Value → Shared → Prop} (D : ZipApart z TI TO i1 i2 l1 l2)
    (gz : IsZip s.heap z TI TO .none) (gTI : IsPair s.heap TI (.ref i1) (.ref i2)) (gTO : IsPair s.heap TO a b)
    (h1 : s.heap.IsTupleIter i1 l1 k1) (h2 : s.heap.IsTupleIter i2 l2 k2) (gl1 : s.heap.IsTuple l1 xs) (gl2 : s.heap.IsTuple l2 ys) (gx : xs[k1]? = some x) (gy : ys[k2]? = some y)
    (gQ : ∀ h', IsZip h' z TI TO (rawInt s.heap.objs.size) → IsPair h' TO x y → h'.IsTupleIter i1 l1 (k1 + 1) → h'.IsTupleIter i2 l2 (k2 + 1) → IsPair h' s.heap.objs.size x y → h'.objs.size = s.heap.objs.size + 1 →
      (∀ c o, c ≠ z → c ≠ TO → c ≠ i1 → c ≠ i2 → s.heap.get? c = some o → h'.get? c = some o) → Q (.ref s.heap.objs.size) { s with heap := h' }) :
    wpAny (model prog w) A (Builtin.«zip.__next__» ⟨[.ref z], []⟩) (fun fin s' => ∃ v, fin = .done (.ret v) ∧ Q v s') E s := by
  show wpAny _ _ (field (.ref z) 2 >>= _) _ _ _
  refine wpAny_bind (wpAny_field gz rfl (x := .bool false) rfl ?_)
  show wpAny _ _ (field (.ref z) 3 >>= _) _ _ _
  refine wpAny_bind (wpAny_field gz rfl (x := .ref TI) rfl ?_)
  refine wpAny_bind (wpAny_seqItems gTI rfl ?_)
  show wpAny _ _ (Builtin.SmallTypes.ownedTupleIsFree (.ref z) >>= _) _ _ _
  refine wpAny_bind ?_
  unfold Builtin.SmallTypes.ownedTupleIsFree
  refine wpAny_bind (wpAny_field gz rfl (x := .none) rfl (wpAny_pure ?_))
  simp only [if_true]
  refine wpAny_bind (wpAny_rule ?_)
  refine wpAny_bind (wpAny_field gz rfl (x := .ref TO) rfl ?_)
  refine wpAny_bind (wpAny_setField_rec gz (by simp) fun h₁ gz₁ hs₁ => ?_)
  replace gz₁ : IsZip h₁ z TI TO .ellipsis := gz₁
  refine wpAny_bind ?_
  simp only [List.forIn_cons, List.forIn_nil, List.zipIdx_cons, List.zipIdx_nil]

  refine wpAny_bind (wpAny_bind (wpAny_onRaise ?_))
  show wpAny _ _ (Builtin.SmallTypes.nextOf (.ref i1) >>= _) _ _ _
  refine wpAny_bind (nxT_item (h1.extBut hs₁.extBut D.i1z) (gl1.extBut hs₁.extBut D.l1z) gx fun h₂ h1₂ hs₂ => wpAny_pure ?_)
  have gTO₂ : IsPair h₂ TO a b := hs₂.extBut _ _ D.TOi1 (hs₁.extBut _ _ D.TOz gTO)
  refine wpAny_bind (wpAny_seqItems gTO₂ rfl ?_)
  refine wpAny_bind (wpAny_updateSeq_pair gTO₂ fun h₃ gTO₃ hs₃ => ?_)
  replace gTO₃ : IsPair h₃ TO x b := gTO₃
  refine wpAny_bind (wpAny_letGo (wpAny_pure ?_))

  refine wpAny_bind (wpAny_bind (wpAny_onRaise ?_))
  show wpAny _ _ (Builtin.SmallTypes.nextOf (.ref i2) >>= _) _ _ _
  refine wpAny_bind (nxT_item (((h2.extBut hs₁.extBut D.i2z).extBut hs₂.extBut D.i12.symm).extBut hs₃.extBut D.TOi2.symm)
    (((gl2.extBut hs₁.extBut D.l2z).extBut hs₂.extBut D.l2i1).extBut hs₃.extBut D.l2TO) gy fun h₄ h2₄ hs₄ => wpAny_pure ?_)
  have gTO₄ : IsPair h₄ TO x b := hs₄.extBut _ _ D.TOi2 gTO₃
  refine wpAny_bind (wpAny_seqItems gTO₄ rfl ?_)
  refine wpAny_bind (wpAny_updateSeq_pair gTO₄ fun h₅ gTO₅ hs₅ => ?_)
  replace gTO₅ : IsPair h₅ TO x y := gTO₅
  refine wpAny_bind (wpAny_letGo (wpAny_pure (wpAny_pure ?_)))

  refine wpAny_bind (wpAny_seqItems gTO₅ rfl ?_)
  refine wpAny_bind (wpAny_newTuple ?_)
  have hsz : h₅.objs.size = s.heap.objs.size := by rw [hs₅.1, hs₄.1, hs₃.1, hs₂.1, hs₁.1]
  have gz₅ : IsZip h₅ z TI TO .ellipsis := hs₅.extBut _ _ D.TOz.symm (hs₄.extBut _ _ D.i2z.symm (hs₃.extBut _ _ D.TOz.symm (hs₂.extBut _ _ D.i1z.symm gz₁)))
  have gk₅ : ∀ c o, c ≠ z → c ≠ TO → c ≠ i1 → c ≠ i2 → s.heap.get? c = some o → h₅.get? c = some o := fun c o c1 c2 c3 c4 e =>
    hs₅.extBut _ _ c2 (hs₄.extBut _ _ c4 (hs₃.extBut _ _ c2 (hs₂.extBut _ _ c3 (hs₁.extBut _ _ c1 e))))
  have h1₅ : h₅.IsTupleIter i1 l1 (k1 + 1) := ((h1₂.extBut hs₃.extBut D.TOi1.symm).extBut hs₄.extBut D.i12).extBut hs₅.extBut D.TOi1.symm
  have h2₅ : h₅.IsTupleIter i2 l2 (k2 + 1) := h2₄.extBut hs₅.extBut D.TOi2.symm
  have hzlt : z < h₅.objs.size := Heap.lt_size gz₅
  have hTOlt : TO < h₅.objs.size := Heap.lt_size gTO₅
  have hi1lt : i1 < h₅.objs.size := by obtain ⟨_, e, _⟩ := h1₅; exact Heap.lt_size e
  have hi2lt : i2 < h₅.objs.size := by obtain ⟨_, e, _⟩ := h2₅; exact Heap.lt_size e
  show wpAny _ _ (Builtin.SmallTypes.ownedTupleHandOut (.ref z) (.ref h₅.objs.size) >>= _) _ _ _
  refine wpAny_bind ?_
  unfold Builtin.SmallTypes.ownedTupleHandOut
  have gz₆ : IsZip (h₅.push { cls := .type "tuple", data := .seq #[x, y] }) z TI TO .ellipsis := Heap.get?_push_of_some _ gz₅
  refine wpAny_bind (wpAny_setField_rec gz₆ (by simp) fun h₇ gz₇ hs₇ => ?_)
  replace gz₇ : IsZip h₇ z TI TO (rawInt h₅.objs.size) := gz₇
  refine wpAny_setField_rec gz₇ (by simp) fun h₈ gz₈ hs₈ => ?_
  replace gz₈ : IsZip h₈ z TI TO (rawInt h₅.objs.size) := gz₈
  have up : ∀ c o, c ≠ z → h₅.get? c = some o → h₈.get? c = some o := fun c o c1 e => hs₈.extBut _ _ c1 (hs₇.extBut _ _ c1 (Heap.get?_push_of_some _ e))
  have hT₈ : IsPair h₈ h₅.objs.size x y := hs₈.extBut _ _ (Nat.ne_of_gt hzlt) (hs₇.extBut _ _ (Nat.ne_of_gt hzlt) (Heap.get?_push_size _ rfl))
  have hz8 : h₈.objs.size = h₅.objs.size + 1 := by rw [hs₈.1, hs₇.1, Heap.size_push]
  rw [hsz] at gz₈ hT₈ hz8
  refine wpAny_pure ⟨_, rfl, ?_⟩
  show Q (.ref h₅.objs.size) _
  rw [hsz]
  exact gQ h₈ gz₈ (up _ _ D.TOz gTO₅) (h1₅.at fun o e => up _ o D.i1z e) (h2₅.at fun o e => up _ o D.i2z e) hT₈ hz8 fun c o c1 c2 c3 c4 e => up c o c1 (gk₅ c o c1 c2 c3 c4 e)

theorem zip_next_endT {z TI TO i1 i2 l1 l2 : Addr} {k1 k2 : Nat} {xs ys : Array Value} {a b : Value} {Q : Fin → Shared → Prop} (gg : A.handled = none) (D : ZipApart z TI TO i1 i2 l1 l2)
    (gz : IsZip s.heap z TI TO .none) (gTI : IsPair s.heap TI (.ref i1) (.ref i2)) (gTO : IsPair s.heap TO a b)
    (h1 : s.heap.IsTupleIter i1 l1 k1) (h2 : s.heap.IsTupleIter i2 l2 k2) (gl1 : s.heap.IsTuple l1 xs) (gl2 : s.heap.IsTuple l2 ys) (hend : xs[k1]? = none ∨ ys[k2]? = none)
    (gE : ∀ h' e, (∀ c o, c ≠ z → c ≠ TO → c ≠ i1 → c ≠ i2 → s.heap.get? c = some o → h'.get? c = some o) → (∃ o, h'.get? e = some o ∧ o.cls = .type "StopIteration") → E (.ref e) { s with heap := h' }) :
    wpAny (model prog w) A (Builtin.«zip.__next__» ⟨[.ref z], []⟩) Q E s := by
  show wpAny _ _ (field (.ref z) 2 >>= _) _ _ _
  refine wpAny_bind (wpAny_field gz rfl (x := .bool false) rfl ?_)
  show wpAny _ _ (field (.ref z) 3 >>= _) _ _ _
  refine wpAny_bind (wpAny_field gz rfl (x := .ref TI) rfl ?_)
  refine wpAny_bind (wpAny_seqItems gTI rfl ?_)
  show wpAny _ _ (Builtin.SmallTypes.ownedTupleIsFree (.ref z) >>= _) _ _ _
  refine wpAny_bind ?_
  unfold Builtin.SmallTypes.ownedTupleIsFree
  refine wpAny_bind (wpAny_field gz rfl (x := .none) rfl (wpAny_pure ?_))
  simp only [if_true]
  refine wpAny_bind (wpAny_rule ?_)
  refine wpAny_bind (wpAny_field gz rfl (x := .ref TO) rfl ?_)
  refine wpAny_bind (wpAny_setField_rec gz (by simp) fun h₁ gz₁ hs₁ => ?_)
  replace gz₁ : IsZip h₁ z TI TO .ellipsis := gz₁
  refine wpAny_bind ?_
  simp only [List.forIn_cons, List.forIn_nil, List.zipIdx_cons, List.zipIdx_nil]
  refine wpAny_bind (wpAny_bind (wpAny_onRaise ?_))
  show wpAny _ _ (Builtin.SmallTypes.nextOf (.ref i1) >>= _) _ _ _
  cases gx : xs[k1]? with
  | none =>
    refine wpAny_bind (nxT_end gg (h1.extBut hs₁.extBut D.i1z) (gl1.extBut hs₁.extBut D.l1z) gx fun h₂ e hs₂ he => ?_)
    obtain ⟨oe, hoe, hce⟩ := he
    have gz₂ : IsZip h₂ z TI TO .ellipsis := hs₂ _ _ D.i1z.symm gz₁
    have hez : e ≠ z := fun x => by subst x; rw [gz₂] at hoe; cases hoe; simp at hce
    refine wpAny_setField_rec gz₂ (by simp) fun h₃ _ hs₃ => gE h₃ e (fun c o c1 _ c3 _ x => hs₃.extBut _ _ c1 (hs₂ _ _ c3 (hs₁.extBut _ _ c1 x))) ⟨oe, hs₃.extBut _ _ hez hoe, hce⟩
  | some x =>
    have gy : ys[k2]? = none := by rcases hend with h | h; rw [gx] at h; cases h; exact h
    refine wpAny_bind (nxT_item (h1.extBut hs₁.extBut D.i1z) (gl1.extBut hs₁.extBut D.l1z) gx fun h₂ h1₂ hs₂ => wpAny_pure ?_)
    have gTO₂ : IsPair h₂ TO a b := hs₂.extBut _ _ D.TOi1 (hs₁.extBut _ _ D.TOz gTO)
    refine wpAny_bind (wpAny_seqItems gTO₂ rfl ?_)
    refine wpAny_bind (wpAny_updateSeq_pair gTO₂ fun h₃ gTO₃ hs₃ => ?_)
    refine wpAny_bind (wpAny_letGo (wpAny_pure ?_))
    refine wpAny_bind (wpAny_bind (wpAny_onRaise ?_))
    show wpAny _ _ (Builtin.SmallTypes.nextOf (.ref i2) >>= _) _ _ _
    refine wpAny_bind (nxT_end gg (((h2.extBut hs₁.extBut D.i2z).extBut hs₂.extBut D.i12.symm).extBut hs₃.extBut D.TOi2.symm)
      (((gl2.extBut hs₁.extBut D.l2z).extBut hs₂.extBut D.l2i1).extBut hs₃.extBut D.l2TO) gy fun h₄ e hs₄ he => ?_)
    obtain ⟨oe, hoe, hce⟩ := he
    have gz₄ : IsZip h₄ z TI TO .ellipsis := hs₄ _ _ D.i2z.symm (hs₃.extBut _ _ D.TOz.symm (hs₂.extBut _ _ D.i1z.symm gz₁))
    have hez : e ≠ z := fun x => by subst x; rw [gz₄] at hoe; cases hoe; simp at hce
    refine wpAny_setField_rec gz₄ (by simp) fun h₅ _ hs₅ => gE h₅ e (fun c o c1 c2 c3 c4 x => hs₅.extBut _ _ c1 (hs₄ _ _ c4 (hs₃.extBut _ _ c2 (hs₂.extBut _ _ c3 (hs₁.extBut _ _ c1 x))))) ⟨oe, hs₅.extBut _ _ hez hoe, hce⟩

theorem pnT_item {z TI TO i1 i2 l1 l2 : Addr} {k1 k2 : Nat} {xs ys : Array Value} {x y a b : Value} {Q : Option Value → Shared → Prop} (D : ZipApart z TI TO i1 i2 l1 l2)
    (gz : IsZip s.heap z TI TO .none) (gTI : IsPair s.heap TI (.ref i1) (.ref i2)) (gTO : IsPair s.heap TO a b)
    (h1 : s.heap.IsTupleIter i1 l1 k1) (h2 : s.heap.IsTupleIter i2 l2 k2) (gl1 : s.heap.IsTuple l1 xs) (gl2 : s.heap.IsTuple l2 ys) (gx : xs[k1]? = some x) (gy : ys[k2]? = some y)
    (gQ : ∀ h', IsZip h' z TI TO (rawInt s.heap.objs.size) → IsPair h' TO x y → h'.IsTupleIter i1 l1 (k1 + 1) → h'.IsTupleIter i2 l2 (k2 + 1) → IsPair h' s.heap.objs.size x y → h'.objs.size = s.heap.objs.size + 1 →
      (∀ c o, c ≠ z → c ≠ TO → c ≠ i1 → c ≠ i2 → s.heap.get? c = some o → h'.get? c = some o) → Q (some (.ref s.heap.objs.size)) { s with heap := h' }) :
    wpAny (model prog w) A (pyNext (.ref z)) Q E s := by
  have hT : s.TypeIs (.ref z) "zip" := ⟨_, gz, rfl⟩
  unfold pyNext
  exact wpAny_bind (wpAny_attempt (wpAny_callSpecial?_slot (name := Str.ofString "__next__") hT F.slot_zip_next
    (wpAny_call_entry F.slot_zip_next hT F.entry_zip_next
      (zip_next_itemT D gz gTI gTO h1 h2 gl1 gl2 gx gy fun h' a1 a2 a3 a4 a5 a6 a7 => wpAny_pure (gQ h' a1 a2 a3 a4 a5 a6 a7)) (F.args_zip_next_1 _))))

theorem pnT_end {z TI TO i1 i2 l1 l2 : Addr} {k1 k2 : Nat} {xs ys : Array Value} {a b : Value} {Q : Option Value → Shared → Prop} (gg : A.handled = none) (D : ZipApart z TI TO i1 i2 l1 l2)
    (gz : IsZip s.heap z TI TO .none) (gTI : IsPair s.heap TI (.ref i1) (.ref i2)) (gTO : IsPair s.heap TO a b)
    (h1 : s.heap.IsTupleIter i1 l1 k1) (h2 : s.heap.IsTupleIter i2 l2 k2) (gl1 : s.heap.IsTuple l1 xs) (gl2 : s.heap.IsTuple l2 ys) (hend : xs[k1]? = none ∨ ys[k2]? = none)
    (gQ : ∀ h', (∀ c o, c ≠ z → c ≠ TO → c ≠ i1 → c ≠ i2 → s.heap.get? c = some o → h'.get? c = some o) → Q none { s with heap := h' }) : wpAny (model prog w) A (pyNext (.ref z)) Q E s := by
  have hT : s.TypeIs (.ref z) "zip" := ⟨_, gz, rfl⟩
  unfold pyNext
  refine wpAny_bind (wpAny_attempt (wpAny_callSpecial?_slot (name := Str.ofString "__next__") hT F.slot_zip_next
    (wpAny_call_entry F.slot_zip_next hT F.entry_zip_next (zip_next_endT gg D gz gTI gTO h1 h2 gl1 gl2 hend fun h' e gk he => ?_) (F.args_zip_next_1 _))))
  obtain ⟨o, go, gc⟩ := he
  refine wpAny_bind (wpAny_isInstance (T := "StopIteration") (b := true) ⟨o, go, gc⟩ isSubtype_stop ?_)
  exact wpAny_pure (gQ _ gk)

end
abbrev zTH1 (h : Heap) (l1 : Addr) : Heap := h.push { cls := .type "tuple_iterator", data := .fields #[.ref l1, .int 0 0] }
abbrev zTH2 (h : Heap) (l1 l2 : Addr) : Heap := (zTH1 h l1).push { cls := .type "tuple_iterator", data := .fields #[.ref l2, .int 0 0] }
abbrev zTH3 (h : Heap) (l1 l2 : Addr) : Heap := (zTH2 h l1 l2).push { cls := .type "tuple", data := .seq #[.ref h.objs.size, .ref (zTH1 h l1).objs.size] }
abbrev zTH4 (h : Heap) (l1 l2 : Addr) : Heap := (zTH3 h l1 l2).push { cls := .type "tuple", data := .seq #[.none, .none] }
abbrev zTH5 (h : Heap) (l1 l2 : Addr) : Heap := (zTH4 h l1 l2).push { cls := .type "zip", data := .fields #[.none, .bool false, .bool false, .ref (zTH2 h l1 l2).objs.size, .ref (zTH3 h l1 l2).objs.size] }

theorem meetsT_new (l1 l2 : Addr) (xs ys : Array Value) :
    Meets (Builtin.«zip.__new__» ⟨[.type "zip", .ref l1, .ref l2], []⟩) (fun _ R s => s.heap.IsTuple l1 xs ∧ s.heap.IsTuple l2 ys ∧
      R (.ok (.ret (.ref (zTH4 s.heap l1 l2).objs.size))) { s with heap := zTH5 s.heap l1 l2 }) :=
  .of_wp fun prog w A R s h => by
    obtain ⟨gp0, g, d, tk, os⟩ := s; obtain ⟨gl1, gl2, h⟩ := h
    have hsub := sub_zip
    have hL1 : Heap.IsTuple (Shared.heap ⟨gp0, g, d, tk, os⟩) l1 xs := gl1
    have hL2 : Heap.IsTuple (Shared.heap ⟨gp0.push { cls := .type "tuple_iterator", data := .fields #[.ref l1, .int 0 0] }, g, d, tk, os⟩) l2 ys := Heap.IsTuple.push gl2 _
    wp_walk using wpAny_pyIter_tuple hL1, wpAny_pyIter_tuple hL2
    exact ⟨_, rfl, h⟩

section
variable {prog : Program} {w : World} {A : Around} {E : Value → Shared → Prop} {s : Shared}
theorem callT_zip {l1 l2 : Addr} {xs ys : Array Value} {Q : Value → Shared → Prop} (gl1 : s.heap.IsTuple l1 xs) (gl2 : s.heap.IsTuple l2 ys)
    (h : ∀ h', IsZip h' (s.heap.objs.size + 4) (s.heap.objs.size + 2) (s.heap.objs.size + 3) .none → IsPair h' (s.heap.objs.size + 2) (.ref s.heap.objs.size) (.ref (s.heap.objs.size + 1)) →
      IsPair h' (s.heap.objs.size + 3) .none .none → h'.IsTupleIter s.heap.objs.size l1 0 → h'.IsTupleIter (s.heap.objs.size + 1) l2 0 → h'.objs.size = s.heap.objs.size + 5 →
      (∀ c o, s.heap.get? c = some o → h'.get? c = some o) → Q (.ref (s.heap.objs.size + 4)) { s with heap := h' }) :
    wpAny (model prog w) A (call (.type "zip") [.ref l1, .ref l2]) Q E s := by
  refine callType_new F.called_zip (by decide) (F.typeCall_zip_2 _ _) (F.newCall_zip_2 _ _) (fun obj => F.args_object_init_3 obj _ _) F.entry_zip_new
    (meetsT_new l1 l2 xs ys) ⟨gl1, gl2, ?_⟩
  have z1 : (zTH1 s.heap l1).objs.size = s.heap.objs.size + 1 := Heap.size_push ..
  have z2 : (zTH2 s.heap l1 l2).objs.size = s.heap.objs.size + 2 := by rw [Heap.size_push, z1]
  have z3 : (zTH3 s.heap l1 l2).objs.size = s.heap.objs.size + 3 := by rw [Heap.size_push, z2]
  have z4 : (zTH4 s.heap l1 l2).objs.size = s.heap.objs.size + 4 := by rw [Heap.size_push, z3]
  have z5 : (zTH5 s.heap l1 l2).objs.size = s.heap.objs.size + 5 := by rw [Heap.size_push, z4]
  have g5 : (zTH5 s.heap l1 l2).get? (zTH4 s.heap l1 l2).objs.size = some _ := Heap.get?_push_size _ rfl
  have g4 : (zTH5 s.heap l1 l2).get? (zTH3 s.heap l1 l2).objs.size = some _ := Heap.get?_push_of_some _ (Heap.get?_push_size _ rfl)
  have g3 : (zTH5 s.heap l1 l2).get? (zTH2 s.heap l1 l2).objs.size = some _ := Heap.get?_push_of_some _ (Heap.get?_push_of_some _ (Heap.get?_push_size _ rfl))
  have g2 : (zTH5 s.heap l1 l2).get? (zTH1 s.heap l1).objs.size = some _ := Heap.get?_push_of_some _ (Heap.get?_push_of_some _ (Heap.get?_push_of_some _ (Heap.get?_push_size _ rfl)))
  have g1 : (zTH5 s.heap l1 l2).get? s.heap.objs.size = some _ := Heap.get?_push_of_some _ (Heap.get?_push_of_some _ (Heap.get?_push_of_some _ (Heap.get?_push_of_some _ (Heap.get?_push_size _ rfl))))
  show _ ∧ _
  rw [z2, z3, z4] at g5
  rw [z1, z2] at g3
  rw [z3] at g4
  rw [z1] at g2
  rw [z4]
  exact ⟨⟨_, g5, rfl⟩, h _ g5 g3 g4 ⟨_, g1, rfl, rfl⟩ ⟨_, g2, rfl, rfl⟩ z5 fun c o x =>
    Heap.get?_push_of_some _ (Heap.get?_push_of_some _ (Heap.get?_push_of_some _ (Heap.get?_push_of_some _ (Heap.get?_push_of_some _ x))))⟩

end
theorem bootZT : bootBuiltins "zip" = some (.type "zip") := by decide +kernel
def ItzT (K : PySem.W.Frag) (a b : Addr) : It :=
  ⟨fun i H => ∃ (xs ys : List V) (x y : V), SqT K H a xs ∧ SqT K H b ys ∧ xs[i]? = some x ∧ ys[i]? = some y,
    fun i H v H' => ∃ T x y, v = .ref T ∧ H T = none ∧ H' = upd H T (.tup [x, y]) ∧ (∀ xs, SqT K H a xs → xs[i]? = some x) ∧ ∀ ys, SqT K H b ys → ys[i]? = some y,
    fun i H => ∃ xs ys : List V, SqT K H a xs ∧ SqT K H b ys ∧ (xs.length ≤ i ∨ ys.length ≤ i)⟩
theorem turnT_zip {P : Program} {w : World} {K : PySem.W.Frag} {elts : List Expr} {kk : Nat} {tpos : Pos} {a b z TI TO i1 i2 : Addr} (D : ZipApart z TI TO i1 i2 a b) :
    Turn P w K (.Tuple elts kk tpos) (ItzT K a b) [z, TI, TO, i1, i2] z (fun i h => IsZip h z TI TO .none ∧ IsPair h TI (.ref i1) (.ref i2) ∧ (∃ x y, IsPair h TO x y) ∧ h.IsTupleIter i1 a i ∧ h.IsTupleIter i2 b i) where
  mem := by simp
  obj := fun i h tt0 c gc => by
    obtain ⟨gz, gTI, ⟨x, y, gTO⟩, ⟨o1, e1, _, d1⟩, ⟨o2, e2, _, d2⟩⟩ := tt0
    have e' : c = z ∨ c = TI ∨ c = TO ∨ c = i1 ∨ c = i2 := by simpa using gc
    rcases e' with q | q | q | q | q
    · rw [q]; exact ⟨_, gz, fun v q => nomatch q⟩
    · rw [q]; exact ⟨_, gTI, fun v q => nomatch q⟩
    · rw [q]; exact ⟨_, gTO, fun v q => nomatch q⟩
    · rw [q]; exact ⟨o1, e1, fun v q => by rw [d1] at q; cases q⟩
    · rw [q]; exact ⟨o2, e2, fun v q => by rw [d2] at q; cases q⟩
  keep := fun i h h' tt0 k => by
    obtain ⟨gz, gTI, ⟨x, y, gTO⟩, h1, h2⟩ := tt0
    exact ⟨k z (by simp) _ gz, k TI (by simp) _ gTI, ⟨x, y, k TO (by simp) _ gTO⟩, h1.at fun o q => k i1 (by simp) o q, h2.at fun o q => k i2 (by simp) o q⟩
  item := by
    intro X hP hw hK gc i pins s σ H E I fh tt0 hg
    subst hP hw hK
    obtain ⟨gz, gTI, ⟨x0, y0, gTO⟩, h1, h2⟩ := tt0
    obtain ⟨xs, ys, x, y, gqx, gqy, gx, gy⟩ := hg
    obtain ⟨its, rw1, p, _⟩ := I.tuple gqx
    obtain ⟨its2, rv2, p2, _⟩ := I.tuple gqy
    obtain ⟨u, hu, ru⟩ := rw1.get gx
    obtain ⟨u2, hu2, ru2⟩ := rv2.get gy
    have hzl : z < s.heap.objs.size := Heap.lt_size gz
    refine pnT_item D gz gTI gTO h1 h2 p p2 (x := u) (y := u2) (by simpa using hu) (by simpa using hu2) fun h' z' TO' h1' h2' hT hsz gk => ?_
    refine ⟨_, rfl, wpAny_letOwnedTupleGo_zip (s := { s with heap := h' }) z' fun h'' z'' sk => ?_⟩
    have hT2 : h''.get? s.heap.objs.size = some { cls := .type "tuple", data := .seq #[u, u2] } := (sk.2 _ (Nat.ne_of_gt hzl)).trans hT
    have new : ObjOk X.prog X.w (upd H s.heap.objs.size (.tup [x, y])) h'' s.heap.objs.size (.tup [x, y]) :=
      ⟨by show 2 ≤ sizeLine; decide, [u, u2], .cons ru (.cons ru2 .nil), ⟨_, hT2, rfl, _, rfl⟩⟩
    have J1 : Inv X pins σ (upd H s.heap.objs.size (.tup [x, y])) { s with heap := h'' } :=
      I.turnedNew (t' := s.toks) (ch := [z, TI, TO, i1, i2]) (fun c o hb q => (sk.2 c (fun q' => hb (by simp [q']))).trans (gk c o (fun q' => hb (by simp [q'])) (fun q' => hb (by simp [q'])) (fun q' => hb (by simp [q'])) (fun q' => hb (by simp [q'])) q)) fh (Nat.le_refl _) new
    refine ⟨.ref s.heap.objs.size, _, J1, rfl, ⟨_, x, y, rfl, I.hok.fresh (Nat.le_refl _), rfl, fun l gl => by rw [I.tuple_inj gl gqx]; exact gx, fun l gl => by rw [I.tuple_inj gl gqy]; exact gy⟩, ⟨z'', ?_, ⟨u, u2, ?_⟩, ?_, ?_⟩, fun c gcm => ?_⟩
    · exact (sk.2 _ D.TIz).trans (gk _ _ D.TIz D.TITO D.TIi1 D.TIi2 gTI)
    · exact (sk.2 _ D.TOz).trans TO'
    · exact h1'.at fun o q => (sk.2 _ D.i1z).trans q
    · exact h2'.at fun o q => (sk.2 _ D.i2z).trans q
    · have hlt : c < s.heap.objs.size := by
        have e' : c = z ∨ c = TI ∨ c = TO ∨ c = i1 ∨ c = i2 := by simpa using gcm
        rcases e' with q | q | q | q | q
        · rw [q]; exact hzl
        · rw [q]; exact Heap.lt_size gTI
        · rw [q]; exact Heap.lt_size gTO
        · rw [q]; obtain ⟨_, e1, _⟩ := h1; exact Heap.lt_size e1
        · rw [q]; obtain ⟨_, e2, _⟩ := h2; exact Heap.lt_size e2
      rw [upd_ne (Nat.ne_of_lt hlt)]
      exact (fh c gcm).1
  done := by
    intro X hP hw hK gc i pins s σ H E I fh tt0 hg
    subst hP hw hK
    obtain ⟨gz, gTI, ⟨x0, y0, gTO⟩, h1, h2⟩ := tt0
    obtain ⟨xs, ys, gqx, gqy, hend⟩ := hg
    obtain ⟨its, rw1, p, _⟩ := I.tuple gqx
    obtain ⟨its2, rv2, p2, _⟩ := I.tuple gqy
    have l1 := rw1.length
    have l2 := rv2.length
    have he : its.toArray[i]? = none ∨ its2.toArray[i]? = none := by
      rcases hend with q | q
      · exact .inl (by simp; omega)
      · exact .inr (by simp; omega)
    exact pnT_end (I.ok.hd gc) D gz gTI gTO h1 h2 p p2 he fun h' gk => ⟨rfl, I.turnedL (t' := s.toks) (ch := [z, TI, TO, i1, i2]) (fun c o hb q =>
      gk c o (fun q' => hb (by simp [q'])) (fun q' => hb (by simp [q'])) (fun q' => hb (by simp [q'])) (fun q' => hb (by simp [q'])) q) fh⟩
  self := fun A i s Q E tt0 h => wpAny_pyIter_zip tt0.1 h
def iZipT (K : PySem.W.Frag) (ta : TA) : TI := fun σ H R => ta σ H fun vs H1 => ∃ a b xs ys, vs = [.ref a, .ref b] ∧ SqT K H1 a xs ∧ SqT K H1 b ys ∧ R (ItzT K a b) H1
theorem piT_zip {X : Cx} {e e2 : Expr} {ta : TA} {p pos tpos : Pos} {elts : List Expr} {kk : Nat} (hg : Gl X "zip") (hm : X.mg "zip" = none) (ha : PA X [e, e2] ta)
    (hs : starEach [e, e2] X.env = (false, eval e X.env) :: starEach [e2] X.env := by kernel_rfl) (hpl : (backTo pos (starEach [e2] X.env)).any (·.1) = false := by kernel_rfl) :
    PI X (.Tuple elts kk tpos) (.Call (.Name "zip" p) [e, e2] [] pos) (iZipT X.K ta) := by
  intro pins s σ H R I h
  refine Call_ (ld_blt I hg hm bootZT (PyProof.Rows.callWith_type1 (thn (ha pos pins s σ H _ I h) fun us s1 ⟨vs, H1, J1, r1, q1⟩ => ?_) hs hpl))
  obtain ⟨a, b, xs, ys, ex, gqx, gqy, q⟩ := q1
  subst ex
  cases r1 with
  | cons r rr =>
    cases rr with
    | cons r' rr =>
      cases rr
      cases r
      cases r'
      obtain ⟨its, rw1, p1, _⟩ := J1.tuple gqx
      obtain ⟨its2, rv2, p2, _⟩ := J1.tuple gqy
      have la : a < s1.heap.objs.size := p1.lt
      have lb : b < s1.heap.objs.size := p2.lt
      refine callT_zip p1 p2 fun h' gz gTI gTO h1 h2 hsz gk => wpAny_pyIter_zip gz ?_
      have J2 : Inv X pins σ H1 { s1 with heap := h' } := J1.kept (t' := s1.toks) gk
      refine ⟨s1.heap.objs.size + 4, [s1.heap.objs.size + 4, s1.heap.objs.size + 2, s1.heap.objs.size + 3, s1.heap.objs.size, s1.heap.objs.size + 1], _, _, H1, rfl, J2, turnT_zip (PySem.W.ktu_apart s1.heap.objs.size a b la lb), ⟨gz, gTI, ⟨_, _, gTO⟩, h1, h2⟩, fun c gcm => ?_, q⟩
      have e' : c = s1.heap.objs.size + 4 ∨ c = s1.heap.objs.size + 2 ∨ c = s1.heap.objs.size + 3 ∨ c = s1.heap.objs.size ∨ c = s1.heap.objs.size + 1 := by simpa using gcm
      have hle : s1.heap.objs.size ≤ c := by
        rcases e' with z | z | z | z | z
        · rw [z]; exact Nat.le_add_right _ _
        · rw [z]; exact Nat.le_add_right _ _
        · rw [z]; exact Nat.le_add_right _ _
        · rw [z]; exact Nat.le_refl _
        · rw [z]; exact Nat.le_add_right _ _
      exact J1.fpOk hle (J1.hok.fresh hle)

end CW

namespace CW
open PySem PySem.Spec PyProof.Rows L2
open Builtin
theorem noFillT : fillsNumberSlot (.type "tuple") "mul" = pure false :=
  PySem.fillsNumberSlot_seq (id := "tuple.__mul__") (r := some (.builtin "tuple.__rmul__")) PySem.F.slot_tuple_mul.lookup (by decide +kernel) PySem.F.slot_tuple_rmul.lookup (by decide +kernel)
theorem repeatT : seqRepeat? (.type "tuple") = pure (some (.builtin "tuple.__mul__")) := by
  unfold seqRepeat?
  rw [PySem.seqSlot_of (T := "tuple") (name := "__mul__") (id := "tuple.__mul__") PySem.F.slot_tuple_mul.lookup (by decide +kernel), PySem.seqSlot_of (T := "tuple") (name := "__rmul__") (id := "tuple.__rmul__") PySem.F.slot_tuple_rmul.lookup (by decide +kernel)]
  rfl
theorem rmulT (a : Int) (t : Tok) (l : Addr) (its : Array Value) (n : Nat) (dd : Option Addr) (sl : Array (Option Value)) :
    Meets (Builtin.«int.__rmul__» ⟨[.int a t, .ref l], []⟩) (fun _ R s => s.heap.get? l = some { cls := .type "tuple", dict := dd, data := .seq its n, slots := sl } ∧ R (.ok (.ret Value.notImplemented)) s) :=
  .of_wp fun prog w A R s h => by obtain ⟨hp, g, d, tk, os⟩ := s; obtain ⟨hl, h⟩ := h; wp_walk; exact ⟨_, rfl, h⟩
/-- t * 1 -/
theorem mulT1 (l : Addr) (its : Array Value) (n : Nat) (dd : Option Addr) (sl : Array (Option Value)) (u : Tok) :
    Meets (Builtin.«tuple.__mul__» ⟨[.ref l, .int 1 u], []⟩) (fun _ R s => s.heap.get? l = some { cls := .type "tuple", dict := dd, data := .seq its n, slots := sl } ∧ R (.ok (.ret (.ref l))) s) :=
  .of_wp fun prog w A R s h => by
    obtain ⟨hp, g, d, tk, os⟩ := s; obtain ⟨hl, h⟩ := h
    have f1 := AutoSeq1.idx_int
    wp_walk using wpAny_loadPart' hl
    exact ⟨_, rfl, h⟩
theorem mulT0 (l : Addr) (its : Array Value) (n : Nat) (dd : Option Addr) (sl : Array (Option Value)) (x : Int) (u : Tok) (h0 : x = 0) (hne : ¬ its.isEmpty = true) :
    Meets (Builtin.«tuple.__mul__» ⟨[.ref l, .int x u], []⟩) (fun _ R s => s.heap.get? l = some { cls := .type "tuple", dict := dd, data := .seq its n, slots := sl } ∧ R (.ok (.ret (.ref s.heap.objs.size))) { s with heap := s.heap.push { cls := .type "tuple", data := .seq #[] } }) :=
  .of_wp fun prog w A R s h => by
    obtain ⟨hp, g, d, tk, os⟩ := s; obtain ⟨hl, h⟩ := h
    subst h0
    have f1 := AutoSeq1.idx_int
    wp_walk using wpAny_loadPart' hl
    exact ⟨_, rfl, h⟩
theorem foldl_rep_size (its : Array Value) : ∀ (k : Nat) (acc : Array Value), ((List.replicate k its).foldl (· ++ ·) acc) = (acc.toList ++ (List.replicate k its.toList).flatten).toArray
  | 0, acc => by simp
  | k + 1, acc => by
    rw [List.replicate_succ, List.foldl_cons, foldl_rep_size its k]
    simp [List.replicate_succ]
theorem mulTn (l : Addr) (its : Array Value) (n : Nat) (dd : Option Addr) (sl : Array (Option Value)) (x : Int) (u : Tok) (h1 : 2 ≤ x) (h2 : x < 1000000) (h3 : 0 < its.size) (hc : (its.size : Int) * x ≤ 1000000) :
    Meets (Builtin.«tuple.__mul__» ⟨[.ref l, .int x u], []⟩) (fun _ R s => s.heap.get? l = some { cls := .type "tuple", dict := dd, data := .seq its n, slots := sl } ∧ R (.ok (.ret (.ref s.heap.objs.size))) { s with heap := s.heap.push { cls := .type "tuple", data := .seq ((List.replicate x.toNat its).foldl (· ++ ·) #[]) } }) :=
  .of_wp fun prog w A R s h => by
    obtain ⟨hp, g, d, tk, os⟩ := s; obtain ⟨hl, h⟩ := h
    have f1 := AutoSeq1.idx_int
    have ie : its.isEmpty = false := by
      simp only [Array.isEmpty, decide_eq_false_iff_not]; omega
    have hsz : ((List.replicate x.toNat its).foldl (· ++ ·) #[]).size ≤ sizeLine := by
      rw [foldl_rep_size]
      simp only [List.size_toArray, List.nil_append, len_rep, Array.length_toList]
      have : x.toNat * its.size = (its.size * x.toNat) := Nat.mul_comm _ _
      have e2 : ((its.size * x.toNat : Nat) : Int) = (its.size : Int) * x := by rw [Int.natCast_mul, Int.toNat_of_nonneg (by omega)]
      have hs : sizeLine = 16777216 := sizeLine_eq
      omega
    wp_walk using wpAny_loadPart' hl
    rw [if_neg (by simp; omega)]
    wp_walk using wpAny_loadPart' hl
    rw [if_neg (by rw [ie]; simp; omega)]
    wp_walk using wpAny_loadPart' hl
    rw [if_neg (by rw [ie]; simp; omega)]
    wp_walk using wpAny_loadPart' hl
    rw [if_neg (by omega)]
    wp_walk using wpAny_loadPart' hl
    rw [if_neg (by simp [Builtin.Tuple.tupleTooMany]; rw [sizeLine_eq]; omega)]
    wp_walk using wpAny_loadPart' hl
    exact ⟨_, rfl, h⟩
end CW

namespace CW
open PySem PySem.Spec PyProof.Rows L2

section
variable {X : Cx} {a b : Expr} {fa fb : Sm} {pos : Pos} {k : Nat}
theorem op_addAll : OpR X (binaryOp .Add) (rAdd X.K) := op_add.or (op_add_str.or (op_cat0.or (op_catT.or op_cat)))
theorem de_add (ha : DE X a fa) (hb : DE X b fb) : DE X (.BinOp a .Add b pos) (bin addD fa fb) := de_op op_addAll opA_add ha hb
def rRepT (K : PySem.W.Frag) : R2 := fun x y H Q => ∃ a n xs, x = .ref a ∧ y = .int n ∧ SqT K H a xs ∧ xs ≠ [] ∧ 0 ≤ n ∧ n < 1000000 ∧ (xs.length : Int) * n ≤ 1000000 ∧
  (n = 1 → Q (.ref a) H) ∧ (n ≠ 1 → ∀ p, H p = none → Q (.ref p) (upd H p (.tup (List.replicate n.toNat xs).flatten)))
theorem Vals.rep {xs : List V} {us : List Value} (r : Vals xs us) : ∀ n : Nat, Vals (List.replicate n xs).flatten (List.replicate n us).flatten
  | 0 => .nil
  | n + 1 => by
    rw [List.replicate_succ, List.replicate_succ, List.flatten_cons, List.flatten_cons]
    exact L2.Vals.append r (Vals.rep r n)
theorem op_repT : OpR X (binaryOp .Mult) (rRepT X.K) := by
  intro pins s σ H x y v u Q I rx ry h
  obtain ⟨a, n, xs, rfl, rfl, hs, hne, h0, h6, hm, q1, q2⟩ := h
  cases rx
  obtain ⟨t, rfl⟩ := ry
  obtain ⟨its, r, p, _⟩ := I.tuple hs
  obtain ⟨⟨c1, d1, a1, l1⟩, e, hc, m, hd⟩ := p
  simp only at hc hd
  subst hc hd
  have hlen : its.length = xs.length := r.length.symm
  have hpos : 0 < its.toArray.size := by
    rw [List.size_toArray, hlen]
    exact List.length_pos_iff.mpr hne
  by_cases e1 : n = 1
  · subst e1
    refine wpAny_binaryOp_repeat_ref (T := "tuple") (U := "int") (by decide) ⟨_, e, rfl⟩ (fun s' => typeIs_int s' 1 t) noFillT PySem.F.fills_int_mul PySem.F.slot_int_rmul repeatT PySem.F.slot_int_index.lookup
      (call_meets PySem.F.slot_int_rmul (typeIs_int s 1 t) PySem.F.entry_int_rmul (PySem.F.args_int_rmul_2 _ _) (rmulT 1 t a its.toArray m d1 l1)
        ⟨e, rfl, ⟨_, e, rfl⟩, call_meets PySem.F.slot_tuple_mul ⟨_, e, rfl⟩ PySem.F.entry_tuple_mul (PySem.F.args_tuple_mul_2 _ _) (mulT1 a its.toArray m d1 l1 t) ⟨e, ?_⟩⟩)
    exact ⟨.ref a, H, I, rfl, q1 rfl⟩
  · have new : ∀ (arr : List Value), arr = (List.replicate n.toNat its).flatten → EP X pins σ Q (.ref s.heap.objs.size) { s with heap := s.heap.push { cls := .type "tuple", data := .seq arr.toArray } } := by
      intro arr ea
      subst ea
      have rr := Vals.rep r n.toNat
      have hz : (List.replicate n.toNat xs).flatten.length ≤ sizeLine := by
        rw [len_rep]
        have hs' : sizeLine = 16777216 := sizeLine_eq
        have e2 : ((n.toNat * xs.length : Nat) : Int) = (xs.length : Int) * n := by rw [Int.natCast_mul, Int.toNat_of_nonneg h0, Int.mul_comm]
        omega
      refine ⟨.ref s.heap.objs.size, _, I.laid (t' := s.toks) (o := .tup (List.replicate n.toNat xs).flatten) (fun b ob q => Heap.get?_push_of_some _ q) (Nat.le_refl _) ?_, rfl, q2 e1 _ (I.hok.fresh (Nat.le_refl _))⟩
      exact ⟨hz, _, rr, IsTupP.new _ _⟩
    by_cases e0 : n = 0
    · refine wpAny_binaryOp_repeat_ref (T := "tuple") (U := "int") (by decide) ⟨_, e, rfl⟩ (fun s' => typeIs_int s' n t) noFillT PySem.F.fills_int_mul PySem.F.slot_int_rmul repeatT PySem.F.slot_int_index.lookup
        (call_meets PySem.F.slot_int_rmul (typeIs_int s n t) PySem.F.entry_int_rmul (PySem.F.args_int_rmul_2 _ _) (rmulT n t a its.toArray m d1 l1)
          ⟨e, rfl, ⟨_, e, rfl⟩, call_meets PySem.F.slot_tuple_mul ⟨_, e, rfl⟩ PySem.F.entry_tuple_mul (PySem.F.args_tuple_mul_2 _ _) (mulT0 a its.toArray m d1 l1 n t e0 (by simp [Array.isEmpty]; intro z; rw [z] at hpos; simp at hpos)) ⟨e, ?_⟩⟩)
      exact new [] (by rw [e0]; rfl)
    · refine wpAny_binaryOp_repeat_ref (T := "tuple") (U := "int") (by decide) ⟨_, e, rfl⟩ (fun s' => typeIs_int s' n t) noFillT PySem.F.fills_int_mul PySem.F.slot_int_rmul repeatT PySem.F.slot_int_index.lookup
        (call_meets PySem.F.slot_int_rmul (typeIs_int s n t) PySem.F.entry_int_rmul (PySem.F.args_int_rmul_2 _ _) (rmulT n t a its.toArray m d1 l1)
          ⟨e, rfl, ⟨_, e, rfl⟩, call_meets PySem.F.slot_tuple_mul ⟨_, e, rfl⟩ PySem.F.entry_tuple_mul (PySem.F.args_tuple_mul_2 _ _) (mulTn a its.toArray m d1 l1 n t (by omega) h6 hpos (by rw [List.size_toArray, hlen]; exact hm)) ⟨e, ?_⟩⟩)
      have z := new _ rfl
      rw [foldl_rep_size]
      simpa using z
def mulD (x y : D) (μ : Mu) : Option (D × Mu) := match x, y with
  | .int i, .int j => if mulG i j = true then some (.int (i * j), μ) else none
  | .tup (x0 :: xs), .int n => if 0 ≤ n ∧ n < 1000000 ∧ ((x0 :: xs).length : Int) * n ≤ 1000000 then some (.tup (List.replicate n.toNat (x0 :: xs)).flatten, μ) else none
  | _, _ => none
def rMul (K : PySem.W.Frag) : R2 := fun x y H Q => rI (fun i j => IntMulOk i j) (fun i j => .int (i * j)) x y H Q ∨ rRepT K x y H Q
theorem RDs.rep {K : PySem.W.Frag} {R : List Addr} {H : Hp} {xs : List D} {us : List V} (r : RDs K R H xs us) : ∀ n : Nat, RDs K R H (List.replicate n xs).flatten (List.replicate n us).flatten
  | 0 => .nil
  | n + 1 => by
    rw [List.replicate_succ, List.replicate_succ, List.flatten_cons, List.flatten_cons]
    exact r.append (RDs.rep r n)
theorem opA_mul {K : PySem.W.Frag} : OpA K (rMul K) mulD := fun {R H μ x y d vx vy μ'} h rx ry e Q k => by
  unfold mulD at e
  split at e
  · rename_i i j
    split at e
    · rename_i hm
      cases e; cases rx; cases ry
      exact .inl ⟨i, j, rfl, rfl, mulG_ok hm, k _ H R .refl h (.int _)⟩
    · cases e
  · rename_i x0 xs n
    split at e
    · rename_i hc
      cases e
      cases ry
      cases rx with
      | tup s rr =>
        have el := rr.length
        refine .inr ⟨_, n, _, rfl, rfl, s, ?_, hc.1, hc.2.1, by rw [← el]; exact hc.2.2, fun z => ?_, fun z p hp => ?_⟩
        · intro z
          rw [z] at el
          simp at el
        · subst z
          have e1 : (List.replicate (Int.toNat 1) (x0 :: xs)).flatten = x0 :: xs := by simp
          rw [e1] at k
          exact k _ H R .refl h (.tup s rr)
        · exact k _ _ R (ext_laid hp) (h.laid hp) (.tup (SqT.of upd_same) ((rr.rep _).ext (ext_laid hp)))
    · cases e
  · cases e
theorem de_mul (ha : DE X a fa) (hb : DE X b fb) : DE X (.BinOp a .Mult b pos) (bin mulD fa fb) := de_op (op_mulW.or op_repT) opA_mul ha hb
end

def cutD {α : Type} (xs : List α) (lo hi : Option Int) : List α := (xs.drop (HT.sIx xs.length 0 lo)).take (HT.sIx xs.length xs.length hi - HT.sIx xs.length 0 lo)
section
variable {prog : Program} {w : World} {A : Around} {E : Value → Shared → Prop} {s : Shared}
theorem wholeT {t sl : Addr} {its : Array Value} {vl vu : Value} {lo hi : Option Int} {Q : Value → Shared → Prop} (ht : IsTup s.heap t its) (hs : s.heap.IsSliceOf sl vl vu .none) (pl : IsPart vl lo) (pu : IsPart vu hi)
    (hw : HT.sIx its.size 0 lo = 0 ∧ HT.sIx its.size its.size hi = its.size) (h : Q (.ref t) s) : wpAny (model prog w) A (getItem (.ref t) (.ref sl)) Q E s := by
  obtain ⟨os, hos, hcs, hds⟩ := id hs
  have hTs : s.TypeIs (.ref sl) "slice" := ⟨os, hos, hcs⟩
  unfold getItem
  try with_reducible refine wpAny_holding ?_
  first | refine wpAny_bind (wpAny_pure ?_) | skip
  refine wpAny_bind (wpAny_sequenceKey ht.typeIs (by decide) ?_)
  refine wpAny_bind (wpAny_callSpecial?_slot (name := Str.ofString "__getitem__") ht.typeIs PyProof.Rows.slot_tuple_getitem
    (wpAny_call_entry PyProof.Rows.slot_tuple_getitem ht.typeIs entry_tuple_getitem ?_ (args_tuple_getitem _ _)))
  show wpAny _ _ (Builtin.Tuple.tupleItemsOf (.ref t) >>= _) _ _ s
  refine wpAny_bind (tupleItemsOf_ ht ?_); refine wpAny_bind (wpAny_typeOf hTs ?_)
  rw [if_pos (by decide)]
  refine wpAny_bind (HT.sliceApplied_gen hs pl pu ?_)
  have yes : (((HT.sIx its.size 0 lo : Nat) : Int) == 0 && (1 : Int) == 1 && (HT.sIx its.size its.size hi - HT.sIx its.size 0 lo) == its.size) = true := by
    rw [hw.1, hw.2]; simp
  show wpAny _ _ (if (((HT.sIx its.size 0 lo : Nat) : Int) == 0 && (1 : Int) == 1 && (HT.sIx its.size its.size hi - HT.sIx its.size 0 lo) == its.size) = true then _ else _) _ _ s
  rw [if_pos yes]
  unfold Builtin.Tuple.tupleIsExact
  refine wpAny_bind (wpAny_bind (wpAny_typeOf ht.typeIs (wpAny_pure ?_)))
  rw [if_pos (by decide)]
  exact wpAny_bind (wpAny_rule (wpAny_pure ⟨_, rfl, wpAny_pure h⟩))
end
section
variable {X : Cx} {e : Expr} {fe : Sm} {lo hi : Option Expr} {pos p2 : Pos}
def rSlW (K : PySem.W.Frag) : V → Option Int → Option Int → Hp → VK → Prop := fun x lo hi H Q => ∃ a xs, x = .ref a ∧ SqT K H a xs ∧ (HT.sIx xs.length 0 lo = 0 ∧ HT.sIx xs.length xs.length hi = xs.length) ∧ Q (.ref a) H
theorem sl_whole : SlR X (rSlW X.K) := by
  intro pins s σ H x v vl vu lo hi sl Q I rx hs pl pu h
  obtain ⟨a, xs, rfl, hx, hw, q⟩ := h
  cases rx
  obtain ⟨its, r, ht, hz⟩ := I.tuple hx
  have hlen : its.toArray.size = xs.length := by rw [List.size_toArray]; exact r.length.symm
  exact ⟨"tuple", _, PyProof.Rows.slot_tuple_getitem.lookup, ht.typeIs, wholeT ht hs pl pu (by rw [hlen]; exact hw) ⟨.ref a, H, I, rfl, q⟩⟩
abbrev Pm := Env → Mu → Option (Option Int × Mu)
def AdqO (K : PySem.W.Frag) (t : TO) (f : Pm) : Prop :=
  ∀ {R : List Addr} {H : Hp} {μ : Mu} {env : Env} {σ : St} {o : Option Int} {μ' : Mu}, Rel K R H μ env σ → f env μ = some (o, μ') → ∀ {Q : Option Int → Hp → Prop}, (∀ H' R', Ext R H R' H' → HR K R' H' μ' → Q o H') → t σ H Q
structure DO (X : Cx) (e : Option Expr) (f : Pm) : Prop where
  ex : ∃ t, PO X e t ∧ AdqO X.K t f
def noP : Pm := fun _ μ => some (none, μ)
def somP (f : Sm) : Pm := fun env μ => match f env μ with
  | some (.int i, μ1) => some (some i, μ1)
  | _ => none
theorem do_none : DO X none noP := ⟨_, po_none, fun {R H μ env σ o μ'} rl e Q k => by cases e; exact k H R .refl rl.hp⟩
theorem do_some (h : DE X e fe) : DO X (some e) (somP fe) := by
  obtain ⟨t, p, q⟩ := h.ex
  refine ⟨_, po_some p, fun {R H μ env σ o μ'} rl e Q k => ?_⟩
  unfold somP at e
  split at e
  · rename_i i μ1 e1
    cases e
    refine q rl e1 fun v H1 R1 x1 h1 r1 => ?_
    cases r1
    exact ⟨i, rfl, k H1 R1 x1 h1⟩
  · cases e
def slD (x : D) (lo hi : Option Int) (μ : Mu) : Option (D × Mu) := match x with
  | .tup xs => some (.tup (cutD xs lo hi), μ)
  | .fl xs => some (.ref μ.length, μ ++ [.lst (cutD xs lo hi)])
  | .ref l => match μ[l]? with
    | some (.lst xs) => some (.ref μ.length, μ ++ [.lst (cutD xs lo hi)])
    | _ => none
  | .str z => if z.length ≤ 1000000 then some (.str (cutS z lo hi), μ) else none
  | _ => none
def slE (fe : Sm) (fl fu : Pm) : Sm := fun env μ => match fe env μ with
  | none => none
  | some (x, μ1) => match fl env μ1 with
    | none => none
    | some (l, μ2) => match fu env μ2 with
      | none => none
      | some (u, μ3) => slD x l u μ3
theorem RDs.cut {K : PySem.W.Frag} {R : List Addr} {H : Hp} {xs : List D} {us : List V} (r : RDs K R H xs us) (lo hi : Option Int) : RDs K R H (cutD xs lo hi) (cutV us lo hi) := by
  unfold cutD cutV
  rw [← r.length]
  exact (r.drop _).take _
theorem cut_whole {α : Type} {xs : List α} {lo hi : Option Int} (h : HT.sIx xs.length 0 lo = 0 ∧ HT.sIx xs.length xs.length hi = xs.length) : cutD xs lo hi = xs := by
  unfold cutD
  rw [h.1, h.2]; simp
theorem de_slice {fl fu : Pm} (he : DE X e fe) (hl : DO X lo fl) (hu : DO X hi fu) : DE X (.Subscript e (.Slice lo hi none p2) pos) (slE fe fl fu) := by
  obtain ⟨t, p, q⟩ := he.ex
  obtain ⟨tl, pl, ql⟩ := hl.ex
  obtain ⟨tu, pu, qu⟩ := hu.ex
  refine ⟨_, pe_slice (sl_tup.or (sl_whole.or (sl_list.or sl_str))) p pl pu, fun {R H μ env σ d μ'} rl e Q k => ?_⟩
  unfold slE at e
  split at e
  · cases e
  · rename_i x μ1 e1
    split at e
    · cases e
    · rename_i l μ2 e2
      split at e
      · cases e
      · rename_i u μ3 e3
        refine q rl e1 fun v H1 R1 x1 h1 r1 => ?_
        refine ql (rl.ext x1 h1) e2 fun H2 R2 x2 h2 => ?_
        refine qu ((rl.ext x1 h1).ext x2 h2) e3 fun H3 R3 x3 h3 => ?_
        have r3 := (r1.ext x2).ext x3
        have xx := (x1.trans x2).trans x3
        unfold slD at e
        split at e
        · rename_i xs
          cases e
          cases r3 with
          | tup s rr =>
            by_cases hw : HT.sIx xs.length 0 l = 0 ∧ HT.sIx xs.length xs.length u = xs.length
            · refine .inr (.inl ⟨_, _, rfl, s, by rw [← rr.length]; exact hw, ?_⟩)
              rw [cut_whole hw] at k
              exact k _ H3 R3 xx h3 (.tup s rr)
            · refine .inl ⟨_, _, rfl, s, by rw [← rr.length]; exact hw, fun p hp => ?_⟩
              exact k _ _ R3 (xx.trans (ext_laid hp)) (h3.laid hp) (.tup (SqT.of upd_same) ((rr.cut l u).ext (ext_laid hp)))
        · rename_i xs
          cases e
          cases r3 with
          | fl s rr =>
            refine .inr (.inr (.inl ⟨_, _, rfl, s.sq, fun p hp => ?_⟩))
            exact k _ _ _ (xx.trans (ext_new hp)) (h3.new hp ⟨_, upd_same, (rr.cut l u).ext (ext_new hp)⟩) (.ref (rd_new h3))
        · split at e
          · rename_i m xs el
            cases e
            cases r3 with
            | ref hl =>
              obtain ⟨vs, g1, g2⟩ := h3.cellAt el hl
              refine .inr (.inr (.inl ⟨_, _, rfl, SqL.of g1, fun p hp => ?_⟩))
              exact k _ _ _ (xx.trans (ext_new hp)) (h3.new hp ⟨_, upd_same, (g2.cut l u).ext (ext_new hp)⟩) (.ref (rd_new h3))
          · cases e
        · split at e
          · rename_i hz
            cases e
            cases r3
            exact .inr (.inr (.inr ⟨_, rfl, cap_line hz, k _ H3 R3 xx h3 (.str _)⟩))
          · cases e
        · cases e
end

def lenB (ds : List D) (μ : Mu) : Option (D × Mu) := match ds with
  | [.str z] => if z.length ≤ 1000000 then some (.int (z.length : Nat), μ) else none
  | [x] => match itemsD μ x with
    | some xs => some (.int (xs.length : Nat), μ)
    | none => none
  | _ => none
theorem callA_len {K : PySem.W.Frag} : CallA K (fun xs H Q => ∃ x n, xs = [x] ∧ LenV K x H n ∧ Q (.int n) H) lenB := fun {R H μ ds vs d μ'} h r e Q k => by
  unfold lenB at e
  split at e
  · split at e
    · rename_i z hz
      cases e
      cases r with
      | cons r rr =>
        cases rr; cases r
        exact ⟨_, _, rfl, ⟨cap_line hz, rfl⟩, k _ H R .refl h (.int _)⟩
    · cases e
  · split at e
    · rename_i x _ xs ex
      cases e
      cases r with
      | cons r rr =>
        cases rr
        obtain ⟨a, vs, rfl, s, q⟩ := sq_of h r ex
        refine ⟨_, vs.length, rfl, ?_, by rw [← q.length]; exact k _ H R .refl h (.int _)⟩
        rcases s with s | s
        · exact .inl ⟨vs, s, rfl⟩
        · exact .inr ⟨vs, s, rfl⟩
    · cases e
  · cases e
def absB (ds : List D) (μ : Mu) : Option (D × Mu) := match ds with
  | [.int i] => some (.int (if i < 0 then -i else i), μ)
  | _ => none
theorem callA_abs {K : PySem.W.Frag} : CallA K (fun xs H Q => ∃ i, xs = [.int i] ∧ Q (.int (if i < 0 then -i else i)) H) absB := fun {R H μ ds vs d μ'} h r e Q k => by
  unfold absB at e
  split at e
  · cases e
    cases r with
    | cons r rr => cases rr; cases r; exact ⟨_, rfl, k _ H R .refl h (.int _)⟩
  · cases e
/-- tuple(x) of a list or a tuple; list(x) -/
def tupB (ds : List D) (μ : Mu) : Option (D × Mu) := match ds with
  | [.tup xs] => some (.tup xs, μ)
  | [.fl xs] => some (.tup xs, μ)
  | [.ref l] => match μ[l]? with
    | some (.lst xs) => some (.tup xs, μ)
    | _ => none
  | _ => none
theorem callA_tup {K : PySem.W.Frag} : CallA K (fun xs H Q => ∃ p ys, xs = [.ref p] ∧ ((SqL K H p ys ∧ ∀ l, H l = none → Q (.ref l) (upd H l (.tup ys))) ∨ (SqT K H p ys ∧ Q (.ref p) H))) tupB := fun {R H μ ds vs d μ'} h r e Q k => by
  unfold tupB at e
  split at e
  · cases e
    cases r with
    | cons r rr => cases rr; cases r with
      | tup s q => exact ⟨_, _, rfl, .inr ⟨s, k _ H R .refl h (.tup s q)⟩⟩
  · cases e
    cases r with
    | cons r rr => cases rr; cases r with
      | fl s q => exact ⟨_, _, rfl, .inl ⟨s.sq, fun l hl => k _ _ R (ext_laid hl) (h.laid hl) (.tup (SqT.of upd_same) (q.ext (ext_laid hl)))⟩⟩
  · split at e
    · rename_i l xs el
      cases e
      cases r with
      | cons r rr => cases rr; cases r with
        | ref hl =>
          obtain ⟨ws, g1, g2⟩ := h.cellAt el hl
          exact ⟨_, _, rfl, .inl ⟨SqL.of g1, fun l hl => k _ _ R (ext_laid hl) (h.laid hl) (.tup (SqT.of upd_same) (g2.ext (ext_laid hl)))⟩⟩
    · cases e
  · cases e
/-- all, any of a list of truths -/
def blsD : List D → Option (List Bool)
  | [] => some []
  | .bl b :: r => (blsD r).map (b :: ·)
  | _ :: _ => none
theorem bls_rd {K : PySem.W.Frag} {R : List Addr} {H : Hp} : ∀ {ds : List D} {vs : List V} {bs : List Bool}, RDs K R H ds vs → blsD ds = some bs → vs = bs.map V.bl
  | _, _, _, .nil, e => by cases e; rfl
  | _, _, _, .cons (.bl b) r, e => by
    unfold blsD at e
    cases q : blsD _ with
    | none => rw [q] at e; cases e
    | some cs => rw [q] at e; cases e; rw [bls_rd r q]; rfl
  | _, _, _, .cons .non r, e => nomatch e
  | _, _, _, .cons (.int _) r, e => nomatch e
  | _, _, _, .cons (.str _) r, e => nomatch e
  | _, _, _, .cons (.tup _ _) r, e => nomatch e
  | _, _, _, .cons (.fl _ _) r, e => nomatch e
  | _, _, _, .cons (.ref _) r, e => nomatch e
def allB (any : Bool) (ds : List D) (μ : Mu) : Option (D × Mu) := match ds with
  | [.ref l] => match μ[l]? with
    | some (.lst xs) => match blsD xs with
      | some bs => some (.bl (if any then bs.any id else bs.all id), μ)
      | none => none
    | _ => none
  | _ => none
theorem callA_all {K : PySem.W.Frag} : CallA K (rAll K) (allB false) := fun {R H μ ds vs d μ'} h r e Q k => by
  unfold allB at e
  split at e
  · split at e
    · rename_i l xs el
      split at e
      · rename_i bs eb
        cases e
        cases r with
        | cons r rr => cases rr; cases r with
          | ref hl =>
            obtain ⟨ws, g1, g2⟩ := h.cellAt el hl
            have := bls_rd g2 eb
            subst this
            exact ⟨_, bs, rfl, SqL.of g1, k _ H R .refl h (.bl _)⟩
      · cases e
    · cases e
  · cases e
theorem callA_any {K : PySem.W.Frag} : CallA K (rAny K) (allB true) := fun {R H μ ds vs d μ'} h r e Q k => by
  unfold allB at e
  split at e
  · split at e
    · rename_i l xs el
      split at e
      · rename_i bs eb
        cases e
        cases r with
        | cons r rr => cases rr; cases r with
          | ref hl =>
            obtain ⟨ws, g1, g2⟩ := h.cellAt el hl
            have := bls_rd g2 eb
            subst this
            exact ⟨_, bs, rfl, SqL.of g1, k _ H R .refl h (.bl _)⟩
      · cases e
    · cases e
  · cases e
section
variable {X : Cx} {e : Expr} {es : List Expr} {p pos : Pos} {g : Am}
theorem de_len (hm : X.mg "len" = none) (h : DL X (e :: es) g) (hg : Gl X "len" := by show _ = _; kernel_rfl) (he : starEach (e :: es) X.env = (false, eval e X.env) :: starEach es X.env := by kernel_rfl) (hpl : (backTo pos (starEach es X.env)).any (·.1) = false := by kernel_rfl) : DE X (.Call (.Name "len" p) (e :: es) [] pos) (callE lenB g) := de_callB call_len callA_len hm h (hg := hg) (he := he) (hpl := hpl)
theorem de_abs (hm : X.mg "abs" = none) (h : DL X (e :: es) g) (hg : Gl X "abs" := by show _ = _; kernel_rfl) (he : starEach (e :: es) X.env = (false, eval e X.env) :: starEach es X.env := by kernel_rfl) (hpl : (backTo pos (starEach es X.env)).any (·.1) = false := by kernel_rfl) : DE X (.Call (.Name "abs" p) (e :: es) [] pos) (callE absB g) := de_callB call_abs callA_abs hm h (hg := hg) (he := he) (hpl := hpl)
theorem de_tuple (hm : X.mg "tuple" = none) (h : DL X (e :: es) g) (hg : Gl X "tuple" := by show _ = _; kernel_rfl) (he : starEach (e :: es) X.env = (false, eval e X.env) :: starEach es X.env := by kernel_rfl) (hpl : (backTo pos (starEach es X.env)).any (·.1) = false := by kernel_rfl) : DE X (.Call (.Name "tuple" p) (e :: es) [] pos) (callE tupB g) := de_callTy call_tuple_of callA_tup hm h (hg := hg) (he := he) (hpl := hpl)
theorem de_all (hc : X.calm = true) (hm : X.mg "all" = none) (h : DL X (e :: es) g) (hg : Gl X "all" := by show _ = _; kernel_rfl) (he : starEach (e :: es) X.env = (false, eval e X.env) :: starEach es X.env := by kernel_rfl) (hpl : (backTo pos (starEach es X.env)).any (·.1) = false := by kernel_rfl) : DE X (.Call (.Name "all" p) (e :: es) [] pos) (callE (allB false) g) := de_callB (cr_all hc) callA_all hm h (hg := hg) (he := he) (hpl := hpl)
theorem de_any (hc : X.calm = true) (hm : X.mg "any" = none) (h : DL X (e :: es) g) (hg : Gl X "any" := by show _ = _; kernel_rfl) (he : starEach (e :: es) X.env = (false, eval e X.env) :: starEach es X.env := by kernel_rfl) (hpl : (backTo pos (starEach es X.env)).any (·.1) = false := by kernel_rfl) : DE X (.Call (.Name "any" p) (e :: es) [] pos) (callE (allB true) g) := de_callB (cr_any hc) callA_any hm h (hg := hg) (he := he) (hpl := hpl)
end
def tyD (μ : Mu) : D → Option String
  | .non => some "NoneType"
  | .bl _ => some "bool"
  | .int _ => some "int"
  | .str _ => some "str"
  | .tup _ => some "tuple"
  | .fl _ => some "list"
  | .ref l => match μ[l]? with
    | some (.lst _) => some "list"
    | some (.dct _) => some "dict"
    | _ => none
  | .fn _ => none
def isiT (t T : String) : Bool := t == T || (t == "bool" && T == "int")
def isiE (T : String) (f : Sm) : Sm := fun env μ => match f env μ with
  | none => none
  | some (d, μ1) => match tyD μ1 d with
    | none => none
    | some t => some (.bl (isiT t T), μ1)
theorem kit_all (K : PySem.W.Frag) {t T : String} (ht : t ∈ ["NoneType", "bool", "int", "str", "tuple", "list", "dict"]) (hT : T ∈ ["bool", "int", "str", "tuple", "list", "dict"]) : PySem.W.kitOne K (.type t) (.type T) = some (isiT t T) := by
  simp only [List.mem_cons, List.mem_singleton, List.not_mem_nil, or_false] at ht hT
  rcases ht with rfl | rfl | rfl | rfl | rfl | rfl | rfl <;> rcases hT with rfl | rfl | rfl | rfl | rfl | rfl <;> first | rfl | decide | with_unfolding_all rfl
theorem isi_ok {X : Cx} {pins : List (Addr × Obj)} {σ : St} {H : Hp} {s : Shared} {R : List Addr} {μ : Mu} {d : D} {v : V} {u : Value} {t T : String} {A : Around} {E : Value → Shared → Prop} {Q : Value → Shared → Prop} (I : Inv X pins σ H s) (h : HR X.K R H μ) (r : RD X.K R H d v) (rv : RelV v u) (et : tyD μ d = some t)
    (hT : T ∈ ["bool", "int", "str", "tuple", "list", "dict"]) (q : ∀ tk, Q (.bool (isiT t T)) { s with toks := tk }) : wpAny (model X.prog X.w) A (call (.builtin "isinstance") [u, .type T]) Q E s := by
  have hh : t ∈ ["NoneType", "bool", "int", "str", "tuple", "list", "dict"] := by
    cases d with
    | ref l =>
      unfold tyD at et
      simp only at et
      split at et <;> first | (cases et; decide) | cases et
    | fn _ => cases et
    | _ => cases et; decide
  have kk := kit_all X.K hh hT
  cases r with
  | fn _ => cases et
  | non => cases et; exact isinst_ok I rv .non kk q
  | bl b => cases et; exact isinst_ok I rv (.bl b) kk q
  | int b => cases et; exact isinst_ok I rv (.int b) kk q
  | str b => cases et; exact isinst_ok I rv (.str b) kk q
  | @tup a ds vs sq _ =>
    cases et
    cases (show u = Value.ref a from rv)
    obtain ⟨its, _, p, _⟩ := I.tuple sq
    obtain ⟨o, h1, h2, _⟩ := p
    exact PySem.W.kia_one PySem.W.kitx_tuple I.kIn ⟨o, h1, h2⟩ kk (fun z => nomatch z) q
  | @fl a ds vs sq _ =>
    cases et
    cases (show u = Value.ref a from rv)
    obtain ⟨its, _, ⟨o, n, h1, h2, _⟩, _⟩ := I.list sq.sq
    exact PySem.W.kia_one PySem.W.kitx_list I.kIn ⟨o, h1, h2⟩ kk (fun z => nomatch z) q
  | ref hl =>
    unfold tyD at et
    simp only at et
    split at et
    · rename_i xs el
      cases et
      obtain ⟨vs, g1, _⟩ := h.cellAt el hl
      exact isinst_ok I rv (.lst g1) kk q
    · rename_i xs el
      cases et
      obtain ⟨vs, g1, _⟩ := h.cellAt el hl
      exact isinst_ok I rv (.dK g1) kk q
    · cases et
section
variable {X : Cx} {e : Expr} {f : Sm} {p pT pos : Pos} {x : Str} {T : String}
/-- isinstance(e, T) -/
theorem de_isi (hm : X.mg "isinstance" = none) (hmT : X.mg x = none) (h : DE X e f) (hv : bootBuiltins x = some (.type T) := by decide +kernel) (hT : T ∈ ["bool", "int", "str", "tuple", "list", "dict"] := by decide) (hg : Gl X "isinstance" := by show _ = _; kernel_rfl) (hgT : Gl X x := by show _ = _; kernel_rfl)
    (hn : x ≠ "__name__" := by decide) (hdb : (x == ("__debug__" : Str)) = false := by kernel_rfl)
    (he : starEach [e, .Name x pT] X.env = (false, eval e X.env) :: starEach [.Name x pT] X.env := by kernel_rfl) (he2 : starEach [.Name x pT] X.env = (false, eval (.Name x pT) X.env) :: starEach [] X.env := by kernel_rfl) (hpl : (backTo pos (starEach [.Name x pT] X.env)).any (·.1) = false := by kernel_rfl) :
    DE X (.Call (.Name "isinstance" p) [e, .Name x pT] [] pos) (isiE T f) := by
  obtain ⟨t, pe, q⟩ := h.ex
  have hc : CallR X (.builtin "isinstance") (fun xs H Q => ∃ R μ d v t, xs = [v, .ty T] ∧ HR X.K R H μ ∧ RD X.K R H d v ∧ tyD μ d = some t ∧ Q (.bl (isiT t T)) H) := by
    intro pins s σ H xs us Q I r h
    obtain ⟨R, μ, d, v, t, rfl, hr, rd, et, q⟩ := h
    obtain ⟨u, w', rfl, r1, r2⟩ := vals2 r
    cases (show w' = Value.type T from r2)
    exact isi_ok I hr rd r1 et hT fun tk => ⟨.bl _, H, I.tok tk, rfl, q⟩
  refine ⟨_, pe_callB hc hg hm (by decide +kernel) (pa_cons pe (pa_cons (pe_bltn hgT hmT hv (show RelV (.ty T) (.type T) from rfl) hn hdb) pa_nil he2) he) (by decide) (by decide) he hpl, fun {R H μ env σ d μ'} rl ef Q k => ?_⟩
  unfold isiE at ef
  split at ef
  · cases ef
  · rename_i d1 μ1 e1
    split at ef
    · cases ef
    · rename_i ty et
      cases ef
      refine q rl e1 fun v H1 R1 x1 h1 r1 => ?_
      exact ⟨R1, _, d1, v, ty, rfl, h1, r1, et, k _ H1 R1 x1 h1 (.bl _)⟩
end
def appM (x : D) (ds : List D) (μ : Mu) : Option (D × Mu) := match x, ds with
  | .ref l, [y] => match μ[l]? with
    | some (.lst xs) => if xs.length < 1000000 then some (.non, μ.set l (.lst (xs ++ [y]))) else none
    | _ => none
  | _, _ => none
def metE (m : D → List D → Mu → Option (D × Mu)) (fo : Sm) (g : Am) : Sm := fun env μ => match fo env μ with
  | none => none
  | some (x, μ1) => match g env μ1 with
    | none => none
    | some (ds, μ2) => m x ds μ2
/-- the receiver is a list -/
def lstRecv (fo : Sm) : Sm := fun env μ => match fo env μ with
  | some (.ref l, μ1) => match μ1[l]? with
    | some (.lst _) => some (.ref l, μ1)
    | _ => none
  | _ => none
section
variable {X : Cx} {o e : Expr} {es : List Expr} {fo : Sm} {g : Am} {apos cpos : Pos}
def MetA (K : PySem.W.Frag) (r : V → List V → Hp → VK → Prop) (m : D → List D → Mu → Option (D × Mu)) : Prop :=
  ∀ {R : List Addr} {H : Hp} {μ : Mu} {x : D} {ds : List D} {v : V} {vs : List V} {d : D} {μ' : Mu}, HR K R H μ → RD K R H x v → RDs K R H ds vs → m x ds μ = some (d, μ') → ∀ {Q : VK}, (∀ v H' R', Ext R H R' H' → HR K R' H' μ' → RD K R' H' d v → Q v H') → r v vs H Q
theorem metA_app {K : PySem.W.Frag} : MetA K rAppend appM := fun {R H μ x ds v vs d μ'} h rx rs e Q k => by
  unfold appM at e
  split at e
  · rename_i l y
    split at e
    · rename_i xs el
      split at e
      · rename_i hz
        cases e
        cases rx with
        | ref hl =>
          cases rs with
          | @cons _ vy _ _ ry rn =>
            cases rn
            obtain ⟨ws, g1, g2⟩ := h.cellAt el hl
            refine ⟨_, ws, _, rfl, rfl, g1, by rw [← g2.length]; exact Nat.lt_of_lt_of_le hz (by decide), ?_⟩
            have xw := ext_write (o := .lst (ws ++ [vy])) h (List.mem_of_getElem? hl)
            exact k _ _ R xw (h.write (c := .lst (xs ++ [y])) hl ⟨_, upd_same, (g2.ext xw).append (.cons (ry.ext xw) .nil)⟩) .non
      · cases e
    · cases e
  · cases e
theorem adq_metL {K : PySem.W.Frag} {to : TE} {t : TA} {r : V → List V → Hp → VK → Prop} {m : D → List D → Mu → Option (D × Mu)} (hm : MetA K r m) (qo : Adq K to fo) (q : AdqA K t g) : Adq K (tBM K "list" r to t) (metE m (lstRecv fo) g) := fun {R H μ env σ d μ'} rl ef Q k => by
  unfold metE at ef
  split at ef
  · cases ef
  · rename_i x μ1 e1
    split at ef
    · cases ef
    · rename_i ds μ2 e2
      unfold lstRecv at e1
      split at e1
      · rename_i l μ3 e3
        split at e1
        · rename_i xs el
          cases e1
          refine qo rl e3 fun v H1 R1 x1 h1 r1 => ?_
          cases r1 with
          | ref hl =>
            obtain ⟨ws, g1, g2⟩ := h1.cellAt el hl
            refine ⟨.inl ⟨rfl, ws, SqL.of g1⟩, ?_⟩
            refine q (rl.ext x1 h1) e2 fun vs H2 R2 x2 h2 r2 => ?_
            exact hm h2 (.ref (x2.get hl)) r2 ef fun w H3 R3 x3 h3 r3 => k w H3 R3 ((x1.trans x2).trans x3) h3 r3
        · cases e1
      · cases e1
theorem de_append (ho : DE X o fo) (h : DL X (e :: es) g)
    (hbase : attributeBase o "append" X.env (eval o X.env) = eval o X.env := by kernel_rfl)
    (hfew : ((backTo cpos (starEach (e :: es) X.env)).all (fun x => !x.1) && (backToKw cpos (keywordEach [] X.env)).all (fun x => x.1.isSome)
      && decide ((e :: es).length + ([] : List Keyword).length + (if ([] : List Keyword).isEmpty then 0 else 1) < 30)) = true := by kernel_rfl)
    (hline : (apos.endLine == cpos.line) = true := by kernel_rfl) (hs : starEach (e :: es) X.env = (false, eval e X.env) :: starEach es X.env := by kernel_rfl) (hplain : (backTo cpos (starEach es X.env)).any (·.1) = false := by kernel_rfl) :
    DE X (.Call (.Attribute o "append" apos) (e :: es) [] cpos) (metE appM (lstRecv fo) g) := by
  obtain ⟨to, po, qo⟩ := ho.ex
  obtain ⟨t, pa, q⟩ := h.da.ex
  exact ⟨_, pe_bm PySem.F.plainAttrs_list PySem.F.slot_list_append PySem.F.type_list_append mt_append po pa hbase hfew hline hs hplain, adq_metL metA_app qo q⟩
end
def zipIt (xs ys : List D) : ItD := ⟨fun i _ => some (match xs[i]?, ys[i]? with
  | some x, some y => some (.tup [x, y])
  | _, _ => none), min xs.length ys.length + 1⟩
def zipI (g : Am) : Im := fun env μ => match g env μ with
  | some ([.tup xs, .tup ys], μ1) => some (zipIt xs ys, μ1)
  | _ => none
theorem itOk_zip {K : PySem.W.Frag} {R : List Addr} {H : Hp} {a b : Addr} {vs us : List V} {xs ys : List D} (hs : SqT K H a vs) (r : RDs K R H xs vs) (hs2 : SqT K H b us) (r2 : RDs K R H ys us) : ItOk K R H (ItzT K a b) (zipIt xs ys).item := by
  refine ⟨fun {R' H' μ' i} e h q => ?_, fun {R' H' μ' i x} e h q => ?_⟩
  · have q' := Option.some.inj q
    refine ⟨vs, us, e.sqT hs, e.sqT hs2, ?_⟩
    rw [← r.length, ← r2.length]
    cases e1 : xs[i]? with
    | none => exact .inl (List.getElem?_eq_none_iff.mp e1)
    | some x =>
      cases e2 : ys[i]? with
      | none => exact .inr (List.getElem?_eq_none_iff.mp e2)
      | some y => rw [e1, e2] at q'; cases q'
  · have q' := Option.some.inj q
    cases e1 : xs[i]? with
    | none => rw [e1] at q'; cases q'
    | some x0 =>
      cases e2 : ys[i]? with
      | none => rw [e1, e2] at q'; cases q'
      | some y0 =>
        rw [e1, e2] at q'
        cases q'
        obtain ⟨v, g1, g2⟩ := r.get e1
        obtain ⟨u, g3, g4⟩ := r2.get e2
        refine ⟨⟨vs, us, v, u, e.sqT hs, e.sqT hs2, g1, g3⟩, fun w H'' yy => ?_⟩
        obtain ⟨T, z1, z2, rfl, hT, rfl, hz1, hz2⟩ := yy
        have k1 := hz1 vs (e.sqT hs)
        rw [g1] at k1; cases k1
        have k2 := hz2 us (e.sqT hs2)
        rw [g3] at k2; cases k2
        exact ⟨ext_laid hT, h.laid hT, .tup (SqT.of upd_same) (.cons ((g2.ext e).ext (ext_laid hT)) (.cons ((g4.ext e).ext (ext_laid hT)) .nil))⟩
theorem di_zip {X : Cx} {e e2 : Expr} {p pos tpos : Pos} {elts : List Expr} {kk : Nat} {g : Am} (hm : X.mg "zip" = none) (h : DL X [e, e2] g) (hg : Gl X "zip" := by show _ = _; kernel_rfl)
    (hs : starEach [e, e2] X.env = (false, eval e X.env) :: starEach [e2] X.env := by kernel_rfl) (hpl : (backTo pos (starEach [e2] X.env)).any (·.1) = false := by kernel_rfl) :
    DI X (.Tuple elts kk tpos) (.Call (.Name "zip" p) [e, e2] [] pos) (zipI g) := by
  obtain ⟨t, p, q⟩ := h.da.ex
  refine ⟨_, piT_zip hg hm p hs hpl, fun {R H μ env σ it μ'} rl e Q k => ?_⟩
  unfold zipI at e
  split at e
  · rename_i xs ys μ1 e1
    cases e
    refine q rl e1 fun vs H1 R1 x1 h1 r1 => ?_
    cases r1 with
    | cons ra rr => cases rr with
      | cons rb rr =>
        cases rr
        cases ra with
        | tup s1 q1 => cases rb with
          | tup s2 q2 => exact ⟨_, _, _, _, rfl, s1, s2, k _ H1 R1 x1 h1 (itOk_zip s1 q1 s2 q2)⟩
  · cases e
end CW

namespace CW
open PySem PySem.Spec PyProof.Rows L2
theorem fnK_none {P : Program} {w : World} {K : PySem.W.Frag} {mg : Str → Option Value} {base : Heap} {k : Nat} {x : Str} {fa : Addr} {fd : FuncData} {ps : List Str}
    (hm : mg x = some (.ref fa)) (hk : PySem.W.keepIn K (.ref fa) = true) (hb : Binds K fd ps []) : FnK P w K mg base k x (fun _ _ => none) :=
  ⟨fa, fd, ps, ⟨(fun vs H Q E h => (by obtain ⟨_, _, _, _, _, _, _, e, _⟩ := h; cases e)), (fun A outer s H args us vs Q E _ _ _ _ h => (by obtain ⟨_, _, _, _, _, _, _, e, _⟩ := h; cases e))⟩, hm, hk, hb⟩
theorem law_sp {K : PySem.W.Frag} {H : Hp} {a : Addr} {ns : List Int} {sem : List D → Mu → Option (D × Mu)} {E : XK} (h : ∃ μ', sem [.fl (ns.map D.int)] [] = some (.bl true, μ')) (hO : ∀ b xs, H b ≠ some (.lst xs)) (hT : TbOk K H) (hS : SqL K H a (ns.map V.int)) :
    spD K sem [.ref a] H (fun v _ => v = .bl true) E := by
  obtain ⟨μ', e⟩ := h
  have fz : Fz K H a (ns.map V.int) := by
    rcases hS with (h | ⟨o, h⟩) | h
    · exact (hO a _ h).elim
    · exact .inl ⟨o, h⟩
    · exact .inr fun H' => .inr h
  refine ⟨[], [], [.fl (ns.map D.int)], .bl true, μ', .cons (.fl fz (RDs.ints ns)) .nil, ⟨rfl, List.nodup_nil, hT, fun l a c e => nomatch e⟩, e, fun v H' R' _ _ r => ?_⟩
  cases r
  rfl
end CW

namespace CW
open PySem PySem.Spec PyProof.Rows L2

def keyD : D → Option Key
  | .int i => some (.inl i)
  | .str x => some (.inr x)
  | _ => none
def valD (kvs : List (Key × D)) (k : Key) : Option D := (kvs.find? fun kv => decide (kv.1 = k)).map (·.2)
def putD (kvs : List (Key × D)) (k : Key) (v : D) : List (Key × D) :=
  if (kvs.any fun kv => decide (kv.1 = k)) = true then kvs.map (fun kv => if kv.1 = k then (kv.1, v) else kv) else kvs ++ [(k, v)]
def mergeD (kvs more : List (Key × D)) : List (Key × D) := more.foldl (fun acc kv => putD acc kv.1 kv.2) kvs
section
variable {K : PySem.W.Frag} {R : List Addr} {H : Hp}
theorem key_rd {d : D} {v : V} {k : Key} (r : RD K R H d v) (e : keyD d = some k) : v = kV k := by
  cases r <;> first | (cases e; rfl) | cases e
theorem RKs.length : ∀ {ds : List (Key × D)} {vs : List (Key × V)}, RKs K R H ds vs → ds.length = vs.length
  | _, _, .nil => rfl
  | _, _, .cons _ t => by simp [RKs.length t]
theorem RKs.append : ∀ {ds es : List (Key × D)} {vs us : List (Key × V)}, RKs K R H ds vs → RKs K R H es us → RKs K R H (ds ++ es) (vs ++ us)
  | _, _, _, _, .nil, s => s
  | _, _, _, _, .cons r t, s => .cons r (RKs.append t s)
theorem RKs.any (k : Key) : ∀ {ds : List (Key × D)} {vs : List (Key × V)}, RKs K R H ds vs → (ds.any fun kv => decide (kv.1 = k)) = (vs.any fun kv => decide (kv.1 = k))
  | _, _, .nil => rfl
  | _, _, .cons r t => by simp only [List.any_cons]; rw [RKs.any k t]
theorem RKs.upd1 (k : Key) {d : D} {v : V} (q : RD K R H d v) : ∀ {ds : List (Key × D)} {vs : List (Key × V)}, RKs K R H ds vs → RKs K R H (ds.map fun kv => if kv.1 = k then (kv.1, d) else kv) (vs.map fun kv => if kv.1 = k then (kv.1, v) else kv)
  | _, _, .nil => .nil
  | _, _, @RKs.cons _ _ _ k' d' v' _ _ r t => by
    simp only [List.map_cons]
    by_cases e : k' = k
    · rw [if_pos e, if_pos e]; exact .cons q (RKs.upd1 k q t)
    · rw [if_neg e, if_neg e]; exact .cons r (RKs.upd1 k q t)
theorem RKs.put {ds : List (Key × D)} {vs : List (Key × V)} (t : RKs K R H ds vs) (k : Key) {d : D} {v : V} (q : RD K R H d v) : RKs K R H (putD ds k d) (putK vs k v) := by
  unfold putD putK
  rw [t.any k]
  split
  · exact t.upd1 k q
  · exact t.append (.cons q .nil)
theorem RKs.merge {es : List (Key × D)} {us : List (Key × V)} (t : RKs K R H es us) : ∀ {ds : List (Key × D)} {vs : List (Key × V)}, RKs K R H ds vs → RKs K R H (mergeD ds es) (mergeK vs us) := by
  induction t with
  | nil => intro ds vs s; exact s
  | cons r t ih => intro ds vs s; exact ih (s.put _ r)
theorem RKs.val (k : Key) : ∀ {ds : List (Key × D)} {vs : List (Key × V)} {d : D}, RKs K R H ds vs → valD ds k = some d → ∃ v, valV vs k = some v ∧ RD K R H d v
  | _, _, _, .nil, e => nomatch e
  | _, _, _, @RKs.cons _ _ _ k' d' v' ds' vs' r t, e => by
    by_cases q : k' = k
    · have : valD ((k', d') :: ds') k = some d' := by simp [valD, List.find?_cons, q]
      rw [this] at e; cases e
      exact ⟨v', valV_pos q, r⟩
    · have : valD ((k', d') :: ds') k = valD ds' k := by simp only [valD, List.find?_cons, q, decide_false]
      rw [this] at e
      obtain ⟨v, h1, h2⟩ := RKs.val k t e
      exact ⟨v, by rw [valV_neg q]; exact h1, h2⟩
end
abbrev Km := Env → Mu → Option (List (Key × D) × Mu)
def nilP : Km := fun _ μ => some ([], μ)
def consP (fk fv : Sm) (r : Km) : Km := fun env μ => match fk env μ with
  | none => none
  | some (k, μ1) => match keyD k with
    | none => none
    | some key => match fv env μ1 with
      | none => none
      | some (d, μ2) => match r env μ2 with
        | none => none
        | some (kvs, μ3) => some ((key, d) :: kvs, μ3)
def AdqP (K : PySem.W.Frag) (trs : List (TE × TE)) (f : Km) : Prop :=
  ∀ {R : List Addr} {H : Hp} {μ : Mu} {env : Env} {σ : St} {ds : List (Key × D)} {μ' : Mu}, Rel K R H μ env σ → f env μ = some (ds, μ') → ∀ {Q : List (V × V) → Hp → Prop}, (∀ vs H' R', Ext R H R' H' → HR K R' H' μ' → RKs K R' H' ds vs → Q (vs.map fun kv => (kV kv.1, kv.2)) H') → tPairs trs σ H Q
structure DP (X : Cx) (pos : Pos) (keys : List (Option Expr)) (values : List Expr) (f : Km) : Prop where
  ex : ∃ trs, PPs X pos keys values trs ∧ AdqP X.K trs f
  all : keys.all (·.isSome) = true
  len : keys.length = values.length
  most : ∀ env μ ds μ', f env μ = some (ds, μ') → ds.length = keys.length
section
variable {X : Cx} {pos : Pos} {k v : Expr} {ks : List (Option Expr)} {vs : List Expr} {fk fv : Sm} {r : Km}
theorem dp_nil : DP X pos [] [] nilP := ⟨⟨[], pps_nil, fun {R H μ env σ ds μ'} rl e Q kk => by cases e; exact kk [] H R .refl rl.hp .nil⟩, rfl, rfl, fun _ _ _ _ e => by cases e; rfl⟩
theorem dp_cons (hk : DE X k fk) (hv : DE X v fv) (hr : DP X pos ks vs r) : DP X pos (some k :: ks) (v :: vs) (consP fk fv r) := by
  obtain ⟨tk, pk, qk⟩ := hk.ex
  obtain ⟨tv, pv, qv⟩ := hv.ex
  obtain ⟨trs, pr, qr⟩ := hr.ex
  refine ⟨⟨_, pps_cons pk pv pr, fun {R H μ env σ ds μ'} rl e Q kk => ?_⟩, by simpa using hr.all, by simp [hr.len], fun env μ ds μ' e => ?_⟩
  · unfold consP at e
    split at e
    · cases e
    · rename_i kd μ1 e1
      split at e
      · cases e
      · rename_i key ek
        split at e
        · cases e
        · rename_i d μ2 e2
          split at e
          · cases e
          · rename_i kvs μ3 e3
            cases e
            refine qk rl e1 fun x H1 R1 x1 h1 r1 => ?_
            refine qv (rl.ext x1 h1) e2 fun y H2 R2 x2 h2 r2 => ?_
            refine qr ((rl.ext x1 h1).ext x2 h2) e3 fun ws H3 R3 x3 h3 r3 => ?_
            have ex := key_rd r1 ek
            subst ex
            exact kk ((key, y) :: ws) H3 R3 ((x1.trans x2).trans x3) h3 (.cons (r2.ext x3) r3)
  · unfold consP at e
    split at e
    · cases e
    · split at e
      · cases e
      · split at e
        · cases e
        · split at e
          · cases e
          · rename_i kvs μ3 e3
            cases e
            simp [hr.most _ _ _ _ e3]
def dctE (f : Km) : Sm := fun env μ => match f env (μ ++ [.dct []]) with
  | none => none
  | some (kvs, μ1) => match μ1[μ.length]? with
    | some (.dct []) => some (.ref μ.length, μ1.set μ.length (.dct (mergeD [] kvs)))
    | _ => none
theorem de_dict {keys : List (Option Expr)} {values : List Expr} {f : Km} (h : DP X pos keys values f) (h0 : keys ≠ [] := by exact fun z => nomatch z) (h15 : keys.length ≤ 15 := by decide) : DE X (.Dict keys values pos) (dctE f) := by
  obtain ⟨trs, pr, qr⟩ := h.ex
  refine ⟨_, pe_disp pr h.all h.len h0 h15, fun {R H μ env σ d μ'} rl e Q kk => ?_⟩
  unfold dctE at e
  split at e
  · cases e
  · rename_i kvs μ1 e1
    split at e
    · rename_i el
      cases e
      intro p hp
      have h1 : HR X.K (R ++ [p]) (upd H p (.dK [])) (μ ++ [.dct []]) := rl.hp.new hp ⟨[], upd_same, .nil⟩
      refine qr (rl.ext (ext_new hp) h1) e1 fun vs H2 R2 x2 h2 r2 => ?_
      have hl := x2.get (rd_new (p := p) rl.hp)
      obtain ⟨ws, g1, g2⟩ := h2.cellAt el hl
      cases g2
      refine ⟨g1, vs, rfl, ?_, ?_⟩
      · rw [← r2.length, h.most _ _ _ _ e1]; exact h15
      · have xw := ext_write (o := .dK (mergeK [] vs)) h2 (List.mem_of_getElem? hl)
        exact kk _ _ R2 (((ext_new hp).trans x2).trans xw) (h2.write (c := .dct (mergeD [] kvs)) hl ⟨_, upd_same, (RKs.merge r2 (.nil)).ext xw⟩) (.ref hl)
    · cases e
def dgetD (x y : D) (μ : Mu) : Option (D × Mu) := match x, keyD y with
  | .ref l, some k => match μ[l]? with
    | some (.dct kvs) => match valD kvs k with
      | some d => some (d, μ)
      | none => none
    | _ => none
  | _, _ => none
theorem de_dget {a b : Expr} {fa fb : Sm} {n : Nat} (hr : Room n X.A) (ha : DE X a fa) (hb : DE X b fb) (hs : NoSl b := by exact fun _ _ => rfl) : DE X (.Subscript a b pos) (bin dgetD fa fb) := by
  obtain ⟨ta, pa, qa⟩ := ha.ex
  obtain ⟨tb, pb, qb⟩ := hb.ex
  refine ⟨_, pe_dget (hu_of hr) pa pb hs, fun {R H μ env σ d μ'} rl e Q kk => ?_⟩
  unfold bin at e
  split at e
  · cases e
  · rename_i x μ1 e1
    split at e
    · cases e
    · rename_i y μ2 e2
      refine qa rl e1 fun v H1 R1 x1 h1 r1 => ?_
      refine qb (rl.ext x1 h1) e2 fun u H2 R2 x2 h2 r2 => ?_
      unfold dgetD at e
      split at e
      · rename_i l k ek
        split at e
        · rename_i kvs el
          split at e
          · rename_i d' ed
            cases e
            cases (r1.ext x2) with
            | ref hl =>
              obtain ⟨ws, g1, g2⟩ := h2.cellAt el hl
              obtain ⟨v', hv, rv⟩ := g2.val k ed
              have ex := key_rd r2 ek
              subst ex
              have g := DGet.k (k := k) g1
              rw [hv] at g
              exact ⟨_, v', rfl, g, kk _ H2 R2 (x1.trans x2) h2 rv⟩
          · cases e
        · cases e
      · cases e
def dctRecv (fo : Sm) : Sm := fun env μ => match fo env μ with
  | some (.ref l, μ1) => match μ1[l]? with
    | some (.dct _) => some (.ref l, μ1)
    | _ => none
  | _ => none
end
end CW

namespace CW
open PySem PySem.Spec PyProof.Rows L2 PySem.W

def run {α : Type} (lt : Nat → Nat → Bool) : KasT α → α
  | .ret a => a
  | .ask i j k => run lt (k (lt i j))
def AskR {α : Type} (N : Nat) (P : α → Prop) : KasT α → Prop
  | .ret a => P a
  | .ask i j k => i < N ∧ j < N ∧ ∀ b, AskR N P (k b)
theorem AskR.bind {α β : Type} {N : Nat} {P : α → Prop} {Q : β → Prop} {f : α → KasT β} (hf : ∀ a, P a → AskR N Q (f a)) : ∀ (t : KasT α), AskR N P t → AskR N Q (t.bind f)
  | .ret a, h => hf a h
  | .ask i j k, h => ⟨h.1, h.2.1, fun b => AskR.bind hf (k b) (h.2.2 b)⟩
theorem AskR.run {α : Type} {N : Nat} {P : α → Prop} (lt : Nat → Nat → Bool) : ∀ (t : KasT α), AskR N P t → P (CW.run lt t)
  | .ret a, h => h
  | .ask i j k, h => AskR.run lt (k (lt i j)) (h.2.2 _)
theorem wp_run {α : Type} {N : Nat} {P : α → Prop} {cmp : Nat → Nat → (Bool → Shared → Prop) → Shared → Prop} {lt : Nat → Nat → Bool} {s : Shared} {Q : α → Shared → Prop} (hc : ∀ i j C, i < N → j < N → C (lt i j) s → cmp i j C s) :
    ∀ (t : KasT α), AskR N P t → Q (CW.run lt t) s → t.kasWp cmp Q s
  | .ret a, _, q => q
  | .ask i j k, h, q => hc i j _ h.1 h.2.1 (wp_run hc (k (lt i j)) (h.2.2 _) q)
def Pm0 (N : Nat) (p : Array Nat) : Prop := p.Perm (List.toArray (List.range N))
theorem Pm0.get {N : Nat} {p : Array Nat} (h : Pm0 N p) (hN : 0 < N) (i : Nat) : p.getD i 0 < N := by
  unfold Array.getD
  split
  · rename_i hi
    have hm : p[i] ∈ p := Array.getElem_mem hi
    have := (h.mem_iff (a := p[i])).mp hm
    simpa using this
  · exact hN
theorem Pm0.rev {N : Nat} {p : Array Nat} (h : Pm0 N p) (i j : Nat) : Pm0 N (kas_rev p i j) := (mirror_perm _ _ _ _).trans h
theorem Pm0.bub {N : Nat} {p : Array Nat} (h : Pm0 N p) (i j : Nat) : Pm0 N (bubble p i j) := (bubble_perm _ _ _).trans h
section
variable {N : Nat}
theorem asc_ok (hN : 0 < N) {p : Array Nat} (h : Pm0 N p) : ∀ (f n : Nat), AskR N (fun _ => True) (kas_asc p f n)
  | 0, n => True.intro
  | f + 1, n => ⟨h.get hN _, h.get hN _, fun b => by cases b with
    | true => (try dsimp only); rw [if_pos rfl]; exact True.intro
    | false => (try dsimp only); rw [if_neg Bool.false_ne_true]; exact asc_ok hN h f (n + 1)⟩
theorem desc_ok (hN : 0 < N) : ∀ (f : Nat) {p : Array Nat} (n q : Nat), Pm0 N p → AskR N (fun r => Pm0 N r.1) (kas_desc f p n q)
  | 0, p, n, q, h => h
  | f + 1, p, n, q, h => ⟨h.get hN _, h.get hN _, fun b => by
    cases b with
    | true =>
      (try dsimp only); rw [if_pos rfl]
      split
      · exact desc_ok hN f _ _ (h.rev _ _)
      · exact desc_ok hN f _ _ h
    | false =>
      (try dsimp only); rw [if_neg Bool.false_ne_true]
      refine ⟨h.get hN _, h.get hN _, fun d => ?_⟩
      cases d with
      | true => (try dsimp only); rw [if_pos rfl]; exact h
      | false => (try dsimp only); rw [if_neg Bool.false_ne_true]; exact desc_ok hN f _ _ h⟩
theorem tail3_ok (hN : 0 < N) {p : Array Nat} (n m : Nat) (h : Pm0 N p) : AskR N (fun r => Pm0 N r.2) (kas_tail3 n m p) := by
  unfold kas_tail3
  refine AskR.bind (P := fun _ => True) (fun a _ => ?_) _ (asc_ok hN (h.rev 0 n) _ _)
  exact h.rev 0 n
theorem descPart_ok (hN : 0 < N) {p : Array Nat} (n m : Nat) (h : Pm0 N p) : AskR N (fun r => Pm0 N r.2) (kas_descPart n m p) :=
  AskR.bind (fun r hr => by
    split
    · exact tail3_ok hN _ _ (hr.rev _ _)
    · exact tail3_ok hN _ _ hr) _ (desc_ok hN _ _ _ h)
theorem count_ok (hN : 0 < N) {p : Array Nat} (m : Nat) (h : Pm0 N p) : AskR N (fun r => Pm0 N r.2) (kas_count m p) :=
  AskR.bind (fun n _ => by
    split
    · exact h
    · split
      · refine ⟨h.get hN _, h.get hN _, fun c => ?_⟩
        cases c with
        | true => (try dsimp only); rw [if_pos rfl]; exact h
        | false => (try dsimp only); rw [if_neg Bool.false_ne_true]; exact descPart_ok hN _ _ (h.rev _ _)
      · exact descPart_ok hN _ _ h) _ (asc_ok hN h _ _)
theorem place_ok (hN : 0 < N) {p : Array Nat} (k : Nat) (h : Pm0 N p) : ∀ (f l r : Nat), AskR N (fun _ => True) (kas_place p k f l r)
  | 0, l, r => True.intro
  | f + 1, l, r => by
    unfold kas_place
    split
    · exact True.intro
    · refine ⟨h.get hN _, h.get hN _, fun c => ?_⟩
      cases c with
      | true => (try dsimp only); rw [if_pos rfl]; exact place_ok hN k h f _ _
      | false => (try dsimp only); rw [if_neg Bool.false_ne_true]; exact place_ok hN k h f _ _
theorem bin_ok (hN : 0 < N) : ∀ (f : Nat) {p : Array Nat} (k : Nat), Pm0 N p → AskR N (Pm0 N) (kas_bin f p k)
  | 0, p, k, h => h
  | f + 1, p, k, h => AskR.bind (fun l _ => bin_ok hN f _ (h.bub _ _)) _ (place_ok hN k h _ _ _)
theorem sort_ok (hN : 0 < N) : AskR N (Pm0 N) (kas_sort N) :=
  AskR.bind (fun r hr => by
    split
    · exact bin_ok hN _ _ hr
    · exact hr) _ (count_ok hN N (Array.Perm.refl _))
end
def lexD (fin : Bool) : List D → List D → Option Bool
  | [], _ => some fin
  | _, [] => some fin
  | .int a :: xs, .int b :: ys => if a = b then lexD fin xs ys else some (decide (a < b))
  | .str a :: xs, .str b :: ys => if a = b then lexD fin xs ys else some (decide (a.cps.toList < b.cps.toList))
  | _ :: _, _ :: _ => none
def tupLt (x y : D) : Option Bool := match x, y with
  | .tup (.int a :: xs), .tup (.int b :: ys) => lexD (decide ((D.int a :: xs).length < (D.int b :: ys).length)) (.int a :: xs) (.int b :: ys)
  | _, _ => none
/-- every two may be compared -/
def cmpAll (xs : List D) : Bool := xs.all fun x => xs.all fun y => (tupLt x y).isSome
def ltAt (xs : List D) (i j : Nat) : Bool := (tupLt (xs.getD i .non) (xs.getD j .non)).getD false
def srtD (xs : List D) : List D := if xs.length < 2 then xs else (run (ltAt xs) (kas_sort xs.length)).toList.map fun i => xs.getD i .non
section
variable {prog : Program} {w : World} {A : Around} {s : Shared} {K : PySem.W.Frag} {R : List Addr} {H : Hp}
theorem lex_ok {fin b : Bool} {C : Bool → Shared → Prop} : ∀ {xs ys : List D} {vs us : List V} {as bs : List Value} {i : Nat} {r : Bool}, RDs K R H xs vs → RDs K R H ys us → Vals vs as → Vals us bs → lexD fin xs ys = some r → C r s → (i = 0 → b = true → ∃ a xs', xs = .int a :: xs') →
    KatLex prog w A b fin C (as.zip bs) i s
  | [], _, _, _, _, _, _, _, .nil, _, .nil, _, e, c, _ => by
    cases e
    exact kat_nil c
  | d :: ds, [], _, _, _, _, _, _, .cons _ _, .nil, .cons _ _, .nil, e, c, _ => by
    have e' : lexD fin (d :: ds) [] = some fin := by cases d <;> rfl
    rw [e'] at e
    cases e
    exact kat_nil c
  | _ :: _, _ :: _, _, _, _, _, i, r, .cons r1 r2, .cons q1 q2, .cons v1 v2, .cons u1 u2, e, c, hb => by
    refine kat_cons ?_
    cases r1 with
    | int a =>
      cases q1 with
      | int a2 =>
        obtain ⟨t, rfl⟩ := v1
        obtain ⟨t2, rfl⟩ := u1
        refine wpAny_eqBool_int ?_
        unfold lexD at e
        by_cases h : a = a2
        · subst h
          rw [if_pos rfl] at e
          rw [beq_self_eq_true]
          exact kat_yes (lex_ok r2 q2 v2 u2 e c fun z => absurd z (Nat.succ_ne_zero _))
        · rw [if_neg h] at e
          cases e
          rw [beq_eq_false_iff_ne.mpr h]
          refine kat_no ?_
          cases hbi : (b && i == 0) with
          | true => exact kat_lt_int c
          | false => exact kat_one _ _ (lt_int c)
      | _ => cases e
    | str x =>
      cases q1 with
      | str x2 =>
        obtain ⟨t, rfl⟩ := v1
        obtain ⟨t2, rfl⟩ := u1
        refine wpAny_eqBool_str ?_
        unfold lexD at e
        by_cases h : x = x2
        · subst h
          rw [if_pos rfl] at e
          rw [decide_eq_true rfl]
          exact kat_yes (lex_ok r2 q2 v2 u2 e c fun z => absurd z (Nat.succ_ne_zero _))
        · rw [if_neg h] at e
          cases e
          rw [decide_eq_false h]
          refine kat_no ?_
          cases hbi : (b && i == 0) with
          | true => exact kas_lt_str c
          | false => exact kat_one _ _ (PySem.P.lt_str c)
      | _ => cases e
    | _ => cases q1 <;> cases e
end

section
variable {prog : Program} {w : World} {A : Around} {E : Value → Shared → Prop} {s : Shared}
theorem sort_few {a : Addr} {vs : List Value} {n : Nat} {P : PySem.Fin → Shared → Prop} (ho : s.heap.get? a = some (seqObj "list" vs.toArray n)) (h2 : vs.length < 2) (h : P (.done (.ret .none)) { s with heap := sortedHeap s.heap a vs vs.toArray }) :
    wpAny (model prog w) A (Builtin.«list.sort» ⟨[.ref a], []⟩) P E s := by
  have ha : a < s.heap.objs.size := Heap.lt_size ho
  have z2 : vs.toArray.size < 2 := by rw [List.size_toArray]; exact h2
  rw [list_sort_plain]
  refine wpAny_bind (listItems_at ho rfl (wpAny_bind (listUpdate_at ho rfl ?_ (by rw [sizeLine_eq]; omega) (Nat.zero_le _))))
  obtain ⟨e1, ho1⟩ : ∃ e1, (s.heap.update a (Obj.mapSeq fun _ => #[])).get? a = some (seqObj "list" #[] e1) := ⟨_, get?_update_seq ho (fun _ => #[])⟩
  refine wpAny_bind (seqEpoch_at ho1 rfl (wpAny_bind (wpAny_newTuple (wpAny_bind (wpAny_newList (wpAny_holding ?_) (Nat.zero_le _))) (by show vs.length ≤ _; rw [sizeLine_eq]; omega))))
  have ho6 : (((s.heap.update a (Obj.mapSeq fun _ => #[])).push (seqObj "tuple" vs.toArray 0)).push (seqObj "list" #[] 0)).get? a = some (seqObj "list" #[] e1) := Heap.get?_push_of_some _ (Heap.get?_push_of_some _ ho1)
  show wpAny (model prog w) A _ P E { s with heap := ((s.heap.update a (Obj.mapSeq fun _ => #[])).push (seqObj "tuple" vs.toArray 0)).push (seqObj "list" #[] 0) }
  dsimp only
  rw [if_pos z2, if_pos z2]
  refine wpAny_bind (wpAny_pure ?_)
  rw [StateT.run_pure]
  refine wpAny_bind (wpAny_pure ?_)
  dsimp only
  have out : (arrOf (SortSt.mk' general' (vs.toArray.zip vs.toArray) #[] 7 none)).map (·.2) = vs.toArray := by
    show (vs.toArray.zip vs.toArray).map (·.2) = vs.toArray
    have two : vs = [] ∨ ∃ v, vs = [v] := by
      cases vs with
      | nil => exact .inl rfl
      | cons v r =>
        cases r with
        | nil => exact .inr ⟨v, rfl⟩
        | cons _ _ => simp at h2; omega
    rcases two with e | ⟨v, e⟩ <;> rw [e] <;> simp
  rw [out]
  refine wpAny_bind (seqEpoch_at ho6 rfl (wpAny_bind (listUpdate_at ho6 rfl ?_ (Nat.zero_le _) (by rw [sizeLine_eq]; omega))))
  simp only [bne_self_eq_false, Bool.false_eq_true, if_false]
  exact wpAny_pure h
theorem sorted_few {l : Addr} {vs : List Value} {Q : Value → Shared → Prop} (hl : s.heap.IsList l vs.toArray) (h2 : vs.length < 2) (h : Q (.ref (s.heap.objs.size + 1)) { s with heap := sortedAll s.heap vs vs.toArray }) :
    wpAny (model prog w) A (call (.builtin "sorted") [.ref l]) Q E s := by
  refine Calls.call_function_entry kind_sorted plain_sorted entry_sorted (args_sorted1 _) ?_
  unfold Builtin.«sorted»
  refine wpAny_bind (m := checkCount "sorted" 1 1 _) (wpAny_pure (wpAny_bind (collect_list hl (wpAny_bind (wpAny_newList ?_ (by rw [sizeLine_eq]; omega))) (by rw [sizeLine_eq]; omega))))
  have hz : ((s.heap.push (seqObj "list" #[] 0)).update s.heap.objs.size (Obj.mapSeq (· ++ vs.toArray))).objs.size = s.heap.objs.size + 1 := by rw [Heap.size_update, size_push']
  have hoL : (((s.heap.push (seqObj "list" #[] 0)).update s.heap.objs.size (Obj.mapSeq (· ++ vs.toArray))).push (seqObj "list" vs.toArray 0)).get? (s.heap.objs.size + 1) = some (seqObj "list" vs.toArray 0) := by rw [← hz]; exact Heap.get?_push_size _ rfl
  show wpAny _ _ _ _ _ { s with heap := ((s.heap.push (seqObj "list" #[] 0)).update s.heap.objs.size (Obj.mapSeq (· ++ vs.toArray))).push (seqObj "list" vs.toArray 0) }
  rw [hz]
  refine wpAny_bind (wpAny_holding (wpAny_call_entry slot_list_sort ⟨_, hoL, rfl⟩ entry_list_sort (sort_few hoL h2 ⟨_, rfl, ?_⟩) (args_list_sort _)))
  exact wpAny_pure ⟨_, rfl, h⟩
end
theorem obj_at {P : Program} {w : World} {H : Hp} {h : Heap} {a : Addr} {o : HO} (x : ObjOk P w H h a o) : ∃ u, h.get? a = some u := by
  cases o with
  | lst xs => obtain ⟨_, _, _, _, e⟩ := x; exact ⟨_, e⟩
  | tup xs => obtain ⟨_, _, _, o, e, _⟩ := x; exact ⟨_, e⟩
  | dK kvs => obtain ⟨_, _, _, _, o, _, _, e, _⟩ := x; exact ⟨_, e⟩
  | dT kvs => obtain ⟨_, _, _, _, o, _, _, e, _⟩ := x; exact ⟨_, e⟩
  | dN kvs => obtain ⟨_, _, _, _, o, _, _, e, _⟩ := x; exact ⟨_, e⟩
  | set S n => obtain ⟨o, _, _, _, e, _⟩ := x; exact ⟨_, e⟩
  | ins C dx fs => obtain ⟨_, _, _, e, _⟩ := x; exact ⟨_, e⟩
  | own y => exact x
  | xd fs => obtain ⟨_, ⟨_, _, _, e, _⟩, _⟩ := x; exact ⟨_, e⟩
  | rng lo hi => obtain ⟨_, _, _, e⟩ := x; exact ⟨_, e⟩
  | frz ob u => obtain ⟨e, _⟩ := x; exact ⟨_, e⟩
  | tbl ps => exact ⟨_, x⟩
  | met f y => exact ⟨_, x⟩
  | ext φ => exact x.2.1
theorem srtD_mem {xs : List D} (h : 2 ≤ xs.length) : Pm0 xs.length (run (ltAt xs) (kas_sort xs.length)) := AskR.run _ _ (sort_ok (by omega))
theorem rds_pick {K : PySem.W.Frag} {R : List Addr} {H : Hp} {ds : List D} {vs : List V} (r : RDs K R H ds vs) : ∀ (ix : List Nat), (∀ i ∈ ix, i < ds.length) → RDs K R H (ix.map fun i => ds.getD i .non) (ix.map fun i => vs.getD i .non)
  | [], _ => .nil
  | i :: ix, h => by
    refine .cons ?_ (rds_pick r ix fun j hj => h j (List.mem_cons_of_mem _ hj))
    have hi := h i List.mem_cons_self
    obtain ⟨v, h1, h2⟩ := r.get (List.getElem?_eq_getElem hi)
    dsimp only
    rw [List.getD_eq_getElem?_getD, List.getD_eq_getElem?_getD, h1, List.getElem?_eq_getElem hi]
    exact h2
theorem vals_pick {vs : List V} {us : List Value} (r : Vals vs us) : ∀ (ix : List Nat), (∀ i ∈ ix, i < vs.length) → Vals (ix.map fun i => vs.getD i .non) (ix.map fun i => us.getD i Value.none)
  | [], _ => .nil
  | i :: ix, h => by
    refine .cons ?_ (vals_pick r ix fun j hj => h j (List.mem_cons_of_mem _ hj))
    have hi := h i List.mem_cons_self
    obtain ⟨v, h1, h2⟩ := Vals.get r (List.getElem?_eq_getElem hi)
    dsimp only
    rw [List.getD_eq_getElem?_getD, List.getD_eq_getElem?_getD, h1, List.getElem?_eq_getElem hi]
    exact h2
theorem vals_getD {vs : List V} {us : List Value} (r : Vals vs us) {i : Nat} (hi : i < vs.length) : ∃ v, vs[i]? = some v ∧ RelV v (us.getD i Value.none) := by
  obtain ⟨u, h1, h2⟩ := Vals.get r (List.getElem?_eq_getElem hi)
  refine ⟨_, List.getElem?_eq_getElem hi, ?_⟩
  rw [List.getD_eq_getElem?_getD, h1]; exact h2
def rSrt (K : PySem.W.Frag) : List V → Hp → VK → Prop := fun xs H Q => ∃ a vs R ds, xs = [V.ref a] ∧ SqL K H a vs ∧ RDs K R H ds vs ∧ cmpAll ds = true ∧ ds.length < 64 ∧
  ∀ p vs', H p = none → RDs K R H (srtD ds) vs' → Q (.ref p) (upd H p (.lst vs'))
theorem tupLt_self {d : D} (h : (tupLt d d).isSome = true) : ∃ a xs, d = .tup (.int a :: xs) := by
  unfold tupLt at h
  split at h
  · exact ⟨_, _, rfl⟩
  · cases h
theorem cr_srt {X : Cx} : CallR X (.builtin "sorted") (rSrt X.K) := by
  intro pins s σ H xs us Q I r h
  obtain ⟨a, vs, R, ds, rfl, hS, rd, hc, h64, q⟩ := h
  obtain ⟨its, rv, hl, hz⟩ := I.list hS
  rw [Vals.ref1 r]
  have l1 := rd.length
  have l2 := Vals.length rv
  by_cases h2 : its.length < 2
  · refine sorted_few hl.isList h2 ?_
    obtain ⟨ep, he'⟩ := PyProof.Rows.sortedAll_at s.heap its its.toArray
    have e : srtD ds = ds := by unfold srtD; rw [if_pos (by omega)]
    refine ⟨.ref _, upd H (s.heap.objs.size + 1) (.lst vs), I.laid (t' := s.toks) (fun _ _ => PyProof.Rows.sortedAll_old) (Nat.le_succ _) ⟨by omega, its, ep, rv, he'⟩, rfl, q _ vs (I.hok.fresh (Nat.le_succ _)) (by rw [e]; exact rd)⟩
  · obtain ⟨m, F⟩ := I.fr
    have h2' : 2 ≤ its.length := by omega
    have pm := srtD_mem (xs := ds) (by omega)
    have hix : ∀ i ∈ (run (ltAt ds) (kas_sort ds.length)).toList, i < ds.length := fun i hi => by
      have := (pm.mem_iff (a := i)).mp (Array.mem_toList_iff.mp hi)
      simpa using this
    refine kat_sorted F news_all hl.isList h2' (by omega) fun Dn e1 h' F' N' hlt => ?_
    have keep : ∀ {h'' : Heap} {o : Obj}, Fr X.base X.env.locals h'' m → News X.base X.env.locals h'' ((Dn, o) :: allNews X.base s.heap X.env.locals) → ∀ b u, b ≠ X.env.locals → s.heap.get? b = some u → h''.get? b = some u := fun {h'' o} F2 N2 b u hb e => by
      cases q : X.base.get? b with
      | some v =>
        have := I.bk b v q
        rw [e] at this; cases this
        exact F2.keep b _ q
      | none => exact (N2 (b, u) (List.mem_cons_of_mem _ (mem_allNews hb q e))).1
    have k1 := keep F' N'
    obtain ⟨hD1, hDL, hDb⟩ := N' (Dn, _) List.mem_cons_self
    have noD : s.heap.get? Dn = none := by
      cases q : s.heap.get? Dn with
      | none => rfl
      | some u => exact absurd (hlt (Dn, u) (mem_allNews hDL hDb q)) (Nat.lt_irrefl _)
    have hDn : H Dn = none := by
      cases q : H Dn with
      | none => rfl
      | some u =>
        obtain ⟨v, e⟩ := obj_at (I.hok Dn u q)
        rw [noD] at e; cases e
    -- the tuples
    have each : ∀ (i : Nat) (hi : i < ds.length), ∃ (t : Addr) (ta : Int) (tr : List D) (ws : List V) (os : List Value), ds[i]? = some (.tup (.int ta :: tr)) ∧ its.getD i Value.none = .ref t ∧ RDs X.K R H (.int ta :: tr) ws ∧ Vals ws os ∧ IsTup s.heap t os.toArray ∧ t ≠ X.env.locals := fun i hi => by
      obtain ⟨v, g1, g2⟩ := rd.get (List.getElem?_eq_getElem hi)
      obtain ⟨v2, g3, g4⟩ := vals_getD rv (i := i) (by omega)
      rw [g1] at g3; cases g3
      have hm := List.getElem_mem hi
      unfold cmpAll at hc
      have hcc := List.all_eq_true.mp (List.all_eq_true.mp hc _ hm) _ hm
      obtain ⟨ta, tr, hd⟩ := tupLt_self hcc
      rw [hd] at g2
      cases g2 with
      | tup sq rs =>
        obtain ⟨os, ro, ht, _⟩ := I.tuple sq
        refine ⟨_, ta, tr, _, os, by rw [List.getElem?_eq_getElem hi, hd], g4, rs, ro, ht, fun z => ?_⟩
        obtain ⟨o, ho, hcl, n, hdt⟩ := ht
        obtain ⟨m', ⟨o', es, ep, ho', hd', _⟩, _⟩ := I.loc
        rw [z] at ho
        rw [ho] at ho'; cases ho'
        rw [hdt] at hd'; cases hd'
    have tups : ∀ (ix : List Nat), (∀ i ∈ ix, i < ds.length) → ∃ fs : List Value, KatTups h' (ix.map fun i => its.getD i Value.none) fs ∧ fs.length = ix.length ∧ ∀ v ∈ fs, ∃ z t, v = Value.int z t := by
      intro ix
      induction ix with
      | nil => exact fun _ => ⟨[], .nil, rfl, fun v hv => nomatch hv⟩
      | cons i ix ih =>
        intro hh
        obtain ⟨fs, t1, t2, t3⟩ := ih fun j hj => hh j (List.mem_cons_of_mem _ hj)
        obtain ⟨t, ta, tr, ws, os, g1, g2, g3, g4, ⟨o, ho, hcl, n, hdt⟩, g5⟩ := each i (hh i List.mem_cons_self)
        cases g3 with
        | cons r1 r2 =>
          cases r1
          cases g4 with
          | cons q1 q2 =>
            obtain ⟨tk, rfl⟩ := q1
            refine ⟨Value.int ta tk :: fs, ?_, by simp [t2], fun v hv => ?_⟩
            · rw [List.map_cons, g2]
              exact .cons (k1 t o g5 ho) hcl hdt rfl t1
            · rcases List.mem_cons.mp hv with rfl | hv
              · exact ⟨_, _, rfl⟩
              · exact t3 v hv
    have hall : ((List.range its.length).map fun i => its.getD i Value.none) = its := by
      refine List.ext_getElem (by simp) fun i h1 h2 => ?_
      simp [List.getD_eq_getElem?_getD, List.getElem?_eq_getElem h2]
    obtain ⟨fs, t1, t2, t3⟩ := tups (List.range its.length) fun i hi => by have := List.mem_range.mp hi; omega
    rw [hall] at t1
    refine kat_kind (T := .type "int") t1 (by rw [t2, List.length_range]; omega) (fun v hv => ?_) (by decide) ?_
    · obtain ⟨z, t, rfl⟩ := t3 v hv
      exact Looks.of_pure rfl
    have hlen : its.length = ds.length := by omega
    rw [hlen]
    refine wp_run (P := Pm0 ds.length) (lt := ltAt ds) (fun i j C hi hj hC => ?_) _ (sort_ok (by omega)) ?_
    · obtain ⟨t, ta, tr, ws, os, g1, g2, g3, g4, ⟨o, ho, _, n, hdt⟩, g5⟩ := each i hi
      obtain ⟨t', ta', tr', ws', os', g1', g2', g3', g4', ⟨o', ho', _, n', hdt'⟩, g5'⟩ := each j hj
      unfold kas_ask
      rw [g2, g2']
      refine kat_lt (k1 t o g5 ho) hdt (k1 t' o' g5' ho') hdt' ?_
      unfold ltAt at hC
      rw [List.getD_eq_getElem?_getD, List.getD_eq_getElem?_getD, g1, g1'] at hC
      have hm := List.mem_of_getElem? g1
      have hm' := List.mem_of_getElem? g1'
      unfold cmpAll at hc
      have hcc := List.all_eq_true.mp (List.all_eq_true.mp hc _ hm) _ hm'
      cases e : tupLt (.tup (.int ta :: tr)) (.tup (.int ta' :: tr')) with
      | none => rw [e] at hcc; cases hcc
      | some b =>
        have hC : C ((tupLt (.tup (.int ta :: tr)) (.tup (.int ta' :: tr'))).getD false) { s with heap := h' } := hC
        rw [e] at hC
        rw [List.toList_toArray, List.toList_toArray]
        have hln : os.toArray.size = (D.int ta :: tr).length := by rw [List.size_toArray, g3.length, Vals.length g4]
        have hln' : os'.toArray.size = (D.int ta' :: tr').length := by rw [List.size_toArray, g3'.length, Vals.length g4']
        rw [hln, hln']
        exact lex_ok g3 g3' g4 g4' e hC fun _ _ => ⟨_, _, rfl⟩
    · refine KasFin.intro F' N' (.head fun p hp => Nat.ne_of_lt (hlt p hp)) fun h2 c F2 N2 => ?_
      have k2 := keep F2 N2
      have hD2 := (N2 (Dn, _) List.mem_cons_self).1
      have nD : ∀ b u, s.heap.get? b = some u → b ≠ Dn := fun b u e z => by rw [z, noD] at e; cases e
      have nDH : ∀ b u, H b = some u → b ≠ Dn := fun b u e z => by rw [z, hDn] at e; cases e
      have vp := vals_pick rv _ (fun i hi => by have := hix i hi; omega)
      have rp := rds_pick rd _ hix
      have es : srtD ds = (run (ltAt ds) (kas_sort ds.length)).toList.map fun i => ds.getD i .non := by unfold srtD; rw [if_neg (by omega)]
      have lp : (run (ltAt ds) (kas_sort ds.length)).toList.length = ds.length := by
        have := pm.size_eq
        simpa using this
      refine ⟨.ref Dn, upd H Dn (.lst ((run (ltAt ds) (kas_sort ds.length)).toList.map fun i => vs.getD i .non)), ?_, rfl, q Dn _ hDn (by rw [es]; exact rp)⟩
      show Inv X pins σ _ { s with heap := h2, gens := s.gens, drawn := s.drawn, toks := s.toks }
      refine I.step (g' := s.gens) (d' := s.drawn) (t' := s.toks) (ch := []) (fun _ z => nomatch z) (fun b o hb _ _ e n => k2 b o hb e) (fun b o hb _ _ e n => ⟨o.slots, k2 b o hb e⟩) (fun b o _ e n => by rw [upd_ne (nD b o e)]; exact n) (fun b o _ e => ?_)
        (fun b xs e => by rw [upd_ne (nDH b _ e)]; exact e) (fun b o u e => by rw [upd_ne (nDH b _ e)]; exact e) (fun b ps e => ⟨#[], by rw [upd_ne (nDH b _ e), e]; simp⟩) (fun m' hm' => ?_) (fun b u e => ?_) I.bare
      · by_cases z : b = X.env.locals
        · obtain ⟨o', _, _, ho', _⟩ := F2.ns
          rw [z]; exact ⟨o', ho'⟩
        · exact ⟨o, k2 b o z e⟩
      · rw [hm'.eq_nsMap, ← F.ns.eq_nsMap]; exact F2.ns
      · by_cases z : b = Dn
        · subst z
          rw [upd_same] at e; cases e
          exact ⟨by rw [List.length_map, lp]; exact small64 h64, _, c, vp, hD2⟩
        · rw [upd_ne z] at e
          refine (I.hok b u e).stay (fun c' v hc' q' => k2 c' v ?_ q') (fun c' q' => by rw [upd_ne (nDH c' _ q')]; exact q') fun c' xs q' => by rw [upd_ne (nDH c' _ q')]; exact q'
          intro zz
          rcases hc' with y | y
          · rw [y] at zz; rw [zz, I.free] at e; cases e
          · rw [zz, I.free] at y; cases y

section
variable {prog : Program} {w : World} {A : Around} {E : Value → Shared → Prop} {s : Shared}
theorem collect_tupT {t : Addr} {vs : List Value} {Q : List Value → Shared → Prop} (hl : IsTup s.heap t vs.toArray) (hsz : vs.length ≤ sizeLine)
    (h : Q vs { s with heap := (s.heap.push (seqObj "list" #[] 0)).update s.heap.objs.size (Obj.mapSeq (· ++ vs.toArray)) }) : wpAny (model prog w) A (collect (.ref t)) Q E s := by
  obtain ⟨o, ho, hc, n, hd⟩ := id hl
  have ho' : (s.heap.push (seqObj "list" #[] 0)).get? t = some o := Heap.get?_push_of_some _ ho
  unfold collect
  refine wpAny_bind (wpAny_runValue (codeAny_builtin F.entry_proto_collect ?_))
  rw [Around.under_plainId F.plain_proto_collect _]
  show wpAny _ A.in1 (newList [] >>= fun l => again (.builtin "list.__iadd__" ⟨[l, .ref t], []⟩)) _ _ s
  refine wpAny_bind (wpAny_newList (wpAny_pure ⟨plainId_quiet F.plain_list_iadd _, codeAny_builtin F.entry_list_iadd ?_⟩))
  rw [Around.under_plainId F.plain_list_iadd _]
  show wpAny _ A.in1 (Builtin.List.listExtendWith (.ref s.heap.objs.size) (.ref t) (.ref s.heap.objs.size)) _ _ { s with heap := s.heap.push (seqObj "list" #[] 0) }
  unfold Builtin.List.listExtendWith
  refine wpAny_bind (wpAny_typeOf (T := "tuple") ⟨o, ho', hc⟩ ?_)
  have h3 : (Value.type "tuple" == Value.type "tuple") = true := by decide
  rw [if_pos (by rw [h3]; simp)]
  refine wpAny_bind (listItems_at ho' hd (wpAny_bind (listItems_at (xs := #[]) (n := 0) (Heap.get?_push_size _ rfl) rfl ?_)))
  rw [if_neg (by simp)]
  refine wpAny_bind (listUpdate_at (xs := #[]) (n := 0) (Heap.get?_push_size _ rfl) rfl ?_ (Nat.zero_le _) (by show (#[] ++ vs.toArray).size ≤ sizeLine + 1; simp only [Array.size_append, List.size_toArray, List.length_nil]; omega))
  refine wpAny_pure ?_
  show wpAny (model prog w) A (load s.heap.objs.size >>= _) Q E { s with heap := (s.heap.push (seqObj "list" #[] 0)).update s.heap.objs.size (Obj.mapSeq (· ++ vs.toArray)) }
  refine wpAny_bind (wpAny_load (get?_update_seq (Heap.get?_push_size _ rfl) _) ?_)
  have e : ((#[] : Array Value) ++ vs.toArray).toList = vs := by simp
  show wpAny _ _ (pure ((#[] : Array Value) ++ vs.toArray).toList) Q E _
  rw [e]
  exact wpAny_pure h
theorem sorted_tupT {t : Addr} {vs : List Value} {ns : List Int} {Q : Value → Shared → Prop} (hl : IsTup s.heap t vs.toArray) (hI : IntsAre vs ns) (h64 : vs.length < 64)
    (h : ∀ (out : Array Value) (ms : List Int), IntsAre out.toList ms → ms.Perm ns → ms.Pairwise (· ≤ ·) → Q (.ref (s.heap.objs.size + 1)) { s with heap := sortedAll s.heap vs out }) : wpAny (model prog w) A (call (.builtin "sorted") [.ref t]) Q E s := by
  refine Calls.call_function_entry kind_sorted plain_sorted entry_sorted (args_sorted1 _) ?_
  unfold Builtin.«sorted»
  refine wpAny_bind (m := checkCount "sorted" 1 1 _) (wpAny_pure (wpAny_bind (collect_tupT hl (by rw [sizeLine_eq]; omega) (wpAny_bind (wpAny_newList ?_ (by rw [sizeLine_eq]; omega))))))
  have hz : ((s.heap.push (seqObj "list" #[] 0)).update s.heap.objs.size (Obj.mapSeq (· ++ vs.toArray))).objs.size = s.heap.objs.size + 1 := by rw [Heap.size_update, size_push']
  have hoL : (((s.heap.push (seqObj "list" #[] 0)).update s.heap.objs.size (Obj.mapSeq (· ++ vs.toArray))).push (seqObj "list" vs.toArray 0)).get? (s.heap.objs.size + 1) = some (seqObj "list" vs.toArray 0) := by rw [← hz]; exact Heap.get?_push_size _ rfl
  show wpAny _ _ _ _ _ { s with heap := ((s.heap.push (seqObj "list" #[] 0)).update s.heap.objs.size (Obj.mapSeq (· ++ vs.toArray))).push (seqObj "list" vs.toArray 0) }
  rw [hz]
  refine wpAny_bind (wpAny_holding (wpAny_call_entry slot_list_sort ⟨_, hoL, rfl⟩ entry_list_sort (list_sort_tree hoL hI h64 fun out ms a1 a2 a3 => ⟨_, rfl, ?_⟩) (args_list_sort _)))
  exact wpAny_pure ⟨_, rfl, h out ms a1 a2 a3⟩
end
def rSortT (K : PySem.W.Frag) : List V → Hp → VK → Prop := fun vs H Q => ∃ (a : Addr) (ns : List Int), vs = [V.ref a] ∧ SqT K H a (ns.map V.int) ∧ ns.length < 64 ∧
  ∀ (ms : List Int) (p : Addr), ms.Perm ns → ms.Pairwise (· ≤ ·) → H p = none → Q (.ref p) (upd H p (.lst (ms.map V.int)))
theorem cr_sortT {X : Cx} : CallR X (.builtin "sorted") (rSortT X.K) := by
  intro pins s σ H vs us Q I r h
  obtain ⟨a, ns, rfl, hs, h64, q⟩ := h
  obtain ⟨its, rv, hl, _⟩ := I.tuple hs
  rw [Vals.ref1 r]
  have hi := rv.ints
  refine sorted_tupT hl hi (by rw [hi.length]; exact h64) fun out ms h1 h2 h3 => ?_
  obtain ⟨ep, he'⟩ := PyProof.Rows.sortedAll_at s.heap its out
  exact ⟨.ref _, upd H (s.heap.objs.size + 1) (.lst (ms.map V.int)), I.laid (t' := s.toks) (fun _ _ => PyProof.Rows.sortedAll_old) (Nat.le_succ _) ⟨by rw [List.length_map, h2.length_eq]; exact small64 h64, out.toList, ep, vals_of_ints h1, he'⟩, rfl, q ms _ h2 h3 (I.hok.fresh (Nat.le_succ _))⟩
end CW

namespace CW
open PySem PySem.Spec PyProof.Rows L2

theorem gens_runs {M : Model} {Γ : PySem.Ctx} {p : Pos} {t : Sem Fin} {fs : List Frame} {s s' : Shared} {e : End} (h : Runs M Γ p t fs s e s') : s.gens.size ≤ s'.gens.size := by
  induction h <;> (try simp only [Shared.setGen, Array.size_push, Array.size_setIfInBounds] at *) <;> omega
theorem gens_wakes {M : Model} {Γ : PySem.Ctx} {p : Pos} {g : Nat} {r : Resume} {s s' : Shared} {res : GenResult} (h : Wakes M Γ p g r s res s') : s.gens.size ≤ s'.gens.size := by
  have one : ∀ {Δ : PySem.Ctx} {q : Pos} {t : Sem Fin} {fs : List Frame} {e : End} {s1 : Shared}, Runs M Δ q t fs (s.setGen g .running) e s1 → ∀ x, s.gens.size ≤ (s1.setGen g x).gens.size := fun hr x => by
    have z := gens_runs hr
    simp only [Shared.setGen, Array.size_setIfInBounds] at z ⊢
    exact z
  unfold Wakes at h
  split at h
  · exact h.elim
  · split at h
    · obtain ⟨_, _, hr, _, _, rfl⟩ := h; exact one hr _
    · rw [h.2]; (try simp only [Shared.setGen, Array.size_setIfInBounds]); exact Nat.le_refl _
    · rw [h.2]; (try simp only [Shared.setGen, Array.size_setIfInBounds]); exact Nat.le_refl _
  · obtain ⟨_, _, hr, _, _, rfl⟩ := h; exact one hr _
  · rw [h.2]; exact Nat.le_refl _
  · rw [h.2]; exact Nat.le_refl _
theorem gens_wp {α : Type} (M : Model) (Γ : PySem.Ctx) (n : Nat) (t : Sem α) : ∀ (Q : α → Pos → Shared → Prop) (E : Value → Pos → Shared → Prop) (p : Pos) (s : Shared), n ≤ s.gens.size → Sem.wp M Γ t Q E p s →
    Sem.wp M Γ t (fun a p' s' => n ≤ s'.gens.size ∧ Q a p' s') (fun e p' s' => n ≤ s'.gens.size ∧ E e p' s') p s := by
  induction t with
  | pure a => exact fun Q E p s z h => ⟨z, h⟩
  | raise e => exact fun Q E p s z h => ⟨z, h⟩
  | unsupported _ => exact fun Q E p s _ h => h
  | finish _ => exact fun Q E p s _ h => h
  | rule _ k ih => exact fun Q E p s z h => ih () Q E p s z h
  | «at» p' k ih => exact fun Q E p s z h => ih () Q E p' s z h
  | load a _ k ih => exact fun Q E p s z ⟨o, ho, h⟩ => ⟨o, ho, ih o Q E p s z h⟩
  | update a _ f k ih => exact fun Q E p s z h => ⟨h.1, ih () Q E p _ z h.2⟩
  | loadIfAlive a k ih => exact fun Q E p s z h => ih _ Q E p s z h
  | point _ k ih => exact fun Q E p s z h => ih () Q E p s z h
  | register _ _ => exact fun Q E p s _ h => h
  | alloc o k ih => exact fun Q E p s z h => ih _ Q E p _ z h
  | fresh k ih => exact fun Q E p s z h => ih _ Q E p _ z h
  | ask k ih => exact fun Q E p s z h => ih _ Q E p s z h
  | choose src m k ih => exact fun Q E p s z h => ⟨h.1, ih _ Q E p _ z h.2⟩
  | os q _ k ih => exact fun Q E p s z h => ih _ Q E p _ z h
  | call c hd _ _ k ih => exact fun Q E p s z ⟨r, s', hr, h⟩ => ⟨r, s', hr, ih r Q E p s' (Nat.le_trans z (gens_runs hr)) h⟩
  | handled own k ih => exact fun Q E p s z h => ih _ Q E p s z h
  | genState g k ih => exact fun Q E p s z ⟨st, hs, h⟩ => ⟨st, hs, ih _ Q E p s z h⟩
  | newGen c k ih => exact fun Q E p s z h => ih _ Q E p _ (Nat.le_trans z (by rw [Array.size_push]; exact Nat.le_succ _)) h
  | resume g r _ k ih => exact fun Q E p s z ⟨res, s', hw, h⟩ => ⟨res, s', hw, ih res Q E p s' (Nat.le_trans z (gens_wakes hw)) h⟩
  | yield _ _ _ _ => exact fun Q E p s _ h => h
  | stack k ih => exact fun Q E p s z h => ih _ Q E p s z h
  | fork _ _ => exact fun Q E p s _ h => h
  | thread k ih => exact fun Q E p s z h => ih _ Q E p s z h
  | await _ _ _ _ _ => exact fun Q E p s _ h => h
theorem with_gens {α : Type} {M : Model} {A : Around} {s : Shared} {t : Sem α} {Q : α → Shared → Prop} {E : Value → Shared → Prop} {n : Nat} (hn : n ≤ s.gens.size)
    (h : wpAny M A t (fun a s' => n ≤ s'.gens.size → Q a s') (fun e s' => n ≤ s'.gens.size → E e s') s) : wpAny M A t Q E s := by
  have z : wpAny M A t (fun a s' => n ≤ s'.gens.size ∧ (n ≤ s'.gens.size → Q a s')) (fun e s' => n ≤ s'.gens.size ∧ (n ≤ s'.gens.size → E e s')) s := fun Γ p hΓ => gens_wp M Γ n t (fun a _ s' => n ≤ s'.gens.size → Q a s') (fun e _ s' => n ≤ s'.gens.size → E e s') p s hn (h Γ p hΓ)
  exact wpAny_mono z (fun _ _ x => x.2 x.1) (fun _ _ x => x.2 x.1)

section
variable {X : Cx} {pins : List (Addr × Obj)} {σ : St} {H : Hp} {s : Shared}
theorem inv_gens (I : Inv X pins σ H s) {g' : Array GenState} (hg : AllBare g') : Inv X pins σ H { s with gens := g' } :=
  ⟨I.ok, I.os, hg, I.base, I.loc, I.cell, I.free, I.freeC, I.pin, I.hok, I.len⟩
theorem bare_set {g : Array GenState} (h : AllBare g) (i : Nat) {x : GenState} (hx : x.bare = true) : AllBare (g.setIfInBounds i x) := fun y hy => by
  rcases Array.mem_or_eq_of_mem_setIfInBounds hy with z | z
  · exact h y z
  · rw [z]; exact hx
theorem inv_setGen (I : Inv X pins σ H s) {g : Nat} {x : GenState} (hx : x.bare = true) : Inv X pins σ H (s.setGen g x) := inv_gens I (bare_set I.bare g hx)

/-- the table of a code object grows -/
theorem inv_table {P : Addr} {ps more : Array Value} {h' : Heap} {tk : Nat} (I : Inv X pins σ H s) (hP : H P = some (.tbl ps)) (k : ∀ b o, b ≠ P → s.heap.get? b = some o → h'.get? b = some o)
    (ho : h'.get? P = some { cls := .none, data := .fields (ps ++ more) }) : Inv X pins σ (upd H P (.tbl (ps ++ more))) { s with heap := h', toks := tk } := by
  have nP : ∀ b, H b = none → b ≠ P := fun b n z => by rw [z, hP] at n; cases n
  refine I.step (g' := s.gens) (d' := s.drawn) (ch := []) (fun _ z => nomatch z) (fun b o _ _ _ e n => k b o (nP b n) e) (fun b o _ _ _ e n => ⟨o.slots, k b o (nP b n) e⟩) (fun b o _ _ n => by rw [upd_ne (nP b n)]; exact n)
    (fun b o _ e => ?_) (fun b xs e => ?_) (fun b o u e => ?_) (fun b qs e => ?_) (fun m hm => ?_) (fun b u e => ?_) I.bare
  · by_cases z : b = P
    · rw [z]; exact ⟨_, ho⟩
    · exact ⟨o, k b o z e⟩
  · rw [upd_ne (fun z => by rw [z, hP] at e; cases e)]; exact e
  · rw [upd_ne (fun z => by rw [z, hP] at e; cases e)]; exact e
  · by_cases z : b = P
    · rw [z] at e ⊢
      rw [hP] at e; cases e
      exact ⟨more, upd_same⟩
    · exact ⟨#[], by rw [upd_ne z, e]; simp⟩
  · obtain ⟨o, es, ep, hL, r⟩ := hm
    exact ⟨o, es, ep, k _ o (nP _ I.free) hL, r⟩
  · by_cases z : b = P
    · rw [z] at e ⊢
      rw [upd_same] at e; cases e
      exact ho
    · rw [upd_ne z] at e
      refine (I.hok b u e).stay (fun c v hc q => k c v ?_ q) (fun c q => by rw [upd_ne (fun z => by rw [z, hP] at q; cases q)]; exact q) fun c xs q => by rw [upd_ne (fun z => by rw [z, hP] at q; cases q)]; exact q
      rcases hc with y | y
      · rw [y]; exact z
      · intro y2; rw [y2, hP] at y; cases y
end

section
variable {X : Cx} {pins : List (Addr × Obj)} {σ : St} {H : Hp} {s : Shared}
theorem gen_code {A : Around} {E : Value → Shared → Prop} {c P : Addr} {ps : Array Value} {pos : Pos} {qn : Str} {scope : Scope} {Q : Value → Shared → Prop} (I : Inv X pins σ H s) (hcode : X.env.code = .ref c) (hT : FnTab X.K c P) (hps : H P = some (.tbl ps)) (htr : TriplesOk ps.toList)
    (h : ∀ code s' ps', Inv X pins σ (upd H P (.tbl ps')) s' → TriplesOk ps'.toList → s'.gens = s.gens → (∀ b o, b ≠ P → s.heap.get? b = some o → s'.heap.get? b = some o) → Q code s') :
    wpAny (model X.prog X.w) A (genexprCode X.env pos qn scope) Q E s := by
  obtain ⟨f, oc, od, fd, sl, od2, vs, sl2, _, _, lk, ht⟩ := hT.ex
  have hc : s.heap.get? c = some ⟨.type "code", od2, .fields vs, sl2⟩ := I.kIn c _ lk
  have hP : s.heap.get? P = some { cls := .none, data := .fields ps } := I.hok P _ hps
  have ne : c ≠ P := fun z => by rw [z, hP] at hc; cases hc
  unfold tabOf at ht
  split at ht
  · rename_i P' file tf flags tg inF text tt e11 e18 e7 e9 e10
    cases ht
    have e11' : vs[11]? = some (.ref P) := by
      rw [Array.getD_eq_getD_getElem?] at e11
      cases q : vs[11]? with
      | none => rw [q] at e11; cases e11
      | some v => rw [q] at e11; exact congrArg some e11
    have hok : s.heap.IsCode c P ps := ⟨_, vs, file, tf, flags, tg, inF, text, tt, _, hc, rfl, e11, e18, e7, e9, e10, hP, rfl, htr, ne⟩
    have htab : s.heap.TableAt c P ps := ⟨⟨_, vs, hc, rfl, rfl, e11'⟩, hP⟩
    cases hnf : codeAmong pos ps.toList with
    | none =>
      refine wpAny_genexprCodeX hcode hok htab hnf fun c' h' tk hx _ _ hk' _ ht' _ => h _ _ _ (inv_table (tk := tk) I hps hx ht'.2) ?_ rfl hx
      obtain ⟨_, _, _, _, _, _, _, _, _, op, _, _, _, _, _, _, _, hop, hpd, htr', _⟩ := hk'
      exact htr'
    | some cv =>
      unfold genexprCode codeAt
      rw [hcode, if_neg (show ¬ ((Value.ref c == Value.none) = true) from Bool.false_ne_true)]
      refine wpAny_bind (wpAny_fieldsOf hc rfl ?_)
      rw [e11]
      refine wpAny_bind (wpAny_fieldsOf hP rfl ?_)
      rw [hnf]
      refine wpAny_pure (h cv s ps ?_ htr rfl fun _ _ _ e => e)
      have e : upd H P (.tbl ps) = H := by
        funext b
        by_cases z : b = P
        · rw [z, upd_same, hps]
        · rw [upd_ne z]
      rw [e]; exact I
  · cases ht
end

abbrev gblk (X : Cx) (A' : Around) (s : Shared) (H : Hp) (scope : Scope) (cenv : PySem.Env) (fp : List Addr) : Cx :=
  { X with A := A', s_0 := s, H_0 := H, env := cenv, outer := X.stack, stack := cenv :: X.stack, ex := fp, fn := fun x => scope.names.lookup x == some .cell, pn := [], xe := fun _ _ => False }
theorem gen_start {X : Cx} {pins : List (Addr × Obj)} {σ : St} {H : Hp} {s s' : Shared} {scope : Scope} {own : List (Str × Nat)} {fp : List Addr} {A' : Around} {code : Value} {m0 : Str → Option Value} {cenv : PySem.Env}
    (I : Inv X pins σ H s) (ok : BlkOk X.N X.env.scope scope own) (hN : X.N.Nodup) (hfp : ∀ b ∈ fp, FpOk X pins H b ∧ b < s.heap.objs.size) (hnc : ∀ y ∈ scope.names, y.2 ≠ .cell)
    (hce : cenv = genEnv scope (cloFrom X.env.cells scope.names []) s.heap.objs.size code builtinsNs X.env) (hfr : A'.frames = some (cenv :: X.stack)) (hhd : A'.handled = none)
    (kp : ∀ b o, s.heap.get? b = some o → s'.heap.get? b = some o) (hns : s'.heap.Ns s.heap.objs.size m0) (hos : s'.os = s.os) (hbare : AllBare s'.gens) :
    Inv (gblk X A' s H scope cenv fp) [] (wipe σ (own.map (·.2))) H s' := by
  have hL : cenv.locals = s.heap.objs.size := by rw [hce]; rfl
  have hcl : cenv.cells = cloFrom X.env.cells scope.names [] := by rw [hce]; rfl
  have hsc : cenv.scope = scope := by rw [hce]; rfl
  have hfree : ∀ y ∈ scope.names, y.2 = .free → ∃ c, X.env.cells.lookup y.1 = some c := fun y hy e => by
    rcases ok.free y hy e with k | k
    · exact I.ok.has _ (.inl k)
    · exact I.ok.has _ (.inr k)
  have cm : ∀ {y c}, cenv.cells.lookup y = some c → X.env.cells.lookup y = some c ∧ c < s.heap.objs.size := fun {y c} e => by
    rw [hcl] at e
    rcases cloFrom_mem (PySem.mem_of_lookup e) with hm | ⟨h1, rfl⟩
    · cases hm
    · obtain ⟨c, hc⟩ := hfree _ h1 rfl
      rw [hc]
      obtain ⟨w, z⟩ := I.cell _ _ hc
      exact ⟨rfl, z.lt⟩
  have look : ∀ {y}, scope.names.lookup y = some .free → ∃ c, cenv.cells.lookup y = some c ∧ X.env.cells.lookup y = some c := fun {y} hl => by
    have hy : (y, NameKind.free) ∈ scope.names := PySem.mem_of_lookup hl
    obtain ⟨c', e'⟩ := mem_lookup (cloFrom_has (cells := X.env.cells) (acc := []) hy)
    rw [← hcl] at e'
    exact ⟨c', e', (cm e').1⟩
  have nocell : ∀ y, scope.names.lookup y ≠ some .cell := fun y e => hnc _ (PySem.mem_of_lookup e) rfl
  have okB : (gblk X A' s H scope cenv fp).Ok := by
    refine ⟨I.ok.mod, by show cenv.scope.kind = _; rw [hsc]; exact ok.kind, by show cenv.globals = _; rw [hce]; exact I.ok.glob, by show cenv.builtins = _; rw [hce]; rfl, by show s.heap.objs.size ≤ cenv.locals; rw [hL]; exact Nat.le_refl _,
      fun y z c e1 e2 => I.ok.inj y z c (cm e1).1 (cm e2).1, fun y hy => ?_, fun y c z e => ?_, fun _ => hhd, hfr, .inr ⟨rfl, by show cenv.frame = some cenv.locals; rw [hce]; rfl⟩, fun b hb => ⟨?_, fun y c e z => ?_⟩, I.bs, Nat.le_trans I.ok.bsz I.sz, fun b o e hb => ?_, fun b hb z => ?_, I.stack, I.stkFree⟩
    · have hy : scope.names.lookup y = some .cell ∨ scope.names.lookup y = some .free := by
        have hy' : cenv.kindOf y = some .cell ∨ cenv.kindOf y = some .free := hy
        unfold PySem.Env.kindOf at hy'
        rw [hsc] at hy'
        exact hy'
      rcases hy with hy | hy
      · exact (nocell y hy).elim
      · obtain ⟨c, h1, _⟩ := look hy
        exact ⟨c, h1⟩
    · have z : (scope.names.lookup y == some NameKind.cell) = true := z
      exact (nocell y (by simpa using z)).elim
    · show b ≠ cenv.locals
      rw [hL]; exact Nat.ne_of_lt (hfp b hb).2
    · exact (hfp b hb).1.2.2.2.2.1 y c (cm e).1 z
    · rcases (hfp b hb).1.2.2.2.1 with z | z
      · exact I.ok.noex b o e z
      · exact absurd (Nat.lt_of_lt_of_le (Heap.lt_size e) (Nat.le_trans I.ok.bsz z)) (Nat.lt_irrefl _)
    · rcases List.mem_cons.mp (I.stkSub b z) with z | z
      · exact (hfp b hb).1.2.1 z
      · exact (hfp b hb).1.2.2.1 z
  refine ⟨okB, hos, hbare, Un.kept kp, ⟨m0, ?_, fun i y av e1 e2 e3 => ?_⟩, fun y c e => ?_, ?_, fun y c e => I.freeC y c (cm e).1, fun p hp => ?_, I.hok.kept kp, by rw [wipe_length]; exact I.len⟩
  · show Heap.Ns _ cenv.locals _
    rw [hL]; exact hns
  · obtain ⟨e2, hne⟩ := wipe_some e2
    have e3 : Vis cenv.scope y := e3
    rw [hsc] at e3
    have no : ∀ k, scope.names.lookup y = some k → ¬ (k = .local ∨ k = .cell) := fun k e hh => by
      rcases ok.own _ (PySem.mem_of_lookup e) hh with e' | e'
      · obtain ⟨p, hp, hpy⟩ := List.mem_map.mp e'
        have e3 := ok.ix p hp
        have : p.1 = y := hpy
        rw [this] at e3
        exact hne (List.mem_map.mpr ⟨p, hp, nodup_ix hN e3 e1⟩)
      · exact e' (List.mem_of_getElem? e1)
    have hfr : scope.names.lookup y = some .free := by
      rcases e3 with e3 | e3 | e3
      · exact (no _ e3 (.inl rfl)).elim
      · exact (no _ e3 (.inr rfl)).elim
      · exact e3
    obtain ⟨m, hn, hl⟩ := I.loc
    have hvis : Vis X.env.scope y := (ok.free _ (PySem.mem_of_lookup hfr) rfl).elim (fun k => .inr (.inl k)) (fun k => .inr (.inr k))
    obtain ⟨w, r, q⟩ := hl i y av e1 e2 hvis
    refine ⟨w, r, .inr ⟨.inr (by show cenv.kindOf y = _; unfold PySem.Env.kindOf; rw [hsc]; exact hfr), ?_⟩⟩
    obtain ⟨c, h1, h2⟩ := look hfr
    rcases q with ⟨k, _⟩ | ⟨_, c', e', z⟩
    · have k : X.env.scope.names.lookup y = some .local := k
      rcases ok.free _ (PySem.mem_of_lookup hfr) rfl with k' | k' <;> rw [show X.env.scope.names.lookup y = _ from k'] at k <;> cases k
    · rw [h2] at e'; cases e'
      exact ⟨c, h1, z.keeps kp⟩
  · obtain ⟨w, z⟩ := I.cell y c (cm e).1
    exact ⟨w, z.keeps kp⟩
  · show H cenv.locals = none
    rw [hL]; exact I.hok.fresh (Nat.le_refl _)
  · exact absurd (show p ∈ ([] : List (Addr × Obj)) ++ [] from hp) (by simp)
end CW

namespace CW
open PySem PySem.Spec PyProof.Rows L2

/-- the module of built-ins, as the globals name it -/
structure BMd (mg : Str → Option Value) (base : Heap) : Prop where
  ex : ∃ bm o, mg "__builtins__" = some (.ref bm) ∧ bm ≠ builtinsNs ∧ base.get? bm = some o ∧ o.cls = .type "module" ∧ o.dict = some builtinsNs ∧ o.data = .plain

/-- a generator expression as it is written -/
structure GS where
  X : Cx
  pins : List (Addr × Obj)
  σ : St
  vs : List Nat
  scope : Scope
  elt : Expr
  tg : Expr
  iter : Expr
  ifs : List Expr
  gpos : Pos
/-- as it is made -/
structure GV where
  s4 : Shared
  H4 : Hp
  cenv : PySem.Env
  fp : List Addr
  it : Addr
  tn : Nat → Heap → Prop
  J : It
abbrev GS.gen (S : GS) : Expr := .GeneratorExp S.elt [⟨S.tg, S.iter, S.ifs, 0⟩] S.scope S.gpos
abbrev GV.cs (V : GV) (S : GS) : Code := .compStart S.gen 0 (.ref V.it) .none V.cenv
abbrev GV.cl (V : GV) (S : GS) : Code := .compLoop S.gen 0 (.ref V.it) .none V.cenv
abbrev GV.Xg (V : GV) (S : GS) (A' : Around) : Cx := gblk S.X A' V.s4 V.H4 S.scope V.cenv V.fp
structure Made (S : GS) (V : GV) (a : Addr) (g : Nat) (s5 : Shared) : Prop where
  turn : Turn S.X.prog S.X.w S.X.K S.tg V.J V.fp V.it V.tn
  i4 : Inv S.X S.pins S.σ V.H4 V.s4
  f4 : ∀ b ∈ V.fp, FpOk S.X S.pins V.H4 b ∧ b < V.s4.heap.objs.size
  ig : ∀ A' : Around, A'.frames = some (V.cenv :: S.X.stack) → A'.handled = none → Inv (V.Xg S A') [] (wipe S.σ S.vs) V.H4 s5
  t0 : V.tn 0 s5.heap
  gen : s5.gens[g]? = some (.fresh (V.cs S))
  isg : s5.heap.IsGen a g
  lt : V.s4.heap.objs.size < a
  sz : a < s5.heap.objs.size
  loc : V.cenv.locals = V.s4.heap.objs.size
  cel : ∀ x c, V.cenv.cells.lookup x = some c → c < V.s4.heap.objs.size
  co : V.cenv.scope.isCoroutine = false
  env : ∃ cl C code, V.cenv = genEnv S.scope cl C code builtinsNs S.X.env

theorem gen_make {S : GS} {s : Shared} {H : Hp} {own : List (Str × Nat)} {wi : TI} {k : Nat} {c P : Addr} {Rq Rq' : It → Hp → Prop} (hvs : S.vs = own.map (·.2)) (I : Inv S.X S.pins S.σ H s) (hi : PI S.X S.tg S.iter wi) (ok : BlkOk S.X.N S.X.env.scope S.scope own) (hN : S.X.N.Nodup)
    (hnc : ∀ y ∈ S.scope.names, y.2 ≠ .cell) (h0 : S.scope.names.lookup (".0" : Str) = some NameKind.local) (hco : S.scope.isCoroutine = false) (B : BMd S.X.mg S.X.base) (hcode : S.X.env.code = .ref c) (hT : FnTab S.X.K c P) (hr : Room k S.X.A)
    (hs : ∀ x, genFold S.iter S.X.env x = pure x) (h : wi S.σ H Rq) (hRq : ∀ J H2, Rq J H2 → TbOk S.X.K H2 ∧ ∀ ps ps' : Array Value, H2 P = some (.tbl ps) → TriplesOk ps'.toList → Rq' J (upd H2 P (.tbl ps'))) :
    wpAny (model S.X.prog S.X.w) S.X.A (eval S.gen S.X.env) (fun u s5 => ∃ V a g, u = .ref a ∧ Made S V a g s5 ∧ Rq' V.J V.H4) S.X.xe s := by
  have hfree : ∀ y ∈ S.scope.names, y.2 = .free → ∃ c, S.X.env.cells.lookup y.1 = some c := fun y hy e => by
    rcases ok.free y hy e with k | k
    · exact I.ok.has _ (.inl k)
    · exact I.ok.has _ (.inr k)
  refine wpAny_GeneratorExp_make hco (closure_ok hfree) hnc h0 ok.kind (by have := hr.dp; omega) (thn (hi S.pins s S.σ H _ I h) fun xv s1 hx1 => thn hx1 fun itv s2 h2 => ?_) hs
  obtain ⟨it, fp, tn, J, H2, e, I2, T, st2, f2, q⟩ := h2
  subst e
  obtain ⟨tb, hq⟩ := hRq J H2 q
  obtain ⟨ps, hps, htr⟩ := tb c P hT
  refine ⟨I2.nolimit, gen_code I2 hcode hT hps htr fun code s4 ps' I4 htr' hg4 k4 => ?_⟩
  obtain ⟨bm, o, b1, b2, b3, b4, b5, b6⟩ := B.ex
  refine wpAny_builtinsFor (m := S.X.mg) (by rw [I.ok.glob]; exact I4.ok.mod.glob.keeps I4.bk) b1 b2 (I4.bk _ _ b3) b4 b5 b6 fun h' hn' sb' => ?_
  have hsz : h'.objs.size = s4.heap.objs.size + 1 := by rw [sb'.1, Heap.size_push]
  have keep' : ∀ b o, s4.heap.get? b = some o → h'.get? b = some o := fun b o e => sb'.extBut b o (Nat.ne_of_lt (Heap.lt_size e)) (Heap.get?_push_of_some _ e)
  have fl : ∀ b ∈ fp, b ≠ P := fun b hb z => by
    have := (f2 b hb).1
    rw [z, hps] at this; cases this
  have f4 : ∀ b ∈ fp, FpOk S.X S.pins (upd H2 P (.tbl ps')) b ∧ b < s4.heap.objs.size := fun b hb => by
    obtain ⟨o, e, _⟩ := T.obj _ _ st2 b hb
    exact ⟨⟨by rw [upd_ne (fl b hb)]; exact (f2 b hb).1, (f2 b hb).2⟩, Heap.lt_size (k4 b o (fl b hb) e)⟩
  have st4 : tn 0 s4.heap := T.keep _ _ _ st2 fun b hb o e => k4 b o (fl b hb) e
  generalize hce : genEnv S.scope (cloFrom S.X.env.cells S.scope.names []) s4.heap.objs.size code builtinsNs S.X.env = cenv
  generalize hs5 : ({ s4 with
            gens := s4.gens.push (.fresh (.compStart S.gen 0 (.ref it) .none cenv)),
            toks := s4.toks + 1 + 1 + 1,
            heap := h'.push { cls := .type "generator", data := .fields #[.int s4.gens.size 0, .str "<genexpr>" (s4.toks + 1), .str (S.X.env.qual ++ "<genexpr>") (s4.toks + 1 + 1)] } } : Shared) = s5
  have h5 : s5.heap = h'.push { cls := .type "generator", data := .fields #[.int s4.gens.size 0, .str "<genexpr>" (s4.toks + 1), .str (S.X.env.qual ++ "<genexpr>") (s4.toks + 1 + 1)] } := by rw [← hs5]
  have g5 : s5.gens = s4.gens.push (.fresh (.compStart S.gen 0 (.ref it) .none cenv)) := by rw [← hs5]
  have kp : ∀ b o, s4.heap.get? b = some o → s5.heap.get? b = some o := fun b o e => by rw [h5]; exact Heap.get?_push_of_some _ (keep' b o e)
  refine ⟨⟨s4, upd H2 P (.tbl ps'), cenv, fp, it, tn, J⟩, h'.objs.size, s4.gens.size, rfl, ⟨T, I4, f4, fun A' hf hh => ?_, T.keep _ _ _ st4 fun b _ o e => kp b o e, ?_, ?_, by show s4.heap.objs.size < h'.objs.size; omega, by rw [h5, Heap.size_push]; exact Nat.lt_succ_self _, ?_, ?_, ?_, ⟨_, _, _, hce.symm⟩⟩, hq _ _ hps htr'⟩
  · rw [hvs]
    refine gen_start (code := code) (m0 := fun y => if y = ".0" then some (.ref it) else none) I4 ok hN f4 hnc hce.symm hf hh kp ?_ (by rw [← hs5]) (by rw [g5]; exact I4.bare.push rfl)
    rw [h5]; exact hn'.push _
  · rw [g5]; exact Array.getElem?_push_size ..
  · rw [h5]; exact ⟨_, _, _, Heap.get?_push_size _ rfl, rfl, rfl, rfl⟩
  · show cenv.locals = _; rw [← hce]; rfl
  · intro y c' e
    have e : cenv.cells.lookup y = some c' := e
    rw [← hce] at e
    rcases cloFrom_mem (PySem.mem_of_lookup (show (cloFrom S.X.env.cells S.scope.names []).lookup y = some c' from e)) with hm | ⟨h1, rfl⟩
    · cases hm
    · obtain ⟨c, hc⟩ := hfree _ h1 rfl
      rw [hc]
      obtain ⟨w, z⟩ := I4.cell _ _ hc
      exact z.lt
  · show cenv.scope.isCoroutine = false
    rw [← hce]; exact hco

def genNext (item : Nat → Mu → Option (Option D)) (g : Gm) (tt : Tm) (fe : Sm) (env : Env) : Nat → Nat → Mu → Option (Option (D × Nat × Nat) × Mu)
  | 0, _, _ => none
  | n + 1, i, μ => match item i μ with
    | none => none
    | some none => some (none, μ)
    | some (some x) => match g x env μ with
      | none => none
      | some (env1, μ1) => match tt env1 μ1 with
        | none => none
        | some (b, μ2) => if b = true then match fe env1 μ2 with
            | none => none
            | some (y, μ3) => some (some (y, n, i + 1), μ3)
          else genNext item g tt fe env n (i + 1) μ2

/-- what a walk over a generator leans on -/
structure GW where
  S : GS
  V : GV
  A : Around
  R4 : List Addr
  item : Nat → Mu → Option (Option D)
  g : Gm
  tt : Tm
  fe : Sm
  env : Env
  ad : List Addr
  α : Type
  Want : Option (D × Nat × Nat) × Mu → α → Prop
  Acc : α → Heap → Hp → List Addr → Prop
abbrev GW.Ag (W : GW) : Around := W.A.over (W.V.cl W.S) []
abbrev GW.X (W : GW) : Cx := W.V.Xg W.S W.Ag
abbrev GW.K (W : GW) : PySem.W.Frag := W.S.X.K
structure GW.Ok (W : GW) : Prop where
  turn : Turn W.S.X.prog W.S.X.w W.S.X.K W.S.tg W.V.J W.V.fp W.V.it W.V.tn
  calm : W.S.X.calm = true
  hg : DGw W.X W.S.vs W.S.tg W.g
  ht : DTs W.X W.S.ifs W.tt
  he : DE W.X W.S.elt W.fe
  itok : ItOk W.K W.R4 W.V.H4 W.V.J W.item
  re : RE W.K W.R4 W.V.H4 W.env (wipe W.S.σ W.S.vs)
  co : W.V.cenv.scope.isCoroutine = false
  dis : ∀ b ∈ W.V.fp, b ∉ W.ad
  acc : ∀ a h H R H' R', W.Acc a h H R → Ext R H R' H' → W.Acc a h H' R'
structure GW.In (W : GW) (pins : List (Addr × Obj)) (μ : Mu) (H : Hp) (R : List Addr) (s : Shared) : Prop where
  inv : Inv W.X pins (wipe W.S.σ W.S.vs) H s
  fr : ∀ b ∈ W.V.fp, H b = none
  ext : Ext W.R4 W.V.H4 R H
  hr : HR W.K R H μ
def GW.Pre (W : GW) (k : Nat) (s : Shared) : Prop := ∃ n i μ a r H R, n ≤ k ∧ genNext W.item W.g W.tt W.fe W.env n i μ = some r ∧ W.Want r a ∧ W.In (pinsAt W.ad s.heap) μ H R s ∧ W.V.tn i s.heap ∧ W.Acc a s.heap H R
def GW.End (W : GW) : Nat → Shared → Shared → Prop := fun _ s0 s1 => ∃ μ a H R, W.Want (none, μ) a ∧ W.In (pinsAt W.ad s0.heap) μ H R s1 ∧ W.Acc a s0.heap H R
def GW.Y (W : GW) : Protocol := fun k s0 v s kap => ∃ n i μ a y x H R, n ≤ k ∧ W.Want (some (y, n, i), μ) a ∧ W.In (pinsAt W.ad s0.heap) μ H R s ∧ W.V.tn i s.heap ∧ W.Acc a s0.heap H R ∧ RelV x v ∧ RD W.K R H y x ∧ ∀ s2, W.Pre k s2 → kap (.send .none) s2

theorem gen_fp {W : GW} {pl : List (Addr × Obj)} {s : Shared} {H : Hp} {σ : St} (O : W.Ok) (I : Inv W.X pl σ H s) (hpl : ∀ p ∈ pl, p.1 ∈ W.ad) (hn : ∀ b ∈ W.V.fp, H b = none) : ∀ b ∈ W.V.fp, FpOk W.X pl H b := fun b hb =>
  ⟨hn b hb, (I.ok.exf b hb).1, I.ok.exfs b hb, .inl hb, fun x c e => (I.ok.exf b hb).2 x c e, fun p hp z => by
    rcases List.mem_append.mp hp with y | y
    · exact absurd (show p ∈ ([] : List (Addr × Obj)) from y) (by simp)
    · exact O.dis b hb (z ▸ hpl p y)⟩

set_option linter.unusedVariables false in
theorem seg_loop {W : GW} (O : W.Ok) : ∀ (k n : Nat), n ≤ k → ∀ (i : Nat) (s0 s : Shared) (μ : Mu) (a : W.α) (r : Option (D × Nat × Nat) × Mu) (H : Hp) (R : List Addr), genNext W.item W.g W.tt W.fe W.env n i μ = some r → W.Want r a →
    W.In (pinsAt W.ad s0.heap) μ H R s → W.V.tn i s.heap → W.Acc a s0.heap H R →
    Seg (model W.S.X.prog W.S.X.w) W.A (fun n s0 r s1 => r = .ok .next ∧ W.End n s0 s1) W.Y k s0 (W.V.cl W.S) ((model W.S.X.prog W.S.X.w).den (W.V.cl W.S)) [] s := by
  have pg := O.hg.pg
  have pt := O.ht.pts
  have pe := O.he.pe
  have T := O.turn
  intro k
  induction k with
  | zero =>
    intro n hn i s0 s μ a r H R e
    have : n = 0 := Nat.le_zero.mp hn
    subst this
    cases e
  | succ k ihk =>
    intro n
    induction n with
    | zero =>
      intro hn i s0 s μ a r H R e
      cases e
    | succ n ihn =>
      intro hn i s0 s μ a r H R e hw hin st hacc
      show Seg _ W.A _ _ _ s0 _ ((compTurn W.S.gen 0 (.ref W.V.it) .none W.V.cenv).onRaise (leaving W.V.cenv)) [] s
      rw [compTurn_gen, Sem.onRaise_eq_wrap]
      refine seg_bind_wrap (wpAny_standAt ?_)
      have fpok := gen_fp O hin.inv (fun p hp => (of_pinsAt hp).1) hin.fr
      unfold genNext at e
      split at e
      · cases e
      · rename_i ei
        cases e
        refine seg_bind_wrap (thnF (T.done W.X rfl rfl rfl O.calm i _ s _ H (fun _ _ => False) hin.inv fpok st (O.itok.stop hin.ext hin.hr ei)) fun r s1 ⟨hr, I1⟩ => ?_)
        subst hr
        exact seg_end (.ok .next) ⟨rfl, μ, a, H, R, hw, ⟨I1, hin.fr, hin.ext, hin.hr⟩, hacc⟩
      · rename_i x ei
        obtain ⟨go, yl⟩ := O.itok.go hin.ext hin.hr ei
        refine seg_bind_wrap (thnF (T.item W.X rfl rfl rfl O.calm i _ s _ H (fun _ _ => False) hin.inv fpok st go) fun r1 s1 ⟨u, hr, h1⟩ => ?_)
        subst hr
        refine seg_bind_wrap (thnF h1 fun _ s2 ⟨xv, H2, I2, r2, y2, st2, n2⟩ => ?_)
        obtain ⟨x2, h2, d2⟩ := yl xv H2 y2
        have I2' := I2.pinned (gen_fp O I2 (fun p hp => (of_pinsAt hp).1) n2) (T.obj _ _ st2)
        -- what holds at the end of the turn
        have fin : ∀ {s' : Shared} {σ' : St} {H' : Hp} {R' : List Addr} {μ' : Mu}, Inv W.X (pinsAt W.ad s0.heap ++ pinsAt W.V.fp s2.heap) σ' H' s' → wipe σ' W.S.vs = wipe W.S.σ W.S.vs → Ext R H2 R' H' → HR W.K R' H' μ' →
            W.In (pinsAt W.ad s0.heap) μ' H' R' s' ∧ W.V.tn (i + 1) s'.heap ∧ W.Acc a s0.heap H' R' := fun {s' σ' H' R' μ'} I' w' x' h' => by
          have pin' : ∀ b ∈ W.V.fp, ∀ o, s2.heap.get? b = some o → s'.heap.get? b = some o ∧ H' b = none := fun b hb o e =>
            let z := I'.pin (b, o) (List.mem_append_right _ (List.mem_append_right _ (mem_pinsAt hb e)))
            ⟨z.1, z.2.1⟩
          have hl : (wipe W.S.σ W.S.vs).length = σ'.length := by rw [← w', wipe_length]
          have xx := x2.trans x'
          refine ⟨⟨(I'.unpinned).weak hl (fun j v e => ?_), fun b hb => ?_, hin.ext.trans xx, h'⟩, T.keep _ _ _ st2 fun b hb o e => (pin' b hb o e).1, O.acc _ _ _ _ _ _ hacc xx⟩
          · rw [← w'] at e
            exact (wipe_some e).1
          · obtain ⟨o, e, _⟩ := T.obj _ _ st2 b hb
            exact (pin' b hb o e).2
        split at e
        · cases e
        · rename_i env3 μ3 e3
          have re2 : RE W.K R H2 W.env (wipe W.S.σ W.S.vs) := O.re.ext (hin.ext.trans x2)
          refine seg_bind_wrap (thnF (pg _ s2 _ H2 xv u (fun σ' H' => ∃ R', Ext R H2 R' H' ∧ Rel W.K R' H' μ3 env3 σ' ∧ wipe σ' W.S.vs = wipe W.S.σ W.S.vs) I2' r2
            ⟨R, μ, W.env, x, env3, μ3, ⟨h2, re2⟩, d2, e3, fun σ' H' R' xx rl ww => ⟨R', xx, rl, ww.trans (wipe_wipe _ _ _ fun _ h => h)⟩⟩) fun _ s3 ⟨σ3, H3, I3, R3, x3, rl3, w3⟩ => ?_)
          split at e
          · cases e
          · rename_i b μ4 e4
            refine seg_bind_wrap (thnF (pt _ s3 σ3 H3 (fun b' H' => b' = b ∧ ∃ R', Ext R3 H3 R' H' ∧ HR W.K R' H' μ4) I3 ⟨R3, μ3, env3, b, μ4, rl3, e4, fun H' R' xx hh => ⟨rfl, R', xx, hh⟩⟩) fun b' s4 ⟨H4, I4, hb, R4, x4, h4⟩ => ?_)
            subst hb
            cases b' with
            | false =>
              rw [if_neg Bool.false_ne_true] at e
              simp only [Bool.false_eq_true, if_false]
              obtain ⟨f1, f2, f3⟩ := fin I4 w3 (x3.trans x4) h4
              exact seg_again rfl (ihn (Nat.le_of_succ_le hn) (i + 1) s0 s4 μ4 a r H4 R4 e hw f1 f2 f3)
            | true =>
              rw [if_pos rfl] at e
              simp only [if_true]
              have hy : ∀ v, yieldOut W.V.cenv v = yieldValue v := fun v => by simp only [yieldOut, O.co, Bool.false_eq_true, if_false]
              simp only [hy]
              rw [Sem.bind_eq_wrap', Sem.bind_eq_wrap', Sem.wrap_wrap, Sem.wrap_wrap]
              split at e
              · cases e
              · rename_i y μ5 e5
                cases e
                refine seg_wrap (thnF (pe _ s4 σ3 H4 (fun v H' => ∃ R', Ext R4 H4 R' H' ∧ HR W.K R' H' μ5 ∧ RD W.K R' H' y v) I4 ⟨R4, μ4, env3, y, μ5, rl3.ext x4 h4, e5, fun v H' R' xx hh rr => ⟨R', xx, hh, rr⟩⟩) fun yv s5 ⟨v5, H5, I5, r5, R5, x5, h5, d5⟩ => ?_)
                obtain ⟨f1, f2, f3⟩ := fin I5 w3 ((x3.trans x4).trans x5) h5
                refine seg_at (seg_yield rfl rfl rfl ⟨n, i + 1, μ5, a, y, v5, H5, R5, Nat.le_of_succ_le_succ hn, hw, f1, f2, f3, r5, d5, fun s6 pre => ?_⟩)
                obtain ⟨n6, i6, μ6, a6, r6, H6, R6, hn6, e6, hw6, hin6, st6, hacc6⟩ := pre
                exact seg_again rfl (ihk n6 hn6 i6 s6 s6 μ6 a6 r6 H6 R6 e6 hw6 hin6 st6 hacc6)
end CW

namespace CW
open PySem PySem.Spec PyProof.Rows L2

abbrev GW.Rend (W : GW) : GenEnd := fun n s0 r s1 => r = .ok .next ∧ W.End n s0 s1
theorem seg_start {W : GW} (O : W.Ok) {k : Nat} {s : Shared} (pre : W.Pre k s) :
    Seg (model W.S.X.prog W.S.X.w) W.A W.Rend W.Y k s (W.V.cs W.S) ((model W.S.X.prog W.S.X.w).den (W.V.cs W.S)) [] s := by
  obtain ⟨n, i, μ, a, r, H, R, hn, e, hw, hin, st, hacc⟩ := pre
  have loop := seg_loop O k n hn i s s μ a r H R e hw hin st hacc
  show Seg _ W.A _ _ _ s _ ((compStart W.S.gen 0 (.ref W.V.it) .none W.V.cenv).onRaise (leaving W.V.cenv)) [] s
  unfold compStart
  rw [Sem.onRaise_eq_wrap]
  show Seg _ W.A _ _ _ s _ ((ask >>= _).wrap _ _ _ _) [] s
  refine seg_bind_wrap (wpAny_askSetting ?_)
  split
  · exact seg_again rfl loop
  · first
      | exact seg_bind_wrap (wpAny_rule (seg_bind_wrap (wpAny_standAt (seg_bind_wrap (O.turn.self _ i s _ _ st (seg_again rfl loop))))))
      | (refine seg_bind_wrap (wpAny_rule ?_); show Seg _ W.A _ _ _ s _ ((standAt W.S.iter.pos >>= _).wrap _ _ _ _) [] s; exact seg_bind_wrap (wpAny_standAt (seg_bind_wrap (O.turn.self _ i s _ _ st (seg_again rfl loop)))))

/-- a generator's state that can be woken k times -/
def GW.Ready (W : GW) (k : Nat) (gs : GenState) : Prop := ∀ s, W.Pre k s → gs.Goes (model W.S.X.prog W.S.X.w) W.A W.Rend W.Y k (.send .none) s
theorem ready_fresh {W : GW} (O : W.Ok) (k : Nat) : W.Ready k (.fresh (W.V.cs W.S)) := fun s pre => ⟨rfl, seg_start O pre⟩
theorem pre_setGen {W : GW} {k : Nat} {s : Shared} (pre : W.Pre k s) (g : Nat) {x : GenState} (hx : x.bare = true) : W.Pre k (s.setGen g x) := by
  obtain ⟨n, i, μ, a, r, H, R, hn, e, hw, hin, st, hacc⟩ := pre
  exact ⟨n, i, μ, a, r, H, R, hn, e, hw, ⟨inv_setGen hin.inv hx, hin.fr, hin.ext, hin.hr⟩, st, hacc⟩

/-- what next() comes to -/
def GW.Next (W : GW) (a : Addr) (g k : Nat) (s : Shared) (r : Option Value) (s' : Shared) : Prop := match r with
  | none => ∃ μ c H R, W.Want (none, μ) c ∧ W.In (pinsAt W.ad s.heap) μ H R s' ∧ W.Acc c s.heap H R
  | some v => ∃ j n i μ c y x H R gs, k = j + 1 ∧ n ≤ j ∧ W.Want (some (y, n, i), μ) c ∧ W.In (pinsAt W.ad s.heap) μ H R s' ∧ W.V.tn i s'.heap ∧ W.Acc c s.heap H R ∧ RelV x v ∧ RD W.K R H y x ∧ s'.gens[g]? = some gs ∧ W.Ready j gs ∧ s'.heap.IsGen a g
theorem gen_next {W : GW} {A : Around} {k : Nat} {a : Addr} {g : Nat} {gs : GenState} {s : Shared} {E : Value → Shared → Prop} (hA : W.A = A.in1) (hh : A.handled = none) (hroom : A.depth < recursionLimit) (hg : s.heap.IsGen a g) (hgs : s.gens[g]? = some gs)
    (rd : W.Ready k gs) (pre : W.Pre k s) (ha : a ∈ W.ad) : wpAny (model W.S.X.prog W.S.X.w) A (pyNext (.ref a)) (W.Next a g k s) E s := by
  have hl : s.heap.NoLimit := let ⟨_, _, _, _, _, _, _, _, _, _, hin, _⟩ := pre; hin.inv.nolimit
  have hlt : g < s.gens.size := by
    rcases Nat.lt_or_ge g s.gens.size with z | z
    · exact z
    · rw [Array.getElem?_eq_none z] at hgs; cases hgs
  have rd' := rd _ (pre_setGen pre g (x := .running) rfl)
  rw [hA] at rd'
  have isg : ∀ {μ : Mu} {H : Hp} {R : List Addr} {s1 : Shared}, W.In (pinsAt W.ad s.heap) μ H R s1 → s1.heap.IsGen a g := fun {μ H R s1} hin => by
    obtain ⟨o, nm, qn, ho, r⟩ := hg
    exact ⟨o, nm, qn, (hin.inv.pin (a, o) (List.mem_append_right _ (mem_pinsAt ha ho))).1, r⟩
  refine with_gens (Nat.le_refl s.gens.size) (wpAny_pyNext_genexpQ (n := k) (P := W.End) (Y := W.Y) hh hl hroom hg hgs rd' (fun v s1 gs' hb hv => ?_) (fun s1 hp h' hk => ?_))
  · intro hsz
    obtain ⟨n, i, μ, c, y, x, H, R, hn, hw, hin, st, hacc, r, d, kap⟩ := hv
    cases k with
    | zero =>
      exfalso
      obtain ⟨n0, i0, μ0, a0, r0, H0, R0, hn0, e0, _⟩ := pre
      have : n0 = 0 := Nat.le_zero.mp hn0
      subst this
      cases e0
    | succ j =>
      refine ⟨j, n, i, μ, c, y, x, H, R, gs', rfl, hn, hw, ⟨inv_setGen hin.inv hb, hin.fr, hin.ext, hin.hr⟩, st, hacc, r, d, ?_, fun s2 p2 => ?_, (isg (s1 := s1) hin : s1.heap.IsGen a g)⟩
      · have z : g < (s1.setGen g gs').gens.size := Nat.lt_of_lt_of_le hlt hsz
        simp only [Shared.setGen, Array.size_setIfInBounds] at z
        simp [Shared.setGen, z]
      · rw [hA]; exact kap s2 p2
  · intro _
    obtain ⟨μ, c, H, R, hw, hin, hacc⟩ := hp
    exact ⟨μ, c, H, R, hw, ⟨(inv_setGen hin.inv (g := g) (x := .finished) rfl).kept (t' := s1.toks) hk, hin.fr, hin.ext, hin.hr⟩, hacc⟩

structure GO (S : GS) (V : GV) (A : Around) (R4 : List Addr) (item : Nat → Mu → Option (Option D)) (g : Gm) (tt : Tm) (fe : Sm) (env : Env) : Prop where
  calm : S.X.calm = true
  frames : (A.over (V.cl S) []).frames = some (V.cenv :: S.X.stack)
  handled : A.handled = none
  depth : A.depth < recursionLimit
  hg : DGw (V.Xg S (A.over (V.cl S) [])) S.vs S.tg g
  ht : DTs (V.Xg S (A.over (V.cl S) [])) S.ifs tt
  he : DE (V.Xg S (A.over (V.cl S) [])) S.elt fe
  itok : ItOk S.X.K R4 V.H4 V.J item
  re : RE S.X.K R4 V.H4 env (wipe S.σ S.vs)
section
variable {S : GS} {V : GV} {A : Around} {R4 : List Addr} {item : Nat → Mu → Option (Option D)} {g : Gm} {tt : Tm} {fe : Sm} {env : Env} {a : Addr} {gn : Nat} {s5 : Shared}
theorem GO.ok (G : GO S V A R4 item g tt fe env) (M : Made S V a gn s5) {ad : List Addr} {α : Type} {Want : Option (D × Nat × Nat) × Mu → α → Prop} {Acc : α → Heap → Hp → List Addr → Prop} (had : ∀ b ∈ ad, V.s4.heap.objs.size < b)
    (acc : ∀ a h H R H' R', Acc a h H R → Ext R H R' H' → Acc a h H' R') : GW.Ok ⟨S, V, A, R4, item, g, tt, fe, env, ad, α, Want, Acc⟩ :=
  ⟨M.turn, G.calm, G.hg, G.ht, G.he, G.itok, G.re, M.co, fun b hb z => absurd (Nat.lt_trans (M.f4 b hb).2 (had b z)) (Nat.lt_irrefl _), acc⟩
theorem made_free (M : Made S V a gn s5) {b : Addr} (hb : V.s4.heap.objs.size < b) : b ≠ V.cenv.locals ∧ b ∉ frs S.X.stack ∧ ∀ x c, V.cenv.cells.lookup x = some c → c ≠ b := by
  refine ⟨by rw [M.loc]; exact Nat.ne_of_gt hb, fun z => ?_, fun x c e z => ?_⟩
  · rcases List.mem_cons.mp (M.i4.stkSub b z) with y | y
    · rw [y] at hb; exact absurd (Nat.lt_trans M.i4.lt hb) (Nat.lt_irrefl _)
    · exact M.i4.nofs (Nat.le_of_lt hb) y
  · have := M.cel x c e
    rw [z] at this; exact absurd (Nat.lt_trans this hb) (Nat.lt_irrefl _)
/-- the pins at ad as they stand -/
theorem in_pin (M : Made S V a gn s5) {A' : Around} {pl : List (Addr × Obj)} {σ : St} {H : Hp} {s : Shared} {ad : List Addr} (I : Inv (V.Xg S A') pl σ H s) (had : ∀ b ∈ ad, V.s4.heap.objs.size < b) (hn : ∀ b ∈ ad, H b = none)
    (ho : ∀ b ∈ ad, ∀ o, s.heap.get? b = some o → ∀ v, o.data ≠ .cell v) : Inv (V.Xg S A') (pinsAt ad s.heap) σ H s := I.pins_of fun p hp => by
  obtain ⟨hb, e⟩ := of_pinsAt hp
  obtain ⟨f1, f2, f3⟩ := made_free M (had _ hb)
  exact ⟨e, hn _ hb, f1, f2, ho _ hb _ e⟩
/-- back in the def -/
theorem made_back (M : Made S V a gn s5) {A' : Around} {pl : List (Addr × Obj)} {σ : St} {H : Hp} {s : Shared} (I : Inv (V.Xg S A') pl σ H s) : Inv S.X S.pins S.σ H s :=
  M.i4.call' (ch := V.fp) I.os I.base I.hok I.bare fun b hb => ⟨(M.f4 b hb).1.2.2.2.1, (M.f4 b hb).1.2.1, (M.f4 b hb).1.2.2.2.2.1, (M.f4 b hb).1.2.2.2.2.2⟩
end

def allGo (stop : Bool) (item : Nat → Mu → Option (Option D)) (g : Gm) (tt : Tm) (fe : Sm) (env : Env) : Nat → Nat → Mu → Option (Bool × Mu)
  | 0, _, _ => none
  | n + 1, i, μ => match item i μ with
    | none => none
    | some none => some (!stop, μ)
    | some (some x) => match g x env μ with
      | none => none
      | some (env1, μ1) => match tt env1 μ1 with
        | none => none
        | some (b, μ2) => if b = true then match fe env1 μ2 with
            | some (.bl c, μ3) => if c = stop then some (stop, μ3) else allGo stop item g tt fe env n (i + 1) μ3
            | _ => none
          else allGo stop item g tt fe env n (i + 1) μ2
def WantA (stop : Bool) (item : Nat → Mu → Option (Option D)) (g : Gm) (tt : Tm) (fe : Sm) (env : Env) (b : Bool) (μE : Mu) : Option (D × Nat × Nat) × Mu → Unit → Prop
  | (none, μ), _ => b = !stop ∧ μ = μE
  | (some (y, n, i), μ), _ => ∃ c, y = .bl c ∧ if c = stop then b = stop ∧ μ = μE else allGo stop item g tt fe env n i μ = some (b, μE)
theorem allGo_next {stop : Bool} {item : Nat → Mu → Option (Option D)} {g : Gm} {tt : Tm} {fe : Sm} {env : Env} {b : Bool} {μE : Mu} : ∀ {n i : Nat} {μ : Mu}, allGo stop item g tt fe env n i μ = some (b, μE) →
    ∃ r, genNext item g tt fe env n i μ = some r ∧ WantA stop item g tt fe env b μE r ()
  | 0, i, μ, e => by cases e
  | n + 1, i, μ, e => by
    unfold allGo at e
    unfold genNext
    split at e
    · cases e
    · rename_i ei
      cases e
      (try rw [ei])
      exact ⟨(none, _), rfl, rfl, rfl⟩
    · rename_i x ei
      (try rw [ei])
      (try dsimp only)
      split at e
      · cases e
      · rename_i env1 μ1 e1
        (try rw [e1])
        (try dsimp only)
        split at e
        · cases e
        · rename_i c μ2 e2
          (try rw [e2])
          (try dsimp only)
          cases c with
          | false =>
            rw [if_neg Bool.false_ne_true] at e ⊢
            exact allGo_next e
          | true =>
            rw [if_pos rfl] at e ⊢
            split at e
            · rename_i d μ3 e3
              (try rw [e3])
              refine ⟨_, rfl, d, rfl, ?_⟩
              by_cases hc : d = stop
              · rw [if_pos hc] at e ⊢
                cases e
                exact ⟨rfl, rfl⟩
              · rw [if_neg hc] at e ⊢
                exact e
            · cases e
def allE (stop : Bool) (fi : Im) (g : Gm) (tt : Tm) (fe : Sm) (vs : List Nat) : Sm := fun env μ => match fi env μ with
  | none => none
  | some (it, μ1) => match allGo stop it.item g tt fe (wipeE env vs) it.fuel 0 μ1 with
    | none => none
    | some (b, μ2) => some (.bl b, μ2)

section
variable {S : GS} {V : GV} {A : Around} {R4 : List Addr} {item : Nat → Mu → Option (Option D)} {g : Gm} {tt : Tm} {fe : Sm} {env : Env} {a : Addr} {gn : Nat} {s5 : Shared}
abbrev WA (S : GS) (V : GV) (A : Around) (R4 : List Addr) (item : Nat → Mu → Option (Option D)) (g : Gm) (tt : Tm) (fe : Sm) (env : Env) (a : Addr) (stop b : Bool) (μE : Mu) : GW :=
  ⟨S, V, A, R4, item, g, tt, fe, env, [a], Unit, WantA stop item g tt fe env b μE, fun _ _ _ _ => True⟩
/-- what all() and any() come to in the end -/
def Came (S : GS) (V : GV) (R4 : List Addr) (μE : Mu) (s' : Shared) : Prop := ∃ H R, Inv S.X S.pins S.σ H s' ∧ Ext R4 V.H4 R H ∧ HR S.X.K R H μE
theorem pre_allA (M : Made S V a gn s5) {A : Around} {stop b : Bool} {μE μ : Mu} {H : Hp} {R : List Addr} {s : Shared} {n i k : Nat} {pl : List (Addr × Obj)} (hn : n ≤ k) (e : allGo stop item g tt fe env n i μ = some (b, μE))
    (hin : (WA S V A R4 item g tt fe env a stop b μE).In pl μ H R s) (hp : H a = none) (isg : s.heap.IsGen a gn) (st : V.tn i s.heap) : (WA S V A R4 item g tt fe env a stop b μE).Pre k s := by
  obtain ⟨r, e1, w⟩ := allGo_next e
  refine ⟨n, i, μ, (), r, H, R, hn, e1, w, ⟨in_pin M hin.inv (fun b hb => ?_) (fun b hb => ?_) (fun b hb o ho v z => ?_), hin.fr, hin.ext, hin.hr⟩, st, trivial⟩
  · rw [List.mem_singleton.mp hb]; exact M.lt
  · rw [List.mem_singleton.mp hb]; exact hp
  · rw [List.mem_singleton.mp hb] at ho
    obtain ⟨o', _, _, ho', _, hd, _⟩ := isg
    rw [ho] at ho'; cases ho'
    rw [hd] at z; cases z
theorem all_any_loop (M : Made S V a gn s5) (G : GO S V A.in1.in1 R4 item g tt fe env) (nm ln : String) (stop b : Bool) (hnm : (nm = "all" ∧ ln = "all.loop" ∧ stop = false) ∨ (nm = "any" ∧ ln = "any.loop" ∧ stop = true)) {μE : Mu} {R : Result → Shared → Prop}
    (hR : ∀ s', Came S V R4 μE s' → R (.ok (.ret (.bool b))) s') : ∀ (k : Nat) (s : Shared) (gs : GenState), s.heap.IsGen a gn → s.gens[gn]? = some gs → (WA S V A.in1.in1 R4 item g tt fe env a stop b μE).Ready k gs →
    (WA S V A.in1.in1 R4 item g tt fe env a stop b μE).Pre k s → codeAny (model S.X.prog S.X.w) A (.builtin ln ⟨[.ref a], []⟩) R s := by
  have key : ∀ (k : Nat) (s : Shared) (gs : GenState), s.heap.IsGen a gn → s.gens[gn]? = some gs → (WA S V A.in1.in1 R4 item g tt fe env a stop b μE).Ready k gs → (WA S V A.in1.in1 R4 item g tt fe env a stop b μE).Pre k s →
      ∀ {F : Option Value → Shared → Prop}, (∀ s', Came S V R4 μE s' → b = (!stop) → F none s') →
      (∀ c s' , (c = stop → Came S V R4 μE s' ∧ b = stop) → (c ≠ stop → ∃ j gs', j < k ∧ s'.heap.IsGen a gn ∧ s'.gens[gn]? = some gs' ∧ (WA S V A.in1.in1 R4 item g tt fe env a stop b μE).Ready j gs' ∧ (WA S V A.in1.in1 R4 item g tt fe env a stop b μE).Pre j s') → F (some (.bool c)) s') →
      ∀ {E : Value → Shared → Prop}, wpAny (model S.X.prog S.X.w) A.in1 (pyNext (.ref a)) F E s := by
    intro k s gs isg hgs rd pre F h1 h2 E
    have pina : ∀ {μ : Mu} {H : Hp} {R : List Addr} {s' : Shared}, (WA S V A.in1.in1 R4 item g tt fe env a stop b μE).In (pinsAt [a] s.heap) μ H R s' → H a = none := fun {μ H R s'} hin => by
      obtain ⟨o, _, _, ho, _⟩ := isg
      exact (hin.inv.pin (a, o) (List.mem_append_right _ (mem_pinsAt (List.mem_singleton.mpr rfl) ho))).2.1
    refine wpAny_mono (gen_next (W := WA S V A.in1.in1 R4 item g tt fe env a stop b μE) rfl G.handled G.depth isg hgs rd pre (List.mem_singleton.mpr rfl)) (fun r s' nx => ?_) fun _ _ z => z
    cases r with
    | none =>
      obtain ⟨μ, c, H, R', hw, hin, _⟩ := nx
      obtain ⟨w1, w2⟩ := hw
      subst w2
      exact h1 s' ⟨H, R', made_back M hin.inv, hin.ext, hin.hr⟩ w1
    | some v =>
      obtain ⟨j, n, i, μ, c, y, x, H, R', gs', hk, hn, hw, hin, st, _, r, d, hgs', rd', isg'⟩ := nx
      obtain ⟨q, rfl, hq⟩ := hw
      cases d
      have r' : v = Value.bool q := r
      subst r'
      refine h2 q s' (fun hs => ?_) (fun hs => ?_)
      · rw [if_pos hs] at hq
        obtain ⟨q1, q2⟩ := hq
        subst q2
        exact ⟨⟨H, R', made_back M hin.inv, hin.ext, hin.hr⟩, q1⟩
      · rw [if_neg hs] at hq
        exact ⟨j, gs', by omega, isg', hgs', rd', pre_allA M hn hq hin (pina hin) isg' st⟩
  intro k
  induction k using Nat.strongRecOn with
  | ind k ih =>
  intro s gs isg hgs rd pre
  rcases hnm with ⟨rfl, rfl, rfl⟩ | ⟨rfl, rfl, rfl⟩
  · refine codeAny_builtin F.entry_all_loop ?_
    rw [Around.under_plainId F.plain_all_loop _]
    show wpAny _ A.in1 (pyNext (.ref a) >>= _) _ _ s
    refine wpAny_bind (key k s gs isg hgs rd pre (fun s' cm hb => ?_) (fun c s' f1 f2 => ?_))
    · refine wpAny_bind (wpAny_rule (wpAny_pure ?_))
      have := hR s' cm
      rw [hb] at this
      exact this
    · refine wpAny_bind (wpAny_holding (wpAny_truthy_bool ?_))
      refine wpAny_bind (wpAny_letGo ?_)
      cases c with
      | true =>
        simp only [if_true]
        obtain ⟨j, gs', hj, i1, i2, i3, i4⟩ := f2 (by decide)
        exact wpAny_pure ⟨plainId_quiet F.plain_all_loop _, ih j hj s' gs' i1 i2 i3 i4⟩
      | false =>
        simp only [Bool.false_eq_true, if_false]
        obtain ⟨cm, hb⟩ := f1 rfl
        refine wpAny_bind (wpAny_rule (wpAny_pure ?_))
        have := hR s' cm
        rw [hb] at this
        exact this
  · refine codeAny_builtin F.entry_any_loop ?_
    rw [Around.under_plainId F.plain_any_loop _]
    show wpAny _ A.in1 (pyNext (.ref a) >>= _) _ _ s
    refine wpAny_bind (key k s gs isg hgs rd pre (fun s' cm hb => ?_) (fun c s' f1 f2 => ?_))
    · refine wpAny_bind (wpAny_rule (wpAny_pure ?_))
      have := hR s' cm
      rw [hb] at this
      exact this
    · refine wpAny_bind (wpAny_holding (wpAny_truthy_bool ?_))
      refine wpAny_bind (wpAny_letGo ?_)
      cases c with
      | false =>
        simp only [Bool.false_eq_true, if_false]
        obtain ⟨j, gs', hj, i1, i2, i3, i4⟩ := f2 (by decide)
        exact wpAny_pure ⟨plainId_quiet F.plain_any_loop _, ih j hj s' gs' i1 i2 i3 i4⟩
      | true =>
        simp only [if_true]
        obtain ⟨cm, hb⟩ := f1 rfl
        refine wpAny_bind (wpAny_rule (wpAny_pure ?_))
        have := hR s' cm
        rw [hb] at this
        exact this
theorem call_allany (M : Made S V a gn s5) (G : GO S V A.in1.in1 R4 item g tt fe env) (nm ln : String) (stop b : Bool) (hnm : (nm = "all" ∧ ln = "all.loop" ∧ stop = false) ∨ (nm = "any" ∧ ln = "any.loop" ∧ stop = true)) {μ1 μE : Mu} {n : Nat} {Q : Value → Shared → Prop} {E : Value → Shared → Prop}
    (e : allGo stop item g tt fe env n 0 μ1 = some (b, μE)) (hr4 : HR S.X.K R4 V.H4 μ1) (hQ : ∀ s', Came S V R4 μE s' → Q (.bool b) s') : wpAny (model S.X.prog S.X.w) A (call (.builtin nm) [.ref a]) Q E s5 := by
  have O : (WA S V A.in1.in1 R4 item g tt fe env a stop b μE).Ok := G.ok M (fun b hb => by rw [List.mem_singleton.mp hb]; exact M.lt) fun _ _ _ _ _ _ _ _ => trivial
  have pre : (WA S V A.in1.in1 R4 item g tt fe env a stop b μE).Pre n s5 := pre_allA M (Nat.le_refl n) e ⟨M.ig _ G.frames G.handled, fun b hb => (M.f4 b hb).1.1, .refl, hr4⟩ (M.i4.hok.fresh (Nat.le_of_lt M.lt)) M.isg M.t0
  have lp := all_any_loop (A := A) M G nm ln stop b hnm (R := fun r s' => match r with | .ok (.ret v) => Q v s' | .ok _ => False | .error e => E e s') hQ n s5 _ M.isg M.gen (ready_fresh O n) pre
  rcases hnm with ⟨rfl, rfl, rfl⟩ | ⟨rfl, rfl, rfl⟩
  · refine call_function_tree F.kind_all F.plain_all F.entry_all (F.args_all1 _) ?_
    unfold Builtin.«all»
    refine wpAny_bind (m := oneArg "all" _) (wpAny_pure ?_)
    refine wpAny_bind (wpAny_pyIter_gen M.isg ?_)
    exact wpAny_pure ⟨plainId_quiet F.plain_all_loop _, lp⟩
  · refine call_function_tree F.kind_any F.plain_any F.entry_any (F.args_any1 _) ?_
    unfold Builtin.«any»
    refine wpAny_bind (m := oneArg "any" _) (wpAny_pure ?_)
    refine wpAny_bind (wpAny_pyIter_gen M.isg ?_)
    exact wpAny_pure ⟨plainId_quiet F.plain_any_loop _, lp⟩
end
end CW

namespace CW
open PySem PySem.Spec PyProof.Rows L2

def tupGo (item : Nat → Mu → Option (Option D)) (g : Gm) (tt : Tm) (fe : Sm) (env : Env) : Nat → Nat → Mu → Option (List D × Mu)
  | 0, _, _ => none
  | n + 1, i, μ => match item i μ with
    | none => none
    | some none => some ([], μ)
    | some (some x) => match g x env μ with
      | none => none
      | some (env1, μ1) => match tt env1 μ1 with
        | none => none
        | some (b, μ2) => if b = true then match fe env1 μ2 with
            | none => none
            | some (y, μ3) => match tupGo item g tt fe env n (i + 1) μ3 with
              | none => none
              | some (ys, μ4) => some (y :: ys, μ4)
          else tupGo item g tt fe env n (i + 1) μ2
def WantT (item : Nat → Mu → Option (Option D)) (g : Gm) (tt : Tm) (fe : Sm) (env : Env) (tot : List D) (μE : Mu) : Option (D × Nat × Nat) × Mu → List D → Prop
  | (none, μ), acc => acc = tot ∧ μ = μE
  | (some (y, n, i), μ), acc => ∃ rest, tot = acc ++ y :: rest ∧ tupGo item g tt fe env n i μ = some (rest, μE)
theorem tupGo_next {item : Nat → Mu → Option (Option D)} {g : Gm} {tt : Tm} {fe : Sm} {env : Env} {tot : List D} {μE : Mu} : ∀ {n i : Nat} {μ : Mu} {acc rest : List D}, tupGo item g tt fe env n i μ = some (rest, μE) → tot = acc ++ rest →
    ∃ r, genNext item g tt fe env n i μ = some r ∧ WantT item g tt fe env tot μE r acc
  | 0, i, μ, acc, rest, e, _ => by cases e
  | n + 1, i, μ, acc, rest, e, ht => by
    unfold tupGo at e
    unfold genNext
    split at e
    · cases e
    · rename_i ei
      cases e
      (try rw [ei])
      exact ⟨(none, _), rfl, by rw [ht, List.append_nil], rfl⟩
    · rename_i x ei
      (try rw [ei])
      (try dsimp only)
      split at e
      · cases e
      · rename_i env1 μ1 e1
        (try rw [e1])
        (try dsimp only)
        split at e
        · cases e
        · rename_i c μ2 e2
          (try rw [e2])
          (try dsimp only)
          cases c with
          | false =>
            rw [if_neg Bool.false_ne_true] at e ⊢
            exact tupGo_next e ht
          | true =>
            rw [if_pos rfl] at e ⊢
            split at e
            · cases e
            · rename_i y μ3 e3
              (try rw [e3])
              split at e
              · cases e
              · rename_i ys μ4 e4
                cases e
                exact ⟨_, rfl, ys, ht, e4⟩

abbrev lobj (its : Array Value) (c : Nat) : Obj := { cls := .type "list", dict := none, data := .seq its c, slots := #[] }
section
variable {S : GS} {V : GV} {A : Around} {R4 : List Addr} {item : Nat → Mu → Option (Option D)} {g : Gm} {tt : Tm} {fe : Sm} {env : Env} {a L : Addr} {gn : Nat} {s5 : Shared} {tot : List D} {μE : Mu}
def AccT (K : PySem.W.Frag) (L : Addr) (acc : List D) (h : Heap) (H : Hp) (R : List Addr) : Prop := ∃ its c vs, h.get? L = some (lobj its c) ∧ Vals vs its.toList ∧ RDs K R H acc vs
abbrev WT (S : GS) (V : GV) (A : Around) (R4 : List Addr) (item : Nat → Mu → Option (Option D)) (g : Gm) (tt : Tm) (fe : Sm) (env : Env) (a L : Addr) (tot : List D) (μE : Mu) : GW :=
  ⟨S, V, A, R4, item, g, tt, fe, env, [a, L], List D, WantT item g tt fe env tot μE, AccT S.X.K L⟩
def CameT (S : GS) (V : GV) (R4 : List Addr) (L : Addr) (tot : List D) (μE : Mu) (s' : Shared) : Prop := ∃ H R, Inv S.X S.pins S.σ H s' ∧ Ext R4 V.H4 R H ∧ HR S.X.K R H μE ∧ AccT S.X.K L tot s'.heap H R
theorem inv_turn (M : Made S V a gn s5) {A' : Around} {pl : List (Addr × Obj)} {σ : St} {H : Hp} {s : Shared} {h' : Heap} (I : Inv (V.Xg S A') pl σ H s) (hL : V.s4.heap.objs.size < L) (hn : H L = none) (k : ∀ b o, b ≠ L → s.heap.get? b = some o → h'.get? b = some o) :
    Inv (V.Xg S A') [] σ H { s with heap := h' } := by
  obtain ⟨f1, f2, f3⟩ := made_free M hL
  exact (I.pins_of (pins' := []) fun p hp => absurd hp (by simp)).turned (t' := s.toks) k hn f1 (.inr (Nat.le_of_lt hL)) f3 fun p hp => absurd (show p ∈ ([] : List (Addr × Obj)) ++ [] from hp) (by simp)
theorem pre_tup (M : Made S V a gn s5) {A : Around} {μ : Mu} {H : Hp} {R : List Addr} {s : Shared} {n i k : Nat} {pl : List (Addr × Obj)} {acc rest : List D} (hL : V.s4.heap.objs.size < L) (hn : n ≤ k) (e : tupGo item g tt fe env n i μ = some (rest, μE)) (ht : tot = acc ++ rest)
    (hin : (WT S V A R4 item g tt fe env a L tot μE).In pl μ H R s) (hp : H a = none) (hp2 : H L = none) (isg : s.heap.IsGen a gn) (st : V.tn i s.heap) (hacc : AccT S.X.K L acc s.heap H R) : (WT S V A R4 item g tt fe env a L tot μE).Pre k s := by
  obtain ⟨r, e1, w⟩ := tupGo_next e ht
  have two : ∀ b ∈ [a, L], b = a ∨ b = L := fun b hb => by simpa using hb
  refine ⟨n, i, μ, acc, r, H, R, hn, e1, w, ⟨in_pin M hin.inv (fun b hb => ?_) (fun b hb => ?_) (fun b hb o ho v z => ?_), hin.fr, hin.ext, hin.hr⟩, st, hacc⟩
  · rcases two b hb with rfl | rfl
    · exact M.lt
    · exact hL
  · rcases two b hb with rfl | rfl
    · exact hp
    · exact hp2
  · rcases two b hb with rfl | rfl
    · obtain ⟨o', _, _, ho', _, hd, _⟩ := isg
      rw [ho] at ho'; cases ho'
      rw [hd] at z; cases z
    · obtain ⟨its, c, vs, ho', _⟩ := hacc
      rw [ho] at ho'; cases ho'
      cases z
theorem ext_loop (M : Made S V a gn s5) (G : GO S V A.in1.in1 R4 item g tt fe env) (hL : V.s4.heap.objs.size < L) (haL : a ≠ L) (hsz : tot.length ≤ sizeLine) {R : Result → Shared → Prop} {res : Value}
    (hR : ∀ s', CameT S V R4 L tot μE s' → R (.ok (.ret res)) s') : ∀ (k : Nat) (s : Shared) (gs : GenState), s.heap.IsGen a gn → s.gens[gn]? = some gs → (WT S V A.in1.in1 R4 item g tt fe env a L tot μE).Ready k gs →
    (WT S V A.in1.in1 R4 item g tt fe env a L tot μE).Pre k s → codeAny (model S.X.prog S.X.w) A (.builtin "list.extend.loop" ⟨[.ref L, .ref a, res], []⟩) R s := by
  intro k
  induction k using Nat.strongRecOn with
  | ind k ih =>
  intro s gs isg hgs rd pre
  have pina : ∀ {μ : Mu} {H : Hp} {R : List Addr} {s' : Shared}, (WT S V A.in1.in1 R4 item g tt fe env a L tot μE).In (pinsAt [a, L] s.heap) μ H R s' → ∀ b ∈ [a, L], ∀ o, s.heap.get? b = some o → s'.heap.get? b = some o ∧ H b = none := fun {μ H R s'} hin b hb o ho =>
    let z := hin.inv.pin (b, o) (List.mem_append_right _ (mem_pinsAt hb ho))
    ⟨z.1, z.2.1⟩
  refine codeAny_builtin F.entry_extend_loop ?_
  rw [Around.under_plainId F.plain_extend_loop _]
  show wpAny _ A.in1 (pyNext (.ref a) >>= _) _ _ s
  refine wpAny_bind (wpAny_mono (gen_next (W := WT S V A.in1.in1 R4 item g tt fe env a L tot μE) rfl G.handled G.depth isg hgs rd pre (by simp)) (fun r s' nx => ?_) fun _ _ z => z)
  cases r with
  | none =>
    obtain ⟨μ, c, H, R', hw, hin, its, cc, vs, ho, rv, rd'⟩ := nx
    obtain ⟨w1, w2⟩ := hw
    have rd2 : RDs S.X.K R' H tot vs := by rw [← show c = tot from w1]; exact rd'
    have hr2 : HR S.X.K R' H μE := by rw [← w2]; exact hin.hr
    exact wpAny_pure (hR s' ⟨H, R', made_back M hin.inv, hin.ext, hr2, its, cc, vs, (pina hin L (by simp) _ ho).1, rv, rd2⟩)
  | some v =>
    obtain ⟨j, n, i, μ, c, y, x, H, R', gs', hk, hn, hw, hin, st, hacc, r, d, hgs', rd', isg'⟩ := nx
    obtain ⟨its, cc, vs, ho, rv, rds⟩ := hacc
    obtain ⟨rest, ht, hq⟩ := hw
    change List D at c
    have hoL := pina hin L (by simp) _ ho
    obtain ⟨oa, _, _, hoa, _⟩ := id isg
    have hoa' := pina hin a (by simp) _ hoa
    have hits : its.size = c.length := by
      have h1 : c.length = vs.length := rds.length
      have h2 : vs.length = its.toList.length := Vals.length rv
      have h3 : its.toList.length = its.size := Array.length_toList
      omega
    have hlt : its.size < tot.length := by rw [ht, hits, List.length_append, List.length_cons]; omega
    show wpAny _ A.in1 (updateSeq L (·.push v) >>= _) _ _ _
    refine wpAny_bind ?_
    have kk : ∀ b o, b ≠ L → s'.heap.get? b = some o → (s'.heap.update L (Obj.mapSeq (·.push v))).get? b = some o := fun b o hb e => (Heap.get?_update_other _ _ (Ne.symm hb)).trans e
    have hself := Heap.get?_update_self (Obj.mapSeq (·.push v)) hoL.1 rfl
    refine wpAny_updateSeq hoL.1 rfl (wpAny_pure ⟨plainId_quiet F.plain_extend_loop _, ih j (by omega) _ gs' ?_ hgs' rd' ?_⟩) (by omega) (by show (its.push v).size ≤ sizeLine + 1; rw [Array.size_push]; omega)
    · obtain ⟨o, nm, qn, e, q⟩ := isg'
      exact ⟨o, nm, qn, kk a o haL e, q⟩
    · refine pre_tup (acc := c ++ [y]) M hL hn hq (by rw [ht]; simp) ⟨inv_turn M hin.inv hL hoL.2 kk, hin.fr, hin.ext, hin.hr⟩ hoa'.2 hoL.2 ?_ (M.turn.keep _ _ _ st fun b hb o e => kk b o (fun z => ?_) e) ⟨its.push v, _, vs ++ [x], hself, ?_, rds.append (.cons d .nil)⟩
      · obtain ⟨o, nm, qn, e, q⟩ := isg'
        exact ⟨o, nm, qn, kk a o haL e, q⟩
      · exact absurd (Nat.lt_trans (M.f4 b hb).2 (by rw [z]; exact hL)) (Nat.lt_irrefl _)
      · rw [Array.toList_push]; exact rv.append (.cons r .nil)
/-- the list of all that comes -/
theorem gen_collect (M : Made S V a gn s5) (G : GO S V A.in1.in1 R4 item g tt fe env) (hsz : tot.length ≤ sizeLine) {μ1 : Mu} {n : Nat} {Q : List Value → Shared → Prop} {E : Value → Shared → Prop} (e : tupGo item g tt fe env n 0 μ1 = some (tot, μE)) (hr4 : HR S.X.K R4 V.H4 μ1)
    (hQ : ∀ s' H R us vs, Inv S.X S.pins S.σ H s' → Ext R4 V.H4 R H → HR S.X.K R H μE → Vals vs us → RDs S.X.K R H tot vs → Q us s') : wpAny (model S.X.prog S.X.w) A (collect (.ref a)) Q E s5 := by
  have hL : V.s4.heap.objs.size < s5.heap.objs.size := Nat.lt_trans M.lt M.sz
  have haL : a ≠ s5.heap.objs.size := Nat.ne_of_lt M.sz
  have O : (WT S V A.in1.in1 R4 item g tt fe env a s5.heap.objs.size tot μE).Ok := G.ok M (fun b hb => by
    rcases (show b = a ∨ b = s5.heap.objs.size by simpa using hb) with rfl | rfl
    · exact M.lt
    · exact hL) fun acc h H R H' R' ⟨its, c, vs, h1, h2, h3⟩ x => ⟨its, c, vs, h1, h2, h3.ext x⟩
  unfold collect
  refine wpAny_bind (wpAny_runValue (codeAny_builtin F.entry_proto_collect ?_))
  rw [Around.under_plainId F.plain_proto_collect _]
  show wpAny _ A.in1 (newList [] >>= fun l => again (.builtin "list.__iadd__" ⟨[l, .ref a], []⟩)) _ _ s5
  refine wpAny_bind (wpAny_newObj_type ?_)
  refine wpAny_pure ⟨plainId_quiet F.plain_list_iadd _, codeAny_builtin F.entry_list_iadd ?_⟩
  rw [Around.under_plainId F.plain_list_iadd _]
  have isg1 : ({ s5 with heap := s5.heap.push (lobj #[] 0) } : Shared).heap.IsGen a gn := M.isg.push _
  show wpAny _ A.in1 (Builtin.List.listExtendWith (.ref s5.heap.objs.size) (.ref a) (.ref s5.heap.objs.size)) _ _ { s5 with heap := s5.heap.push (lobj #[] 0) }
  unfold Builtin.List.listExtendWith
  refine wpAny_bind (wpAny_typeOf isg1.typeIs ?_)
  have h1 : Builtin.List.listSameRef (.ref s5.heap.objs.size) (.ref a) = false := by simp [Builtin.List.listSameRef, Ne.symm haL]
  have h2 : (Value.type "generator" == Value.type "list") = false := by decide
  have h3 : (Value.type "generator" == Value.type "tuple") = false := by decide
  simp only [h1, h2, h3, Bool.or_false, Bool.false_eq_true, if_false]
  refine wpAny_bind (wpAny_pyIter_gen isg1 ?_)
  refine wpAny_bind (wpAny_holding ?_)
  unfold Builtin.List.listLengthHint
  refine wpAny_bind (wpAny_specialOf isg1.typeIs F.gen_no_len ?_)
  show wpAny _ A.in1 (specialOf (Value.ref a) (Str.ofString "__length_hint__") >>= _) _ _ _
  refine wpAny_bind (wpAny_specialOf isg1.typeIs F.gen_no_hint ?_)
  refine wpAny_pure ?_
  show wpAny _ A.in1 (rule "list.extend.makes-room" >>= fun _ => Builtin.List.listTouch (.ref s5.heap.objs.size) >>= fun _ =>
    again (.builtin "list.extend.loop" ⟨[.ref s5.heap.objs.size, .ref a, .ref s5.heap.objs.size], []⟩)) _ _ _
  refine wpAny_bind (wpAny_rule ?_)
  have hS1 : (s5.heap.push (lobj #[] 0)).get? s5.heap.objs.size = some (lobj #[] 0) := Heap.get?_push_size _ rfl
  refine wpAny_bind ?_
  show wpAny _ A.in1 (updateSeq s5.heap.objs.size (·.push .none) >>= fun _ => updateSeq s5.heap.objs.size (·.pop)) _ _ _
  refine wpAny_bind (wpAny_updateSeq hS1 rfl ?_)
  have hS2 := Heap.get?_update_self (Obj.mapSeq (·.push Value.none)) hS1 rfl
  refine wpAny_updateSeq hS2 rfl ?_
  have hS3 := Heap.get?_update_self (Obj.mapSeq (·.pop)) hS2 rfl
  have kp : ∀ b o, s5.heap.get? b = some o → (((s5.heap.push (lobj #[] 0)).update s5.heap.objs.size (Obj.mapSeq (·.push Value.none))).update s5.heap.objs.size (Obj.mapSeq (·.pop))).get? b = some o := fun b o e => by
    have hb : s5.heap.objs.size ≠ b := Nat.ne_of_gt (Heap.lt_size e)
    exact (Heap.get?_update_other _ _ hb).trans ((Heap.get?_update_other _ _ hb).trans (Heap.get?_push_of_some _ e))
  have I6 := (M.ig (A.in1.in1.over (V.cl S) []) G.frames G.handled).kept (t' := s5.toks) kp
  have isg6 := M.isg.keeps kp
  refine wpAny_pure ⟨plainId_quiet F.plain_extend_loop _, ext_loop (μE := μE) M G hL haL hsz (fun s' cm => ?_) n _ _ isg6 M.gen (ready_fresh O n)
    (pre_tup (acc := []) M hL (Nat.le_refl n) e rfl ⟨I6, fun b hb => (M.f4 b hb).1.1, .refl, hr4⟩ (M.i4.hok.fresh (Nat.le_of_lt M.lt)) (M.i4.hok.fresh (Nat.le_of_lt hL)) isg6 (M.turn.keep _ _ _ M.t0 fun b _ o e => kp b o e) ⟨_, _, [], hS3, .nil, .nil⟩)⟩
  obtain ⟨H, R, I', x', h', its, c, vs, ho, rv, rds⟩ := cm
  show wpAny _ A (load s5.heap.objs.size >>= _) _ _ s'
  refine wpAny_bind (wpAny_load ho ?_)
  exact wpAny_pure (hQ s' H R its.toList vs I' x' h' rv rds)
end
end CW

namespace CW
open PySem PySem.Spec PyProof.Rows L2

section
variable {S : GS} {V : GV} {A : Around} {R4 : List Addr} {item : Nat → Mu → Option (Option D)} {g : Gm} {tt : Tm} {fe : Sm} {env : Env} {a : Addr} {gn : Nat} {s5 : Shared} {tot : List D} {μE : Mu}
theorem code_tupG (M : Made S V a gn s5) (G : GO S V A.in1.in1.in1 R4 item g tt fe env) (hsz : tot.length ≤ sizeLine) {μ1 : Mu} {n : Nat} {Q : Value → Shared → Prop} {E : Value → Shared → Prop} (e : tupGo item g tt fe env n 0 μ1 = some (tot, μE)) (hr4 : HR S.X.K R4 V.H4 μ1)
    (hQ : ∀ s' H R us vs, Inv S.X S.pins S.σ H s' → Ext R4 V.H4 R H → HR S.X.K R H μE → Vals vs us → RDs S.X.K R H tot vs → Q (.ref s'.heap.objs.size) { s' with heap := s'.heap.push { cls := .type "tuple", data := .seq us.toArray } }) :
    codeAny (model S.X.prog S.X.w) A (.call (.builtin "tuple.__new__") ⟨[.type "tuple", .ref a], []⟩) (wants Q E) s5 := by
  refine codeAny_of_tree ?_
  show wpAny _ A.in1 (do checkBuiltinCall "tuple.__new__" ⟨[.type "tuple", .ref a], []⟩; again (.builtin "tuple.__new__" ⟨[.type "tuple", .ref a], []⟩)) _ _ s5
  refine wpAny_bind (wpAny_of_eq (F.newCall_tuple_1 _) (wpAny_pure ⟨plainId_quiet F.plain_tuple_new _, codeAny_builtin F.entry_tuple_new ?_⟩))
  rw [Around.under_plainId F.plain_tuple_new _]
  have hsub := sub_tuple_self
  have hinit := init_tuple_lookup
  have hmh := madeHere_tuple
  have hTI := M.isg.typeIs (s := s5)
  wp_walk using wpAny_typeOf hTI, gen_collect (tot := tot) (μE := μE) M G hsz e hr4
  intro s' H R us vs I' x' h' rv rds
  show wpAny _ _ (Builtin.Tuple.tupleExact us.toArray >>= fun v => ret v) _ _ _
  unfold Builtin.Tuple.tupleExact
  have hl : us.length = tot.length := by
    have h1 := rds.length
    have h2 := Vals.length rv
    omega
  refine wpAny_bind (wpAny_newObj_type ?_ (by show us.toArray.size ≤ sizeLine; rw [List.size_toArray, hl]; exact hsz))
  exact wpAny_pure (hQ s' H R us vs I' x' h' rv rds)
theorem call_tupG (M : Made S V a gn s5) (G : GO S V A.in1.in1.in1.in1 R4 item g tt fe env) (hsz : tot.length ≤ sizeLine) {μ1 : Mu} {n : Nat} {Q : Value → Shared → Prop} {E : Value → Shared → Prop} (e : tupGo item g tt fe env n 0 μ1 = some (tot, μE)) (hr4 : HR S.X.K R4 V.H4 μ1)
    (hQ : ∀ s' H R us vs, Inv S.X S.pins S.σ H s' → Ext R4 V.H4 R H → HR S.X.K R H μE → Vals vs us → RDs S.X.K R H tot vs → Q (.ref s'.heap.objs.size) { s' with heap := s'.heap.push { cls := .type "tuple", data := .seq us.toArray } }) :
    wpAny (model S.X.prog S.X.w) A (call (.type "tuple") [.ref a]) Q E s5 := by
  refine callType_codes (Q₁ := fun obj s1 => s1.TypeIs obj "tuple" ∧ Q obj s1) F.called_tuple (F.typeCall_tuple_1 _) F.entry_object_init
    (code_tupG (Q := fun obj s1 => s1.TypeIs obj "tuple" ∧ Q obj s1) M G hsz e hr4 fun s' H R us vs I' x' h' rv rds => ⟨⟨_, Heap.get?_push_size _ rfl, rfl⟩, hQ s' H R us vs I' x' h' rv rds⟩) fun obj s1 h1 => ?_
  exact ⟨h1.1, F.args_object_init_2 obj _, object_init_meets F.called_tuple.init.lookup F.called_tuple.made (by decide) S.X.prog S.X.w A.in1 _ s1 ⟨h1.1, rfl, h1.2⟩⟩
end
end CW

namespace CW
open PySem PySem.Spec PyProof.Rows L2

structure GBlkOk (N : List Str) (sc scope : Scope) (own : List (Str × Nat)) : Prop where
  ok : BlkOk N sc scope own
  nc : ∀ y ∈ scope.names, y.2 ≠ .cell
  d0 : scope.names.lookup (".0" : Str) = some NameKind.local
  co : scope.isCoroutine = false
def gblkC (N : List Str) (sc scope : Scope) (own : List (Str × Nat)) : Bool :=
  blkC N sc scope own && (scope.names.all fun y => decide (y.2 ≠ .cell)) && decide (scope.names.lookup (".0" : Str) = some NameKind.local) && !scope.isCoroutine
theorem gblkOk_by {N : List Str} {sc scope : Scope} {own : List (Str × Nat)} (h : gblkC N sc scope own = true) : GBlkOk N sc scope own := by
  unfold gblkC at h
  simp only [Bool.and_eq_true, List.all_eq_true, decide_eq_true_eq, Bool.not_eq_true'] at h
  obtain ⟨⟨⟨h1, h2⟩, h3⟩, h4⟩ := h
  exact ⟨blkOk_by h1, h2, h3, h4⟩
/-- the def that makes the generator -/
structure GenT (K : PySem.W.Frag) (mg : Str → Option Value) (base : Heap) (c : Addr) : Prop where
  tab : ∃ P, FnTab K c P
  blt : BMd mg base

theorem ext_table {R : List Addr} {H : Hp} {P : Addr} {ps ps' : Array Value} (h : H P = some (.tbl ps)) : Ext R H R (upd H P (.tbl ps')) :=
  ⟨⟨[], by simp⟩, fun a xs e => by rw [upd_ne (fun z => by rw [z, h] at e; cases e)]; exact e, fun a o u e => by rw [upd_ne (fun z => by rw [z, h] at e; cases e)]; exact e⟩
theorem hr_table {K : PySem.W.Frag} {R : List Addr} {H : Hp} {μ : Mu} {P : Addr} {ps ps' : Array Value} (hr : HR K R H μ) (h : H P = some (.tbl ps)) (q : TriplesOk ps'.toList) : HR K R (upd H P (.tbl ps')) μ :=
  ⟨hr.len, hr.nd, hr.tb.table q, fun l a c e1 e2 => (hr.cell l a c e1 e2).move (ext_table h) (by
    obtain ⟨o, e, m⟩ := hr.mem (List.mem_of_getElem? e1)
    rw [upd_ne (fun z => by rw [z, h] at e; cases e; exact m)])⟩

section
variable {X : Cx} {elt tg iter : Expr} {ifs : List Expr} {scope : Scope} {gpos : Pos} {own : List (Str × Nat)} {k : Nat} {c : Addr} {fi : Im} {g : Gm} {tt : Tm} {fe : Sm}
abbrev gsOf (X : Cx) (pins : List (Addr × Obj)) (σ : St) (own : List (Str × Nat)) (scope : Scope) (elt tg iter : Expr) (ifs : List Expr) (gpos : Pos) : GS := ⟨X, pins, σ, own.map (·.2), scope, elt, tg, iter, ifs, gpos⟩
/-- the parts of a written generator expression -/
structure GenE (X : Cx) (k : Nat) (c : Addr) (own : List (Str × Nat)) (scope : Scope) (elt tg iter : Expr) (ifs : List Expr) (fi : Im) (g : Gm) (tt : Tm) (fe : Sm) : Prop where
  gt : GenT X.K X.mg X.base c
  room : Room (k + 1) X.A
  calm : X.calm = true
  nd : X.N.Nodup
  hi : DI X tg iter fi
  ok : GBlkOk X.N X.env.scope scope own
  hg : ∀ (s : Shared) (H : Hp) (A' : Around) (C : Addr) (cl : List (Str × Addr)) (code : Value) (fp : List Addr), Room k A' → DGw (gblk X A' s H scope (genEnv scope cl C code builtinsNs X.env) fp) (own.map (·.2)) tg g
  ht : ∀ (s : Shared) (H : Hp) (A' : Around) (C : Addr) (cl : List (Str × Addr)) (code : Value) (fp : List Addr), Room k A' → DTs (gblk X A' s H scope (genEnv scope cl C code builtinsNs X.env) fp) ifs tt
  he : ∀ (s : Shared) (H : Hp) (A' : Around) (C : Addr) (cl : List (Str × Addr)) (code : Value) (fp : List Addr), Room k A' → DE (gblk X A' s H scope (genEnv scope cl C code builtinsNs X.env) fp) elt fe
  code : X.env.code = .ref c
  fold : ∀ x, genFold iter X.env x = pure x
theorem GenE.mk' {own : List (Str × Nat)} (gt : GenT X.K X.mg X.base c) (room : Room (k + 1) X.A) (calm : X.calm = true) (nd : X.N.Nodup) (hi : DI X tg iter fi) (ok : GBlkOk X.N X.env.scope scope own)
    (hg : ∀ (s : Shared) (H : Hp) (A' : Around) (C : Addr) (cl : List (Str × Addr)) (code : Value) (fp : List Addr), Room k A' → DGw (gblk X A' s H scope (genEnv scope cl C code builtinsNs X.env) fp) (own.map (·.2)) tg g)
    (ht : ∀ (s : Shared) (H : Hp) (A' : Around) (C : Addr) (cl : List (Str × Addr)) (code : Value) (fp : List Addr), Room k A' → DTs (gblk X A' s H scope (genEnv scope cl C code builtinsNs X.env) fp) ifs tt)
    (he : ∀ (s : Shared) (H : Hp) (A' : Around) (C : Addr) (cl : List (Str × Addr)) (code : Value) (fp : List Addr), Room k A' → DE (gblk X A' s H scope (genEnv scope cl C code builtinsNs X.env) fp) elt fe)
    (code : X.env.code = .ref c := by kernel_rfl) (fold : ∀ x, genFold iter X.env x = pure x := by intro _; kernel_rfl) : GenE X k c own scope elt tg iter ifs fi g tt fe := ⟨gt, room, calm, nd, hi, ok, hg, ht, he, code, fold⟩
theorem gen_rule (E : GenE X k c own scope elt tg iter ifs fi g tt fe) {pins : List (Addr × Obj)} {σ : St} {H : Hp} {s : Shared} {R : List Addr} {μ μ1 : Mu} {env : Env} {itd : ItD} (I : Inv X pins σ H s) (rl : Rel X.K R H μ env σ) (e : fi env μ = some (itd, μ1)) :
    wpAny (model X.prog X.w) X.A (eval (.GeneratorExp elt [⟨tg, iter, ifs, 0⟩] scope gpos) X.env) (fun u s5 => ∃ V a gn R4, u = .ref a ∧ Made (gsOf X pins σ own scope elt tg iter ifs gpos) V a gn s5 ∧ Ext R H R4 V.H4 ∧ HR X.K R4 V.H4 μ1 ∧
      ∀ A' : Around, A'.handled = X.A.handled → A'.frames = X.A.frames → A'.depth = X.A.depth → A'.units ≤ X.A.units + 8 → A'.guards = X.A.guards → GO (gsOf X pins σ own scope elt tg iter ifs gpos) V A' R4 itd.item g tt fe (wipeE env (own.map (·.2)))) X.xe s := by
  obtain ⟨P, hT⟩ := E.gt.tab
  obtain ⟨ti, pi, qi⟩ := E.hi.ex
  have hw : ti σ H fun J H2 => ∃ R2, Ext R H R2 H2 ∧ HR X.K R2 H2 μ1 ∧ ItOk X.K R2 H2 J itd.item := qi rl e fun J H2 R2 x2 h2 ok2 => ⟨R2, x2, h2, ok2⟩
  refine thn (gen_make (S := gsOf X pins σ own scope elt tg iter ifs gpos) (own := own) (Rq' := fun J H2 => ∃ R2, Ext R H R2 H2 ∧ HR X.K R2 H2 μ1 ∧ ItOk X.K R2 H2 J itd.item) rfl I pi E.ok.ok E.nd E.ok.nc E.ok.d0 E.ok.co E.gt.blt E.code hT E.room E.fold hw fun J H2 ⟨R2, x2, h2, ok2⟩ => ⟨h2.tb, fun ps ps' hp q => ⟨R2, x2.trans (ext_table hp), hr_table h2 hp q, ok2.ext (ext_table hp)⟩⟩) fun u s5 ⟨V, a, gn, hu, M, R4, x4, h4, ok4⟩ => ?_
  refine ⟨V, a, gn, R4, hu, M, x4, h4, fun A' h1 h2 h3 h5 h6 => ?_⟩
  obtain ⟨cl, C, code, hce⟩ := M.env
  have hrm : Room k (A'.over (V.cl (gsOf X pins σ own scope elt tg iter ifs gpos)) []) := by
    have r := E.room
    refine ⟨h1.trans r.hd, ?_, ?_, ?_⟩
    · show A'.depth + 0 + 1 + 3 * k + 5 < _
      have := r.dp
      omega
    · show A'.units + 0 + 3 + 16 * k + 200 < _
      have := r.un
      omega
    · simp only [Around.over]
      rw [h6, r.gd]
      rfl
  have hfr : (A'.over (V.cl (gsOf X pins σ own scope elt tg iter ifs gpos)) []).frames = some (V.cenv :: X.stack) := by
    show pushEnvs [V.cenv] (pushEnvs [] A'.frames) = _
    rw [h2, I.ok.frames]; rfl
  have ce : ∀ A'' : Around, Room k A'' → DGw (gblk X A'' V.s4 V.H4 scope V.cenv V.fp) (own.map (·.2)) tg g ∧ DTs (gblk X A'' V.s4 V.H4 scope V.cenv V.fp) ifs tt ∧ DE (gblk X A'' V.s4 V.H4 scope V.cenv V.fp) elt fe := fun A'' hA => by
    rw [hce]
    exact ⟨E.hg _ _ A'' C cl code _ hA, E.ht _ _ A'' C cl code _ hA, E.he _ _ A'' C cl code _ hA⟩
  obtain ⟨c1, c2, c3⟩ := ce _ hrm
  exact ⟨E.calm, hfr, h1.trans E.room.hd, by rw [h3]; have := E.room.dp; omega, c1, c2, c3, ok4, (rl.en.ext x4).wipe _⟩
end

section
variable {X : Cx} {elt tg iter : Expr} {ifs : List Expr} {scope : Scope} {gpos p pos : Pos} {own : List (Str × Nat)} {k : Nat} {c : Addr} {fi : Im} {g : Gm} {tt : Tm} {fe : Sm}
theorem de_allany (nm : Str) (id ln : String) (stop : Bool) (hnm : (id = "all" ∧ ln = "all.loop" ∧ stop = false) ∨ (id = "any" ∧ ln = "any.loop" ∧ stop = true)) (hv : bootBuiltins nm = some (.builtin id)) (hn : nm ≠ "__name__") (hdb : (nm == ("__debug__" : Str)) = false)
    (hm : X.mg nm = none) (E : GenE X k c own scope elt tg iter ifs fi g tt fe) (hgl : Gl X nm) (hs : starEach [.GeneratorExp elt [⟨tg, iter, ifs, 0⟩] scope gpos] X.env = [(false, eval (.GeneratorExp elt [⟨tg, iter, ifs, 0⟩] scope gpos) X.env)]) :
    DE X (.Call (.Name nm p) [.GeneratorExp elt [⟨tg, iter, ifs, 0⟩] scope gpos] [] pos) (allE stop fi g tt fe (own.map (·.2))) := by
  refine ⟨tSem X.K _, fun pins s σ H Q I ⟨R, μ, env, d, μ', rl, ef, kk⟩ => ?_, adq_sem⟩
  unfold allE at ef
  split at ef
  · cases ef
  · rename_i itd μ1 e1
    split at ef
    · cases ef
    · rename_i b μ2 e2
      cases ef
      refine wpAny_Call_Name_kw (ld_blt I hgl hm hv ?_ hn hdb)
      refine PyProof.Rows.callWith_builtin1 ?_ hs rfl
      rw [hs]
      show wpAny _ _ (spliced ((false, eval (.GeneratorExp elt [⟨tg, iter, ifs, 0⟩] scope gpos) X.env) :: backTo pos [])) _ _ s
      refine Calls.spliced_cons (thn (gen_rule E I rl e1) fun u s5 ⟨V, a, gn, R4, hu, M, x4, h4, G⟩ => ?_)
      subst hu
      refine Calls.spliced_nil ?_
      refine call_allany M (G X.A.in1.in1 rfl rfl rfl (by show X.A.units + 1 + 1 ≤ _; omega) rfl) id ln stop b hnm e2 h4 fun s' ⟨H', R', I', x', h'⟩ => ⟨.bl b, H', I', rfl, kk _ H' R' (x4.trans x') h' (.bl b)⟩
theorem de_allG (hm : X.mg "all" = none) (E : GenE X k c own scope elt tg iter ifs fi g tt fe) (hgl : Gl X "all" := by show _ = _; kernel_rfl)
    (hs : starEach [.GeneratorExp elt [⟨tg, iter, ifs, 0⟩] scope gpos] X.env = [(false, eval (.GeneratorExp elt [⟨tg, iter, ifs, 0⟩] scope gpos) X.env)] := by kernel_rfl) :
    DE X (.Call (.Name "all" p) [.GeneratorExp elt [⟨tg, iter, ifs, 0⟩] scope gpos] [] pos) (allE false fi g tt fe (own.map (·.2))) :=
  de_allany "all" "all" "all.loop" false (.inl ⟨rfl, rfl, rfl⟩) (by decide +kernel) (by decide) (by decide) hm E hgl hs
theorem de_anyG (hm : X.mg "any" = none) (E : GenE X k c own scope elt tg iter ifs fi g tt fe) (hgl : Gl X "any" := by show _ = _; kernel_rfl)
    (hs : starEach [.GeneratorExp elt [⟨tg, iter, ifs, 0⟩] scope gpos] X.env = [(false, eval (.GeneratorExp elt [⟨tg, iter, ifs, 0⟩] scope gpos) X.env)] := by kernel_rfl) :
    DE X (.Call (.Name "any" p) [.GeneratorExp elt [⟨tg, iter, ifs, 0⟩] scope gpos] [] pos) (allE true fi g tt fe (own.map (·.2))) :=
  de_allany "any" "any" "any.loop" true (.inr ⟨rfl, rfl, rfl⟩) (by decide +kernel) (by decide) (by decide) hm E hgl hs
/-- tuple(..) of a generator -/
def tupGE (fi : Im) (g : Gm) (tt : Tm) (fe : Sm) (vs : List Nat) : Sm := fun env μ => match fi env μ with
  | none => none
  | some (it, μ1) => match tupGo it.item g tt fe (wipeE env vs) it.fuel 0 μ1 with
    | none => none
    | some (ys, μ2) => if ys.length ≤ 1000000 then some (.tup ys, μ2) else none
theorem de_tupG (hm : X.mg "tuple" = none) (E : GenE X k c own scope elt tg iter ifs fi g tt fe) (hgl : Gl X "tuple" := by show _ = _; kernel_rfl)
    (hs : starEach [.GeneratorExp elt [⟨tg, iter, ifs, 0⟩] scope gpos] X.env = [(false, eval (.GeneratorExp elt [⟨tg, iter, ifs, 0⟩] scope gpos) X.env)] := by kernel_rfl) :
    DE X (.Call (.Name "tuple" p) [.GeneratorExp elt [⟨tg, iter, ifs, 0⟩] scope gpos] [] pos) (tupGE fi g tt fe (own.map (·.2))) := by
  refine ⟨tSem X.K _, fun pins s σ H Q I ⟨R, μ, env, d, μ', rl, ef, kk⟩ => ?_, adq_sem⟩
  unfold tupGE at ef
  split at ef
  · cases ef
  · rename_i itd μ1 e1
    split at ef
    · cases ef
    · rename_i ys μ2 e2
      split at ef
      · rename_i hz
        cases ef
        refine wpAny_Call_Name_kw (ld_blt I hgl hm (show bootBuiltins "tuple" = some (.type "tuple") by decide +kernel) ?_ (by decide) (by decide))
        refine PyProof.Rows.callWith_type1 ?_ hs rfl
        rw [hs]
        show wpAny _ _ (spliced ((false, eval (.GeneratorExp elt [⟨tg, iter, ifs, 0⟩] scope gpos) X.env) :: backTo pos [])) _ _ s
        refine Calls.spliced_cons (thn (gen_rule E I rl e1) fun u s5 ⟨V, a, gn, R4, hu, M, x4, h4, G⟩ => ?_)
        subst hu
        refine Calls.spliced_nil ?_
        refine call_tupG M (G X.A.in1.in1.in1.in1 rfl rfl rfl (by show X.A.units + 1 + 1 + 1 + 1 ≤ _; omega) rfl) (cap_line hz) e2 h4 fun s' H' R' us vs I' x' h' rv rds => ?_
        have hf : H' s'.heap.objs.size = none := I'.hok.fresh (Nat.le_refl _)
        refine ⟨.ref s'.heap.objs.size, upd H' s'.heap.objs.size (.tup vs), I'.laid (t' := s'.toks) (fun b u e => Heap.get?_push_of_some _ e) (Nat.le_refl _) ⟨by rw [← rds.length]; exact cap_line hz, us, rv, ⟨_, Heap.get?_push_size _ rfl, rfl, _, rfl⟩⟩, rfl, ?_⟩
        exact kk _ _ R' ((x4.trans x').trans (ext_laid hf)) (h'.laid hf) (.tup (SqT.of upd_same) (rds.ext (ext_laid hf)))
      · cases ef
end

theorem fn_okG {P : Program} {w : World} {K : PySem.W.Frag} {mg : Str → Option Value} {base : Heap} {k : Nat} {x qual : Str} {st : Stmt} {fa : Addr} {fd : FuncData} {c : Addr} {N ps : List Str} {fb : Bm} (F : Fun K x qual st fa fd) (hcd : fd.code = .ref c) (S : FnScope N ps (defScope st))
    (hb : ∀ (A : Around) (outer : List PySem.Env) (s : Shared) (H : Hp) (E : XK), Room k (A.deeper (envOfC qual (defScope st) s.heap.objs.size fa (.ref c))) → DSs (cxOf CX0 P w K mg base N qual (defScope st) fa (.ref c) A outer s H E).nox (defBody st) fb) :
    FnOk P w K mg base CX0 (k + 1) fa fd ps (spD K (mkSem ps.length N.length fb)) := by
  obtain ⟨oc, od, kV, doc, pm, an, cdv, ct, osl, rfl, lk, hc⟩ := F.ex
  have hcd : cdv = .ref c := hcd
  subst hcd
  have F' : Fun K x qual st fa (PySem.W.fnOf x qual (defArgs st) (defBody st) (defScope st) .none kV doc pm an (.ref c) ct) := F
  refine fn_of lk hc S (fun vs H Q E ⟨R, μ, ds, r, μ', rd, _, e, _⟩ => ?_) (fun A outer s H vs Q E hr ⟨R, μ, ds, r, μ', rd, hh, e, kk⟩ => ?_)
  · unfold mkSem at e
    split at e
    · rename_i hl
      rw [← rd.length]; exact hl
    · cases e
  · obtain ⟨t, p, q⟩ := (hb A outer s H E hr).ex
    exact ⟨t, p.nox, body_start S q rd hh e kk⟩
end CW

namespace CW
open PySem PySem.Spec PyProof.Rows L2 PySem.W

/-- nothing is tracked but the script and the tables -/
theorem law_callT {P : Program} {w : World} {K : PySem.W.Frag} {mg mb : Str → Option Value} {k : Nat} {fa a : Addr} {fd : FuncData} {x : Str} {sp : Sp} {s₁ : Shared} {vs : List Value} {ns : List Int}
    (KX : K.In s₁.heap) (hns : s₁.heap.Ns mainGlobals mg) (hb : s₁.heap.Ns builtinsNs mb) (hbb : ∀ x : Str, x ≠ "__name__" → mb x = bootBuiltins x) (hlim : s₁.heap.NoLimit) (hg : s₁.gens = #[])
    (ha : s₁.heap.get? a = some { cls := .type "list", data := .seq vs.toArray }) (hi : IntsAre vs ns) (hl : ns.length ≤ sizeLine) (hr : Room k callerA)
    (htab : ∀ c P, FnTab K c P → s₁.heap.TableAt c P #[]) (hcl : kb_classed K = true) (hB : BMd mg s₁.heap)
    (F : ∀ base : Heap, K.In base → base.Ns mainGlobals mg → BMd mg base → FnOk P w K mg base CX0 k fa fd [x] sp) (hbind : ∀ (s : Shared) (u : Value), BindsTo s fd ⟨[u], []⟩ [(x, u)])
    (hsp : ∀ H : Hp, (∀ b xs, H b ≠ some (.lst xs)) → TbOk K H → SqL K H a (ns.map V.int) → sp [.ref a] H (fun v _ => v = .bl true) fun _ _ _ => False) :
    codeAny (model P w) callerA (.call (.ref fa) ⟨[.ref a], []⟩) (fun r s' => r = .ok (.ret (.bool true)) ∧ OldK s₁.heap s'.heap ∧ s'.os = s₁.os ∧ AllBare s'.gens) s₁ := by
  have rv := vals_ints hi
  have lenV := hi.length
  -- a table is one
  have tobj : ∀ b, (∃ c, FnTab K c b) → ∃ c, s₁.heap.TableAt c b #[] := fun b ⟨c, t⟩ => ⟨c, htab c b t⟩
  have na : ¬ ∃ c, FnTab K c a := fun h => by
    obtain ⟨c, _, t⟩ := tobj a h
    rw [ha] at t; cases t
  have core : ∀ H : Hp, (∀ b, H b = none ∨ (b = a ∧ ∃ o, H b = some (.frz o (.lst (ns.map V.int)))) ∨ (H b = some (.tbl #[]) ∧ ∃ c, s₁.heap.TableAt c b #[])) → TbOk K H → SqL K H a (ns.map V.int) → HOk P w H s₁.heap → (H a ≠ none → K.lookup a = none) →
      codeAny (model P w) callerA (.call (.ref fa) ⟨[.ref a], []⟩) (fun r s' => r = .ok (.ret (.bool true)) ∧ OldK s₁.heap s'.heap ∧ s'.os = s₁.os ∧ AllBare s'.gens) s₁ := by
    intro H hO hT hS hok hK
    have obj_of : ∀ {b : Addr} {o : Obj}, s₁.heap.get? b = some o → o.cls ≠ .none → o.cls ≠ .type "list" → H b = none := fun {b o} e h1 h2 => by
      rcases hO b with z | ⟨rfl, _⟩ | ⟨_, c, _, t⟩
      · exact z
      · rw [ha] at e; cases e; exact (h2 rfl).elim
      · rw [t] at e; cases e; exact (h1 rfl).elim
    have dict_of : ∀ {b : Addr} {o : Obj} {es : Array DictEntry} {ep : Nat}, s₁.heap.get? b = some o → o.data = .dict es ep → H b = none := fun {b o es ep} e d => by
      rcases hO b with z | ⟨rfl, _⟩ | ⟨_, c, _, t⟩
      · exact z
      · rw [ha] at e; cases e; cases d
      · rw [t] at e; cases e; cases d
    have nsK : ∀ {b : Addr} {m : Str → Option Value}, s₁.heap.Ns b m → (hidT s₁.heap H).Ns b m := fun {b m} ⟨o, es, ep, e, d, r⟩ => ⟨o, es, ep, hidT_get e (dict_of e d), d, r⟩
    have hKb : K.In (hidT s₁.heap H) := fun b o e => hidT_get (KX b o e) (by
      rcases hO b with z | ⟨rfl, q, hq⟩ | ⟨q, c, _, t⟩
      · exact z
      · rw [hK (by rw [hq]; simp)] at e; cases e
      · exfalso
        have e2 := KX b o e
        have q2 := List.all_eq_true.mp hcl (b, o) (kb_mem e)
        simp only [Bool.or_eq_true, decide_eq_true_eq, beq_iff_eq] at q2
        rcases q2 with (y | y) | y
        · rw [t] at e2; cases e2; exact y rfl
        · obtain ⟨mc, ⟨o', es, ep, e', d', _⟩, _⟩ := hlim
          rw [← y, t] at e'; cases e'; cases d'
        · obtain ⟨o', es, ep, e', d', _⟩ := hns
          rw [← y, t] at e'; cases e'; cases d')
    have hM : Mod K mg (hidT s₁.heap H) := ⟨hKb, nsK hns, ⟨mb, nsK hb, hbb⟩, let ⟨mc, h1, h2⟩ := hlim; ⟨mc, nsK h1, h2⟩⟩
    have hBb : BMd mg (hidT s₁.heap H) := by
      obtain ⟨bm, o, b1, b2, b3, b4, b5⟩ := hB.ex
      exact ⟨bm, o, b1, b2, hidT_get b3 (obj_of b3 (by rw [b4]; simp) (by rw [b4]; decide)), b4, b5⟩
    have e0 : Env0 P w K mg (hidT s₁.heap H) callerA [] s₁ H := ⟨rfl, hM, fun b o e => of_hidT e, Nat.le_of_eq (hidT_size _ _), trivial, fun b hb => absurd (show b ∈ ([] : List Addr) from hb) (by simp), hok, .of_eq hg⟩
    have noL : ∀ b xs, H b ≠ some (.lst xs) := fun b xs e => by
      rcases hO b with z | ⟨_, q, hq⟩ | ⟨q, _⟩
      · rw [z] at e; cases e
      · rw [hq] at e; cases e
      · rw [q] at e; cases e
    refine codeAny_mono ((F _ hKb (nsK hns) hBb).run callerA [] s₁ H ⟨[.ref a], []⟩ [.ref a] [.ref a] _ _ hr e0 (hbind s₁ (.ref a)) (.cons rfl .nil) (hsp H noL hT hS)) fun r s' h => ?_
    cases r with
    | error e => exact False.elim h
    | ok fl =>
      cases fl with
      | next => exact False.elim h
      | brk => exact False.elim h
      | cont => exact False.elim h
      | ret u =>
        obtain ⟨v, H', os, bare, un, hok', r', q⟩ := h
        have q' : v = .bl true := q
        subst q'
        obtain rfl : u = Value.bool true := r'
        have nofr : ∀ b : Addr, b ∉ frs [] := fun b z => absurd (show b ∈ ([] : List Addr) from z) (by simp)
        refine ⟨rfl, ⟨fun b o e => ?_, fun b o e => un.there b o e (by simp)⟩, os, bare⟩
        rcases hO b with z | ⟨_, q, hq⟩ | ⟨q, c, t⟩
        · exact .inl (un.keep b o e z (nofr b) (by simp))
        · have z2 := un.frzs b _ _ hq
          obtain ⟨e1, _⟩ := hok b _ hq
          obtain ⟨e2, _⟩ := hok' b _ z2
          rw [e] at e1; cases e1
          exact .inl e2
        · obtain ⟨more, hm⟩ := un.tbls b _ q
          have e2 := hok' b _ hm
          have e2 : s'.heap.get? b = some { cls := .none, data := .fields (#[] ++ more) } := e2
          have e3 := t.2
          rw [e] at e3; cases e3
          exact .inr (.inl ⟨t.isCodeTable, rfl, #[], more, rfl, e2⟩)
  classical
  cases hk : K.lookup a with
  | some o =>
    have e := KX a o hk
    rw [ha] at e
    cases e
    refine core (fun b => if ∃ c, FnTab K c b then some (.tbl #[]) else none) (fun b => ?_) (fun c P t => ⟨#[], if_pos ⟨c, t⟩, trivial⟩) (.inr ⟨_, vs.toArray, _, hk, rfl, rfl, rfl, by rw [List.size_toArray, lenV]; exact hl, by simpa using rv⟩) (fun b u z => ?_) fun z => absurd (if_neg na) z
    · by_cases hb : ∃ c, FnTab K c b
      · exact .inr (.inr ⟨if_pos hb, tobj b hb⟩)
      · exact .inl (if_neg hb)
    · by_cases hb : ∃ c, FnTab K c b
      · have z' := (if_pos hb).symm.trans z
        cases z'
        exact (tobj b hb).choose_spec.2
      · have z' := (if_neg hb).symm.trans z
        cases z'
  | none =>
    refine core (fun b => if b = a then some (.frz { cls := .type "list", data := .seq vs.toArray } (.lst (ns.map V.int))) else if ∃ c, FnTab K c b then some (.tbl #[]) else none) (fun b => ?_) (fun c P t => ⟨#[], ?_, trivial⟩) (.inl (.inr ⟨{ cls := .type "list", data := .seq vs.toArray }, if_pos rfl⟩)) (fun b u z => ?_) fun _ => hk
    · by_cases hb : b = a
      · exact .inr (.inl ⟨hb, _, if_pos hb⟩)
      · by_cases hb2 : ∃ c, FnTab K c b
        · exact .inr (.inr ⟨(if_neg hb).trans (if_pos hb2), tobj b hb2⟩)
        · exact .inl ((if_neg hb).trans (if_neg hb2))
    · have hP : P ≠ a := fun z => na (z ▸ ⟨c, t⟩)
      exact (if_neg hP).trans (if_pos ⟨c, t⟩)
    · by_cases hb : b = a
      · have z' := (if_pos hb).symm.trans z
        cases z'
        subst hb
        exact ⟨ha, by rw [List.length_map]; exact hl, vs, _, rv, ha⟩
      · have z := (if_neg hb).symm.trans z
        by_cases hb2 : ∃ c, FnTab K c b
        · have z' := (if_pos hb2).symm.trans z
          cases z'
          exact (tobj b hb2).choose_spec.2
        · have z' := (if_neg hb2).symm.trans z
          cases z'
def kbk (p : Addr × Obj) : Bool := decide (p.2.cls ≠ .none) || p.1 == cStatics || p.1 == mainGlobals
def kbf (K : PySem.W.Frag) : PySem.W.Frag := K.filter kbk
def ascK : List Nat → Bool
  | [] => true
  | a :: r => (match r with
    | [] => true
    | b :: _ => Nat.blt a b) && ascK r
theorem ascK_lt : ∀ {l : List Nat} {a : Nat}, ascK (a :: l) = true → ∀ b ∈ l, a < b
  | [], _, _, b, h => nomatch h
  | c :: r, a, e, b, h => by
    unfold ascK at e
    obtain ⟨e1, e2⟩ := Bool.and_eq_true_iff.mp e
    have h1 : a < c := Nat.blt_eq.mp e1
    rcases List.mem_cons.mp h with z | z
    · subst z; exact h1
    · exact Nat.lt_trans h1 (ascK_lt e2 b z)
theorem ascK_tl {l : List Nat} {a : Nat} (e : ascK (a :: l) = true) : ascK l = true := by
  unfold ascK at e
  exact (Bool.and_eq_true_iff.mp e).2
theorem kbf_lookup : ∀ {K : PySem.W.Frag}, ascK (K.map (·.1)) = true → ∀ {a : Addr} {o : Obj}, (kbf K).lookup a = some o → K.lookup a = some o
  | [], _, _, _, e => by cases e
  | (b, x) :: r, hs, a, o, e => by
    unfold kbf at e
    rw [List.filter_cons] at e
    rw [List.lookup_cons]
    cases h : a == b with
    | true =>
      have hab : a = b := by simpa using h
      subst hab
      split at e
      · rw [List.lookup_cons, h] at e; exact e
      · exfalso
        have hm : (a, o) ∈ r.filter kbk := by
          have := List.lookup_eq_some_iff.mp e
          obtain ⟨l1, l2, e1, _⟩ := this
          rw [e1]; simp
        have hm2 := (List.mem_filter.mp hm).1
        exact absurd (ascK_lt hs a (List.mem_map.mpr ⟨_, hm2, rfl⟩)) (Nat.lt_irrefl a)
    | false =>
      have e' : (kbf r).lookup a = some o := by
        split at e
        · rw [List.lookup_cons, h] at e; exact e
        · exact e
      exact kbf_lookup (ascK_tl hs) e'
theorem lookup_kbf : ∀ {K : PySem.W.Frag} {a : Addr} {o : Obj}, K.lookup a = some o → kbk (a, o) = true → (kbf K).lookup a = some o
  | [], _, _, e, _ => by cases e
  | (b, x) :: r, a, o, e, hk => by
    unfold kbf
    rw [List.filter_cons]
    rw [List.lookup_cons] at e
    cases h : a == b with
    | true =>
      rw [h] at e
      cases e
      have hab : a = b := by simpa using h
      subst hab
      rw [if_pos hk, List.lookup_cons, h]
    | false =>
      rw [h] at e
      have ih : (kbf r).lookup a = some o := lookup_kbf e hk
      split
      · rw [List.lookup_cons, h]; exact ih
      · exact ih
theorem kbf_main : ∀ {K : PySem.W.Frag}, (kbf K).lookup mainGlobals = K.lookup mainGlobals
  | [] => rfl
  | (b, x) :: r => by
    have ih : (kbf r).lookup mainGlobals = r.lookup mainGlobals := kbf_main
    unfold kbf
    rw [List.filter_cons, List.lookup_cons]
    cases h : mainGlobals == b with
    | true =>
      have hab : mainGlobals = b := by simpa using h
      have hk : kbk (b, x) = true := by subst hab; unfold kbk; simp
      rw [if_pos hk, List.lookup_cons, h]
    | false =>
      split
      · rw [List.lookup_cons, h]; exact ih
      · exact ih
theorem kbf_ns {K : PySem.W.Frag} {x : Str} {r : Option (Option Value)} (h : PySem.W.nsIn K mainGlobals x = r) : PySem.W.nsIn (kbf K) mainGlobals x = r := by
  unfold PySem.W.nsIn at h ⊢
  rw [kbf_main]; exact h
theorem kbf_classed {K : PySem.W.Frag} : kb_classed (kbf K) = true := by
  unfold kb_classed kbf
  rw [List.all_filter]
  refine List.all_eq_true.mpr fun p _ => ?_
  unfold kbk
  cases (decide (p.2.cls ≠ .none) || p.1 == cStatics || p.1 == mainGlobals) <;> rfl
theorem kbf_in {K : PySem.W.Frag} {h : Heap} (hs : ascK (K.map (·.1)) = true) (X : K.In h) : (kbf K).In h := fun a o e => X a o (kbf_lookup hs e)
/-- the table of each def's code is there, and empty -/
def tabsOf (K : PySem.W.Frag) : Bool := K.all fun p => match p.2.data with
  | .func fd => match fd.code with
    | .ref c => match K.lookup c with
      | some o => match o.data with
        | .fields vs => match tabOf vs with
          | some P => match K.lookup P with
            | some ⟨.none, none, .fields ws, sl⟩ => ws.isEmpty && sl.isEmpty
            | _ => false
          | none => true
        | _ => true
      | none => true
    | _ => true
  | _ => true
theorem fnTab_at {h : Heap} {K : PySem.W.Frag} (hs : ascK (K.map (·.1)) = true) (KX : K.In h) (ht : tabsOf K = true) {c P : Addr} (t : FnTab (kbf K) c P) : h.TableAt c P #[] := by
  obtain ⟨f, oc, od, fd, sl, od2, vs, sl2, t2, t3, t4, t5⟩ := t.ex
  have l1 := kbf_lookup hs t2
  have l2 := kbf_lookup hs t4
  have hm : (f, (⟨oc, od, .func fd, sl⟩ : Obj)) ∈ K := by
    obtain ⟨a1, a2, e1, _⟩ := List.lookup_eq_some_iff.mp l1
    rw [e1]; simp
  have q := List.all_eq_true.mp ht _ hm
  simp only at q
  rw [t3] at q
  simp only at q
  rw [l2] at q
  simp only at q
  rw [t5] at q
  simp only at q
  split at q
  · rename_i ws sl3 l3
    obtain ⟨q1, q2⟩ := Bool.and_eq_true_iff.mp q
    have e1 : ws = #[] := by simpa using q1
    have e2 : sl3 = #[] := by simpa using q2
    subst e1 e2
    refine ⟨⟨_, vs, KX _ _ l2, rfl, rfl, ?_⟩, KX _ _ l3⟩
    unfold tabOf at t5
    split at t5
    · rename_i P2 _ _ _ _ _ _ _ e11 _ _ _ _
      cases t5
      rw [Array.getD_eq_getD_getElem?] at e11
      cases q : vs[11]? with
      | none => rw [q] at e11; cases e11
      | some v => rw [q] at e11; exact congrArg some e11
    · cases t5
  · cases q
theorem walkT {l : PySem.W.OpenLaw} {n k : Nat} {q : Program} {loose : List Str} {XP : (Str → Option Value) → Heap → Prop} {YP : World → Heap → Prop} {d : DefRec} {K : Params → PySem.W.Frag} {sp : World → Sp} {x : Str}
    (hn : l.most = some n) (hn2 : n ≤ sizeLine) (hdf : d.params.defaults = []) (hr : Room k callerA) (hY : ∀ (w : World) (h : Heap), YP w h → (K w.params).In h)
    (hA : ∀ w : World, ascK ((K w.params).map (·.1)) = true) (hC : ∀ w : World, tabsOf (K w.params) = true)
    (F : ∀ (w : World) (mg : Str → Option Value) (fa : Addr) (h : Heap), (kbf (K w.params)).In h → h.Ns mainGlobals mg → mg d.name = some (.ref fa) →
      ∃ fd : FuncData, (∀ (s : Shared) (u : Value), BindsTo s fd ⟨[u], []⟩ [(x, u)]) ∧ ∀ base : Heap, (kbf (K w.params)).In base → base.Ns mainGlobals mg → BMd mg base → FnOk l.prog w (kbf (K w.params)) mg base CX0 k fa fd [x] (sp w))
    (hsp : ∀ (w : World) (H : Hp) (a : Addr) (ns : List Int), ns.length ≤ n → (∀ b xs, H b ≠ some (.lst xs)) → TbOk (kbf (K w.params)) H → SqL (kbf (K w.params)) H a (ns.map V.int) → sp w [.ref a] H (fun v _ => v = .bl true) fun _ _ _ => False) :
    PySem.W.WalkO q loose XP YP l.row.toRowW d [] (fun f vs => PySem.call f vs) := by
  refine Att.attach_call hn hdf fun w s₀ s₁ mg mb fa o pm cd doc a vs ns G Y ho hd hcd hmg hobj hints hlen hg => ?_
  have KX0 := hY w _ Y
  have KX := kbf_in (hA w) KX0
  obtain ⟨fd, hb, hF⟩ := F w mg fa _ KX G.T.g hmg
  have hB : BMd mg s₁.heap := by
    obtain ⟨bm, ob, B⟩ := bmod_of_top G.T
    obtain ⟨_, b1, b2, b3, b4, b5, b6⟩ := B
    exact ⟨bm, ob, b1, b2, b3, b4, b5, b6⟩
  exact law_callT KX G.T.g G.T.b G.T.builtins G.T.nolimit hg hobj hints (Nat.le_trans hlen hn2) hr (fun c P t => fnTab_at (hA w) KX0 (hC w) t) kbf_classed hB hF hb fun H h1 h2 h3 => hsp w H a ns hlen h1 h2 h3
end CW

namespace CW
open PySem PySem.Spec PyProof.Rows L2

theorem callR_or {X : Cx} {f : Value} {r1 r2 : List V → Hp → VK → Prop} (h1 : CallR X f r1) (h2 : CallR X f r2) : CallR X f (fun xs H Q => r1 xs H Q ∨ r2 xs H Q) := fun pins s σ H xs us Q I r h => by
  rcases h with h | h
  · exact h1 pins s σ H xs us Q I r h
  · exact h2 pins s σ H xs us Q I r h
/-- whole numbers alone -/
def intsD : List D → Option (List Int)
  | [] => some []
  | .int i :: r => match intsD r with
    | some ns => some (i :: ns)
    | none => none
  | _ :: _ => none
theorem intsD_eq : ∀ {xs : List D} {ns : List Int}, intsD xs = some ns → xs = ns.map D.int
  | [], _, e => by cases e; rfl
  | .int i :: r, ns, e => by
    unfold intsD at e
    split at e
    · rename_i ms e1
      cases e
      rw [List.map_cons, ← intsD_eq e1]
    · cases e
  | .non :: _, _, e => by cases e
  | .bl _ :: _, _, e => by cases e
  | .str _ :: _, _, e => by cases e
  | .tup _ :: _, _, e => by cases e
  | .fl _ :: _, _, e => by cases e
  | .ref _ :: _, _, e => by cases e
theorem rds_ints {K : PySem.W.Frag} {R : List Addr} {H : Hp} : ∀ {ns : List Int} {vs : List V}, RDs K R H (ns.map D.int) vs → vs = ns.map V.int
  | [], _, .nil => rfl
  | _ :: _, _, .cons r t => by
    cases r
    rw [List.map_cons, ← rds_ints t]
def sortZ (ns : List Int) : List Int := ns.mergeSort (fun a b => decide (a ≤ b))
theorem sortZ_eq {ns ms : List Int} (h1 : ms.Perm ns) (h2 : ms.Pairwise (· ≤ ·)) : ms = sortZ ns := by
  have p : (sortZ ns).Perm ns := List.mergeSort_perm ns _
  have s : (sortZ ns).Pairwise fun a b => decide (a ≤ b) = true := List.pairwise_mergeSort (fun a b c h1 h2 => by simp at h1 h2 ⊢; omega) (fun a b => by simp; omega) ns
  refine List.Perm.eq_of_pairwise (le := fun a b => a ≤ b) (fun a b _ _ h1 h2 => Int.le_antisymm h1 h2) h2 (s.imp fun h => by simpa using h) (h1.trans p.symm)
def srtB : List D → Mu → Option (D × Mu) := fun ds μ => match ds with
  | [.ref l] => match μ[l]? with
    | some (.lst xs) => if xs.length < 64 then (if cmpAll xs = true then some (.ref μ.length, μ ++ [.lst (srtD xs)]) else match intsD xs with
        | some ns => some (.ref μ.length, μ ++ [.lst ((sortZ ns).map D.int)])
        | none => none) else none
    | _ => none
  | [.tup xs] => match intsD xs with
    | some ns => if ns.length < 64 then some (.ref μ.length, μ ++ [.lst ((sortZ ns).map D.int)]) else none
    | none => none
  | _ => none
theorem callA_sorted {K : PySem.W.Frag} : CallA K (fun xs H Q => rSrt K xs H Q ∨ rSorted K xs H Q ∨ rSortT K xs H Q) srtB := fun {R H μ ds vs d μ'} h r e Q k => by
  unfold srtB at e
  split at e
  · rename_i l
    split at e
    · rename_i xs el
      split at e
      · rename_i h64
        cases r with
        | cons r1 rr =>
          cases rr
          cases r1 with
          | ref hl =>
            obtain ⟨ws, g1, g2⟩ := h.cellAt el hl
            split at e
            · rename_i hc
              cases e
              refine .inl ⟨_, ws, R, xs, rfl, SqL.of g1, g2, hc, h64, fun p vs' hp rd => ?_⟩
              exact k _ _ _ (ext_new hp) (h.new hp ⟨vs', upd_same, rd.ext (ext_new hp)⟩) (.ref (rd_new h))
            · split at e
              · rename_i ns en
                cases e
                have hx := intsD_eq en
                subst hx
                have hw := rds_ints g2
                subst hw
                refine .inr (.inl ⟨_, ns, rfl, SqL.of g1, by rw [List.length_map] at h64; exact h64, fun ms p h1 h2 hp => ?_⟩)
                rw [sortZ_eq h1 h2]
                exact k _ _ _ (ext_new hp) (h.new hp ⟨_, upd_same, RDs.ints _⟩) (.ref (rd_new h))
              · cases e
      · cases e
    · cases e
  · rename_i xs
    split at e
    · rename_i ns en
      split at e
      · rename_i h64
        cases e
        have hx := intsD_eq en
        subst hx
        cases r with
        | cons r1 rr =>
          cases rr
          cases r1 with
          | tup sq rs =>
            have hw := rds_ints rs
            subst hw
            refine .inr (.inr ⟨_, ns, rfl, sq, h64, fun ms p h1 h2 hp => ?_⟩)
            rw [sortZ_eq h1 h2]
            exact k _ _ _ (ext_new hp) (h.new hp ⟨_, upd_same, RDs.ints _⟩) (.ref (rd_new h))
      · cases e
    · cases e
  · cases e
theorem de_sorted {X : Cx} {e : Expr} {g : Am} {p pos : Pos} (hm : X.mg "sorted" = none) (h : DL X [e] g) (hg : Gl X "sorted" := by show _ = _; kernel_rfl)
    (he : starEach [e] X.env = [(false, eval e X.env)] := by kernel_rfl) : DE X (.Call (.Name "sorted" p) [e] [] pos) (callE srtB g) :=
  de_callB (callR_or cr_srt (callR_or cr_sorted cr_sortT)) callA_sorted hm h (hg := hg) (he := he)

def rdK (K : PySem.W.Frag) : Nat → Value → Option D
  | 0, _ => none
  | n + 1, v => match v with
    | .none => some .non
    | .bool b => some (.bl b)
    | .int i _ => some (.int i)
    | .str x _ => some (.str x)
    | .ref a => match K.lookup a with
      | some ⟨.type t, none, .seq its _, _⟩ => if t = "tuple" then (if its.size ≤ 1000 then match its.toList.mapM (rdK K n) with
          | some ds => some (.tup ds)
          | none => none else none) else none
      | some ⟨_, _, .func fd, _⟩ => match PySem.W.nsIn K mainGlobals fd.name with
        | some (some (.ref b)) => if a = b then some (.fn fd.name) else none
        | _ => none
      | _ => none
    | _ => none
theorem rdK_all {K : PySem.W.Frag} {f : Value → Option D} (hf : ∀ v d, f v = some d → ∃ x, RelV x v ∧ ∀ R H, RD K R H d x) : ∀ {us : List Value} {ds : List D}, us.mapM f = some ds → ∃ vs, Vals vs us ∧ ∀ R H, RDs K R H ds vs
  | [], ds, e => by
    rw [List.mapM_nil] at e
    cases e
    exact ⟨[], .nil, fun _ _ => .nil⟩
  | u :: us, ds, e => by
    rw [List.mapM_cons] at e
    cases e1 : f u with
    | none => rw [e1] at e; cases e
    | some d =>
      rw [e1] at e
      cases e2 : us.mapM f with
      | none =>
        have e : (us.mapM f).bind (fun bs => some (d :: bs)) = some ds := e
        rw [e2] at e; cases e
      | some es =>
        have e : (us.mapM f).bind (fun bs => some (d :: bs)) = some ds := e
        rw [e2] at e
        cases e
        obtain ⟨x, h1, h2⟩ := hf u d e1
        obtain ⟨vs, h3, h4⟩ := rdK_all hf e2
        exact ⟨x :: vs, .cons h1 h3, fun R H => .cons (h2 R H) (h4 R H)⟩
theorem rdK_ok {K : PySem.W.Frag} : ∀ (n : Nat) (v : Value) (d : D), rdK K n v = some d → ∃ x, RelV x v ∧ ∀ R H, RD K R H d x
  | 0, v, d, e => by cases e
  | n + 1, v, d, e => by
    unfold rdK at e
    split at e
    · cases e; exact ⟨.non, rfl, fun _ _ => .non⟩
    · cases e; exact ⟨.bl _, rfl, fun _ _ => .bl _⟩
    · cases e; exact ⟨.int _, ⟨_, rfl⟩, fun _ _ => .int _⟩
    · cases e; exact ⟨.str _, ⟨_, rfl⟩, fun _ _ => .str _⟩
    · rename_i a
      split at e
      · rename_i t its nn sl lk
        split at e
        · rename_i ht
          subst ht
          split at e
          · rename_i hz
            split at e
            · rename_i ds em
              cases e
              obtain ⟨vs, h1, h2⟩ := rdK_all (rdK_ok n) em
              exact ⟨.ref a, rfl, fun R H => .tup (.inr ⟨_, its, nn, lk, rfl, rfl, Nat.le_trans hz (by decide), h1⟩) (h2 R H)⟩
            · cases e
          · cases e
        · cases e
      · rename_i fd sl lk
        split at e
        · rename_i b hb
          split at e
          · rename_i hab
            cases e
            subst hab
            exact ⟨.ref a, rfl, fun R H => .fn hb⟩
          · cases e
        · cases e
      · cases e
    · cases e
/-- a constant of the module: what it is -/
structure GlD (K : PySem.W.Frag) (mg : Str → Option Value) (x : Str) (d : D) : Prop where
  ex : ∃ u v, mg x = some u ∧ RelV v u ∧ ∀ R H, RD K R H d v
theorem gld_of {K : PySem.W.Frag} {h : Heap} {mg : Str → Option Value} {x : Str} {u : Value} {d : D} (X : K.In h) (G : h.Ns mainGlobals mg) (a : PySem.W.nsIn K mainGlobals x = some (some u)) (b : rdK K 5 u = some d) : GlD K mg x d := by
  obtain ⟨v, h1, h2⟩ := rdK_ok 5 u d b
  exact ⟨u, v, PySem.W.mg_of X G a, h1, h2⟩
theorem de_cst {X : Cx} {x : Str} {d : D} {pos : Pos} (h : GlD X.K X.mg x d) (hg : Gl X x := by show _ = _; kernel_rfl) (hd : (x == ("__debug__" : Str)) = false := by kernel_rfl) : DE X (.Name x pos) (cD d) := by
  obtain ⟨u, v, h1, h2, h3⟩ := h.ex
  exact de_glob h1 h2 h3 hg hd

def intB : List D → Mu → Option (D × Mu) := fun ds μ => match ds with
  | [.int i] => some (.int i, μ)
  | [.bl b] => some (.int (if b then 1 else 0), μ)
  | _ => none
theorem callA_int {K : PySem.W.Frag} : CallA K (fun xs H Q => (∃ i, xs = [V.int i] ∧ Q (.int i) H) ∨ ∃ k, xs = [V.bl k] ∧ Q (.int (if k then 1 else 0)) H) intB := fun {R H μ ds vs d μ'} h r e Q k => by
  unfold intB at e
  split at e
  · cases e
    cases r with
    | cons r1 rr => cases rr; cases r1; exact .inl ⟨_, rfl, k _ H R .refl h (.int _)⟩
  · cases e
    cases r with
    | cons r1 rr => cases rr; cases r1; exact .inr ⟨_, rfl, k _ H R .refl h (.int _)⟩
  · cases e
theorem de_int1 {X : Cx} {e : Expr} {g : Am} {p pos : Pos} (hm : X.mg "int" = none) (h : DL X [e] g) (hg : Gl X "int" := by show _ = _; kernel_rfl) (he : starEach [e] X.env = [(false, eval e X.env)] := by kernel_rfl) : DE X (.Call (.Name "int" p) [e] [] pos) (callE intB g) :=
  de_callTy call_int1 callA_int hm h (hg := hg) (he := he)
end CW

namespace CW
open PySem PySem.Spec PyProof.Rows L2 PySem.W

def kdK (K : PySem.W.Frag) : List DictEntry → Option (List (Str × D))
  | [] => some []
  | e :: r => match e.key, rdK K 5 e.val, kdK K r with
    | .str x _, some d, some l => some ((x, d) :: l)
    | _, _, _ => none
structure GlK (K : PySem.W.Frag) (mg : Str → Option Value) (P : Params) (x : Str) (kvs : List (Str × D)) : Prop where
  ex : ∃ a es n, mg x = some (.ref a) ∧ K.lookup a = some ⟨.type "dict", none, .dict es n, #[]⟩ ∧ (a == sysModules) = false ∧ KeysLit P es.toList ∧ kdK K es.toList = some kvs
theorem kd_find {K : PySem.W.Frag} {k : Str} : ∀ {l : List DictEntry} {kvs : List (Str × D)}, kdK K l = some kvs → match kvs.lookup k with
    | some d => ∃ u, (l.find? fun e => Value.isStrOf k e.key).map (·.val) = some u ∧ rdK K 5 u = some d
    | none => (l.find? fun e => Value.isStrOf k e.key).map (·.val) = none
  | [], kvs, e => by cases e; rfl
  | e :: r, kvs, h => by
    unfold kdK at h
    split at h
    · rename_i x t d l e1 e2 e3
      cases h
      have ih := kd_find (k := k) e3
      rw [List.lookup_cons, List.find?_cons]
      have hk : Value.isStrOf k e.key = (x == k) := by rw [e1]; rfl
      rw [hk]
      by_cases hx : x = k
      · subst hx
        simp only [beq_self_eq_true]
        exact ⟨e.val, rfl, e2⟩
      · have n1 : (x == k) = false := by simpa using hx
        have n2 : (k == x) = false := by simpa using fun z => hx z.symm
        rw [n1, n2]
        exact ih
    · cases h
theorem find_eq (es : Array DictEntry) (k : Str) : findBy Value.isStrOf es k = (es.toList.find? fun e => Value.isStrOf k e.key).map (·.val) := by
  obtain ⟨l⟩ := es
  unfold findBy
  simp
def rKin (neg : Bool) (K : PySem.W.Frag) (P : Params) : R2 := fun x y H Q => ∃ k a es n, x = .str k ∧ y = .ref a ∧ K.lookup a = some ⟨.type "dict", none, .dict es n, #[]⟩ ∧ (a == sysModules) = false ∧ KeysLit P es.toList ∧ Q (.bl (neg ^^ (findBy Value.isStrOf es k).isSome)) H
def rKget (K : PySem.W.Frag) (P : Params) : R2 := fun x y H Q => ∃ a k es n u v, x = .ref a ∧ y = .str k ∧ K.lookup a = some ⟨.type "dict", none, .dict es n, #[]⟩ ∧ KeysLit P es.toList ∧ findBy Value.isStrOf es k = some u ∧ RelV v u ∧ Q v H
section
variable {X : Cx}
theorem op_kin : OpR X (compareOp .In) (rKin false X.K X.w.params) := by
  intro pins s σ H x y vx vy Q I rx ry h
  obtain ⟨k, a, es, n, rfl, rfl, hl, lo, hk, q⟩ := h
  obtain ⟨t, rfl⟩ := rx
  obtain rfl : vy = Value.ref a := ry
  refine wpAny_in_of (strKind_is X.prog X.w k t) lo (mapOf_K (prog := X.prog) (w := X.w) I.kIn hl hk) ?_
  exact ⟨.bl _, H, I.tok _, rfl, by simpa using q⟩
theorem ix_kd : IxR X (rKget X.K X.w.params) := by
  intro value slice pins s σ H x y v u Q I rx ry h hs
  obtain ⟨a, k, es, n, uu, vv, rfl, rfl, hl, hk, hf, hr, q⟩ := h
  obtain rfl : v = Value.ref a := rx
  obtain ⟨t, rfl⟩ := ry
  have hm := mapOf_K (prog := X.prog) (w := X.w) I.kIn hl hk
  exact tail_any hm.typeIs slot_dict_getitem.lookup (wpAny_getItem_of (strKind_is X.prog X.w k t) hm hf ⟨vv, H, I.tok _, hr, q⟩) hs
def kinD (neg : Bool) (kvs : List (Str × D)) : D → Mu → Option (D × Mu) := fun d μ => match d with
  | .str k => some (.bl (neg ^^ (kvs.lookup k).isSome), μ)
  | _ => none
def kgetD (kvs : List (Str × D)) : D → Mu → Option (D × Mu) := fun d μ => match d with
  | .str k => match kvs.lookup k with
    | some d => some (d, μ)
    | none => none
  | _ => none
theorem adq_kin {K : PySem.W.Frag} {mg : Str → Option Value} {P : Params} {x : Str} {kvs : List (Str × D)} {t : TE} {f : Sm} (q : Adq K t f) {a : Addr} {es : Array DictEntry} {n : Nat} (hl : K.lookup a = some ⟨.type "dict", none, .dict es n, #[]⟩) (lo : (a == sysModules) = false) (hk : KeysLit P es.toList) (hd : kdK K es.toList = some kvs) :
    Adq K (tOp (rKin false K P) t (tC (.ref a))) (una (kinD false kvs) f) := fun {R H μ env σ d μ'} rl e Q k => by
  unfold una at e
  split at e
  · cases e
  · rename_i y μ1 e1
    unfold kinD at e
    split at e
    · rename_i key
      cases e
      refine q rl e1 fun v H1 R1 x1 h1 r1 => ?_
      cases r1
      refine ⟨key, a, es, n, rfl, rfl, hl, lo, hk, ?_⟩
      have e2 : (findBy Value.isStrOf es key).isSome = (kvs.lookup key).isSome := by
        have := kd_find (k := key) hd
        rw [find_eq]
        split at this
        · rename_i d' e3
          obtain ⟨u, e4, _⟩ := this
          rw [e4, e3]; rfl
        · rename_i e3
          rw [this, e3]; rfl
      rw [e2]
      exact k _ H1 R1 x1 h1 (.bl _)
    · cases e
theorem dt_kin {e : Expr} {f : Sm} {x : Str} {p pos : Pos} {kvs : List (Str × D)} (h : GlK X.K X.mg X.w.params x kvs) (he : DE X e f) (hg : Gl X x := by show _ = _; kernel_rfl) (hd : (x == ("__debug__" : Str)) = false := by kernel_rfl) (hm : behindInMarks .In (.Name x p) = false := by kernel_rfl) : DT X (.Compare e [.In] [.Name x p] pos) (tst (una (kinD false kvs) f)) := by
  obtain ⟨a, es, n, h1, h2, h3, h4, h5⟩ := h.ex
  obtain ⟨t, pe, q⟩ := he.ex
  exact ⟨_, pt_cmpR op_kin pe (pe_glob (v := .ref a) hg h1 rfl hd) hm, adqT_tst (adq_kin (mg := X.mg) (x := x) q h2 h3 h4 h5)⟩
theorem de_kget {e : Expr} {f : Sm} {x : Str} {p pos : Pos} {kvs : List (Str × D)} (h : GlK X.K X.mg X.w.params x kvs) (he : DE X e f) (hg : Gl X x := by show _ = _; kernel_rfl) (hd : (x == ("__debug__" : Str)) = false := by kernel_rfl) (hs : PlainIx e := by intro _ _; kernel_rfl) : DE X (.Subscript (.Name x p) e pos) (una (kgetD kvs) f) := by
  obtain ⟨a, es, n, h1, h2, h3, h4, h5⟩ := h.ex
  obtain ⟨t, pe, q⟩ := he.ex
  refine ⟨_, pe_ix ix_kd (pe_glob (v := .ref a) hg h1 rfl hd) pe hs, fun {R H μ env σ d μ'} rl e Q k => ?_⟩
  unfold una at e
  split at e
  · cases e
  · rename_i y μ1 e1
    unfold kgetD at e
    split at e
    · rename_i key
      split at e
      · rename_i d' e3
        cases e
        refine q rl e1 fun v H1 R1 x1 h1 r1 => ?_
        cases r1
        have := kd_find (k := key) h5
        rw [e3] at this
        obtain ⟨u, e4, e5⟩ := this
        obtain ⟨vv, r2, r3⟩ := rdK_ok 5 u _ e5
        exact ⟨a, key, es, n, u, vv, rfl, rfl, h2, h4, by rw [find_eq]; exact e4, r2, k _ H1 R1 x1 h1 (r3 R1 H1)⟩
      · cases e
    · cases e
end
theorem glk_of {K : PySem.W.Frag} {h : Heap} {mg : Str → Option Value} {P : Params} {x : Str} {a : Addr} {es : Array DictEntry} {n : Nat} {kvs : List (Str × D)} (X : K.In h) (G : h.Ns mainGlobals mg) (h1 : PySem.W.nsIn K mainGlobals x = some (some (.ref a))) (h2 : K.lookup a = some ⟨.type "dict", none, .dict es n, #[]⟩) (h3 : (a == sysModules) = false)
    (h4 : KeysLit P es.toList) (h5 : kdK K es.toList = some kvs) : GlK K mg P x kvs := ⟨a, es, n, PySem.W.mg_of X G h1, h2, h3, h4, h5⟩

theorem val_some {K : PySem.W.Frag} {R : List Addr} {H : Hp} {ds : List (Key × D)} {vs : List (Key × V)} (r : RKs K R H ds vs) (k : Key) : (valV vs k).isSome = (valD ds k).isSome := by
  have h1 : (valD ds k).isSome = (ds.any fun kv => decide (kv.1 = k)) := by
    unfold valD
    rw [Option.isSome_map, List.isSome_find?]
  rw [h1, r.any k, valV_any]
def dinD (neg : Bool) (x y : D) (μ : Mu) : Option (D × Mu) := match keyD x, y with
  | some k, .ref l => match μ[l]? with
    | some (.dct kvs) => some (.bl (neg ^^ (valD kvs k).isSome), μ)
    | _ => none
  | _, _ => none
section
variable {X : Cx} {a b : Expr} {fa fb : Sm} {pos : Pos}
theorem adq_din {K : PySem.W.Frag} {ta tb : TE} (qa : Adq K ta fa) (qb : Adq K tb fb) : Adq K (tDIn ta tb) (CW.bin (dinD false) fa fb) := fun {R H μ env σ d μ'} rl e Q kk => by
  unfold CW.bin at e
  split at e
  · cases e
  · rename_i x μ1 e1
    split at e
    · cases e
    · rename_i y μ2 e2
      refine qa rl e1 fun v H1 R1 x1 h1 r1 => ?_
      refine qb (rl.ext x1 h1) e2 fun u H2 R2 x2 h2 r2 => ?_
      unfold dinD at e
      split at e
      · rename_i k l ek
        split at e
        · rename_i kvs el
          cases e
          cases r2 with
          | ref hl =>
            obtain ⟨ws, g1, g2⟩ := h2.cellAt el hl
            have ex := key_rd (r1.ext x2) ek
            subst ex
            refine ⟨_, _, rfl, DGet.k (k := k) g1, ?_⟩
            rw [val_some g2 k]
            have := kk (.bl (false ^^ (valD kvs k).isSome)) H2 R2 (x1.trans x2) h2 (.bl _)
            simpa using this
        · cases e
      · cases e
theorem adqT_tB {K : PySem.W.Frag} {t : TE} {f : Sm} (h : Adq K t f) : AdqT K (tB t) (tst f) := fun {R H μ env σ b μ'} rl e Q k => by
  unfold tst at e
  split at e
  · rename_i c μ1 e1
    cases e
    refine h rl e1 fun v H1 R1 x1 h1 r1 => ?_
    cases r1
    exact ⟨_, rfl, k H1 R1 x1 h1⟩
  · cases e
theorem dt_din {n : Nat} (hr : Room n X.A) (ha : DE X a fa) (hb : DE X b fb) (hm : behindInMarks .In b = false := by kernel_rfl) : DT X (.Compare a [.In] [b] pos) (tst (CW.bin (dinD false) fa fb)) := by
  obtain ⟨ta, pa, qa⟩ := ha.ex
  obtain ⟨tb, pb, qb⟩ := hb.ex
  exact ⟨_, pt_cmp (pc_din (hu_of hr) pa pb) hm, adqT_tB (adq_din qa qb)⟩
/-- d[k] = v -/
def putS (fv fo fi : Sm) : Bm := fun env μ => match fv env μ with
  | none => none
  | some (v, μ1) => match fo env μ1 with
    | some (.ref l, μ2) => match fi env μ2 with
      | none => none
      | some (y, μ3) => match keyD y, μ3[l]? with
        | some k, some (.dct kvs) => if kvs.length < 1000000 then some (.nx env, μ3.set l (.dct (putD kvs k v))) else none
        | _, _ => none
    | _ => none
theorem ds_dput {n : Nat} {o i v : Expr} {fo fi fv : Sm} {pos' : Pos} (hr : Room n X.A) (hv : DE X v fv) (ho : DE X o fo) (hi : DE X i fi) (hs : swapsWith v (some (.Subscript o i pos')) pos.line X.env = pure false := by kernel_rfl) : DS X (.Assign [.Subscript o i pos'] v pos) (putS fv fo fi) := by
  obtain ⟨tv, pv, qv⟩ := hv.ex
  obtain ⟨to, po, qo⟩ := ho.ex
  obtain ⟨ti, pi, qi⟩ := hi.ex
  refine ⟨_, ps_dput (hu_of hr) po pi pv hs, fun {R H μ env σ fl μ'} rl e E p => ?_⟩
  unfold putS at e
  split at e
  · cases e
  · rename_i d1 μ1 e1
    split at e
    · rename_i l μ2 e2
      split at e
      · cases e
      · rename_i y μ3 e3
        split at e
        · rename_i k kvs ek el
          split at e
          · rename_i hz
            cases e
            refine qv rl e1 fun v1 H1 R1 x1 h1 r1 => ?_
            refine qo (rl.ext x1 h1) e2 fun v2 H2 R2 x2 h2 r2 => ?_
            refine qi (rl.ext (x1.trans x2) h2) e3 fun v3 H3 R3 x3 h3 r3 => ?_
            have r2' := r2.ext x3
            cases r2' with
            | ref hl =>
              obtain ⟨ws, g1, g2⟩ := h3.cellAt el hl
              have ex := key_rd r3 ek
              subst ex
              refine ⟨_, _, rfl, DPut.k g1 (by rw [← g2.length]; exact Nat.lt_of_lt_of_le hz (by decide)), ?_⟩
              have hm := List.mem_of_getElem? hl
              have xw : Ext R3 H3 R3 (upd H3 _ (.dK (putK ws k v1))) := ext_write h3 hm
              exact p σ _ R3 (((x1.trans x2).trans x3).trans xw) ⟨h3.write hl ⟨_, upd_same, RKs.put (g2.ext xw) k ((r1.ext (x2.trans x3)).ext xw)⟩, rl.en.ext (((x1.trans x2).trans x3).trans xw)⟩
          · cases e
        · cases e
    · cases e
end
end CW

namespace CW
open PySem L2

def wp {α : Type} (m : Option (α × Mu)) (Q : α → Mu → Prop) : Prop := ∃ a μ, m = some (a, μ) ∧ Q a μ
def ws (m : Option (Fl × Mu)) (N : Env → Mu → Prop) (Rt : D → Mu → Prop) (B C : Env → Mu → Prop) : Prop :=
  ∃ fl μ, m = some (fl, μ) ∧ match fl with
    | .nx e => N e μ
    | .rt d => Rt d μ
    | .bk e => B e μ
    | .ct e => C e μ
section
variable {α : Type} {Q Q' : α → Mu → Prop} {μ : Mu} {env : Env}
theorem wp_eq {m : Option (α × Mu)} {a : α} {μ : Mu} (h : m = some (a, μ)) (q : Q a μ) : wp m Q := ⟨a, μ, h, q⟩
theorem wp_mono {m : Option (α × Mu)} (h : wp m Q) (k : ∀ a μ, Q a μ → Q' a μ) : wp m Q' := let ⟨a, μ, e, q⟩ := h; ⟨a, μ, e, k a μ q⟩
end
section
variable {Q : D → Mu → Prop} {μ : Mu} {env : Env} {f g : Sm} {i : Nat} {d : D}
theorem wp_v (h : env[i]? = some (some d)) (q : Q d μ) : wp (vD i env μ) Q := by
  refine wp_eq (a := d) (μ := μ) ?_ q
  unfold vD
  rw [h]
theorem wp_c (q : Q d μ) : wp (cD d env μ) Q := wp_eq rfl q
theorem wp_bin {o : D → D → Mu → Option (D × Mu)} (h : wp (f env μ) fun x μ1 => wp (g env μ1) fun y μ2 => wp (o x y μ2) Q) : wp (bin o f g env μ) Q := by
  obtain ⟨x, μ1, e1, y, μ2, e2, z, μ3, e3, q⟩ := h
  refine wp_eq (a := z) (μ := μ3) ?_ q
  unfold bin
  rw [e1]; simp only; rw [e2]; exact e3
theorem wp_una {o : D → Mu → Option (D × Mu)} (h : wp (f env μ) fun x μ1 => wp (o x μ1) Q) : wp (una o f env μ) Q := by
  obtain ⟨x, μ1, e1, z, μ3, e3, q⟩ := h
  refine wp_eq (a := z) (μ := μ3) ?_ q
  unfold una
  rw [e1]; exact e3
theorem wp_tst {Q : Bool → Mu → Prop} (h : wp (f env μ) fun x μ1 => ∃ b, x = .bl b ∧ Q b μ1) : wp (tst f env μ) Q := by
  obtain ⟨x, μ1, e1, b, rfl, q⟩ := h
  refine wp_eq (a := b) (μ := μ1) ?_ q
  unfold tst
  rw [e1]
theorem wp_notT {Q : Bool → Mu → Prop} {f : Tm} (h : wp (f env μ) fun b μ1 => Q (!b) μ1) : wp (notT f env μ) Q := by
  obtain ⟨b, μ1, e1, q⟩ := h
  refine wp_eq (a := !b) (μ := μ1) ?_ q
  unfold notT
  rw [e1]
theorem wp_andT {Q : Bool → Mu → Prop} {f g : Tm} (h : wp (f env μ) fun b μ1 => if b = true then wp (g env μ1) Q else Q false μ1) : wp (andT f g env μ) Q := by
  obtain ⟨b, μ1, e1, q⟩ := h
  unfold andT
  rw [e1]; simp only
  cases b with
  | true => rw [if_pos rfl] at q ⊢; exact q
  | false => rw [if_neg Bool.false_ne_true] at q ⊢; exact wp_eq rfl q
theorem wp_orT {Q : Bool → Mu → Prop} {f g : Tm} (h : wp (f env μ) fun b μ1 => if b = true then Q true μ1 else wp (g env μ1) Q) : wp (orT f g env μ) Q := by
  obtain ⟨b, μ1, e1, q⟩ := h
  unfold orT
  rw [e1]; simp only
  cases b with
  | false => rw [if_neg Bool.false_ne_true] at q ⊢; exact q
  | true => rw [if_pos rfl] at q ⊢; exact wp_eq rfl q
theorem wp_andV (h : wp (f env μ) fun x μ1 => ∃ b, x = .bl b ∧ if b = true then wp (g env μ1) Q else Q (.bl false) μ1) : wp (andV f g env μ) Q := by
  obtain ⟨x, μ1, e1, b, rfl, q⟩ := h
  unfold andV
  rw [e1]; simp only
  cases b with
  | true => rw [if_pos rfl] at q ⊢; exact q
  | false => rw [if_neg Bool.false_ne_true] at q ⊢; exact wp_eq rfl q
theorem wp_orV (h : wp (f env μ) fun x μ1 => ∃ b, x = .bl b ∧ if b = true then Q (.bl true) μ1 else wp (g env μ1) Q) : wp (orV f g env μ) Q := by
  obtain ⟨x, μ1, e1, b, rfl, q⟩ := h
  unfold orV
  rw [e1]; simp only
  cases b with
  | false => rw [if_neg Bool.false_ne_true] at q ⊢; exact q
  | true => rw [if_pos rfl] at q ⊢; exact wp_eq rfl q
theorem wp_notV (h : wp (f env μ) fun x μ1 => ∃ b, x = .bl b ∧ Q (.bl (!b)) μ1) : wp (notV f env μ) Q := by
  obtain ⟨x, μ1, e1, b, rfl, q⟩ := h
  unfold notV
  rw [e1]; exact wp_eq rfl q
theorem wp_ifV {c : Tm} (h : wp (c env μ) fun b μ1 => if b = true then wp (f env μ1) Q else wp (g env μ1) Q) : wp (ifV c f g env μ) Q := by
  obtain ⟨b, μ1, e1, q⟩ := h
  unfold ifV
  rw [e1]; simp only
  cases b with
  | false => rw [if_neg Bool.false_ne_true] at q ⊢; exact q
  | true => rw [if_pos rfl] at q ⊢; exact q
theorem wp_nilA {Q : List D → Mu → Prop} (q : Q [] μ) : wp (nilA env μ) Q := wp_eq rfl q
theorem wp_consA {Q : List D → Mu → Prop} {a : Am} (h : wp (f env μ) fun x μ1 => wp (a env μ1) fun xs μ2 => Q (x :: xs) μ2) : wp (consA f a env μ) Q := by
  obtain ⟨x, μ1, e1, xs, μ2, e2, q⟩ := h
  refine wp_eq (a := x :: xs) (μ := μ2) ?_ q
  unfold consA
  rw [e1]; simp only; rw [e2]
theorem wp_tupE {a : Am} (h : wp (a env μ) fun xs μ1 => Q (.tup xs) μ1) : wp (tupE a env μ) Q := by
  obtain ⟨xs, μ1, e1, q⟩ := h
  refine wp_eq (a := .tup xs) (μ := μ1) ?_ q
  unfold tupE
  rw [e1]
theorem wp_lstE {a : Am} (h : wp (a env μ) fun xs μ1 => Q (.ref μ1.length) (μ1 ++ [.lst xs])) : wp (lstE a env μ) Q := by
  obtain ⟨xs, μ1, e1, q⟩ := h
  refine wp_eq (a := .ref μ1.length) (μ := μ1 ++ [.lst xs]) ?_ q
  unfold lstE
  rw [e1]
theorem wp_callE {sem : List D → Mu → Option (D × Mu)} {a : Am} (h : wp (a env μ) fun xs μ1 => wp (sem xs μ1) Q) : wp (callE sem a env μ) Q := by
  obtain ⟨xs, μ1, e1, z, μ2, e2, q⟩ := h
  refine wp_eq (a := z) (μ := μ2) ?_ q
  unfold callE
  rw [e1]; exact e2
theorem wp_metE {m : D → List D → Mu → Option (D × Mu)} {a : Am} (h : wp (f env μ) fun x μ1 => wp (a env μ1) fun xs μ2 => wp (m x xs μ2) Q) : wp (metE m f a env μ) Q := by
  obtain ⟨x, μ1, e1, xs, μ2, e2, z, μ3, e3, q⟩ := h
  refine wp_eq (a := z) (μ := μ3) ?_ q
  unfold metE
  rw [e1]; simp only; rw [e2]; exact e3
theorem wp_lstRecv {l : Nat} {xs : List D} (h : wp (f env μ) fun x μ1 => ∃ l xs, x = .ref l ∧ μ1[l]? = some (.lst xs) ∧ Q (.ref l) μ1) : wp (lstRecv f env μ) Q := by
  obtain ⟨x, μ1, e1, l, xs, rfl, hl, q⟩ := h
  refine wp_eq (a := .ref l) (μ := μ1) ?_ q
  unfold lstRecv
  rw [e1]; simp only; rw [hl]
theorem wp_isi {T : String} (h : wp (f env μ) fun x μ1 => ∃ t, tyD μ1 x = some t ∧ Q (.bl (isiT t T)) μ1) : wp (isiE T f env μ) Q := by
  obtain ⟨x, μ1, e1, t, ht, q⟩ := h
  refine wp_eq (a := .bl (isiT t T)) (μ := μ1) ?_ q
  unfold isiE
  rw [e1]; simp only; rw [ht]
theorem wp_int2 {C : Int → Int → Bool} {o : Int → Int → D} {a b : Int} (h : C a b = true) (q : Q (o a b) μ) : wp (arI C o (.int a) (.int b) μ) Q := by
  refine wp_eq (a := o a b) (μ := μ) ?_ q
  show (if C a b = true then some (o a b, μ) else none) = _
  rw [if_pos h]
theorem wp_add {a b : Int} (q : Q (.int (a + b)) μ) : wp (addD (.int a) (.int b) μ) Q := wp_eq rfl q
theorem wp_sub {a b : Int} (q : Q (.int (a - b)) μ) : wp (subD (.int a) (.int b) μ) Q := wp_int2 rfl q
theorem wp_lt {a b : Int} (q : Q (.bl (decide (a < b))) μ) : wp (ltD (.int a) (.int b) μ) Q := wp_int2 rfl q
theorem wp_le {a b : Int} (q : Q (.bl (decide (a ≤ b))) μ) : wp (leD (.int a) (.int b) μ) Q := wp_int2 rfl q
theorem wp_gt {a b : Int} (q : Q (.bl (decide (b < a))) μ) : wp (gtD (.int a) (.int b) μ) Q := wp_int2 rfl q
theorem wp_ge {a b : Int} (q : Q (.bl (decide (b ≤ a))) μ) : wp (geD (.int a) (.int b) μ) Q := wp_int2 rfl q
theorem wp_mod {a b : Int} (h : 0 < b) (q : Q (.int (a % b)) μ) : wp (modD (.int a) (.int b) μ) Q := wp_int2 (decide_eq_true h) q
theorem wp_fdiv {a b : Int} (h : 0 < b) (h2 : b < 1073741824) (q : Q (.int (a / b)) μ) : wp (fdivD (.int a) (.int b) μ) Q := wp_int2 (by simp [h, h2]) q
theorem wp_pow {a b : Int} (h : (decide (0 ≤ b) && decide (b ≤ 1000000) && decide (a.natAbs < 2 ^ 64)) = true) (q : Q (.int (a ^ b.toNat)) μ) : wp (powD (.int a) (.int b) μ) Q := wp_int2 h q
theorem wp_mul {a b : Int} (h : mulG a b = true) (q : Q (.int (a * b)) μ) : wp (mulD (.int a) (.int b) μ) Q := by
  refine wp_eq (a := .int (a * b)) (μ := μ) ?_ q
  show (if mulG a b = true then _ else none) = _
  rw [if_pos h]
theorem mulG_l {a b : Int} (h1 : -(2 ^ 64) < a) (h2 : a < 2 ^ 64) : mulG a b = true := by
  have h : a.natAbs < 2 ^ 64 := by omega
  simp [mulG, h]
theorem mulG_r {a b : Int} (h1 : -(2 ^ 64) < b) (h2 : b < 2 ^ 64) : mulG a b = true := by
  have h : b.natAbs < 2 ^ 64 := by omega
  simp [mulG, h]
theorem wp_eqI {a b : Int} (q : Q (.bl (a == b)) μ) : wp (eqD (.int a) (.int b) μ) Q := by
  refine wp_eq (a := .bl (a == b)) (μ := μ) ?_ q
  simp [eqD, pyD, PyData.eqv]
theorem wp_neI {a b : Int} (q : Q (.bl (!(a == b))) μ) : wp (neD (.int a) (.int b) μ) Q := by
  refine wp_eq (a := .bl (!(a == b))) (μ := μ) ?_ q
  simp [neD, pyD, PyData.eqv]
theorem wp_ixL {l : Nat} {xs : List D} {k : Int} (hl : μ[l]? = some (.lst xs)) (h : atI xs k = some d) (q : Q d μ) : wp (ixD (.ref l) (.int k) μ) Q := by
  refine wp_eq (a := d) (μ := μ) ?_ q
  unfold ixD itemsD
  simp only
  rw [hl]; simp only; rw [h]
theorem wp_ixT {xs : List D} {k : Int} (h : atI xs k = some d) (q : Q d μ) : wp (ixD (.tup xs) (.int k) μ) Q := by
  refine wp_eq (a := d) (μ := μ) ?_ q
  unfold ixD itemsD
  simp only
  rw [h]
theorem wp_ixF {xs : List D} {k : Int} (h : atI xs k = some d) (q : Q d μ) : wp (ixD (.fl xs) (.int k) μ) Q := by
  refine wp_eq (a := d) (μ := μ) ?_ q
  unfold ixD itemsD
  simp only
  rw [h]
theorem wp_lenT {xs : List D} (q : Q (.int (xs.length : Nat)) μ) : wp (lenB [.tup xs] μ) Q := wp_eq rfl q
theorem wp_lenF {xs : List D} (q : Q (.int (xs.length : Nat)) μ) : wp (lenB [.fl xs] μ) Q := wp_eq rfl q
theorem wp_lenL {l : Nat} {xs : List D} (hl : μ[l]? = some (.lst xs)) (q : Q (.int (xs.length : Nat)) μ) : wp (lenB [.ref l] μ) Q := by
  refine wp_eq (a := .int (xs.length : Nat)) (μ := μ) ?_ q
  unfold lenB itemsD
  simp only
  rw [hl]
theorem wp_absB {a : Int} (q : Q (.int (if a < 0 then -a else a)) μ) : wp (absB [.int a] μ) Q := wp_eq rfl q
theorem wp_tupL {l : Nat} {xs : List D} (hl : μ[l]? = some (.lst xs)) (q : Q (.tup xs) μ) : wp (tupB [.ref l] μ) Q := by
  refine wp_eq (a := .tup xs) (μ := μ) ?_ q
  unfold tupB
  simp only
  rw [hl]
theorem wp_app {l : Nat} {xs : List D} {y : D} (hl : μ[l]? = some (.lst xs)) (hz : xs.length < 1000000) (q : Q .non (μ.set l (.lst (xs ++ [y])))) : wp (appM (.ref l) [y] μ) Q := by
  refine wp_eq (a := .non) (μ := μ.set l (.lst (xs ++ [y]))) ?_ q
  unfold appM
  simp only
  rw [hl]; simp only; rw [if_pos hz]
theorem wp_slF {xs : List D} {lo hi : Option Int} (q : Q (.ref μ.length) (μ ++ [.lst (cutD xs lo hi)])) : wp (slD (.fl xs) lo hi μ) Q := wp_eq rfl q
theorem wp_slT {xs : List D} {lo hi : Option Int} (q : Q (.tup (cutD xs lo hi)) μ) : wp (slD (.tup xs) lo hi μ) Q := wp_eq rfl q
theorem wp_noP {Q : Option Int → Mu → Prop} (q : Q none μ) : wp (noP env μ) Q := wp_eq rfl q
theorem wp_somP {Q : Option Int → Mu → Prop} (h : wp (f env μ) fun x μ1 => ∃ i, x = .int i ∧ Q (some i) μ1) : wp (somP f env μ) Q := by
  obtain ⟨x, μ1, e1, i, rfl, q⟩ := h
  refine wp_eq (a := some i) (μ := μ1) ?_ q
  unfold somP
  rw [e1]
theorem wp_slE {a b : Pm} (h : wp (f env μ) fun x μ1 => wp (a env μ1) fun lo μ2 => wp (b env μ2) fun hi μ3 => wp (slD x lo hi μ3) Q) : wp (slE f a b env μ) Q := by
  obtain ⟨x, μ1, e1, lo, μ2, e2, hi, μ3, e3, z, μ4, e4, q⟩ := h
  refine wp_eq (a := z) (μ := μ4) ?_ q
  unfold slE
  rw [e1]; simp only; rw [e2]; simp only; rw [e3]; exact e4
theorem wp_nm {Q : Env → Mu → Prop} (q : Q (env.set i (some d)) μ) : wp (nmG i d env μ) Q := wp_eq rfl q
theorem wp_tupG2 {Q : Env → Mu → Prop} {i j : Nat} {x y : D} (q : Q ((env.set i (some x)).set j (some y)) μ) : wp (tupG 2 (consG (nmG i) (consG (nmG j) nilG)) (.tup [x, y]) env μ) Q := wp_eq rfl q
theorem wp_subG {Q : Env → Mu → Prop} (h : wp (f env μ) fun x μ1 => wp (g env μ1) fun y μ2 => ∃ l k xs j, x = .ref l ∧ y = .int k ∧ μ2[l]? = some (.lst xs) ∧ ixN xs.length k = some j ∧ Q env (μ2.set l (.lst (xs.set j d)))) : wp (subG f g d env μ) Q := by
  obtain ⟨x, μ1, e1, y, μ2, e2, l, k, xs, j, rfl, rfl, hl, hj, q⟩ := h
  refine wp_eq (a := env) (μ := μ2.set l (.lst (xs.set j d))) ?_ q
  unfold subG
  rw [e1]; simp only; rw [e2]; simp only [setD]; rw [hl]; simp only; rw [hj]
end
section
variable {N : Env → Mu → Prop} {Rt : D → Mu → Prop} {B C : Env → Mu → Prop} {μ : Mu} {env : Env} {f : Sm} {s t : Bm}
theorem ws_seq (h : ws (s env μ) (fun e1 μ1 => ws (t e1 μ1) N Rt B C) Rt B C) : ws (seqS s t env μ) N Rt B C := by
  obtain ⟨fl, μ1, e1, q⟩ := h
  unfold seqS
  rw [e1]
  cases fl with
  | nx e => exact q
  | rt d => exact ⟨_, _, rfl, q⟩
  | bk e => exact ⟨_, _, rfl, q⟩
  | ct e => exact ⟨_, _, rfl, q⟩
theorem ws_sk (q : N env μ) : ws (skS env μ) N Rt B C := ⟨_, _, rfl, q⟩
theorem ws_ret (h : wp (f env μ) Rt) : ws (retS f env μ) N Rt B C := by
  obtain ⟨d, μ1, e1, q⟩ := h
  refine ⟨.rt d, μ1, ?_, q⟩
  unfold retS
  rw [e1]
theorem ws_drop (h : wp (f env μ) fun _ μ1 => N env μ1) : ws (dropS f env μ) N Rt B C := by
  obtain ⟨d, μ1, e1, q⟩ := h
  refine ⟨.nx env, μ1, ?_, q⟩
  unfold dropS
  rw [e1]
theorem ws_asg {g : Gm} (h : wp (f env μ) fun d μ1 => wp (g d env μ1) N) : ws (asgS f g env μ) N Rt B C := by
  obtain ⟨d, μ1, e1, e2, μ2, e3, q⟩ := h
  refine ⟨.nx e2, μ2, ?_, q⟩
  unfold asgS
  rw [e1]; simp only; rw [e3]
theorem ws_par {i j : Nat} {a : Am} (h : wp (a env μ) fun ds μ1 => ∃ x y, ds = [x, y] ∧ N ((env.set i (some x)).set j (some y)) μ1) : ws (parS i j a env μ) N Rt B C := by
  obtain ⟨ds, μ1, e1, x, y, rfl, q⟩ := h
  refine ⟨.nx _, μ1, ?_, q⟩
  unfold parS
  rw [e1]
theorem ws_if {c : Tm} (h : wp (c env μ) fun b μ1 => if b = true then ws (s env μ1) N Rt B C else ws (t env μ1) N Rt B C) : ws (ifS c s t env μ) N Rt B C := by
  obtain ⟨b, μ1, e1, q⟩ := h
  unfold ifS
  rw [e1]; simp only
  cases b with
  | false => rw [if_neg Bool.false_ne_true] at q ⊢; exact q
  | true => rw [if_pos rfl] at q ⊢; exact q
theorem wp_def {Q : D → Mu → Prop} {np n : Nat} {ds : List D} (hl : ds.length = np) (h : ws (s (ds.map some ++ List.replicate (n - np) none) μ) (fun _ μ1 => Q .non μ1) Q (fun _ _ => False) (fun _ _ => False)) : wp (mkSem np n s ds μ) Q := by
  obtain ⟨fl, μ1, e1, q⟩ := h
  unfold mkSem
  rw [if_pos hl, e1]
  cases fl with
  | nx e => exact wp_eq rfl q
  | rt d => exact wp_eq rfl q
  | bk e => exact q.elim
  | ct e => exact q.elim
/-- for, over items that stand still -/
theorem forGo_fix {xs : List D} {g : Gm} (I : Nat → Env → Mu → Prop) (hs : ∀ (i : Nat) (x : D) (e : Env) (m : Mu), xs[i]? = some x → I i e m → wp (g x e m) fun e1 m1 => ws (s e1 m1) (I (i + 1)) Rt N (I (i + 1)))
    (hN : ∀ e m, I xs.length e m → N e m) : ∀ (n i : Nat) (e : Env) (m : Mu), i ≤ xs.length → n = xs.length + 1 - i → I i e m → ws (forGo (fixIt xs).item g s n i e m) N Rt B C := by
  intro n
  induction n with
  | zero => intro i e m hi hn _; omega
  | succ n ih =>
    intro i e m hi hn inv
    unfold forGo
    by_cases hlt : i < xs.length
    · have ex : xs[i]? = some xs[i] := List.getElem?_eq_getElem hlt
      have e0 : (fixIt xs).item i m = some (some xs[i]) := by show some xs[i]? = _; rw [ex]
      rw [e0]; simp only
      obtain ⟨e1, m1, h1, fl, m2, h2, q⟩ := hs i _ e m ex inv
      rw [h1]; simp only; rw [h2]
      cases fl with
      | nx e2 => exact ih (i + 1) e2 m2 hlt (by omega) q
      | ct e2 => exact ih (i + 1) e2 m2 hlt (by omega) q
      | bk e2 => exact ⟨_, _, rfl, q⟩
      | rt d => exact ⟨_, _, rfl, q⟩
    · have el : i = xs.length := by omega
      have ex : xs[i]? = none := List.getElem?_eq_none_iff.mpr (by omega)
      have e0 : (fixIt xs).item i m = some none := by show some xs[i]? = _; rw [ex]
      rw [e0]
      exact ⟨_, _, rfl, hN e m (el ▸ inv)⟩
theorem ws_for_fix {fi : Im} {g : Gm} (h : wp (fi env μ) fun it μ1 => ∃ xs : List D, it = fixIt xs ∧ ∃ I : Nat → Env → Mu → Prop, I 0 env μ1 ∧
    (∀ (i : Nat) (x : D) (e : Env) (m : Mu), xs[i]? = some x → I i e m → wp (g x e m) fun e1 m1 => ws (s e1 m1) (I (i + 1)) Rt N (I (i + 1))) ∧ ∀ e m, I xs.length e m → N e m) : ws (forS fi g s env μ) N Rt B C := by
  obtain ⟨it, μ1, e1, xs, rfl, I, i0, hs, hN⟩ := h
  unfold forS
  rw [e1]
  exact forGo_fix I hs hN _ 0 env μ1 (Nat.zero_le _) rfl i0
/-- for, over a list of the store that stays -/
theorem forGo_lst {xs : List D} {l k : Nat} {g : Gm} (I : Nat → Env → Mu → Prop) (hl : ∀ i e m, I i e m → m[l]? = some (.lst xs)) (hs : ∀ (i : Nat) (x : D) (e : Env) (m : Mu), xs[i]? = some x → I i e m → wp (g x e m) fun e1 m1 => ws (s e1 m1) (I (i + 1)) Rt N (I (i + 1)))
    (hN : ∀ e m, I xs.length e m → N e m) : ∀ (n i : Nat) (e : Env) (m : Mu), i ≤ xs.length → n = xs.length + 1 - i → I i e m → ws (forGo (lstIt l k).item g s n i e m) N Rt B C := by
  intro n
  induction n with
  | zero => intro i e m hi hn _; omega
  | succ n ih =>
    intro i e m hi hn inv
    have hm := hl i e m inv
    have e0 : (lstIt l k).item i m = some xs[i]? := by unfold lstIt; simp only; rw [hm]
    unfold forGo
    by_cases hlt : i < xs.length
    · have ex : xs[i]? = some xs[i] := List.getElem?_eq_getElem hlt
      rw [e0, ex]; simp only
      obtain ⟨e1, m1, h1, fl, m2, h2, q⟩ := hs i _ e m ex inv
      rw [h1]; simp only; rw [h2]
      cases fl with
      | nx e2 => exact ih (i + 1) e2 m2 hlt (by omega) q
      | ct e2 => exact ih (i + 1) e2 m2 hlt (by omega) q
      | bk e2 => exact ⟨_, _, rfl, q⟩
      | rt d => exact ⟨_, _, rfl, q⟩
    · have el : i = xs.length := by omega
      have ex : xs[i]? = none := List.getElem?_eq_none_iff.mpr (by omega)
      rw [e0, ex]
      exact ⟨_, _, rfl, hN e m (el ▸ inv)⟩
theorem ws_for_lst {fi : Im} {g : Gm} (h : wp (fi env μ) fun it μ1 => ∃ (l : Nat) (xs : List D), it = lstIt l xs.length ∧ ∃ I : Nat → Env → Mu → Prop, I 0 env μ1 ∧ (∀ i e m, I i e m → m[l]? = some (.lst xs)) ∧
    (∀ (i : Nat) (x : D) (e : Env) (m : Mu), xs[i]? = some x → I i e m → wp (g x e m) fun e1 m1 => ws (s e1 m1) (I (i + 1)) Rt N (I (i + 1))) ∧ ∀ e m, I xs.length e m → N e m) : ws (forS fi g s env μ) N Rt B C := by
  obtain ⟨it, μ1, e1, l, xs, rfl, I, i0, hl, hs, hN⟩ := h
  unfold forS
  rw [e1]
  exact forGo_lst I hl hs hN _ 0 env μ1 (Nat.zero_le _) rfl i0
/-- enumerate over such -/
theorem forGo_enum {xs : List D} {l k : Nat} {g : Gm} (I : Nat → Env → Mu → Prop) (hl : ∀ i e m, I i e m → m[l]? = some (.lst xs)) (hs : ∀ (i : Nat) (x : D) (e : Env) (m : Mu), xs[i]? = some x → I i e m → wp (g (.tup [.int (i : Nat), x]) e m) fun e1 m1 => ws (s e1 m1) (I (i + 1)) Rt N (I (i + 1)))
    (hN : ∀ e m, I xs.length e m → N e m) : ∀ (n i : Nat) (e : Env) (m : Mu), i ≤ xs.length → n = xs.length + 1 - i → I i e m → ws (forGo (enumIt l k).item g s n i e m) N Rt B C := by
  intro n
  induction n with
  | zero => intro i e m hi hn _; omega
  | succ n ih =>
    intro i e m hi hn inv
    have hm := hl i e m inv
    unfold forGo
    by_cases hlt : i < xs.length
    · have ex : xs[i]? = some xs[i] := List.getElem?_eq_getElem hlt
      have e0 : (enumIt l k).item i m = some (some (.tup [.int (i : Nat), xs[i]])) := by unfold enumIt; simp only; rw [hm]; simp only; rw [ex]
      rw [e0]; simp only
      obtain ⟨e1, m1, h1, fl, m2, h2, q⟩ := hs i _ e m ex inv
      rw [h1]; simp only; rw [h2]
      cases fl with
      | nx e2 => exact ih (i + 1) e2 m2 hlt (by omega) q
      | ct e2 => exact ih (i + 1) e2 m2 hlt (by omega) q
      | bk e2 => exact ⟨_, _, rfl, q⟩
      | rt d => exact ⟨_, _, rfl, q⟩
    · have el : i = xs.length := by omega
      have ex : xs[i]? = none := List.getElem?_eq_none_iff.mpr (by omega)
      have e0 : (enumIt l k).item i m = some none := by unfold enumIt; simp only; rw [hm]; simp only; rw [ex]
      rw [e0]
      exact ⟨_, _, rfl, hN e m (el ▸ inv)⟩
theorem ws_for_enum {fi : Im} {g : Gm} (h : wp (fi env μ) fun it μ1 => ∃ (l : Nat) (xs : List D), it = enumIt l xs.length ∧ ∃ I : Nat → Env → Mu → Prop, I 0 env μ1 ∧ (∀ i e m, I i e m → m[l]? = some (.lst xs)) ∧
    (∀ (i : Nat) (x : D) (e : Env) (m : Mu), xs[i]? = some x → I i e m → wp (g (.tup [.int (i : Nat), x]) e m) fun e1 m1 => ws (s e1 m1) (I (i + 1)) Rt N (I (i + 1))) ∧ ∀ e m, I xs.length e m → N e m) : ws (forS fi g s env μ) N Rt B C := by
  obtain ⟨it, μ1, e1, l, xs, rfl, I, i0, hl, hs, hN⟩ := h
  unfold forS
  rw [e1]
  exact forGo_enum I hl hs hN _ 0 env μ1 (Nat.zero_le _) rfl i0
end
section
variable {μ : Mu} {env : Env} {f : Sm} {Q : ItD → Mu → Prop}
theorem wp_rng1 {a : Am} (h : wp (a env μ) fun ds μ1 => ∃ j : Int, ds = [.int j] ∧ -(2 ^ 62) ≤ j ∧ j < 2 ^ 62 ∧ Q (fixIt ((List.range j.toNat).map fun k : Nat => D.int (0 + k))) μ1) : wp (rng1 a env μ) Q := by
  obtain ⟨ds, μ1, e1, j, rfl, h1, h2, q⟩ := h
  refine wp_eq (a := _) (μ := μ1) ?_ q
  unfold rng1
  rw [e1]; simp only; rw [if_pos ⟨h1, h2⟩]
theorem wp_seqIT (h : wp (f env μ) fun d μ1 => ∃ xs, d = .tup xs ∧ Q (fixIt xs) μ1) : wp (seqI f env μ) Q := by
  obtain ⟨d, μ1, e1, xs, rfl, q⟩ := h
  refine wp_eq (a := _) (μ := μ1) ?_ q
  unfold seqI
  rw [e1]
theorem wp_seqIL (h : wp (f env μ) fun d μ1 => ∃ l xs, d = .ref l ∧ μ1[l]? = some (.lst xs) ∧ Q (lstIt l xs.length) μ1) : wp (seqI f env μ) Q := by
  obtain ⟨d, μ1, e1, l, xs, rfl, hl, q⟩ := h
  refine wp_eq (a := _) (μ := μ1) ?_ q
  unfold seqI
  rw [e1]; simp only; rw [hl]
theorem wp_enumI {a : Am} (h : wp (a env μ) fun ds μ1 => ∃ l xs, ds = [.ref l] ∧ μ1[l]? = some (.lst xs) ∧ Q (enumIt l xs.length) μ1) : wp (enumI a env μ) Q := by
  obtain ⟨ds, μ1, e1, l, xs, rfl, hl, q⟩ := h
  refine wp_eq (a := _) (μ := μ1) ?_ q
  unfold enumI
  rw [e1]; simp only; rw [hl]
theorem wp_zipI {a : Am} (h : wp (a env μ) fun ds μ1 => ∃ xs ys, ds = [.tup xs, .tup ys] ∧ Q (zipIt xs ys) μ1) : wp (zipI a env μ) Q := by
  obtain ⟨ds, μ1, e1, xs, ys, rfl, q⟩ := h
  refine wp_eq (a := _) (μ := μ1) ?_ q
  unfold zipI
  rw [e1]
theorem compGo_by {it : Nat → Mu → Option (Option D)} {xs : List D} {g : Gm} {tt : Tm} {fe : Sm} {l : Nat} {Qm : Mu → Prop} (I : Nat → Mu → List D → Prop)
    (hit : ∀ i m acc, I i m acc → it i m = some xs[i]?) (hl : ∀ i m acc, I i m acc → m[l]? = some (.lst acc) ∧ acc.length ≤ i) (hx : xs.length < 1000000)
    (hs : ∀ (i : Nat) (x : D) (m : Mu) (acc : List D), xs[i]? = some x → I i m acc → wp (g x env m) fun e1 m1 => wp (tt e1 m1) fun b m2 => if b = true then wp (fe e1 m2) fun y m3 => m3[l]? = some (.lst acc) ∧ I (i + 1) (m3.set l (.lst (acc ++ [y]))) (acc ++ [y]) else I (i + 1) m2 acc)
    (hN : ∀ m acc, I xs.length m acc → Qm m) : ∀ (n i : Nat) (m : Mu) (acc : List D), i ≤ xs.length → n = xs.length + 1 - i → I i m acc → ∃ m', compGo it g tt fe l env n i m = some m' ∧ Qm m' := by
  intro n
  induction n with
  | zero => intro i m acc hi hn _; omega
  | succ n ih =>
    intro i m acc hi hn inv
    have e0 := hit i m acc inv
    unfold compGo
    by_cases hlt : i < xs.length
    · have ex : xs[i]? = some xs[i] := List.getElem?_eq_getElem hlt
      rw [e0, ex]; simp only
      obtain ⟨e1, m1, h1, b, m2, h2, q⟩ := hs i _ m acc ex inv
      rw [h1]; simp only; rw [h2]; simp only
      cases b with
      | true =>
        rw [if_pos rfl] at q ⊢
        obtain ⟨y, m3, h3, h4, q⟩ := q
        have hacc := (hl i m acc inv).2
        rw [h3]; simp only; rw [h4]; simp only; rw [if_pos (by omega)]
        exact ih (i + 1) _ _ hlt (by omega) q
      | false =>
        rw [if_neg Bool.false_ne_true] at q ⊢
        exact ih (i + 1) m2 acc hlt (by omega) q
    · have el : i = xs.length := by omega
      have ex : xs[i]? = none := List.getElem?_eq_none_iff.mpr (by omega)
      rw [e0, ex]
      exact ⟨m, rfl, hN m acc (el ▸ inv)⟩
theorem wp_lc {Q : D → Mu → Prop} {fi : Im} {g : Gm} {tt : Tm} {fe : Sm} {vs : List Nat} (h : wp (fi env μ) fun it μ1 => ∃ xs : List D, it.fuel = xs.length + 1 ∧ xs.length < 1000000 ∧ ∃ I : Nat → Mu → List D → Prop, I 0 (μ1 ++ [.lst []]) [] ∧
    (∀ i m acc, I i m acc → it.item i m = some xs[i]?) ∧ (∀ i m acc, I i m acc → m[μ1.length]? = some (.lst acc) ∧ acc.length ≤ i) ∧
    (∀ (i : Nat) (x : D) (m : Mu) (acc : List D), xs[i]? = some x → I i m acc → wp (g x (wipeE env vs) m) fun e1 m1 => wp (tt e1 m1) fun b m2 => if b = true then wp (fe e1 m2) fun y m3 => m3[μ1.length]? = some (.lst acc) ∧ I (i + 1) (m3.set μ1.length (.lst (acc ++ [y]))) (acc ++ [y]) else I (i + 1) m2 acc) ∧
    ∀ m acc, I xs.length m acc → Q (.ref μ1.length) m) : wp (lcE fi g tt fe vs env μ) Q := by
  obtain ⟨it, μ1, e1, xs, hf, hx, I, i0, hit, hl, hs, hN⟩ := h
  obtain ⟨m', e2, q⟩ := compGo_by (it := it.item) (l := μ1.length) (Qm := fun m => Q (.ref μ1.length) m) I hit hl hx hs hN (it.fuel) 0 (μ1 ++ [.lst []]) [] (Nat.zero_le _) (by rw [hf]; rfl) i0
  refine wp_eq (a := .ref μ1.length) (μ := m') ?_ q
  unfold lcE
  rw [e1]; simp only; rw [e2]
theorem wp_yes {Q : Bool → Mu → Prop} (q : Q true μ) : wp (yesT env μ) Q := wp_eq rfl q
end
theorem wp_dctE {Q : D → Mu → Prop} {env : Env} {μ : Mu} {f : Km} (h : wp (f env (μ ++ [.dct []])) fun kvs m => m[μ.length]? = some (.dct []) ∧ Q (.ref μ.length) (m.set μ.length (.dct (mergeD [] kvs)))) : wp (dctE f env μ) Q := by
  obtain ⟨kvs, m, e, h1, q⟩ := h
  refine wp_eq (a := .ref μ.length) (μ := m.set μ.length (.dct (mergeD [] kvs))) ?_ q
  unfold dctE
  rw [e]; simp only; rw [h1]
theorem wp_nilP {Q : List (Key × D) → Mu → Prop} {env : Env} {μ : Mu} (q : Q [] μ) : wp (nilP env μ) Q := wp_eq rfl q
theorem wp_consP {Q : List (Key × D) → Mu → Prop} {env : Env} {μ : Mu} {fk fv : Sm} {r : Km} (h : wp (fk env μ) fun k μ1 => ∃ x, k = .str x ∧ wp (fv env μ1) fun d μ2 => wp (r env μ2) fun kvs μ3 => Q ((.inr x, d) :: kvs) μ3) : wp (consP fk fv r env μ) Q := by
  obtain ⟨k, μ1, e1, x, rfl, d, μ2, e2, kvs, μ3, e3, q⟩ := h
  refine wp_eq (a := (.inr x, d) :: kvs) (μ := μ3) ?_ q
  unfold consP
  rw [e1]; simp only [keyD]; rw [e2]; simp only; rw [e3]
theorem wp_dctRecv {Q : D → Mu → Prop} {env : Env} {μ : Mu} {f : Sm} (h : wp (f env μ) fun x μ1 => ∃ l kvs, x = .ref l ∧ μ1[l]? = some (.dct kvs) ∧ Q (.ref l) μ1) : wp (dctRecv f env μ) Q := by
  obtain ⟨x, μ1, e1, l, xs, rfl, hl, q⟩ := h
  refine wp_eq (a := .ref l) (μ := μ1) ?_ q
  unfold dctRecv
  rw [e1]; simp only; rw [hl]
theorem wp_dget {Q : D → Mu → Prop} {μ : Mu} {l : Nat} {kvs : List (Key × D)} {x : Str} {d : D} (hl : μ[l]? = some (.dct kvs)) (h : valD kvs (.inr x) = some d) (q : Q d μ) : wp (dgetD (.ref l) (.str x) μ) Q := by
  refine wp_eq (a := d) (μ := μ) ?_ q
  unfold dgetD
  simp only [keyD]
  rw [hl]; simp only; rw [h]
theorem wp_catL {Q : D → Mu → Prop} {μ : Mu} {l m : Nat} {xs ys : List D} (hl : μ[l]? = some (.lst xs)) (hm : μ[m]? = some (.lst ys)) (hz : xs.length + ys.length ≤ 1000000) (q : Q (.ref μ.length) (μ ++ [.lst (xs ++ ys)])) : wp (addD (.ref l) (.ref m) μ) Q := by
  refine wp_eq (a := .ref μ.length) (μ := μ ++ [.lst (xs ++ ys)]) ?_ q
  unfold addD
  simp only
  rw [hl, hm]; simp only; rw [if_pos hz]
end CW

namespace CW
open PySem PySem.Spec PyProof.Rows L2
section
variable {X : Cx} {o e : Expr} {es : List Expr} {fo : Sm} {g : Am} {apos cpos : Pos}
end
end CW

namespace CW
open PySem PySem.Spec PyProof.Rows L2
open Sem (wp)
open AutoSeq1 (wpAny_loadPart')
section
variable {prog : Program} {w : World} {A : Around} {E : Value → Shared → Prop} {s : Shared}
end
section
variable {X : Cx} {e : Expr}
end
end CW

namespace CW
open PySem PySem.Spec PyProof.Rows L2
section
variable {X : Cx} {a : Expr} {pos : Pos}
end
theorem RKs.valN {K : PySem.W.Frag} {R : List Addr} {H : Hp} (k : Key) : ∀ {ds : List (Key × D)} {vs : List (Key × V)}, RKs K R H ds vs → valD ds k = none → valV vs k = none
  | _, _, .nil, _ => rfl
  | _, _, @RKs.cons _ _ _ k' d' v' ds' vs' r t, e => by
    by_cases q : k' = k
    · have : valD ((k', d') :: ds') k = some d' := by simp [valD, List.find?_cons, q]
      rw [this] at e; cases e
    · have : valD ((k', d') :: ds') k = valD ds' k := by simp only [valD, List.find?_cons, q, decide_false]
      rw [this] at e
      rw [valV_neg q]
      exact RKs.valN k t e
section
variable {X : Cx} {o e : Expr} {es : List Expr} {fo : Sm} {g : Am} {apos cpos : Pos}
end
end CW

namespace CW
open PySem PySem.Spec PyProof.Rows L2
/-- a def that may be called as a value -/
structure FnV (P : Program) (w : World) (K : PySem.W.Frag) (mg : Str → Option Value) (base : Heap) (k : Nat) (x : Str) (sem : List D → Mu → Option (D × Mu)) : Prop where
  ex : ∃ fa fd ps, FnOk P w K mg base CX0 k fa fd ps (spD K sem) ∧ PySem.W.nsIn K mainGlobals x = some (some (.ref fa)) ∧ PySem.W.keepIn K (.ref fa) = true ∧ Binds K fd ps []
section
variable {X : Cx} {k : Nat} {x : Str} {e : Expr} {es : List Expr} {p pos : Pos} {g : Am} {f : Sm}
end
end CW

namespace CW
open PySem PySem.Spec PyProof.Rows L2
def putFD (f : Str) (d : D) : List (Str × D) → List (Str × D)
  | [] => [(f, d)]
  | (k, x) :: r => if k = f then (k, d) :: r else (k, x) :: putFD f d r
section
variable {K : PySem.W.Frag} {R : List Addr} {H : Hp}
theorem RFs.get {f : Str} : ∀ {ds : List (Str × D)} {vs : List (Str × V)} {d : D}, RFs K R H ds vs → ds.lookup f = some d → ∃ v, vs.lookup f = some v ∧ RD K R H d v
  | _, _, _, .nil, e => by cases e
  | _, _, d, .cons (f := g) r t, e => by
    rw [List.lookup_cons] at e ⊢
    cases h : f == g with
    | true => rw [h] at e; cases e; exact ⟨_, rfl, r⟩
    | false => rw [h] at e; exact RFs.get t e
theorem RFs.length : ∀ {ds : List (Str × D)} {vs : List (Str × V)}, RFs K R H ds vs → ds.length = vs.length
  | _, _, .nil => rfl
  | _, _, .cons _ t => by simp [RFs.length t]
theorem RFs.put {f : Str} {d : D} {v : V} (q : RD K R H d v) : ∀ {ds : List (Str × D)} {vs : List (Str × V)}, RFs K R H ds vs → RFs K R H (putFD f d ds) (putF f v vs)
  | _, _, .nil => .cons q .nil
  | _, _, .cons (f := g) (d := d') (v := v') (ds := ds) (vs := vs) r t => by
    rw [show putF f v ((g, v') :: vs) = (if g = f then (g, v) :: vs else (g, v') :: putF f v vs) from rfl, show putFD f d ((g, d') :: ds) = (if g = f then (g, d) :: ds else (g, d') :: putFD f d ds) from rfl]
    by_cases h : g = f
    · rw [if_pos h, if_pos h]; exact .cons q t
    · rw [if_neg h, if_neg h]; exact .cons r (RFs.put q t)
end
/-- a class of the text: what its objects need -/
structure ClsK (K : PySem.W.Frag) (c : Str) (flds : List Str) : Prop where
  ex : ∃ C, PySem.W.nsIn K mainGlobals c = some (some (.ref C)) ∧ Cls K C ∧ ∀ f ∈ flds, NoAttr K C f
section
variable {X : Cx} {c f : Str} {flds : List Str} {o value : Expr} {fo fv : Sm} {pos pos' : Pos}
end
/-- a method of a class, called with the defaults dfs behind what is handed in -/
structure MtK (P : Program) (w : World) (K : PySem.W.Frag) (mg : Str → Option Value) (base : Heap) (k : Nat) (c m : Str) (sem : List D → Mu → Option (D × Mu)) (dfs : List D) : Prop where
  ex : ∃ C g fd ps dvs us, PySem.W.nsIn K mainGlobals c = some (some (.ref C)) ∧ Cls K C ∧ Meth K C m g ∧ FnOk P w K mg base CX0 k g fd ps (spD K sem) ∧ Binds K fd ps us ∧ Vals dvs us ∧ ∀ R H, RDs K R H dfs dvs
section
variable {X : Cx} {c m : Str} {sem : List D → Mu → Option (D × Mu)} {dfs : List D} {o e : Expr} {es : List Expr} {fo : Sm} {g : Am} {pos apos : Pos} {k : Nat}
end
structure MkK (P : Program) (w : World) (K : PySem.W.Frag) (mg : Str → Option Value) (base : Heap) (k : Nat) (c : Str) (sem : List D → Mu → Option (D × Mu)) : Prop where
  ex : ∃ C g fd ps, PySem.W.nsIn K mainGlobals c = some (some (.ref C)) ∧ mg c = some (.ref C) ∧ Mk K C g ∧ FnOk P w K mg base CX0 k g fd ps (spD K sem) ∧ Binds K fd ps []
end CW

namespace CW
open PySem PySem.Spec PyProof.Rows L2
section
variable {X : Cx} {e : Expr} {es : List Expr} {te : TE} {t : TA} {p pos : Pos}
end
section
variable {X : Cx} {e : Expr} {es : List Expr} {f : Sm} {g : Am} {p pos : Pos}
end
section
open PySem.AutoSeq1 (wpAny_loadPart')
open PySem.SeqAt PySem.MeetsSeq
end
section
variable {X : Cx} {o e : Expr} {es : List Expr} {fo : Sm} {g : Am} {apos cpos : Pos} {k : Nat}
end
end CW

namespace CW
open PySem PySem.Spec PyProof.Rows L2
def codesOk (K : PySem.W.Frag) : Bool := K.all fun p => kbk p || (match p.2.data with
  | .fields vs => (match vs.toList with
    | _ :: .str _ _ :: _ => false
    | _ => true)
  | _ => true)
def kOk (K : PySem.W.Frag) : Bool := ascK (K.map (·.1)) && (tabsOf K && codesOk K)
theorem kOk.asc {K : PySem.W.Frag} (h : kOk K = true) : ascK (K.map (·.1)) = true := (Bool.and_eq_true_iff.mp h).1
theorem kOk.tabs {K : PySem.W.Frag} (h : kOk K = true) : tabsOf K = true := (Bool.and_eq_true_iff.mp (Bool.and_eq_true_iff.mp h).2).1
theorem kOk.codes {K : PySem.W.Frag} (h : kOk K = true) : codesOk K = true := (Bool.and_eq_true_iff.mp (Bool.and_eq_true_iff.mp h).2).2
theorem mem_lookup {K : PySem.W.Frag} {a : Addr} {o : Obj} (h : K.lookup a = some o) : (a, o) ∈ K := by
  obtain ⟨a1, a2, e1, _⟩ := List.lookup_eq_some_iff.mp h
  rw [e1]; simp
theorem kbf_code {K : PySem.W.Frag} (hk : kOk K = true) {cd : Value} {q : Str} (h : PySem.W.codeIn K cd q = true) : PySem.W.codeIn (kbf K) cd q = true := by
  unfold PySem.W.codeIn at h ⊢
  split at h
  · rename_i c
    split at h
    · rename_i o1 o2 vs sl lk
      have hb : kbk (c, (⟨o1, o2, .fields vs, sl⟩ : Obj)) = true := by
        have q := List.all_eq_true.mp (kOk.codes hk) _ (mem_lookup lk)
        rcases Bool.or_eq_true_iff.mp q with q | q
        · exact q
        · simp only at q
          exfalso
          split at h
          · rename_i ev
            rw [ev] at q
            cases q
          · cases h
      rw [lookup_kbf lk hb]
      exact h
    · cases h
  · cases h
theorem keep_fn {K : PySem.W.Frag} {f : Addr} {oc : Value} {od : Option Addr} {fd : FuncData} {sl : Array (Option Value)} (h : K.lookup f = some ⟨oc, od, .func fd, sl⟩) : PySem.W.keepIn K (.ref f) = true := by
  unfold PySem.W.keepIn
  simp only
  rw [h]
/-- a def: its facts over all objects, brought over -/
theorem fun_kbf {K : PySem.W.Frag} (hk : kOk K = true) {x qual : Str} {st : Stmt} {f : Addr} {oc : Value} {od an : Option Addr} {osl : Array (Option Value)} {kV doc pm cdv ct : Value} (l : K.lookup f = some ⟨oc, od, .func (PySem.W.fnOf x qual (defArgs st) (defBody st) (defScope st) .none kV doc pm an cdv ct), osl⟩) (hc : decide (oc ≠ .none) = true)
    (c : PySem.W.codeIn K cdv qual = true) : Fun (kbf K) x qual st f (PySem.W.fnOf x qual (defArgs st) (defBody st) (defScope st) .none kV doc pm an cdv ct) := by
  have l' := lookup_kbf l (show kbk (f, _) = true by unfold kbk; rw [hc]; rfl)
  exact ⟨⟨oc, od, kV, doc, pm, an, cdv, ct, osl, rfl, l', kbf_code hk c⟩, keep_fn l'⟩
/-- its table -/
theorem tab_kbf {K : PySem.W.Frag} {f cc p : Addr} {oc : Value} {od o2 : Option Addr} {fd : FuncData} {sl s2 : Array (Option Value)} {vs : Array Value} (l : K.lookup f = some ⟨oc, od, .func fd, sl⟩) (hc : decide (oc ≠ .none) = true) (e : fd.code = .ref cc) (u : K.lookup cc = some ⟨.type "code", o2, .fields vs, s2⟩) (q : tabOf vs = some p) : FnTab (kbf K) cc p :=
  ⟨f, oc, od, fd, sl, o2, vs, s2, lookup_kbf l (show kbk (f, _) = true by unfold kbk; rw [hc]; rfl), e, lookup_kbf u (by unfold kbk; simp), q⟩
structure FunD (K : PySem.W.Frag) (x qual : Str) (st : Stmt) (f : Addr) (fd : FuncData) (dV : Value) : Prop where
  ex : ∃ (oc : Value) (od : Option Addr) (kV doc pm : Value) (an : Option Addr) (cdv ct : Value) (osl : Array (Option Value)), fd = PySem.W.fnOf x qual (defArgs st) (defBody st) (defScope st) dV kV doc pm an cdv ct ∧ K.lookup f = some ⟨oc, od, .func fd, osl⟩ ∧ PySem.W.codeIn K cdv qual = true
  kp : PySem.W.keepIn K (.ref f) = true
theorem FnK.mono {P : Program} {w : World} {K : PySem.W.Frag} {mg : Str → Option Value} {base : Heap} {j k : Nat} {x : Str} {sem : List D → Mu → Option (D × Mu)} (F : FnK P w K mg base j x sem) (h : j ≤ k) : FnK P w K mg base k x sem :=
  let ⟨fa, fd, ps, h1, h2, h3, h4⟩ := F.ex; ⟨fa, fd, ps, h1.mono h, h2, h3, h4⟩
theorem Fun.d {K : PySem.W.Frag} {x qual : Str} {st : Stmt} {f : Addr} {fd : FuncData} (F : Fun K x qual st f fd) : FunD K x qual st f fd .none := ⟨F.ex, F.kp⟩
end CW

namespace CW
open PySem PySem.Spec PyProof.Rows L2
theorem zl_some : ∀ {ps : List Str} {us : List Value}, us.length = ps.length → ∀ n ∈ ps, ((ps.zip us).lookup n).isNone = false
  | [], _, _, n, h => nomatch h
  | p :: ps, [], hl, _, _ => by simp at hl
  | p :: ps, u :: us, hl, n, h => by
    rw [List.zip_cons_cons, List.lookup_cons]
    cases e : n == p with
    | true => rfl
    | false =>
      rcases List.mem_cons.mp h with z | z
      · subst z; simp at e
      · exact zl_some (by simpa using hl) n z
theorem fm_congr {α β : Type} {f g : α → Option β} : ∀ {l : List α}, (∀ a ∈ l, f a = g a) → l.filterMap f = l.filterMap g
  | [], _ => rfl
  | a :: l, h => by
    rw [List.filterMap_cons, List.filterMap_cons, h a List.mem_cons_self, fm_congr fun b hb => h b (List.mem_cons_of_mem _ hb)]
theorem zl_map : ∀ {ps : List Str} {us : List Value}, ps.Nodup → us.length = ps.length → ps.filterMap (fun n => ((ps.zip us).lookup n).map fun v => (n, v)) = ps.zip us
  | [], _, _, _ => rfl
  | p :: ps, [], _, hl => by simp at hl
  | p :: ps, u :: us, nd, hl => by
    obtain ⟨n1, n2⟩ := List.nodup_cons.mp nd
    rw [List.zip_cons_cons, List.filterMap_cons, List.lookup_cons]
    simp only [beq_self_eq_true, Option.map_some]
    congr 1
    refine Eq.trans (fm_congr (g := fun n => ((ps.zip us).lookup n).map fun v => (n, v)) fun n hn => ?_) (zl_map n2 (by simpa using hl))
    rw [List.lookup_cons]
    have : (n == p) = false := by
      simp only [beq_eq_false_iff_ne]
      intro z; subst z; exact n1 hn
    rw [this]
theorem bind_plain {x qual : Str} {as : List Arg} {body : List Stmt} {sc : Scope} {kV doc pm : Value} {an : Option Addr} {cdv ct : Value} {ps : List Str} (e : as.map (·.arg) = ps) (nd : ps.Nodup) {us : List Value} (hl : us.length = ps.length) :
    bindArgs (PySem.W.fnOf x qual ⟨[], as, none, [], [], none, []⟩ body sc .none kV doc pm an cdv ct) ⟨us, []⟩ = pure (ps.zip us) := by
  subst e
  have h1 : ((as.map (·.arg)).take ((as.map (·.arg)).length - 0)).filter (fun n => (((as.map (·.arg)).zip us).lookup n).isNone) = [] := by
    rw [Nat.sub_zero, List.take_length]
    exact List.filter_eq_nil_iff.mpr fun n hn => by rw [zl_some hl n hn]; simp
  have h2 := zl_map nd hl
  unfold bindArgs
  have h3 : ¬ (us.length > (as.map (·.arg)).length) := by omega
  simp only [PySem.W.fnOf, List.map_nil, List.nil_append, List.append_nil]
  have h4 : seqItems? Value.none = pure none := rfl
  simp only [List.forIn_nil, pure_bind, h4, Option.getD_none, List.length_nil, Nat.sub_zero, List.drop_nil, List.zip_nil_right]
  rw [Nat.sub_zero] at h1
  rw [if_neg (by simp only [decide_eq_false h3, Bool.false_and]; exact Bool.false_ne_true), h1]
  rw [if_neg (by simp), if_neg (by simp), h2]
/-- how a def without defaults binds -/
theorem bindsP {K : PySem.W.Frag} {x qual : Str} {st : Stmt} {f : Addr} {fd : FuncData} {ps : List Str} {as : List Arg} (F : Fun K x qual st f fd) (ha : defArgs st = ⟨[], as, none, [], [], none, []⟩) (e : as.map (·.arg) = ps) (nd : ps.Nodup) : Binds K fd ps [] :=
  F.binds fun kV doc pm an cdv ct us hl => by rw [ha]; exact bind_plain e nd hl
theorem pnd {N P : List Str} {sc : Scope} (S : FnScope N P sc) : P.Nodup := by
  rw [← S.pre]
  exact S.nd.sublist (List.take_sublist _ _)
end CW

namespace CW
open PySem PySem.Spec PyProof.Rows L2
section
variable {X : Cx} {o e : Expr} {es : List Expr} {fo : Sm} {g : Am} {apos cpos : Pos}
end
end CW

namespace CW
open PySem PySem.Spec PyProof.Rows L2
section
variable {X : Cx} {e : Expr}
end
end CW

namespace CW
open PySem PySem.Spec PyProof.Rows L2
structure ReprOk (p : PyData) (n : Nat) : Prop where
  sh : p.showable = true
  ok : PyData.strOk p.shown = true
  len : p.shown.length ≤ n
end CW

namespace CW
open PySem PySem.Spec PyProof.Rows L2
open AutoSeq1 (wpAny_loadPart')
section
variable {prog : Program} {w : World} {A : Around} {E : Value → Shared → Prop} {s : Shared} {r : Addr} {a b c : Int} {t u v : Tok} {n : Nat}
end
end CW

namespace L2
open PySem PySem.Spec PyProof.Rows

abbrev NV : List (PyData × Addr × V) → List (PyData × Addr × Value) → Prop := Paired fun p q => p.1 = q.1 ∧ p.2.1 = q.2.1 ∧ RelV p.2.2 q.2.2
noncomputable def valN (kvs : List (PyData × Addr × V)) (k : PyData) : Option V := (kvs.find? fun p => decide (p.1 = k)).map (·.2.2)
noncomputable def putNV (kvs : List (PyData × Addr × V)) (k : PyData) (b : Addr) (v : V) : List (PyData × Addr × V) :=
  if (valN kvs k).isSome = true then kvs.map (fun p => if p.1 = k then (p.1, p.2.1, v) else p) else kvs ++ [(k, b, v)]
structure KeyN (K : PySem.W.Frag) (H : Hp) (x : V) (k : PyData) (b : Addr) : Prop where
  eq : x = .ref b
  dp : Dp K H x k
  ok : nOk k = true
  dep : k.depth ≤ 8
def KeysN (K : PySem.W.Frag) (H : Hp) (kvs : List (PyData × Addr × V)) : Prop := ∀ p ∈ kvs, KeyN K H (.ref p.2.1) p.1 p.2.1
theorem valN_pos {k : PyData} {p : PyData × Addr × V} {r : List (PyData × Addr × V)} (e : p.1 = k) : valN (p :: r) k = some p.2.2 := by simp [valN, List.find?_cons, e]
theorem valN_neg {k : PyData} {p : PyData × Addr × V} {r : List (PyData × Addr × V)} (e : ¬ p.1 = k) : valN (p :: r) k = valN r k := by simp [valN, List.find?_cons, e]
theorem NV.val {kvs : List (PyData × Addr × V)} {xs : List (PyData × Addr × Value)} (r : NV kvs xs) (k : PyData) : RelO (valN kvs k) ((atKey xs k).map (·.2)) := by
  induction r with
  | nil => exact True.intro
  | @cons p q ps qs h t ih =>
    obtain ⟨h1, _, h2⟩ := h
    by_cases e : p.1 = k
    · have e' : q.1 = k := h1.symm.trans e
      have b : atKey (q :: qs) k = some q.2 := by simp [atKey, List.find?_cons, e']
      rw [valN_pos e, b]; exact h2
    · have e' : ¬ q.1 = k := fun z => e (h1.trans z)
      have b : atKey (q :: qs) k = atKey qs k := by simp [atKey, List.find?_cons, e']
      rw [valN_neg e, b]; exact ih
theorem NV.repl {kvs : List (PyData × Addr × V)} {xs : List (PyData × Addr × Value)} (r : NV kvs xs) (k : PyData) {y : V} {u : Value} (ry : RelV y u) :
    NV (kvs.map fun p => if p.1 = k then (p.1, p.2.1, y) else p) (xs.map (putAt k u)) := by
  induction r with
  | nil => exact .nil
  | @cons p q ps qs h t ih =>
    rw [List.map_cons, List.map_cons]
    refine .cons ?_ ih
    obtain ⟨h1, h2, h3⟩ := h
    unfold putAt
    by_cases e : p.1 = k
    · rw [if_pos e, if_pos (h1.symm.trans e)]; exact ⟨h1, h2, ry⟩
    · rw [if_neg e, if_neg (fun z => e (h1.trans z))]; exact ⟨h1, h2, h3⟩
theorem NV.put {kvs : List (PyData × Addr × V)} {xs : List (PyData × Addr × Value)} (r : NV kvs xs) (k : PyData) {b : Addr} {y : V} {u : Value} (ry : RelV y u) : NV (putNV kvs k b y) (storedH xs k b u) := by
  have e : (valN kvs k).isSome = (atKey xs k).isSome := by rw [(r.val k).isSome_eq, Option.isSome_map]
  unfold putNV storedH
  rw [e]
  by_cases q : (atKey xs k).isSome = true
  · rw [if_pos q, if_pos q]; exact r.repl k ry
  · rw [if_neg q, if_neg q]; exact Paired.snoc r ⟨rfl, rfl, ry⟩
section
variable {X : Cx} {pins : List (Addr × Obj)} {σ : St} {H : Hp} {s : Shared} {a b : Addr} {x v : V} {k : PyData} {u r : Value} {kvs : List (PyData × Addr × V)} {A : Around} {E : Value → Shared → Prop}
end
section
variable {X : Cx}
end
section
variable {X : Cx} {o i value : Expr} {pos pos' : Pos} {td ty tv : TE}
end
end L2
namespace CW
open PySem PySem.Spec PyProof.Rows L2
mutual
def beqD : D → D → Bool
  | .non, .non => true
  | .bl a, .bl b => a == b
  | .int a, .int b => a == b
  | .str a, .str b => a == b
  | .tup xs, .tup ys => beqDs xs ys
  | .fl xs, .fl ys => beqDs xs ys
  | .ref a, .ref b => a == b
  | .fn a, .fn b => a == b
  | _, _ => false
def beqDs : List D → List D → Bool
  | [], [] => true
  | x :: xs, y :: ys => beqD x y && beqDs xs ys
  | _, _ => false
end
mutual
theorem beqD_self : ∀ d : D, beqD d d = true
  | .non => by simp [beqD]
  | .bl a => by simp [beqD]
  | .int a => by simp [beqD]
  | .str a => by simp [beqD]
  | .tup xs => by simp [beqD, beqDs_self xs]
  | .fl xs => by simp [beqD, beqDs_self xs]
  | .ref a => by simp [beqD]
  | .fn a => by simp [beqD]
theorem beqDs_self : ∀ ds : List D, beqDs ds ds = true
  | [] => by simp [beqDs]
  | d :: ds => by simp [beqDs, beqD_self d, beqDs_self ds]
end
mutual
theorem beqD_eq : ∀ {d e : D}, beqD d e = true → d = e
  | .non, .non, _ => rfl
  | .bl a, .bl b, h => by
    have h' : a = b := by simpa [beqD] using h
    rw [h']
  | .int a, .int b, h => by
    have h' : a = b := by simpa [beqD] using h
    rw [h']
  | .str a, .str b, h => by
    have h' : a = b := by simpa [beqD] using h
    rw [h']
  | .ref a, .ref b, h => by
    have h' : a = b := by simpa [beqD] using h
    rw [h']
  | .fn a, .fn b, h => by
    have h' : a = b := by simpa [beqD] using h
    rw [h']
  | .tup xs, .tup ys, h => by rw [beqDs_eq (ds := xs) (es := ys) (by simpa [beqD] using h)]
  | .fl xs, .fl ys, h => by rw [beqDs_eq (ds := xs) (es := ys) (by simpa [beqD] using h)]
  | .non, .bl _, h => by simp [beqD] at h
  | .non, .int _, h => by simp [beqD] at h
  | .non, .str _, h => by simp [beqD] at h
  | .non, .tup _, h => by simp [beqD] at h
  | .non, .fl _, h => by simp [beqD] at h
  | .non, .ref _, h => by simp [beqD] at h
  | .non, .fn _, h => by simp [beqD] at h
  | .bl _, .non, h => by simp [beqD] at h
  | .bl _, .int _, h => by simp [beqD] at h
  | .bl _, .str _, h => by simp [beqD] at h
  | .bl _, .tup _, h => by simp [beqD] at h
  | .bl _, .fl _, h => by simp [beqD] at h
  | .bl _, .ref _, h => by simp [beqD] at h
  | .bl _, .fn _, h => by simp [beqD] at h
  | .int _, .non, h => by simp [beqD] at h
  | .int _, .bl _, h => by simp [beqD] at h
  | .int _, .str _, h => by simp [beqD] at h
  | .int _, .tup _, h => by simp [beqD] at h
  | .int _, .fl _, h => by simp [beqD] at h
  | .int _, .ref _, h => by simp [beqD] at h
  | .int _, .fn _, h => by simp [beqD] at h
  | .str _, .non, h => by simp [beqD] at h
  | .str _, .bl _, h => by simp [beqD] at h
  | .str _, .int _, h => by simp [beqD] at h
  | .str _, .tup _, h => by simp [beqD] at h
  | .str _, .fl _, h => by simp [beqD] at h
  | .str _, .ref _, h => by simp [beqD] at h
  | .str _, .fn _, h => by simp [beqD] at h
  | .tup _, .non, h => by simp [beqD] at h
  | .tup _, .bl _, h => by simp [beqD] at h
  | .tup _, .int _, h => by simp [beqD] at h
  | .tup _, .str _, h => by simp [beqD] at h
  | .tup _, .fl _, h => by simp [beqD] at h
  | .tup _, .ref _, h => by simp [beqD] at h
  | .tup _, .fn _, h => by simp [beqD] at h
  | .fl _, .non, h => by simp [beqD] at h
  | .fl _, .bl _, h => by simp [beqD] at h
  | .fl _, .int _, h => by simp [beqD] at h
  | .fl _, .str _, h => by simp [beqD] at h
  | .fl _, .tup _, h => by simp [beqD] at h
  | .fl _, .ref _, h => by simp [beqD] at h
  | .fl _, .fn _, h => by simp [beqD] at h
  | .ref _, .non, h => by simp [beqD] at h
  | .ref _, .bl _, h => by simp [beqD] at h
  | .ref _, .int _, h => by simp [beqD] at h
  | .ref _, .str _, h => by simp [beqD] at h
  | .ref _, .tup _, h => by simp [beqD] at h
  | .ref _, .fl _, h => by simp [beqD] at h
  | .ref _, .fn _, h => by simp [beqD] at h
  | .fn _, .non, h => by simp [beqD] at h
  | .fn _, .bl _, h => by simp [beqD] at h
  | .fn _, .int _, h => by simp [beqD] at h
  | .fn _, .str _, h => by simp [beqD] at h
  | .fn _, .tup _, h => by simp [beqD] at h
  | .fn _, .fl _, h => by simp [beqD] at h
  | .fn _, .ref _, h => by simp [beqD] at h
theorem beqDs_eq : ∀ {ds es : List D}, beqDs ds es = true → ds = es
  | [], [], _ => rfl
  | [], _ :: _, h => by simp [beqDs] at h
  | _ :: _, [], h => by simp [beqDs] at h
  | d :: ds, e :: es, h => by
    have h' : beqD d e = true ∧ beqDs ds es = true := by simpa [beqDs] using h
    rw [beqD_eq h'.1, beqDs_eq h'.2]
end
instance decD : DecidableEq D := fun a b => decidable_of_iff (beqD a b = true) ⟨beqD_eq, fun e => e ▸ beqD_self a⟩

theorem nk_all {K : PySem.W.Frag} {R : List Addr} {H : Hp} {n : Nat} {f : D → Option PyData} (ih : ∀ d v p, RD K R H d v → f d = some p → Dp K H v p ∧ nOk p = true ∧ p.depth ≤ n) :
    ∀ {ds : List D} {vs : List V} {ps : List PyData}, RDs K R H ds vs → ds.mapM f = some ps → DpAll K H vs ps ∧ nOks ps = true ∧ PyData.depthAll ps ≤ n := by
  intro ds
  induction ds with
  | nil => intro vs ps r e; cases r; simp at e; subst e; exact ⟨.nil, rfl, Nat.zero_le _⟩
  | cons d ds ih2 =>
    intro vs ps r e
    cases r with
    | cons r rr =>
      rw [List.mapM_cons] at e
      cases e1 : f d with
      | none => rw [e1] at e; cases e
      | some p =>
        rw [e1] at e
        cases e2 : ds.mapM f with
        | none => rw [e2] at e; cases e
        | some q =>
          rw [e2] at e
          have e' : some (p :: q) = some ps := e
          cases e'
          obtain ⟨a, b, c⟩ := ih d _ p r e1
          obtain ⟨a2, b2, c2⟩ := ih2 rr e2
          refine ⟨.cons a a2, by simp [nOks, b, b2], ?_⟩
          simp only [PyData.depthAll]
          omega
theorem nk_ok {K : PySem.W.Frag} {R : List Addr} {H : Hp} : ∀ (n : Nat) (d : D) (v : V) (p : PyData), RD K R H d v → nkD n d = some p → Dp K H v p ∧ nOk p = true ∧ p.depth ≤ n := by
  intro n
  induction n with
  | zero =>
    intro d v p r e
    cases r with
    | non => cases e; exact ⟨.non, rfl, Nat.zero_le _⟩
    | bl b => cases e
    | int i => cases e; exact ⟨.int i, rfl, Nat.zero_le _⟩
    | str x =>
      unfold nkD at e
      split at e
      · rename_i hx; cases e; exact ⟨.str x, by simpa [nOk] using hx, Nat.zero_le _⟩
      · cases e
    | tup _ _ => cases e
    | fl _ _ => cases e
    | ref _ => cases e
    | fn _ => cases e
  | succ n ih =>
    intro d v p r e
    cases r with
    | non => cases e; exact ⟨.non, rfl, Nat.zero_le _⟩
    | bl b => cases e
    | int i => cases e; exact ⟨.int i, rfl, Nat.zero_le _⟩
    | str x =>
      unfold nkD at e
      split at e
      · rename_i hx; cases e; exact ⟨.str x, by simpa [nOk] using hx, Nat.zero_le _⟩
      · cases e
    | tup s rr =>
      rename_i a ds vs
      have e' : (ds.mapM (nkD n)).map PyData.tuple = some p := e
      cases e1 : ds.mapM (nkD n) with
      | none => rw [e1] at e'; cases e'
      | some ps =>
        rw [e1] at e'; cases e'
        obtain ⟨x, y, z⟩ := nk_all ih rr e1
        exact ⟨.tup s x, by simpa [nOk] using y, by simp only [PyData.depth]; omega⟩
    | fl _ _ => cases e
    | ref _ => cases e
    | fn _ => cases e
theorem nk_injAll {n m : Nat} (ih : ∀ d e k, nkD n d = some k → nkD m e = some k → d = e) : ∀ {ds es : List D} {ks : List PyData}, ds.mapM (nkD n) = some ks → es.mapM (nkD m) = some ks → ds = es := by
  intro ds
  induction ds with
  | nil =>
    intro es ks e1 e2
    simp at e1; subst e1
    cases es with
    | nil => rfl
    | cons e es =>
      rw [List.mapM_cons] at e2
      cases q : nkD m e with
      | none => rw [q] at e2; cases e2
      | some p =>
        rw [q] at e2
        cases q2 : es.mapM (nkD m) with
        | none => rw [q2] at e2; cases e2
        | some ps =>
          rw [q2] at e2
          have e' : some (p :: ps) = some [] := e2
          cases e'
  | cons d ds ih2 =>
    intro es ks e1 e2
    rw [List.mapM_cons] at e1
    cases q : nkD n d with
    | none => rw [q] at e1; cases e1
    | some p =>
      rw [q] at e1
      cases q2 : ds.mapM (nkD n) with
      | none => rw [q2] at e1; cases e1
      | some ps =>
        rw [q2] at e1
        have e' : some (p :: ps) = some ks := e1
        cases e'
        cases es with
        | nil => simp at e2
        | cons e es =>
          rw [List.mapM_cons] at e2
          cases r : nkD m e with
          | none => rw [r] at e2; cases e2
          | some p2 =>
            rw [r] at e2
            cases r2 : es.mapM (nkD m) with
            | none => rw [r2] at e2; cases e2
            | some ps2 =>
              rw [r2] at e2
              have e' : some (p2 :: ps2) = some (p :: ps) := e2
              cases e'
              rw [ih d e p q r, ih2 q2 r2]
theorem nk_inj : ∀ (n m : Nat) (d e : D) (k : PyData), nkD n d = some k → nkD m e = some k → d = e := by
  intro n
  induction n with
  | zero =>
    intro m d e k h1 h2
    cases d <;> first | (unfold nkD at h1; cases h1; cases e <;> cases m <;> first | rfl | (unfold nkD at h2; cases h2; rfl) | (unfold nkD at h2; cases h2) | (unfold nkD at h2; split at h2 <;> cases h2) | (simp only [nkD, Option.map_eq_some_iff] at h2; obtain ⟨_, _, h2⟩ := h2; cases h2)) | (unfold nkD at h1; split at h1; (cases h1; cases e <;> cases m <;> first | (unfold nkD at h2; cases h2) | (unfold nkD at h2; split at h2 <;> first | (cases h2; rfl) | cases h2) | (simp only [nkD, Option.map_eq_some_iff] at h2; obtain ⟨_, _, h2⟩ := h2; cases h2)); cases h1) | (unfold nkD at h1; cases h1)
  | succ n ih =>
    intro m d e k h1 h2
    cases d with
    | tup xs =>
      simp only [nkD, Option.map_eq_some_iff] at h1
      obtain ⟨ks, g1, rfl⟩ := h1
      cases e with
      | tup ys =>
        cases m with
        | zero => unfold nkD at h2; cases h2
        | succ m =>
          simp only [nkD, Option.map_eq_some_iff] at h2
          obtain ⟨ls, g2, h2⟩ := h2
          cases h2
          rw [nk_injAll (fun d e k => ih m d e k) g1 g2]
      | str x => unfold nkD at h2; split at h2 <;> cases h2
      | non => unfold nkD at h2; cases h2
      | int i => unfold nkD at h2; cases h2
      | bl b => cases m <;> (unfold nkD at h2; cases h2)
      | fl ys => cases m <;> (unfold nkD at h2; cases h2)
      | ref l => cases m <;> (unfold nkD at h2; cases h2)
      | fn x => cases m <;> (unfold nkD at h2; cases h2)
    | non =>
      unfold nkD at h1; cases h1
      cases e <;> cases m <;> first | rfl | (unfold nkD at h2; cases h2; rfl) | (unfold nkD at h2; cases h2) | (unfold nkD at h2; split at h2 <;> cases h2) | (simp only [nkD, Option.map_eq_some_iff] at h2; obtain ⟨_, _, h2⟩ := h2; cases h2)
    | int i =>
      unfold nkD at h1; cases h1
      cases e <;> cases m <;> first | (unfold nkD at h2; cases h2; rfl) | (unfold nkD at h2; cases h2) | (unfold nkD at h2; split at h2 <;> cases h2) | (simp only [nkD, Option.map_eq_some_iff] at h2; obtain ⟨_, _, h2⟩ := h2; cases h2)
    | str x =>
      unfold nkD at h1
      split at h1
      · cases h1
        cases e <;> cases m <;> first | (unfold nkD at h2; cases h2) | (unfold nkD at h2; split at h2 <;> first | (cases h2; rfl) | cases h2) | (simp only [nkD, Option.map_eq_some_iff] at h2; obtain ⟨_, _, h2⟩ := h2; cases h2)
      · cases h1
    | bl b => unfold nkD at h1; cases h1
    | fl ys => unfold nkD at h1; cases h1
    | ref l => unfold nkD at h1; cases h1
    | fn x => unfold nkD at h1; cases h1
def valDN (kvs : List (D × D)) (d : D) : Option D := (kvs.find? fun p => decide (p.1 = d)).map (·.2)
def putDN (kvs : List (D × D)) (d v : D) : List (D × D) := if (valDN kvs d).isSome = true then kvs.map (fun p => if p.1 = d then (p.1, v) else p) else kvs ++ [(d, v)]
theorem valDN_pos {d : D} {p : D × D} {r : List (D × D)} (e : p.1 = d) : valDN (p :: r) d = some p.2 := by simp [valDN, List.find?_cons, e]
theorem valDN_neg {d : D} {p : D × D} {r : List (D × D)} (e : ¬ p.1 = d) : valDN (p :: r) d = valDN r d := by simp [valDN, List.find?_cons, e]
section
variable {K : PySem.W.Frag} {R : List Addr} {H : Hp}
theorem RNs.length : ∀ {ks : List (D × D)} {vs : List (PyData × Addr × V)}, RNs K R H ks vs → ks.length = vs.length
  | _, _, .nil => rfl
  | _, _, .cons _ _ _ t => by simp [RNs.length t]
theorem RNs.keys : ∀ {ks : List (D × D)} {vs : List (PyData × Addr × V)}, RNs K R H ks vs → KeysN K H vs
  | _, _, .nil => fun p hp => nomatch hp
  | _, _, .cons g r s t => fun p hp => by
    rcases List.mem_cons.mp hp with rfl | hp
    · obtain ⟨a, b, c⟩ := nk_ok 8 _ _ _ r g
      exact ⟨rfl, a, b, c⟩
    · exact RNs.keys t p hp
theorem RNs.val {d : D} {k : PyData} (hd : nkD 8 d = some k) : ∀ {ks : List (D × D)} {vs : List (PyData × Addr × V)}, RNs K R H ks vs →
    match valDN ks d, valN vs k with
    | some y, some u => RD K R H y u
    | none, none => True
    | _, _ => False
  | _, _, .nil => True.intro
  | _, _, @RNs.cons _ _ _ d' v' k' q' u' ds' vs' g r s t => by
    by_cases e : d' = d
    · have ek : k' = k := by rw [e, hd] at g; exact (Option.some.inj g).symm
      rw [valDN_pos (p := (d', v')) e, valN_pos (p := (k', q', u')) ek]
      exact s
    · have ek : ¬ k' = k := fun z => e (nk_inj 8 8 d' d k (by rw [g, z]) hd)
      rw [valDN_neg (p := (d', v')) e, valN_neg (p := (k', q', u')) ek]
      exact RNs.val hd t
theorem RNs.isSome {d : D} {k : PyData} (hd : nkD 8 d = some k) {ks : List (D × D)} {vs : List (PyData × Addr × V)} (t : RNs K R H ks vs) : (valDN ks d).isSome = (valN vs k).isSome := by
  have := t.val hd
  cases h1 : valDN ks d <;> cases h2 : valN vs k <;> rw [h1, h2] at this <;> first | rfl | exact this.elim
theorem RNs.repl {d y : D} {k : PyData} {u : V} (hd : nkD 8 d = some k) (ry : RD K R H y u) : ∀ {ks : List (D × D)} {vs : List (PyData × Addr × V)}, RNs K R H ks vs → RNs K R H (ks.map fun p => if p.1 = d then (p.1, y) else p) (vs.map fun p => if p.1 = k then (p.1, p.2.1, u) else p)
  | _, _, .nil => .nil
  | _, _, @RNs.cons _ _ _ d' v' k' q' u' ds' vs' g r s t => by
    rw [List.map_cons, List.map_cons]
    by_cases e : d' = d
    · have ek : k' = k := by rw [e, hd] at g; exact (Option.some.inj g).symm
      dsimp only
      rw [if_pos e, if_pos ek]
      exact .cons g r ry (RNs.repl hd ry t)
    · have ek : ¬ k' = k := fun z => e (nk_inj 8 8 d' d k (by rw [g, z]) hd)
      dsimp only
      rw [if_neg e, if_neg ek]
      exact .cons g r s (RNs.repl hd ry t)
theorem RNs.snoc {d y : D} {k : PyData} {b : Addr} {u : V} (hd : nkD 8 d = some k) (rd : RD K R H d (.ref b)) (ry : RD K R H y u) : ∀ {ks : List (D × D)} {vs : List (PyData × Addr × V)}, RNs K R H ks vs → RNs K R H (ks ++ [(d, y)]) (vs ++ [(k, b, u)])
  | _, _, .nil => .cons hd rd ry .nil
  | _, _, .cons g r s t => .cons g r s (RNs.snoc hd rd ry t)
theorem RNs.put {d y : D} {k : PyData} {b : Addr} {u : V} (hd : nkD 8 d = some k) (rd : RD K R H d (.ref b)) (ry : RD K R H y u) {ks : List (D × D)} {vs : List (PyData × Addr × V)} (t : RNs K R H ks vs) : RNs K R H (putDN ks d y) (putNV vs k b u) := by
  unfold putDN putNV
  rw [t.isSome hd]
  split
  · exact t.repl hd ry
  · exact t.snoc hd rd ry
end
section
variable {X : Cx} {a b : Expr} {fa fb : Sm} {pos : Pos} {n : Nat}
end
end CW

namespace CW
open PySem L2
section
variable {Q : D → Mu → Prop} {μ : Mu} {env : Env} {l : Nat} {kvs : List (D × D)} {x v : D} {k : PyData}
end
section
variable {N : Env → Mu → Prop} {Rt : D → Mu → Prop} {B C : Env → Mu → Prop} {μ : Mu} {env : Env}
end
end CW

namespace CW
open PySem PySem.Spec PyProof.Rows L2
section
variable {X : Cx} {a b : Expr} {fa fb : Sm} {pos : Pos}
end
end CW

namespace CW
open PySem PySem.Spec PyProof.Rows L2 PySem.W
section
variable {prog : Program} {w : World} {A : Around} {E : Value → Shared → Prop} {s : Shared}
end
end CW

namespace CW
open PySem PySem.Spec PyProof.Rows L2
def tSemI (K : PySem.W.Frag) (f : Im) : TI := fun σ H Q => ∃ R μ env it μ', Rel K R H μ env σ ∧ f env μ = some (it, μ') ∧ ∀ J H' R', Ext R H R' H' → HR K R' H' μ' → ItOk K R' H' J it.item → Q J H'
theorem DI.pi {X : Cx} {tg iter : Expr} {f : Im} (h : DI X tg iter f) : PI X tg iter (tSemI X.K f) := fun pins s σ H R I ⟨R0, μ, env, it, μ', rl, ef, k⟩ => by
  obtain ⟨t, p, q⟩ := h.ex
  exact p pins s σ H R I (q rl ef k)
section
variable {X : Cx}
end
end CW

namespace CW
open PySem PySem.Spec PyProof.Rows L2
section
variable {prog : Program} {w : World} {A : Around} {E : Value → Shared → Prop} {s : Shared}
end
section
variable {X : Cx} {e st : Expr} {te : TE} {tp : TO} {pos p2 : Pos}
theorem rds_rev {K : PySem.W.Frag} {R : List Addr} {H : Hp} : ∀ {ds : List D} {vs : List V}, RDs K R H ds vs → RDs K R H ds.reverse vs.reverse
  | [], _, .nil => .nil
  | d :: ds, v :: vs, .cons r t => by
    rw [List.reverse_cons, List.reverse_cons]
    exact (rds_rev t).append (.cons r .nil)
end
section
variable {env : CW.Env} {μ : Mu} {f g : Sm} {Q : D → Mu → Prop}
end
end CW

namespace CW
open PySem PySem.Spec PyProof.Rows L2
end CW

namespace CW
open PySem PySem.Spec PyProof.Rows L2
end CW

namespace CW
open PySem PySem.Spec PyProof.Rows L2
section
variable {prog : Program} {w : World} {A : Around} {E : Value → Shared → Prop} {s : Shared}
end
end CW

namespace CW
open PySem PySem.Spec PyProof.Rows L2
open AutoSeq1 (wpAny_loadPart')
section
variable {prog : Program} {w : World} {A : Around} {E : Value → Shared → Prop} {s : Shared}
end
end CW

namespace CW
open PySem PySem.Spec PyProof.Rows L2
end CW

namespace CW
open PySem PySem.Spec PyProof.Rows L2
section
variable {env : CW.Env} {μ : Mu}
end
end CW

namespace CW
open PySem PySem.Spec PyProof.Rows L2
section
variable {X : Cx} {pos : Pos}
end
section
variable {N : Env → Mu → Prop} {Rt : D → Mu → Prop} {B C : Env → Mu → Prop} {μ : Mu} {env : Env}
end
end CW

namespace CW
open PySem PySem.Spec PyProof.Rows L2
section
variable {prog : Program} {w : World} {A : Around} {E : Value → Shared → Prop} {s : Shared}
end
end CW

namespace CW
open PySem PySem.Spec PyProof.Rows L2
open Sem (wp)
section
variable {prog : Program} {w : World} {A : Around} {E : Value → Shared → Prop} {s : Shared}
end
section
variable {prog : Program} {w : World} {A : Around} {E : Value → Shared → Prop} {s : Shared}
end
end CW

namespace CW
open PySem PySem.Spec PyProof.Rows L2
open Sem (wp)
section
variable {prog : Program} {w : World} {A : Around} {E : Value → Shared → Prop} {s : Shared}
end
section
variable {prog : Program} {w : World} {A : Around} {E : Value → Shared → Prop} {s : Shared}
end
end CW

namespace CW
open PySem PySem.Spec PyProof.Rows L2
section
variable {X : Cx} {a b : Expr} {fa fb : Sm} {pos : Pos} {k : Nat}
end
end CW

namespace CW
open PySem PySem.Spec PyProof.Rows L2
section
variable {prog : Program} {w : World} {A : Around} {E : Value → Shared → Prop} {s : Shared}
end
section
variable {X : Cx} {e st : Expr} {lo : Option Expr} {te : TE} {tl tp : TO} {pos p2 : Pos}
end
section
variable {env : CW.Env} {μ : Mu} {f g : Sm} {p : Pm} {Q : D → Mu → Prop}
end
end CW

namespace CW
open PySem PySem.Spec PyProof.Rows L2
section
variable {X : Cx} {o e : Expr} {es : List Expr} {fo : Sm} {g : Am} {apos cpos : Pos}
end
end CW

namespace CW
open PySem PySem.Spec PyProof.Rows L2
section
open PySem.AutoSeq1 (wpAny_loadPart')
open PySem.SeqAt PySem.MeetsSeq
end
/-- a tuple of the module, as a receiver -/
def tupK (K : PySem.W.Frag) : Value → Bool
  | .ref a => match K.lookup a with
    | some ⟨.type t, .none, .seq _ _, _⟩ => t == "tuple"
    | _ => false
  | _ => false
structure GlT (K : PySem.W.Frag) (mg : Str → Option Value) (x : Str) (d : D) : Prop where
  ex : ∃ u, mg x = some u ∧ rdK K 5 u = some d ∧ tupK K u = true
section
variable {X : Cx} {o e : Expr} {es : List Expr} {fo : Sm} {g : Am} {apos cpos p : Pos} {k : Nat}
end
section
variable {X : Cx} {a b c : Expr} {fa fb fc : Sm} {pos : Pos} {k : Nat}
end
end CW

namespace CW
open PySem PySem.Spec PyProof.Rows L2
section
variable {X : Cx}
end
end CW

namespace CW
open PySem PySem.Spec PyProof.Rows L2
section
variable {prog : Program} {w : World} {A : Around} {E : Value → Shared → Prop} {s : Shared}
end
end CW

namespace CW
open PySem PySem.Spec PyProof.Rows L2
section
variable {X : Cx} {tg : Expr} {e o : Expr} {f fo fe : Sm} {pos apos : Pos}
end
section
variable {S : GS} {V : GV} {A : Around} {R4 : List Addr} {item : Nat → Mu → Option (Option D)} {g : Gm} {tt : Tm} {fe : Sm} {env : Env} {a : Addr} {gn : Nat} {s5 : Shared} {μE : Mu}
end
end CW

namespace CW
open PySem PySem.Spec PyProof.Rows L2
section
variable {K : Type} [DecidableEq K]
end
end CW

namespace CW
open PySem PySem.Spec PyProof.Rows L2
section
variable {prog : Program} {w : World} {A : Around} {E : Value → Shared → Prop} {s : Shared}
end
end CW

namespace CW
open PySem PySem.Spec PyProof.Rows L2
section
variable {X : Cx} {o e : Expr} {es : List Expr} {to : TE} {t : TA} {name : Str} {apos cpos : Pos} {id : String} {r : V → List V → Hp → VK → Prop} {fo : Sm} {g : Am} {k : Nat}
end
end CW

namespace CW
open PySem L2
local macro_rules | `(tactic| trivial) => `(tactic| first
  | with_reducible refine ws_seq ?_ | with_reducible refine ws_asg ?_ | with_reducible refine ws_ret ?_ | with_reducible refine ws_drop ?_ | with_reducible refine ws_if ?_ | with_reducible refine ws_sk ?_
  | with_reducible refine wp_bin ?_ | with_reducible refine wp_v (by with_unfolding_all rfl) ?_ | with_reducible refine wp_c ?_ | with_reducible refine wp_tst ?_ | with_reducible refine wp_consA ?_ | with_reducible refine wp_nilA ?_
  | with_reducible refine wp_callE ?_ | with_reducible refine wp_nm ?_ | with_reducible refine wp_subG ?_ | with_reducible refine wp_tupE ?_ | with_reducible refine wp_lstE ?_ | with_reducible refine wp_andT ?_ | with_reducible refine wp_orT ?_ | with_reducible refine wp_notT ?_
  | with_reducible refine wp_add ?_ | with_reducible refine wp_sub ?_ | with_reducible refine wp_gt ?_ | with_reducible refine wp_lt ?_ | with_reducible refine wp_ge ?_ | with_reducible refine wp_le ?_ | with_reducible refine wp_eqI ?_ | with_reducible refine wp_neI ?_
  | with_reducible refine ⟨_, rfl, ?_⟩ | with_reducible refine wp_slE ?_ | with_reducible refine wp_noP ?_ | with_reducible refine wp_somP ?_ | with_reducible refine wp_slF ?_ | with_reducible refine wp_lenF ?_ | with_reducible refine wp_absB ?_ | with_reducible refine wp_yes ?_)
def take0 : List D → Mu → Option (D × Mu) := mkSem 2 4 (seqS (ifS (tst (bin gtD (bin ixD (vD 0) (cD (.int 0))) (cD (.int 0)))) (seqS (asgS (bin modD (bin ixD (vD 0) (cD (.int 0))) (vD 1)) (nmG 3))
      (seqS (asgS (bin fdivD (bin ixD (vD 0) (cD (.int 0))) (vD 1)) (subG (vD 0) (cD (.int 0))))
      (retS (vD 3)))) skS)
      (seqS (asgS (bin addD (bin ixD (vD 0) (cD (.int 2))) (cD (.int 1))) (subG (vD 0) (cD (.int 2))))
      (seqS (asgS (bin modD (bin mulD (bin addD (bin addD (bin ixD (vD 0) (cD (.int 1))) (bin mulD (bin mulD (cD (.int 65537)) (bin ixD (vD 0) (cD (.int 2)))) (bin ixD (vD 0) (cD (.int 2))))) (cD (.int 11))) (cD (.int 48271))) (cD (.int 2305843009213693921))) (nmG 2))
      (seqS (asgS (bin modD (bin mulD (vD 2) (bin addD (bin modD (vD 2) (cD (.int 1000003))) (bin mulD (cD (.int 99991)) (bin ixD (vD 0) (cD (.int 2)))))) (cD (.int 2305843009213693907))) (nmG 2))
      (retS (bin modD (bin addD (bin fdivD (vD 2) (cD (.int 97))) (bin fdivD (vD 2) (cD (.int 1000033)))) (vD 1)))))))
theorem set_get {μ : Mu} {l : Nat} {c d : Cell} (h : μ[l]? = some c) : (μ.set l d)[l]? = some d := List.getElem?_set_self (List.getElem?_eq_some_iff.mp h).1
theorem take_spec {l : Nat} {m a b c : Int} {μ : Mu} (hl : μ[l]? = some (.lst [.int a, .int b, .int c])) (ha : 0 ≤ a) (hb : 0 ≤ b) (hb2 : b < 2305843009213693951) (hc : 0 ≤ c) (hc2 : c < 1000000000000) (hm : 0 < m) (hm2 : m < 1073741824) :
    wp (take0 [.ref l, .int m] μ) fun r μ' => ∃ v a' c', r = .int v ∧ 0 ≤ v ∧ v < m ∧ μ' = μ.set l (.lst [.int a', .int b, .int c']) ∧ 0 ≤ a' ∧ 0 ≤ c' ∧ c' ≤ c + 1 := by
  refine wp_def rfl ?_
  trivial; trivial; trivial; trivial; trivial; trivial; trivial
  refine wp_ixL hl rfl ?_
  trivial; trivial; trivial
  by_cases h0 : 0 < a
  · rw [if_pos (decide_eq_true h0)]
    repeat trivial
    refine wp_ixL hl rfl ?_
    repeat trivial
    refine wp_mod hm ?_
    repeat trivial
    refine wp_ixL hl rfl ?_
    repeat trivial
    refine wp_fdiv hm hm2 ?_
    repeat trivial
    refine ⟨l, 0, _, 0, rfl, rfl, hl, rfl, ?_⟩
    repeat trivial
    exact ⟨_, a / m, c, rfl, Int.emod_nonneg _ (by omega), Int.emod_lt_of_pos _ hm, rfl, Int.ediv_nonneg ha (by omega), hc, by omega⟩
  · rw [if_neg (by simpa using h0)]
    repeat trivial
    refine wp_ixL hl rfl ?_
    repeat trivial
    refine ⟨l, 2, _, 2, rfl, rfl, hl, rfl, ?_⟩
    have hl' := set_get (d := Cell.lst (([.int a, .int b, .int c] : List D).set 2 (.int (c + 1)))) hl
    repeat trivial
    refine wp_ixL hl' rfl ?_
    repeat trivial
    refine wp_ixL hl' rfl ?_
    refine wp_mul (mulG_l (by decide) (by decide)) ?_
    repeat trivial
    refine wp_ixL hl' rfl ?_
    refine wp_mul (mulG_r (by omega) (by omega)) ?_
    repeat trivial
    refine wp_mul (mulG_r (by decide) (by decide)) ?_
    repeat trivial
    refine wp_mod (by decide) ?_
    repeat trivial
    refine wp_mod (by decide) ?_
    repeat trivial
    refine wp_ixL hl' rfl ?_
    refine wp_mul (mulG_l (by decide) (by decide)) ?_
    repeat trivial
    refine wp_mul (mulG_l ?_ ?_) ?_
    · have := Int.emod_nonneg ((b + 65537 * (c + 1) * (c + 1) + 11) * 48271) (show (2305843009213693921 : Int) ≠ 0 by decide)
      omega
    · have := Int.emod_lt_of_pos ((b + 65537 * (c + 1) * (c + 1) + 11) * 48271) (show (0 : Int) < 2305843009213693921 by decide)
      omega
    repeat trivial
    refine wp_mod (by decide) ?_
    repeat trivial
    refine wp_fdiv (by decide) (by decide) ?_
    repeat trivial
    refine wp_fdiv (by decide) (by decide) ?_
    repeat trivial
    refine wp_mod hm ?_
    exact ⟨_, a, c + 1, rfl, Int.emod_nonneg _ (by omega), Int.emod_lt_of_pos _ hm, rfl, ha, by omega, by omega⟩
structure Gr (μ m : Mu) : Prop where
  len : μ.length ≤ m.length
  old : ∀ j, j < μ.length → m[j]? = μ[j]?
theorem Gr.refl {μ : Mu} : Gr μ μ := ⟨Nat.le_refl _, fun _ _ => rfl⟩
theorem Gr.trans {μ m k : Mu} (a : Gr μ m) (b : Gr m k) : Gr μ k := ⟨Nat.le_trans a.len b.len, fun j h => (b.old j (Nat.lt_of_lt_of_le h a.len)).trans (a.old j h)⟩
theorem Gr.push {μ m : Mu} (a : Gr μ m) (c : Cell) : Gr μ (m ++ [c]) := ⟨by simp; have := a.len; omega, fun j h => by rw [List.getElem?_append_left (Nat.lt_of_lt_of_le h a.len)]; exact a.old j h⟩
theorem Gr.set {μ m : Mu} (a : Gr μ m) {l : Nat} (h : μ.length ≤ l) (c : Cell) : Gr μ (m.set l c) := ⟨by simp [a.len], fun j hj => by rw [List.getElem?_set_ne (by omega)]; exact a.old j hj⟩
theorem Gr.get {μ m : Mu} (a : Gr μ m) {l : Nat} {c : Cell} (h : μ[l]? = some c) : m[l]? = some c := by rw [a.old l (List.getElem?_eq_some_iff.mp h).1]; exact h
theorem get_last (m : Mu) (c : Cell) : (m ++ [c])[m.length]? = some c := by simp
theorem get_old {m : Mu} {c d : Cell} {l : Nat} (h : m[l]? = some d) : (m ++ [c])[l]? = some d := by rw [List.getElem?_append_left (List.getElem?_eq_some_iff.mp h).1]; exact h
theorem set_other {m : Mu} {c d : Cell} {l k : Nat} (h : m[l]? = some d) (n : l ≠ k) : (m.set k c)[l]? = some d := by rw [List.getElem?_set_ne (Ne.symm n)]; exact h
def hand0 : List D → Mu → Option (D × Mu) := mkSem 1 6 (seqS (asgS (lstE (consA (cD (.int 0)) (consA (cD (.int 0)) (consA (cD (.int 0)) nilA)))) (nmG 1))
      (seqS (ifS (andT (tst (bin gtD (callE lenB (consA (vD 0) nilA)) (cD (.int 0)))) (tst (bin geD (bin ixD (vD 0) (cD (.int 0))) (bin powD (cD (.int 10)) (cD (.int 18)))))) (seqS (asgS (cD (.int 1)) (nmG 2))
      (forS (seqI (slE (vD 0) noP (somP (cD (.int 63))))) (nmG 3) (seqS (asgS (bin addD (bin ixD (vD 1) (cD (.int 0))) (bin mulD (bin modD (callE absB (consA (vD 3) nilA)) (bin powD (cD (.int 10)) (cD (.int 60)))) (vD 2))) (subG (vD 1) (cD (.int 0))))
      (asgS (bin mulD (vD 2) (bin powD (cD (.int 10)) (cD (.int 60)))) (nmG 2))))) skS)
      (seqS (forS (enumI (consA (slE (vD 0) noP (somP (cD (.int 63)))) nilA)) (tupG 2 (consG (nmG 4) (consG (nmG 3) nilG))) (seqS (asgS (bin addD (bin addD (bin modD (vD 3) (cD (.int 2305843009213693951))) (bin mulD (cD (.int 7919)) (vD 4))) (cD (.int 3))) (nmG 5))
      (asgS (bin modD (bin addD (bin mulD (bin ixD (vD 1) (cD (.int 1))) (cD (.int 48271))) (vD 5)) (cD (.int 2305843009213693951))) (subG (vD 1) (cD (.int 1))))))
      (retS (vD 1)))))
theorem cut63 (ns : List Int) : ∃ ms : List Int, cutD (ns.map D.int) none (some 63) = ms.map D.int ∧ ms.length ≤ 63 := by
  refine ⟨(ns.drop (HT.sIx ns.length 0 none)).take (HT.sIx ns.length ns.length (some 63) - HT.sIx ns.length 0 none), ?_, ?_⟩
  · unfold cutD
    simp only [List.length_map, List.map_take, List.map_drop]
  · rw [List.length_take]
    have : HT.sIx ns.length ns.length (some 63) ≤ 63 := by
      simp only [HT.sIx]
      rw [if_neg (by decide)]
      exact Nat.min_le_left _ _
    omega
theorem big_far {i : Nat} (h : i ≤ 63) : bigI ((10 : Int) ^ (60 * i)) = true := by
  have h1 : ((10 : Int) ^ (60 * i)).natAbs = 10 ^ (60 * i) := by rw [Int.natAbs_pow]; rfl
  have h2 : (10 : Nat) ^ (60 * i) ≤ 10 ^ (60 * 63) := Nat.pow_le_pow_right (by decide) (by omega)
  have h3 : (10 : Nat) ^ (60 * 63) < 2 ^ 16000 := by decide +kernel
  simp only [bigI, h1, decide_eq_true_eq]
  omega
theorem item_int {ms : List Int} {i : Nat} {x : D} (h : (ms.map D.int)[i]? = some x) : ∃ z, x = .int z ∧ i < ms.length := by
  rw [List.getElem?_map] at h
  cases e : ms[i]? with
  | none => rw [e] at h; cases h
  | some z => rw [e] at h; cases h; exact ⟨z, rfl, (List.getElem?_eq_some_iff.mp e).1⟩
/-- what the hand holds between two draws -/
structure Hand (n : Int) (l : Nat) (m : Mu) : Prop where
  ex : ∃ a b c, m[l]? = some (.lst [.int a, .int b, .int c]) ∧ 0 ≤ a ∧ 0 ≤ b ∧ b < 2305843009213693951 ∧ 0 ≤ c ∧ c + n ≤ 999999999999
theorem hand_spec (ns : List Int) (μ : Mu) : wp (hand0 [.fl (ns.map D.int)] μ) fun r m => r = .ref μ.length ∧ Gr μ m ∧ Hand 999999999999 μ.length m := by
  obtain ⟨ms, ec, hms⟩ := cut63 ns
  refine wp_def rfl ?_
  repeat trivial
  have loop2 : ∀ (e : Env) (m : Mu) (a : Int) (x2 x3 x4 x5 : Option D), e = [some (.fl (ns.map D.int)), some (.ref μ.length), x2, x3, x4, x5] → 0 ≤ a → m[μ.length]? = some (.lst [.int a, .int 0, .int 0]) → Gr μ m →
      ws (seqS (forS (enumI (consA (slE (vD 0) noP (somP (cD (.int 63)))) nilA)) (tupG 2 (consG (nmG 4) (consG (nmG 3) nilG))) (seqS (asgS (bin addD (bin addD (bin modD (vD 3) (cD (.int 2305843009213693951))) (bin mulD (cD (.int 7919)) (vD 4))) (cD (.int 3))) (nmG 5))
      (asgS (bin modD (bin addD (bin mulD (bin ixD (vD 1) (cD (.int 1))) (cD (.int 48271))) (vD 5)) (cD (.int 2305843009213693951))) (subG (vD 1) (cD (.int 1))))))
      (retS (vD 1)) e m) (fun x μ1 => D.non = D.ref μ.length ∧ Gr μ μ1 ∧ Hand 999999999999 μ.length μ1) (fun r m => r = D.ref μ.length ∧ Gr μ m ∧ Hand 999999999999 μ.length m) (fun _ _ => False) (fun _ _ => False) := by
    intro e m a x2 x3 x4 x5 he ha hm g
    subst he
    refine ws_seq (ws_for_enum ?_)
    refine wp_enumI ?_
    repeat trivial
    rw [ec]
    have hlt : μ.length < m.length := (List.getElem?_eq_some_iff.mp hm).1
    refine ⟨m.length, ms.map D.int, rfl, get_last _ _, m.length, ms.map D.int, rfl, fun i e k => ∃ b y3 y4 y5, e = [some (.fl (ns.map D.int)), some (.ref μ.length), x2, y3, y4, y5] ∧ 0 ≤ b ∧ b < 2305843009213693951 ∧ k[μ.length]? = some (.lst [.int a, .int b, .int 0]) ∧ k[m.length]? = some (.lst (ms.map D.int)) ∧ Gr μ k ∧ m.length < k.length, ?_, ?_, ?_, ?_⟩
    · exact ⟨0, _, _, _, rfl, by decide, by decide, get_old hm, get_last _ _, g.push _, by simp⟩
    · rintro i e k ⟨b, y3, y4, y5, _, _, _, _, h, _⟩; exact h
    · rintro i x e k hx ⟨b, y3, y4, y5, rfl, hb, hb2, hk, hk2, gk, hlen⟩
      obtain ⟨z, rfl, hi⟩ := item_int hx
      refine wp_tupG2 ?_
      repeat trivial
      refine wp_mod (by decide) ?_
      repeat trivial
      refine wp_mul (mulG_l (by decide) (by decide)) ?_
      repeat trivial
      refine wp_ixL hk rfl ?_
      repeat trivial
      refine wp_mul (mulG_r (by decide) (by decide)) ?_
      repeat trivial
      refine wp_mod (by decide) ?_
      repeat trivial
      refine ⟨μ.length, 1, _, 1, rfl, rfl, hk, rfl, ?_⟩
      exact ⟨_, _, _, _, rfl, Int.emod_nonneg _ (by decide), Int.emod_lt_of_pos _ (by decide), set_get hk, set_other hk2 (by omega), gk.set (Nat.le_refl _) _, by simpa using hlen⟩
    · rintro e k ⟨b, y3, y4, y5, rfl, hb, hb2, hk, hk2, gk, hlen⟩
      repeat trivial
      exact ⟨rfl, gk, ⟨a, b, 0, hk, ha, hb, hb2, by decide, by decide⟩⟩
  have start : (μ ++ [Cell.lst [.int 0, .int 0, .int 0]])[μ.length]? = some (.lst [.int 0, .int 0, .int 0]) := get_last _ _
  by_cases h0 : (0 : Int) < ((ns.map D.int).length : Nat)
  · rw [if_pos (decide_eq_true h0)]
    have hn : ∃ z r, ns = z :: r := by
      cases ns with
      | nil => simp at h0
      | cons z r => exact ⟨z, r, rfl⟩
    obtain ⟨z, r, rfl⟩ := hn
    repeat trivial
    refine wp_ixF (d := .int z) (by simp [atI, ixN]) ?_
    repeat trivial
    refine wp_pow (by decide) ?_
    repeat trivial
    split
    · repeat trivial
      refine ws_for_lst ?_
      refine wp_seqIL ?_
      repeat trivial
      rw [ec]
      have el : (μ ++ [Cell.lst [.int 0, .int 0, .int 0]]).length = μ.length + 1 := by simp
      refine ⟨_, ms.map D.int, rfl, get_last _ _, μ.length + 1, ms.map D.int, by rw [el], fun i e k => ∃ a y3 y4 y5, e = [some (.fl ((z :: r).map D.int)), some (.ref μ.length), some (.int (10 ^ (60 * i))), y3, y4, y5] ∧ i ≤ 63 ∧ 0 ≤ a ∧ k[μ.length]? = some (.lst [.int a, .int 0, .int 0]) ∧ k[μ.length + 1]? = some (.lst (ms.map D.int)) ∧ Gr μ k, ?_, ?_, ?_, ?_⟩
      · exact ⟨0, _, _, _, rfl, by decide, by decide, get_old start, by rw [← el]; exact get_last _ _, (Gr.refl.push _).push _⟩
      · rintro i e k ⟨a, y3, y4, y5, _, _, _, _, h, _⟩; exact h
      · rintro i x e k hx ⟨a, y3, y4, y5, rfl, hi63, ha, hk, hk2, gk⟩
        obtain ⟨z, rfl, hi⟩ := item_int hx
        repeat trivial
        refine wp_ixL hk rfl ?_
        repeat trivial
        refine wp_pow (by decide) ?_
        refine wp_mod (by decide +kernel) ?_
        repeat trivial
        have hmm : 0 ≤ (if z < 0 then -z else z) % (10 : Int) ^ (60 : Int).toNat := Int.emod_nonneg _ (by decide +kernel)
        have hm2 : (if z < 0 then -z else z) % (10 : Int) ^ (60 : Int).toNat < 10 ^ (60 : Int).toNat := Int.emod_lt_of_pos _ (by decide +kernel)
        refine wp_mul ?_ ?_
        · have b1 : bigI ((if z < 0 then -z else z) % (10 : Int) ^ (60 : Int).toNat) = true := by
            simp only [bigI, decide_eq_true_eq]
            have h3 : (10 : Int) ^ (60 : Int).toNat < 2 ^ 16000 := by decide +kernel
            omega
          simp only [mulG, b1, big_far hi63, Bool.and_true, Bool.or_true]
        repeat trivial
        refine ⟨μ.length, 0, _, 0, rfl, rfl, hk, rfl, ?_⟩
        repeat trivial
        refine wp_pow (by decide) ?_
        refine wp_mul ?_ ?_
        · have b2 : bigI ((10 : Int) ^ (60 : Int).toNat) = true := big_far (i := 1) (by decide)
          simp only [mulG, b2, big_far hi63, Bool.and_true, Bool.or_true]
        repeat trivial
        have e3 : (10 : Int) ^ (60 * i) * 10 ^ (60 : Int).toNat = 10 ^ (60 * (i + 1)) := by
          rw [Nat.mul_add, Int.pow_add]; rfl
        have hpos : 0 ≤ (10 : Int) ^ (60 * i) := Int.le_of_lt (Int.pow_pos (by decide))
        refine ⟨_, _, _, _, by rw [← e3]; rfl, by omega, ?_, set_get hk, set_other hk2 (by omega), gk.set (Nat.le_refl _) _⟩
        exact Int.add_nonneg ha (Int.mul_nonneg hmm hpos)
      · rintro e k ⟨a, y3, y4, y5, rfl, hi63, ha, hk, hk2, gk⟩
        exact loop2 _ _ a _ _ _ _ rfl ha hk gk
    · refine ws_sk ?_
      exact loop2 _ _ 0 _ _ _ _ rfl (by decide) start (Gr.refl.push _)
  · rw [if_neg (by simpa using h0), if_neg Bool.false_ne_true]
    refine ws_sk ?_
    exact loop2 _ _ 0 _ _ _ _ rfl (by decide) start (Gr.refl.push _)
/-- a draw -/
theorem draw {n : Int} {l : Nat} {μ : Mu} {m : Int} {Q : D → Mu → Prop} (h : Hand n l μ) (hn : 1 ≤ n) (hm : 0 < m) (hm2 : m < 1073741824)
    (q : ∀ v μ', 0 ≤ v → v < m → Hand (n - 1) l μ' → μ'.length = μ.length → (∀ j, j ≠ l → μ'[j]? = μ[j]?) → Q (.int v) μ') : wp (take0 [.ref l, .int m] μ) Q := by
  obtain ⟨a, b, c, hl, ha, hb, hb2, hc, hcn⟩ := h.ex
  refine wp_mono (take_spec hl ha hb hb2 hc (by omega) hm hm2) ?_
  rintro r μ' ⟨v, a', c', rfl, h1, h2, rfl, h3, h4, h5⟩
  exact q v _ h1 h2 ⟨a', b, c', set_get hl, h3, hb, hb2, h4, by omega⟩ (by simp) fun j hj => by rw [List.getElem?_set_ne (Ne.symm hj)]
/-- all but the hand's own list is as it was -/
structure Fr (l : Nat) (μ m : Mu) : Prop where
  len : μ.length ≤ m.length
  old : ∀ j, j ≠ l → j < μ.length → m[j]? = μ[j]?
theorem Fr.refl {l : Nat} {μ : Mu} : Fr l μ μ := ⟨Nat.le_refl _, fun _ _ _ => rfl⟩
theorem Fr.trans {l : Nat} {μ m k : Mu} (a : Fr l μ m) (b : Fr l m k) : Fr l μ k := ⟨Nat.le_trans a.len b.len, fun j n h => (b.old j n (Nat.lt_of_lt_of_le h a.len)).trans (a.old j n h)⟩
theorem Fr.push {l : Nat} {μ m : Mu} (a : Fr l μ m) (c : Cell) : Fr l μ (m ++ [c]) := ⟨by simp; have := a.len; omega, fun j n h => by rw [List.getElem?_append_left (Nat.lt_of_lt_of_le h a.len)]; exact a.old j n h⟩
theorem Fr.set {l : Nat} {μ m : Mu} (a : Fr l μ m) {k : Nat} (h : μ.length ≤ k) (c : Cell) : Fr l μ (m.set k c) := ⟨by simp [a.len], fun j n hj => by rw [List.getElem?_set_ne (by omega)]; exact a.old j n hj⟩
theorem Fr.get {l : Nat} {μ m : Mu} (a : Fr l μ m) {k : Nat} {c : Cell} (n : k ≠ l) (h : μ[k]? = some c) : m[k]? = some c := by rw [a.old k n (List.getElem?_eq_some_iff.mp h).1]; exact h
theorem Gr.fr {l : Nat} {μ m : Mu} (a : Gr μ m) : Fr l μ m := ⟨a.len, fun j _ h => a.old j h⟩
theorem Hand.lt {n : Int} {l : Nat} {m : Mu} (h : Hand n l m) : l < m.length := let ⟨_, _, _, e, _⟩ := h.ex; (List.getElem?_eq_some_iff.mp e).1
theorem Hand.gr {n : Int} {l : Nat} {m k : Mu} (h : Hand n l m) (g : Gr m k) : Hand n l k := let ⟨a, b, c, e, r⟩ := h.ex; ⟨a, b, c, g.get e, r⟩
theorem Hand.push {n : Int} {l : Nat} {m : Mu} (h : Hand n l m) (c : Cell) : Hand n l (m ++ [c]) := h.gr (Gr.refl.push c)
theorem Hand.set {n : Int} {l k : Nat} {m : Mu} (h : Hand n l m) (ne : l ≠ k) (c : Cell) : Hand n l (m.set k c) := let ⟨a, b, d, e, r⟩ := h.ex; ⟨a, b, d, set_other e ne, r⟩
theorem Hand.mono {n n' : Int} {l : Nat} {m : Mu} (h : Hand n l m) (le : n' ≤ n) : Hand n' l m := let ⟨a, b, c, e, h1, h2, h3, h4, h5⟩ := h.ex; ⟨a, b, c, e, h1, h2, h3, h4, by omega⟩
/-- a draw, with what stays -/
theorem drawF {n : Int} {l : Nat} {μ : Mu} {m : Int} {Q : D → Mu → Prop} (h : Hand n l μ) (hn : 1 ≤ n) (hm : 0 < m) (hm2 : m < 1073741824)
    (q : ∀ v μ', 0 ≤ v → v < m → Hand (n - 1) l μ' → Fr l μ μ' → μ'.length = μ.length → Q (.int v) μ') : wp (take0 [.ref l, .int m] μ) Q :=
  draw h hn hm hm2 fun v μ' h1 h2 h3 h4 h5 => q v μ' h1 h2 h3 ⟨by omega, fun j n _ => h5 j n⟩ h4
end CW

namespace CW
open PySem PySem.Spec PyProof.Rows L2
section
variable {K : PySem.W.Frag} {R : List Addr} {H : Hp} {a : Addr} {od : Obj} {vs : List (Key × V)}
end
section
variable {X : Cx}
end
section
variable {X : Cx} {a b : Expr} {fa fb : Sm} {pos : Pos}
end
end CW

namespace CW
open PySem PySem.Spec PyProof.Rows L2
section
variable {X : Cx} {o e : Expr} {fo fe : Sm} {pos apos : Pos}
end
end CW

namespace CW
open PySem PySem.Spec PyProof.Rows L2
end CW

namespace PySem
namespace F
theorem owner_rv : Manifest.owners.lookup (String.ofList ['d', 'e', 's', 'r', 'e', 'v', 'e', 'r'].reverse) = some Manifest.sig_reversed := by kernel_rfl
theorem slot_rv_next : Slot "reversed" "__next__" "reversed.__next__" :=
  .of (owner := "reversed") (n := "__next__") (by rw [typeLookup_type, builtinLookup_eq_fast]; kernel_rfl) (by decide +kernel) (by decide +kernel) (by decide +kernel)
    (by first | exact .inl (by decide +kernel) | exact .inr (by decide +kernel)) (by rw [isSubtype_type]; kernel_rfl)
theorem entry_rv_next : entryFor table "reversed.__next__" = some Builtin.«reversed.__next__» := entryFor_of_tree (by kernel_rfl)
theorem args_rv_next_1 (a : Value) : argsOk "reversed.__next__" ⟨[a], []⟩ := by
  unfold argsOk; rw [signature?_of (id := "reversed.__next__") (n := ['_', '_', 't', 'x', 'e', 'n', '_', '_']) (o := ['d', 'e', 's', 'r', 'e', 'v', 'e', 'r']) (by kernel_rfl) owner_rv]; kernel_rfl
theorem slot_rv_iter : Slot "reversed" "__iter__" "reversed.__iter__" :=
  .of (owner := "reversed") (n := "__iter__") (by rw [typeLookup_type, builtinLookup_eq_fast]; kernel_rfl) (by decide +kernel) (by decide +kernel) (by decide +kernel)
    (by first | exact .inl (by decide +kernel) | exact .inr (by decide +kernel)) (by rw [isSubtype_type]; kernel_rfl)
theorem args_rv_iter_1 (a : Value) : argsOk "reversed.__iter__" ⟨[a], []⟩ := by
  unfold argsOk; rw [signature?_of (id := "reversed.__iter__") (n := ['_', '_', 'r', 'e', 't', 'i', '_', '_']) (o := ['d', 'e', 's', 'r', 'e', 'v', 'e', 'r']) (by kernel_rfl) owner_rv]; kernel_rfl
theorem entry_rv_iter : entryFor table "reversed.__iter__" = some Builtin.«dict_keyiterator.__iter__» :=
  entryFor_alias (id' := "dict_keyiterator.__iter__") (by kernel_rfl) (by first | rfl | decide +kernel | (unfold String.splitOn; simp +decide [String.splitOnAux])) (by decide +kernel) (by kernel_rfl)
theorem slot_rv_hint : Slot "reversed" "__length_hint__" "reversed.__length_hint__" :=
  .of (owner := "reversed") (n := "__length_hint__") (by rw [typeLookup_type, builtinLookup_eq_fast]; kernel_rfl) (by decide +kernel) (by decide +kernel) (by decide +kernel)
    (by first | exact .inl (by decide +kernel) | exact .inr (by decide +kernel)) (by rw [isSubtype_type]; kernel_rfl)
theorem entry_rv_hint : entryFor table "reversed.__length_hint__" = some Builtin.«reversed.__length_hint__» := entryFor_of_tree (by kernel_rfl)
theorem args_rv_hint_1 (a : Value) : argsOk "reversed.__length_hint__" ⟨[a], []⟩ := by
  unfold argsOk; rw [signature?_of (id := "reversed.__length_hint__") (n := ['_', '_', 't', 'n', 'i', 'h', '_', 'h', 't', 'g', 'n', 'e', 'l', '_', '_']) (o := ['d', 'e', 's', 'r', 'e', 'v', 'e', 'r']) (by kernel_rfl) owner_rv]; kernel_rfl
end F
end PySem
namespace CW
open PySem PySem.Spec PyProof.Rows L2
section
variable {prog : Program} {w : World} {A : Around} {E : Value → Shared → Prop} {s : Shared}
def rvObj (t : Addr) (i : Int) : Obj := { cls := .type "reversed", data := .fields #[.ref t, rawInt i] }
def IsRv (h : Heap) (a t : Addr) (i : Int) : Prop := ∃ o, h.get? a = some o ∧ o.cls = .type "reversed" ∧ o.data = .fields #[.ref t, rawInt i]
theorem IsRv.typeIs {a t : Addr} {i : Int} (x : IsRv s.heap a t i) : s.TypeIs (.ref a) "reversed" := let ⟨o, ho, hc, _⟩ := x; ⟨o, ho, hc⟩
theorem IsRv.at {h h' : Heap} {a t : Addr} {i : Int} (x : IsRv h a t i) (e : ∀ o, h.get? a = some o → h'.get? a = some o) : IsRv h' a t i := let ⟨o, ho, r⟩ := x; ⟨o, e _ ho, r⟩
theorem IsTup.at {h h' : Heap} {a : Addr} {its : Array Value} (x : IsTup h a its) (e : ∀ o, h.get? a = some o → h'.get? a = some o) : IsTup h' a its := let ⟨o, ho, r⟩ := x; ⟨o, e _ ho, r⟩
theorem spec_tup_rv {t : Addr} {its : Array Value} {Q : Option Value → Shared → Prop} (ht : IsTup s.heap t its) (h : Q none s) : wpAny (model prog w) A (specialOf (.ref t) "__reversed__") Q E s :=
  wpAny_specialOf ht.typeIs (by rw [typeLookup_type, builtinLookup_eq_fast]; kernel_rfl) h
theorem slot_rv_item {t : Addr} {its : Array Value} {Q : Bool → Shared → Prop} (ht : IsTup s.heap t its) (h : Q true s) : wpAny (model prog w) A (do
  if ← isInstance (.ref t) (.type "dict") then return false
  match ← specialOf (.ref t) "__getitem__" with
  | none => return false
  | some (.builtin id) =>
    if ["tuple.__getitem__", "str.__getitem__", "bytes.__getitem__", "bytearray.__getitem__", "memoryview.__getitem__", "numpy.ndarray.__getitem__", "sqlite3.Row.__getitem__"].contains id then return true
    if id == "sqlite3.Blob.__getitem__" then return false
    unsupported "reversed.__new__:is-it-a-sequence"
  | some _ => return true) Q E s := by
  refine wpAny_bind (wpAny_isInstance (T := "tuple") (b := false) ht.typeIs (by rw [isSubtype_type]; kernel_rfl) ?_)
  rw [if_neg Bool.false_ne_true]
  refine wpAny_bind (wpAny_specialOf ht.typeIs slot_tuple_getitem.lookup ?_)
  show wpAny _ _ (if (["tuple.__getitem__", "str.__getitem__", "bytes.__getitem__", "bytearray.__getitem__", "memoryview.__getitem__", "numpy.ndarray.__getitem__", "sqlite3.Row.__getitem__"].contains "tuple.__getitem__") = true then _ else _) _ _ _
  rw [if_pos (by decide +kernel)]
  exact wpAny_pure h
theorem slot_rv_init : Slot "reversed" "__init__" "object.__init__" :=
  .of (owner := "object") (n := "__init__") (by rw [typeLookup_type, builtinLookup_eq_fast]; kernel_rfl) (by decide +kernel) (by decide +kernel) (by decide +kernel)
    (by first | exact .inl (by decide +kernel) | exact .inr (by decide +kernel)) (by rw [isSubtype_type]; kernel_rfl)
theorem called_rv : TypeCalled "reversed" "reversed.__new__" "object.__init__" :=
  ⟨by decide +kernel, by decide +kernel, ⟨_, _, F.mro_reversed⟩, F.made_reversed, by decide +kernel, F.sub_reversed_self, slot_rv_init⟩
theorem rv_new_meets (t : Addr) (its : Array Value) (hz : (its.size : Int) < 2 ^ 63) :
    Meets (Builtin.«reversed.__new__» ⟨[.type "reversed", .ref t], []⟩) (fun _ R s => IsTup s.heap t its ∧ R (.ok (.ret (.ref s.heap.objs.size))) { s with heap := s.heap.push (rvObj t ((its.size : Int) - 1)), toks := s.toks + 1 + 1 }) := by
  refine Meets.of_wp fun prog w A R s hs => ?_
  obtain ⟨ht, h⟩ := hs
  unfold Builtin.«reversed.__new__»
  refine wpAny_bind (wpAny_of_eq (newClass_reversed _) ?_)
  try dsimp only
  refine wpAny_bind (wpAny_of_eq (a := ()) (by first | rfl | kernel_rfl) ?_)
  refine wpAny_bind (wpAny_of_eq (a := ()) (by first | rfl | kernel_rfl) ?_)
  try dsimp only
  refine wpAny_bind (spec_tup_rv ht ?_)
  try dsimp only
  refine wpAny_bind (slot_rv_item ht ?_)
  rw [if_neg (by decide)]
  refine wpAny_bind (len_tuple ht hz ?_)
  refine wpAny_bind (wpAny_pure ?_)
  try dsimp only
  refine wpAny_bind ?_
  show wpAny _ _ (newObj (.type "reversed") (.fields #[.ref t, rawInt ((its.size : Int) - 1)])) _ _ _
  exact wpAny_newObj_type (wpAny_pure ⟨_, rfl, h⟩)
theorem call_rv_tup {t : Addr} {its : Array Value} {Q : Value → Shared → Prop} (ht : IsTup s.heap t its) (hz : (its.size : Int) < 2 ^ 63)
    (h : Q (.ref s.heap.objs.size) { s with heap := s.heap.push (rvObj t ((its.size : Int) - 1)), toks := s.toks + 1 + 1 }) : wpAny (model prog w) A (call (.type "reversed") [.ref t]) Q E s :=
  callType_new called_rv (by decide) (F.typeCall_reversed_1 _) (F.newCall_reversed_1 _) (fun obj => F.args_object_init_2 obj _) F.entry_reversed_new (rv_new_meets t its hz) ⟨ht, ⟨_, Heap.get?_push_size _ rfl, rfl⟩, h⟩
theorem rv_item {it t : Addr} {i : Nat} {its : Array Value} {x : Value} {Q : Option Value → Shared → Prop} (hit : IsRv s.heap it t (i : Int)) (ht : IsTup s.heap t its) (hz : its.size ≤ 1000000) (hx : its[i]? = some x)
    (hQ : ∀ h' tk, IsRv h' it t ((i : Int) - 1) → Heap.SameBut it s.heap h' → Q (some x) { s with heap := h', toks := tk }) : wpAny (model prog w) A (pyNext (.ref it)) Q E s := by
  obtain ⟨o, ho, hc, hd⟩ := id hit
  unfold pyNext
  refine wpAny_bind (wpAny_attempt (wpAny_callSpecial?_slot (name := Str.ofString "__next__") hit.typeIs F.slot_rv_next
    (wpAny_call_entry F.slot_rv_next hit.typeIs F.entry_rv_next ?_ (F.args_rv_next_1 _))))
  unfold Builtin.«reversed.__next__»
  refine wpAny_bind (wpAny_of_eq (a := (Value.ref it, [])) rfl ?_)
  try dsimp only
  refine wpAny_bind (wpAny_field ho hd (x := .ref t) rfl ?_)
  refine wpAny_bind (wpAny_field ho hd (x := rawInt (i : Int)) rfl ?_)
  show wpAny _ _ (if (i : Int) < 0 then _ else _) _ _ s
  rw [if_neg (by omega)]
  refine wpAny_bind (wpAny_specialOf ht.typeIs slot_tuple_getitem.lookup ?_)
  rw [if_neg (by decide)]
  refine wpAny_bind (wpAny_mkInt ?_)
  have hi : i < its.size := by have := (Array.getElem?_eq_some_iff.mp hx).1; exact this
  refine wpAny_bind (wpAny_attempt (getItem_tuple ht (by omega) (by omega) (j := i) ?_ hx ?_))
  · exact seqIndex_of (by omega) (by omega)
  try dsimp only
  refine wpAny_bind (wpAny_field ho hd (x := rawInt (i : Int)) rfl ?_)
  show wpAny _ _ (setField (.ref it) 1 (rawInt ((i : Int) - 1)) >>= _) _ _ _
  refine wpAny_bind (wpAny_setField ho hd (by simp) ?_)
  refine wpAny_pure ⟨x, rfl, wpAny_pure (hQ _ _ ?_ (Heap.SameBut.update ..))⟩
  exact ⟨_, Heap.get?_update_self _ ho (Obj.isFreed_of_fields (Obj.data_mapFields hd _)), (Obj.cls_mapFields ..).trans hc, by
    rw [Obj.data_mapFields hd]; simp⟩
theorem rv_end {it t : Addr} {Q : Option Value → Shared → Prop} (hh : A.handled = none) (hit : IsRv s.heap it t (-1))
    (hQ : ∀ h', Heap.ExtBut it s.heap h' → Q none { s with heap := h' }) : wpAny (model prog w) A (pyNext (.ref it)) Q E s := by
  obtain ⟨o, ho, hc, hd⟩ := id hit
  unfold pyNext
  refine wpAny_bind (wpAny_attempt (wpAny_callSpecial?_slot (name := Str.ofString "__next__") hit.typeIs F.slot_rv_next
    (wpAny_call_entry F.slot_rv_next hit.typeIs F.entry_rv_next ?_ (F.args_rv_next_1 _))))
  unfold Builtin.«reversed.__next__»
  refine wpAny_bind (wpAny_of_eq (a := (Value.ref it, [])) rfl ?_)
  try dsimp only
  refine wpAny_bind (wpAny_field ho hd (x := .ref t) rfl ?_)
  refine wpAny_bind (wpAny_field ho hd (x := rawInt (-1)) rfl ?_)
  show wpAny _ _ (if (-1 : Int) < 0 then _ else _) _ _ s
  rw [if_pos (by decide)]
  refine wpAny_bind (wpAny_rule ?_)
  refine wpAny_bind ?_
  show wpAny _ _ (setField (.ref it) 1 (rawInt (-1)) >>= fun _ => setField (.ref it) 0 .none) _ _ _
  refine wpAny_bind (wpAny_setField ho hd (by simp) ?_)
  have hd2 : (o.mapFields (·.set! 1 (rawInt (-1)))).data = .fields #[.ref t, rawInt (-1)] := by rw [Obj.data_mapFields hd]; simp
  have ho2 := Heap.get?_update_self (Obj.mapFields (·.set! 1 (rawInt (-1)))) ho (Obj.isFreed_of_fields (Obj.data_mapFields hd _))
  refine wpAny_setField ho2 hd2 (by simp) ?_
  refine wpAny_bind ?_
  show wpAny _ _ (newExc (.type "StopIteration") [] >>= _) _ _ _
  refine wpAny_bind ?_
  simp only [newExc, newTuple]
  refine wpAny_bind (wpAny_newObj_type ?_ (by size_fits))
  refine wpAny_bind (m := firstArgMember _ _) (wpAny_of_eq (a := Value.none) (by first | rfl | (simp only [firstArgMember]; rfl)) ?_)
  refine wpAny_newObj_type ?_ (by size_fits)
  simp only [raiseNew]
  refine wpAny_bind (wpAny_handled ?_)
  first | rw [show A.in1.handled = none from hh] | rw [hh]
  refine wpAny_bind (wpAny_pure (wpAny_throw ?_))
  refine wpAny_bind (wpAny_isInstance (T := "StopIteration") (b := true) ⟨_, Heap.get?_push_size _ rfl, rfl⟩ isSubtype_stop ?_)
  exact wpAny_pure (hQ _ (((Heap.ExtBut.trans (Heap.SameBut.update ..).extBut (Heap.SameBut.update ..).extBut).push _).push _))
theorem rv_iter {it t : Addr} {i : Int} {Q : Value → Shared → Prop} (hit : IsRv s.heap it t i) (h : Q (.ref it) s) : wpAny (model prog w) A (pyIter (.ref it)) Q E s := by
  refine wpAny_pyIter_slot hit.typeIs F.slot_rv_iter (wpAny_call_entry F.slot_rv_iter hit.typeIs F.entry_rv_iter ?_ (F.args_rv_iter_1 _))
  show wpAny _ _ (ret (.ref it)) _ _ s
  exact wpAny_pure ⟨_, rfl, "reversed", _, hit.typeIs, F.slot_rv_next.lookup, h⟩
theorem walkRv (hh : A.handled = none) (I t : Addr) (hne : t ≠ I) (its : Array Value) (hz : its.size ≤ 1000000) :
    Walks prog w A I [I, t] [I] its.size (fun i v => its[its.size - 1 - i]? = some v) (fun i h => i ≤ its.size ∧ IsRv h I t ((its.size : Int) - 1 - (i : Int)) ∧ IsTup h t its) where
  sub := fun b hb => by simp at hb; simp [hb]
  frame := fun _ _ _ x hk => ⟨x.1, x.2.1.at fun o e => hk I (by simp) o e, IsTup.at x.2.2 fun o e => hk t (by simp) o e⟩
  item := fun i s Q E hi x hQ => by
    have e : (its.size : Int) - 1 - (i : Int) = ((its.size - 1 - i : Nat) : Int) := by omega
    have hit := x.2.1
    rw [e] at hit
    have hx : its[its.size - 1 - i]? = some (its[its.size - 1 - i]'(by omega)) := Array.getElem?_eq_getElem (by omega)
    refine rv_item hit x.2.2 hz hx fun h' tk hit' hs' => ?_
    have e2 : ((its.size - 1 - i : Nat) : Int) - 1 = (its.size : Int) - 1 - ((i + 1 : Nat) : Int) := by omega
    rw [e2] at hit'
    exact hQ _ h' tk hx ⟨hi, hit', IsTup.at x.2.2 fun o eo => (hs'.2 t hne).trans eo⟩ fun b o hb eo => hs'.extBut b o (fun h => hb (by simp [h])) eo
  done := fun s Q E x hQ => by
    have e : (its.size : Int) - 1 - (its.size : Int) = -1 := by omega
    have hit := x.2.1
    rw [e] at hit
    exact rv_end hh hit fun h' he' => hQ h' s.toks fun b o hb eo => he' b o (fun h => hb (by simp [h])) eo
  self := fun _ _ _ _ x hQ => rv_iter x.2.1 hQ
theorem rv_hint {it t : Addr} {i : Int} {its : Array Value} {Q : Bool → Shared → Prop} (hh : A.handled = none) (hit : IsRv s.heap it t i) (ht : IsTup s.heap t its) (hz : its.size ≤ 1000000) (hi : i + 1 = its.size) (h : ∀ b tk, Q b { s with toks := tk }) : wpAny (model prog w) A (Builtin.List.listLengthHint (.ref it)) Q E s := by
  unfold Builtin.List.listLengthHint
  refine wpAny_bind (wpAny_specialOf (r := none) hit.typeIs (by rw [typeLookup_type, builtinLookup_eq_fast]; kernel_rfl) ?_)
  try dsimp only
  refine wpAny_ite_split (fun hab => absurd hab (by decide +kernel)) (fun _ => ?_)
  refine wpAny_ite_split (fun hab => absurd hab (by decide +kernel)) (fun _ => ?_)
  refine wpAny_bind (wpAny_specialOf hit.typeIs F.slot_rv_hint.lookup ?_)
  try dsimp only
  generalize hid : ("reversed.__length_hint__" : String) = id0
  rw [show splitId id0 = some ("reversed", "__length_hint__") from by subst hid; decide +kernel]
  subst hid
  try dsimp only
  refine wpAny_bind (wpAny_isInstance (T := "reversed") (b := true) hit.typeIs F.sub_reversed_self ?_)
  refine wpAny_ite_split (fun hab => absurd hab (by decide)) (fun _ => ?_)
  refine wpAny_ite_split (fun hab => absurd hab (by decide +kernel)) (fun _ => ?_)
  refine wpAny_bind (wpAny_rule ?_)
  refine wpAny_bind (wpAny_of_eq (F.slot_rv_hint.bind _) ?_)
  try dsimp only
  refine wpAny_bind (wpAny_attempt (wpAny_call_entry F.slot_rv_hint hit.typeIs F.entry_rv_hint ?_ (F.args_rv_hint_1 _)))
  obtain ⟨o, ho, hc, hd⟩ := id hit
  unfold Builtin.«reversed.__length_hint__»
  refine wpAny_bind (wpAny_of_eq (a := Value.ref it) rfl ?_)
  refine wpAny_bind (wpAny_field ho hd (x := .ref t) rfl ?_)
  rw [if_neg (by simp)]
  refine wpAny_bind (len_tuple ht (by omega) ?_)
  refine wpAny_bind (wpAny_pure ?_)
  try dsimp only
  refine wpAny_bind (wpAny_field ho hd (x := rawInt i) rfl ?_)
  show wpAny _ _ (if ((its.size : Nat) : Int) < i + 1 then _ else retInt (i + 1)) _ _ _
  rw [if_neg (by omega)]
  refine wpAny_bind (wpAny_mkInt (wpAny_pure ⟨_, rfl, ?_⟩))
  show wpAny _ _ (asInt? (Value.int (i + 1) _) >>= _) _ _ _
  refine wpAny_bind (wpAny_pure ?_)
  try dsimp only
  have f1 : Builtin.List.listFitsIndex (i + 1) = true := by unfold Builtin.List.listFitsIndex; simp; omega
  have f2 : Builtin.List.listTooLong (i + 1).toNat = false := by unfold Builtin.List.listTooLong; simp [sizeLine_eq]; omega
  rw [f1, f2]
  simp only [Bool.not_true, Bool.false_eq_true, if_false]
  rw [if_neg (by omega)]
  exact wpAny_pure (h _ _)
abbrev RvAt (its : Array Value) (i : Nat) (v : Value) : Prop := its[its.size - 1 - i]? = some v
theorem extend_rv {R : Result → Shared → Prop} {d t : Addr} {its : Array Value} (hh : A.handled = none) (hit : IsRv s.heap d t ((its.size : Int) - 1)) (ht : IsTup s.heap t its) (hz : its.size ≤ 1000000) (S : Addr) (res : Value) (c₀ : Nat) (hS : s.heap.get? S = some { cls := .type "list", data := .seq #[] c₀ })
    (hR : ∀ h' tk acc' c', (∀ b o, b ≠ S → b ≠ d → s.heap.get? b = some o → h'.get? b = some o) → h'.get? S = some { cls := .type "list", dict := none, data := .seq acc' c', slots := #[] } →
      ItemsOf (RvAt its) acc' its.size → R (.ok (.ret res)) { s with heap := h', toks := tk }) :
    wpAny (model prog w) A.in1 (Builtin.List.listExtendWith (.ref S) (.ref d) res)
      (fun fin s' => match fin with | .done f => R (.ok f) s' | .again c' => c'.quiet = true ∧ codeAny (model prog w) A c' R s') (fun e s' => R (.error e) s') s := by
  have hT := hit.typeIs
  have hSd : S ≠ d := fun e => by
    obtain ⟨od, ho, hc, _⟩ := hit
    rw [e, ho] at hS
    have h1 := Option.some.inj hS
    rw [h1] at hc
    have h3 : Value.type "list" = Value.type "reversed" := hc
    exact absurd h3 (by decide)
  have hdt : t ≠ d := fun e => by
    obtain ⟨od, ho, hc, _⟩ := hit
    obtain ⟨ot, ho2, hc2, _⟩ := ht
    rw [e, ho] at ho2
    cases ho2
    rw [hc] at hc2
    exact absurd hc2 (by decide)
  have hSt : S ≠ t := fun e => by
    obtain ⟨ot, ho2, hc2, _⟩ := ht
    rw [e, ho2] at hS
    cases hS
    have h3 : Value.type "list" = Value.type "tuple" := hc2
    exact absurd h3 (by decide)
  have hSf : S ∉ [d, t] := fun hm => by
    rcases List.mem_cons.mp hm with z | z
    · exact hSd z
    · exact hSt (List.mem_singleton.mp z)
  have W := (walkRv (prog := prog) (w := w) (A := A.in1) hh d t hdt its hz).toS
  have key : ∀ (h : Heap) (c₁ tk : Nat), IsRv h d t ((its.size : Int) - 1) → (∀ b o, b ≠ S → s.heap.get? b = some o → h.get? b = some o) →
      h.get? S = some { cls := .type "list", data := .seq #[] c₁ } → codeAny (model prog w) A (.builtin "list.extend.loop" ⟨[.ref S, .ref d, res], []⟩) R { s with heap := h, toks := tk } := by
    intro h c₁ tk hit hk hS₁
    refine codeAny_extend_loopS W (by rw [sizeLine_eq]; omega) S hSf res its.size 0 _ #[] c₁ rfl (Nat.zero_le _) ⟨Nat.zero_le _, by simpa using hit, IsTup.at ht fun o e => hk t o (fun z => hSt z.symm) e⟩ hS₁ (ItemsOf.nil _) fun s' acc' c' hm hS' hacc => ?_
    rw [Moved.eq_with hm]
    refine hR s'.heap s'.toks acc' c' (fun b o hb hbd e => hm.heap b o (fun hmem => ?_) (hk b o hb e)) hS' hacc
    rcases List.mem_cons.mp hmem with e' | hmem
    · exact hb e'
    · exact hbd (List.mem_singleton.mp hmem)
  unfold Builtin.List.listExtendWith
  refine wpAny_bind (wpAny_typeOf (T := "reversed") hT ?_)
  have h1 : Builtin.List.listSameRef (.ref S) (.ref d) = false := by simp [Builtin.List.listSameRef, hSd]
  have h2 : (Value.type "reversed" == Value.type "list") = false := by decide
  have h3 : (Value.type "reversed" == Value.type "tuple") = false := by decide
  simp only [h1, h2, h3, Bool.or_false, Bool.false_eq_true, if_false]
  refine wpAny_bind (rv_iter hit ?_)
  refine wpAny_bind (wpAny_holding (rv_hint hh hit ht hz (by omega) fun b tk => ?_))
  refine wpAny_ite_split (fun _ => ?_) (fun _ => wpAny_pure ⟨plainId_quiet F.plain_extend_loop _, key _ c₀ _ hit (fun b o _ e => e) hS⟩)
  refine wpAny_bind (wpAny_rule ?_)
  refine wpAny_bind ?_
  show wpAny _ _ (updateSeq S (·.push .none) >>= fun _ => updateSeq S (·.pop)) _ _ _
  refine wpAny_bind (wpAny_updateSeq hS rfl ?_)
  have hS₂ := Heap.get?_update_self (Obj.mapSeq (·.push Value.none)) hS rfl
  refine wpAny_updateSeq (hz := by seq_fits) hS₂ rfl ?_
  have hS₃ := Heap.get?_update_self (Obj.mapSeq (·.pop)) hS₂ rfl
  refine wpAny_pure ⟨plainId_quiet F.plain_extend_loop _, key _ _ _ ?_ (fun b o hb e => ?_) hS₃⟩
  · obtain ⟨o, h1, h2⟩ := hit
    exact ⟨o, (Heap.get?_update_other _ _ hSd).trans ((Heap.get?_update_other _ _ hSd).trans h1), h2⟩
  · exact (Heap.get?_update_other _ _ (Ne.symm hb)).trans ((Heap.get?_update_other _ _ (Ne.symm hb)).trans e)
theorem coll_rv {Q : List Value → Shared → Prop} {d t : Addr} {its : Array Value} (hh : A.handled = none) (hit : IsRv s.heap d t ((its.size : Int) - 1)) (ht : IsTup s.heap t its) (hz : its.size ≤ 1000000)
    (q : ∀ h' tk (acc : Array Value), (∀ x o, x ≠ d → s.heap.get? x = some o → h'.get? x = some o) → ItemsOf (RvAt its) acc its.size → Q acc.toList { s with heap := h', toks := tk }) : wpAny (model prog w) A (collect (.ref d)) Q E s := by
  unfold collect
  refine wpAny_bind (wpAny_runValue (codeAny_builtin F.entry_proto_collect ?_)); rw [Around.under_plainId F.plain_proto_collect _]
  change wpAny _ A.in1 (newList [] >>= fun k => again (.builtin "list.__iadd__" ⟨[k, .ref d], []⟩)) _ _ s
  refine wpAny_bind (wpAny_newObj_type (wpAny_pure ⟨plainId_quiet F.plain_list_iadd _, codeAny_builtin F.entry_list_iadd ?_⟩)); rw [Around.under_plainId F.plain_list_iadd _]
  let s1 : Shared := { s with heap := s.heap.push { cls := .type "list", data := .seq ([] : List Value).toArray } }
  have hS : s1.heap.get? s.heap.objs.size = some { cls := .type "list", data := .seq #[] 0 } := Heap.get?_push_size _ rfl
  have hit1 : IsRv s1.heap d t ((its.size : Int) - 1) := hit.at fun o e => Heap.get?_push_of_some _ e
  have ht1 : IsTup s1.heap t its := IsTup.at ht fun o e => Heap.get?_push_of_some _ e
  change wpAny _ A.in1 (Builtin.List.listExtendWith (.ref s.heap.objs.size) (.ref d) (.ref s.heap.objs.size)) _ _ s1
  have fin' : ∀ h' tk (acc : Array Value) c', (∀ x o, x ≠ s.heap.objs.size → x ≠ d → s1.heap.get? x = some o → h'.get? x = some o) → h'.get? s.heap.objs.size = some { cls := .type "list", dict := none, data := .seq acc c', slots := #[] } → ItemsOf (RvAt its) acc its.size →
      wpAny (model prog w) A (match Value.ref s.heap.objs.size with
        | Value.ref k => do match (← load k).data with
          | Data.seq xs _ => pure xs.toList
          | _ => unsupported "internal:collect"
        | _ => unsupported "internal:collect") Q E { s1 with heap := h', toks := tk } := by
    intro h' tk acc c' hk hS' hacc
    change wpAny _ A (load s.heap.objs.size >>= _) _ _ _
    refine wpAny_bind (wpAny_load hS' (wpAny_pure ?_))
    exact q h' tk acc (fun x o hx e => hk x o (Nat.ne_of_lt (Heap.lt_size e)) hx (Heap.get?_push_of_some _ e)) hacc
  refine wpAny_mono (extend_rv (A := A) (s := s1) (R := fun res s' => ∃ h' tk acc c', res = .ok (.ret (.ref s.heap.objs.size)) ∧ s' = { s1 with heap := h', toks := tk } ∧ (∀ x o, x ≠ s.heap.objs.size → x ≠ d → s1.heap.get? x = some o → h'.get? x = some o) ∧ h'.get? s.heap.objs.size = some { cls := .type "list", dict := none, data := .seq acc c', slots := #[] } ∧ ItemsOf (RvAt its) acc its.size)
    hh hit1 ht1 hz _ _ 0 hS fun h' tk acc' c' hk hS' hacc => ⟨h', tk, acc', c', rfl, rfl, hk, hS', hacc⟩) (fun fin s' h => ?_) (fun e s' h => ?_)
  · cases fin with
    | done f =>
      obtain ⟨h', tk, acc, c', e, rfl, hk, hS', hacc⟩ := h
      cases e
      exact fin' h' tk acc c' hk hS' hacc
    | again k => exact ⟨h.1, codeAny_mono h.2 fun res s'' hr' => by
        obtain ⟨h', tk, acc, c', rfl, rfl, hk, hS', hacc⟩ := hr'
        exact fin' h' tk acc c' hk hS' hacc⟩
  · obtain ⟨h', tk, acc, c', e, _⟩ := h
    cases e
theorem tup_rv_meets (d t : Addr) (its : Array Value) (hz : its.size ≤ 1000000) :
    Meets (Builtin.«tuple.__new__» ⟨[.type "tuple", .ref d], []⟩) (fun A R s => A.handled = none ∧ IsRv s.heap d t ((its.size : Int) - 1) ∧ IsTup s.heap t its ∧ ∀ (h' : Heap) (tk : Nat) (acc : Array Value), (∀ x o, x ≠ d → s.heap.get? x = some o → h'.get? x = some o) → ItemsOf (RvAt its) acc its.size →
      R (.ok (.ret (.ref h'.objs.size))) { s with heap := h'.push { cls := .type "tuple", data := .seq acc }, toks := tk }) := by
  refine Meets.of_wp fun prog w A R s hs => ?_
  obtain ⟨hp, g, dr, tk, os⟩ := s
  obtain ⟨hh, hit, ht, h⟩ := hs
  have k1 := sub_tuple_self
  have k2 := init_tuple_lookup
  have k3 := madeHere_tuple
  have hT : Shared.TypeIs ⟨hp, g, dr, tk, os⟩ (.ref d) "reversed" := hit.typeIs
  wp_walk using wpAny_typeOf hT, coll_rv (A := A.in1) (show A.in1.handled = none from hh) hit ht hz
  intro h' tk' acc hk hacc
  change wpAny _ _ (Builtin.Tuple.tupleExact acc.toList.toArray >>= fun y => ret y) _ _ _
  unfold Builtin.Tuple.tupleExact
  refine wpAny_bind (wpAny_newObj_type (wpAny_pure ⟨_, rfl, ?_⟩) (by show acc.toList.toArray.size ≤ sizeLine; simp only [Array.toArray_toList]; rw [hacc.1, sizeLine_eq]; omega))
  rw [Array.toArray_toList]
  exact h h' tk' acc hk hacc
theorem call_tup_rv {Q : Value → Shared → Prop} {d t : Addr} {its : Array Value} (hh : A.handled = none) (hit : IsRv s.heap d t ((its.size : Int) - 1)) (ht : IsTup s.heap t its) (hz : its.size ≤ 1000000)
    (q : ∀ (h' : Heap) (tk : Nat) (acc : Array Value), (∀ x o, x ≠ d → s.heap.get? x = some o → h'.get? x = some o) → ItemsOf (RvAt its) acc its.size → Q (.ref h'.objs.size) { s with heap := h'.push { cls := .type "tuple", data := .seq acc }, toks := tk }) : wpAny (model prog w) A (call (.type "tuple") [.ref d]) Q E s :=
  callType_new F.called_tuple (by decide) (F.typeCall_tuple_1 _) (F.newCall_tuple_1 _) (fun obj => F.args_object_init_2 obj _) F.entry_tuple_new (tup_rv_meets d t its hz) ⟨hh, hit, ht, fun h' tk acc hk hacc => ⟨⟨_, Heap.get?_push_size _ rfl, rfl⟩, q h' tk acc hk hacc⟩⟩
theorem rv_list {its acc : Array Value} (h : ItemsOf (RvAt its) acc its.size) : acc.toList = its.toList.reverse := by
  apply List.ext_getElem?
  intro i
  rw [Array.getElem?_toList]
  by_cases hi : i < its.size
  · have h1 : acc[i]? = some (acc[i]'(by rw [h.1]; exact hi)) := Array.getElem?_eq_getElem _
    have h2 := h.2 i _ h1
    rw [List.getElem?_reverse (by simpa using hi), Array.getElem?_toList, h1, Array.length_toList]
    exact h2.symm
  · rw [Array.getElem?_eq_none (by rw [h.1]; omega), List.getElem?_eq_none (by simp; omega)]
end
/-- tuple(reversed(t)) -/
def tupRvE (g : Am) : Sm := fun env μ => match g env μ with
  | some ([.tup xs], μ1) => if xs.length ≤ 1000000 then some (.tup xs.reverse, μ1) else none
  | _ => none
theorem rds_rev {K : PySem.W.Frag} {R : List Addr} {H : Hp} : ∀ {ds : List D} {vs : List V}, RDs K R H ds vs → RDs K R H ds.reverse vs.reverse := by
  have app : ∀ {ds es : List D} {vs us : List V}, RDs K R H ds vs → RDs K R H es us → RDs K R H (ds ++ es) (vs ++ us) := by
    intro ds es vs us h1 h2
    induction ds generalizing vs with
    | nil => cases h1; exact h2
    | cons d ds ih => cases h1 with
      | cons r t => exact .cons r (ih t)
  intro ds
  induction ds with
  | nil => intro vs h; cases h; exact .nil
  | cons d ds ih => intro vs h; cases h with
    | cons r t => rw [List.reverse_cons, List.reverse_cons]; exact app (ih t) (.cons r .nil)
theorem vals_rev : ∀ {vs : List V} {us : List Value}, Vals vs us → Vals vs.reverse us.reverse := by
  intro vs
  induction vs with
  | nil => intro us h; cases h; exact .nil
  | cons v vs ih => intro us h; cases h with
    | cons r t => rw [List.reverse_cons, List.reverse_cons]; exact (ih t).append (.cons r .nil)
theorem de_tupRev {X : Cx} {a : Expr} {g : Am} {p pos p2 pos2 : Pos} {k : Nat} (hr : Room k X.A) (hm : X.mg "tuple" = none) (hm2 : X.mg "reversed" = none) (h : DL X [a] g) (hgl : Gl X "tuple" := by show _ = _; kernel_rfl) (hg2 : Gl X "reversed" := by show _ = _; kernel_rfl)
    (hs2 : starEach [a] X.env = [(false, eval a X.env)] := by kernel_rfl) (hs : starEach [.Call (.Name "reversed" p2) [a] [] pos2] X.env = [(false, eval (.Call (.Name "reversed" p2) [a] [] pos2) X.env)] := by kernel_rfl) :
    DE X (.Call (.Name "tuple" p) [.Call (.Name "reversed" p2) [a] [] pos2] [] pos) (tupRvE g) := by
  obtain ⟨ta, pa, qa⟩ := h.da.ex
  refine ⟨tSem X.K _, fun pins s σ H Q I ⟨R, μ, env, d, μ', rl, ef, kk⟩ => ?_, adq_sem⟩
  unfold tupRvE at ef
  split at ef
  · rename_i xs μ1 e1
    split at ef
    · rename_i hz
      cases ef
      have ht : ta σ H (fun vs H1 => ∃ R1 a0 ys, vs = [.ref a0] ∧ SqT X.K H1 a0 ys ∧ RDs X.K R1 H1 xs ys ∧ Ext R H R1 H1 ∧ HR X.K R1 H1 μ') := qa rl e1 fun vs H1 R1 x1 h1 r1 => by
        cases r1 with
        | cons r rr =>
          cases rr
          cases r with
          | tup g1 g2 => exact ⟨R1, _, _, rfl, g1, g2, x1, h1⟩
      refine wpAny_Call_Name_kw (ld_blt I hgl hm (show bootBuiltins "tuple" = some (.type "tuple") by decide +kernel) ?_ (by decide) (by decide))
      refine PyProof.Rows.callWith_type1 ?_ hs rfl
      rw [hs]
      change wpAny _ _ (spliced ((false, eval (.Call (.Name "reversed" p2) [a] [] pos2) X.env) :: backTo pos [])) _ _ s
      refine Calls.spliced_cons (thn (Q := fun y s5 => ∃ (s1 : Shared) (tk : Nat) (a0 : Addr) (its : List Value) (ys : List V) (H1 : Hp) (R1 : _), y = .ref s1.heap.objs.size ∧ s5 = { s1 with heap := s1.heap.push (rvObj a0 ((its.toArray.size : Int) - 1)), toks := tk } ∧ IsTup s1.heap a0 its.toArray ∧ Vals ys its ∧ RDs X.K R1 H1 xs ys ∧ Inv X pins σ H1 s1 ∧ Ext R H R1 H1 ∧ HR X.K R1 H1 μ') ?_ fun y s5 ⟨s1, tk, a0, its, ys, H1, R1, hy, hs5, htp, rv, rd, I1, x1, h1⟩ => ?_)
      · refine wpAny_Call_Name_kw (ld_blt I hg2 hm2 (show bootBuiltins "reversed" = some (.type "reversed") by decide +kernel) (PyProof.Rows.callWith_type1 (thn (pa pos2 pins s σ H _ I ht) fun us s1 ⟨vs, H1, I1, r1, R1, a0, ys, e, hq, rd, x1, h1⟩ => ?_) hs2 rfl))
        subst e
        rw [Vals.ref1 r1]
        obtain ⟨its, rv, p', hz'⟩ := I1.tuple hq
        have hl := rv.length
        have hlx := rd.length
        exact call_rv_tup p' (by simp; omega) ⟨s1, _, a0, its, ys, H1, R1, rfl, rfl, p', rv, rd, I1, x1, h1⟩
      · subst hy
        subst hs5
        refine Calls.spliced_nil ?_
        have hl := rv.length
        have hlx := rd.length
        have hit : IsRv (s1.heap.push (rvObj a0 ((its.toArray.size : Int) - 1))) s1.heap.objs.size a0 ((its.toArray.size : Int) - 1) := ⟨_, Heap.get?_push_size _ rfl, rfl, rfl⟩
        refine call_tup_rv hr.hd hit (IsTup.at htp fun o e => Heap.get?_push_of_some _ e) (by simp; omega) fun h' tk' acc hk hacc => ?_
        have hkk : ∀ x o, s1.heap.get? x = some o → h'.get? x = some o := fun x o e => hk x o (Nat.ne_of_lt (Heap.lt_size e)) (Heap.get?_push_of_some _ e)
        have I2 : Inv X pins σ H1 { s1 with heap := h', toks := tk' } := I1.kept (t' := tk') hkk
        have hf : H1 h'.objs.size = none := I2.hok.fresh (Nat.le_refl _)
        have hal : acc.toList = its.reverse := by rw [rv_list hacc]
        refine ⟨.ref h'.objs.size, upd H1 h'.objs.size (.tup ys.reverse), I2.laid (t' := tk') (fun x o e => Heap.get?_push_of_some _ e) (Nat.le_refl _) ⟨?_, acc.toList, ?_, ⟨_, Heap.get?_push_size _ rfl, rfl, _, rfl⟩⟩, rfl, ?_⟩
        · rw [List.length_reverse, sizeLine_eq]; omega
        · rw [hal]; exact vals_rev rv
        · exact kk _ _ _ (x1.trans (ext_laid hf)) (h1.laid hf) (.tup (SqT.of upd_same) ((rds_rev rd).ext (ext_laid hf)))
    · cases ef
  · cases ef
theorem wp_tupRv {g : Am} {env : CW.Env} {μ : Mu} {Q : D → Mu → Prop} (h : CW.wp (g env μ) fun ds m => ∃ xs, ds = [.tup xs] ∧ xs.length ≤ 1000000 ∧ Q (.tup xs.reverse) m) : CW.wp (tupRvE g env μ) Q := by
  obtain ⟨ds, m, e, xs, rfl, hz, q⟩ := h
  refine wp_eq ?_ q
  unfold tupRvE
  rw [e]; simp only; rw [if_pos hz]
end CW

namespace Lw
open PySem PySem.Spec PyProof.Rows L2 CW
def c_HOWS_AT_BOTH_ENDS : D := (.tup [(.str ("ring" : Str)), (.str ("show" : Str)), (.str ("talk" : Str)), (.str ("hold0" : Str)), (.str ("hold1" : Str))])
def sm_is_in : List D → Mu → Option (D × Mu) := mkSem 2 2 (retS (orV (bin eqD (bin ixD (vD 0) (cD (.int 0))) (vD 1)) (andV (bin eqD (bin ixD (vD 0) (cD (.int 1))) (vD 1)) (bin (inD false) (bin ixD (vD 0) (cD (.int 2))) (cD c_HOWS_AT_BOTH_ENDS)))))
def sm_is_talk_of : List D → Mu → Option (D × Mu) := mkSem 2 2 (retS (andV (bin eqD (bin ixD (vD 0) (cD (.int 2))) (cD (.str ("talk" : Str)))) (bin (inD false) (vD 1) (slE (vD 0) noP (somP (cD (.int 2)))))))
def sm_is_held_by : List D → Mu → Option (D × Mu) := mkSem 2 2 (retS (orV (andV (bin eqD (bin ixD (vD 0) (cD (.int 0))) (vD 1)) (bin eqD (bin ixD (vD 0) (cD (.int 2))) (cD (.str ("hold0" : Str))))) (andV (bin eqD (bin ixD (vD 0) (cD (.int 1))) (vD 1)) (bin eqD (bin ixD (vD 0) (cD (.int 2))) (cD (.str ("hold1" : Str)))))))
def sm_is_free : List D → Mu → Option (D × Mu) := mkSem 2 3 (retS (notV (allE true (seqI (vD 0)) (nmG 2) yesT (callE sm_is_in (consA (vD 2) (consA (vD 1) nilA))) [2])))
def sm_L_hand : List D → Mu → Option (D × Mu) := mkSem 1 6 (seqS (asgS (lstE (consA (cD (.int 0)) (consA (cD (.int 0)) (consA (cD (.int 0)) nilA)))) (nmG 1))
      (seqS (ifS (andT (tst (bin gtD (callE lenB (consA (vD 0) nilA)) (cD (.int 0)))) (tst (bin geD (bin ixD (vD 0) (cD (.int 0))) (bin powD (cD (.int 10)) (cD (.int 18)))))) (seqS (asgS (cD (.int 1)) (nmG 2))
      (forS (seqI (slE (vD 0) noP (somP (cD (.int 63))))) (nmG 3) (seqS (asgS (bin addD (bin ixD (vD 1) (cD (.int 0))) (bin mulD (bin modD (callE absB (consA (vD 3) nilA)) (bin powD (cD (.int 10)) (cD (.int 60)))) (vD 2))) (subG (vD 1) (cD (.int 0))))
      (asgS (bin mulD (vD 2) (bin powD (cD (.int 10)) (cD (.int 60)))) (nmG 2))))) skS)
      (seqS (forS (enumI (consA (slE (vD 0) noP (somP (cD (.int 63)))) nilA)) (tupG 2 (consG (nmG 4) (consG (nmG 3) nilG))) (seqS (asgS (bin addD (bin addD (bin modD (vD 3) (cD (.int 2305843009213693951))) (bin mulD (cD (.int 7919)) (vD 4))) (cD (.int 3))) (nmG 5))
      (asgS (bin modD (bin addD (bin mulD (bin ixD (vD 1) (cD (.int 1))) (cD (.int 48271))) (vD 5)) (cD (.int 2305843009213693951))) (subG (vD 1) (cD (.int 1))))))
      (retS (vD 1)))))
def sm_L_take : List D → Mu → Option (D × Mu) := mkSem 2 4 (seqS (ifS (tst (bin gtD (bin ixD (vD 0) (cD (.int 0))) (cD (.int 0)))) (seqS (asgS (bin modD (bin ixD (vD 0) (cD (.int 0))) (vD 1)) (nmG 3))
      (seqS (asgS (bin fdivD (bin ixD (vD 0) (cD (.int 0))) (vD 1)) (subG (vD 0) (cD (.int 0))))
      (retS (vD 3)))) skS)
      (seqS (asgS (bin addD (bin ixD (vD 0) (cD (.int 2))) (cD (.int 1))) (subG (vD 0) (cD (.int 2))))
      (seqS (asgS (bin modD (bin mulD (bin addD (bin addD (bin ixD (vD 0) (cD (.int 1))) (bin mulD (bin mulD (cD (.int 65537)) (bin ixD (vD 0) (cD (.int 2)))) (bin ixD (vD 0) (cD (.int 2))))) (cD (.int 11))) (cD (.int 48271))) (cD (.int 2305843009213693921))) (nmG 2))
      (seqS (asgS (bin modD (bin mulD (vD 2) (bin addD (bin modD (vD 2) (cD (.int 1000003))) (bin mulD (cD (.int 99991)) (bin ixD (vD 0) (cD (.int 2)))))) (cD (.int 2305843009213693907))) (nmG 2))
      (retS (bin modD (bin addD (bin fdivD (vD 2) (cD (.int 97))) (bin fdivD (vD 2) (cD (.int 1000033)))) (vD 1)))))))
def sm_L_calls : List D → Mu → Option (D × Mu) := mkSem 2 7 (seqS (asgS (lstE (consA (cD (.str ("ring" : Str))) (consA (cD (.str ("show" : Str))) (consA (cD (.str ("talk" : Str))) (consA (cD (.str ("hold0" : Str))) (consA (cD (.str ("hold1" : Str))) (consA (cD (.str ("busy" : Str))) (consA (cD (.str ("shut" : Str))) (consA (cD (.str ("back" : Str))) nilA))))))))) (nmG 2))
      (seqS (asgS (lstE nilA) (nmG 3))
      (seqS (forS (rng1 (consA (vD 1) nilA)) (nmG 4) (forS (rng1 (consA (vD 4) nilA)) (nmG 5) (ifS (tst (bin gtD (callE sm_L_take (consA (vD 0) (consA (cD (.int 3)) nilA))) (cD (.int 0)))) (seqS (asgS (bin ixD (lstE (consA (tupE (consA (vD 5) (consA (vD 4) nilA))) (consA (tupE (consA (vD 4) (consA (vD 5) nilA))) nilA))) (callE sm_L_take (consA (vD 0) (consA (cD (.int 2)) nilA)))) (nmG 6))
      (dropS (metE appM (lstRecv (vD 3)) (consA (bin addD (vD 6) (tupE (consA (bin ixD (vD 2) (callE sm_L_take (consA (vD 0) (consA (cD (.int 8)) nilA)))) (consA (callE sm_L_take (consA (vD 0) (consA (cD (.int 2)) nilA))) nilA)))) nilA)))) skS)))
      (retS (callE tupB (consA (callE srtB (consA (vD 3) nilA)) nilA))))))
def sm_L_is_in : List D → Mu → Option (D × Mu) := mkSem 2 2 (retS (orV (bin eqD (vD 1) (bin ixD (vD 0) (cD (.int 0)))) (andV (bin eqD (vD 1) (bin ixD (vD 0) (cD (.int 1)))) (bin (inD true) (bin ixD (vD 0) (cD (.int 2))) (tupE (consA (cD (.str ("busy" : Str))) (consA (cD (.str ("shut" : Str))) (consA (cD (.str ("back" : Str))) nilA))))))))
def sm_L_holds : List D → Mu → Option (D × Mu) := mkSem 2 2 (retS (andV (bin (inD false) (bin ixD (vD 0) (cD (.int 2))) (tupE (consA (cD (.str ("hold0" : Str))) (consA (cD (.str ("hold1" : Str))) nilA)))) (bin eqD (bin ixD (vD 0) (callE intB (consA (bin eqD (bin ixD (vD 0) (cD (.int 2))) (cD (.str ("hold1" : Str)))) nilA))) (vD 1))))
def sm_L_same : Nat → List D → Mu → Option (D × Mu)
  | 0 => fun _ _ => none
  | n + 1 => mkSem 2 4 (seqS (ifS (tst (isiE "tuple" (vD 1))) (seqS (ifS (orT (notT (tst (isiE "tuple" (vD 0)))) (tst (bin neD (callE lenB (consA (vD 0) nilA)) (callE lenB (consA (vD 1) nilA))))) (retS (cD (.bl false))) skS)
      (retS (callE (allB false) (consA (lcE (zipI (consA (vD 0) (consA (vD 1) nilA))) (tupG 2 (consG (nmG 2) (consG (nmG 3) nilG))) yesT (callE (sm_L_same n) (consA (vD 2) (consA (vD 3) nilA))) [2, 3]) nilA)))) skS)
      (seqS (ifS (tst (bin (isND false) (vD 1) (cD .non))) (retS (bin (isND false) (vD 0) (cD .non))) skS)
      (seqS (ifS (tst (isiE "str" (vD 1))) (retS (andV (isiE "str" (vD 0)) (bin eqD (vD 0) (vD 1)))) skS)
      (seqS (ifS (orT (tst (isiE "bool" (vD 1))) (tst (isiE "bool" (vD 0)))) (retS (andV (isiE "bool" (vD 0)) (andV (isiE "bool" (vD 1)) (bin eqD (vD 0) (vD 1))))) skS)
      (retS (andV (isiE "int" (vD 0)) (bin eqD (vD 0) (vD 1))))))))
def sm_is_shown_to : List D → Mu → Option (D × Mu) := mkSem 2 2 (retS (andV (bin eqD (bin ixD (vD 0) (cD (.int 1))) (vD 1)) (bin eqD (bin ixD (vD 0) (cD (.int 2))) (cD (.str ("show" : Str))))))
def sm_shown_to : List D → Mu → Option (D × Mu) := mkSem 2 3 (seqS (forS (seqI (vD 0)) (nmG 2) (ifS (tst (callE sm_is_shown_to (consA (vD 2) (consA (vD 1) nilA)))) (retS (vD 2)) skS))
      (retS (cD .non)))
def c_OPPOSITES : List (Str × D) := [(("day" : Str), (.str ("night" : Str))), (("mute" : Str), (.str ("talk" : Str))), (("bare" : Str), (.str ("held" : Str))), (("clear" : Str), (.str ("shown" : Str))), (("used" : Str), (.str ("idle" : Str))), (("named" : Str), (.str ("hid" : Str)))]
def sm_has_talk : List D → Mu → Option (D × Mu) := mkSem 2 3 (retS (allE true (seqI (vD 0)) (nmG 2) yesT (callE sm_is_talk_of (consA (vD 2) (consA (vD 1) nilA))) [2]))
def sm_has_hold : List D → Mu → Option (D × Mu) := mkSem 2 3 (retS (allE true (seqI (vD 0)) (nmG 2) yesT (callE sm_is_held_by (consA (vD 2) (consA (vD 1) nilA))) [2]))
def sm_is_so : Nat → List D → Mu → Option (D × Mu)
  | 0 => fun _ _ => none
  | n + 1 => mkSem 5 5 (seqS (ifS (tst (una (kinD false c_OPPOSITES) (vD 4))) (retS (notV (callE (sm_is_so n) (consA (vD 0) (consA (vD 1) (consA (vD 2) (consA (vD 3) (consA (una (kgetD c_OPPOSITES) (vD 4)) nilA)))))))) skS)
      (seqS (ifS (tst (bin eqD (vD 4) (cD (.str ("night" : Str))))) (retS (bin eqD (vD 1) (cD (.int 1)))) skS)
      (seqS (ifS (tst (bin eqD (vD 4) (cD (.str ("talk" : Str))))) (retS (callE sm_has_talk (consA (vD 0) (consA (vD 2) nilA)))) skS)
      (seqS (ifS (tst (bin eqD (vD 4) (cD (.str ("held" : Str))))) (retS (callE sm_has_hold (consA (vD 0) (consA (vD 2) nilA)))) skS)
      (seqS (ifS (tst (bin eqD (vD 4) (cD (.str ("shown" : Str))))) (retS (bin (isND true) (callE sm_shown_to (consA (vD 0) (consA (vD 2) nilA))) (cD .non))) skS)
      (seqS (ifS (tst (bin eqD (vD 4) (cD (.str ("idle" : Str))))) (retS (callE sm_is_free (consA (vD 0) (consA (vD 2) nilA)))) skS)
      (retS (bin eqD (vD 3) (cD (.int 1))))))))))
def sm_L_is_so : List D → Mu → Option (D × Mu) := mkSem 5 8 (seqS (asgS (dctE (consP (cD (.str ("night" : Str))) (bin eqD (vD 1) (cD (.int 1))) (consP (cD (.str ("hid" : Str))) (bin eqD (vD 3) (cD (.int 1))) nilP))) (nmG 5))
      (seqS (putS (callE (allB true) (consA (lcE (seqI (vD 0)) (nmG 7) yesT (andV (bin eqD (bin ixD (vD 7) (cD (.int 2))) (cD (.str ("talk" : Str)))) (bin (inD false) (vD 2) (slE (vD 7) noP (somP (cD (.int 2)))))) [7]) nilA)) (vD 5) (cD (.str ("talk" : Str))))
      (seqS (putS (callE (allB true) (consA (lcE (seqI (vD 0)) (nmG 7) yesT (callE sm_L_holds (consA (vD 7) (consA (vD 2) nilA))) [7]) nilA)) (vD 5) (cD (.str ("held" : Str))))
      (seqS (putS (callE (allB true) (consA (lcE (seqI (vD 0)) (nmG 7) yesT (bin eqD (slE (vD 7) (somP (cD (.int 1))) (somP (cD (.int 3)))) (tupE (consA (vD 2) (consA (cD (.str ("show" : Str))) nilA)))) [7]) nilA)) (vD 5) (cD (.str ("shown" : Str))))
      (seqS (putS (callE (allB true) (consA (lcE (seqI (vD 0)) (nmG 7) yesT (callE sm_L_is_in (consA (vD 7) (consA (vD 2) nilA))) [7]) nilA)) (vD 5) (cD (.str ("used" : Str))))
      (seqS (asgS (dctE (consP (cD (.str ("day" : Str))) (cD (.str ("night" : Str))) (consP (cD (.str ("named" : Str))) (cD (.str ("hid" : Str))) (consP (cD (.str ("mute" : Str))) (cD (.str ("talk" : Str))) (consP (cD (.str ("bare" : Str))) (cD (.str ("held" : Str))) (consP (cD (.str ("clear" : Str))) (cD (.str ("shown" : Str))) (consP (cD (.str ("idle" : Str))) (cD (.str ("used" : Str))) nilP))))))) (nmG 6))
      (seqS (ifS (tst (bin (dinD false) (vD 4) (vD 6))) (retS (notV (bin dgetD (vD 5) (bin dgetD (vD 6) (vD 4))))) skS)
      (retS (bin dgetD (vD 5) (vD 4))))))))))
end Lw

namespace Lw
open PySem PySem.Spec PyProof.Rows L2 CW
def sm_fits : List D → Mu → Option (D × Mu) := mkSem 2 2 (retS (orV (bin (isND false) (vD 0) (cD .non)) (bin (inD false) (vD 1) (vD 0))))
def sm_are_so : List D → Mu → Option (D × Mu) := mkSem 5 6 (retS (allE false (seqI (vD 4)) (nmG 5) yesT (callE (sm_is_so 8) (consA (vD 0) (consA (vD 1) (consA (vD 2) (consA (vD 3) (consA (vD 5) nilA)))))) [5]))
def sm_all_fit : List D → Mu → Option (D × Mu) := mkSem 2 4 (retS (allE false (zipI (consA (vD 0) (consA (vD 1) nilA))) (tupG 2 (consG (nmG 2) (consG (nmG 3) nilG))) yesT (callE sm_fits (consA (vD 2) (consA (vD 3) nilA))) [2, 3]))
def sm_state_behind : List D → Mu → Option (D × Mu) := mkSem 5 12 (seqS (asgS (vD 4) (tupG 3 (consG (nmG 6) (consG (nmG 7) (consG (nmG 8) nilG)))))
      (seqS (asgS (vD 0) (tupG 3 (consG (nmG 9) (consG (nmG 10) (consG (nmG 11) nilG)))))
      (seqS (forS (seqI (vD 11)) (nmG 5) (ifS (andT (tst (bin eqD (bin ixD (vD 5) (cD (.int 0))) (vD 1))) (andT (tst (bin eqD (bin ixD (vD 5) (cD (.int 1))) (vD 6))) (andT (tst (callE sm_all_fit (consA (bin ixD (vD 5) (cD (.int 2))) (consA (vD 7) nilA)))) (tst (callE sm_are_so (consA (vD 2) (consA (vD 3) (consA (vD 9) (consA (vD 8) (consA (bin ixD (vD 5) (cD (.int 3))) nilA)))))))))) (retS (bin ixD (vD 5) (cD (.int 4)))) skS))
      (retS (vD 1)))))
def sm_told_on : List D → Mu → Option (D × Mu) := mkSem 5 7 (retS (tupGE (zipI (consA (bin ixD (vD 0) (cD (.int 1))) (consA (vD 1) nilA))) (tupG 2 (consG (nmG 5) (consG (nmG 6) nilG))) yesT (callE sm_state_behind (consA (vD 5) (consA (vD 6) (consA (vD 2) (consA (vD 3) (consA (vD 4) nilA)))))) [5, 6]))
def sm_L_pattern : List D → Mu → Option (D × Mu) := mkSem 2 4 (seqS (ifS (tst (bin eqD (callE sm_L_take (consA (vD 0) (consA (cD (.int 2)) nilA))) (cD (.int 0)))) (retS (cD .non)) skS)
      (seqS (asgS (callE sm_L_take (consA (vD 0) (consA (vD 1) nilA))) (nmG 2))
      (retS (callE tupB (consA (lcE (rng1 (consA (vD 1) nilA)) (nmG 3) (orT (tst (bin eqD (vD 3) (vD 2))) (tst (bin eqD (callE sm_L_take (consA (vD 0) (consA (cD (.int 3)) nilA))) (cD (.int 0))))) (vD 3) [3]) nilA)))))
def sm_L_tests : List D → Mu → Option (D × Mu) := mkSem 1 6 (seqS (asgS (lstE (consA (cD (.str ("night" : Str))) (consA (cD (.str ("day" : Str))) (consA (cD (.str ("talk" : Str))) (consA (cD (.str ("mute" : Str))) (consA (cD (.str ("held" : Str))) (consA (cD (.str ("bare" : Str))) (consA (cD (.str ("shown" : Str))) (consA (cD (.str ("clear" : Str))) (consA (cD (.str ("idle" : Str))) (consA (cD (.str ("used" : Str))) (consA (cD (.str ("hid" : Str))) (consA (cD (.str ("named" : Str))) nilA))))))))))))) (nmG 1))
      (seqS (asgS (bin ixD (lstE (consA (cD (.int 0)) (consA (cD (.int 0)) (consA (cD (.int 0)) (consA (cD (.int 1)) (consA (cD (.int 1)) (consA (cD (.int 1)) (consA (cD (.int 2)) (consA (cD (.int 3)) nilA))))))))) (callE sm_L_take (consA (vD 0) (consA (cD (.int 8)) nilA)))) (nmG 2))
      (seqS (asgS (lcE (rng1 (consA (vD 2) nilA)) (nmG 4) yesT (bin ixD (vD 1) (callE sm_L_take (consA (vD 0) (consA (cD (.int 12)) nilA)))) [4]) (nmG 3))
      (retS (callE tupB (consA (lcE (seqI (vD 1)) (nmG 5) (tst (bin (inD false) (vD 5) (vD 3))) (vD 5) [5]) nilA))))))
def sm_L_words : List D → Mu → Option (D × Mu) := mkSem 0 3 (seqS (asgS (lstE (consA (cD (.str ("comes" : Str))) (consA (cD (.str ("rings" : Str))) (consA (cD (.str ("shows" : Str))) (consA (cD (.str ("busy" : Str))) (consA (cD (.str ("shut" : Str))) (consA (cD (.str ("talks" : Str))) (consA (cD (.str ("ends" : Str))) (consA (cD (.str ("waits" : Str))) (consA (cD (.str ("holds" : Str))) (consA (cD (.str ("backs" : Str))) (consA (cD (.str ("dial" : Str))) nilA)))))))))))) (nmG 0))
      (seqS (asgS (bin addD (lcE (seqI (vD 0)) (nmG 2) yesT (tupE (consA (vD 2) (consA (cD (.int 2)) nilA))) [2]) (lstE (consA (tupE (consA (cD (.str ("sent" : Str))) (consA (cD (.int 3)) nilA))) nilA))) (nmG 1))
      (seqS (asgS (bin addD (vD 1) (lcE (seqI (lstE (consA (cD (.str ("take" : Str))) (consA (cD (.str ("drop" : Str))) (consA (cD (.str ("flash" : Str))) (consA (cD (.str ("joins" : Str))) (consA (cD (.str ("frees" : Str))) nilA))))))) (nmG 2) yesT (tupE (consA (vD 2) (consA (cD (.int 1)) nilA))) [2])) (nmG 1))
      (retS (bin addD (vD 1) (lcE (seqI (lstE (consA (cD (.str ("wait" : Str))) (consA (cD (.str ("turn" : Str))) (consA (cD (.str ("night" : Str))) (consA (cD (.str ("day" : Str))) (consA (cD (.str ("done" : Str))) nilA))))))) (nmG 2) yesT (tupE (consA (vD 2) (consA (cD (.int 0)) nilA))) [2]))))))
def sm_L_tale_rule : List D → Mu → Option (D × Mu) := mkSem 3 9 (seqS (asgS (callE sm_L_words nilA) (nmG 3))
      (seqS (asgS (bin ixD (vD 3) (bin ixD (lstE (consA (callE sm_L_take (consA (vD 0) (consA (cD (.int 22)) nilA))) (consA (cD (.int 0)) (consA (cD (.int 1)) (consA (cD (.int 5)) nilA))))) (callE sm_L_take (consA (vD 0) (consA (cD (.int 4)) nilA))))) (tupG 2 (consG (nmG 6) (consG (nmG 7) nilG))))
      (seqS (asgS (callE tupB (consA (lcE (rng1 (consA (vD 7) nilA)) (nmG 8) yesT (callE sm_L_pattern (consA (vD 0) (consA (vD 1) nilA))) [8]) nilA)) (nmG 4))
      (seqS (asgS (bin ixD (lstE (consA (cD .non) (consA (cD (.int 0)) (consA (bin modD (cD (.int 1)) (vD 2)) (consA (callE sm_L_take (consA (vD 0) (consA (vD 2) nilA))) (consA (callE sm_L_take (consA (vD 0) (consA (vD 2) nilA))) nilA)))))) (callE sm_L_take (consA (vD 0) (consA (cD (.int 5)) nilA)))) (nmG 5))
      (retS (tupE (consA (callE sm_L_take (consA (vD 0) (consA (vD 2) nilA))) (consA (vD 6) (consA (vD 4) (consA (callE sm_L_tests (consA (vD 0) nilA)) (consA (vD 5) nilA)))))))))))
def sm_L_led : List D → Mu → Option (D × Mu) := mkSem 5 18 (seqS (ifS (tst (bin (isND false) (vD 1) (cD .non))) (retS (cD .non)) skS)
      (seqS (asgS (vD 4) (tupG 3 (consG (nmG 5) (consG (nmG 6) (consG (nmG 7) nilG)))))
      (seqS (forS (seqI (bin ixD (vD 0) (cD (.int 2)))) (tupG 5 (consG (nmG 8) (consG (nmG 9) (consG (nmG 10) (consG (nmG 11) (consG (nmG 12) nilG)))))) (ifS (tst (bin eqD (tupE (consA (vD 8) (consA (vD 9) (consA (callE lenB (consA (vD 10) nilA)) nilA)))) (tupE (consA (vD 1) (consA (vD 5) (consA (callE lenB (consA (vD 6) nilA)) nilA)))))) (seqS (asgS (callE (allB false) (consA (lcE (zipI (consA (vD 10) (consA (vD 6) nilA))) (tupG 2 (consG (nmG 16) (consG (nmG 17) nilG))) yesT (callE sm_fits (consA (vD 16) (consA (vD 17) nilA))) [16, 17]) nilA)) (nmG 13))
      (seqS (asgS (lcE (seqI (vD 11)) (nmG 15) yesT (callE sm_L_is_so (consA (vD 2) (consA (vD 3) (consA (bin ixD (vD 0) (cD (.int 0))) (consA (vD 7) (consA (vD 15) nilA)))))) [15]) (nmG 14))
      (ifS (andT (tst (vD 13)) (tst (callE (allB false) (consA (vD 14) nilA)))) (retS (vD 12)) skS))) skS))
      (retS (vD 1)))))
def sm_L_event : List D → Mu → Option (D × Mu) := mkSem 2 10 (seqS (asgS (callE sm_L_words nilA) (nmG 2))
      (seqS (asgS (bin ixD (vD 2) (bin ixD (lstE (consA (callE sm_L_take (consA (vD 0) (consA (cD (.int 22)) nilA))) (consA (cD (.int 0)) (consA (cD (.int 1)) (consA (cD (.int 5)) nilA))))) (callE sm_L_take (consA (vD 0) (consA (cD (.int 4)) nilA))))) (tupG 2 (consG (nmG 6) (consG (nmG 7) nilG))))
      (seqS (ifS (tst (bin gtD (vD 7) (vD 1))) (asgS (tupE (consA (cD (.str ("rings" : Str))) (consA (cD (.int 2)) nilA))) (tupG 2 (consG (nmG 6) (consG (nmG 7) nilG)))) skS)
      (seqS (asgS (lstE nilA) (nmG 3))
      (seqS (forS (rng1 (consA (vD 7) nilA)) (nmG 4) (seqS (asgS (lcE (rng1 (consA (vD 1) nilA)) (nmG 9) (tst (bin (inD true) (vD 9) (vD 3))) (vD 9) [9]) (nmG 8))
      (dropS (metE appM (lstRecv (vD 3)) (consA (bin ixD (vD 8) (callE sm_L_take (consA (vD 0) (consA (callE lenB (consA (vD 8) nilA)) nilA)))) nilA)))))
      (seqS (asgS (cD (.int 0)) (nmG 5))
      (seqS (ifS (tst (bin (inD false) (vD 6) (tupE (consA (cD (.str ("comes" : Str))) (consA (cD (.str ("sent" : Str))) (consA (cD (.str ("rings" : Str))) (consA (cD (.str ("shows" : Str))) (consA (cD (.str ("busy" : Str))) (consA (cD (.str ("shut" : Str))) (consA (cD (.str ("talks" : Str))) (consA (cD (.str ("waits" : Str))) nilA))))))))))) (asgS (callE sm_L_take (consA (vD 0) (consA (cD (.int 2)) nilA))) (nmG 5)) skS)
      (retS (tupE (consA (vD 6) (consA (callE tupB (consA (vD 3) nilA)) (consA (vD 5) nilA))))))))))))
def sm_L_told_house : List D → Mu → Option (D × Mu) := mkSem 3 8 (seqS (asgS (lstE nilA) (nmG 3))
      (seqS (forS (rng1 (consA (vD 2) nilA)) (nmG 4) (seqS (asgS (bin addD (cD (.int 1)) (callE sm_L_take (consA (vD 0) (consA (cD (.int 8)) nilA)))) (nmG 5))
      (seqS (asgS (lcE (rng1 (consA (bin ixD (lstE (consA (cD (.int 1)) (consA (cD (.int 2)) (consA (cD (.int 4)) (consA (cD (.int 8)) (consA (cD (.int 16)) (consA (cD (.int 0)) nilA))))))) (callE sm_L_take (consA (vD 0) (consA (cD (.int 6)) nilA)))) nilA)) (nmG 7) yesT (callE sm_L_tale_rule (consA (vD 0) (consA (vD 1) (consA (vD 5) nilA)))) [7]) (nmG 6))
      (dropS (metE appM (lstRecv (vD 3)) (consA (tupE (consA (callE sm_L_take (consA (vD 0) (consA (vD 1) nilA))) (consA (tupE nilA) (consA (callE tupB (consA (vD 6) nilA)) nilA)))) nilA))))))
      (retS (tupE (consA (vD 1) (consA (callE tupB (consA (vD 3) nilA)) (consA (tupE nilA) nilA)))))))
end Lw

namespace Lw
open PySem PySem.Spec PyProof.Rows L2 CW
def top (i : Nat) : Stmt := PySem.Challenge.pw_callwishes_k37_tales_by_themselves.main.body.getD i (.Pass ⟨0, 0, 0, 0⟩)
structure Tx (mg : Str → Option Value) : Prop where
  abs : mg "abs" = none
  all : mg "all" = none
  any : mg "any" = none
  bool : mg "bool" = none
  enumerate : mg "enumerate" = none
  «int» : mg "int" = none
  isinstance : mg "isinstance" = none
  len : mg "len" = none
  range : mg "range" = none
  reversed : mg "reversed" = none
  sorted : mg "sorted" = none
  str : mg "str" = none
  tuple : mg "tuple" = none
  zip : mg "zip" = none
structure Cs (K : PySem.W.Frag) (mg : Str → Option Value) (P : Params) : Prop where
  HOWS_AT_BOTH_ENDS : GlD K mg "HOWS_AT_BOTH_ENDS" c_HOWS_AT_BOTH_ENDS
  OPPOSITES : GlK K mg P "OPPOSITES" c_OPPOSITES

section
variable {P : Program} {w : World} {K : PySem.W.Frag} {mg : Str → Option Value} {base : Heap}
abbrev s_fits : Stmt := top 1
abbrev N_fits : List Str := ["pattern", "line"]
theorem sc_fits : FnScope N_fits ["pattern", "line"] (defScope s_fits) := ⟨rfl, rfl, rfl, by decide +kernel, rfl, by decide +kernel, by decide +kernel⟩
theorem ok_fits {fa : Addr} {fd : FuncData} (T : Tx mg) (F : Fun K "fits" "fits" s_fits fa fd) (hm : mg "fits" = some (.ref fa)) (C : Cs K mg w.params)  : FnK P w K mg base 1 "fits" sm_fits :=
  fnK_of (fn_ok (k := 0) F sc_fits (fun cdv A outer s H E hr =>
      (ss_one (ds_ret (de_or (de_isN (de_var 0) de_non) (de_one (de_in hr (de_var 1) (de_var 0)))))))) hm F.kp (bindsP F rfl rfl (pnd sc_fits))

abbrev s_is_in : Stmt := top 5
abbrev N_is_in : List Str := ["call", "line"]
theorem sc_is_in : FnScope N_is_in ["call", "line"] (defScope s_is_in) := ⟨rfl, rfl, rfl, by decide +kernel, rfl, by decide +kernel, by decide +kernel⟩
theorem ok_is_in {fa : Addr} {fd : FuncData} (T : Tx mg) (F : Fun K "is_in" "is_in" s_is_in fa fd) (hm : mg "is_in" = some (.ref fa)) (C : Cs K mg w.params)  : FnK P w K mg base 1 "is_in" sm_is_in :=
  fnK_of (fn_ok (k := 0) F sc_is_in (fun cdv A outer s H E hr =>
      (ss_one (ds_ret (de_or (de_eq hr (de_ix (de_var 0) de_int) (de_var 1)) (de_one (de_and (de_eq hr (de_ix (de_var 0) de_int) (de_var 1)) (de_one (de_in hr (de_ix (de_var 0) de_int) (de_cst C.HOWS_AT_BOTH_ENDS)))))))))) hm F.kp (bindsP F rfl rfl (pnd sc_is_in))

abbrev s_is_talk_of : Stmt := top 6
abbrev N_is_talk_of : List Str := ["call", "line"]
theorem sc_is_talk_of : FnScope N_is_talk_of ["call", "line"] (defScope s_is_talk_of) := ⟨rfl, rfl, rfl, by decide +kernel, rfl, by decide +kernel, by decide +kernel⟩
theorem ok_is_talk_of {fa : Addr} {fd : FuncData} (T : Tx mg) (F : Fun K "is_talk_of" "is_talk_of" s_is_talk_of fa fd) (hm : mg "is_talk_of" = some (.ref fa)) (C : Cs K mg w.params)  : FnK P w K mg base 1 "is_talk_of" sm_is_talk_of :=
  fnK_of (fn_ok (k := 0) F sc_is_talk_of (fun cdv A outer s H E hr =>
      (ss_one (ds_ret (de_and (de_eq hr (de_ix (de_var 0) de_int) de_str) (de_one (de_in hr (de_var 1) (de_slice (de_var 0) do_none (do_some de_int))))))))) hm F.kp (bindsP F rfl rfl (pnd sc_is_talk_of))

abbrev s_is_held_by : Stmt := top 7
abbrev N_is_held_by : List Str := ["call", "line"]
theorem sc_is_held_by : FnScope N_is_held_by ["call", "line"] (defScope s_is_held_by) := ⟨rfl, rfl, rfl, by decide +kernel, rfl, by decide +kernel, by decide +kernel⟩
theorem ok_is_held_by {fa : Addr} {fd : FuncData} (T : Tx mg) (F : Fun K "is_held_by" "is_held_by" s_is_held_by fa fd) (hm : mg "is_held_by" = some (.ref fa)) (C : Cs K mg w.params)  : FnK P w K mg base 1 "is_held_by" sm_is_held_by :=
  fnK_of (fn_ok (k := 0) F sc_is_held_by (fun cdv A outer s H E hr =>
      (ss_one (ds_ret (de_or (de_and (de_eq hr (de_ix (de_var 0) de_int) (de_var 1)) (de_one (de_eq hr (de_ix (de_var 0) de_int) de_str))) (de_one (de_and (de_eq hr (de_ix (de_var 0) de_int) (de_var 1)) (de_one (de_eq hr (de_ix (de_var 0) de_int) de_str))))))))) hm F.kp (bindsP F rfl rfl (pnd sc_is_held_by))

abbrev s_is_shown_to : Stmt := top 8
abbrev N_is_shown_to : List Str := ["call", "line"]
theorem sc_is_shown_to : FnScope N_is_shown_to ["call", "line"] (defScope s_is_shown_to) := ⟨rfl, rfl, rfl, by decide +kernel, rfl, by decide +kernel, by decide +kernel⟩
theorem ok_is_shown_to {fa : Addr} {fd : FuncData} (T : Tx mg) (F : Fun K "is_shown_to" "is_shown_to" s_is_shown_to fa fd) (hm : mg "is_shown_to" = some (.ref fa)) (C : Cs K mg w.params)  : FnK P w K mg base 1 "is_shown_to" sm_is_shown_to :=
  fnK_of (fn_ok (k := 0) F sc_is_shown_to (fun cdv A outer s H E hr =>
      (ss_one (ds_ret (de_and (de_eq hr (de_ix (de_var 0) de_int) (de_var 1)) (de_one (de_eq hr (de_ix (de_var 0) de_int) de_str))))))) hm F.kp (bindsP F rfl rfl (pnd sc_is_shown_to))

abbrev s_shown_to : Stmt := top 9
abbrev N_shown_to : List Str := ["calls", "line", "call"]
theorem sc_shown_to : FnScope N_shown_to ["calls", "line"] (defScope s_shown_to) := ⟨rfl, rfl, rfl, by decide +kernel, rfl, by decide +kernel, by decide +kernel⟩
theorem ok_shown_to {fa : Addr} {fd : FuncData} (T : Tx mg) (F : Fun K "shown_to" "shown_to" s_shown_to fa fd) (hm : mg "shown_to" = some (.ref fa)) (C : Cs K mg w.params) (F_is_shown_to : FnK P w K mg base 1 "is_shown_to" sm_is_shown_to) : FnK P w K mg base 2 "shown_to" sm_shown_to :=
  fnK_of (fn_ok (k := 1) F sc_shown_to (fun cdv A outer s H E hr =>
      (ss_cons (ds_for rfl PassesOwn.never (di_seq (de_var 0)) (dg_name 2 sc_shown_to.nd) (ss_one (ds_if (dt_val (de_call F_is_shown_to (hr.mono (by decide)) (dl_cons (de_var 2) (dl_cons (de_var 1) dl_nil)))) (ss_one (ds_ret (de_var 2))) ss_nil)))
      (ss_one (ds_ret de_non))))) hm F.kp (bindsP F rfl rfl (pnd sc_shown_to))

abbrev s_has_talk : Stmt := top 10
abbrev N_has_talk : List Str := ["calls", "line", "call"]
theorem sc_has_talk : FnScope N_has_talk ["calls", "line"] (defScope s_has_talk) := ⟨rfl, rfl, rfl, by decide +kernel, rfl, by decide +kernel, by decide +kernel⟩
theorem ok_has_talk {fa : Addr} {fd : FuncData} (T : Tx mg) (F : Fun K "has_talk" "has_talk" s_has_talk fa fd) (hm : mg "has_talk" = some (.ref fa)) (C : Cs K mg w.params) {cc : Addr} (gt : GenT K mg base cc) (hcd : fd.code = .ref cc) (F_is_talk_of : FnK P w K mg base 1 "is_talk_of" sm_is_talk_of) : FnK P w K mg base 3 "has_talk" sm_has_talk :=
  fnK_of (fn_okG (k := 2) F hcd sc_has_talk (fun A outer s H E hr =>
      (ss_one (ds_ret (de_anyG T.any (GenE.mk' (k := 1) (own := [("call", 2)]) gt (hr.mono (by decide)) rfl sc_has_talk.nd (di_seq (de_var 0)) (gblkOk_by (N := N_has_talk) (sc := defScope s_has_talk) (by decide +kernel)) (fun _ _ _ _ _ _ _ hr => (dgw_name 2 sc_has_talk.nd)) (fun _ _ _ _ _ _ _ hr => dts_nil) (fun _ _ _ _ _ _ _ hr => (de_call F_is_talk_of (hr.mono (by decide)) (dl_cons (de_var 2) (dl_cons (de_var 1) dl_nil)))))))))) hm F.kp (bindsP F rfl rfl (pnd sc_has_talk))

abbrev s_has_hold : Stmt := top 11
abbrev N_has_hold : List Str := ["calls", "line", "call"]
theorem sc_has_hold : FnScope N_has_hold ["calls", "line"] (defScope s_has_hold) := ⟨rfl, rfl, rfl, by decide +kernel, rfl, by decide +kernel, by decide +kernel⟩
theorem ok_has_hold {fa : Addr} {fd : FuncData} (T : Tx mg) (F : Fun K "has_hold" "has_hold" s_has_hold fa fd) (hm : mg "has_hold" = some (.ref fa)) (C : Cs K mg w.params) {cc : Addr} (gt : GenT K mg base cc) (hcd : fd.code = .ref cc) (F_is_held_by : FnK P w K mg base 1 "is_held_by" sm_is_held_by) : FnK P w K mg base 3 "has_hold" sm_has_hold :=
  fnK_of (fn_okG (k := 2) F hcd sc_has_hold (fun A outer s H E hr =>
      (ss_one (ds_ret (de_anyG T.any (GenE.mk' (k := 1) (own := [("call", 2)]) gt (hr.mono (by decide)) rfl sc_has_hold.nd (di_seq (de_var 0)) (gblkOk_by (N := N_has_hold) (sc := defScope s_has_hold) (by decide +kernel)) (fun _ _ _ _ _ _ _ hr => (dgw_name 2 sc_has_hold.nd)) (fun _ _ _ _ _ _ _ hr => dts_nil) (fun _ _ _ _ _ _ _ hr => (de_call F_is_held_by (hr.mono (by decide)) (dl_cons (de_var 2) (dl_cons (de_var 1) dl_nil)))))))))) hm F.kp (bindsP F rfl rfl (pnd sc_has_hold))

abbrev s_is_free : Stmt := top 12
abbrev N_is_free : List Str := ["calls", "line", "call"]
theorem sc_is_free : FnScope N_is_free ["calls", "line"] (defScope s_is_free) := ⟨rfl, rfl, rfl, by decide +kernel, rfl, by decide +kernel, by decide +kernel⟩
theorem ok_is_free {fa : Addr} {fd : FuncData} (T : Tx mg) (F : Fun K "is_free" "is_free" s_is_free fa fd) (hm : mg "is_free" = some (.ref fa)) (C : Cs K mg w.params) {cc : Addr} (gt : GenT K mg base cc) (hcd : fd.code = .ref cc) (F_is_in : FnK P w K mg base 1 "is_in" sm_is_in) : FnK P w K mg base 3 "is_free" sm_is_free :=
  fnK_of (fn_okG (k := 2) F hcd sc_is_free (fun A outer s H E hr =>
      (ss_one (ds_ret (de_not (de_anyG T.any (GenE.mk' (k := 1) (own := [("call", 2)]) gt (hr.mono (by decide)) rfl sc_is_free.nd (di_seq (de_var 0)) (gblkOk_by (N := N_is_free) (sc := defScope s_is_free) (by decide +kernel)) (fun _ _ _ _ _ _ _ hr => (dgw_name 2 sc_is_free.nd)) (fun _ _ _ _ _ _ _ hr => dts_nil) (fun _ _ _ _ _ _ _ hr => (de_call F_is_in (hr.mono (by decide)) (dl_cons (de_var 2) (dl_cons (de_var 1) dl_nil))))))))))) hm F.kp (bindsP F rfl rfl (pnd sc_is_free))

abbrev s_is_so : Stmt := top 13
abbrev N_is_so : List Str := ["calls", "night", "me", "hid", "test"]
theorem sc_is_so : FnScope N_is_so ["calls", "night", "me", "hid", "test"] (defScope s_is_so) := ⟨rfl, rfl, rfl, by decide +kernel, rfl, by decide +kernel, by decide +kernel⟩
theorem ok_is_so {fa : Addr} {fd : FuncData} (T : Tx mg) (F : Fun K "is_so" "is_so" s_is_so fa fd) (hm : mg "is_so" = some (.ref fa)) (C : Cs K mg w.params) (F_has_talk : FnK P w K mg base 3 "has_talk" sm_has_talk) (F_has_hold : FnK P w K mg base 3 "has_hold" sm_has_hold) (F_is_free : FnK P w K mg base 3 "is_free" sm_is_free) (F_shown_to : FnK P w K mg base 2 "shown_to" sm_shown_to) : ∀ n, FnK P w K mg base (4 + n) "is_so" (sm_is_so n)
  | 0 => fnK_none hm F.kp (bindsP F rfl rfl (pnd sc_is_so))
  | n + 1 => by
    have ih := ok_is_so T F hm C F_has_talk F_has_hold F_is_free F_shown_to n
    exact fnK_of (fn_ok (k := 4 + n) F sc_is_so (fun cdv A outer s H E hr =>
      (ss_cons (ds_if (dt_kin C.OPPOSITES (de_var 4)) (ss_one (ds_ret (de_not (de_call ih hr (dl_cons (de_var 0) (dl_cons (de_var 1) (dl_cons (de_var 2) (dl_cons (de_var 3) (dl_cons (de_kget C.OPPOSITES (de_var 4)) dl_nil))))))))) ss_nil)
      (ss_cons (ds_if (dt_eq hr (de_var 4) de_str) (ss_one (ds_ret (de_eq hr (de_var 1) de_int))) ss_nil)
      (ss_cons (ds_if (dt_eq hr (de_var 4) de_str) (ss_one (ds_ret (de_call F_has_talk (hr.mono (by omega)) (dl_cons (de_var 0) (dl_cons (de_var 2) dl_nil))))) ss_nil)
      (ss_cons (ds_if (dt_eq hr (de_var 4) de_str) (ss_one (ds_ret (de_call F_has_hold (hr.mono (by omega)) (dl_cons (de_var 0) (dl_cons (de_var 2) dl_nil))))) ss_nil)
      (ss_cons (ds_if (dt_eq hr (de_var 4) de_str) (ss_one (ds_ret (de_notN (de_call F_shown_to (hr.mono (by omega)) (dl_cons (de_var 0) (dl_cons (de_var 2) dl_nil))) de_non))) ss_nil)
      (ss_cons (ds_if (dt_eq hr (de_var 4) de_str) (ss_one (ds_ret (de_call F_is_free (hr.mono (by omega)) (dl_cons (de_var 0) (dl_cons (de_var 2) dl_nil))))) ss_nil)
      (ss_one (ds_ret (de_eq hr (de_var 3) de_int))))))))))) hm F.kp (bindsP F rfl rfl (pnd sc_is_so))

abbrev s_are_so : Stmt := top 14
abbrev N_are_so : List Str := ["calls", "night", "me", "hid", "tests", "test"]
theorem sc_are_so : FnScope N_are_so ["calls", "night", "me", "hid", "tests"] (defScope s_are_so) := ⟨rfl, rfl, rfl, by decide +kernel, rfl, by decide +kernel, by decide +kernel⟩
theorem ok_are_so {fa : Addr} {fd : FuncData} (T : Tx mg) (F : Fun K "are_so" "are_so" s_are_so fa fd) (hm : mg "are_so" = some (.ref fa)) (C : Cs K mg w.params) {cc : Addr} (gt : GenT K mg base cc) (hcd : fd.code = .ref cc) (F_is_so : FnK P w K mg base 12 "is_so" (sm_is_so 8)) : FnK P w K mg base 14 "are_so" sm_are_so :=
  fnK_of (fn_okG (k := 13) F hcd sc_are_so (fun A outer s H E hr =>
      (ss_one (ds_ret (de_allG T.all (GenE.mk' (k := 12) (own := [("test", 5)]) gt (hr.mono (by decide)) rfl sc_are_so.nd (di_seq (de_var 4)) (gblkOk_by (N := N_are_so) (sc := defScope s_are_so) (by decide +kernel)) (fun _ _ _ _ _ _ _ hr => (dgw_name 5 sc_are_so.nd)) (fun _ _ _ _ _ _ _ hr => dts_nil) (fun _ _ _ _ _ _ _ hr => (de_call F_is_so (hr.mono (by decide)) (dl_cons (de_var 0) (dl_cons (de_var 1) (dl_cons (de_var 2) (dl_cons (de_var 3) (dl_cons (de_var 5) dl_nil))))))))))))) hm F.kp (bindsP F rfl rfl (pnd sc_are_so))

abbrev s_all_fit : Stmt := top 16
abbrev N_all_fit : List Str := ["patterns", "lines", "pattern", "line"]
theorem sc_all_fit : FnScope N_all_fit ["patterns", "lines"] (defScope s_all_fit) := ⟨rfl, rfl, rfl, by decide +kernel, rfl, by decide +kernel, by decide +kernel⟩
theorem ok_all_fit {fa : Addr} {fd : FuncData} (T : Tx mg) (F : Fun K "all_fit" "all_fit" s_all_fit fa fd) (hm : mg "all_fit" = some (.ref fa)) (C : Cs K mg w.params) {cc : Addr} (gt : GenT K mg base cc) (hcd : fd.code = .ref cc) (F_fits : FnK P w K mg base 1 "fits" sm_fits) : FnK P w K mg base 3 "all_fit" sm_all_fit :=
  fnK_of (fn_okG (k := 2) F hcd sc_all_fit (fun A outer s H E hr =>
      (ss_one (ds_ret (de_allG T.all (GenE.mk' (k := 1) (own := [("pattern", 2), ("line", 3)]) gt (hr.mono (by decide)) rfl sc_all_fit.nd (di_zip T.zip (dl_cons (de_var 0) (dl_cons (de_var 1) dl_nil))) (gblkOk_by (N := N_all_fit) (sc := defScope s_all_fit) (by decide +kernel)) (fun _ _ _ _ _ _ _ hr => (dgw_tup rfl (dgws_cons (dgw_name 2 sc_all_fit.nd) (dgws_cons (dgw_name 3 sc_all_fit.nd) dgws_nil)))) (fun _ _ _ _ _ _ _ hr => dts_nil) (fun _ _ _ _ _ _ _ hr => (de_call F_fits (hr.mono (by decide)) (dl_cons (de_var 2) (dl_cons (de_var 3) dl_nil)))))))))) hm F.kp (bindsP F rfl rfl (pnd sc_all_fit))

abbrev s_state_behind : Stmt := top 17
abbrev N_state_behind : List Str := ["wish", "state", "calls", "night", "event", "rule", "word", "lines", "hid", "me", "rules", "tale"]
theorem sc_state_behind : FnScope N_state_behind ["wish", "state", "calls", "night", "event"] (defScope s_state_behind) := ⟨rfl, rfl, rfl, by decide +kernel, rfl, by decide +kernel, by decide +kernel⟩
theorem ok_state_behind {fa : Addr} {fd : FuncData} (T : Tx mg) (F : Fun K "state_behind" "state_behind" s_state_behind fa fd) (hm : mg "state_behind" = some (.ref fa)) (C : Cs K mg w.params) (F_all_fit : FnK P w K mg base 3 "all_fit" sm_all_fit) (F_are_so : FnK P w K mg base 14 "are_so" sm_are_so) : FnK P w K mg base 15 "state_behind" sm_state_behind :=
  fnK_of (fn_ok (k := 14) F sc_state_behind (fun cdv A outer s H E hr =>
      (ss_cons (ds_asg (de_var 4) (dg_tup rfl (dgs_cons (dg_name 6 sc_state_behind.nd) (dgs_cons (dg_name 7 sc_state_behind.nd) (dgs_cons (dg_name 8 sc_state_behind.nd) dgs_nil)))))
      (ss_cons (ds_asg (de_var 0) (dg_tup rfl (dgs_cons (dg_name 9 sc_state_behind.nd) (dgs_cons (dg_name 10 sc_state_behind.nd) (dgs_cons (dg_name 11 sc_state_behind.nd) dgs_nil)))))
      (ss_cons (ds_for rfl PassesOwn.never (di_seq (de_var 11)) (dg_name 5 sc_state_behind.nd) (ss_one (ds_if (DW.dt (dw_and (dt_eq hr (de_ix (de_var 5) de_int) (de_var 1)) (dw_and (dt_eq hr (de_ix (de_var 5) de_int) (de_var 6)) (dw_and (dt_val (de_call F_all_fit (hr.mono (by decide)) (dl_cons (de_ix (de_var 5) de_int) (dl_cons (de_var 7) dl_nil)))) (dw_and1 (dt_val (de_call F_are_so (hr.mono (by decide)) (dl_cons (de_var 2) (dl_cons (de_var 3) (dl_cons (de_var 9) (dl_cons (de_var 8) (dl_cons (de_ix (de_var 5) de_int) dl_nil)))))))))))) (ss_one (ds_ret (de_ix (de_var 5) de_int))) ss_nil)))
      (ss_one (ds_ret (de_var 1)))))))) hm F.kp (bindsP F rfl rfl (pnd sc_state_behind))

abbrev s_told_on : Stmt := top 18
abbrev N_told_on : List Str := ["house", "tales", "calls", "night", "event", "wish", "state"]
theorem sc_told_on : FnScope N_told_on ["house", "tales", "calls", "night", "event"] (defScope s_told_on) := ⟨rfl, rfl, rfl, by decide +kernel, rfl, by decide +kernel, by decide +kernel⟩
theorem ok_told_on {fa : Addr} {fd : FuncData} (T : Tx mg) (F : Fun K "told_on" "told_on" s_told_on fa fd) (hm : mg "told_on" = some (.ref fa)) (C : Cs K mg w.params) {cc : Addr} (gt : GenT K mg base cc) (hcd : fd.code = .ref cc) (F_state_behind : FnK P w K mg base 15 "state_behind" sm_state_behind) : FnK P w K mg base 17 "told_on" sm_told_on :=
  fnK_of (fn_okG (k := 16) F hcd sc_told_on (fun A outer s H E hr =>
      (ss_one (ds_ret (de_tupG T.tuple (GenE.mk' (k := 15) (own := [("wish", 5), ("state", 6)]) gt (hr.mono (by decide)) rfl sc_told_on.nd (di_zip T.zip (dl_cons (de_ix (de_var 0) de_int) (dl_cons (de_var 1) dl_nil))) (gblkOk_by (N := N_told_on) (sc := defScope s_told_on) (by decide +kernel)) (fun _ _ _ _ _ _ _ hr => (dgw_tup rfl (dgws_cons (dgw_name 5 sc_told_on.nd) (dgws_cons (dgw_name 6 sc_told_on.nd) dgws_nil)))) (fun _ _ _ _ _ _ _ hr => dts_nil) (fun _ _ _ _ _ _ _ hr => (de_call F_state_behind (hr.mono (by decide)) (dl_cons (de_var 5) (dl_cons (de_var 6) (dl_cons (de_var 2) (dl_cons (de_var 3) (dl_cons (de_var 4) dl_nil))))))))))))) hm F.kp (bindsP F rfl rfl (pnd sc_told_on))

abbrev s_L_hand : Stmt := top 20
abbrev N_L_hand : List Str := ["_law_script", "_law_state", "_law_far", "_law_cell", "_law_k", "_law_one"]
theorem sc_L_hand : FnScope N_L_hand ["_law_script"] (defScope s_L_hand) := ⟨rfl, rfl, rfl, by decide +kernel, rfl, by decide +kernel, by decide +kernel⟩
theorem ok_L_hand {fa : Addr} {fd : FuncData} (T : Tx mg) (F : Fun K "_law_hand" "_law_hand" s_L_hand fa fd) (hm : mg "_law_hand" = some (.ref fa)) (C : Cs K mg w.params)  : FnK P w K mg base 1 "_law_hand" sm_L_hand :=
  fnK_of (fn_ok (k := 0) F sc_L_hand (fun cdv A outer s H E hr =>
      (ss_cons (ds_set 1 sc_L_hand.nd (de_lst (dl_cons de_int (dl_cons de_int (dl_cons de_int dl_nil)))))
      (ss_cons (ds_if (DW.dt (dw_and (dt_gt (de_len T.len (dl_cons (de_var 0) dl_nil)) de_int) (dw_and1 (dt_ge (de_ix (de_var 0) de_int) (de_pow de_int de_int))))) (ss_cons (ds_set 2 sc_L_hand.nd de_int)
      (ss_one (ds_for rfl PassesOwn.never (di_seq (de_slice (de_var 0) do_none (do_some de_int))) (dg_name 3 sc_L_hand.nd) (ss_cons (ds_asg (de_add (de_ix (de_var 1) de_int) (de_mul (de_mod (de_abs T.abs (dl_cons (de_var 3) dl_nil)) (de_pow de_int de_int)) (de_var 2))) (dg_sub (de_var 1) de_int))
      (ss_one (ds_set 2 sc_L_hand.nd (de_mul (de_var 2) (de_pow de_int de_int)))))))) ss_nil)
      (ss_cons (ds_for rfl PassesOwn.never (di_enum T.enumerate (dl_cons (de_slice (de_var 0) do_none (do_some de_int)) dl_nil)) (dg_tup rfl (dgs_cons (dg_name 4 sc_L_hand.nd) (dgs_cons (dg_name 3 sc_L_hand.nd) dgs_nil))) (ss_cons (ds_set 5 sc_L_hand.nd (de_add (de_add (de_mod (de_var 3) de_int) (de_mul de_int (de_var 4))) de_int))
      (ss_one (ds_asg (de_mod (de_add (de_mul (de_ix (de_var 1) de_int) de_int) (de_var 5)) de_int) (dg_sub (de_var 1) de_int)))))
      (ss_one (ds_ret (de_var 1)))))))) hm F.kp (bindsP F rfl rfl (pnd sc_L_hand))

abbrev s_L_take : Stmt := top 21
abbrev N_L_take : List Str := ["_law_state", "_law_many", "_law_mixed", "_law_digit"]
theorem sc_L_take : FnScope N_L_take ["_law_state", "_law_many"] (defScope s_L_take) := ⟨rfl, rfl, rfl, by decide +kernel, rfl, by decide +kernel, by decide +kernel⟩
theorem ok_L_take {fa : Addr} {fd : FuncData} (T : Tx mg) (F : Fun K "_law_take" "_law_take" s_L_take fa fd) (hm : mg "_law_take" = some (.ref fa)) (C : Cs K mg w.params)  : FnK P w K mg base 1 "_law_take" sm_L_take :=
  fnK_of (fn_ok (k := 0) F sc_L_take (fun cdv A outer s H E hr =>
      (ss_cons (ds_if (dt_gt (de_ix (de_var 0) de_int) de_int) (ss_cons (ds_set 3 sc_L_take.nd (de_mod (de_ix (de_var 0) de_int) (de_var 1)))
      (ss_cons (ds_asg (de_fdiv (de_ix (de_var 0) de_int) (de_var 1)) (dg_sub (de_var 0) de_int))
      (ss_one (ds_ret (de_var 3))))) ss_nil)
      (ss_cons (ds_asg (de_add (de_ix (de_var 0) de_int) de_int) (dg_sub (de_var 0) de_int))
      (ss_cons (ds_set 2 sc_L_take.nd (de_mod (de_mul (de_add (de_add (de_ix (de_var 0) de_int) (de_mul (de_mul de_int (de_ix (de_var 0) de_int)) (de_ix (de_var 0) de_int))) de_int) de_int) de_int))
      (ss_cons (ds_set 2 sc_L_take.nd (de_mod (de_mul (de_var 2) (de_add (de_mod (de_var 2) de_int) (de_mul de_int (de_ix (de_var 0) de_int)))) de_int))
      (ss_one (ds_ret (de_mod (de_add (de_fdiv (de_var 2) de_int) (de_fdiv (de_var 2) de_int)) (de_var 1)))))))))) hm F.kp (bindsP F rfl rfl (pnd sc_L_take))

abbrev s_L_calls : Stmt := top 22
abbrev N_L_calls : List Str := ["_law_state", "_law_n", "_law_hows", "_law_found", "_law_j", "_law_i", "_law_pair"]
theorem sc_L_calls : FnScope N_L_calls ["_law_state", "_law_n"] (defScope s_L_calls) := ⟨rfl, rfl, rfl, by decide +kernel, rfl, by decide +kernel, by decide +kernel⟩
theorem ok_L_calls {fa : Addr} {fd : FuncData} (T : Tx mg) (F : Fun K "_law_calls" "_law_calls" s_L_calls fa fd) (hm : mg "_law_calls" = some (.ref fa)) (C : Cs K mg w.params) (F_L_take : FnK P w K mg base 1 "_law_take" sm_L_take) : FnK P w K mg base 2 "_law_calls" sm_L_calls :=
  fnK_of (fn_ok (k := 1) F sc_L_calls (fun cdv A outer s H E hr =>
      (ss_cons (ds_set 2 sc_L_calls.nd (de_lst (dl_cons de_str (dl_cons de_str (dl_cons de_str (dl_cons de_str (dl_cons de_str (dl_cons de_str (dl_cons de_str (dl_cons de_str dl_nil))))))))))
      (ss_cons (ds_set 3 sc_L_calls.nd (de_lst dl_nil))
      (ss_cons (ds_for rfl PassesOwn.never (di_range1 T.range (dl_cons (de_var 1) dl_nil)) (dg_name 4 sc_L_calls.nd) (ss_one (ds_for rfl PassesOwn.never (di_range1 T.range (dl_cons (de_var 4) dl_nil)) (dg_name 5 sc_L_calls.nd) (ss_one (ds_if (dt_gt (de_call F_L_take (hr.mono (by decide)) (dl_cons (de_var 0) (dl_cons de_int dl_nil))) de_int) (ss_cons (ds_set 6 sc_L_calls.nd (de_ix (de_lst (dl_cons (de_tup (dl_cons (de_var 5) (dl_cons (de_var 4) dl_nil))) (dl_cons (de_tup (dl_cons (de_var 4) (dl_cons (de_var 5) dl_nil))) dl_nil))) (de_call F_L_take (hr.mono (by decide)) (dl_cons (de_var 0) (dl_cons de_int dl_nil)))))
      (ss_one (ds_expr (de_append (de_var 3) (dl_cons (de_add (de_var 6) (de_tup (dl_cons (de_ix (de_var 2) (de_call F_L_take (hr.mono (by decide)) (dl_cons (de_var 0) (dl_cons de_int dl_nil)))) (dl_cons (de_call F_L_take (hr.mono (by decide)) (dl_cons (de_var 0) (dl_cons de_int dl_nil))) dl_nil)))) dl_nil))))) ss_nil)))))
      (ss_one (ds_ret (de_tuple T.tuple (dl_cons (de_sorted T.sorted (dl_cons (de_var 3) dl_nil)) dl_nil))))))))) hm F.kp (bindsP F rfl rfl (pnd sc_L_calls))

abbrev s_L_is_in : Stmt := top 23
abbrev N_L_is_in : List Str := ["_law_call", "_law_line"]
theorem sc_L_is_in : FnScope N_L_is_in ["_law_call", "_law_line"] (defScope s_L_is_in) := ⟨rfl, rfl, rfl, by decide +kernel, rfl, by decide +kernel, by decide +kernel⟩
theorem ok_L_is_in {fa : Addr} {fd : FuncData} (T : Tx mg) (F : Fun K "_law_is_in" "_law_is_in" s_L_is_in fa fd) (hm : mg "_law_is_in" = some (.ref fa)) (C : Cs K mg w.params)  : FnK P w K mg base 1 "_law_is_in" sm_L_is_in :=
  fnK_of (fn_ok (k := 0) F sc_L_is_in (fun cdv A outer s H E hr =>
      (ss_one (ds_ret (de_or (de_eq hr (de_var 1) (de_ix (de_var 0) de_int)) (de_one (de_and (de_eq hr (de_var 1) (de_ix (de_var 0) de_int)) (de_one (de_notIn hr (de_ix (de_var 0) de_int) (de_tup (dl_cons de_str (dl_cons de_str (dl_cons de_str dl_nil))))))))))))) hm F.kp (bindsP F rfl rfl (pnd sc_L_is_in))

abbrev s_L_holds : Stmt := top 24
abbrev N_L_holds : List Str := ["_law_call", "_law_line"]
theorem sc_L_holds : FnScope N_L_holds ["_law_call", "_law_line"] (defScope s_L_holds) := ⟨rfl, rfl, rfl, by decide +kernel, rfl, by decide +kernel, by decide +kernel⟩
theorem ok_L_holds {fa : Addr} {fd : FuncData} (T : Tx mg) (F : Fun K "_law_holds" "_law_holds" s_L_holds fa fd) (hm : mg "_law_holds" = some (.ref fa)) (C : Cs K mg w.params)  : FnK P w K mg base 1 "_law_holds" sm_L_holds :=
  fnK_of (fn_ok (k := 0) F sc_L_holds (fun cdv A outer s H E hr =>
      (ss_one (ds_ret (de_and (de_in hr (de_ix (de_var 0) de_int) (de_tup (dl_cons de_str (dl_cons de_str dl_nil)))) (de_one (de_eq hr (de_ix (de_var 0) (de_int1 T.«int» (dl_cons (de_eq hr (de_ix (de_var 0) de_int) de_str) dl_nil))) (de_var 1)))))))) hm F.kp (bindsP F rfl rfl (pnd sc_L_holds))

abbrev s_L_is_so : Stmt := top 25
abbrev N_L_is_so : List Str := ["_law_calls_here", "_law_night", "_law_me", "_law_hid", "_law_test", "_law_so", "_law_turned", "_law_call"]
theorem sc_L_is_so : FnScope N_L_is_so ["_law_calls_here", "_law_night", "_law_me", "_law_hid", "_law_test"] (defScope s_L_is_so) := ⟨rfl, rfl, rfl, by decide +kernel, rfl, by decide +kernel, by decide +kernel⟩
theorem ok_L_is_so {fa : Addr} {fd : FuncData} (T : Tx mg) (F : Fun K "_law_is_so" "_law_is_so" s_L_is_so fa fd) (hm : mg "_law_is_so" = some (.ref fa)) (C : Cs K mg w.params) (F_L_holds : FnK P w K mg base 1 "_law_holds" sm_L_holds) (F_L_is_in : FnK P w K mg base 1 "_law_is_in" sm_L_is_in) : FnK P w K mg base 2 "_law_is_so" sm_L_is_so :=
  fnK_of (fn_ok (k := 1) F sc_L_is_so (fun cdv A outer s H E hr =>
      (ss_cons (ds_set 5 sc_L_is_so.nd (de_dict (dp_cons de_str (de_eq hr (de_var 1) de_int) (dp_cons de_str (de_eq hr (de_var 3) de_int) dp_nil))))
      (ss_cons (ds_dput hr (de_any rfl T.any (dl_cons (de_lc [("_law_call", 7)] rfl sc_L_is_so.nd (di_seq (de_var 0)) (blkOk_by (own := [("_law_call", 7)]) (N := N_L_is_so) (sc := defScope s_L_is_so) (by decide +kernel)) (fun _ _ _ _ _ => (dgw_name 7 sc_L_is_so.nd)) (fun _ _ _ _ _ => dts_nil) (fun _ _ _ _ _ => (de_and (de_eq hr (de_ix (de_var 7) de_int) de_str) (de_one (de_in hr (de_var 2) (de_slice (de_var 7) do_none (do_some de_int))))))) dl_nil)) (de_var 5) de_str)
      (ss_cons (ds_dput hr (de_any rfl T.any (dl_cons (de_lc [("_law_call", 7)] rfl sc_L_is_so.nd (di_seq (de_var 0)) (blkOk_by (own := [("_law_call", 7)]) (N := N_L_is_so) (sc := defScope s_L_is_so) (by decide +kernel)) (fun _ _ _ _ _ => (dgw_name 7 sc_L_is_so.nd)) (fun _ _ _ _ _ => dts_nil) (fun _ _ _ _ _ => (de_call F_L_holds (hr.mono (by decide)) (dl_cons (de_var 7) (dl_cons (de_var 2) dl_nil))))) dl_nil)) (de_var 5) de_str)
      (ss_cons (ds_dput hr (de_any rfl T.any (dl_cons (de_lc [("_law_call", 7)] rfl sc_L_is_so.nd (di_seq (de_var 0)) (blkOk_by (own := [("_law_call", 7)]) (N := N_L_is_so) (sc := defScope s_L_is_so) (by decide +kernel)) (fun _ _ _ _ _ => (dgw_name 7 sc_L_is_so.nd)) (fun _ _ _ _ _ => dts_nil) (fun _ _ _ _ _ => (de_eq hr (de_slice (de_var 7) (do_some de_int) (do_some de_int)) (de_tup (dl_cons (de_var 2) (dl_cons de_str dl_nil)))))) dl_nil)) (de_var 5) de_str)
      (ss_cons (ds_dput hr (de_any rfl T.any (dl_cons (de_lc [("_law_call", 7)] rfl sc_L_is_so.nd (di_seq (de_var 0)) (blkOk_by (own := [("_law_call", 7)]) (N := N_L_is_so) (sc := defScope s_L_is_so) (by decide +kernel)) (fun _ _ _ _ _ => (dgw_name 7 sc_L_is_so.nd)) (fun _ _ _ _ _ => dts_nil) (fun _ _ _ _ _ => (de_call F_L_is_in (hr.mono (by decide)) (dl_cons (de_var 7) (dl_cons (de_var 2) dl_nil))))) dl_nil)) (de_var 5) de_str)
      (ss_cons (ds_set 6 sc_L_is_so.nd (de_dict (dp_cons de_str de_str (dp_cons de_str de_str (dp_cons de_str de_str (dp_cons de_str de_str (dp_cons de_str de_str (dp_cons de_str de_str dp_nil))))))))
      (ss_cons (ds_if (dt_din hr (de_var 4) (de_var 6)) (ss_one (ds_ret (de_not (de_dget hr (de_var 5) (de_dget hr (de_var 6) (de_var 4)))))) ss_nil)
      (ss_one (ds_ret (de_dget hr (de_var 5) (de_var 4))))))))))))) hm F.kp (bindsP F rfl rfl (pnd sc_L_is_so))

abbrev s_L_pattern : Stmt := top 26
abbrev N_L_pattern : List Str := ["_law_state", "_law_n", "_law_first", "_law_line"]
theorem sc_L_pattern : FnScope N_L_pattern ["_law_state", "_law_n"] (defScope s_L_pattern) := ⟨rfl, rfl, rfl, by decide +kernel, rfl, by decide +kernel, by decide +kernel⟩
theorem ok_L_pattern {fa : Addr} {fd : FuncData} (T : Tx mg) (F : Fun K "_law_pattern" "_law_pattern" s_L_pattern fa fd) (hm : mg "_law_pattern" = some (.ref fa)) (C : Cs K mg w.params) (F_L_take : FnK P w K mg base 1 "_law_take" sm_L_take) : FnK P w K mg base 2 "_law_pattern" sm_L_pattern :=
  fnK_of (fn_ok (k := 1) F sc_L_pattern (fun cdv A outer s H E hr =>
      (ss_cons (ds_if (dt_eq hr (de_call F_L_take (hr.mono (by decide)) (dl_cons (de_var 0) (dl_cons de_int dl_nil))) de_int) (ss_one (ds_ret de_non)) ss_nil)
      (ss_cons (ds_set 2 sc_L_pattern.nd (de_call F_L_take (hr.mono (by decide)) (dl_cons (de_var 0) (dl_cons (de_var 1) dl_nil))))
      (ss_one (ds_ret (de_tuple T.tuple (dl_cons (de_lc [("_law_line", 3)] rfl sc_L_pattern.nd (di_range1 T.range (dl_cons (de_var 1) dl_nil)) (blkOk_by (own := [("_law_line", 3)]) (N := N_L_pattern) (sc := defScope s_L_pattern) (by decide +kernel)) (fun _ _ _ _ _ => (dgw_name 3 sc_L_pattern.nd)) (fun _ _ _ _ _ => (dts_one (DW.dt (dw_or (dt_eq hr (de_var 3) (de_var 2)) (dw_or1 (dt_eq hr (de_call F_L_take (hr.mono (by decide)) (dl_cons (de_var 0) (dl_cons de_int dl_nil))) de_int)))))) (fun _ _ _ _ _ => (de_var 3))) dl_nil)))))))) hm F.kp (bindsP F rfl rfl (pnd sc_L_pattern))

abbrev s_L_tests : Stmt := top 27
abbrev N_L_tests : List Str := ["_law_state", "_law_words_here", "_law_many", "_law_some", "_law_k", "_law_word"]
theorem sc_L_tests : FnScope N_L_tests ["_law_state"] (defScope s_L_tests) := ⟨rfl, rfl, rfl, by decide +kernel, rfl, by decide +kernel, by decide +kernel⟩
theorem ok_L_tests {fa : Addr} {fd : FuncData} (T : Tx mg) (F : Fun K "_law_tests" "_law_tests" s_L_tests fa fd) (hm : mg "_law_tests" = some (.ref fa)) (C : Cs K mg w.params) (F_L_take : FnK P w K mg base 1 "_law_take" sm_L_take) : FnK P w K mg base 2 "_law_tests" sm_L_tests :=
  fnK_of (fn_ok (k := 1) F sc_L_tests (fun cdv A outer s H E hr =>
      (ss_cons (ds_set 1 sc_L_tests.nd (de_lst (dl_cons de_str (dl_cons de_str (dl_cons de_str (dl_cons de_str (dl_cons de_str (dl_cons de_str (dl_cons de_str (dl_cons de_str (dl_cons de_str (dl_cons de_str (dl_cons de_str (dl_cons de_str dl_nil))))))))))))))
      (ss_cons (ds_set 2 sc_L_tests.nd (de_ix (de_lst (dl_cons de_int (dl_cons de_int (dl_cons de_int (dl_cons de_int (dl_cons de_int (dl_cons de_int (dl_cons de_int (dl_cons de_int dl_nil))))))))) (de_call F_L_take (hr.mono (by decide)) (dl_cons (de_var 0) (dl_cons de_int dl_nil)))))
      (ss_cons (ds_set 3 sc_L_tests.nd (de_lc [("_law_k", 4)] rfl sc_L_tests.nd (di_range1 T.range (dl_cons (de_var 2) dl_nil)) (blkOk_by (own := [("_law_k", 4)]) (N := N_L_tests) (sc := defScope s_L_tests) (by decide +kernel)) (fun _ _ _ _ _ => (dgw_name 4 sc_L_tests.nd)) (fun _ _ _ _ _ => dts_nil) (fun _ _ _ _ _ => (de_ix (de_var 1) (de_call F_L_take (hr.mono (by decide)) (dl_cons (de_var 0) (dl_cons de_int dl_nil)))))))
      (ss_one (ds_ret (de_tuple T.tuple (dl_cons (de_lc [("_law_word", 5)] rfl sc_L_tests.nd (di_seq (de_var 1)) (blkOk_by (own := [("_law_word", 5)]) (N := N_L_tests) (sc := defScope s_L_tests) (by decide +kernel)) (fun _ _ _ _ _ => (dgw_name 5 sc_L_tests.nd)) (fun _ _ _ _ _ => (dts_one (dt_in hr (de_var 5) (de_var 3)))) (fun _ _ _ _ _ => (de_var 5))) dl_nil))))))))) hm F.kp (bindsP F rfl rfl (pnd sc_L_tests))

abbrev s_L_words : Stmt := top 28
abbrev N_L_words : List Str := ["_law_words_here", "_law_found", "_law_word"]
theorem sc_L_words : FnScope N_L_words [] (defScope s_L_words) := ⟨rfl, rfl, rfl, by decide +kernel, rfl, by decide +kernel, by decide +kernel⟩
theorem ok_L_words {fa : Addr} {fd : FuncData} (T : Tx mg) (F : Fun K "_law_words" "_law_words" s_L_words fa fd) (hm : mg "_law_words" = some (.ref fa)) (C : Cs K mg w.params)  : FnK P w K mg base 1 "_law_words" sm_L_words :=
  fnK_of (fn_ok (k := 0) F sc_L_words (fun cdv A outer s H E hr =>
      (ss_cons (ds_set 0 sc_L_words.nd (de_lst (dl_cons de_str (dl_cons de_str (dl_cons de_str (dl_cons de_str (dl_cons de_str (dl_cons de_str (dl_cons de_str (dl_cons de_str (dl_cons de_str (dl_cons de_str (dl_cons de_str dl_nil)))))))))))))
      (ss_cons (ds_set 1 sc_L_words.nd (de_add (de_lc [("_law_word", 2)] rfl sc_L_words.nd (di_seq (de_var 0)) (blkOk_by (own := [("_law_word", 2)]) (N := N_L_words) (sc := defScope s_L_words) (by decide +kernel)) (fun _ _ _ _ _ => (dgw_name 2 sc_L_words.nd)) (fun _ _ _ _ _ => dts_nil) (fun _ _ _ _ _ => (de_tup (dl_cons (de_var 2) (dl_cons de_int dl_nil))))) (de_lst (dl_cons (de_tup (dl_cons de_str (dl_cons de_int dl_nil))) dl_nil))))
      (ss_cons (ds_set 1 sc_L_words.nd (de_add (de_var 1) (de_lc [("_law_word", 2)] rfl sc_L_words.nd (di_seq (de_lst (dl_cons de_str (dl_cons de_str (dl_cons de_str (dl_cons de_str (dl_cons de_str dl_nil))))))) (blkOk_by (own := [("_law_word", 2)]) (N := N_L_words) (sc := defScope s_L_words) (by decide +kernel)) (fun _ _ _ _ _ => (dgw_name 2 sc_L_words.nd)) (fun _ _ _ _ _ => dts_nil) (fun _ _ _ _ _ => (de_tup (dl_cons (de_var 2) (dl_cons de_int dl_nil)))))))
      (ss_one (ds_ret (de_add (de_var 1) (de_lc [("_law_word", 2)] rfl sc_L_words.nd (di_seq (de_lst (dl_cons de_str (dl_cons de_str (dl_cons de_str (dl_cons de_str (dl_cons de_str dl_nil))))))) (blkOk_by (own := [("_law_word", 2)]) (N := N_L_words) (sc := defScope s_L_words) (by decide +kernel)) (fun _ _ _ _ _ => (dgw_name 2 sc_L_words.nd)) (fun _ _ _ _ _ => dts_nil) (fun _ _ _ _ _ => (de_tup (dl_cons (de_var 2) (dl_cons de_int dl_nil))))))))))))) hm F.kp (bindsP F rfl rfl (pnd sc_L_words))

abbrev s_L_tale_rule : Stmt := top 29
abbrev N_L_tale_rule : List Str := ["_law_state", "_law_n", "_law_states", "_law_words_here", "_law_patterns", "_law_after", "_law_word", "_law_many", "_law_k"]
theorem sc_L_tale_rule : FnScope N_L_tale_rule ["_law_state", "_law_n", "_law_states"] (defScope s_L_tale_rule) := ⟨rfl, rfl, rfl, by decide +kernel, rfl, by decide +kernel, by decide +kernel⟩
theorem ok_L_tale_rule {fa : Addr} {fd : FuncData} (T : Tx mg) (F : Fun K "_law_tale_rule" "_law_tale_rule" s_L_tale_rule fa fd) (hm : mg "_law_tale_rule" = some (.ref fa)) (C : Cs K mg w.params) (F_L_words : FnK P w K mg base 1 "_law_words" sm_L_words) (F_L_take : FnK P w K mg base 1 "_law_take" sm_L_take) (F_L_tests : FnK P w K mg base 2 "_law_tests" sm_L_tests) (F_L_pattern : FnK P w K mg base 2 "_law_pattern" sm_L_pattern) : FnK P w K mg base 3 "_law_tale_rule" sm_L_tale_rule :=
  fnK_of (fn_ok (k := 2) F sc_L_tale_rule (fun cdv A outer s H E hr =>
      (ss_cons (ds_set 3 sc_L_tale_rule.nd (de_call0 F_L_words (hr.mono (by decide))))
      (ss_cons (ds_asg (de_ix (de_var 3) (de_ix (de_lst (dl_cons (de_call F_L_take (hr.mono (by decide)) (dl_cons (de_var 0) (dl_cons de_int dl_nil))) (dl_cons de_int (dl_cons de_int (dl_cons de_int dl_nil))))) (de_call F_L_take (hr.mono (by decide)) (dl_cons (de_var 0) (dl_cons de_int dl_nil))))) (dg_tup rfl (dgs_cons (dg_name 6 sc_L_tale_rule.nd) (dgs_cons (dg_name 7 sc_L_tale_rule.nd) dgs_nil))))
      (ss_cons (ds_set 4 sc_L_tale_rule.nd (de_tuple T.tuple (dl_cons (de_lc [("_law_k", 8)] rfl sc_L_tale_rule.nd (di_range1 T.range (dl_cons (de_var 7) dl_nil)) (blkOk_by (own := [("_law_k", 8)]) (N := N_L_tale_rule) (sc := defScope s_L_tale_rule) (by decide +kernel)) (fun _ _ _ _ _ => (dgw_name 8 sc_L_tale_rule.nd)) (fun _ _ _ _ _ => dts_nil) (fun _ _ _ _ _ => (de_call F_L_pattern (hr.mono (by decide)) (dl_cons (de_var 0) (dl_cons (de_var 1) dl_nil))))) dl_nil)))
      (ss_cons (ds_set 5 sc_L_tale_rule.nd (de_ix (de_lst (dl_cons de_non (dl_cons de_int (dl_cons (de_mod de_int (de_var 2)) (dl_cons (de_call F_L_take (hr.mono (by decide)) (dl_cons (de_var 0) (dl_cons (de_var 2) dl_nil))) (dl_cons (de_call F_L_take (hr.mono (by decide)) (dl_cons (de_var 0) (dl_cons (de_var 2) dl_nil))) dl_nil)))))) (de_call F_L_take (hr.mono (by decide)) (dl_cons (de_var 0) (dl_cons de_int dl_nil)))))
      (ss_one (ds_ret (de_tup (dl_cons (de_call F_L_take (hr.mono (by decide)) (dl_cons (de_var 0) (dl_cons (de_var 2) dl_nil))) (dl_cons (de_var 6) (dl_cons (de_var 4) (dl_cons (de_call F_L_tests (hr.mono (by decide)) (dl_cons (de_var 0) dl_nil)) (dl_cons (de_var 5) dl_nil)))))))))))))) hm F.kp (bindsP F rfl rfl (pnd sc_L_tale_rule))

abbrev s_L_fits : Stmt := top 30
abbrev N_L_fits : List Str := ["_law_pattern_here", "_law_line"]
theorem sc_L_fits : FnScope N_L_fits ["_law_pattern_here", "_law_line"] (defScope s_L_fits) := ⟨rfl, rfl, rfl, by decide +kernel, rfl, by decide +kernel, by decide +kernel⟩
theorem ok_L_fits {fa : Addr} {fd : FuncData} (T : Tx mg) (F : Fun K "_law_fits" "_law_fits" s_L_fits fa fd) (hm : mg "_law_fits" = some (.ref fa)) (C : Cs K mg w.params)  : FnK P w K mg base 1 "_law_fits" sm_fits :=
  fnK_of (fn_ok (k := 0) F sc_L_fits (fun cdv A outer s H E hr =>
      (ss_one (ds_ret (de_or (de_isN (de_var 0) de_non) (de_one (de_in hr (de_var 1) (de_var 0)))))))) hm F.kp (bindsP F rfl rfl (pnd sc_L_fits))

abbrev s_L_led : Stmt := top 31
abbrev N_L_led : List Str := ["_law_wish", "_law_tale", "_law_calls_here", "_law_night", "_law_event_here", "_law_word", "_law_lines", "_law_hid", "_law_start", "_law_own_word", "_law_patterns", "_law_tests_here", "_law_after", "_law_fitting", "_law_so", "_law_test", "_law_pattern_here", "_law_line"]
theorem sc_L_led : FnScope N_L_led ["_law_wish", "_law_tale", "_law_calls_here", "_law_night", "_law_event_here"] (defScope s_L_led) := ⟨rfl, rfl, rfl, by decide +kernel, rfl, by decide +kernel, by decide +kernel⟩
theorem ok_L_led {fa : Addr} {fd : FuncData} (T : Tx mg) (F : Fun K "_law_led" "_law_led" s_L_led fa fd) (hm : mg "_law_led" = some (.ref fa)) (C : Cs K mg w.params) (F_L_is_so : FnK P w K mg base 2 "_law_is_so" sm_L_is_so) (F_L_fits : FnK P w K mg base 1 "_law_fits" sm_fits) : FnK P w K mg base 3 "_law_led" sm_L_led :=
  fnK_of (fn_ok (k := 2) F sc_L_led (fun cdv A outer s H E hr =>
      (ss_cons (ds_if (dt_isN (de_var 1) de_non) (ss_one (ds_ret de_non)) ss_nil)
      (ss_cons (ds_asg (de_var 4) (dg_tup rfl (dgs_cons (dg_name 5 sc_L_led.nd) (dgs_cons (dg_name 6 sc_L_led.nd) (dgs_cons (dg_name 7 sc_L_led.nd) dgs_nil)))))
      (ss_cons (ds_for rfl PassesOwn.never (di_seq (de_ix (de_var 0) de_int)) (dg_tup rfl (dgs_cons (dg_name 8 sc_L_led.nd) (dgs_cons (dg_name 9 sc_L_led.nd) (dgs_cons (dg_name 10 sc_L_led.nd) (dgs_cons (dg_name 11 sc_L_led.nd) (dgs_cons (dg_name 12 sc_L_led.nd) dgs_nil)))))) (ss_one (ds_if (dt_eq hr (de_tup (dl_cons (de_var 8) (dl_cons (de_var 9) (dl_cons (de_len T.len (dl_cons (de_var 10) dl_nil)) dl_nil)))) (de_tup (dl_cons (de_var 1) (dl_cons (de_var 5) (dl_cons (de_len T.len (dl_cons (de_var 6) dl_nil)) dl_nil))))) (ss_cons (ds_set 13 sc_L_led.nd (de_all rfl T.all (dl_cons (de_lc [("_law_pattern_here", 16), ("_law_line", 17)] rfl sc_L_led.nd (di_zip T.zip (dl_cons (de_var 10) (dl_cons (de_var 6) dl_nil))) (blkOk_by (own := [("_law_pattern_here", 16), ("_law_line", 17)]) (N := N_L_led) (sc := defScope s_L_led) (by decide +kernel)) (fun _ _ _ _ _ => (dgw_tup rfl (dgws_cons (dgw_name 16 sc_L_led.nd) (dgws_cons (dgw_name 17 sc_L_led.nd) dgws_nil)))) (fun _ _ _ _ _ => dts_nil) (fun _ _ _ _ _ => (de_call F_L_fits (hr.mono (by decide)) (dl_cons (de_var 16) (dl_cons (de_var 17) dl_nil))))) dl_nil)))
      (ss_cons (ds_setLc 14 [("_law_test", 15)] rfl sc_L_led.nd (sw_true rfl rfl rfl (by decide +kernel)) (di_seq (de_var 11)) (blkOk_by (own := [("_law_test", 15)]) (N := N_L_led) (sc := defScope s_L_led) (by decide +kernel)) (fun _ _ _ _ _ => (dgw_name 15 sc_L_led.nd)) (fun _ _ _ _ _ => dts_nil) (fun _ _ _ _ _ => (de_call F_L_is_so (hr.mono (by decide)) (dl_cons (de_var 2) (dl_cons (de_var 3) (dl_cons (de_ix (de_var 0) de_int) (dl_cons (de_var 7) (dl_cons (de_var 15) dl_nil))))))))
      (ss_one (ds_if (DW.dt (dw_and (dt_val (de_var 13)) (dw_and1 (dt_val (de_all rfl T.all (dl_cons (de_var 14) dl_nil)))))) (ss_one (ds_ret (de_var 12))) ss_nil)))) ss_nil)))
      (ss_one (ds_ret (de_var 1)))))))) hm F.kp (bindsP F rfl rfl (pnd sc_L_led))

abbrev s_L_event : Stmt := top 32
abbrev N_L_event : List Str := ["_law_state", "_law_n", "_law_words_here", "_law_lines", "_law_k", "_law_hid", "_law_word", "_law_many", "_law_some", "_law_line"]
theorem sc_L_event : FnScope N_L_event ["_law_state", "_law_n"] (defScope s_L_event) := ⟨rfl, rfl, rfl, by decide +kernel, rfl, by decide +kernel, by decide +kernel⟩
theorem ok_L_event {fa : Addr} {fd : FuncData} (T : Tx mg) (F : Fun K "_law_event" "_law_event" s_L_event fa fd) (hm : mg "_law_event" = some (.ref fa)) (C : Cs K mg w.params) (F_L_words : FnK P w K mg base 1 "_law_words" sm_L_words) (F_L_take : FnK P w K mg base 1 "_law_take" sm_L_take) : FnK P w K mg base 2 "_law_event" sm_L_event :=
  fnK_of (fn_ok (k := 1) F sc_L_event (fun cdv A outer s H E hr =>
      (ss_cons (ds_set 2 sc_L_event.nd (de_call0 F_L_words (hr.mono (by decide))))
      (ss_cons (ds_asg (de_ix (de_var 2) (de_ix (de_lst (dl_cons (de_call F_L_take (hr.mono (by decide)) (dl_cons (de_var 0) (dl_cons de_int dl_nil))) (dl_cons de_int (dl_cons de_int (dl_cons de_int dl_nil))))) (de_call F_L_take (hr.mono (by decide)) (dl_cons (de_var 0) (dl_cons de_int dl_nil))))) (dg_tup rfl (dgs_cons (dg_name 6 sc_L_event.nd) (dgs_cons (dg_name 7 sc_L_event.nd) dgs_nil))))
      (ss_cons (ds_if (dt_gt (de_var 7) (de_var 1)) (ss_one (ds_asg (de_tup (dl_cons de_str (dl_cons de_int dl_nil))) (dg_tup rfl (dgs_cons (dg_name 6 sc_L_event.nd) (dgs_cons (dg_name 7 sc_L_event.nd) dgs_nil))))) ss_nil)
      (ss_cons (ds_set 3 sc_L_event.nd (de_lst dl_nil))
      (ss_cons (ds_for rfl PassesOwn.never (di_range1 T.range (dl_cons (de_var 7) dl_nil)) (dg_name 4 sc_L_event.nd) (ss_cons (ds_setLc 8 [("_law_line", 9)] rfl sc_L_event.nd (sw_true rfl rfl rfl (by decide +kernel)) (di_range1 T.range (dl_cons (de_var 1) dl_nil)) (blkOk_by (own := [("_law_line", 9)]) (N := N_L_event) (sc := defScope s_L_event) (by decide +kernel)) (fun _ _ _ _ _ => (dgw_name 9 sc_L_event.nd)) (fun _ _ _ _ _ => (dts_one (dt_notIn hr (de_var 9) (de_var 3)))) (fun _ _ _ _ _ => (de_var 9)))
      (ss_one (ds_expr (de_append (de_var 3) (dl_cons (de_ix (de_var 8) (de_call F_L_take (hr.mono (by decide)) (dl_cons (de_var 0) (dl_cons (de_len T.len (dl_cons (de_var 8) dl_nil)) dl_nil)))) dl_nil))))))
      (ss_cons (ds_set 5 sc_L_event.nd de_int)
      (ss_cons (ds_if (dt_in hr (de_var 6) (de_tup (dl_cons de_str (dl_cons de_str (dl_cons de_str (dl_cons de_str (dl_cons de_str (dl_cons de_str (dl_cons de_str (dl_cons de_str dl_nil)))))))))) (ss_one (ds_set 5 sc_L_event.nd (de_call F_L_take (hr.mono (by decide)) (dl_cons (de_var 0) (dl_cons de_int dl_nil))))) ss_nil)
      (ss_one (ds_ret (de_tup (dl_cons (de_var 6) (dl_cons (de_tuple T.tuple (dl_cons (de_var 3) dl_nil)) (dl_cons (de_var 5) dl_nil))))))))))))))) hm F.kp (bindsP F rfl rfl (pnd sc_L_event))

abbrev s_L_told_house : Stmt := top 33
abbrev N_L_told_house : List Str := ["_law_state", "_law_n", "_law_many", "_law_wishes", "_law_k", "_law_states", "_law_rules", "_law_j"]
theorem sc_L_told_house : FnScope N_L_told_house ["_law_state", "_law_n", "_law_many"] (defScope s_L_told_house) := ⟨rfl, rfl, rfl, by decide +kernel, rfl, by decide +kernel, by decide +kernel⟩
theorem ok_L_told_house {fa : Addr} {fd : FuncData} (T : Tx mg) (F : Fun K "_law_told_house" "_law_told_house" s_L_told_house fa fd) (hm : mg "_law_told_house" = some (.ref fa)) (C : Cs K mg w.params) (F_L_take : FnK P w K mg base 1 "_law_take" sm_L_take) (F_L_tale_rule : FnK P w K mg base 3 "_law_tale_rule" sm_L_tale_rule) : FnK P w K mg base 4 "_law_told_house" sm_L_told_house :=
  fnK_of (fn_ok (k := 3) F sc_L_told_house (fun cdv A outer s H E hr =>
      (ss_cons (ds_set 3 sc_L_told_house.nd (de_lst dl_nil))
      (ss_cons (ds_for rfl PassesOwn.never (di_range1 T.range (dl_cons (de_var 2) dl_nil)) (dg_name 4 sc_L_told_house.nd) (ss_cons (ds_set 5 sc_L_told_house.nd (de_add de_int (de_call F_L_take (hr.mono (by decide)) (dl_cons (de_var 0) (dl_cons de_int dl_nil)))))
      (ss_cons (ds_setLc 6 [("_law_j", 7)] rfl sc_L_told_house.nd (sw_true rfl rfl rfl (by decide +kernel)) (di_range1 T.range (dl_cons (de_ix (de_lst (dl_cons de_int (dl_cons de_int (dl_cons de_int (dl_cons de_int (dl_cons de_int (dl_cons de_int dl_nil))))))) (de_call F_L_take (hr.mono (by decide)) (dl_cons (de_var 0) (dl_cons de_int dl_nil)))) dl_nil)) (blkOk_by (own := [("_law_j", 7)]) (N := N_L_told_house) (sc := defScope s_L_told_house) (by decide +kernel)) (fun _ _ _ _ _ => (dgw_name 7 sc_L_told_house.nd)) (fun _ _ _ _ _ => dts_nil) (fun _ _ _ _ _ => (de_call F_L_tale_rule (hr.mono (by decide)) (dl_cons (de_var 0) (dl_cons (de_var 1) (dl_cons (de_var 5) dl_nil))))))
      (ss_one (ds_expr (de_append (de_var 3) (dl_cons (de_tup (dl_cons (de_call F_L_take (hr.mono (by decide)) (dl_cons (de_var 0) (dl_cons (de_var 1) dl_nil))) (dl_cons (de_tup dl_nil) (dl_cons (de_tuple T.tuple (dl_cons (de_var 6) dl_nil)) dl_nil)))) dl_nil)))))))
      (ss_one (ds_ret (de_tup (dl_cons (de_var 1) (dl_cons (de_tuple T.tuple (dl_cons (de_var 3) dl_nil)) (dl_cons (de_tup dl_nil) dl_nil)))))))))) hm F.kp (bindsP F rfl rfl (pnd sc_L_told_house))

abbrev s_L_same : Stmt := top 34
abbrev N_L_same : List Str := ["_law_found", "_law_due", "_law_one", "_law_other"]
theorem sc_L_same : FnScope N_L_same ["_law_found", "_law_due"] (defScope s_L_same) := ⟨rfl, rfl, rfl, by decide +kernel, rfl, by decide +kernel, by decide +kernel⟩
theorem ok_L_same {fa : Addr} {fd : FuncData} (T : Tx mg) (F : Fun K "_law_same" "_law_same" s_L_same fa fd) (hm : mg "_law_same" = some (.ref fa)) (C : Cs K mg w.params)  : ∀ n, FnK P w K mg base (1 + n) "_law_same" (sm_L_same n)
  | 0 => fnK_none hm F.kp (bindsP F rfl rfl (pnd sc_L_same))
  | n + 1 => by
    have ih := ok_L_same T F hm C  n
    exact fnK_of (fn_ok (k := 1 + n) F sc_L_same (fun cdv A outer s H E hr =>
      (ss_cons (ds_if (dt_val (de_isi (x := "tuple") T.isinstance T.tuple (de_var 1))) (ss_cons (ds_if (DW.dt (dw_or (dt_not (dt_val (de_isi (x := "tuple") T.isinstance T.tuple (de_var 0)))) (dw_or1 (dt_ne hr (de_len T.len (dl_cons (de_var 0) dl_nil)) (de_len T.len (dl_cons (de_var 1) dl_nil)))))) (ss_one (ds_ret de_bl)) ss_nil)
      (ss_one (ds_ret (de_all rfl T.all (dl_cons (de_lc [("_law_one", 2), ("_law_other", 3)] rfl sc_L_same.nd (di_zip T.zip (dl_cons (de_var 0) (dl_cons (de_var 1) dl_nil))) (blkOk_by (own := [("_law_one", 2), ("_law_other", 3)]) (N := N_L_same) (sc := defScope s_L_same) (by decide +kernel)) (fun _ _ _ _ _ => (dgw_tup rfl (dgws_cons (dgw_name 2 sc_L_same.nd) (dgws_cons (dgw_name 3 sc_L_same.nd) dgws_nil)))) (fun _ _ _ _ _ => dts_nil) (fun _ _ _ _ _ => (de_call ih hr (dl_cons (de_var 2) (dl_cons (de_var 3) dl_nil))))) dl_nil))))) ss_nil)
      (ss_cons (ds_if (dt_isN (de_var 1) de_non) (ss_one (ds_ret (de_isN (de_var 0) de_non))) ss_nil)
      (ss_cons (ds_if (dt_val (de_isi (x := "str") T.isinstance T.str (de_var 1))) (ss_one (ds_ret (de_and (de_isi (x := "str") T.isinstance T.str (de_var 0)) (de_one (de_eq hr (de_var 0) (de_var 1)))))) ss_nil)
      (ss_cons (ds_if (DW.dt (dw_or (dt_val (de_isi (x := "bool") T.isinstance T.bool (de_var 1))) (dw_or1 (dt_val (de_isi (x := "bool") T.isinstance T.bool (de_var 0)))))) (ss_one (ds_ret (de_and (de_isi (x := "bool") T.isinstance T.bool (de_var 0)) (de_and (de_isi (x := "bool") T.isinstance T.bool (de_var 1)) (de_one (de_eq hr (de_var 0) (de_var 1))))))) ss_nil)
      (ss_one (ds_ret (de_and (de_isi (x := "int") T.isinstance T.int (de_var 0)) (de_one (de_eq hr (de_var 0) (de_var 1)))))))))))) hm F.kp (bindsP F rfl rfl (pnd sc_L_same))

abbrev s_L_alone : Stmt := top 35
abbrev N_L_alone : List Str := ["_law_house", "_law_tales", "_law_calls_here", "_law_night", "_law_event_here", "_law_found", "_law_wish", "_law_tale"]
def sm_L_alone : List D → Mu → Option (D × Mu) := mkSem 5 8 (seqS (asgS (tupE nilA) (nmG 5))
      (seqS (forS (zipI (consA (bin ixD (vD 0) (cD (.int 1))) (consA (vD 1) nilA))) (tupG 2 (consG (nmG 6) (consG (nmG 7) nilG))) (asgS (bin addD (vD 5) (callE sm_told_on (consA (tupE (consA (bin ixD (vD 0) (cD (.int 0))) (consA (tupE (consA (vD 6) nilA)) (consA (tupE nilA) nilA)))) (consA (tupE (consA (vD 7) nilA)) (consA (vD 2) (consA (vD 3) (consA (vD 4) nilA))))))) (nmG 5)))
      (retS (vD 5))))
theorem sc_L_alone : FnScope N_L_alone ["_law_house", "_law_tales", "_law_calls_here", "_law_night", "_law_event_here"] (defScope s_L_alone) := ⟨rfl, rfl, rfl, by decide +kernel, rfl, by decide +kernel, by decide +kernel⟩
theorem ok_L_alone {fa : Addr} {fd : FuncData} (T : Tx mg) (F : Fun K "_law_alone" "_law_alone" s_L_alone fa fd) (hm : mg "_law_alone" = some (.ref fa)) (C : Cs K mg w.params) (F_told_on : FnK P w K mg base 17 "told_on" sm_told_on) : FnK P w K mg base 18 "_law_alone" sm_L_alone :=
  fnK_of (fn_ok (k := 17) F sc_L_alone (fun cdv A outer s H E hr =>
      (ss_cons (ds_set 5 sc_L_alone.nd (de_tup dl_nil))
      (ss_cons (ds_for rfl PassesOwn.never (di_zip T.zip (dl_cons (de_ix (de_var 0) de_int) (dl_cons (de_var 1) dl_nil))) (dg_tup rfl (dgs_cons (dg_name 6 sc_L_alone.nd) (dgs_cons (dg_name 7 sc_L_alone.nd) dgs_nil))) (ss_one (ds_set 5 sc_L_alone.nd (de_add (de_var 5) (de_call F_told_on (hr.mono (by decide)) (dl_cons (de_tup (dl_cons (de_ix (de_var 0) de_int) (dl_cons (de_tup (dl_cons (de_var 6) dl_nil)) (dl_cons (de_tup dl_nil) dl_nil)))) (dl_cons (de_tup (dl_cons (de_var 7) dl_nil)) (dl_cons (de_var 2) (dl_cons (de_var 3) (dl_cons (de_var 4) dl_nil))))))))))
      (ss_one (ds_ret (de_var 5))))))) hm F.kp (bindsP F rfl rfl (pnd sc_L_alone))

abbrev s_law : Stmt := top 36
abbrev N_law : List Str := ["_law_script", "_law_state", "_law_n", "_law_house", "_law_turned", "_law_tales", "_law_turn", "_law_calls_here", "_law_night", "_law_event_here", "_law_due", "_law_other", "_law_again", "_law_wish", "_law_tale", "_law_one", "_law_after"]
def sm_law : List D → Mu → Option (D × Mu) := mkSem 1 17 (seqS (asgS (callE sm_L_hand (consA (vD 0) nilA)) (nmG 1))
      (seqS (asgS (bin addD (cD (.int 2)) (callE sm_L_take (consA (vD 1) (consA (cD (.int 3)) nilA)))) (nmG 2))
      (seqS (asgS (callE sm_L_told_house (consA (vD 1) (consA (vD 2) (consA (bin addD (cD (.int 2)) (callE sm_L_take (consA (vD 1) (consA (cD (.int 5)) nilA)))) nilA)))) (nmG 3))
      (seqS (asgS (tupE (consA (vD 2) (consA (tupRvE (consA (bin ixD (vD 3) (cD (.int 1))) nilA)) (consA (tupE nilA) nilA)))) (nmG 4))
      (seqS (asgS (bin mulD (tupE (consA (cD (.int 0)) nilA)) (callE lenB (consA (bin ixD (vD 3) (cD (.int 1))) nilA))) (nmG 5))
      (seqS (asgS (tupE (consA (callE sm_L_calls (consA (vD 1) (consA (vD 2) nilA))) (consA (cD (.int 0)) nilA))) (tupG 2 (consG (nmG 7) (consG (nmG 8) nilG))))
      (seqS (forS (rng1 (consA (bin addD (cD (.int 1)) (callE sm_L_take (consA (vD 1) (consA (cD (.int 30)) nilA)))) nilA)) (nmG 6) (seqS (asgS (callE sm_L_event (consA (vD 1) (consA (vD 2) nilA))) (nmG 9))
      (seqS (asgS (callE tupB (consA (lcE (zipI (consA (bin ixD (vD 3) (cD (.int 1))) (consA (vD 5) nilA))) (tupG 2 (consG (nmG 13) (consG (nmG 14) nilG))) yesT (callE sm_L_led (consA (vD 13) (consA (vD 14) (consA (vD 7) (consA (vD 8) (consA (vD 9) nilA)))))) [13, 14]) nilA)) (nmG 10))
      (seqS (asgS (callE sm_told_on (consA (vD 4) (consA (tupRvE (consA (vD 5) nilA)) (consA (vD 7) (consA (vD 8) (consA (vD 9) nilA)))))) (nmG 11))
      (seqS (ifS (orT (tst (bin neD (callE sm_L_alone (consA (vD 3) (consA (vD 5) (consA (vD 7) (consA (vD 8) (consA (vD 9) nilA)))))) (vD 10))) (tst (bin neD (tupRvE (consA (vD 11) nilA)) (vD 10)))) (retS (cD (.bl false))) skS)
      (seqS (forS (rng1 (consA (cD (.int 2)) nilA)) (nmG 12) (ifS (notT (tst (callE (sm_L_same 8) (consA (callE sm_told_on (consA (vD 3) (consA (vD 5) (consA (vD 7) (consA (vD 8) (consA (vD 9) nilA)))))) (consA (vD 10) nilA))))) (retS (cD (.bl false))) skS))
      (seqS (ifS (tst (callE (allB true) (consA (lcE (zipI (consA (vD 5) (consA (vD 10) nilA))) (tupG 2 (consG (nmG 15) (consG (nmG 16) nilG))) yesT (andV (bin (isND false) (vD 15) (cD .non)) (bin (isND true) (vD 16) (cD .non))) [15, 16]) nilA))) (retS (cD (.bl false))) skS)
      (seqS (asgS (vD 10) (nmG 5))
      (ifS (tst (bin eqD (callE sm_L_take (consA (vD 1) (consA (cD (.int 3)) nilA))) (cD (.int 0)))) (asgS (tupE (consA (callE sm_L_calls (consA (vD 1) (consA (vD 2) nilA))) (consA (callE sm_L_take (consA (vD 1) (consA (cD (.int 2)) nilA))) nilA))) (tupG 2 (consG (nmG 7) (consG (nmG 8) nilG)))) skS)))))))))
      (retS (cD (.bl true))))))))))
theorem sc_law : FnScope N_law ["_law_script"] (defScope s_law) := ⟨rfl, rfl, rfl, by decide +kernel, rfl, by decide +kernel, by decide +kernel⟩
theorem okf_law {fa : Addr} {fd : FuncData} (T : Tx mg) (F : Fun K "law" "law" s_law fa fd) (hm : mg "law" = some (.ref fa)) (C : Cs K mg w.params) (F_L_hand : FnK P w K mg base 1 "_law_hand" sm_L_hand) (F_L_told_house : FnK P w K mg base 4 "_law_told_house" sm_L_told_house) (F_L_take : FnK P w K mg base 1 "_law_take" sm_L_take) (F_L_calls : FnK P w K mg base 2 "_law_calls" sm_L_calls) (F_L_event : FnK P w K mg base 2 "_law_event" sm_L_event) (F_told_on : FnK P w K mg base 17 "told_on" sm_told_on) (F_L_led : FnK P w K mg base 3 "_law_led" sm_L_led) (F_L_alone : FnK P w K mg base 18 "_law_alone" sm_L_alone) (F_L_same : FnK P w K mg base 9 "_law_same" (sm_L_same 8)) : FnOk P w K mg base CX0 19 fa fd ["_law_script"] (spD K sm_law) :=
  fn_ok (k := 18) F sc_law (fun cdv A outer s H E hr =>
      (ss_cons (ds_set 1 sc_law.nd (de_call F_L_hand (hr.mono (by decide)) (dl_cons (de_var 0) dl_nil)))
      (ss_cons (ds_set 2 sc_law.nd (de_add de_int (de_call F_L_take (hr.mono (by decide)) (dl_cons (de_var 1) (dl_cons de_int dl_nil)))))
      (ss_cons (ds_set 3 sc_law.nd (de_call F_L_told_house (hr.mono (by decide)) (dl_cons (de_var 1) (dl_cons (de_var 2) (dl_cons (de_add de_int (de_call F_L_take (hr.mono (by decide)) (dl_cons (de_var 1) (dl_cons de_int dl_nil)))) dl_nil)))))
      (ss_cons (ds_set 4 sc_law.nd (de_tup (dl_cons (de_var 2) (dl_cons (de_tupRev hr T.tuple T.reversed (dl_cons (de_ix (de_var 3) de_int) dl_nil)) (dl_cons (de_tup dl_nil) dl_nil)))))
      (ss_cons (ds_set 5 sc_law.nd (de_mul (de_tup (dl_cons de_int dl_nil)) (de_len T.len (dl_cons (de_ix (de_var 3) de_int) dl_nil))))
      (ss_cons (ds_asg (de_tup (dl_cons (de_call F_L_calls (hr.mono (by decide)) (dl_cons (de_var 1) (dl_cons (de_var 2) dl_nil))) (dl_cons de_int dl_nil))) (dg_tup rfl (dgs_cons (dg_name 7 sc_law.nd) (dgs_cons (dg_name 8 sc_law.nd) dgs_nil))))
      (ss_cons (ds_for rfl PassesOwn.never (di_range1 T.range (dl_cons (de_add de_int (de_call F_L_take (hr.mono (by decide)) (dl_cons (de_var 1) (dl_cons de_int dl_nil)))) dl_nil)) (dg_name 6 sc_law.nd) (ss_cons (ds_set 9 sc_law.nd (de_call F_L_event (hr.mono (by decide)) (dl_cons (de_var 1) (dl_cons (de_var 2) dl_nil))))
      (ss_cons (ds_set 10 sc_law.nd (de_tuple T.tuple (dl_cons (de_lc [("_law_wish", 13), ("_law_tale", 14)] rfl sc_law.nd (di_zip T.zip (dl_cons (de_ix (de_var 3) de_int) (dl_cons (de_var 5) dl_nil))) (blkOk_by (own := [("_law_wish", 13), ("_law_tale", 14)]) (N := N_law) (sc := defScope s_law) (by decide +kernel)) (fun _ _ _ _ _ => (dgw_tup rfl (dgws_cons (dgw_name 13 sc_law.nd) (dgws_cons (dgw_name 14 sc_law.nd) dgws_nil)))) (fun _ _ _ _ _ => dts_nil) (fun _ _ _ _ _ => (de_call F_L_led (hr.mono (by decide)) (dl_cons (de_var 13) (dl_cons (de_var 14) (dl_cons (de_var 7) (dl_cons (de_var 8) (dl_cons (de_var 9) dl_nil)))))))) dl_nil)))
      (ss_cons (ds_set 11 sc_law.nd (de_call F_told_on (hr.mono (by decide)) (dl_cons (de_var 4) (dl_cons (de_tupRev hr T.tuple T.reversed (dl_cons (de_var 5) dl_nil)) (dl_cons (de_var 7) (dl_cons (de_var 8) (dl_cons (de_var 9) dl_nil)))))))
      (ss_cons (ds_if (DW.dt (dw_or (dt_ne hr (de_call F_L_alone (hr.mono (by decide)) (dl_cons (de_var 3) (dl_cons (de_var 5) (dl_cons (de_var 7) (dl_cons (de_var 8) (dl_cons (de_var 9) dl_nil)))))) (de_var 10)) (dw_or1 (dt_ne hr (de_tupRev hr T.tuple T.reversed (dl_cons (de_var 11) dl_nil)) (de_var 10))))) (ss_one (ds_ret de_bl)) ss_nil)
      (ss_cons (ds_for rfl PassesOwn.never (di_range1 T.range (dl_cons de_int dl_nil)) (dg_name 12 sc_law.nd) (ss_one (ds_if (dt_not (dt_val (de_call F_L_same (hr.mono (by decide)) (dl_cons (de_call F_told_on (hr.mono (by decide)) (dl_cons (de_var 3) (dl_cons (de_var 5) (dl_cons (de_var 7) (dl_cons (de_var 8) (dl_cons (de_var 9) dl_nil)))))) (dl_cons (de_var 10) dl_nil))))) (ss_one (ds_ret de_bl)) ss_nil)))
      (ss_cons (ds_if (dt_val (de_any rfl T.any (dl_cons (de_lc [("_law_one", 15), ("_law_after", 16)] rfl sc_law.nd (di_zip T.zip (dl_cons (de_var 5) (dl_cons (de_var 10) dl_nil))) (blkOk_by (own := [("_law_one", 15), ("_law_after", 16)]) (N := N_law) (sc := defScope s_law) (by decide +kernel)) (fun _ _ _ _ _ => (dgw_tup rfl (dgws_cons (dgw_name 15 sc_law.nd) (dgws_cons (dgw_name 16 sc_law.nd) dgws_nil)))) (fun _ _ _ _ _ => dts_nil) (fun _ _ _ _ _ => (de_and (de_isN (de_var 15) de_non) (de_one (de_notN (de_var 16) de_non))))) dl_nil))) (ss_one (ds_ret de_bl)) ss_nil)
      (ss_cons (ds_set 5 sc_law.nd (de_var 10))
      (ss_one (ds_if (dt_eq hr (de_call F_L_take (hr.mono (by decide)) (dl_cons (de_var 1) (dl_cons de_int dl_nil))) de_int) (ss_one (ds_asg (de_tup (dl_cons (de_call F_L_calls (hr.mono (by decide)) (dl_cons (de_var 1) (dl_cons (de_var 2) dl_nil))) (dl_cons (de_call F_L_take (hr.mono (by decide)) (dl_cons (de_var 1) (dl_cons de_int dl_nil))) dl_nil))) (dg_tup rfl (dgs_cons (dg_name 7 sc_law.nd) (dgs_cons (dg_name 8 sc_law.nd) dgs_nil))))) ss_nil))))))))))
      (ss_one (ds_ret de_bl))))))))))
end

/-- what the top has written -/
theorem all_mk {l : PySem.W.OpenLaw} {w : World} {K : PySem.W.Frag} {h : Heap} {mg : Str → Option Value} {fa : Addr} (hk : kOk K = true) (X : (kbf K).In h) (G : h.Ns mainGlobals mg) (hfa : mg "law" = some (.ref fa)) {f_fits : Addr} {oc_fits kV_fits dc_fits pm_fits ct_fits cd_fits : Value} {od_fits an_fits : Option Addr} {sl_fits : Array (Option Value)} {f_is_in : Addr} {oc_is_in kV_is_in dc_is_in pm_is_in ct_is_in cd_is_in : Value} {od_is_in an_is_in : Option Addr} {sl_is_in : Array (Option Value)} {f_is_talk_of : Addr} {oc_is_talk_of kV_is_talk_of dc_is_talk_of pm_is_talk_of ct_is_talk_of cd_is_talk_of : Value} {od_is_talk_of an_is_talk_of : Option Addr} {sl_is_talk_of : Array (Option Value)} {f_is_held_by : Addr} {oc_is_held_by kV_is_held_by dc_is_held_by pm_is_held_by ct_is_held_by cd_is_held_by : Value} {od_is_held_by an_is_held_by : Option Addr} {sl_is_held_by : Array (Option Value)} {f_is_shown_to : Addr} {oc_is_shown_to kV_is_shown_to dc_is_shown_to pm_is_shown_to ct_is_shown_to cd_is_shown_to : Value} {od_is_shown_to an_is_shown_to : Option Addr} {sl_is_shown_to : Array (Option Value)} {f_shown_to : Addr} {oc_shown_to kV_shown_to dc_shown_to pm_shown_to ct_shown_to cd_shown_to : Value} {od_shown_to an_shown_to : Option Addr} {sl_shown_to : Array (Option Value)} {f_has_talk cc_has_talk p_has_talk : Addr} {oc_has_talk kV_has_talk dc_has_talk pm_has_talk ct_has_talk : Value} {od_has_talk an_has_talk o2_has_talk : Option Addr} {sl_has_talk s2_has_talk : Array (Option Value)} {vs_has_talk : Array Value} {f_has_hold cc_has_hold p_has_hold : Addr} {oc_has_hold kV_has_hold dc_has_hold pm_has_hold ct_has_hold : Value} {od_has_hold an_has_hold o2_has_hold : Option Addr} {sl_has_hold s2_has_hold : Array (Option Value)} {vs_has_hold : Array Value} {f_is_free cc_is_free p_is_free : Addr} {oc_is_free kV_is_free dc_is_free pm_is_free ct_is_free : Value} {od_is_free an_is_free o2_is_free : Option Addr} {sl_is_free s2_is_free : Array (Option Value)} {vs_is_free : Array Value} {f_is_so : Addr} {oc_is_so kV_is_so dc_is_so pm_is_so ct_is_so cd_is_so : Value} {od_is_so an_is_so : Option Addr} {sl_is_so : Array (Option Value)} {f_are_so cc_are_so p_are_so : Addr} {oc_are_so kV_are_so dc_are_so pm_are_so ct_are_so : Value} {od_are_so an_are_so o2_are_so : Option Addr} {sl_are_so s2_are_so : Array (Option Value)} {vs_are_so : Array Value} {f_all_fit cc_all_fit p_all_fit : Addr} {oc_all_fit kV_all_fit dc_all_fit pm_all_fit ct_all_fit : Value} {od_all_fit an_all_fit o2_all_fit : Option Addr} {sl_all_fit s2_all_fit : Array (Option Value)} {vs_all_fit : Array Value} {f_state_behind : Addr} {oc_state_behind kV_state_behind dc_state_behind pm_state_behind ct_state_behind cd_state_behind : Value} {od_state_behind an_state_behind : Option Addr} {sl_state_behind : Array (Option Value)} {f_told_on cc_told_on p_told_on : Addr} {oc_told_on kV_told_on dc_told_on pm_told_on ct_told_on : Value} {od_told_on an_told_on o2_told_on : Option Addr} {sl_told_on s2_told_on : Array (Option Value)} {vs_told_on : Array Value} {f_L_hand : Addr} {oc_L_hand kV_L_hand dc_L_hand pm_L_hand ct_L_hand cd_L_hand : Value} {od_L_hand an_L_hand : Option Addr} {sl_L_hand : Array (Option Value)} {f_L_take : Addr} {oc_L_take kV_L_take dc_L_take pm_L_take ct_L_take cd_L_take : Value} {od_L_take an_L_take : Option Addr} {sl_L_take : Array (Option Value)} {f_L_calls : Addr} {oc_L_calls kV_L_calls dc_L_calls pm_L_calls ct_L_calls cd_L_calls : Value} {od_L_calls an_L_calls : Option Addr} {sl_L_calls : Array (Option Value)} {f_L_is_in : Addr} {oc_L_is_in kV_L_is_in dc_L_is_in pm_L_is_in ct_L_is_in cd_L_is_in : Value} {od_L_is_in an_L_is_in : Option Addr} {sl_L_is_in : Array (Option Value)} {f_L_holds : Addr} {oc_L_holds kV_L_holds dc_L_holds pm_L_holds ct_L_holds cd_L_holds : Value} {od_L_holds an_L_holds : Option Addr} {sl_L_holds : Array (Option Value)} {f_L_is_so : Addr} {oc_L_is_so kV_L_is_so dc_L_is_so pm_L_is_so ct_L_is_so cd_L_is_so : Value} {od_L_is_so an_L_is_so : Option Addr} {sl_L_is_so : Array (Option Value)} {f_L_pattern : Addr} {oc_L_pattern kV_L_pattern dc_L_pattern pm_L_pattern ct_L_pattern cd_L_pattern : Value} {od_L_pattern an_L_pattern : Option Addr} {sl_L_pattern : Array (Option Value)} {f_L_tests : Addr} {oc_L_tests kV_L_tests dc_L_tests pm_L_tests ct_L_tests cd_L_tests : Value} {od_L_tests an_L_tests : Option Addr} {sl_L_tests : Array (Option Value)} {f_L_words : Addr} {oc_L_words kV_L_words dc_L_words pm_L_words ct_L_words cd_L_words : Value} {od_L_words an_L_words : Option Addr} {sl_L_words : Array (Option Value)} {f_L_tale_rule : Addr} {oc_L_tale_rule kV_L_tale_rule dc_L_tale_rule pm_L_tale_rule ct_L_tale_rule cd_L_tale_rule : Value} {od_L_tale_rule an_L_tale_rule : Option Addr} {sl_L_tale_rule : Array (Option Value)} {f_L_fits : Addr} {oc_L_fits kV_L_fits dc_L_fits pm_L_fits ct_L_fits cd_L_fits : Value} {od_L_fits an_L_fits : Option Addr} {sl_L_fits : Array (Option Value)} {f_L_led : Addr} {oc_L_led kV_L_led dc_L_led pm_L_led ct_L_led cd_L_led : Value} {od_L_led an_L_led : Option Addr} {sl_L_led : Array (Option Value)} {f_L_event : Addr} {oc_L_event kV_L_event dc_L_event pm_L_event ct_L_event cd_L_event : Value} {od_L_event an_L_event : Option Addr} {sl_L_event : Array (Option Value)} {f_L_told_house : Addr} {oc_L_told_house kV_L_told_house dc_L_told_house pm_L_told_house ct_L_told_house cd_L_told_house : Value} {od_L_told_house an_L_told_house : Option Addr} {sl_L_told_house : Array (Option Value)} {f_L_same : Addr} {oc_L_same kV_L_same dc_L_same pm_L_same ct_L_same cd_L_same : Value} {od_L_same an_L_same : Option Addr} {sl_L_same : Array (Option Value)} {f_L_alone : Addr} {oc_L_alone kV_L_alone dc_L_alone pm_L_alone ct_L_alone cd_L_alone : Value} {od_L_alone an_L_alone : Option Addr} {sl_L_alone : Array (Option Value)} {f_law : Addr} {oc_law kV_law dc_law pm_law ct_law cd_law : Value} {od_law an_law : Option Addr} {sl_law : Array (Option Value)} {w_HOWS_AT_BOTH_ENDS : Value} {w_OPPOSITES : Addr} {es_OPPOSITES : Array DictEntry} {n_OPPOSITES : Nat} 
    (a_fits : PySem.W.nsIn K mainGlobals "fits" = some (some (.ref f_fits))) (l_fits : K.lookup f_fits = some ⟨oc_fits, od_fits, .func (PySem.W.fnOf "fits" "fits" (defArgs s_fits) (defBody s_fits) (defScope s_fits) .none kV_fits dc_fits pm_fits an_fits cd_fits ct_fits), sl_fits⟩) (oc_n_fits : decide (oc_fits ≠ .none) = true) (c_fits : PySem.W.codeIn K cd_fits "fits" = true) (a_is_in : PySem.W.nsIn K mainGlobals "is_in" = some (some (.ref f_is_in))) (l_is_in : K.lookup f_is_in = some ⟨oc_is_in, od_is_in, .func (PySem.W.fnOf "is_in" "is_in" (defArgs s_is_in) (defBody s_is_in) (defScope s_is_in) .none kV_is_in dc_is_in pm_is_in an_is_in cd_is_in ct_is_in), sl_is_in⟩) (oc_n_is_in : decide (oc_is_in ≠ .none) = true) (c_is_in : PySem.W.codeIn K cd_is_in "is_in" = true) (a_is_talk_of : PySem.W.nsIn K mainGlobals "is_talk_of" = some (some (.ref f_is_talk_of))) (l_is_talk_of : K.lookup f_is_talk_of = some ⟨oc_is_talk_of, od_is_talk_of, .func (PySem.W.fnOf "is_talk_of" "is_talk_of" (defArgs s_is_talk_of) (defBody s_is_talk_of) (defScope s_is_talk_of) .none kV_is_talk_of dc_is_talk_of pm_is_talk_of an_is_talk_of cd_is_talk_of ct_is_talk_of), sl_is_talk_of⟩) (oc_n_is_talk_of : decide (oc_is_talk_of ≠ .none) = true) (c_is_talk_of : PySem.W.codeIn K cd_is_talk_of "is_talk_of" = true) (a_is_held_by : PySem.W.nsIn K mainGlobals "is_held_by" = some (some (.ref f_is_held_by))) (l_is_held_by : K.lookup f_is_held_by = some ⟨oc_is_held_by, od_is_held_by, .func (PySem.W.fnOf "is_held_by" "is_held_by" (defArgs s_is_held_by) (defBody s_is_held_by) (defScope s_is_held_by) .none kV_is_held_by dc_is_held_by pm_is_held_by an_is_held_by cd_is_held_by ct_is_held_by), sl_is_held_by⟩) (oc_n_is_held_by : decide (oc_is_held_by ≠ .none) = true) (c_is_held_by : PySem.W.codeIn K cd_is_held_by "is_held_by" = true) (a_is_shown_to : PySem.W.nsIn K mainGlobals "is_shown_to" = some (some (.ref f_is_shown_to))) (l_is_shown_to : K.lookup f_is_shown_to = some ⟨oc_is_shown_to, od_is_shown_to, .func (PySem.W.fnOf "is_shown_to" "is_shown_to" (defArgs s_is_shown_to) (defBody s_is_shown_to) (defScope s_is_shown_to) .none kV_is_shown_to dc_is_shown_to pm_is_shown_to an_is_shown_to cd_is_shown_to ct_is_shown_to), sl_is_shown_to⟩) (oc_n_is_shown_to : decide (oc_is_shown_to ≠ .none) = true) (c_is_shown_to : PySem.W.codeIn K cd_is_shown_to "is_shown_to" = true) (a_shown_to : PySem.W.nsIn K mainGlobals "shown_to" = some (some (.ref f_shown_to))) (l_shown_to : K.lookup f_shown_to = some ⟨oc_shown_to, od_shown_to, .func (PySem.W.fnOf "shown_to" "shown_to" (defArgs s_shown_to) (defBody s_shown_to) (defScope s_shown_to) .none kV_shown_to dc_shown_to pm_shown_to an_shown_to cd_shown_to ct_shown_to), sl_shown_to⟩) (oc_n_shown_to : decide (oc_shown_to ≠ .none) = true) (c_shown_to : PySem.W.codeIn K cd_shown_to "shown_to" = true) (a_has_talk : PySem.W.nsIn K mainGlobals "has_talk" = some (some (.ref f_has_talk))) (l_has_talk : K.lookup f_has_talk = some ⟨oc_has_talk, od_has_talk, .func (PySem.W.fnOf "has_talk" "has_talk" (defArgs s_has_talk) (defBody s_has_talk) (defScope s_has_talk) .none kV_has_talk dc_has_talk pm_has_talk an_has_talk (.ref cc_has_talk) ct_has_talk), sl_has_talk⟩) (oc_n_has_talk : decide (oc_has_talk ≠ .none) = true) (c_has_talk : PySem.W.codeIn K (.ref cc_has_talk) "has_talk" = true) (u_has_talk : K.lookup cc_has_talk = some ⟨.type "code", o2_has_talk, .fields vs_has_talk, s2_has_talk⟩) (q_has_talk : tabOf vs_has_talk = some p_has_talk) (a_has_hold : PySem.W.nsIn K mainGlobals "has_hold" = some (some (.ref f_has_hold))) (l_has_hold : K.lookup f_has_hold = some ⟨oc_has_hold, od_has_hold, .func (PySem.W.fnOf "has_hold" "has_hold" (defArgs s_has_hold) (defBody s_has_hold) (defScope s_has_hold) .none kV_has_hold dc_has_hold pm_has_hold an_has_hold (.ref cc_has_hold) ct_has_hold), sl_has_hold⟩) (oc_n_has_hold : decide (oc_has_hold ≠ .none) = true) (c_has_hold : PySem.W.codeIn K (.ref cc_has_hold) "has_hold" = true) (u_has_hold : K.lookup cc_has_hold = some ⟨.type "code", o2_has_hold, .fields vs_has_hold, s2_has_hold⟩) (q_has_hold : tabOf vs_has_hold = some p_has_hold) (a_is_free : PySem.W.nsIn K mainGlobals "is_free" = some (some (.ref f_is_free))) (l_is_free : K.lookup f_is_free = some ⟨oc_is_free, od_is_free, .func (PySem.W.fnOf "is_free" "is_free" (defArgs s_is_free) (defBody s_is_free) (defScope s_is_free) .none kV_is_free dc_is_free pm_is_free an_is_free (.ref cc_is_free) ct_is_free), sl_is_free⟩) (oc_n_is_free : decide (oc_is_free ≠ .none) = true) (c_is_free : PySem.W.codeIn K (.ref cc_is_free) "is_free" = true) (u_is_free : K.lookup cc_is_free = some ⟨.type "code", o2_is_free, .fields vs_is_free, s2_is_free⟩) (q_is_free : tabOf vs_is_free = some p_is_free) (a_is_so : PySem.W.nsIn K mainGlobals "is_so" = some (some (.ref f_is_so))) (l_is_so : K.lookup f_is_so = some ⟨oc_is_so, od_is_so, .func (PySem.W.fnOf "is_so" "is_so" (defArgs s_is_so) (defBody s_is_so) (defScope s_is_so) .none kV_is_so dc_is_so pm_is_so an_is_so cd_is_so ct_is_so), sl_is_so⟩) (oc_n_is_so : decide (oc_is_so ≠ .none) = true) (c_is_so : PySem.W.codeIn K cd_is_so "is_so" = true) (a_are_so : PySem.W.nsIn K mainGlobals "are_so" = some (some (.ref f_are_so))) (l_are_so : K.lookup f_are_so = some ⟨oc_are_so, od_are_so, .func (PySem.W.fnOf "are_so" "are_so" (defArgs s_are_so) (defBody s_are_so) (defScope s_are_so) .none kV_are_so dc_are_so pm_are_so an_are_so (.ref cc_are_so) ct_are_so), sl_are_so⟩) (oc_n_are_so : decide (oc_are_so ≠ .none) = true) (c_are_so : PySem.W.codeIn K (.ref cc_are_so) "are_so" = true) (u_are_so : K.lookup cc_are_so = some ⟨.type "code", o2_are_so, .fields vs_are_so, s2_are_so⟩) (q_are_so : tabOf vs_are_so = some p_are_so) (a_all_fit : PySem.W.nsIn K mainGlobals "all_fit" = some (some (.ref f_all_fit))) (l_all_fit : K.lookup f_all_fit = some ⟨oc_all_fit, od_all_fit, .func (PySem.W.fnOf "all_fit" "all_fit" (defArgs s_all_fit) (defBody s_all_fit) (defScope s_all_fit) .none kV_all_fit dc_all_fit pm_all_fit an_all_fit (.ref cc_all_fit) ct_all_fit), sl_all_fit⟩) (oc_n_all_fit : decide (oc_all_fit ≠ .none) = true) (c_all_fit : PySem.W.codeIn K (.ref cc_all_fit) "all_fit" = true) (u_all_fit : K.lookup cc_all_fit = some ⟨.type "code", o2_all_fit, .fields vs_all_fit, s2_all_fit⟩) (q_all_fit : tabOf vs_all_fit = some p_all_fit) (a_state_behind : PySem.W.nsIn K mainGlobals "state_behind" = some (some (.ref f_state_behind))) (l_state_behind : K.lookup f_state_behind = some ⟨oc_state_behind, od_state_behind, .func (PySem.W.fnOf "state_behind" "state_behind" (defArgs s_state_behind) (defBody s_state_behind) (defScope s_state_behind) .none kV_state_behind dc_state_behind pm_state_behind an_state_behind cd_state_behind ct_state_behind), sl_state_behind⟩) (oc_n_state_behind : decide (oc_state_behind ≠ .none) = true) (c_state_behind : PySem.W.codeIn K cd_state_behind "state_behind" = true) (a_told_on : PySem.W.nsIn K mainGlobals "told_on" = some (some (.ref f_told_on))) (l_told_on : K.lookup f_told_on = some ⟨oc_told_on, od_told_on, .func (PySem.W.fnOf "told_on" "told_on" (defArgs s_told_on) (defBody s_told_on) (defScope s_told_on) .none kV_told_on dc_told_on pm_told_on an_told_on (.ref cc_told_on) ct_told_on), sl_told_on⟩) (oc_n_told_on : decide (oc_told_on ≠ .none) = true) (c_told_on : PySem.W.codeIn K (.ref cc_told_on) "told_on" = true) (u_told_on : K.lookup cc_told_on = some ⟨.type "code", o2_told_on, .fields vs_told_on, s2_told_on⟩) (q_told_on : tabOf vs_told_on = some p_told_on) (a_L_hand : PySem.W.nsIn K mainGlobals "_law_hand" = some (some (.ref f_L_hand))) (l_L_hand : K.lookup f_L_hand = some ⟨oc_L_hand, od_L_hand, .func (PySem.W.fnOf "_law_hand" "_law_hand" (defArgs s_L_hand) (defBody s_L_hand) (defScope s_L_hand) .none kV_L_hand dc_L_hand pm_L_hand an_L_hand cd_L_hand ct_L_hand), sl_L_hand⟩) (oc_n_L_hand : decide (oc_L_hand ≠ .none) = true) (c_L_hand : PySem.W.codeIn K cd_L_hand "_law_hand" = true) (a_L_take : PySem.W.nsIn K mainGlobals "_law_take" = some (some (.ref f_L_take))) (l_L_take : K.lookup f_L_take = some ⟨oc_L_take, od_L_take, .func (PySem.W.fnOf "_law_take" "_law_take" (defArgs s_L_take) (defBody s_L_take) (defScope s_L_take) .none kV_L_take dc_L_take pm_L_take an_L_take cd_L_take ct_L_take), sl_L_take⟩) (oc_n_L_take : decide (oc_L_take ≠ .none) = true) (c_L_take : PySem.W.codeIn K cd_L_take "_law_take" = true) (a_L_calls : PySem.W.nsIn K mainGlobals "_law_calls" = some (some (.ref f_L_calls))) (l_L_calls : K.lookup f_L_calls = some ⟨oc_L_calls, od_L_calls, .func (PySem.W.fnOf "_law_calls" "_law_calls" (defArgs s_L_calls) (defBody s_L_calls) (defScope s_L_calls) .none kV_L_calls dc_L_calls pm_L_calls an_L_calls cd_L_calls ct_L_calls), sl_L_calls⟩) (oc_n_L_calls : decide (oc_L_calls ≠ .none) = true) (c_L_calls : PySem.W.codeIn K cd_L_calls "_law_calls" = true) (a_L_is_in : PySem.W.nsIn K mainGlobals "_law_is_in" = some (some (.ref f_L_is_in))) (l_L_is_in : K.lookup f_L_is_in = some ⟨oc_L_is_in, od_L_is_in, .func (PySem.W.fnOf "_law_is_in" "_law_is_in" (defArgs s_L_is_in) (defBody s_L_is_in) (defScope s_L_is_in) .none kV_L_is_in dc_L_is_in pm_L_is_in an_L_is_in cd_L_is_in ct_L_is_in), sl_L_is_in⟩) (oc_n_L_is_in : decide (oc_L_is_in ≠ .none) = true) (c_L_is_in : PySem.W.codeIn K cd_L_is_in "_law_is_in" = true) (a_L_holds : PySem.W.nsIn K mainGlobals "_law_holds" = some (some (.ref f_L_holds))) (l_L_holds : K.lookup f_L_holds = some ⟨oc_L_holds, od_L_holds, .func (PySem.W.fnOf "_law_holds" "_law_holds" (defArgs s_L_holds) (defBody s_L_holds) (defScope s_L_holds) .none kV_L_holds dc_L_holds pm_L_holds an_L_holds cd_L_holds ct_L_holds), sl_L_holds⟩) (oc_n_L_holds : decide (oc_L_holds ≠ .none) = true) (c_L_holds : PySem.W.codeIn K cd_L_holds "_law_holds" = true) (a_L_is_so : PySem.W.nsIn K mainGlobals "_law_is_so" = some (some (.ref f_L_is_so))) (l_L_is_so : K.lookup f_L_is_so = some ⟨oc_L_is_so, od_L_is_so, .func (PySem.W.fnOf "_law_is_so" "_law_is_so" (defArgs s_L_is_so) (defBody s_L_is_so) (defScope s_L_is_so) .none kV_L_is_so dc_L_is_so pm_L_is_so an_L_is_so cd_L_is_so ct_L_is_so), sl_L_is_so⟩) (oc_n_L_is_so : decide (oc_L_is_so ≠ .none) = true) (c_L_is_so : PySem.W.codeIn K cd_L_is_so "_law_is_so" = true) (a_L_pattern : PySem.W.nsIn K mainGlobals "_law_pattern" = some (some (.ref f_L_pattern))) (l_L_pattern : K.lookup f_L_pattern = some ⟨oc_L_pattern, od_L_pattern, .func (PySem.W.fnOf "_law_pattern" "_law_pattern" (defArgs s_L_pattern) (defBody s_L_pattern) (defScope s_L_pattern) .none kV_L_pattern dc_L_pattern pm_L_pattern an_L_pattern cd_L_pattern ct_L_pattern), sl_L_pattern⟩) (oc_n_L_pattern : decide (oc_L_pattern ≠ .none) = true) (c_L_pattern : PySem.W.codeIn K cd_L_pattern "_law_pattern" = true) (a_L_tests : PySem.W.nsIn K mainGlobals "_law_tests" = some (some (.ref f_L_tests))) (l_L_tests : K.lookup f_L_tests = some ⟨oc_L_tests, od_L_tests, .func (PySem.W.fnOf "_law_tests" "_law_tests" (defArgs s_L_tests) (defBody s_L_tests) (defScope s_L_tests) .none kV_L_tests dc_L_tests pm_L_tests an_L_tests cd_L_tests ct_L_tests), sl_L_tests⟩) (oc_n_L_tests : decide (oc_L_tests ≠ .none) = true) (c_L_tests : PySem.W.codeIn K cd_L_tests "_law_tests" = true) (a_L_words : PySem.W.nsIn K mainGlobals "_law_words" = some (some (.ref f_L_words))) (l_L_words : K.lookup f_L_words = some ⟨oc_L_words, od_L_words, .func (PySem.W.fnOf "_law_words" "_law_words" (defArgs s_L_words) (defBody s_L_words) (defScope s_L_words) .none kV_L_words dc_L_words pm_L_words an_L_words cd_L_words ct_L_words), sl_L_words⟩) (oc_n_L_words : decide (oc_L_words ≠ .none) = true) (c_L_words : PySem.W.codeIn K cd_L_words "_law_words" = true) (a_L_tale_rule : PySem.W.nsIn K mainGlobals "_law_tale_rule" = some (some (.ref f_L_tale_rule))) (l_L_tale_rule : K.lookup f_L_tale_rule = some ⟨oc_L_tale_rule, od_L_tale_rule, .func (PySem.W.fnOf "_law_tale_rule" "_law_tale_rule" (defArgs s_L_tale_rule) (defBody s_L_tale_rule) (defScope s_L_tale_rule) .none kV_L_tale_rule dc_L_tale_rule pm_L_tale_rule an_L_tale_rule cd_L_tale_rule ct_L_tale_rule), sl_L_tale_rule⟩) (oc_n_L_tale_rule : decide (oc_L_tale_rule ≠ .none) = true) (c_L_tale_rule : PySem.W.codeIn K cd_L_tale_rule "_law_tale_rule" = true) (a_L_fits : PySem.W.nsIn K mainGlobals "_law_fits" = some (some (.ref f_L_fits))) (l_L_fits : K.lookup f_L_fits = some ⟨oc_L_fits, od_L_fits, .func (PySem.W.fnOf "_law_fits" "_law_fits" (defArgs s_L_fits) (defBody s_L_fits) (defScope s_L_fits) .none kV_L_fits dc_L_fits pm_L_fits an_L_fits cd_L_fits ct_L_fits), sl_L_fits⟩) (oc_n_L_fits : decide (oc_L_fits ≠ .none) = true) (c_L_fits : PySem.W.codeIn K cd_L_fits "_law_fits" = true) (a_L_led : PySem.W.nsIn K mainGlobals "_law_led" = some (some (.ref f_L_led))) (l_L_led : K.lookup f_L_led = some ⟨oc_L_led, od_L_led, .func (PySem.W.fnOf "_law_led" "_law_led" (defArgs s_L_led) (defBody s_L_led) (defScope s_L_led) .none kV_L_led dc_L_led pm_L_led an_L_led cd_L_led ct_L_led), sl_L_led⟩) (oc_n_L_led : decide (oc_L_led ≠ .none) = true) (c_L_led : PySem.W.codeIn K cd_L_led "_law_led" = true) (a_L_event : PySem.W.nsIn K mainGlobals "_law_event" = some (some (.ref f_L_event))) (l_L_event : K.lookup f_L_event = some ⟨oc_L_event, od_L_event, .func (PySem.W.fnOf "_law_event" "_law_event" (defArgs s_L_event) (defBody s_L_event) (defScope s_L_event) .none kV_L_event dc_L_event pm_L_event an_L_event cd_L_event ct_L_event), sl_L_event⟩) (oc_n_L_event : decide (oc_L_event ≠ .none) = true) (c_L_event : PySem.W.codeIn K cd_L_event "_law_event" = true) (a_L_told_house : PySem.W.nsIn K mainGlobals "_law_told_house" = some (some (.ref f_L_told_house))) (l_L_told_house : K.lookup f_L_told_house = some ⟨oc_L_told_house, od_L_told_house, .func (PySem.W.fnOf "_law_told_house" "_law_told_house" (defArgs s_L_told_house) (defBody s_L_told_house) (defScope s_L_told_house) .none kV_L_told_house dc_L_told_house pm_L_told_house an_L_told_house cd_L_told_house ct_L_told_house), sl_L_told_house⟩) (oc_n_L_told_house : decide (oc_L_told_house ≠ .none) = true) (c_L_told_house : PySem.W.codeIn K cd_L_told_house "_law_told_house" = true) (a_L_same : PySem.W.nsIn K mainGlobals "_law_same" = some (some (.ref f_L_same))) (l_L_same : K.lookup f_L_same = some ⟨oc_L_same, od_L_same, .func (PySem.W.fnOf "_law_same" "_law_same" (defArgs s_L_same) (defBody s_L_same) (defScope s_L_same) .none kV_L_same dc_L_same pm_L_same an_L_same cd_L_same ct_L_same), sl_L_same⟩) (oc_n_L_same : decide (oc_L_same ≠ .none) = true) (c_L_same : PySem.W.codeIn K cd_L_same "_law_same" = true) (a_L_alone : PySem.W.nsIn K mainGlobals "_law_alone" = some (some (.ref f_L_alone))) (l_L_alone : K.lookup f_L_alone = some ⟨oc_L_alone, od_L_alone, .func (PySem.W.fnOf "_law_alone" "_law_alone" (defArgs s_L_alone) (defBody s_L_alone) (defScope s_L_alone) .none kV_L_alone dc_L_alone pm_L_alone an_L_alone cd_L_alone ct_L_alone), sl_L_alone⟩) (oc_n_L_alone : decide (oc_L_alone ≠ .none) = true) (c_L_alone : PySem.W.codeIn K cd_L_alone "_law_alone" = true) (a_law : PySem.W.nsIn K mainGlobals "law" = some (some (.ref f_law))) (l_law : K.lookup f_law = some ⟨oc_law, od_law, .func (PySem.W.fnOf "law" "law" (defArgs s_law) (defBody s_law) (defScope s_law) .none kV_law dc_law pm_law an_law cd_law ct_law), sl_law⟩) (oc_n_law : decide (oc_law ≠ .none) = true) (c_law : PySem.W.codeIn K cd_law "law" = true) (z_abs : PySem.W.nsIn K mainGlobals "abs" = some none) (z_all : PySem.W.nsIn K mainGlobals "all" = some none) (z_any : PySem.W.nsIn K mainGlobals "any" = some none) (z_bool : PySem.W.nsIn K mainGlobals "bool" = some none) (z_enumerate : PySem.W.nsIn K mainGlobals "enumerate" = some none) (z_int : PySem.W.nsIn K mainGlobals "int" = some none) (z_isinstance : PySem.W.nsIn K mainGlobals "isinstance" = some none) (z_len : PySem.W.nsIn K mainGlobals "len" = some none) (z_range : PySem.W.nsIn K mainGlobals "range" = some none) (z_reversed : PySem.W.nsIn K mainGlobals "reversed" = some none) (z_sorted : PySem.W.nsIn K mainGlobals "sorted" = some none) (z_str : PySem.W.nsIn K mainGlobals "str" = some none) (z_tuple : PySem.W.nsIn K mainGlobals "tuple" = some none) (z_zip : PySem.W.nsIn K mainGlobals "zip" = some none) (g_HOWS_AT_BOTH_ENDS : PySem.W.nsIn K mainGlobals "HOWS_AT_BOTH_ENDS" = some (some w_HOWS_AT_BOTH_ENDS)) (h_HOWS_AT_BOTH_ENDS : rdK (kbf K) 5 w_HOWS_AT_BOTH_ENDS = some c_HOWS_AT_BOTH_ENDS) (g_OPPOSITES : PySem.W.nsIn K mainGlobals "OPPOSITES" = some (some (.ref w_OPPOSITES))) (d_OPPOSITES : K.lookup w_OPPOSITES = some ⟨.type "dict", none, .dict es_OPPOSITES n_OPPOSITES, #[]⟩) (e_OPPOSITES : (w_OPPOSITES == sysModules) = false) (y_OPPOSITES : PySem.W.KeysLit w.params es_OPPOSITES.toList) (h_OPPOSITES : kdK (kbf K) es_OPPOSITES.toList = some c_OPPOSITES) :
    ∃ fd : FuncData, (∀ (s : Shared) (v : Value), BindsTo s fd ⟨[v], []⟩ [("_law_script", v)]) ∧ ∀ base : Heap, (kbf K).In base → base.Ns mainGlobals mg → BMd mg base → FnOk l.prog w (kbf K) mg base CX0 19 fa fd ["_law_script"] (spD (kbf K) sm_law) := by
  have e := hfa.symm.trans (PySem.W.mg_of X G (kbf_ns a_law))
  cases e
  have F0_fits := fun_kbf hk (st := s_fits) l_fits oc_n_fits c_fits
  have F0_is_in := fun_kbf hk (st := s_is_in) l_is_in oc_n_is_in c_is_in
  have F0_is_talk_of := fun_kbf hk (st := s_is_talk_of) l_is_talk_of oc_n_is_talk_of c_is_talk_of
  have F0_is_held_by := fun_kbf hk (st := s_is_held_by) l_is_held_by oc_n_is_held_by c_is_held_by
  have F0_is_shown_to := fun_kbf hk (st := s_is_shown_to) l_is_shown_to oc_n_is_shown_to c_is_shown_to
  have F0_shown_to := fun_kbf hk (st := s_shown_to) l_shown_to oc_n_shown_to c_shown_to
  have F0_has_talk := fun_kbf hk (st := s_has_talk) l_has_talk oc_n_has_talk c_has_talk
  have G_has_talk : ∀ base : Heap, BMd mg base → GenT (kbf K) mg base cc_has_talk := fun base B => ⟨⟨p_has_talk, tab_kbf l_has_talk oc_n_has_talk rfl u_has_talk q_has_talk⟩, B⟩
  have F0_has_hold := fun_kbf hk (st := s_has_hold) l_has_hold oc_n_has_hold c_has_hold
  have G_has_hold : ∀ base : Heap, BMd mg base → GenT (kbf K) mg base cc_has_hold := fun base B => ⟨⟨p_has_hold, tab_kbf l_has_hold oc_n_has_hold rfl u_has_hold q_has_hold⟩, B⟩
  have F0_is_free := fun_kbf hk (st := s_is_free) l_is_free oc_n_is_free c_is_free
  have G_is_free : ∀ base : Heap, BMd mg base → GenT (kbf K) mg base cc_is_free := fun base B => ⟨⟨p_is_free, tab_kbf l_is_free oc_n_is_free rfl u_is_free q_is_free⟩, B⟩
  have F0_is_so := fun_kbf hk (st := s_is_so) l_is_so oc_n_is_so c_is_so
  have F0_are_so := fun_kbf hk (st := s_are_so) l_are_so oc_n_are_so c_are_so
  have G_are_so : ∀ base : Heap, BMd mg base → GenT (kbf K) mg base cc_are_so := fun base B => ⟨⟨p_are_so, tab_kbf l_are_so oc_n_are_so rfl u_are_so q_are_so⟩, B⟩
  have F0_all_fit := fun_kbf hk (st := s_all_fit) l_all_fit oc_n_all_fit c_all_fit
  have G_all_fit : ∀ base : Heap, BMd mg base → GenT (kbf K) mg base cc_all_fit := fun base B => ⟨⟨p_all_fit, tab_kbf l_all_fit oc_n_all_fit rfl u_all_fit q_all_fit⟩, B⟩
  have F0_state_behind := fun_kbf hk (st := s_state_behind) l_state_behind oc_n_state_behind c_state_behind
  have F0_told_on := fun_kbf hk (st := s_told_on) l_told_on oc_n_told_on c_told_on
  have G_told_on : ∀ base : Heap, BMd mg base → GenT (kbf K) mg base cc_told_on := fun base B => ⟨⟨p_told_on, tab_kbf l_told_on oc_n_told_on rfl u_told_on q_told_on⟩, B⟩
  have F0_L_hand := fun_kbf hk (st := s_L_hand) l_L_hand oc_n_L_hand c_L_hand
  have F0_L_take := fun_kbf hk (st := s_L_take) l_L_take oc_n_L_take c_L_take
  have F0_L_calls := fun_kbf hk (st := s_L_calls) l_L_calls oc_n_L_calls c_L_calls
  have F0_L_is_in := fun_kbf hk (st := s_L_is_in) l_L_is_in oc_n_L_is_in c_L_is_in
  have F0_L_holds := fun_kbf hk (st := s_L_holds) l_L_holds oc_n_L_holds c_L_holds
  have F0_L_is_so := fun_kbf hk (st := s_L_is_so) l_L_is_so oc_n_L_is_so c_L_is_so
  have F0_L_pattern := fun_kbf hk (st := s_L_pattern) l_L_pattern oc_n_L_pattern c_L_pattern
  have F0_L_tests := fun_kbf hk (st := s_L_tests) l_L_tests oc_n_L_tests c_L_tests
  have F0_L_words := fun_kbf hk (st := s_L_words) l_L_words oc_n_L_words c_L_words
  have F0_L_tale_rule := fun_kbf hk (st := s_L_tale_rule) l_L_tale_rule oc_n_L_tale_rule c_L_tale_rule
  have F0_L_fits := fun_kbf hk (st := s_L_fits) l_L_fits oc_n_L_fits c_L_fits
  have F0_L_led := fun_kbf hk (st := s_L_led) l_L_led oc_n_L_led c_L_led
  have F0_L_event := fun_kbf hk (st := s_L_event) l_L_event oc_n_L_event c_L_event
  have F0_L_told_house := fun_kbf hk (st := s_L_told_house) l_L_told_house oc_n_L_told_house c_L_told_house
  have F0_L_same := fun_kbf hk (st := s_L_same) l_L_same oc_n_L_same c_L_same
  have F0_L_alone := fun_kbf hk (st := s_L_alone) l_L_alone oc_n_L_alone c_L_alone
  have F0_law := fun_kbf hk (st := s_law) l_law oc_n_law c_law
  have T : Tx mg := ⟨PySem.W.mg_none_of X G (kbf_ns z_abs), PySem.W.mg_none_of X G (kbf_ns z_all), PySem.W.mg_none_of X G (kbf_ns z_any), PySem.W.mg_none_of X G (kbf_ns z_bool), PySem.W.mg_none_of X G (kbf_ns z_enumerate), PySem.W.mg_none_of X G (kbf_ns z_int), PySem.W.mg_none_of X G (kbf_ns z_isinstance), PySem.W.mg_none_of X G (kbf_ns z_len), PySem.W.mg_none_of X G (kbf_ns z_range), PySem.W.mg_none_of X G (kbf_ns z_reversed), PySem.W.mg_none_of X G (kbf_ns z_sorted), PySem.W.mg_none_of X G (kbf_ns z_str), PySem.W.mg_none_of X G (kbf_ns z_tuple), PySem.W.mg_none_of X G (kbf_ns z_zip)⟩
  have C : Cs (kbf K) mg w.params := ⟨gld_of X G (kbf_ns g_HOWS_AT_BOTH_ENDS) h_HOWS_AT_BOTH_ENDS, glk_of X G (kbf_ns g_OPPOSITES) (lookup_kbf d_OPPOSITES (by unfold kbk; simp)) e_OPPOSITES y_OPPOSITES h_OPPOSITES⟩
  have F_fits : ∀ base : Heap, BMd mg base → FnK l.prog w (kbf K) mg base 1 "fits" sm_fits := fun base B => ok_fits T F0_fits (PySem.W.mg_of X G (kbf_ns a_fits)) C 
  have F_is_in : ∀ base : Heap, BMd mg base → FnK l.prog w (kbf K) mg base 1 "is_in" sm_is_in := fun base B => ok_is_in T F0_is_in (PySem.W.mg_of X G (kbf_ns a_is_in)) C 
  have F_is_talk_of : ∀ base : Heap, BMd mg base → FnK l.prog w (kbf K) mg base 1 "is_talk_of" sm_is_talk_of := fun base B => ok_is_talk_of T F0_is_talk_of (PySem.W.mg_of X G (kbf_ns a_is_talk_of)) C 
  have F_is_held_by : ∀ base : Heap, BMd mg base → FnK l.prog w (kbf K) mg base 1 "is_held_by" sm_is_held_by := fun base B => ok_is_held_by T F0_is_held_by (PySem.W.mg_of X G (kbf_ns a_is_held_by)) C 
  have F_is_shown_to : ∀ base : Heap, BMd mg base → FnK l.prog w (kbf K) mg base 1 "is_shown_to" sm_is_shown_to := fun base B => ok_is_shown_to T F0_is_shown_to (PySem.W.mg_of X G (kbf_ns a_is_shown_to)) C 
  have F_shown_to : ∀ base : Heap, BMd mg base → FnK l.prog w (kbf K) mg base 2 "shown_to" sm_shown_to := fun base B => ok_shown_to T F0_shown_to (PySem.W.mg_of X G (kbf_ns a_shown_to)) C (F_is_shown_to base B)
  have F_has_talk : ∀ base : Heap, BMd mg base → FnK l.prog w (kbf K) mg base 3 "has_talk" sm_has_talk := fun base B => ok_has_talk T F0_has_talk (PySem.W.mg_of X G (kbf_ns a_has_talk)) C (G_has_talk base B) rfl (F_is_talk_of base B)
  have F_has_hold : ∀ base : Heap, BMd mg base → FnK l.prog w (kbf K) mg base 3 "has_hold" sm_has_hold := fun base B => ok_has_hold T F0_has_hold (PySem.W.mg_of X G (kbf_ns a_has_hold)) C (G_has_hold base B) rfl (F_is_held_by base B)
  have F_is_free : ∀ base : Heap, BMd mg base → FnK l.prog w (kbf K) mg base 3 "is_free" sm_is_free := fun base B => ok_is_free T F0_is_free (PySem.W.mg_of X G (kbf_ns a_is_free)) C (G_is_free base B) rfl (F_is_in base B)
  have F_is_so : ∀ base : Heap, BMd mg base → FnK l.prog w (kbf K) mg base 12 "is_so" (sm_is_so 8) := fun base B => ok_is_so T F0_is_so (PySem.W.mg_of X G (kbf_ns a_is_so)) C (F_has_talk base B) (F_has_hold base B) (F_is_free base B) (F_shown_to base B) 8
  have F_are_so : ∀ base : Heap, BMd mg base → FnK l.prog w (kbf K) mg base 14 "are_so" sm_are_so := fun base B => ok_are_so T F0_are_so (PySem.W.mg_of X G (kbf_ns a_are_so)) C (G_are_so base B) rfl (F_is_so base B)
  have F_all_fit : ∀ base : Heap, BMd mg base → FnK l.prog w (kbf K) mg base 3 "all_fit" sm_all_fit := fun base B => ok_all_fit T F0_all_fit (PySem.W.mg_of X G (kbf_ns a_all_fit)) C (G_all_fit base B) rfl (F_fits base B)
  have F_state_behind : ∀ base : Heap, BMd mg base → FnK l.prog w (kbf K) mg base 15 "state_behind" sm_state_behind := fun base B => ok_state_behind T F0_state_behind (PySem.W.mg_of X G (kbf_ns a_state_behind)) C (F_all_fit base B) (F_are_so base B)
  have F_told_on : ∀ base : Heap, BMd mg base → FnK l.prog w (kbf K) mg base 17 "told_on" sm_told_on := fun base B => ok_told_on T F0_told_on (PySem.W.mg_of X G (kbf_ns a_told_on)) C (G_told_on base B) rfl (F_state_behind base B)
  have F_L_hand : ∀ base : Heap, BMd mg base → FnK l.prog w (kbf K) mg base 1 "_law_hand" sm_L_hand := fun base B => ok_L_hand T F0_L_hand (PySem.W.mg_of X G (kbf_ns a_L_hand)) C 
  have F_L_take : ∀ base : Heap, BMd mg base → FnK l.prog w (kbf K) mg base 1 "_law_take" sm_L_take := fun base B => ok_L_take T F0_L_take (PySem.W.mg_of X G (kbf_ns a_L_take)) C 
  have F_L_calls : ∀ base : Heap, BMd mg base → FnK l.prog w (kbf K) mg base 2 "_law_calls" sm_L_calls := fun base B => ok_L_calls T F0_L_calls (PySem.W.mg_of X G (kbf_ns a_L_calls)) C (F_L_take base B)
  have F_L_is_in : ∀ base : Heap, BMd mg base → FnK l.prog w (kbf K) mg base 1 "_law_is_in" sm_L_is_in := fun base B => ok_L_is_in T F0_L_is_in (PySem.W.mg_of X G (kbf_ns a_L_is_in)) C 
  have F_L_holds : ∀ base : Heap, BMd mg base → FnK l.prog w (kbf K) mg base 1 "_law_holds" sm_L_holds := fun base B => ok_L_holds T F0_L_holds (PySem.W.mg_of X G (kbf_ns a_L_holds)) C 
  have F_L_is_so : ∀ base : Heap, BMd mg base → FnK l.prog w (kbf K) mg base 2 "_law_is_so" sm_L_is_so := fun base B => ok_L_is_so T F0_L_is_so (PySem.W.mg_of X G (kbf_ns a_L_is_so)) C (F_L_holds base B) (F_L_is_in base B)
  have F_L_pattern : ∀ base : Heap, BMd mg base → FnK l.prog w (kbf K) mg base 2 "_law_pattern" sm_L_pattern := fun base B => ok_L_pattern T F0_L_pattern (PySem.W.mg_of X G (kbf_ns a_L_pattern)) C (F_L_take base B)
  have F_L_tests : ∀ base : Heap, BMd mg base → FnK l.prog w (kbf K) mg base 2 "_law_tests" sm_L_tests := fun base B => ok_L_tests T F0_L_tests (PySem.W.mg_of X G (kbf_ns a_L_tests)) C (F_L_take base B)
  have F_L_words : ∀ base : Heap, BMd mg base → FnK l.prog w (kbf K) mg base 1 "_law_words" sm_L_words := fun base B => ok_L_words T F0_L_words (PySem.W.mg_of X G (kbf_ns a_L_words)) C 
  have F_L_tale_rule : ∀ base : Heap, BMd mg base → FnK l.prog w (kbf K) mg base 3 "_law_tale_rule" sm_L_tale_rule := fun base B => ok_L_tale_rule T F0_L_tale_rule (PySem.W.mg_of X G (kbf_ns a_L_tale_rule)) C (F_L_words base B) (F_L_take base B) (F_L_tests base B) (F_L_pattern base B)
  have F_L_fits : ∀ base : Heap, BMd mg base → FnK l.prog w (kbf K) mg base 1 "_law_fits" sm_fits := fun base B => ok_L_fits T F0_L_fits (PySem.W.mg_of X G (kbf_ns a_L_fits)) C 
  have F_L_led : ∀ base : Heap, BMd mg base → FnK l.prog w (kbf K) mg base 3 "_law_led" sm_L_led := fun base B => ok_L_led T F0_L_led (PySem.W.mg_of X G (kbf_ns a_L_led)) C (F_L_is_so base B) (F_L_fits base B)
  have F_L_event : ∀ base : Heap, BMd mg base → FnK l.prog w (kbf K) mg base 2 "_law_event" sm_L_event := fun base B => ok_L_event T F0_L_event (PySem.W.mg_of X G (kbf_ns a_L_event)) C (F_L_words base B) (F_L_take base B)
  have F_L_told_house : ∀ base : Heap, BMd mg base → FnK l.prog w (kbf K) mg base 4 "_law_told_house" sm_L_told_house := fun base B => ok_L_told_house T F0_L_told_house (PySem.W.mg_of X G (kbf_ns a_L_told_house)) C (F_L_take base B) (F_L_tale_rule base B)
  have F_L_same : ∀ base : Heap, BMd mg base → FnK l.prog w (kbf K) mg base 9 "_law_same" (sm_L_same 8) := fun base B => ok_L_same T F0_L_same (PySem.W.mg_of X G (kbf_ns a_L_same)) C  8
  have F_L_alone : ∀ base : Heap, BMd mg base → FnK l.prog w (kbf K) mg base 18 "_law_alone" sm_L_alone := fun base B => ok_L_alone T F0_L_alone (PySem.W.mg_of X G (kbf_ns a_L_alone)) C (F_told_on base B)
  exact ⟨PySem.W.fnOf "law" "law" (defArgs s_law) (defBody s_law) (defScope s_law) .none kV_law dc_law pm_law an_law cd_law ct_law, fun s v => .of_eq rfl, fun base _ _ B => okf_law T F0_law (PySem.W.mg_of X G (kbf_ns a_law)) C (F_L_hand base B) (F_L_told_house base B) (F_L_take base B) (F_L_calls base B) (F_L_event base B) (F_told_on base B) (F_L_led base B) (F_L_alone base B) (F_L_same base B)⟩
theorem walk {l : PySem.W.OpenLaw} {q : Program} {loose : List Str} {XP : (Str → Option Value) → Heap → Prop} {YP : World → Heap → Prop} {d : DefRec} {K : Params → PySem.W.Frag} (hn : l.most = some 63) (hdf : d.params.defaults = [])
    (hY : ∀ (w : World) (h : Heap), YP w h → (K w.params).In h) (hC : ∀ w : World, kOk (K w.params) = true)
    (F : ∀ (w : World) (mg : Str → Option Value) (fa : Addr) (h : Heap), kOk (K w.params) = true → (kbf (K w.params)).In h → h.Ns mainGlobals mg → mg d.name = some (.ref fa) →
      ∃ fd : FuncData, (∀ (s : Shared) (u : Value), BindsTo s fd ⟨[u], []⟩ [("_law_script", u)]) ∧ ∀ base : Heap, (kbf (K w.params)).In base → base.Ns mainGlobals mg → BMd mg base → FnOk l.prog w (kbf (K w.params)) mg base CX0 19 fa fd ["_law_script"] (spD (kbf (K w.params)) sm_law))
    (law_true : ∀ ns : List Int, ns.length ≤ 63 → ∃ μ', sm_law [.fl (ns.map D.int)] [] = some (.bl true, μ')) :
    PySem.W.WalkO q loose XP YP l.row.toRowW d [] (fun f vs => PySem.call f vs) :=
  walkT (n := 63) (k := 19) (x := "_law_script") (sp := fun w => spD (kbf (K w.params)) sm_law) hn (by decide) hdf ⟨rfl, by decide, by decide, rfl⟩ hY (fun w => kOk.asc (hC w)) (fun w => kOk.tabs (hC w)) (fun w mg fa h => F w mg fa h (hC w)) (fun w H a ns hl h1 h2 h3 => law_sp (law_true ns hl) h1 h2 h3)
end Lw


namespace CW
open PySem L2 PySem.W
local macro_rules | `(tactic| walk_at "w") => `(tactic| first
  | with_reducible refine ws_seq ?_ | with_reducible refine ws_asg ?_ | with_reducible refine ws_ret ?_ | with_reducible refine ws_drop ?_ | with_reducible refine ws_if ?_ | with_reducible refine ws_sk ?_
  | with_reducible refine wp_bin ?_ | with_reducible refine wp_v (by with_unfolding_all rfl) ?_ | with_reducible refine wp_c ?_ | with_reducible refine wp_tst ?_ | with_reducible refine wp_consA ?_ | with_reducible refine wp_nilA ?_
  | with_reducible refine wp_callE ?_ | with_reducible refine wp_nm ?_ | with_reducible refine wp_subG ?_ | with_reducible refine wp_tupE ?_ | with_reducible refine wp_lstE ?_ | with_reducible refine wp_andT ?_ | with_reducible refine wp_orT ?_ | with_reducible refine wp_notT ?_ | with_reducible refine wp_andV ?_ | with_reducible refine wp_orV ?_ | with_reducible refine wp_notV ?_ | with_reducible refine wp_isi ?_ | with_reducible refine wp_metE ?_
  | with_reducible refine wp_add ?_ | with_reducible refine wp_sub ?_ | with_reducible refine wp_gt ?_ | with_reducible refine wp_lt ?_ | with_reducible refine wp_ge ?_ | with_reducible refine wp_le ?_ | with_reducible refine wp_eqI ?_ | with_reducible refine wp_neI ?_
  | with_reducible refine ⟨_, rfl, ?_⟩ | with_reducible refine wp_slE ?_ | with_reducible refine wp_noP ?_ | with_reducible refine wp_somP ?_ | with_reducible refine wp_slF ?_ | with_reducible refine wp_lenF ?_ | with_reducible refine wp_lenT ?_ | with_reducible refine wp_absB ?_ | with_reducible refine wp_yes ?_ | with_reducible refine wp_dctE ?_ | with_reducible refine wp_consP ?_ | with_reducible refine wp_nilP ?_ | with_reducible refine wp_dctRecv ?_)

def hows : List Str := ["ring", "show", "talk", "hold0", "hold1", "busy", "shut", "back"]
abbrev callD (i j : Int) (how : Str) (h : Int) : D := .tup [.int i, .int j, .str how, .int h]
structure Call1 (n : Int) (d : D) : Prop where
  ex : ∃ i j how h, d = callD i j how h ∧ 0 ≤ i ∧ i < n ∧ 0 ≤ j ∧ j < n ∧ i ≠ j ∧ how ∈ hows ∧ 0 ≤ h ∧ h ≤ 1
/-- the two lines of a call, the greater one first -/
def pairD : D → Option (Int × Int)
  | .tup [.int i, .int j, .str _, .int _] => some (if i < j then (j, i) else (i, j))
  | _ => none
def Apart (a b : D) : Prop := pairD a ≠ pairD b
def calls0 : List D → Mu → Option (D × Mu) := mkSem 2 7 (seqS (asgS (lstE (consA (cD (.str ("ring" : Str))) (consA (cD (.str ("show" : Str))) (consA (cD (.str ("talk" : Str))) (consA (cD (.str ("hold0" : Str))) (consA (cD (.str ("hold1" : Str))) (consA (cD (.str ("busy" : Str))) (consA (cD (.str ("shut" : Str))) (consA (cD (.str ("back" : Str))) nilA))))))))) (nmG 2))
      (seqS (asgS (lstE nilA) (nmG 3))
      (seqS (forS (rng1 (consA (vD 1) nilA)) (nmG 4) (forS (rng1 (consA (vD 4) nilA)) (nmG 5) (ifS (tst (bin gtD (callE take0 (consA (vD 0) (consA (cD (.int 3)) nilA))) (cD (.int 0)))) (seqS (asgS (bin ixD (lstE (consA (tupE (consA (vD 5) (consA (vD 4) nilA))) (consA (tupE (consA (vD 4) (consA (vD 5) nilA))) nilA))) (callE take0 (consA (vD 0) (consA (cD (.int 2)) nilA)))) (nmG 6))
      (dropS (metE appM (lstRecv (vD 3)) (consA (bin addD (vD 6) (tupE (consA (bin ixD (vD 2) (callE take0 (consA (vD 0) (consA (cD (.int 8)) nilA)))) (consA (callE take0 (consA (vD 0) (consA (cD (.int 2)) nilA))) nilA)))) nilA)))) skS)))
      (retS (callE tupB (consA (callE srtB (consA (vD 3) nilA)) nilA))))))
theorem srt_perm (xs : List D) : (srtD xs).Perm xs := by
  unfold srtD
  split
  · exact .refl _
  · rename_i h
    have pm := srtD_mem (xs := xs) (by omega)
    have p2 : (run (ltAt xs) (kas_sort xs.length)).toList.Perm (List.range xs.length) := by
      have := (Array.perm_iff_toList_perm.mp pm)
      simpa using this
    have p3 := p2.map fun i => xs.getD i D.non
    refine p3.trans ?_
    rw [show ((List.range xs.length).map fun i => xs.getD i D.non) = xs from List.ext_getElem (by simp) fun i h1 h2 => by simp [List.getD_eq_getElem?_getD, List.getElem?_eq_getElem h2]]
theorem lex_calls {fin : Bool} {i j i' j' h h' : Int} {w w' : Str} : (lexD fin [.int i, .int j, .str w, .int h] [.int i', .int j', .str w', .int h']).isSome = true := by
  unfold lexD
  split
  · unfold lexD
    split
    · unfold lexD
      split
      · unfold lexD
        split
        · rfl
        · rfl
      · rfl
    · rfl
  · rfl
theorem cmp_calls {n : Int} {xs : List D} (h : ∀ x ∈ xs, Call1 n x) : cmpAll xs = true := by
  unfold cmpAll
  refine List.all_eq_true.mpr fun x hx => List.all_eq_true.mpr fun y hy => ?_
  obtain ⟨i, j, w, a, rfl, _⟩ := (h x hx).ex
  obtain ⟨i', j', w', a', rfl, _⟩ := (h y hy).ex
  exact lex_calls
theorem wp_srt {n : Int} {l : Nat} {xs : List D} {μ : Mu} {Q : D → Mu → Prop} (hl : μ[l]? = some (.lst xs)) (h64 : xs.length < 64) (hc : cmpAll xs = true) (q : Q (.ref μ.length) (μ ++ [.lst (srtD xs)])) : wp (srtB [.ref l] μ) Q := by
  refine wp_eq (a := .ref μ.length) (μ := μ ++ [.lst (srtD xs)]) ?_ q
  unfold srtB
  simp only
  rw [hl]; simp only; rw [if_pos h64, if_pos hc]
theorem ix_hows {v : Int} (h0 : 0 ≤ v) (h1 : v < 8) : ∃ how, atI (hows.map D.str) v = some (.str how) ∧ how ∈ hows := by
  have : v = 0 ∨ v = 1 ∨ v = 2 ∨ v = 3 ∨ v = 4 ∨ v = 5 ∨ v = 6 ∨ v = 7 := by omega
  rcases this with rfl | rfl | rfl | rfl | rfl | rfl | rfl | rfl <;> exact ⟨_, rfl, by decide⟩
theorem ix_two {a b : D} {v : Int} (h0 : 0 ≤ v) (h1 : v < 2) : ∃ d, atI [a, b] v = some d ∧ (d = a ∨ d = b) := by
  have : v = 0 ∨ v = 1 := by omega
  rcases this with rfl | rfl
  · exact ⟨a, rfl, .inl rfl⟩
  · exact ⟨b, rfl, .inr rfl⟩
/-- all calls so far stand ahead of the pair j, i -/
def Ahead (j i : Int) (d : D) : Prop := ∃ a b, pairD d = some (a, b) ∧ (a < j ∨ (a = j ∧ b < i))
theorem calls_spec {N : Int} {l : Nat} {n : Int} {μ : Mu} (h : Hand N l μ) (hN : 100 ≤ N) (h2 : 2 ≤ n) (h4 : n ≤ 4) : wp (calls0 [.ref l, .int n] μ) fun r m => (∃ xs, r = .tup xs ∧ xs.length ≤ 16 ∧ (∀ x ∈ xs, Call1 n x) ∧ xs.Pairwise Apart) ∧ Hand (N - 100) l m ∧ Fr l μ m := by
  refine wp_def rfl ?_
  have hl := h.lt
  repeat walk_at "w"
  refine ws_for_fix (wp_rng1 ?_)
  repeat walk_at "w"
  have el : ((μ ++ [Cell.lst (hows.map D.str)]) ++ [Cell.lst []]).length = μ.length + 2 := by simp
  refine ⟨by omega, by omega, _, rfl, fun jj e k => ∃ x4 x5 x6 acc, e = [some (.ref l), some (.int n), some (.ref μ.length), some (.ref (μ.length + 1)), x4, x5, x6] ∧ Hand (N - 24 * jj) l k ∧ Fr l μ k ∧ k[μ.length]? = some (.lst (hows.map D.str)) ∧ k[μ.length + 1]? = some (.lst acc) ∧ acc.length ≤ 4 * jj ∧ (∀ x ∈ acc, Call1 n x ∧ Ahead jj 0 x) ∧ acc.Pairwise Apart, ?_, ?_, ?_⟩
  · refine ⟨none, none, none, [], by simp, ((h.push _).push _).mono (by omega), (Fr.refl.push _).push _, get_old (get_last _ _), ?_, by simp, (fun x hx => nomatch hx), .nil⟩
    have := get_last (μ ++ [Cell.lst (hows.map D.str)]) (.lst [])
    simpa using this
  · rintro jj x e k hx ⟨x4, x5, x6, acc, rfl, hk, fk, c1, c2, la, hc, hp⟩
    have hj : jj < n.toNat ∧ x = .int (jj : Nat) := by
      rw [List.getElem?_map] at hx
      cases e : (List.range n.toNat)[jj]? with
      | none => rw [e] at hx; cases hx
      | some q =>
        rw [e] at hx
        obtain ⟨h1, h2⟩ := List.getElem?_eq_some_iff.mp e
        simp at h1 h2
        subst h2
        cases hx
        exact ⟨by omega, by simp⟩
    obtain ⟨hj, rfl⟩ := hj
    repeat walk_at "w"
    refine ws_for_fix (wp_rng1 ?_)
    repeat walk_at "w"
    refine ⟨by omega, by omega, _, rfl, fun ii e k' => ∃ x5 x6 acc', e = [some (.ref l), some (.int n), some (.ref μ.length), some (.ref (μ.length + 1)), some (.int (jj : Nat)), x5, x6] ∧ Hand (N - 24 * jj - 6 * ii) l k' ∧ Fr l μ k' ∧ k'[μ.length]? = some (.lst (hows.map D.str)) ∧ k'[μ.length + 1]? = some (.lst acc') ∧ acc'.length ≤ 4 * jj + ii ∧ (∀ x ∈ acc', Call1 n x ∧ Ahead jj ii x) ∧ acc'.Pairwise Apart, ?_, ?_, ?_⟩
    · exact ⟨_, _, acc, rfl, hk.mono (by omega), fk, c1, c2, by omega, hc, hp⟩
    · rintro ii x e k' hx' ⟨x5, x6, acc', rfl, hk', fk', c1', c2', la', hc', hp'⟩
      have hi : ii < jj ∧ x = .int (ii : Nat) := by
        rw [List.getElem?_map] at hx'
        cases e : (List.range ((jj : Nat) : Int).toNat)[ii]? with
        | none => rw [e] at hx'; cases hx'
        | some q =>
          rw [e] at hx'
          obtain ⟨h1, h2⟩ := List.getElem?_eq_some_iff.mp e
          simp at h1 h2
          subst h2
          cases hx'
          exact ⟨by omega, by simp⟩
      obtain ⟨hi, rfl⟩ := hi
      have up : ∀ x ∈ acc', Call1 n x ∧ Ahead jj (ii + 1 : Nat) x := fun x hx => ⟨(hc' x hx).1, by
        obtain ⟨a, b, e, o⟩ := (hc' x hx).2
        exact ⟨a, b, e, by rcases o with o | ⟨o1, o2⟩; exact .inl o; exact .inr ⟨o1, by omega⟩⟩⟩
      repeat walk_at "w"
      refine drawF hk' (by omega) (by decide) (by decide) fun v k1 v0 v1 hk1 fk1 ek1 => ?_
      repeat walk_at "w"
      have d1 := fk1.get (k := μ.length) (by omega) c1'
      have d2 := fk1.get (k := μ.length + 1) (by omega) c2'
      by_cases hv : 0 < v
      · rw [if_pos (decide_eq_true hv)]
        repeat walk_at "w"
        refine drawF (hk1.push _) (by omega) (by decide) (by decide) fun w k2 w0 w1 hk2 fk2 ek2 => ?_
        have lk1 : l < k1.length := hk1.lt
        have e1 := fk2.get (by omega) (get_last k1 (Cell.lst [.tup [.int (ii : Nat), .int (jj : Nat)], .tup [.int (jj : Nat), .int (ii : Nat)]]))
        obtain ⟨pd, ep, hpd⟩ := ix_two (a := D.tup [.int (ii : Nat), .int (jj : Nat)]) (b := D.tup [.int (jj : Nat), .int (ii : Nat)]) w0 w1
        refine wp_ixL e1 ep ?_
        repeat walk_at "w"
        have f1 := fk2.get (k := μ.length) (by omega) (get_old d1)
        have f2 := fk2.get (k := μ.length + 1) (by omega) (get_old d2)
        refine wp_lstRecv (l := 0) (xs := []) ?_
        repeat walk_at "w"
        refine ⟨_, acc', rfl, f2, ?_⟩
        repeat walk_at "w"
        refine drawF hk2 (by omega) (by decide) (by decide) fun q k3 q0 q1 hk3 fk3 ek3 => ?_
        have g1 := fk3.get (k := μ.length) (by omega) f1
        have g2 := fk3.get (k := μ.length + 1) (by omega) f2
        obtain ⟨how, eh, hh⟩ := ix_hows q0 q1
        refine wp_ixL g1 eh ?_
        repeat walk_at "w"
        refine drawF hk3 (by omega) (by decide) (by decide) fun hd k4 hd0 hd1 hk4 fk4 ek4 => ?_
        have m1 := fk4.get (k := μ.length) (by omega) g1
        have m2 := fk4.get (k := μ.length + 1) (by omega) g2
        repeat walk_at "w"
        have hadd : ∃ c : D, addD pd (.tup [.str how, .int hd]) k4 = some (c, k4) ∧ Call1 n c ∧ pairD c = some ((jj : Int), (ii : Int)) := by
          rcases hpd with rfl | rfl
          · refine ⟨callD ii jj how hd, rfl, ⟨_, _, _, _, rfl, by omega, by omega, by omega, by omega, by omega, hh, by omega, by omega⟩, ?_⟩
            simp [pairD, hi]
          · refine ⟨callD jj ii how hd, rfl, ⟨_, _, _, _, rfl, by omega, by omega, by omega, by omega, by omega, hh, by omega, by omega⟩, ?_⟩
            simp [pairD]; omega
        obtain ⟨c, ec, hcl, hpr⟩ := hadd
        refine wp_eq ec ?_
        repeat walk_at "w"
        refine wp_app m2 (by omega) ?_
        have fall := ((((fk'.trans fk1).trans (Fr.refl.push _)).trans fk2).trans fk3).trans fk4
        refine ⟨_, _, acc' ++ [c], rfl, (hk4.set (by omega) _).mono (by omega), fall.set (by omega) _, set_other m1 (by omega), set_get m2, by simp; omega, fun x hx => ?_, ?_⟩
        · rcases List.mem_append.mp hx with hx | hx
          · exact up x hx
          · rw [List.mem_singleton.mp hx]
            exact ⟨hcl, _, _, hpr, .inr ⟨rfl, by omega⟩⟩
        · refine List.pairwise_append.mpr ⟨hp', List.pairwise_singleton _ _, fun x hx y hy => ?_⟩
          rw [List.mem_singleton.mp hy]
          obtain ⟨a, b, e, o⟩ := (hc' x hx).2
          unfold Apart
          rw [e, hpr]
          intro z
          have z1 := Option.some.inj z
          rw [Prod.mk.injEq] at z1
          omega
      · rw [if_neg (by simpa using hv)]
        refine ws_sk ?_
        exact ⟨_, _, acc', rfl, hk1.mono (by omega), fk'.trans fk1, d1, d2, by omega, up, hp'⟩
    · rintro e k' ⟨x5, x6, acc', rfl, hk', fk', c1', c2', la', hc', hp'⟩
      simp only [List.length_map, List.length_range, Int.toNat_natCast] at hk' la' hc'
      refine ⟨_, _, _, acc', rfl, hk'.mono (by omega), fk', c1', c2', by omega, fun x hx => ⟨(hc' x hx).1, ?_⟩, hp'⟩
      obtain ⟨a, b, e, o⟩ := (hc' x hx).2
      exact ⟨a, b, e, .inl (by rcases o with o | ⟨o1, o2⟩ <;> omega)⟩
  · rintro e k ⟨x4, x5, x6, acc, rfl, hk, fk, c1, c2, la, hc, hp⟩
    simp only [List.length_map, List.length_range] at hk la
    repeat walk_at "w"
    have hall : ∀ x ∈ acc, Call1 n x := fun x hx => (hc x hx).1
    refine wp_srt (n := n) c2 (by omega) (cmp_calls hall) ?_
    repeat walk_at "w"
    refine wp_tupL (get_last _ _) ?_
    have pm := srt_perm acc
    refine ⟨⟨_, rfl, by rw [pm.length_eq]; omega, fun x hx => hall x (pm.mem_iff.mp hx), (pm.pairwise_iff fun {a b} (z : Apart a b) => Ne.symm z).mpr hp⟩, (hk.push _).mono (by omega), fk.push _⟩
end CW

namespace CW
open PySem L2

def Ev (f : Sm) (env : Env) (d : D) : Prop := ∀ m, f env m = some (d, m)
def EvT (f : Tm) (env : Env) (b : Bool) : Prop := ∀ m, f env m = some (b, m)
def EvA (f : Am) (env : Env) (ds : List D) : Prop := ∀ m, f env m = some (ds, m)
def EvP (f : Pm) (env : Env) (o : Option Int) : Prop := ∀ m, f env m = some (o, m)
def EvS (f : Bm) (env : Env) (r : Fl) : Prop := ∀ m, f env m = some (r, m)
def PF (sem : List D → Mu → Option (D × Mu)) (ds : List D) (d : D) : Prop := ∀ m, sem ds m = some (d, m)
def OpV (o : D → D → Mu → Option (D × Mu)) (x y z : D) : Prop := ∀ m, o x y m = some (z, m)
section
variable {env env1 : Env} {f g : Sm} {t u : Tm} {s s2 : Bm} {d x y z : D} {ds : List D} {a b : Bool} {i : Nat} {r : Fl}
theorem ev_v (h : env[i]? = some (some d)) : Ev (vD i) env d := fun m => by unfold vD; rw [h]
theorem ev_c : Ev (cD d) env d := fun _ => rfl
theorem ev_bin {o : D → D → Mu → Option (D × Mu)} (hx : Ev f env x) (hy : Ev g env y) (ho : OpV o x y z) : Ev (CW.bin o f g) env z := fun m => by unfold CW.bin; rw [hx m]; simp only; rw [hy m]; exact ho m
theorem ev_orV (hx : Ev f env (.bl a)) (hy : a = false → Ev g env (.bl b)) : Ev (orV f g) env (.bl (a || b)) := fun m => by
  unfold orV; rw [hx m]; simp only
  cases a with
  | true => rfl
  | false => rw [if_neg Bool.false_ne_true]; exact hy rfl m
theorem ev_andV (hx : Ev f env (.bl a)) (hy : a = true → Ev g env (.bl b)) : Ev (andV f g) env (.bl (a && b)) := fun m => by
  unfold andV; rw [hx m]; simp only
  cases a with
  | false => rfl
  | true => rw [if_pos rfl]; exact hy rfl m
theorem ev_notV (hx : Ev f env (.bl a)) : Ev (notV f) env (.bl (!a)) := fun m => by unfold notV; rw [hx m]
theorem evt_tst (hx : Ev f env (.bl a)) : EvT (tst f) env a := fun m => by unfold tst; rw [hx m]
theorem evt_not (hx : EvT t env a) : EvT (notT t) env (!a) := fun m => by unfold notT; rw [hx m]
theorem evt_and (hx : EvT t env a) (hy : a = true → EvT u env b) : EvT (andT t u) env (a && b) := fun m => by
  unfold andT; rw [hx m]; simp only
  cases a with
  | false => rfl
  | true => rw [if_pos rfl]; exact hy rfl m
theorem evt_or (hx : EvT t env a) (hy : a = false → EvT u env b) : EvT (orT t u) env (a || b) := fun m => by
  unfold orT; rw [hx m]; simp only
  cases a with
  | true => rfl
  | false => rw [if_neg Bool.false_ne_true]; exact hy rfl m
theorem evt_yes : EvT yesT env true := fun _ => rfl
theorem eva_nil : EvA nilA env [] := fun _ => rfl
theorem eva_cons {k : Am} (hx : Ev f env x) (hy : EvA k env ds) : EvA (consA f k) env (x :: ds) := fun m => by unfold consA; rw [hx m]; simp only; rw [hy m]
theorem ev_tup {k : Am} (h : EvA k env ds) : Ev (tupE k) env (.tup ds) := fun m => by unfold tupE; rw [h m]
theorem ev_call {k : Am} {sem : List D → Mu → Option (D × Mu)} (h : EvA k env ds) (p : PF sem ds d) : Ev (callE sem k) env d := fun m => by unfold callE; rw [h m]; exact p m
theorem evp_no : EvP noP env none := fun _ => rfl
theorem evp_som {k : Int} (h : Ev f env (.int k)) : EvP (somP f) env (some k) := fun m => by unfold somP; rw [h m]
theorem ev_slT {xs : List D} {lo hi : Option Int} {p q : Pm} (h : Ev f env (.tup xs)) (hp : EvP p env lo) (hq : EvP q env hi) : Ev (slE f p q) env (.tup (cutD xs lo hi)) := fun m => by
  unfold slE; rw [h m]; simp only; rw [hp m]; simp only; rw [hq m]; rfl
theorem ev_to (h : Ev f env x) (e : x = d) : Ev f env d := e ▸ h
theorem pf_to {sem : List D → Mu → Option (D × Mu)} (h : PF sem ds x) (e : x = d) : PF sem ds d := e ▸ h
theorem evt_to (h : EvT t env a) (e : a = b) : EvT t env b := e ▸ h
theorem op_eqI {p q : Int} : OpV eqD (.int p) (.int q) (.bl (p == q)) := fun m => by simp [eqD, pyD, PyData.eqv]
theorem op_eqS {p q : Str} (hp : PyData.strOk p = true) (hq : PyData.strOk q = true) : OpV eqD (.str p) (.str q) (.bl (p == q)) := fun m => by simp [eqD, pyD, PyData.eqv, hp, hq]
theorem op_ixT {xs : List D} {k : Int} (h : atI xs k = some d) : OpV ixD (.tup xs) (.int k) d := fun m => by unfold ixD itemsD; simp only; rw [h]
theorem op_add {p q : Int} : OpV addD (.int p) (.int q) (.int (p + q)) := fun _ => rfl
theorem op_isN {neg : Bool} : OpV (isND neg) .non .non (.bl (!neg)) := fun _ => rfl
theorem op_isT {neg : Bool} {xs : List D} : OpV (isND neg) (.tup xs) .non (.bl neg) := fun _ => rfl
theorem pf_len {xs : List D} : PF lenB [.tup xs] (.int (xs.length : Nat)) := fun _ => rfl
theorem pf_intB : PF intB [.bl a] (.int (if a = true then 1 else 0)) := fun _ => rfl
theorem py_strs {n : Nat} {m : Mu} : ∀ {ys : List Str}, (∀ y ∈ ys, PyData.strOk y = true) → (ys.map D.str).mapM (pyD n m) = some (ys.map PyData.str)
  | [], _ => rfl
  | y :: ys, h => by
    rw [List.map_cons, List.mapM_cons]
    have h1 : pyD n m (.str y) = some (.str y) := by cases n <;> simp [pyD, h y List.mem_cons_self]
    rw [h1, py_strs fun z hz => h z (List.mem_cons_of_mem _ hz)]
    rfl
theorem py_ints {n : Nat} {m : Mu} : ∀ (ys : List Int), (ys.map D.int).mapM (pyD n m) = some (ys.map PyData.int)
  | [] => rfl
  | y :: ys => by
    rw [List.map_cons, List.mapM_cons]
    have h1 : pyD n m (.int y) = some (.int y) := by cases n <;> rfl
    rw [h1, py_ints ys]
    rfl
theorem op_inS {neg : Bool} {w : Str} {xs : List D} (ys : List Str) (hw : PyData.strOk w = true) (h : (ys.all fun y => PyData.strOk y) = true) (e : xs = ys.map D.str) : OpV (inD neg) (.str w) (.tup xs) (.bl (neg ^^ ys.any fun y => y == w)) := fun m => by
  subst e
  have h1 : pyD 8 m (.str w) = some (.str w) := by simp [pyD, hw]
  have h2 : pyD 8 m (.tup (ys.map D.str)) = some (.tuple (ys.map PyData.str)) := by
    show (List.mapM (pyD 7 m) (ys.map D.str)).map PyData.tuple = _
    rw [py_strs fun y hy => List.all_eq_true.mp h y hy]; rfl
  have h3 : ((ys.map PyData.str).any fun z => z.eqv (.str w)) = ys.any fun y => y == w := by rw [List.any_map]; rfl
  unfold inD
  rw [h1, h2]; simp only; rw [h3]
  cases neg <;> simp
theorem op_inI {neg : Bool} {w : Int} {xs : List D} (ys : List Int) (e : xs = ys.map D.int) : OpV (inD neg) (.int w) (.tup xs) (.bl (neg ^^ ys.any fun y => y == w)) := fun m => by
  subst e
  have h1 : pyD 8 m (.int w) = some (.int w) := rfl
  have h2 : pyD 8 m (.tup (ys.map D.int)) = some (.tuple (ys.map PyData.int)) := by
    show (List.mapM (pyD 7 m) (ys.map D.int)).map PyData.tuple = _
    rw [py_ints ys]; rfl
  have h3 : ((ys.map PyData.int).any fun z => z.eqv (.int w)) = ys.any fun y => y == w := by rw [List.any_map]; rfl
  unfold inD
  rw [h1, h2]; simp only; rw [h3]
  cases neg <;> simp
theorem evs_ret (h : Ev f env d) : EvS (retS f) env (.rt d) := fun m => by unfold retS; rw [h m]
theorem evs_nx (h : EvS s env (.nx env1)) (h2 : EvS s2 env1 r) : EvS (seqS s s2) env r := fun m => by unfold seqS; rw [h m]; exact h2 m
theorem pf_def {np n : Nat} (hl : ds.length = np) (h : EvS s (ds.map some ++ List.replicate (n - np) none) (.rt d)) : PF (mkSem np n s) ds d := fun m => by unfold mkSem; rw [if_pos hl, h m]
/-- for x in xs: if p: return x -/
theorem evs_find {xs : List D} {j : Nat} {p : D → Bool} (hf : Ev f env (.tup xs)) (ht : ∀ x ∈ xs, EvT t (env.set j (some x)) (p x)) (hj : j < env.length) (hr : ∀ e, EvS s2 e (.rt d)) :
    EvS (seqS (forS (seqI f) (nmG j) (ifS t (retS (vD j)) skS)) s2) env (.rt ((xs.find? p).getD d)) := fun m => by
  have go : ∀ (ys : List D) (i : Nat) (e : Env), xs.drop i = ys → e.set j none = env.set j none → ∃ r, forGo (fixIt xs).item (nmG j) (ifS t (retS (vD j)) skS) (ys.length + 1) i e m = some (r, m) ∧ match ys.find? p with
      | some x => r = .rt x
      | none => ∃ e', r = .nx e' := by
    intro ys
    induction ys with
    | nil =>
      intro i e hd _
      have hx : xs[i]? = none := by
        have := List.drop_eq_nil_iff.mp hd
        exact List.getElem?_eq_none_iff.mpr this
      refine ⟨.nx e, ?_, e, rfl⟩
      unfold forGo
      have e0 : (fixIt xs).item i m = some none := by show some xs[i]? = _; rw [hx]
      rw [e0]
    | cons y ys ih =>
      intro i e hd he
      have hx : xs[i]? = some y := by
        have := congrArg (fun l => l[0]?) hd
        simpa using this
      have hd' : xs.drop (i + 1) = ys := by
        have := congrArg List.tail hd
        simpa [List.tail_drop] using this
      have e1 : e.set j (some y) = env.set j (some y) := by
        have := congrArg (fun l => l.set j (some y)) he
        simpa using this
      have e0 : (fixIt xs).item i m = some (some y) := by show some xs[i]? = _; rw [hx]
      have hp := ht y (List.mem_of_getElem? hx) m
      rw [List.length_cons]
      unfold forGo
      rw [e0]; simp only
      have e2 : nmG j y e m = some (env.set j (some y), m) := by unfold nmG; rw [e1]
      rw [e2]; simp only
      rw [List.find?_cons]
      cases hpy : p y with
      | true =>
        rw [hpy] at hp
        have e3 : ifS t (retS (vD j)) skS (env.set j (some y)) m = some (.rt y, m) := by
          unfold ifS; rw [hp]; simp only [if_true]; unfold retS vD; rw [List.getElem?_set_self hj]
        rw [e3]
        exact ⟨_, rfl, rfl⟩
      | false =>
        rw [hpy] at hp
        have e3 : ifS t (retS (vD j)) skS (env.set j (some y)) m = some (.nx (env.set j (some y)), m) := by
          unfold ifS; rw [hp]; simp only [Bool.false_eq_true, if_false]; rfl
        rw [e3]
        exact ih (i + 1) _ hd' (by rw [List.set_set])
  obtain ⟨r, e1, e2⟩ := go xs 0 env rfl rfl
  have e3 : seqI f env m = some (fixIt xs, m) := by unfold seqI; rw [hf m]
  unfold seqS forS
  rw [e3]; simp only
  rw [show (fixIt xs).fuel = xs.length + 1 from rfl, e1]
  cases h : xs.find? p with
  | some x =>
    rw [h] at e2
    rw [show r = .rt x from e2]
    rfl
  | none =>
    rw [h] at e2
    obtain ⟨e', rfl⟩ := e2
    exact hr e' m
theorem ev_allG {stop : Bool} {xs : List D} {j : Nat} {vs : List Nat} {p k : D → Bool} (hf : Ev f env (.tup xs)) (ht : ∀ x ∈ xs, EvT t ((wipeE env vs).set j (some x)) (p x)) (he : ∀ x ∈ xs, p x = true → Ev g ((wipeE env vs).set j (some x)) (.bl (k x))) :
    Ev (allE stop (seqI f) (nmG j) t g vs) env (.bl (if stop = true then (xs.filter p).any k else (xs.filter p).all k)) := fun m => by
  have go : ∀ (ys : List D) (i : Nat), xs.drop i = ys → allGo stop (fixIt xs).item (nmG j) t g (wipeE env vs) (ys.length + 1) i m = some (if stop = true then (ys.filter p).any k else (ys.filter p).all k, m) := by
    intro ys
    induction ys with
    | nil =>
      intro i hd
      have hx : xs[i]? = none := List.getElem?_eq_none_iff.mpr (List.drop_eq_nil_iff.mp hd)
      unfold allGo
      have e0 : (fixIt xs).item i m = some none := by show some xs[i]? = _; rw [hx]
      rw [e0]; cases stop <;> rfl
    | cons y ys ih =>
      intro i hd
      have hx : xs[i]? = some y := by
        have := congrArg (fun l => l[0]?) hd
        simpa using this
      have hd' : xs.drop (i + 1) = ys := by
        have := congrArg List.tail hd
        simpa [List.tail_drop] using this
      have e0 : (fixIt xs).item i m = some (some y) := by show some xs[i]? = _; rw [hx]
      have hm := List.mem_of_getElem? hx
      have hp := ht y hm m
      rw [List.length_cons]
      unfold allGo
      rw [e0]; simp only
      rw [show nmG j y (wipeE env vs) m = some ((wipeE env vs).set j (some y), m) from rfl]; simp only
      rw [hp]; simp only
      cases hpy : p y with
      | true =>
        have ef : (y :: ys).filter p = y :: ys.filter p := by rw [List.filter_cons, if_pos hpy]
        rw [if_pos rfl, he y hm hpy m]; simp only
        rw [ih (i + 1) hd', ef]
        cases stop <;> cases hk : k y <;> simp [hk]
      | false =>
        have ef : (y :: ys).filter p = ys.filter p := by rw [List.filter_cons, if_neg (by rw [hpy]; exact Bool.false_ne_true)]
        rw [if_neg Bool.false_ne_true, ih (i + 1) hd', ef]
  unfold allE
  have e3 : seqI f env m = some (fixIt xs, m) := by unfold seqI; rw [hf m]
  rw [e3]; simp only
  rw [show (fixIt xs).fuel = xs.length + 1 from rfl, go xs 0 rfl]
/-- a list comprehension whose parts leave the store -/
theorem wp_lcP {Q : D → Mu → Prop} {μ : Mu} {fi : Im} {j : Nat} {vs : List Nat} {p : D → Bool} {k : D → D} (h : wp (fi env μ) fun it μ1 => ∃ xs, it = fixIt xs ∧ xs.length < 1000000 ∧ (∀ x ∈ xs, EvT t ((wipeE env vs).set j (some x)) (p x)) ∧ (∀ x ∈ xs, p x = true → Ev g ((wipeE env vs).set j (some x)) (k x)) ∧
    Q (.ref μ1.length) (μ1 ++ [.lst ((xs.filter p).map k)])) : wp (lcE fi (nmG j) t g vs env μ) Q := by
  obtain ⟨it, μ1, e1, xs, rfl, hz, ht, he, q⟩ := h
  refine wp_lc ⟨_, μ1, e1, xs, rfl, hz, fun i m acc => m = μ1 ++ [.lst acc] ∧ acc = ((xs.take i).filter p).map k ∧ acc.length ≤ i, ⟨rfl, rfl, Nat.le_refl _⟩, fun i m acc _ => rfl, fun i m acc ⟨h1, _, h3⟩ => ⟨by rw [h1]; exact get_last _ _, h3⟩, fun i x m acc hx ⟨h1, h2, h3⟩ => ?_, fun m acc ⟨h1, h2, _⟩ => ?_⟩
  · have hm := List.mem_of_getElem? hx
    have htk : xs.take (i + 1) = xs.take i ++ [x] := by rw [List.take_add_one, hx]; rfl
    refine wp_nm (wp_eq (ht x hm m) ?_)
    cases hp : p x with
    | true =>
      rw [if_pos rfl]
      refine wp_eq (he x hm hp m) ⟨by rw [h1]; exact get_last _ _, by rw [h1]; simp, ?_, by simp; exact h3⟩
      rw [h2, htk, List.filter_append, List.map_append, List.filter_cons, if_pos hp]; rfl
    | false =>
      rw [if_neg Bool.false_ne_true]
      refine ⟨h1, ?_, by omega⟩
      rw [h2, htk, List.filter_append, List.filter_cons, if_neg (by rw [hp]; exact Bool.false_ne_true)]; simp
  · rw [List.take_of_length_le (Nat.le_refl _)] at h2
    rw [h1, h2]; exact q
end
theorem wp_pf {Q : D → Mu → Prop} {sem : List D → Mu → Option (D × Mu)} {ds : List D} {d : D} {μ : Mu} (h : PF sem ds d) (q : Q d μ) : wp (sem ds μ) Q := wp_eq (h μ) q
end CW

namespace CW
open PySem L2
local macro_rules | `(tactic| walk_at "w") => `(tactic| first
  | with_reducible refine ws_seq ?_ | with_reducible refine ws_asg ?_ | with_reducible refine ws_ret ?_ | with_reducible refine ws_drop ?_ | with_reducible refine ws_if ?_ | with_reducible refine ws_sk ?_
  | with_reducible refine wp_bin ?_ | with_reducible refine wp_v (by with_unfolding_all rfl) ?_ | with_reducible refine wp_c ?_ | with_reducible refine wp_tst ?_ | with_reducible refine wp_consA ?_ | with_reducible refine wp_nilA ?_
  | with_reducible refine wp_callE ?_ | with_reducible refine wp_nm ?_ | with_reducible refine wp_subG ?_ | with_reducible refine wp_tupE ?_ | with_reducible refine wp_lstE ?_ | with_reducible refine wp_andT ?_ | with_reducible refine wp_orT ?_ | with_reducible refine wp_notT ?_ | with_reducible refine wp_andV ?_ | with_reducible refine wp_orV ?_ | with_reducible refine wp_notV ?_ | with_reducible refine wp_isi ?_ | with_reducible refine wp_metE ?_
  | with_reducible refine wp_add ?_ | with_reducible refine wp_sub ?_ | with_reducible refine wp_gt ?_ | with_reducible refine wp_lt ?_ | with_reducible refine wp_ge ?_ | with_reducible refine wp_le ?_ | with_reducible refine wp_eqI ?_ | with_reducible refine wp_neI ?_
  | with_reducible refine ⟨_, rfl, ?_⟩ | with_reducible refine wp_slE ?_ | with_reducible refine wp_noP ?_ | with_reducible refine wp_somP ?_ | with_reducible refine wp_slF ?_ | with_reducible refine wp_lenF ?_ | with_reducible refine wp_lenT ?_ | with_reducible refine wp_absB ?_ | with_reducible refine wp_yes ?_)
def same0 : Nat → List D → Mu → Option (D × Mu)
  | 0 => fun _ _ => none
  | n + 1 => mkSem 2 4 (seqS (ifS (tst (isiE "tuple" (vD 1))) (seqS (ifS (orT (notT (tst (isiE "tuple" (vD 0)))) (tst (CW.bin neD (callE lenB (consA (vD 0) nilA)) (callE lenB (consA (vD 1) nilA))))) (retS (cD (.bl false))) skS)
      (retS (callE (allB false) (consA (lcE (zipI (consA (vD 0) (consA (vD 1) nilA))) (tupG 2 (consG (nmG 2) (consG (nmG 3) nilG))) yesT (callE (same0 n) (consA (vD 2) (consA (vD 3) nilA))) [2, 3]) nilA)))) skS)
      (seqS (ifS (tst (CW.bin (isND false) (vD 1) (cD .non))) (retS (CW.bin (isND false) (vD 0) (cD .non))) skS)
      (seqS (ifS (tst (isiE "str" (vD 1))) (retS (andV (isiE "str" (vD 0)) (CW.bin eqD (vD 0) (vD 1)))) skS)
      (seqS (ifS (orT (tst (isiE "bool" (vD 1))) (tst (isiE "bool" (vD 0)))) (retS (andV (isiE "bool" (vD 0)) (andV (isiE "bool" (vD 1)) (CW.bin eqD (vD 0) (vD 1))))) skS)
      (retS (andV (isiE "int" (vD 0)) (CW.bin eqD (vD 0) (vD 1))))))))
def Good : Nat → D → Prop
  | 0, _ => False
  | k + 1, .int _ => True
  | k + 1, .bl _ => True
  | k + 1, .non => True
  | k + 1, .str x => PyData.strOk x = true
  | k + 1, .tup xs => xs.length < 1000 ∧ ∀ x ∈ xs, Good k x
  | _ + 1, _ => False
theorem bls_rep : ∀ n, blsD (List.replicate n (.bl true)) = some (List.replicate n true)
  | 0 => rfl
  | n + 1 => by rw [List.replicate_succ, List.replicate_succ]; show (blsD (List.replicate n (.bl true))).map _ = _; rw [bls_rep n]; rfl
theorem same_ok : ∀ (k : Nat) (x : D) (μ : Mu), Good k x → wp (same0 k [x, x] μ) fun r m => r = .bl true ∧ Gr μ m
  | 0, _, _, h => h.elim
  | k + 1, .int i, μ, _ => by
    refine wp_def rfl ?_
    repeat walk_at "w"
    refine iteF ?_
    repeat walk_at "w"
    refine wp_eq rfl ?_
    repeat walk_at "w"
    refine iteF ?_
    repeat walk_at "w"
    refine iteF ?_
    repeat walk_at "w"
    refine iteF ?_
    repeat walk_at "w"
    refine iteF ?_
    repeat walk_at "w"
    refine iteT ?_
    repeat walk_at "w"
    exact ⟨by simp, Gr.refl⟩
  | k + 1, .bl b, μ, _ => by
    refine wp_def rfl ?_
    repeat walk_at "w"
    refine iteF ?_
    repeat walk_at "w"
    refine wp_eq rfl ?_
    repeat walk_at "w"
    refine iteF ?_
    repeat walk_at "w"
    refine iteF ?_
    repeat walk_at "w"
    refine iteT ?_
    repeat walk_at "w"
    refine iteT ?_
    repeat walk_at "w"
    refine iteT ?_
    repeat walk_at "w"
    refine wp_eq (a := .bl true) (μ := μ) ?_ ⟨rfl, Gr.refl⟩
    simp [CW.bin, vD, eqD, pyD, PyData.eqv]
  | k + 1, .non, μ, _ => by
    refine wp_def rfl ?_
    repeat walk_at "w"
    refine iteF ?_
    repeat walk_at "w"
    refine wp_eq rfl ?_
    repeat walk_at "w"
    refine iteT ?_
    repeat walk_at "w"
    exact wp_eq rfl ⟨rfl, Gr.refl⟩
  | k + 1, .str w, μ, h => by
    have hw : PyData.strOk w = true := h
    refine wp_def rfl ?_
    repeat walk_at "w"
    refine iteF ?_
    repeat walk_at "w"
    refine wp_eq rfl ?_
    repeat walk_at "w"
    refine iteF ?_
    repeat walk_at "w"
    refine iteT ?_
    repeat walk_at "w"
    refine iteT ?_
    repeat walk_at "w"
    refine wp_eq (a := .bl true) (μ := μ) ?_ ⟨rfl, Gr.refl⟩
    simp [eqD, pyD, PyData.eqv, hw]
  | k + 1, .fl _, μ, h => h.elim
  | k + 1, .ref _, μ, h => h.elim
  | k + 1, .fn _, μ, h => h.elim
  | k + 1, .tup xs, μ, h => by
    obtain ⟨hx, hg⟩ := h
    refine wp_def rfl ?_
    repeat walk_at "w"
    refine iteT ?_
    repeat walk_at "w"
    refine iteF ?_
    repeat walk_at "w"
    rw [beq_self_eq_true]
    refine iteF ?_
    repeat walk_at "w"
    refine wp_lc (wp_zipI ?_)
    repeat walk_at "w"
    refine ⟨xs, xs, rfl, xs.map fun x => .tup [x, x], ?_, ?_, fun i m acc => acc = List.replicate i (.bl true) ∧ m[μ.length]? = some (.lst acc) ∧ Gr μ m, ?_, ?_, ?_, ?_, ?_⟩
    · simp [zipIt]
    · simpa using Nat.lt_trans hx (by decide)
    · exact ⟨rfl, get_last _ _, Gr.refl.push _⟩
    · rintro i m acc _
      show some _ = _
      rw [List.getElem?_map]
      cases xs[i]? <;> rfl
    · rintro i m acc ⟨rfl, h2, _⟩
      exact ⟨h2, by simp⟩
    · rintro i x m acc hx2 ⟨rfl, h2, g⟩
      rw [List.getElem?_map] at hx2
      cases e : xs[i]? with
      | none => rw [e] at hx2; cases hx2
      | some y =>
        rw [e] at hx2
        cases hx2
        refine wp_tupG2 ?_
        repeat walk_at "w"
        refine iteT ?_
        repeat walk_at "w"
        refine wp_mono (same_ok k y m (hg y (List.mem_of_getElem? e))) ?_
        rintro r m' ⟨rfl, g2⟩
        have h3 := g2.get h2
        exact ⟨h3, (List.replicate_succ' ..).symm, set_get h3, (g.trans g2).set (Nat.le_refl _) _⟩
    · rintro m acc ⟨rfl, h2, g⟩
      repeat walk_at "w"
      refine wp_eq (a := .bl true) (μ := m) ?_ ⟨rfl, g⟩
      unfold allB
      simp only
      rw [h2]; simp only; rw [bls_rep]
      simp
theorem same_to {sm : Nat → List D → Mu → Option (D × Mu)} (e : ∀ k, sm k = same0 k) {k : Nat} {x y : D} {μ : Mu} {Q : D → Mu → Prop} (g : Good k x) (hxy : x = y) (q : ∀ m, Gr μ m → Q (.bl true) m) : wp (sm k [x, y] μ) Q := by
  subst hxy
  rw [e k]
  refine wp_mono (same_ok k x μ g) ?_
  rintro r m ⟨rfl, g2⟩
  exact q m g2
theorem ok_hows : ∀ {x : Str}, x ∈ hows → PyData.strOk x = true := by decide +kernel
end CW

namespace CW
open PySem L2
def both (how : Str) : Bool := (["ring", "show", "talk", "hold0", "hold1"] : List Str).any fun y => y == how
def fIn (line : Int) : D → Bool
  | .tup [.int i, .int j, .str how, .int _] => i == line || (j == line && both how)
  | _ => false
def fTalk (line : Int) : D → Bool
  | .tup [.int i, .int j, .str how, .int _] => how == "talk" && (i == line || j == line)
  | _ => false
def fHeld (line : Int) : D → Bool
  | .tup [.int i, .int j, .str how, .int _] => (i == line && how == "hold0") || (j == line && how == "hold1")
  | _ => false
def fShown (line : Int) : D → Bool
  | .tup [.int _, .int j, .str how, .int _] => j == line && how == "show"
  | _ => false
theorem both_not : ∀ how ∈ hows, both how = !((["busy", "shut", "back"] : List Str).any fun y => y == how) := by decide +kernel
section
variable {n line : Int} {xs : List D}
theorem pf_of {sem : List D → Mu → Option (D × Mu)} {p : D → Bool} (h : ∀ {i j hd : Int} {how : Str}, how ∈ hows → PF sem [callD i j how hd, .int line] (.bl (p (callD i j how hd)))) {x : D} (hx : Call1 n x) : PF sem [x, .int line] (.bl (p x)) := by
  obtain ⟨i, j, how, hd, rfl, _, _, _, _, _, hw, _, _⟩ := hx.ex
  exact h hw
end
section
variable {env : Env} {f g : Sm} {t : Tm} {s s2 : Bm} {d x z : D} {r : Fl} {a : Bool}
theorem ev_una {o : D → Mu → Option (D × Mu)} (h : Ev f env x) (ho : ∀ m, o x m = some (z, m)) : Ev (una o f) env z := fun m => by unfold una; rw [h m]; exact ho m
theorem evs_no (h : EvT t env false) (h2 : EvS s2 env r) : EvS (seqS (ifS t s skS) s2) env r := fun m => by
  unfold seqS ifS; rw [h m]; simp only [Bool.false_eq_true, if_false]; exact h2 m
theorem evs_yes (h : EvT t env true) (h2 : Ev f env d) : EvS (seqS (ifS t (retS f) skS) s2) env (.rt d) := fun m => by
  unfold seqS ifS; rw [h m]; simp only [if_true]; unfold retS; rw [h2 m]
theorem op_notN {xs : List D} : OpV (isND true) (.tup xs) .non (.bl true) := fun _ => rfl
/-- (number, text) == (number, text) -/
theorem op_eqIS {p q : Int} {v w : Str} (hv : PyData.strOk v = true) (hw : PyData.strOk w = true) : OpV eqD (.tup [.int p, .str v]) (.tup [.int q, .str w]) (.bl (p == q && v == w)) := fun m => by
  have h1 : pyD 8 m (.tup [.int p, .str v]) = some (.tuple [.int p, .str v]) := by
    show (List.mapM (pyD 7 m) [.int p, .str v]).map PyData.tuple = _
    simp [List.mapM_cons, pyD, hv]
  have h2 : pyD 8 m (.tup [.int q, .str w]) = some (.tuple [.int q, .str w]) := by
    show (List.mapM (pyD 7 m) [.int q, .str w]).map PyData.tuple = _
    simp [List.mapM_cons, pyD, hw]
  unfold eqD
  rw [h1, h2]
  simp [PyData.eqv, PyData.eqvAll]
end
theorem bls_map {α : Type} (f : α → Bool) : ∀ xs : List α, blsD (xs.map fun x => D.bl (f x)) = some (xs.map f)
  | [] => rfl
  | x :: xs => by rw [List.map_cons, List.map_cons]; show (blsD (xs.map fun x => D.bl (f x))).map _ = _; rw [bls_map f xs]; rfl
theorem wp_any {Q : D → Mu → Prop} {μ : Mu} {l : Nat} {xs : List D} {f : D → Bool} (hl : μ[l]? = some (.lst (xs.map fun x => D.bl (f x)))) (q : Q (.bl (xs.any f)) μ) : wp (allB true [.ref l] μ) Q := by
  refine wp_eq (a := .bl (xs.any f)) (μ := μ) ?_ q
  unfold allB
  simp only
  rw [hl]; simp only; rw [bls_map]
  simp [Function.comp_def]
theorem wp_allL {Q : D → Mu → Prop} {μ : Mu} {l : Nat} {xs : List D} {f : D → Bool} (hl : μ[l]? = some (.lst (xs.map fun x => D.bl (f x)))) (q : Q (.bl (xs.all f)) μ) : wp (allB false [.ref l] μ) Q := by
  refine wp_eq (a := .bl (xs.all f)) (μ := μ) ?_ q
  unfold allB
  simp only
  rw [hl]; simp only; rw [bls_map]
  simp [Function.comp_def]
theorem ws_put {N : Env → Mu → Prop} {Rt : D → Mu → Prop} {B C : Env → Mu → Prop} {env : Env} {μ : Mu} {fv fo fi : Sm} (h : wp (fv env μ) fun v μ1 => wp (fo env μ1) fun x μ2 => ∃ l, x = .ref l ∧ wp (fi env μ2) fun y μ3 => ∃ k kvs, y = .str k ∧ μ3[l]? = some (.dct kvs) ∧ kvs.length < 1000000 ∧ N env (μ3.set l (.dct (putD kvs (.inr k) v)))) : ws (putS fv fo fi env μ) N Rt B C := by
  obtain ⟨v, μ1, e1, x, μ2, e2, l, rfl, y, μ3, e3, k, kvs, rfl, hl, hz, q⟩ := h
  refine ⟨.nx env, μ3.set l (.dct (putD kvs (.inr k) v)), ?_, q⟩
  unfold putS
  rw [e1]; simp only; rw [e2]; simp only; rw [e3]; simp only [keyD]; rw [hl]; simp only; rw [if_pos hz]
theorem wp_din {Q : D → Mu → Prop} {μ : Mu} {l : Nat} {neg : Bool} {kvs : List (Key × D)} {x : Str} (hl : μ[l]? = some (.dct kvs)) (q : Q (.bl (neg ^^ (valD kvs (.inr x)).isSome)) μ) : wp (dinD neg (.str x) (.ref l) μ) Q := by
  refine wp_eq (a := .bl (neg ^^ (valD kvs (.inr x)).isSome)) (μ := μ) ?_ q
  unfold dinD
  simp only [keyD]
  rw [hl]

end CW

namespace Lw
open PySem L2 CW
local macro_rules | `(tactic| walk_at "w") => `(tactic| first
  | with_reducible refine ws_seq ?_ | with_reducible refine ws_asg ?_ | with_reducible refine ws_ret ?_ | with_reducible refine ws_drop ?_ | with_reducible refine ws_if ?_ | with_reducible refine ws_sk ?_
  | with_reducible refine wp_bin ?_ | with_reducible refine wp_v (by with_unfolding_all rfl) ?_ | with_reducible refine wp_c ?_ | with_reducible refine wp_tst ?_ | with_reducible refine wp_consA ?_ | with_reducible refine wp_nilA ?_
  | with_reducible refine wp_callE ?_ | with_reducible refine wp_nm ?_ | with_reducible refine wp_subG ?_ | with_reducible refine wp_tupE ?_ | with_reducible refine wp_lstE ?_ | with_reducible refine wp_andT ?_ | with_reducible refine wp_orT ?_ | with_reducible refine wp_notT ?_ | with_reducible refine wp_andV ?_ | with_reducible refine wp_orV ?_ | with_reducible refine wp_notV ?_ | with_reducible refine wp_isi ?_ | with_reducible refine wp_metE ?_
  | with_reducible refine wp_add ?_ | with_reducible refine wp_sub ?_ | with_reducible refine wp_gt ?_ | with_reducible refine wp_lt ?_ | with_reducible refine wp_ge ?_ | with_reducible refine wp_le ?_ | with_reducible refine wp_eqI ?_ | with_reducible refine wp_neI ?_
  | with_reducible refine ⟨_, rfl, ?_⟩ | with_reducible refine wp_slE ?_ | with_reducible refine wp_noP ?_ | with_reducible refine wp_somP ?_ | with_reducible refine wp_slF ?_ | with_reducible refine wp_slT ?_ | with_reducible refine wp_lenF ?_ | with_reducible refine wp_lenT ?_ | with_reducible refine wp_absB ?_ | with_reducible refine wp_yes ?_ | with_reducible refine wp_dctE ?_ | with_reducible refine wp_consP ?_ | with_reducible refine wp_nilP ?_ | with_reducible refine ws_put ?_)
local macro_rules | `(tactic| walk_at "e") => `(tactic| first
  | with_reducible exact ev_v (by with_unfolding_all rfl) | with_reducible exact ev_c | with_reducible apply ev_bin | with_reducible apply ev_orV | with_reducible apply ev_andV | with_reducible apply ev_notV | with_reducible apply ev_tup | with_reducible apply ev_call
  | with_reducible exact eva_nil | with_reducible apply eva_cons | with_reducible apply evs_ret | with_reducible apply evt_tst | with_reducible apply evt_and | with_reducible apply evt_or | with_reducible apply evt_not | with_reducible exact evt_yes | with_reducible apply ev_slT | with_reducible exact evp_no | with_reducible apply evp_som
  | with_reducible exact op_eqI | with_reducible exact op_ixT (by with_unfolding_all rfl) | with_reducible exact op_eqS (by first | assumption | decide +kernel) (by first | assumption | decide +kernel) | with_reducible exact op_eqIS (by first | assumption | decide +kernel) (by first | assumption | decide +kernel) | with_reducible exact pf_intB | with_reducible exact pf_len | (with_reducible intro _))
section
variable {i j h line : Int} {how : Str}
theorem ev_is_in (hh : how ∈ hows) : PF sm_is_in [callD i j how h, .int line] (.bl (fIn line (callD i j how h))) := by
  have hw := ok_hows hh
  apply pf_to
  · apply pf_def rfl
    repeat walk_at "e"
    exact op_inS ["ring", "show", "talk", "hold0", "hold1"] hw (by decide +kernel) rfl
  · simp [both, fIn]
theorem ev_is_talk (hh : how ∈ hows) : PF sm_is_talk_of [callD i j how h, .int line] (.bl (fTalk line (callD i j how h))) := by
  have hw := ok_hows hh
  apply pf_to
  · apply pf_def rfl
    repeat walk_at "e"
    exact op_inI [i, j] rfl
  · simp [fTalk]
theorem ev_is_held (hh : how ∈ hows) : PF sm_is_held_by [callD i j how h, .int line] (.bl (fHeld line (callD i j how h))) := by
  have hw := ok_hows hh
  apply pf_to
  · apply pf_def rfl
    repeat walk_at "e"
  · simp [fHeld]
theorem ev_is_shown (hh : how ∈ hows) : PF sm_is_shown_to [callD i j how h, .int line] (.bl (fShown line (callD i j how h))) := by
  have hw := ok_hows hh
  apply pf_to
  · apply pf_def rfl
    repeat walk_at "e"
  · simp [fShown]
theorem ev_L_is_in (hh : how ∈ hows) : PF sm_L_is_in [callD i j how h, .int line] (.bl (fIn line (callD i j how h))) := by
  have hw := ok_hows hh
  apply pf_to
  · apply pf_def rfl
    repeat walk_at "e"
    exact op_inS ["busy", "shut", "back"] hw (by decide +kernel) rfl
  · have e1 : (line == i) = (i == line) := Bool.eq_iff_iff.mpr (by simp only [beq_iff_eq]; exact eq_comm)
    have e2 : (line == j) = (j == line) := Bool.eq_iff_iff.mpr (by simp only [beq_iff_eq]; exact eq_comm)
    simp only [fIn, both_not how hh, e1, e2, Bool.true_bne, Bool.true_xor]
theorem ev_L_holds (hh : how ∈ hows) : PF sm_L_holds [callD i j how h, .int line] (.bl (fHeld line (callD i j how h))) := by
  have hc : how = "ring" ∨ how = "show" ∨ how = "talk" ∨ how = "hold0" ∨ how = "hold1" ∨ how = "busy" ∨ how = "shut" ∨ how = "back" := by simpa [hows] using hh
  rcases hc with rfl | rfl | rfl | rfl | rfl | rfl | rfl | rfl
  all_goals
    apply pf_to
    · apply pf_def rfl
      apply evs_ret
      apply ev_andV
      · repeat walk_at "e"
        exact op_inS ["hold0", "hold1"] (by decide +kernel) (by decide +kernel) rfl
      · intro _
        repeat walk_at "e"
    · refine congrArg D.bl ?_
      simp only [fHeld]
      generalize (i == line) = p
      generalize (j == line) = q
      revert p q
      decide +kernel
end
section
variable {n line : Int} {xs : List D}
theorem ev_has_talk (hx : ∀ x ∈ xs, Call1 n x) : PF sm_has_talk [.tup xs, .int line] (.bl (xs.any (fTalk line))) := by
  apply pf_to
  · apply pf_def rfl
    apply evs_ret
    refine ev_allG (xs := xs) (p := fun _ => true) (k := fTalk line) (ev_v rfl) (fun x hm => evt_yes) (fun x hm _ => ?_)
    exact ev_call (eva_cons (ev_v rfl) (eva_cons (ev_v rfl) eva_nil)) (pf_of ev_is_talk (hx x hm))
  · simp
theorem ev_has_hold (hx : ∀ x ∈ xs, Call1 n x) : PF sm_has_hold [.tup xs, .int line] (.bl (xs.any (fHeld line))) := by
  apply pf_to
  · apply pf_def rfl
    apply evs_ret
    refine ev_allG (xs := xs) (p := fun _ => true) (k := fHeld line) (ev_v rfl) (fun x hm => evt_yes) (fun x hm _ => ?_)
    exact ev_call (eva_cons (ev_v rfl) (eva_cons (ev_v rfl) eva_nil)) (pf_of ev_is_held (hx x hm))
  · simp
theorem ev_is_free (hx : ∀ x ∈ xs, Call1 n x) : PF sm_is_free [.tup xs, .int line] (.bl (!xs.any (fIn line))) := by
  apply pf_to
  · apply pf_def rfl
    apply evs_ret
    apply ev_notV
    refine ev_allG (xs := xs) (p := fun _ => true) (k := fIn line) (ev_v rfl) (fun x hm => evt_yes) (fun x hm _ => ?_)
    exact ev_call (eva_cons (ev_v rfl) (eva_cons (ev_v rfl) eva_nil)) (pf_of ev_is_in (hx x hm))
  · simp
theorem ev_shown_to (hx : ∀ x ∈ xs, Call1 n x) : PF sm_shown_to [.tup xs, .int line] ((xs.find? (fShown line)).getD .non) := by
  apply pf_def rfl
  refine evs_find (xs := xs) (p := fShown line) (ev_v rfl) (fun x hm => ?_) (by simp) (fun e => evs_ret ev_c)
  exact evt_tst (ev_call (eva_cons (ev_v rfl) (eva_cons (ev_v rfl) eva_nil)) (pf_of ev_is_shown (hx x hm)))
theorem same_eq : ∀ k, sm_L_same k = same0 k
  | 0 => rfl
  | k + 1 => by unfold sm_L_same same0; rw [same_eq k]
end
section
variable {n line night me hid : Int} {xs : List D}
theorem find_some {p : D → Bool} (hx : ∀ x ∈ xs, Call1 n x) : ∃ z, OpV (isND true) ((xs.find? p).getD .non) .non z ∧ z = .bl (xs.any p) := by
  cases h : xs.find? p with
  | none =>
    refine ⟨_, op_isN, ?_⟩
    rw [← List.isSome_find?, h]; rfl
  | some x =>
    obtain ⟨i, j, how, hd, rfl, _⟩ := (hx x (List.mem_of_find?_eq_some h)).ex
    refine ⟨_, op_isT, ?_⟩
    rw [← List.isSome_find?, h]; rfl
theorem kin_not {w : Str} (h : (c_OPPOSITES.lookup w).isSome = false) {env : CW.Env} {f : Sm} (e : Ev f env (.str w)) : EvT (tst (una (kinD false c_OPPOSITES) f)) env false := evt_tst (ev_una e fun m => by unfold kinD; simp only; rw [h]; rfl)
theorem kin_yes {w v : Str} (h : c_OPPOSITES.lookup w = some (.str v)) {env : CW.Env} {f : Sm} (e : Ev f env (.str w)) : EvT (tst (una (kinD false c_OPPOSITES) f)) env true := evt_tst (ev_una e fun m => by unfold kinD; simp only; rw [h]; rfl)
theorem kget_yes {w v : Str} (h : c_OPPOSITES.lookup w = some (.str v)) {env : CW.Env} {f : Sm} (e : Ev f env (.str w)) : Ev (una (kgetD c_OPPOSITES) f) env (.str v) := ev_una e fun m => by unfold kgetD; simp only; rw [h]
theorem is_no {w v : Str} (h : (w == v) = false) (hw : PyData.strOk w = true) (hv : PyData.strOk v = true) {env : CW.Env} {f : Sm} (e : Ev f env (.str w)) : EvT (tst (CW.bin eqD f (cD (.str v)))) env false := evt_to (evt_tst (ev_bin e ev_c (op_eqS hw hv))) h
theorem is_yes {w v : Str} (h : (w == v) = true) (hw : PyData.strOk w = true) (hv : PyData.strOk v = true) {env : CW.Env} {f : Sm} (e : Ev f env (.str w)) : EvT (tst (CW.bin eqD f (cD (.str v)))) env true := evt_to (evt_tst (ev_bin e ev_c (op_eqS hw hv))) h
theorem so_night (k : Nat) : PF (sm_is_so (k + 1)) [.tup xs, .int night, .int me, .int hid, .str "night"] (.bl (night == 1)) := by
  refine pf_def rfl (evs_no (kin_not (by decide +kernel) (ev_v rfl)) (evs_yes (is_yes (by decide +kernel) (by decide +kernel) (by decide +kernel) (ev_v rfl)) (ev_bin (ev_v rfl) ev_c op_eqI)))
theorem so_talk (hx : ∀ x ∈ xs, Call1 n x) (k : Nat) : PF (sm_is_so (k + 1)) [.tup xs, .int night, .int me, .int hid, .str "talk"] (.bl (xs.any (fTalk me))) := by
  refine pf_def rfl (evs_no (kin_not (by decide +kernel) (ev_v rfl)) (evs_no (is_no (by decide +kernel) (by decide +kernel) (by decide +kernel) (ev_v rfl)) (evs_yes (is_yes (by decide +kernel) (by decide +kernel) (by decide +kernel) (ev_v rfl)) (ev_call (eva_cons (ev_v rfl) (eva_cons (ev_v rfl) eva_nil)) (ev_has_talk hx)))))
theorem so_held (hx : ∀ x ∈ xs, Call1 n x) (k : Nat) : PF (sm_is_so (k + 1)) [.tup xs, .int night, .int me, .int hid, .str "held"] (.bl (xs.any (fHeld me))) := by
  refine pf_def rfl (evs_no (kin_not (by decide +kernel) (ev_v rfl)) (evs_no (is_no (by decide +kernel) (by decide +kernel) (by decide +kernel) (ev_v rfl)) (evs_no (is_no (by decide +kernel) (by decide +kernel) (by decide +kernel) (ev_v rfl)) (evs_yes (is_yes (by decide +kernel) (by decide +kernel) (by decide +kernel) (ev_v rfl)) (ev_call (eva_cons (ev_v rfl) (eva_cons (ev_v rfl) eva_nil)) (ev_has_hold hx))))))
theorem so_shown (hx : ∀ x ∈ xs, Call1 n x) (k : Nat) : PF (sm_is_so (k + 1)) [.tup xs, .int night, .int me, .int hid, .str "shown"] (.bl (xs.any (fShown me))) := by
  obtain ⟨z, hz, rfl⟩ := find_some (p := fShown me) hx
  refine pf_def rfl (evs_no (kin_not (by decide +kernel) (ev_v rfl)) (evs_no (is_no (by decide +kernel) (by decide +kernel) (by decide +kernel) (ev_v rfl)) (evs_no (is_no (by decide +kernel) (by decide +kernel) (by decide +kernel) (ev_v rfl)) (evs_no (is_no (by decide +kernel) (by decide +kernel) (by decide +kernel) (ev_v rfl)) (evs_yes (is_yes (by decide +kernel) (by decide +kernel) (by decide +kernel) (ev_v rfl)) (ev_bin (ev_call (eva_cons (ev_v rfl) (eva_cons (ev_v rfl) eva_nil)) (ev_shown_to hx)) ev_c hz))))))
theorem so_idle (hx : ∀ x ∈ xs, Call1 n x) (k : Nat) : PF (sm_is_so (k + 1)) [.tup xs, .int night, .int me, .int hid, .str "idle"] (.bl (!xs.any (fIn me))) := by
  refine pf_def rfl (evs_no (kin_not (by decide +kernel) (ev_v rfl)) (evs_no (is_no (by decide +kernel) (by decide +kernel) (by decide +kernel) (ev_v rfl)) (evs_no (is_no (by decide +kernel) (by decide +kernel) (by decide +kernel) (ev_v rfl)) (evs_no (is_no (by decide +kernel) (by decide +kernel) (by decide +kernel) (ev_v rfl)) (evs_no (is_no (by decide +kernel) (by decide +kernel) (by decide +kernel) (ev_v rfl)) (evs_yes (is_yes (by decide +kernel) (by decide +kernel) (by decide +kernel) (ev_v rfl)) (ev_call (eva_cons (ev_v rfl) (eva_cons (ev_v rfl) eva_nil)) (ev_is_free hx))))))))
theorem so_hid (k : Nat) : PF (sm_is_so (k + 1)) [.tup xs, .int night, .int me, .int hid, .str "hid"] (.bl (hid == 1)) := by
  refine pf_def rfl (evs_no (kin_not (by decide +kernel) (ev_v rfl)) (evs_no (is_no (by decide +kernel) (by decide +kernel) (by decide +kernel) (ev_v rfl)) (evs_no (is_no (by decide +kernel) (by decide +kernel) (by decide +kernel) (ev_v rfl)) (evs_no (is_no (by decide +kernel) (by decide +kernel) (by decide +kernel) (ev_v rfl)) (evs_no (is_no (by decide +kernel) (by decide +kernel) (by decide +kernel) (ev_v rfl)) (evs_no (is_no (by decide +kernel) (by decide +kernel) (by decide +kernel) (ev_v rfl)) (evs_ret (ev_bin (ev_v rfl) ev_c op_eqI))))))))
theorem so_opp {w v : Str} {b : Bool} {k : Nat} (h : c_OPPOSITES.lookup w = some (.str v)) (hb : PF (sm_is_so k) [.tup xs, .int night, .int me, .int hid, .str v] (.bl b)) : PF (sm_is_so (k + 1)) [.tup xs, .int night, .int me, .int hid, .str w] (.bl (!b)) :=
  pf_def rfl (evs_yes (kin_yes h (ev_v rfl)) (ev_notV (ev_call (eva_cons (ev_v rfl) (eva_cons (ev_v rfl) (eva_cons (ev_v rfl) (eva_cons (ev_v rfl) (eva_cons (kget_yes h (ev_v rfl)) eva_nil))))) hb)))
def words12 : List Str := ["night", "day", "talk", "mute", "held", "bare", "shown", "clear", "idle", "used", "hid", "named"]
/-- what a test is told to be -/
def soB (xs : List D) (night me hid : Int) (w : Str) : Bool :=
  if w = "night" then night == 1 else if w = "day" then !(night == 1) else if w = "talk" then xs.any (fTalk me) else if w = "mute" then !xs.any (fTalk me) else if w = "held" then xs.any (fHeld me) else if w = "bare" then !xs.any (fHeld me)
  else if w = "shown" then xs.any (fShown me) else if w = "clear" then !xs.any (fShown me) else if w = "idle" then !xs.any (fIn me) else if w = "used" then !(!xs.any (fIn me)) else if w = "hid" then hid == 1 else !(hid == 1)
theorem so_all (hx : ∀ x ∈ xs, Call1 n x) : ∀ w ∈ words12, PF (sm_is_so 8) [.tup xs, .int night, .int me, .int hid, .str w] (.bl (soB xs night me hid w)) := by
  intro w hw
  simp only [words12, List.mem_cons, List.not_mem_nil, or_false] at hw
  rcases hw with rfl | rfl | rfl | rfl | rfl | rfl | rfl | rfl | rfl | rfl | rfl | rfl
  · exact pf_to (so_night 7) (congrArg D.bl (by unfold soB; simp))
  · exact pf_to (so_opp (by with_unfolding_all rfl) (so_night 6)) (congrArg D.bl (by unfold soB; simp (decide := true)))
  · exact pf_to (so_talk hx 7) (congrArg D.bl (by unfold soB; simp (decide := true)))
  · exact pf_to (so_opp (by with_unfolding_all rfl) (so_talk hx 6)) (congrArg D.bl (by unfold soB; simp (decide := true)))
  · exact pf_to (so_held hx 7) (congrArg D.bl (by unfold soB; simp (decide := true)))
  · exact pf_to (so_opp (by with_unfolding_all rfl) (so_held hx 6)) (congrArg D.bl (by unfold soB; simp (decide := true)))
  · exact pf_to (so_shown hx 7) (congrArg D.bl (by unfold soB; simp (decide := true)))
  · exact pf_to (so_opp (by with_unfolding_all rfl) (so_shown hx 6)) (congrArg D.bl (by unfold soB; simp (decide := true)))
  · exact pf_to (so_idle hx 7) (congrArg D.bl (by unfold soB; simp (decide := true)))
  · exact pf_to (so_opp (by with_unfolding_all rfl) (so_idle hx 6)) (congrArg D.bl (by unfold soB; simp (decide := true)))
  · exact pf_to (so_hid 7) (congrArg D.bl (by unfold soB; simp (decide := true)))
  · exact pf_to (so_opp (by with_unfolding_all rfl) (so_hid 6)) (congrArg D.bl (by unfold soB; simp (decide := true)))
def turned : List (Key × D) := [(.inr "day", .str "night"), (.inr "named", .str "hid"), (.inr "mute", .str "talk"), (.inr "bare", .str "held"), (.inr "clear", .str "shown"), (.inr "idle", .str "used")]
def sofin (a b c d e f : Bool) : List (Key × D) := [(.inr "night", .bl a), (.inr "hid", .bl b), (.inr "talk", .bl c), (.inr "held", .bl d), (.inr "shown", .bl e), (.inr "used", .bl f)]
theorem put_new {kvs : List (Key × D)} {k : Key} {v : D} (h : (kvs.any fun kv => decide (kv.1 = k)) = false) : putD kvs k v = kvs ++ [(k, v)] := by unfold putD; rw [if_neg (by rw [h]; exact Bool.false_ne_true)]
theorem L_so_ok (hx : ∀ x ∈ xs, Call1 n x) (hl : xs.length ≤ 16) {w : Str} (hw : w ∈ words12) {μ : Mu} : wp (sm_L_is_so [.tup xs, .int night, .int me, .int hid, .str w] μ) fun r m => r = .bl (soB xs night me hid w) ∧ Gr μ m := by
  refine wp_def rfl ?_
  repeat walk_at "w"
  refine ⟨get_last _ _, ?_⟩
  repeat walk_at "w"
  have e0 : (μ ++ [Cell.dct []]).set μ.length (.dct (mergeD [] [(.inr "night", D.bl (night == 1)), (.inr "hid", D.bl (hid == 1))])) = μ ++ [.dct [(.inr "night", D.bl (night == 1)), (.inr "hid", D.bl (hid == 1))]] := by
    rw [show mergeD [] [((.inr "night" : Key), D.bl (night == 1)), (.inr "hid", D.bl (hid == 1))] = [(.inr "night", D.bl (night == 1)), (.inr "hid", D.bl (hid == 1))] from rfl]
    simp
  rw [e0]
  have ft : xs.filter (fun _ => true) = xs := List.filter_eq_self.mpr fun _ _ => rfl
  have fin : ∀ (M : Mu) (L2 : Nat) (x7 : Option D), Gr μ M → M[μ.length]? = some (.dct (sofin (night == 1) (hid == 1) (xs.any (fTalk me)) (xs.any (fHeld me)) (xs.any (fShown me)) (xs.any (fIn me)))) → M[L2]? = some (.dct turned) →
      ws (seqS (ifS (tst (CW.bin (dinD false) (vD 4) (vD 6))) (retS (notV (CW.bin dgetD (vD 5) (CW.bin dgetD (vD 6) (vD 4))))) skS) (retS (CW.bin dgetD (vD 5) (vD 4))) [some (.tup xs), some (.int night), some (.int me), some (.int hid), some (.str w), some (.ref μ.length), some (.ref L2), x7] M)
        (fun _ μ1 => D.non = .bl (soB xs night me hid w) ∧ Gr μ μ1) (fun r m => r = .bl (soB xs night me hid w) ∧ Gr μ m) (fun _ _ => False) (fun _ _ => False) := by
    intro M L2 x7 g c1 c2
    simp only [words12, List.mem_cons, List.not_mem_nil, or_false] at hw
    rcases hw with rfl | rfl | rfl | rfl | rfl | rfl | rfl | rfl | rfl | rfl | rfl | rfl
    all_goals
      repeat walk_at "w"
      refine wp_din c2 ?_
      repeat walk_at "w"
      first
        | (refine iteT ?_
           repeat walk_at "w"
           refine wp_dget c2 (by with_unfolding_all rfl) ?_
           refine wp_dget c1 (by with_unfolding_all rfl) ?_
           refine ⟨_, rfl, ?_, g⟩
           unfold soB
           simp (decide := true))
        | (refine iteF ?_
           repeat walk_at "w"
           refine wp_dget c1 (by with_unfolding_all rfl) ?_
           refine ⟨?_, g⟩
           unfold soB
           simp (decide := true))
  -- the store stands as μ, the dict, and more
  have step : ∀ {kvs : List (Key × D)} {t : List Cell} {c : Cell} {v : D} {k : Key}, (μ ++ Cell.dct kvs :: t ++ [c]).set μ.length (.dct (putD kvs k v)) = μ ++ Cell.dct (putD kvs k v) :: (t ++ [c]) := fun {kvs t c v k} => by simp
  have at0 : ∀ {kvs : List (Key × D)} {t : List Cell}, (μ ++ Cell.dct kvs :: t)[μ.length]? = some (.dct kvs) := fun {kvs t} => by simp
  have at1 : ∀ {kvs : List (Key × D)} {t : List Cell} {c : Cell}, (μ ++ Cell.dct kvs :: t ++ [c])[μ.length]? = some (.dct kvs) := fun {kvs t c} => by simp
  refine wp_lcP (p := fun _ => true) (k := fun x => .bl (fTalk me x)) (wp_seqIT ?_)
  repeat walk_at "w"
  refine ⟨by omega, fun x hm => evt_yes, fun x hm _ => ?_, ?_⟩
  · obtain ⟨i, j, how, hd, rfl, _, _, _, _, _, hw, _, _⟩ := (hx x hm).ex
    have hs := ok_hows hw
    apply ev_to
    · repeat walk_at "e"
      exact op_inI [i, j] rfl
    · simp [fTalk]
  repeat walk_at "w"
  rw [ft]
  refine wp_any (get_last _ _) ?_
  repeat walk_at "w"
  refine ⟨_, _, rfl, at1, by simp, ?_⟩
  rw [step, put_new (by rfl)]
  repeat walk_at "w"
  refine wp_lcP (p := fun _ => true) (k := fun x => .bl (fHeld me x)) (wp_seqIT ?_)
  repeat walk_at "w"
  refine ⟨by omega, fun x hm => evt_yes, fun x hm _ => ev_call (eva_cons (ev_v rfl) (eva_cons (ev_v rfl) eva_nil)) (pf_of ev_L_holds (hx x hm)), ?_⟩
  repeat walk_at "w"
  rw [ft]
  refine wp_any (get_last _ _) ?_
  repeat walk_at "w"
  refine ⟨_, _, rfl, at1, by simp, ?_⟩
  rw [step, put_new (by rfl)]
  repeat walk_at "w"
  refine wp_lcP (p := fun _ => true) (k := fun x => .bl (fShown me x)) (wp_seqIT ?_)
  repeat walk_at "w"
  refine ⟨by omega, fun x hm => evt_yes, fun x hm _ => ?_, ?_⟩
  · obtain ⟨i, j, how, hd, rfl, _, _, _, _, _, hw, _, _⟩ := (hx x hm).ex
    have hs := ok_hows hw
    apply ev_to
    · apply ev_bin
      · repeat walk_at "e"
      · repeat walk_at "e"
      · exact op_eqIS hs (by decide +kernel)
    · simp [fShown]
  repeat walk_at "w"
  rw [ft]
  refine wp_any (get_last _ _) ?_
  repeat walk_at "w"
  refine ⟨_, _, rfl, at1, by simp, ?_⟩
  rw [step, put_new (by rfl)]
  repeat walk_at "w"
  refine wp_lcP (p := fun _ => true) (k := fun x => .bl (fIn me x)) (wp_seqIT ?_)
  repeat walk_at "w"
  refine ⟨by omega, fun x hm => evt_yes, fun x hm _ => ev_call (eva_cons (ev_v rfl) (eva_cons (ev_v rfl) eva_nil)) (pf_of ev_L_is_in (hx x hm)), ?_⟩
  repeat walk_at "w"
  rw [ft]
  refine wp_any (get_last _ _) ?_
  repeat walk_at "w"
  refine ⟨_, _, rfl, at1, by simp, ?_⟩
  rw [step, put_new (by rfl)]
  repeat walk_at "w"
  refine ⟨get_last _ _, ?_⟩
  refine wp_nm ?_
  refine fin _ _ _ ?_ ?_ (set_get (get_last _ _))
  · refine Gr.set (Gr.push ⟨by simp, fun j h => ?_⟩ _) (by simp) _
    rw [List.getElem?_append_left h]
  · exact set_other (get_old at0) (by simp)
end
end Lw

namespace CW
open PySem L2
section
variable {Q : Env → Mu → Prop} {env : Env} {μ : Mu} {g : Gm} {gs : Gms} {d : D} {ds r : List D} {n : Nat}
theorem wp_tupGL (hn : ds.length = n) (h : wp (gs ds env μ) Q) : wp (tupG n gs (.tup ds) env μ) Q := by
  unfold tupG; simp only; rw [if_pos hn]; exact h
theorem wp_consG (h : wp (g d env μ) fun e1 m1 => wp (gs r e1 m1) Q) : wp (consG g gs (d :: r) env μ) Q := by
  obtain ⟨e1, m1, h1, h2⟩ := h
  unfold consG; simp only; rw [h1]; exact h2
theorem wp_nilG (q : Q env μ) : wp (nilG [] env μ) Q := wp_eq rfl q
theorem ws_parL {N : Env → Mu → Prop} {Rt : D → Mu → Prop} {B C : Env → Mu → Prop} {i j : Nat} {f1 f2 : Sm} (h : wp (f1 env μ) fun x m1 => wp (f2 env m1) fun y m2 => N ((env.set i (some x)).set j (some y)) m2) : ws (parS i j (consA f1 (consA f2 nilA)) env μ) N Rt B C := by
  obtain ⟨x, m1, e1, y, m2, e2, q⟩ := h
  exact ws_par (wp_consA ⟨x, m1, e1, wp_consA ⟨y, m2, e2, wp_nilA ⟨x, y, rfl, q⟩⟩⟩)
end
theorem Gr.nil {m : Mu} : Gr [] m := ⟨Nat.zero_le _, fun _ h => nomatch h⟩
def EvG (μ : Mu) (f : Sm) (env : Env) (d : D) : Prop := ∀ m, Gr μ m → wp (f env m) fun r m' => r = d ∧ Gr m m'
def EvTG (μ : Mu) (f : Tm) (env : Env) (b : Bool) : Prop := ∀ m, Gr μ m → wp (f env m) fun r m' => r = b ∧ Gr m m'
def EvAG (μ : Mu) (f : Am) (env : Env) (ds : List D) : Prop := ∀ m, Gr μ m → wp (f env m) fun r m' => r = ds ∧ Gr m m'
def PG (sem : List D → Mu → Option (D × Mu)) (ds : List D) (d : D) : Prop := ∀ m, wp (sem ds m) fun r m' => r = d ∧ Gr m m'
def PGm (μ : Mu) (sem : List D → Mu → Option (D × Mu)) (ds : List D) (d : D) : Prop := ∀ m, Gr μ m → wp (sem ds m) fun r m' => r = d ∧ Gr m m'
theorem PG.m {μ : Mu} {sem : List D → Mu → Option (D × Mu)} {ds : List D} {d : D} (h : PG sem ds d) : PGm μ sem ds d := fun m _ => h m
theorem PF.g {sem : List D → Mu → Option (D × Mu)} {ds : List D} {d : D} (h : PF sem ds d) : PG sem ds d := fun m => wp_eq (h m) ⟨rfl, Gr.refl⟩
section
variable {μ : Mu} {env : Env} {f g : Sm} {t u : Tm} {d x y z : D} {ds : List D} {a b : Bool} {i : Nat}
theorem ev_g (h : Ev f env d) : EvG μ f env d := fun m _ => wp_eq (h m) ⟨rfl, Gr.refl⟩
theorem evt_g (h : EvT t env a) : EvTG μ t env a := fun m _ => wp_eq (h m) ⟨rfl, Gr.refl⟩
theorem eg_v (h : env[i]? = some (some d)) : EvG μ (vD i) env d := ev_g (ev_v h)
theorem eg_c : EvG μ (cD d) env d := ev_g ev_c
theorem eg_bin {o : D → D → Mu → Option (D × Mu)} (hx : EvG μ f env x) (hy : EvG μ g env y) (ho : ∀ m, Gr μ m → wp (o x y m) fun r m' => r = z ∧ Gr m m') : EvG μ (CW.bin o f g) env z := fun m q => by
  refine wp_bin (wp_mono (hx m q) ?_)
  rintro _ m1 ⟨rfl, g1⟩
  refine wp_mono (hy m1 (q.trans g1)) ?_
  rintro _ m2 ⟨rfl, g2⟩
  refine wp_mono (ho m2 ((q.trans g1).trans g2)) ?_
  rintro _ m3 ⟨rfl, g3⟩
  exact ⟨rfl, (g1.trans g2).trans g3⟩
theorem eg_op {o : D → D → Mu → Option (D × Mu)} (hx : EvG μ f env x) (hy : EvG μ g env y) (ho : OpV o x y z) : EvG μ (CW.bin o f g) env z := eg_bin hx hy fun m _ => wp_eq (ho m) ⟨rfl, Gr.refl⟩
theorem egt_tst (h : EvG μ f env (.bl a)) : EvTG μ (tst f) env a := fun m q => by
  refine wp_tst (wp_mono (h m q) ?_)
  rintro _ m1 ⟨rfl, g1⟩
  exact ⟨a, rfl, rfl, g1⟩
theorem egt_yes : EvTG μ yesT env true := evt_g evt_yes
theorem ega_nil : EvAG μ nilA env [] := fun m _ => wp_nilA ⟨rfl, Gr.refl⟩
theorem ega_cons {k : Am} (hx : EvG μ f env x) (hy : EvAG μ k env ds) : EvAG μ (consA f k) env (x :: ds) := fun m q => by
  refine wp_consA (wp_mono (hx m q) ?_)
  rintro _ m1 ⟨rfl, g1⟩
  refine wp_mono (hy m1 (q.trans g1)) ?_
  rintro _ m2 ⟨rfl, g2⟩
  exact ⟨rfl, g1.trans g2⟩
theorem eg_tup {k : Am} (h : EvAG μ k env ds) : EvG μ (tupE k) env (.tup ds) := fun m q => by
  refine wp_tupE (wp_mono (h m q) ?_)
  rintro _ m1 ⟨rfl, g1⟩
  exact ⟨rfl, g1⟩
theorem eg_call {k : Am} {sem : List D → Mu → Option (D × Mu)} (h : EvAG μ k env ds) (p : PGm μ sem ds d) : EvG μ (callE sem k) env d := fun m q => by
  refine wp_callE (wp_mono (h m q) ?_)
  rintro _ m1 ⟨rfl, g1⟩
  refine wp_mono (p m1 (q.trans g1)) ?_
  rintro _ m2 ⟨rfl, g2⟩
  exact ⟨rfl, g1.trans g2⟩
/-- a comprehension over still items, each part growing -/
theorem wp_lcE {Q : D → Mu → Prop} {fi : Im} {gt : Gm} {vs : List Nat} {p : D → Bool} {k : D → D} {m0 : Mu} (h : wp (fi env m0) fun it μ1 => ∃ xs : List D, it.fuel = xs.length + 1 ∧ (∀ i m, Gr μ1 m → it.item i m = some xs[i]?) ∧ xs.length < 1000000 ∧
    (∀ x ∈ xs, ∀ m, Gr μ1 m → wp (gt x (wipeE env vs) m) fun e1 m1 => Gr m m1 ∧ EvTG μ1 t e1 (p x) ∧ (p x = true → EvG μ1 g e1 (k x))) ∧
    ∀ m, Gr μ1 m → m[μ1.length]? = some (.lst ((xs.filter p).map k)) → Q (.ref μ1.length) m) : wp (lcE fi gt t g vs env m0) Q := by
  obtain ⟨it, μ1, e1, xs, hf, hi, hz, hs, q⟩ := h
  refine wp_lc ⟨_, μ1, e1, xs, hf, hz, fun i m acc => Gr μ1 m ∧ m[μ1.length]? = some (.lst acc) ∧ acc = ((xs.take i).filter p).map k ∧ acc.length ≤ i, ⟨Gr.refl.push _, get_last _ _, rfl, Nat.le_refl _⟩, fun i m acc h => hi i m h.1, fun i m acc ⟨_, h2, _, h4⟩ => ⟨h2, h4⟩, fun i x m acc hx ⟨h1, h2, h3, h4⟩ => ?_, fun m acc ⟨h1, h2, h3, _⟩ => ?_⟩
  · have hm := List.mem_of_getElem? hx
    have htk : xs.take (i + 1) = xs.take i ++ [x] := by rw [List.take_add_one, hx]; rfl
    refine wp_mono (hs x hm m h1) ?_
    rintro e2 m1 ⟨g1, ht, he⟩
    refine wp_mono (ht m1 (h1.trans g1)) ?_
    rintro b m2 ⟨rfl, g2⟩
    have h2' := (g1.trans g2).get h2
    have ha := (h1.trans g1).trans g2
    cases hp : p x with
    | true =>
      rw [if_pos rfl]
      refine wp_mono (he hp m2 ha) ?_
      rintro _ m3 ⟨rfl, g3⟩
      have h3' := g3.get h2'
      refine ⟨h3', (ha.trans g3).set (Nat.le_refl _) _, set_get h3', ?_, by simp; exact h4⟩
      rw [h3, htk, List.filter_append, List.map_append, List.filter_cons, if_pos hp]; rfl
    | false =>
      rw [if_neg Bool.false_ne_true]
      refine ⟨ha, h2', ?_, by omega⟩
      rw [h3, htk, List.filter_append, List.filter_cons, if_neg (by rw [hp]; exact Bool.false_ne_true)]; simp
  · rw [List.take_of_length_le (Nat.le_refl _)] at h3
    exact q m h1 (by rw [h2, h3])
end

end CW
namespace CW
open PySem L2
theorem ix_mem {xs : List D} {v : Int} (h0 : 0 ≤ v) (h1 : v < xs.length) : ∃ d, atI xs v = some d ∧ d ∈ xs := by
  obtain ⟨k, rfl⟩ := Int.eq_ofNat_of_zero_le h0
  have hk : k < xs.length := by omega
  refine ⟨xs[k], ?_, List.getElem_mem hk⟩
  unfold atI ixN
  simp [hk]
theorem rng_mem {j : Int} {x : D} (h : x ∈ (List.range j.toNat).map fun k : Nat => D.int (0 + k)) : ∃ v : Int, x = .int v ∧ 0 ≤ v ∧ v < j := by
  obtain ⟨k, hk, rfl⟩ := List.mem_map.mp h
  rw [List.mem_range] at hk
  exact ⟨0 + k, rfl, by omega, by omega⟩
theorem ints_of : ∀ {ys : List D}, (∀ y ∈ ys, ∃ v, y = .int v) → ∃ vs : List Int, ys = vs.map D.int ∧ vs.length = ys.length
  | [], _ => ⟨[], rfl, rfl⟩
  | y :: ys, h => by
    obtain ⟨v, rfl⟩ := h y List.mem_cons_self
    obtain ⟨vs, rfl, e⟩ := ints_of (ys := ys) fun z hz => h z (List.mem_cons_of_mem _ hz)
    exact ⟨v :: vs, rfl, by simp⟩
theorem strs_of {S : List Str} : ∀ {ys : List D}, (∀ y ∈ ys, ∃ w, y = .str w ∧ w ∈ S) → ∃ ws : List Str, ys = ws.map D.str ∧ (∀ w ∈ ws, w ∈ S) ∧ ws.length = ys.length
  | [], _ => ⟨[], rfl, (fun _ h => nomatch h), rfl⟩
  | y :: ys, h => by
    obtain ⟨v, rfl, hv⟩ := h y List.mem_cons_self
    obtain ⟨vs, rfl, e2, e⟩ := strs_of (S := S) (ys := ys) fun z hz => h z (List.mem_cons_of_mem _ hz)
    refine ⟨v :: vs, rfl, fun w hw => ?_, by simp⟩
    rcases List.mem_cons.mp hw with rfl | hw
    · exact hv
    · exact e2 w hw
theorem lst_item {l n : Nat} {xs : List D} {m : Mu} (h : m[l]? = some (.lst xs)) (i : Nat) : (lstIt l n).item i m = some xs[i]? := by
  show (match m[l]? with
    | some (.lst xs) => some xs[i]?
    | _ => none) = _
  rw [h]
theorem py_ref {n : Nat} {m : Mu} {l : Nat} {xs : List D} {ps : List PyData} (hl : m[l]? = some (.lst xs)) (h : xs.mapM (pyD n m) = some ps) : pyD (n + 1) m (.ref l) = some (.list ps) := by
  unfold pyD
  rw [hl]; simp only; rw [h]; rfl
theorem wp_inLS {Q : D → Mu → Prop} {neg : Bool} {w : Str} {l : Nat} {ys : List Str} {m : Mu} (hl : m[l]? = some (.lst (ys.map D.str))) (hw : PyData.strOk w = true) (h : ∀ y ∈ ys, PyData.strOk y = true) (q : Q (.bl (neg ^^ ys.any fun y => y == w)) m) : wp (inD neg (.str w) (.ref l) m) Q := by
  refine wp_eq ?_ q
  have h1 : pyD 8 m (.str w) = some (.str w) := by simp [pyD, hw]
  have h2 := py_ref (n := 7) hl (py_strs h)
  have h3 : ((ys.map PyData.str).any fun z => z.eqv (.str w)) = ys.any fun y => y == w := by rw [List.any_map]; rfl
  unfold inD
  rw [h1, h2]; simp only; rw [h3]
  cases neg <;> simp
theorem wp_inLI {Q : D → Mu → Prop} {neg : Bool} {w : Int} {l : Nat} {ys : List Int} {m : Mu} (hl : m[l]? = some (.lst (ys.map D.int))) (q : Q (.bl (neg ^^ ys.any fun y => y == w)) m) : wp (inD neg (.int w) (.ref l) m) Q := by
  refine wp_eq ?_ q
  have h1 : pyD 8 m (.int w) = some (.int w) := rfl
  have h2 := py_ref (n := 7) hl (py_ints ys)
  have h3 : ((ys.map PyData.int).any fun z => z.eqv (.int w)) = ys.any fun y => y == w := by rw [List.any_map]; rfl
  unfold inD
  rw [h1, h2]; simp only; rw [h3]
  cases neg <;> simp
end CW

namespace CW
open PySem L2
/-- items that stand still -/
structure Still (it : ItD) (xs : List D) : Prop where
  fuel : it.fuel = xs.length + 1
  item : ∀ i m, it.item i m = some xs[i]?
theorem still_fix {xs : List D} : Still (fixIt xs) xs := ⟨rfl, fun _ _ => rfl⟩
def zipD (xs ys : List D) : List D := (xs.zip ys).map fun p => D.tup [p.1, p.2]
theorem still_zip {xs ys : List D} : Still (zipIt xs ys) (zipD xs ys) := by
  refine ⟨by simp [zipIt, zipD, List.length_zip], fun i m => ?_⟩
  show some _ = some _
  unfold zipD
  rw [List.getElem?_map, List.zip, List.getElem?_zipWith]
  cases xs[i]? <;> cases ys[i]? <;> rfl
theorem mem_zipD {xs ys : List D} {z : D} (h : z ∈ zipD xs ys) : ∃ x y, z = .tup [x, y] ∧ x ∈ xs ∧ y ∈ ys ∧ (x, y) ∈ xs.zip ys := by
  unfold zipD at h
  obtain ⟨⟨x, y⟩, h1, rfl⟩ := List.mem_map.mp h
  exact ⟨x, y, rfl, (List.of_mem_zip h1).1, (List.of_mem_zip h1).2, h1⟩
section
variable {env : Env} {f g : Sm} {t : Tm} {s2 : Bm} {d : D} {fi : Im} {gt : Gm} {it : ItD} {xs : List D} {vs : List Nat} {p : D → Bool}
/-- generators over still items, all parts leaving the store -/
theorem ev_tupGS {e : D → Env} {k : D → D} (hi : ∀ m, fi env m = some (it, m)) (hS : Still it xs) (hg : ∀ x ∈ xs, ∀ m, gt x (wipeE env vs) m = some (e x, m)) (ht : ∀ x ∈ xs, EvT t (e x) (p x)) (he : ∀ x ∈ xs, p x = true → Ev g (e x) (k x)) (hz : xs.length ≤ 1000000) :
    Ev (tupGE fi gt t g vs) env (.tup ((xs.filter p).map k)) := fun m => by
  have go : ∀ (ys : List D) (i : Nat), xs.drop i = ys → tupGo it.item gt t g (wipeE env vs) (ys.length + 1) i m = some ((ys.filter p).map k, m) := by
    intro ys
    induction ys with
    | nil =>
      intro i hd
      have hx : xs[i]? = none := List.getElem?_eq_none_iff.mpr (List.drop_eq_nil_iff.mp hd)
      unfold tupGo
      rw [hS.item i m, hx]; rfl
    | cons y ys ih =>
      intro i hd
      have hx : xs[i]? = some y := by
        have := congrArg (fun l => l[0]?) hd
        simpa using this
      have hd' : xs.drop (i + 1) = ys := by
        have := congrArg List.tail hd
        simpa [List.tail_drop] using this
      have hm := List.mem_of_getElem? hx
      rw [List.length_cons]
      unfold tupGo
      rw [hS.item i m, hx]; simp only
      rw [hg y hm m]; simp only
      rw [ht y hm m]; simp only
      cases hpy : p y with
      | true =>
        rw [if_pos rfl, he y hm hpy m]; simp only
        rw [ih (i + 1) hd', List.filter_cons, if_pos hpy]; rfl
      | false =>
        rw [if_neg Bool.false_ne_true, ih (i + 1) hd', List.filter_cons, if_neg (by rw [hpy]; exact Bool.false_ne_true)]
  unfold tupGE
  rw [hi m]; simp only
  rw [hS.fuel, go xs 0 rfl]; simp only
  rw [if_pos (by rw [List.length_map]; exact Nat.le_trans (List.length_filter_le _ _) hz)]
theorem ev_allGS {stop : Bool} {e : D → Env} {k : D → Bool} (hi : ∀ m, fi env m = some (it, m)) (hS : Still it xs) (hg : ∀ x ∈ xs, ∀ m, gt x (wipeE env vs) m = some (e x, m)) (ht : ∀ x ∈ xs, EvT t (e x) (p x)) (he : ∀ x ∈ xs, p x = true → Ev g (e x) (.bl (k x))) :
    Ev (allE stop fi gt t g vs) env (.bl (if stop = true then (xs.filter p).any k else (xs.filter p).all k)) := fun m => by
  have go : ∀ (ys : List D) (i : Nat), xs.drop i = ys → allGo stop it.item gt t g (wipeE env vs) (ys.length + 1) i m = some (if stop = true then (ys.filter p).any k else (ys.filter p).all k, m) := by
    intro ys
    induction ys with
    | nil =>
      intro i hd
      have hx : xs[i]? = none := List.getElem?_eq_none_iff.mpr (List.drop_eq_nil_iff.mp hd)
      unfold allGo
      rw [hS.item i m, hx]; cases stop <;> rfl
    | cons y ys ih =>
      intro i hd
      have hx : xs[i]? = some y := by
        have := congrArg (fun l => l[0]?) hd
        simpa using this
      have hd' : xs.drop (i + 1) = ys := by
        have := congrArg List.tail hd
        simpa [List.tail_drop] using this
      have hm := List.mem_of_getElem? hx
      rw [List.length_cons]
      unfold allGo
      rw [hS.item i m, hx]; simp only
      rw [hg y hm m]; simp only
      rw [ht y hm m]; simp only
      cases hpy : p y with
      | true =>
        have ef : (y :: ys).filter p = y :: ys.filter p := by rw [List.filter_cons, if_pos hpy]
        rw [if_pos rfl, he y hm hpy m]; simp only
        rw [ih (i + 1) hd', ef]
        cases stop <;> cases hk : k y <;> simp [hk]
      | false =>
        have ef : (y :: ys).filter p = ys.filter p := by rw [List.filter_cons, if_neg (by rw [hpy]; exact Bool.false_ne_true)]
        rw [if_neg Bool.false_ne_true, ih (i + 1) hd', ef]
  unfold allE
  rw [hi m]; simp only
  rw [hS.fuel, go xs 0 rfl]
/-- for x in xs: if p: return g -/
theorem evs_findG {j : Nat} {k : D → D} (hf : Ev f env (.tup xs)) (ht : ∀ x ∈ xs, EvT t (env.set j (some x)) (p x)) (hk : ∀ x ∈ xs, p x = true → Ev g (env.set j (some x)) (k x)) (hr : ∀ x, EvS s2 (env.set j x) (.rt d)) (hr0 : EvS s2 env (.rt d)) :
    EvS (seqS (forS (seqI f) (nmG j) (ifS t (retS g) skS)) s2) env (.rt (((xs.find? p).map k).getD d)) := fun m => by
  have go : ∀ (ys : List D) (i : Nat) (e : Env), xs.drop i = ys → (e = env ∨ ∃ x, e = env.set j x) → ∃ r, forGo (fixIt xs).item (nmG j) (ifS t (retS g) skS) (ys.length + 1) i e m = some (r, m) ∧ match ys.find? p with
      | some x => r = .rt (k x)
      | none => ∃ e', r = .nx e' ∧ (e' = env ∨ ∃ x, e' = env.set j x) := by
    intro ys
    induction ys with
    | nil =>
      intro i e hd he
      have hx : xs[i]? = none := List.getElem?_eq_none_iff.mpr (List.drop_eq_nil_iff.mp hd)
      refine ⟨.nx e, ?_, e, rfl, he⟩
      unfold forGo
      have e0 : (fixIt xs).item i m = some none := by show some xs[i]? = _; rw [hx]
      rw [e0]
    | cons y ys ih =>
      intro i e hd he
      have hx : xs[i]? = some y := by
        have := congrArg (fun l => l[0]?) hd
        simpa using this
      have hd' : xs.drop (i + 1) = ys := by
        have := congrArg List.tail hd
        simpa [List.tail_drop] using this
      have e1 : e.set j (some y) = env.set j (some y) := by
        rcases he with rfl | ⟨x, rfl⟩
        · rfl
        · rw [List.set_set]
      have e0 : (fixIt xs).item i m = some (some y) := by show some xs[i]? = _; rw [hx]
      have hm := List.mem_of_getElem? hx
      have hp := ht y hm m
      rw [List.length_cons]
      unfold forGo
      rw [e0]; simp only
      have e2 : nmG j y e m = some (env.set j (some y), m) := by unfold nmG; rw [e1]
      rw [e2]; simp only
      rw [List.find?_cons]
      cases hpy : p y with
      | true =>
        rw [hpy] at hp
        have e3 : ifS t (retS g) skS (env.set j (some y)) m = some (.rt (k y), m) := by
          unfold ifS; rw [hp]; simp only [if_true]; unfold retS; rw [hk y hm hpy m]
        rw [e3]
        exact ⟨_, rfl, rfl⟩
      | false =>
        rw [hpy] at hp
        have e3 : ifS t (retS g) skS (env.set j (some y)) m = some (.nx (env.set j (some y)), m) := by
          unfold ifS; rw [hp]; simp only [Bool.false_eq_true, if_false]; rfl
        rw [e3]
        exact ih (i + 1) _ hd' (.inr ⟨_, rfl⟩)
  obtain ⟨r, e1, e2⟩ := go xs 0 env rfl (.inl rfl)
  have e3 : seqI f env m = some (fixIt xs, m) := by unfold seqI; rw [hf m]
  unfold seqS forS
  rw [e3]; simp only
  rw [show (fixIt xs).fuel = xs.length + 1 from rfl, e1]
  cases h : xs.find? p with
  | some x =>
    rw [h] at e2
    rw [show r = .rt (k x) from e2]
    rfl
  | none =>
    rw [h] at e2
    obtain ⟨e', rfl, he⟩ := e2
    rcases he with rfl | ⟨x, rfl⟩
    · exact hr0 m
    · exact hr x m
end
/-- a loop that returns at the first item of a kind -/
theorem ws_for_first {N : Env → Mu → Prop} {Rt : D → Mu → Prop} {B C : Env → Mu → Prop} {μ : Mu} {env : Env} {s : Bm} {fi : Im} {g : Gm} {p : D → Bool} (h : wp (fi env μ) fun it μ1 => ∃ xs : List D, it = fixIt xs ∧ ∃ I : Env → Mu → Prop, I env μ1 ∧
    (∀ x ∈ xs, ∀ e m, I e m → wp (g x e m) fun e1 m1 => ws (s e1 m1) (fun e2 m2 => p x = false ∧ I e2 m2) (fun d m2 => p x = true ∧ (xs.find? p = some x → Rt d m2)) (fun _ _ => False) (fun e2 m2 => p x = false ∧ I e2 m2)) ∧
    ∀ e m, I e m → xs.find? p = none → N e m) : ws (forS fi g s env μ) N Rt B C := by
  obtain ⟨it, μ1, e1, xs, rfl, I, i0, hs, hN⟩ := h
  refine ws_for_fix ⟨_, μ1, e1, xs, rfl, fun i e m => I e m ∧ ∀ y ∈ xs.take i, p y = false, ⟨i0, fun y hy => by simp at hy⟩, ?_, ?_⟩
  · rintro i x e m hx ⟨hI, hp⟩
    have hm := List.mem_of_getElem? hx
    have htk : xs.take (i + 1) = xs.take i ++ [x] := by rw [List.take_add_one, hx]; rfl
    have up : p x = false → ∀ y ∈ xs.take (i + 1), p y = false := fun h y hy => by
      rw [htk] at hy
      rcases List.mem_append.mp hy with hy | hy
      · exact hp y hy
      · rw [List.mem_singleton.mp hy]; exact h
    obtain ⟨e1, m1, h1, fl, m2, h2, q⟩ := hs x hm e m hI
    refine ⟨e1, m1, h1, fl, m2, h2, ?_⟩
    cases fl with
    | nx e2 => exact ⟨q.2, up q.1⟩
    | ct e2 => exact ⟨q.2, up q.1⟩
    | bk e2 => exact q.elim
    | rt d =>
      refine q.2 ?_
      have hlt := (List.getElem?_eq_some_iff.mp hx).1
      have e3 : xs = xs.take i ++ x :: xs.drop (i + 1) := by
        have := List.take_append_drop (i + 1) xs
        rw [htk] at this
        simpa using this.symm
      rw [e3, List.find?_append, List.find?_eq_none.mpr (fun y hy => by rw [hp y hy]; exact Bool.false_ne_true), Option.none_or, List.find?_cons, q.1]
  · rintro e m ⟨hI, hp⟩
    rw [List.take_of_length_le (Nat.le_refl _)] at hp
    exact hN e m hI (List.find?_eq_none.mpr fun y hy => by rw [hp y hy]; exact Bool.false_ne_true)
/-- a comprehension that draws, with a test -/
theorem wp_lcD {Q : D → Mu → Prop} {fi : Im} {g : Gm} {tt : Tm} {fe : Sm} {vs : List Nat} {env : Env} {μ : Mu} {l : Nat} {N c : Int} {P : D → D → Prop} (h : wp (fi env μ) fun it μ1 => ∃ xs : List D, Still it xs ∧ xs.length < 1000000 ∧ Hand N l μ1 ∧ 0 ≤ c ∧ c * xs.length ≤ N ∧
    (∀ x ∈ xs, ∀ m M, Hand M l m → c ≤ M → Fr l μ1 m → wp (g x (wipeE env vs) m) fun e1 m1 => wp (tt e1 m1) fun b m2 => if b = true then wp (fe e1 m2) fun y m3 => P x y ∧ Hand (M - c) l m3 ∧ Fr l m m3 else Hand (M - c) l m2 ∧ Fr l m m2) ∧
    (∀ ys m, (∀ y ∈ ys, ∃ x ∈ xs, P x y) → ys.length ≤ xs.length → m[μ1.length]? = some (.lst ys) → Hand (N - c * xs.length) l m → Fr l μ1 m → Q (.ref μ1.length) m)) : wp (lcE fi g tt fe vs env μ) Q := by
  obtain ⟨it, μ1, e1, xs, hS, hz, hH, hc, hN, hs, q⟩ := h
  have hl := hH.lt
  refine wp_lc ⟨_, μ1, e1, xs, hS.fuel, hz, fun i m acc => Hand (N - c * i) l m ∧ Fr l μ1 m ∧ m[μ1.length]? = some (.lst acc) ∧ acc.length ≤ i ∧ (∀ y ∈ acc, ∃ x ∈ xs, P x y), ⟨(hH.push _).mono (by simp), Fr.refl.push _, get_last _ _, Nat.le_refl _, fun y hy => nomatch hy⟩, fun i m acc _ => hS.item i m, fun i m acc ⟨_, _, h3, h4, _⟩ => ⟨h3, h4⟩, fun i x m acc hx ⟨h1, h2, h3, h4, h5⟩ => ?_, fun m acc ⟨h1, h2, h3, h4, h5⟩ => ?_⟩
  · have hm := List.mem_of_getElem? hx
    have hlt := (List.getElem?_eq_some_iff.mp hx).1
    have hle : c * ((i : Int) + 1) ≤ c * (xs.length : Int) := Int.mul_le_mul_of_nonneg_left (by omega) hc
    have hex : c * ((i : Int) + 1) = c * i + c := by rw [Int.mul_add, Int.mul_one]
    have hex2 : c * (((i + 1 : Nat) : Int)) = c * i + c := by rw [Int.natCast_add, Int.mul_add]; simp
    refine wp_mono (hs x hm m _ h1 (by omega) h2) ?_
    intro e2 m1 w1
    refine wp_mono w1 ?_
    intro b m2 w2
    cases b with
    | true =>
      rw [if_pos rfl] at w2 ⊢
      refine wp_mono w2 ?_
      rintro y m3 ⟨py, hh, fr⟩
      have k3 := fr.get (k := μ1.length) (by omega) h3
      exact ⟨k3, (hh.set (by omega) _).mono (by omega), (h2.trans fr).set (Nat.le_refl _) _, set_get k3, by simp; exact h4, fun z hz => by
        rcases List.mem_append.mp hz with hz | hz
        · exact h5 z hz
        · rw [List.mem_singleton.mp hz]; exact ⟨x, hm, py⟩⟩
    | false =>
      rw [if_neg Bool.false_ne_true] at w2 ⊢
      obtain ⟨hh, fr⟩ := w2
      exact ⟨hh.mono (by omega), h2.trans fr, fr.get (by omega) h3, by omega, h5⟩
  · exact q acc m h5 h4 h3 h1 h2
/-- a comprehension that draws, without a test -/
theorem wp_lcDY {Q : D → Mu → Prop} {fi : Im} {g : Gm} {fe : Sm} {vs : List Nat} {env : Env} {μ : Mu} {l : Nat} {N c : Int} {P : D → D → Prop} (h : wp (fi env μ) fun it μ1 => ∃ xs : List D, Still it xs ∧ xs.length < 1000000 ∧ Hand N l μ1 ∧ 0 ≤ c ∧ c * xs.length ≤ N ∧
    (∀ x ∈ xs, ∀ m M, Hand M l m → c ≤ M → Fr l μ1 m → wp (g x (wipeE env vs) m) fun e1 m2 => wp (fe e1 m2) fun y m3 => P x y ∧ Hand (M - c) l m3 ∧ Fr l m m3) ∧
    (∀ ys m, (∀ y ∈ ys, ∃ x ∈ xs, P x y) → ys.length = xs.length → m[μ1.length]? = some (.lst ys) → Hand (N - c * xs.length) l m → Fr l μ1 m → Q (.ref μ1.length) m)) : wp (lcE fi g yesT fe vs env μ) Q := by
  obtain ⟨it, μ1, e1, xs, hS, hz, hH, hc, hN, hs, q⟩ := h
  have hl := hH.lt
  refine wp_lc ⟨_, μ1, e1, xs, hS.fuel, hz, fun i m acc => Hand (N - c * i) l m ∧ Fr l μ1 m ∧ m[μ1.length]? = some (.lst acc) ∧ acc.length = i ∧ (∀ y ∈ acc, ∃ x ∈ xs, P x y), ⟨(hH.push _).mono (by simp), Fr.refl.push _, get_last _ _, rfl, fun y hy => nomatch hy⟩, fun i m acc _ => hS.item i m, fun i m acc ⟨_, _, h3, h4, _⟩ => ⟨h3, by omega⟩, fun i x m acc hx ⟨h1, h2, h3, h4, h5⟩ => ?_, fun m acc ⟨h1, h2, h3, h4, h5⟩ => ?_⟩
  · have hm := List.mem_of_getElem? hx
    have hlt := (List.getElem?_eq_some_iff.mp hx).1
    have hle : c * ((i : Int) + 1) ≤ c * (xs.length : Int) := Int.mul_le_mul_of_nonneg_left (by omega) hc
    have hex : c * ((i : Int) + 1) = c * i + c := by rw [Int.mul_add, Int.mul_one]
    have hex2 : c * (((i + 1 : Nat) : Int)) = c * i + c := by rw [Int.natCast_add, Int.mul_add]; simp
    refine wp_mono (hs x hm m _ h1 (by omega) h2) ?_
    intro e2 m1 w1
    refine wp_yes ?_
    rw [if_pos rfl]
    refine wp_mono w1 ?_
    rintro y m3 ⟨py, hh, fr⟩
    have k3 := fr.get (k := μ1.length) (by omega) h3
    exact ⟨k3, (hh.set (by omega) _).mono (by omega), (h2.trans fr).set (Nat.le_refl _) _, set_get k3, by simp; exact h4, fun z hz => by
      rcases List.mem_append.mp hz with hz | hz
      · exact h5 z hz
      · rw [List.mem_singleton.mp hz]; exact ⟨x, hm, py⟩⟩
  · exact q acc m h5 h4 h3 h1 h2
end CW

namespace Lw
open PySem L2 CW
local macro_rules | `(tactic| walk_at "w") => `(tactic| first
  | with_reducible refine ws_seq ?_ | with_reducible refine ws_asg ?_ | with_reducible refine ws_ret ?_ | with_reducible refine ws_drop ?_ | with_reducible refine ws_if ?_ | with_reducible refine ws_sk ?_
  | with_reducible refine wp_bin ?_ | with_reducible refine wp_v (by with_unfolding_all rfl) ?_ | with_reducible refine wp_c ?_ | with_reducible refine wp_tst ?_ | with_reducible refine wp_consA ?_ | with_reducible refine wp_nilA ?_
  | with_reducible refine wp_callE ?_ | with_reducible refine wp_nm ?_ | with_reducible refine wp_subG ?_ | with_reducible refine wp_tupE ?_ | with_reducible refine wp_lstE ?_ | with_reducible refine wp_andT ?_ | with_reducible refine wp_orT ?_ | with_reducible refine wp_notT ?_ | with_reducible refine wp_andV ?_ | with_reducible refine wp_orV ?_ | with_reducible refine wp_notV ?_ | with_reducible refine wp_isi ?_ | with_reducible refine wp_metE ?_
  | with_reducible refine wp_add ?_ | with_reducible refine wp_sub ?_ | with_reducible refine wp_gt ?_ | with_reducible refine wp_lt ?_ | with_reducible refine wp_ge ?_ | with_reducible refine wp_le ?_ | with_reducible refine wp_eqI ?_ | with_reducible refine wp_neI ?_
  | with_reducible refine ⟨_, rfl, ?_⟩ | with_reducible refine wp_slE ?_ | with_reducible refine wp_noP ?_ | with_reducible refine wp_somP ?_ | with_reducible refine wp_slF ?_ | with_reducible refine wp_slT ?_ | with_reducible refine wp_lenF ?_ | with_reducible refine wp_lenT ?_ | with_reducible refine wp_absB ?_ | with_reducible refine wp_yes ?_ | with_reducible refine wp_dctE ?_ | with_reducible refine wp_consP ?_ | with_reducible refine wp_nilP ?_ | with_reducible refine ws_put ?_)
local macro_rules | `(tactic| walk_at "e") => `(tactic| first
  | with_reducible exact ev_v (by with_unfolding_all rfl) | with_reducible exact ev_c | with_reducible apply ev_bin | with_reducible apply ev_orV | with_reducible apply ev_andV | with_reducible apply ev_notV | with_reducible apply ev_tup | with_reducible apply ev_call
  | with_reducible exact eva_nil | with_reducible apply eva_cons | with_reducible apply evs_ret | with_reducible apply evt_tst | with_reducible apply evt_and | with_reducible apply evt_or | with_reducible apply evt_not | with_reducible exact evt_yes | with_reducible apply ev_slT | with_reducible exact evp_no | with_reducible apply evp_som
  | with_reducible exact op_eqI | with_reducible exact op_ixT (by with_unfolding_all rfl) | with_reducible exact op_eqS (by first | assumption | decide +kernel) (by first | assumption | decide +kernel) | with_reducible exact op_eqIS (by first | assumption | decide +kernel) (by first | assumption | decide +kernel) | with_reducible exact pf_intB | with_reducible exact pf_len | (with_reducible intro _))
local macro_rules | `(tactic| walk_at "x") => `(tactic| first
  | with_reducible refine ws_seq ?_ | with_reducible refine ws_asg ?_ | with_reducible refine ws_ret ?_ | with_reducible refine ws_drop ?_ | with_reducible refine ws_if ?_ | with_reducible refine ws_sk ?_
  | with_reducible refine wp_bin ?_ | with_reducible refine wp_v (by with_unfolding_all rfl) ?_ | with_reducible refine wp_c ?_ | with_reducible refine wp_tst ?_ | with_reducible refine wp_consA ?_ | with_reducible refine wp_nilA ?_
  | with_reducible refine wp_callE ?_ | with_reducible refine wp_nm ?_ | with_reducible refine wp_subG ?_ | with_reducible refine wp_tupE ?_ | with_reducible refine wp_lstE ?_ | with_reducible refine wp_andT ?_ | with_reducible refine wp_orT ?_ | with_reducible refine wp_notT ?_ | with_reducible refine wp_andV ?_ | with_reducible refine wp_orV ?_ | with_reducible refine wp_notV ?_ | with_reducible refine wp_isi ?_ | with_reducible refine wp_metE ?_
  | with_reducible refine wp_add ?_ | with_reducible refine wp_sub ?_ | with_reducible refine wp_gt ?_ | with_reducible refine wp_lt ?_ | with_reducible refine wp_ge ?_ | with_reducible refine wp_le ?_ | with_reducible refine wp_eqI ?_ | with_reducible refine wp_neI ?_
  | with_reducible refine ⟨_, rfl, ?_⟩ | with_reducible refine wp_slE ?_ | with_reducible refine wp_noP ?_ | with_reducible refine wp_somP ?_ | with_reducible refine wp_slF ?_ | with_reducible refine wp_slT ?_ | with_reducible refine wp_lenF ?_ | with_reducible refine wp_lenT ?_ | with_reducible refine wp_absB ?_ | with_reducible refine wp_yes ?_ | with_reducible refine wp_dctE ?_ | with_reducible refine wp_consP ?_ | with_reducible refine wp_nilP ?_ | with_reducible refine ws_put ?_
  | with_reducible refine wp_ixT (by with_unfolding_all rfl) ?_ | with_reducible refine wp_tupGL rfl ?_ | with_reducible refine wp_consG ?_ | with_reducible refine wp_nilG ?_ | with_reducible refine wp_ifV ?_ | with_reducible refine wp_una ?_ | with_reducible refine ws_parL ?_)
def PatD (d : D) : Prop := d = .non ∨ ∃ vs : List Int, d = .tup (vs.map D.int) ∧ vs.length ≤ 16
def fitD : D → D → Bool
  | .non, _ => true
  | .tup xs, .int v => xs.any fun x => match x with
    | .int u => u == v
    | _ => false
  | _, _ => false
theorem ev_fits {p : D} {v : Int} (h : PatD p) : PF sm_fits [p, .int v] (.bl (fitD p (.int v))) := by
  rcases h with rfl | ⟨vs, rfl, _⟩
  · refine pf_def (np := 2) (n := 2) rfl ?_
    refine evs_ret (ev_to (ev_orV (a := true) (b := true) (ev_bin (ev_v rfl) ev_c op_isN) (fun h => nomatch h)) ?_)
    rfl
  · apply pf_def rfl
    refine evs_ret (ev_to (ev_orV (a := false) (ev_bin (ev_v rfl) ev_c op_isT) (fun _ => ev_bin (ev_v rfl) (ev_v rfl) (op_inI vs rfl))) ?_)
    simp only [fitD, List.any_map, Bool.false_or, Bool.false_xor, Bool.false_bne]
    rfl
def zfit (pats lines : List D) : Bool := (zipD pats lines).all fun z => match z with
  | .tup [p, l] => fitD p l
  | _ => false
def IntsD (ls : List D) : Prop := ∃ vs : List Int, ls = vs.map D.int
theorem IntsD.mem {ls : List D} (h : IntsD ls) {x : D} (hx : x ∈ ls) : ∃ v, x = .int v := by
  obtain ⟨vs, rfl⟩ := h
  obtain ⟨v, _, rfl⟩ := List.mem_map.mp hx
  exact ⟨v, rfl⟩
theorem ev_all_fit {pats lines : List D} (hp : ∀ p ∈ pats, PatD p) (hl : IntsD lines) : PF sm_all_fit [.tup pats, .tup lines] (.bl (zfit pats lines)) := by
  apply pf_def rfl
  apply evs_ret
  refine ev_to (ev_allGS (it := zipIt pats lines) (xs := zipD pats lines) (p := fun _ => true) (k := fun z => match z with
    | .tup [p, l] => fitD p l
    | _ => false) (e := fun z => match z with
    | .tup [p, l] => [some (.tup pats), some (.tup lines), some p, some l]
    | _ => []) (fun m => rfl) still_zip (fun z hz m => ?_) (fun z hz => evt_yes) (fun z hz _ => ?_)) ?_
  · obtain ⟨p, l, rfl, h1, h2, _⟩ := mem_zipD hz
    rfl
  · obtain ⟨p, l, rfl, h1, h2, _⟩ := mem_zipD hz
    obtain ⟨v, rfl⟩ := hl.mem h2
    exact ev_call (eva_cons (ev_v rfl) (eva_cons (ev_v rfl) eva_nil)) (ev_fits (hp p h1))
  · rw [List.filter_eq_self.mpr fun _ _ => rfl]; rfl
def soD (xs : List D) (night me hid : Int) : D → Bool
  | .str w => soB xs night me hid w
  | _ => false
def TestsD (ts : List D) : Prop := ∃ ws : List Str, ts = ws.map D.str ∧ (∀ w ∈ ws, w ∈ words12) ∧ ws.length ≤ 12
theorem TestsD.mem {ts : List D} (h : TestsD ts) {x : D} (hx : x ∈ ts) : ∃ w, x = .str w ∧ w ∈ words12 := by
  obtain ⟨vs, rfl, h2, _⟩ := h
  obtain ⟨v, h3, rfl⟩ := List.mem_map.mp hx
  exact ⟨v, rfl, h2 v h3⟩
section
variable {n night me hid : Int} {xs : List D}
theorem ev_are_so (hx : ∀ x ∈ xs, Call1 n x) {ts : List D} (ht : TestsD ts) : PF sm_are_so [.tup xs, .int night, .int me, .int hid, .tup ts] (.bl (ts.all (soD xs night me hid))) := by
  apply pf_def rfl
  apply evs_ret
  refine ev_to (ev_allG (xs := ts) (p := fun _ => true) (k := soD xs night me hid) (ev_v rfl) (fun x hm => evt_yes) (fun x hm _ => ?_)) ?_
  · obtain ⟨w, rfl, hw⟩ := ht.mem hm
    exact ev_call (eva_cons (ev_v rfl) (eva_cons (ev_v rfl) (eva_cons (ev_v rfl) (eva_cons (ev_v rfl) (eva_cons (ev_v rfl) eva_nil))))) (so_all hx w hw)
  · rw [List.filter_eq_self.mpr fun _ _ => rfl]; rfl
end
def wtab : List (Str × Nat) := (["comes", "rings", "shows", "busy", "shut", "talks", "ends", "waits", "holds", "backs", "dial"] : List Str).map (fun w => (w, 2)) ++ [(("sent" : Str), 3)] ++ (["take", "drop", "flash", "joins", "frees"] : List Str).map (fun w => (w, 1)) ++ (["wait", "turn", "night", "day", "done"] : List Str).map (fun w => (w, 0))
def wtabD : List D := wtab.map fun p => .tup [.str p.1, .int (p.2 : Nat)]
theorem wtab_fun : ∀ p ∈ wtab, ∀ q ∈ wtab, p.1 = q.1 → p.2 = q.2 := by decide +kernel
theorem wtab_ok : ∀ p ∈ wtab, PyData.strOk p.1 = true := by decide +kernel
theorem wtab_le : ∀ p ∈ wtab, p.2 ≤ 3 := by decide +kernel
def StD (d : D) : Prop := d = .non ∨ ∃ v, d = .int v
structure TRule (d : D) : Prop where
  ex : ∃ st w k pats tests aft, d = .tup [.int st, .str w, .tup pats, .tup tests, aft] ∧ (w, k) ∈ wtab ∧ pats.length = k ∧ (∀ p ∈ pats, PatD p) ∧ TestsD tests ∧ StD aft
structure TWish (d : D) : Prop where
  ex : ∃ me rules tale, d = .tup [.int me, rules, .tup tale] ∧ (∀ r ∈ tale, TRule r) ∧ tale.length ≤ 100
structure TEvent (d : D) : Prop where
  ex : ∃ w k lines hid, d = .tup [.str w, .tup lines, .int hid] ∧ (w, k) ∈ wtab ∧ lines.length = k ∧ IntsD lines
def stEq (st : Int) : D → Bool
  | .int s => st == s
  | _ => false
def rcond (xs : List D) (night me hid : Int) (state : D) (word : Str) (lines : List D) : D → Bool
  | .tup [.int st, .str w, .tup pats, .tup tests, _] => stEq st state && (w == word && (zfit pats lines && tests.all (soD xs night me hid)))
  | _ => false
def aftD : D → D
  | .tup [_, _, _, _, a] => a
  | _ => .non
/-- where a wish's tale goes -/
def sbD (xs : List D) (night : Int) (event wish state : D) : D := match event, wish with
  | .tup [.str word, .tup lines, .int hid], .tup [.int me, _, .tup tale] => ((tale.find? (rcond xs night me hid state word lines)).map aftD).getD state
  | _, _ => .non
theorem op_eqSt {st : Int} {s : D} (h : StD s) : OpV eqD (.int st) s (.bl (stEq st s)) := by
  rcases h with rfl | ⟨v, rfl⟩
  · exact fun m => rfl
  · exact op_eqI
section
variable {n night : Int} {xs : List D}
theorem ev_state_behind (hx : ∀ x ∈ xs, Call1 n x) {wish state event : D} (hw : TWish wish) (hs : StD state) (he : TEvent event) : PF sm_state_behind [wish, state, .tup xs, .int night, event] (sbD xs night event wish state) := by
  obtain ⟨me, rules, tale, rfl, hr, _⟩ := hw.ex
  obtain ⟨w, k, lines, hid, rfl, hwk, hlen, hli⟩ := he.ex
  apply pf_def rfl
  refine evs_nx (env1 := [some (.tup [.int me, rules, .tup tale]), some state, some (.tup xs), some (.int night), some (.tup [.str w, .tup lines, .int hid]), none, some (.str w), some (.tup lines), some (.int hid), none, none, none]) (fun m => rfl) ?_
  refine evs_nx (env1 := [some (.tup [.int me, rules, .tup tale]), some state, some (.tup xs), some (.int night), some (.tup [.str w, .tup lines, .int hid]), none, some (.str w), some (.tup lines), some (.int hid), some (.int me), some rules, some (.tup tale)]) (fun m => rfl) ?_
  show EvS _ _ (.rt (((tale.find? (rcond xs night me hid state w lines)).map aftD).getD state))
  refine evs_findG (xs := tale) (ev_v rfl) (fun x hm => ?_) (fun x hm hp => ?_) (fun x => evs_ret (ev_v rfl)) (evs_ret (ev_v rfl))
  · obtain ⟨st, w2, k2, pats, tests, aft, rfl, hwk2, hlen2, hpat, htst, _⟩ := (hr x hm).ex
    refine evt_and (evt_tst (ev_bin (ev_bin (ev_v rfl) ev_c (op_ixT rfl)) (ev_v rfl) (op_eqSt hs))) fun _ => ?_
    refine evt_and (evt_tst (ev_bin (ev_bin (ev_v rfl) ev_c (op_ixT rfl)) (ev_v rfl) (op_eqS (wtab_ok _ hwk2) (wtab_ok _ hwk)))) fun _ => ?_
    refine evt_and (evt_tst (ev_call (eva_cons (ev_bin (ev_v rfl) ev_c (op_ixT rfl)) (eva_cons (ev_v rfl) eva_nil)) (ev_all_fit hpat hli))) fun _ => ?_
    exact evt_tst (ev_call (eva_cons (ev_v rfl) (eva_cons (ev_v rfl) (eva_cons (ev_v rfl) (eva_cons (ev_v rfl) (eva_cons (ev_bin (ev_v rfl) ev_c (op_ixT rfl)) eva_nil))))) (ev_are_so hx htst))
  · obtain ⟨st, w2, k2, pats, tests, aft, rfl, _⟩ := (hr x hm).ex
    exact ev_bin (ev_v rfl) ev_c (op_ixT rfl)
def toD (xs : List D) (night : Int) (event : D) : D → D
  | .tup [w, s] => sbD xs night event w s
  | _ => .non
theorem ev_told_on (hx : ∀ x ∈ xs, Call1 n x) {nD dD event : D} {wishes tales : List D} (hw : ∀ w ∈ wishes, TWish w) (hs : ∀ s ∈ tales, StD s) (he : TEvent event) (hl : wishes.length ≤ 1000) : PF sm_told_on [.tup [nD, .tup wishes, dD], .tup tales, .tup xs, .int night, event] (.tup ((zipD wishes tales).map (toD xs night event))) := by
  apply pf_def rfl
  apply evs_ret
  have hz : (zipD wishes tales).length ≤ 1000000 := by unfold zipD; rw [List.length_map, List.length_zip]; omega
  refine ev_to (ev_tupGS (it := zipIt wishes tales) (xs := zipD wishes tales) (p := fun _ => true) (k := toD xs night event) (e := fun z => match z with
    | .tup [w, s] => [some (.tup [nD, .tup wishes, dD]), some (.tup tales), some (.tup xs), some (.int night), some event, some w, some s]
    | _ => []) (fun m => rfl) still_zip (fun z hz m => ?_) (fun z hz => evt_yes) (fun z hz _ => ?_) hz) ?_
  · obtain ⟨p, l, rfl, h1, h2, _⟩ := mem_zipD hz
    rfl
  · obtain ⟨p, l, rfl, h1, h2, _⟩ := mem_zipD hz
    exact ev_call (eva_cons (ev_v rfl) (eva_cons (ev_v rfl) (eva_cons (ev_v rfl) (eva_cons (ev_v rfl) (eva_cons (ev_v rfl) eva_nil))))) (ev_state_behind hx (hw p h1) (hs l h2) he)
  · rw [List.filter_eq_self.mpr fun _ _ => rfl]
theorem sb_st {event wish state : D} (hw : TWish wish) (hs : StD state) (he : TEvent event) : StD (sbD xs night event wish state) := by
  obtain ⟨me, rules, tale, rfl, hr, _⟩ := hw.ex
  obtain ⟨w, k, lines, hid, rfl, hwk, hlen, hli⟩ := he.ex
  unfold sbD
  simp only
  cases h : tale.find? (rcond xs night me hid state w lines) with
  | none => exact hs
  | some r =>
    obtain ⟨st, w2, k2, pats, tests, aft, rfl, _, _, _, _, ha⟩ := (hr r (List.mem_of_find?_eq_some h)).ex
    exact ha
end
end Lw

namespace Lw
open PySem L2 CW
local macro_rules | `(tactic| walk_at "w") => `(tactic| first
  | with_reducible refine ws_seq ?_ | with_reducible refine ws_asg ?_ | with_reducible refine ws_ret ?_ | with_reducible refine ws_drop ?_ | with_reducible refine ws_if ?_ | with_reducible refine ws_sk ?_
  | with_reducible refine wp_bin ?_ | with_reducible refine wp_v (by with_unfolding_all rfl) ?_ | with_reducible refine wp_c ?_ | with_reducible refine wp_tst ?_ | with_reducible refine wp_consA ?_ | with_reducible refine wp_nilA ?_
  | with_reducible refine wp_callE ?_ | with_reducible refine wp_nm ?_ | with_reducible refine wp_subG ?_ | with_reducible refine wp_tupE ?_ | with_reducible refine wp_lstE ?_ | with_reducible refine wp_andT ?_ | with_reducible refine wp_orT ?_ | with_reducible refine wp_notT ?_ | with_reducible refine wp_andV ?_ | with_reducible refine wp_orV ?_ | with_reducible refine wp_notV ?_ | with_reducible refine wp_isi ?_ | with_reducible refine wp_metE ?_
  | with_reducible refine wp_add ?_ | with_reducible refine wp_sub ?_ | with_reducible refine wp_gt ?_ | with_reducible refine wp_lt ?_ | with_reducible refine wp_ge ?_ | with_reducible refine wp_le ?_ | with_reducible refine wp_eqI ?_ | with_reducible refine wp_neI ?_
  | with_reducible refine ⟨_, rfl, ?_⟩ | with_reducible refine wp_slE ?_ | with_reducible refine wp_noP ?_ | with_reducible refine wp_somP ?_ | with_reducible refine wp_slF ?_ | with_reducible refine wp_slT ?_ | with_reducible refine wp_lenF ?_ | with_reducible refine wp_lenT ?_ | with_reducible refine wp_absB ?_ | with_reducible refine wp_yes ?_ | with_reducible refine wp_dctE ?_ | with_reducible refine wp_consP ?_ | with_reducible refine wp_nilP ?_ | with_reducible refine ws_put ?_)
local macro_rules | `(tactic| walk_at "e") => `(tactic| first
  | with_reducible exact ev_v (by with_unfolding_all rfl) | with_reducible exact ev_c | with_reducible apply ev_bin | with_reducible apply ev_orV | with_reducible apply ev_andV | with_reducible apply ev_notV | with_reducible apply ev_tup | with_reducible apply ev_call
  | with_reducible exact eva_nil | with_reducible apply eva_cons | with_reducible apply evs_ret | with_reducible apply evt_tst | with_reducible apply evt_and | with_reducible apply evt_or | with_reducible apply evt_not | with_reducible exact evt_yes | with_reducible apply ev_slT | with_reducible exact evp_no | with_reducible apply evp_som
  | with_reducible exact op_eqI | with_reducible exact op_ixT (by with_unfolding_all rfl) | with_reducible exact op_eqS (by first | assumption | decide +kernel) (by first | assumption | decide +kernel) | with_reducible exact op_eqIS (by first | assumption | decide +kernel) (by first | assumption | decide +kernel) | with_reducible exact pf_intB | with_reducible exact pf_len | (with_reducible intro _))
local macro_rules | `(tactic| walk_at "x") => `(tactic| first
  | with_reducible refine ws_seq ?_ | with_reducible refine ws_asg ?_ | with_reducible refine ws_ret ?_ | with_reducible refine ws_drop ?_ | with_reducible refine ws_if ?_ | with_reducible refine ws_sk ?_
  | with_reducible refine wp_bin ?_ | with_reducible refine wp_v (by with_unfolding_all rfl) ?_ | with_reducible refine wp_c ?_ | with_reducible refine wp_tst ?_ | with_reducible refine wp_consA ?_ | with_reducible refine wp_nilA ?_
  | with_reducible refine wp_callE ?_ | with_reducible refine wp_nm ?_ | with_reducible refine wp_subG ?_ | with_reducible refine wp_tupE ?_ | with_reducible refine wp_lstE ?_ | with_reducible refine wp_andT ?_ | with_reducible refine wp_orT ?_ | with_reducible refine wp_notT ?_ | with_reducible refine wp_andV ?_ | with_reducible refine wp_orV ?_ | with_reducible refine wp_notV ?_ | with_reducible refine wp_isi ?_ | with_reducible refine wp_metE ?_
  | with_reducible refine wp_add ?_ | with_reducible refine wp_sub ?_ | with_reducible refine wp_gt ?_ | with_reducible refine wp_lt ?_ | with_reducible refine wp_ge ?_ | with_reducible refine wp_le ?_ | with_reducible refine wp_eqI ?_ | with_reducible refine wp_neI ?_
  | with_reducible refine ⟨_, rfl, ?_⟩ | with_reducible refine wp_slE ?_ | with_reducible refine wp_noP ?_ | with_reducible refine wp_somP ?_ | with_reducible refine wp_slF ?_ | with_reducible refine wp_slT ?_ | with_reducible refine wp_lenF ?_ | with_reducible refine wp_lenT ?_ | with_reducible refine wp_absB ?_ | with_reducible refine wp_yes ?_ | with_reducible refine wp_dctE ?_ | with_reducible refine wp_consP ?_ | with_reducible refine wp_nilP ?_ | with_reducible refine ws_put ?_
  | with_reducible refine wp_ixT (by with_unfolding_all rfl) ?_ | with_reducible refine wp_tupGL rfl ?_ | with_reducible refine wp_consG ?_ | with_reducible refine wp_nilG ?_ | with_reducible refine wp_ifV ?_ | with_reducible refine wp_una ?_ | with_reducible refine ws_parL ?_)
section
variable {N n : Int} {l : Nat} {μ : Mu}
theorem pattern_spec (h : Hand N l μ) (hN : 10 ≤ N) (h2 : 2 ≤ n) (h4 : n ≤ 4) : wp (sm_L_pattern [.ref l, .int n] μ) fun r m => PatD r ∧ Hand (N - 10) l m ∧ Fr l μ m := by
  refine wp_def rfl ?_
  repeat walk_at "x"
  refine drawF h (by omega) (by decide) (by decide) fun v m1 v0 v1 hm1 f1 e1 => ?_
  repeat walk_at "x"
  refine ite2 (fun hv => ?_) (fun hv => ?_)
  · repeat walk_at "x"
    exact ⟨.inl rfl, hm1.mono (by omega), f1⟩
  · repeat walk_at "x"
    refine drawF hm1 (by omega) (by omega) (by omega) fun w m2 w0 w1 hm2 f2 e2 => ?_
    repeat walk_at "x"
    refine wp_lcD (l := l) (N := N - 1 - 1) (c := 1) (P := fun x y => y = x) (wp_rng1 ?_)
    repeat walk_at "x"
    refine ⟨by omega, by omega, _, still_fix, by simp; omega, hm2, by decide, by simp; omega, ?_, ?_⟩
    · intro x hx m M hM cM fr
      obtain ⟨k, rfl, k0, k1⟩ := rng_mem hx
      repeat walk_at "x"
      refine ite2 (fun hc => ?_) (fun hc => ?_)
      · refine iteT ?_
        repeat walk_at "x"
        exact ⟨rfl, hM.mono (by omega), Fr.refl⟩
      · repeat walk_at "x"
        refine drawF hM (by omega) (by decide) (by decide) fun u m3 u0 u1 hm3 f3 e3 => ?_
        repeat walk_at "x"
        refine ite2 (fun hc => ?_) (fun hc => ?_)
        · repeat walk_at "x"
          exact ⟨rfl, hm3.mono (by omega), f3⟩
        · exact ⟨hm3.mono (by omega), f3⟩
    · intro ys m hy hlen hcell hh fr
      repeat walk_at "x"
      refine wp_tupL hcell ?_
      obtain ⟨vs, rfl, hvl⟩ := ints_of (ys := ys) fun y hy' => by
        obtain ⟨x, hx, rfl⟩ := hy y hy'
        obtain ⟨k, rfl, _, _⟩ := rng_mem hx
        exact ⟨k, rfl⟩
      simp only [List.length_map, List.length_range] at hh hlen
      exact ⟨.inr ⟨vs, rfl, by omega⟩, hh.mono (by omega), (f1.trans f2).trans fr⟩
theorem words12_ok : ∀ w ∈ words12, PyData.strOk w = true := by decide +kernel
theorem tests_spec (h : Hand N l μ) (hN : 10 ≤ N) : wp (sm_L_tests [.ref l] μ) fun r m => (∃ ts, r = .tup ts ∧ TestsD ts) ∧ Hand (N - 10) l m ∧ Fr l μ m := by
  have hl := h.lt
  refine wp_def rfl ?_
  repeat walk_at "x"
  refine drawF ((h.push _).push _) (by omega) (by decide) (by decide) fun v m1 v0 v1 hm1 f1 e1 => ?_
  have c0 : (μ ++ [Cell.lst (words12.map D.str)])[μ.length]? = some (.lst (words12.map D.str)) := get_last _ _
  have c1 := f1.get (k := μ.length) (by omega) (get_old c0)
  have c2 := f1.get (k := (μ ++ [Cell.lst (words12.map D.str)]).length) (by simp; omega) (get_last _ _)
  obtain ⟨d, ed, hd⟩ := ix_mem (xs := [D.int 0, .int 0, .int 0, .int 1, .int 1, .int 1, .int 2, .int 3]) v0 (by simpa using v1)
  have hd' : ∃ j : Int, d = .int j ∧ 0 ≤ j ∧ j ≤ 3 := by
    simp only [List.mem_cons, List.not_mem_nil, or_false] at hd
    rcases hd with rfl | rfl | rfl | rfl | rfl | rfl | rfl | rfl <;> exact ⟨_, rfl, by decide, by decide⟩
  obtain ⟨j, rfl, j0, j3⟩ := hd'
  refine wp_ixL c2 ed ?_
  repeat walk_at "x"
  have fa : Fr l μ m1 := ((Fr.refl.push _).push _).trans f1
  refine wp_lcDY (l := l) (N := N - 1) (c := 1) (P := fun x y => ∃ w, y = .str w ∧ w ∈ words12) (wp_rng1 ?_)
  repeat walk_at "x"
  refine ⟨by omega, by omega, _, still_fix, by simp; omega, hm1, by decide, by simp; omega, ?_, ?_⟩
  · intro x hx m M hM cM fr
    repeat walk_at "x"
    refine drawF hM (by omega) (by decide) (by decide) fun u m3 u0 u1 hm3 f3 e3 => ?_
    have c3 := (fr.trans f3).get (k := μ.length) (by omega) c1
    obtain ⟨d, ed, hd⟩ := ix_mem (xs := words12.map D.str) u0 (by simpa [words12] using u1)
    obtain ⟨w, hw, rfl⟩ := List.mem_map.mp hd
    exact wp_ixL c3 ed ⟨⟨w, rfl, hw⟩, hm3, f3⟩
  · intro ys m hy hlen hcell hh fr
    have c4 := fr.get (k := μ.length) (by omega) c1
    obtain ⟨ws, rfl, hws, hwl⟩ := strs_of (S := words12) (ys := ys) fun y hy' => by
      obtain ⟨_, _, h⟩ := hy y hy'
      exact h
    repeat walk_at "x"
    refine wp_lcE (p := fun d => match d with
      | .str w => ws.any fun y => y == w
      | _ => false) (k := id) (wp_seqIL ?_)
    repeat walk_at "x"
    refine ⟨_, words12.map D.str, rfl, c4, words12.map D.str, rfl, fun i m' g => lst_item (g.get c4) i, by decide, fun x hx m' g => ?_, fun m' g hc => ?_⟩
    · obtain ⟨w, hw, rfl⟩ := List.mem_map.mp hx
      refine wp_nm ⟨Gr.refl, egt_tst (eg_bin (eg_v rfl) (eg_v rfl) fun m2 g2 => ?_), fun _ => eg_v rfl⟩
      refine wp_inLS (g2.get hcell) (words12_ok w hw) (fun y hy => words12_ok y (hws y hy)) ⟨?_, Gr.refl⟩
      simp
    · repeat walk_at "x"
      refine wp_tupL hc ?_
      simp only [List.length_map, List.length_range] at hh hlen
      refine ⟨⟨_, rfl, ?_⟩, (hh.gr g).mono (by omega), (fa.trans fr).trans g.fr⟩
      rw [List.map_id, List.filter_map]
      refine ⟨_, rfl, fun w hw => (List.mem_filter.mp hw).1, ?_⟩
      exact Nat.le_trans (List.length_filter_le _ _) (by decide)
theorem words_spec : wp (sm_L_words [] μ) fun r m => ∃ k, r = .ref k ∧ m[k]? = some (.lst wtabD) ∧ Gr μ m ∧ μ.length ≤ k := by
  refine wp_def rfl ?_
  repeat walk_at "x"
  refine wp_lcE (p := fun _ => true) (k := fun d => .tup [d, .int 2]) (wp_seqIL ?_)
  repeat walk_at "x"
  refine ⟨_, _, rfl, get_last _ _, _, rfl, fun i m' g => lst_item (g.get (get_last _ _)) i, by decide, fun x hx m' g => ?_, fun m g hc => ?_⟩
  · refine wp_nm ⟨Gr.refl, egt_yes, fun _ => eg_tup (ega_cons (eg_v rfl) (ega_cons eg_c ega_nil))⟩
  repeat walk_at "x"
  have g0 : Gr μ m := (Gr.refl.push _).trans g
  refine wp_catL (get_old hc) (get_last _ _) (by decide) ?_
  repeat walk_at "x"
  refine wp_lcE (p := fun _ => true) (k := fun d => .tup [d, .int 1]) (wp_seqIL ?_)
  repeat walk_at "x"
  refine ⟨_, _, rfl, get_last _ _, _, rfl, fun i m' g => lst_item (g.get (get_last _ _)) i, by decide, fun x hx m' g => ?_, fun m2 g2 hc2 => ?_⟩
  · refine wp_nm ⟨Gr.refl, egt_yes, fun _ => eg_tup (ega_cons (eg_v rfl) (ega_cons eg_c ega_nil))⟩
  refine wp_catL (g2.get (get_old (get_last _ _))) hc2 (by decide) ?_
  repeat walk_at "x"
  refine wp_lcE (p := fun _ => true) (k := fun d => .tup [d, .int 0]) (wp_seqIL ?_)
  repeat walk_at "x"
  refine ⟨_, _, rfl, get_last _ _, _, rfl, fun i m' g => lst_item (g.get (get_last _ _)) i, by decide, fun x hx m' g => ?_, fun m3 g3 hc3 => ?_⟩
  · refine wp_nm ⟨Gr.refl, egt_yes, fun _ => eg_tup (ega_cons (eg_v rfl) (ega_cons eg_c ega_nil))⟩
  refine wp_catL (g3.get (get_old (get_last _ _))) hc3 (by decide) ?_
  have gA : Gr μ m3 := (((((g0.push _).push _).push _).trans g2).push _ |>.push _).trans g3
  refine ⟨_, rfl, ?_, gA.push _, gA.len⟩
  rw [get_last]; rfl
end
end Lw

namespace Lw
open PySem L2 CW
local macro_rules | `(tactic| walk_at "w") => `(tactic| first
  | with_reducible refine ws_seq ?_ | with_reducible refine ws_asg ?_ | with_reducible refine ws_ret ?_ | with_reducible refine ws_drop ?_ | with_reducible refine ws_if ?_ | with_reducible refine ws_sk ?_
  | with_reducible refine wp_bin ?_ | with_reducible refine wp_v (by with_unfolding_all rfl) ?_ | with_reducible refine wp_c ?_ | with_reducible refine wp_tst ?_ | with_reducible refine wp_consA ?_ | with_reducible refine wp_nilA ?_
  | with_reducible refine wp_callE ?_ | with_reducible refine wp_nm ?_ | with_reducible refine wp_subG ?_ | with_reducible refine wp_tupE ?_ | with_reducible refine wp_lstE ?_ | with_reducible refine wp_andT ?_ | with_reducible refine wp_orT ?_ | with_reducible refine wp_notT ?_ | with_reducible refine wp_andV ?_ | with_reducible refine wp_orV ?_ | with_reducible refine wp_notV ?_ | with_reducible refine wp_isi ?_ | with_reducible refine wp_metE ?_
  | with_reducible refine wp_add ?_ | with_reducible refine wp_sub ?_ | with_reducible refine wp_gt ?_ | with_reducible refine wp_lt ?_ | with_reducible refine wp_ge ?_ | with_reducible refine wp_le ?_ | with_reducible refine wp_eqI ?_ | with_reducible refine wp_neI ?_
  | with_reducible refine ⟨_, rfl, ?_⟩ | with_reducible refine wp_slE ?_ | with_reducible refine wp_noP ?_ | with_reducible refine wp_somP ?_ | with_reducible refine wp_slF ?_ | with_reducible refine wp_slT ?_ | with_reducible refine wp_lenF ?_ | with_reducible refine wp_lenT ?_ | with_reducible refine wp_absB ?_ | with_reducible refine wp_yes ?_ | with_reducible refine wp_dctE ?_ | with_reducible refine wp_consP ?_ | with_reducible refine wp_nilP ?_ | with_reducible refine ws_put ?_)
local macro_rules | `(tactic| walk_at "e") => `(tactic| first
  | with_reducible exact ev_v (by with_unfolding_all rfl) | with_reducible exact ev_c | with_reducible apply ev_bin | with_reducible apply ev_orV | with_reducible apply ev_andV | with_reducible apply ev_notV | with_reducible apply ev_tup | with_reducible apply ev_call
  | with_reducible exact eva_nil | with_reducible apply eva_cons | with_reducible apply evs_ret | with_reducible apply evt_tst | with_reducible apply evt_and | with_reducible apply evt_or | with_reducible apply evt_not | with_reducible exact evt_yes | with_reducible apply ev_slT | with_reducible exact evp_no | with_reducible apply evp_som
  | with_reducible exact op_eqI | with_reducible exact op_ixT (by with_unfolding_all rfl) | with_reducible exact op_eqS (by first | assumption | decide +kernel) (by first | assumption | decide +kernel) | with_reducible exact op_eqIS (by first | assumption | decide +kernel) (by first | assumption | decide +kernel) | with_reducible exact pf_intB | with_reducible exact pf_len | (with_reducible intro _))
local macro_rules | `(tactic| walk_at "x") => `(tactic| first
  | with_reducible refine ws_seq ?_ | with_reducible refine ws_asg ?_ | with_reducible refine ws_ret ?_ | with_reducible refine ws_drop ?_ | with_reducible refine ws_if ?_ | with_reducible refine ws_sk ?_
  | with_reducible refine wp_bin ?_ | with_reducible refine wp_v (by with_unfolding_all rfl) ?_ | with_reducible refine wp_c ?_ | with_reducible refine wp_tst ?_ | with_reducible refine wp_consA ?_ | with_reducible refine wp_nilA ?_
  | with_reducible refine wp_callE ?_ | with_reducible refine wp_nm ?_ | with_reducible refine wp_subG ?_ | with_reducible refine wp_tupE ?_ | with_reducible refine wp_lstE ?_ | with_reducible refine wp_andT ?_ | with_reducible refine wp_orT ?_ | with_reducible refine wp_notT ?_ | with_reducible refine wp_andV ?_ | with_reducible refine wp_orV ?_ | with_reducible refine wp_notV ?_ | with_reducible refine wp_isi ?_ | with_reducible refine wp_metE ?_
  | with_reducible refine wp_add ?_ | with_reducible refine wp_sub ?_ | with_reducible refine wp_gt ?_ | with_reducible refine wp_lt ?_ | with_reducible refine wp_ge ?_ | with_reducible refine wp_le ?_ | with_reducible refine wp_eqI ?_ | with_reducible refine wp_neI ?_
  | with_reducible refine ⟨_, rfl, ?_⟩ | with_reducible refine wp_slE ?_ | with_reducible refine wp_noP ?_ | with_reducible refine wp_somP ?_ | with_reducible refine wp_slF ?_ | with_reducible refine wp_slT ?_ | with_reducible refine wp_lenF ?_ | with_reducible refine wp_lenT ?_ | with_reducible refine wp_absB ?_ | with_reducible refine wp_yes ?_ | with_reducible refine wp_dctE ?_ | with_reducible refine wp_consP ?_ | with_reducible refine wp_nilP ?_ | with_reducible refine ws_put ?_
  | with_reducible refine wp_ixT (by with_unfolding_all rfl) ?_ | with_reducible refine wp_tupGL rfl ?_ | with_reducible refine wp_consG ?_ | with_reducible refine wp_nilG ?_ | with_reducible refine wp_ifV ?_ | with_reducible refine wp_una ?_ | with_reducible refine ws_parL ?_)
section
variable {N n s : Int} {l : Nat} {μ : Mu}
theorem pigeon : ∀ (k : Nat) (vs : List Int), vs.length < k → ∃ z : Nat, z < k ∧ (z : Int) ∉ vs
  | 0, vs, h => by omega
  | k + 1, vs, h => by
    by_cases hk : (k : Int) ∈ vs
    · have he := List.length_erase_of_mem hk
      obtain ⟨z, hz, hnz⟩ := pigeon k (vs.erase (k : Int)) (by have := List.length_pos_of_mem hk; omega)
      exact ⟨z, by omega, fun h => hnz ((List.mem_erase_of_ne (by omega)).mpr h)⟩
    · exact ⟨k, by omega, hk⟩
theorem mem_wtabD {d : D} (h : d ∈ wtabD) : ∃ w k, d = .tup [.str w, .int (k : Nat)] ∧ (w, k) ∈ wtab := by
  obtain ⟨p, hp, rfl⟩ := List.mem_map.mp h
  exact ⟨p.1, p.2, rfl, hp⟩
theorem pick22 {v u : Int} (v0 : 0 ≤ v) (v1 : v < 22) (u0 : 0 ≤ u) (u1 : u < 4) : ∃ j : Int, atI [D.int v, .int 0, .int 1, .int 5] u = some (.int j) ∧ 0 ≤ j ∧ j < 22 := by
  obtain ⟨d, ed, hd⟩ := ix_mem (xs := [D.int v, .int 0, .int 1, .int 5]) u0 (by simpa using u1)
  simp only [List.mem_cons, List.not_mem_nil, or_false] at hd
  rcases hd with rfl | rfl | rfl | rfl
  · exact ⟨_, ed, v0, v1⟩
  all_goals exact ⟨_, ed, by decide, by decide⟩
theorem tale_rule_spec (h : Hand N l μ) (hN : 60 ≤ N) (h2 : 2 ≤ n) (h4 : n ≤ 4) (s1 : 1 ≤ s) (s8 : s ≤ 8) : wp (sm_L_tale_rule [.ref l, .int n, .int s] μ) fun r m => TRule r ∧ Hand (N - 60) l m ∧ Fr l μ m := by
  have hl := h.lt
  refine wp_def rfl ?_
  repeat walk_at "x"
  refine wp_mono words_spec ?_
  rintro r m ⟨k, rfl, ck, g, hk⟩
  have hm := h.gr g
  have lm := hm.lt
  repeat walk_at "x"
  refine drawF hm (by omega) (by decide) (by decide) fun v m1 v0 v1 hm1 f1 e1 => ?_
  repeat walk_at "x"
  refine drawF (hm1.push _) (by omega) (by decide) (by decide) fun u m2 u0 u1 hm2 f2 e2 => ?_
  obtain ⟨j, ej, j0, j1⟩ := pick22 v0 v1 u0 u1
  refine wp_ixL (f2.get (k := m1.length) (by omega) (get_last _ _)) ej ?_
  have ck2 := f2.get (k := k) (by omega) (get_old (c := Cell.lst [.int v, .int 0, .int 1, .int 5]) (f1.get (k := k) (by omega) ck))
  obtain ⟨d, ed, hd⟩ := ix_mem (xs := wtabD) j0 (by simpa [wtabD, wtab] using j1)
  obtain ⟨w, ar, rfl, hwa⟩ := mem_wtabD hd
  have har := wtab_le _ hwa
  refine wp_ixL ck2 ed ?_
  repeat walk_at "x"
  have fa : Fr l μ m2 := ((g.fr.trans f1).trans (Fr.refl.push _)).trans f2
  refine wp_lcDY (l := l) (N := N - 1 - 1) (c := 10) (P := fun x y => PatD y) (wp_rng1 ?_)
  repeat walk_at "x"
  simp only at har
  refine ⟨by omega, by omega, _, still_fix, by simp; omega, hm2, by decide, by simp; omega, ?_, ?_⟩
  · intro x hx m M hM cM fr
    repeat walk_at "x"
    exact pattern_spec hM cM h2 h4
  intro ys m3 hy hlen hcell hh fr
  repeat walk_at "x"
  refine wp_tupL hcell ?_
  simp only [List.length_map, List.length_range] at hh hlen
  have h3 : Hand (N - 32) l m3 := hh.mono (by omega)
  repeat walk_at "x"
  refine wp_mod (by omega) ?_
  repeat walk_at "x"
  refine drawF h3 (by omega) (by omega) (by omega) fun p m4 p0 p1 hm4 f4 e4 => ?_
  repeat walk_at "x"
  refine drawF hm4 (by omega) (by omega) (by omega) fun q m5 q0 q1 hm5 f5 e5 => ?_
  repeat walk_at "x"
  refine drawF (hm5.push _) (by omega) (by omega) (by omega) fun t m6 t0 t1 hm6 f6 e6 => ?_
  have l5 := hm5.lt
  obtain ⟨aft, ea, ha⟩ := ix_mem (xs := [D.non, .int 0, .int (1 % s), .int p, .int q]) t0 (by simpa using t1)
  have hst : StD aft := by
    simp only [List.mem_cons, List.not_mem_nil, or_false] at ha
    rcases ha with rfl | rfl | rfl | rfl | rfl
    · exact .inl rfl
    all_goals exact .inr ⟨_, rfl⟩
  refine wp_ixL (f6.get (k := m5.length) (by omega) (get_last _ _)) ea ?_
  repeat walk_at "x"
  refine drawF hm6 (by omega) (by omega) (by omega) fun st m7 st0 st1 hm7 f7 e7 => ?_
  repeat walk_at "x"
  refine wp_mono (tests_spec hm7 (by omega)) ?_
  rintro _ m8 ⟨⟨ts, rfl, hts⟩, hm8, f8⟩
  repeat walk_at "x"
  refine ⟨⟨st, w, ar, ys, ts, aft, rfl, hwa, by omega, fun p hp => by obtain ⟨_, _, h⟩ := hy p hp; exact h, hts, hst⟩, hm8.mono (by omega), ?_⟩
  exact (((((fa.trans fr).trans f4).trans f5).trans (Fr.refl.push _)).trans f6).trans (f7.trans f8)
def hidW : List Str := ["comes", "sent", "rings", "shows", "busy", "shut", "talks", "waits"]
theorem event_spec (h : Hand N l μ) (hN : 20 ≤ N) (h2 : 2 ≤ n) (h4 : n ≤ 4) : wp (sm_L_event [.ref l, .int n] μ) fun r m => TEvent r ∧ Hand (N - 20) l m ∧ Fr l μ m := by
  have hl := h.lt
  refine wp_def rfl ?_
  repeat walk_at "x"
  refine wp_mono words_spec ?_
  rintro r m ⟨k, rfl, ck, g, hk⟩
  have hm := h.gr g
  have lm := hm.lt
  repeat walk_at "x"
  refine drawF hm (by omega) (by decide) (by decide) fun v m1 v0 v1 hm1 f1 e1 => ?_
  repeat walk_at "x"
  refine drawF (hm1.push _) (by omega) (by decide) (by decide) fun u m2 u0 u1 hm2 f2 e2 => ?_
  obtain ⟨j, ej, j0, j1⟩ := pick22 v0 v1 u0 u1
  refine wp_ixL (f2.get (k := m1.length) (by omega) (get_last _ _)) ej ?_
  have ck2 := f2.get (k := k) (by omega) (get_old (c := Cell.lst [.int v, .int 0, .int 1, .int 5]) (f1.get (k := k) (by omega) ck))
  obtain ⟨d, ed, hd⟩ := ix_mem (xs := wtabD) j0 (by simpa [wtabD, wtab] using j1)
  obtain ⟨w0, ar0, rfl, hwa0⟩ := mem_wtabD hd
  refine wp_ixL ck2 ed ?_
  repeat walk_at "x"
  have fa : Fr l μ m2 := ((g.fr.trans f1).trans (Fr.refl.push _)).trans f2
  have rest : ∀ (w : Str) (ar : Nat), (w, ar) ∈ wtab → (ar : Int) ≤ n → ws (seqS (asgS (lstE nilA) (nmG 3))
      (seqS (forS (rng1 (consA (vD 7) nilA)) (nmG 4) (seqS (asgS (lcE (rng1 (consA (vD 1) nilA)) (nmG 9) (tst (CW.bin (inD true) (vD 9) (vD 3))) (vD 9) [9]) (nmG 8))
      (dropS (metE appM (lstRecv (vD 3)) (consA (CW.bin ixD (vD 8) (callE sm_L_take (consA (vD 0) (consA (callE lenB (consA (vD 8) nilA)) nilA)))) nilA)))))
      (seqS (asgS (cD (.int 0)) (nmG 5))
      (seqS (ifS (tst (CW.bin (inD false) (vD 6) (tupE (consA (cD (.str ("comes" : Str))) (consA (cD (.str ("sent" : Str))) (consA (cD (.str ("rings" : Str))) (consA (cD (.str ("shows" : Str))) (consA (cD (.str ("busy" : Str))) (consA (cD (.str ("shut" : Str))) (consA (cD (.str ("talks" : Str))) (consA (cD (.str ("waits" : Str))) nilA))))))))))) (asgS (callE sm_L_take (consA (vD 0) (consA (cD (.int 2)) nilA))) (nmG 5)) skS)
      (retS (tupE (consA (vD 6) (consA (callE tupB (consA (vD 3) nilA)) (consA (vD 5) nilA))))))))
      [some (.ref l), some (.int n), some (.ref k), none, none, none, some (.str w), some (.int ar), none, none] m2) (fun x μ1 => (fun r m => TEvent r ∧ Hand (N - 20) l m ∧ Fr l μ m) .non μ1) (fun r m => TEvent r ∧ Hand (N - 20) l m ∧ Fr l μ m) (fun _ _ => False) (fun _ _ => False) := by
    intro w ar hwa harn
    have har := wtab_le _ hwa
    simp only at har
    have l2 := hm2.lt
    repeat walk_at "x"
    refine ws_for_fix (wp_rng1 ?_)
    repeat walk_at "x"
    refine ⟨by omega, by omega, _, rfl, fun i e q => ∃ (x4 x8 x9 : Option D) (vs : List Int), e = [some (.ref l), some (.int n), some (.ref k), some (.ref m2.length), x4, none, some (.str w), some (.int ar), x8, x9] ∧ Hand (N - 2 - i) l q ∧ Fr l m2 q ∧ q[m2.length]? = some (.lst (vs.map D.int)) ∧ vs.length = i ∧ i ≤ ar, ?_, ?_, ?_⟩
    · exact ⟨_, _, _, [], rfl, (hm2.push _).mono (by omega), Fr.refl.push _, get_last _ _, rfl, Nat.zero_le _⟩
    · rintro i x e q hx ⟨x4, x8, x9, vs, rfl, hq, fq, cq, hvl, hi⟩
      have hi3 : i < ar := by
        have := (List.getElem?_eq_some_iff.mp hx).1
        simpa using this
      have lq := hq.lt
      have fl := fq.len
      repeat walk_at "x"
      refine wp_lcE (p := fun d => match d with
        | .int z => !vs.any fun y => y == z
        | _ => false) (k := id) (wp_rng1 ?_)
      repeat walk_at "x"
      refine ⟨by omega, by omega, _, rfl, fun i m _ => rfl, by simp; omega, fun y hy m' g' => ?_, fun q2 g2 hc2 => ?_⟩
      · obtain ⟨z, rfl, z0, z1⟩ := rng_mem hy
        refine wp_nm ⟨Gr.refl, egt_tst (eg_bin (eg_v rfl) (eg_v rfl) fun m3 g3 => ?_), fun _ => eg_v rfl⟩
        refine wp_inLI (ys := vs) (g3.get cq) ⟨?_, Gr.refl⟩
        simp
      · rw [List.map_id] at hc2
        have hq2 := hq.gr g2
        have hne : 0 < (((List.range n.toNat).map fun k : Nat => D.int (0 + k)).filter fun d => match d with
            | .int z => !vs.any fun y => y == z
            | _ => false).length := by
          rw [List.length_pos_iff_exists_mem]
          have hcard : ∃ z : Nat, z < n.toNat ∧ (z : Int) ∉ vs := by
            exact pigeon n.toNat vs (by omega)
          obtain ⟨z, hz, hnz⟩ := hcard
          refine ⟨.int (0 + z), List.mem_filter.mpr ⟨List.mem_map.mpr ⟨z, List.mem_range.mpr hz, rfl⟩, ?_⟩⟩
          simp only [Bool.not_eq_true', List.any_eq_false, beq_iff_eq]
          intro y hy e
          exact hnz (by rw [← show y = (z : Int) by omega]; exact hy)
        repeat walk_at "x"
        refine wp_lstRecv (l := 0) (xs := []) ?_
        repeat walk_at "x"
        refine ⟨_, vs.map D.int, rfl, g2.get cq, ?_⟩
        repeat walk_at "x"
        refine wp_lenL hc2 ?_
        repeat walk_at "x"
        have hle : (((List.range n.toNat).map fun k : Nat => D.int (0 + k)).filter fun d => match d with
            | .int z => !vs.any fun y => y == z
            | _ => false).length ≤ 4 := Nat.le_trans (List.length_filter_le _ _) (by simp; omega)
        refine drawF hq2 (by omega) (by omega) (by omega) fun z q3 z0 z1 hq3 f3 e3 => ?_
        obtain ⟨d, ed, hd⟩ := ix_mem z0 z1
        have lq2 := hq2.lt
        refine wp_ixL (f3.get (by omega) hc2) ed ?_
        repeat walk_at "x"
        obtain ⟨z, rfl, _, _⟩ := rng_mem (List.mem_filter.mp hd).1
        have cq3 := f3.get (k := m2.length) (by omega) (g2.get cq)
        refine wp_app cq3 (by simp; omega) ?_
        refine ⟨_, _, _, vs ++ [z], rfl, (hq3.set (by omega) _).mono (by omega), ((fq.trans g2.fr).trans f3).set (Nat.le_refl _) _, by rw [set_get cq3]; simp, by simp; omega, by omega⟩
    · rintro e q ⟨x4, x8, x9, vs, rfl, hq, fq, cq, hvl, hi⟩
      simp only [List.length_map, List.length_range] at hq hvl
      have lq := hq.lt
      repeat walk_at "x"
      refine wp_eq (op_inS hidW (wtab_ok _ hwa) (by decide +kernel) rfl q) ?_
      repeat walk_at "x"
      refine ite2 (fun _ => ?_) (fun _ => ?_)
      · repeat walk_at "x"
        refine drawF hq (by omega) (by decide) (by decide) fun z q3 z0 z1 hq3 f3 e3 => ?_
        repeat walk_at "x"
        refine wp_tupL (f3.get (by omega) cq) ?_
        repeat walk_at "x"
        exact ⟨⟨w, ar, _, z, rfl, hwa, by simp; omega, vs, rfl⟩, hq3.mono (by omega), (fa.trans fq).trans f3⟩
      · repeat walk_at "x"
        refine wp_tupL cq ?_
        repeat walk_at "x"
        exact ⟨⟨w, ar, _, 0, rfl, hwa, by simp; omega, vs, rfl⟩, hq.mono (by omega), fa.trans fq⟩
  refine ite2 (fun hc => ?_) (fun hc => ?_)
  · refine ws_asg ?_
    refine wp_tupE ?_
    refine wp_consA (wp_c ?_)
    refine wp_consA (wp_c ?_)
    refine wp_nilA ?_
    refine wp_tupGL rfl ?_
    refine wp_consG (wp_nm ?_)
    refine wp_consG (wp_nm ?_)
    refine wp_nilG ?_
    exact rest "rings" 2 (by decide +kernel) (by omega)
  · refine ws_sk ?_
    exact rest w0 ar0 hwa0 (by simpa using hc)
theorem told_house_spec {many : Int} (h : Hand N l μ) (hN : 9000 ≤ N) (h2 : 2 ≤ n) (h4 : n ≤ 4) (k0 : 0 ≤ many) (k8 : many ≤ 8) : wp (sm_L_told_house [.ref l, .int n, .int many] μ) fun r m => (∃ wishes, r = .tup [.int n, .tup wishes, .tup []] ∧ (∀ w ∈ wishes, TWish w) ∧ wishes.length = many.toNat) ∧ Hand (N - 9000) l m ∧ Fr l μ m := by
  have hl := h.lt
  refine wp_def rfl ?_
  repeat walk_at "x"
  refine ws_for_fix (wp_rng1 ?_)
  repeat walk_at "x"
  refine ⟨by omega, by omega, _, rfl, fun i e q => ∃ x4 x5 x6 x7 acc, e = [some (.ref l), some (.int n), some (.int many), some (.ref μ.length), x4, x5, x6, x7] ∧ Hand (N - 1000 * i) l q ∧ Fr l μ q ∧ q[μ.length]? = some (.lst acc) ∧ acc.length = i ∧ ∀ w ∈ acc, TWish w, ?_, ?_, ?_⟩
  · exact ⟨_, _, _, _, [], rfl, (h.push _).mono (by omega), Fr.refl.push _, get_last _ _, rfl, fun _ h => nomatch h⟩
  · rintro i x e q hx ⟨x4, x5, x6, x7, acc, rfl, hq, fq, cq, hal, hacc⟩
    have hi : i < many.toNat := by
      have := (List.getElem?_eq_some_iff.mp hx).1
      simpa using this
    repeat walk_at "x"
    refine drawF hq (by omega) (by decide) (by decide) fun s q1 s0 s1 hq1 f1 e1 => ?_
    repeat walk_at "x"
    refine wp_lcDY (l := l) (N := N - 1000 * i - 1 - 1) (c := 60) (P := fun x y => TRule y) (wp_rng1 ?_)
    repeat walk_at "x"
    refine drawF (hq1.push _) (by omega) (by decide) (by decide) fun u q2 u0 u1 hq2 f2 e2 => ?_
    have lq1 := hq1.lt
    obtain ⟨d, ed, hd⟩ := ix_mem (xs := [D.int 1, .int 2, .int 4, .int 8, .int 16, .int 0]) u0 (by simpa using u1)
    have hd' : ∃ j : Int, d = .int j ∧ 0 ≤ j ∧ j ≤ 16 := by
      simp only [List.mem_cons, List.not_mem_nil, or_false] at hd
      rcases hd with rfl | rfl | rfl | rfl | rfl | rfl <;> exact ⟨_, rfl, by decide, by decide⟩
    obtain ⟨j, rfl, j0, j16⟩ := hd'
    refine wp_ixL (f2.get (k := q1.length) (by omega) (get_last _ _)) ed ?_
    repeat walk_at "x"
    refine ⟨by omega, by omega, _, still_fix, by simp; omega, hq2, by decide, by simp; omega, ?_, ?_⟩
    · intro x hx m M hM cM fr
      repeat walk_at "x"
      exact tale_rule_spec hM cM h2 h4 (by omega) (by omega)
    intro ys q3 hy hlen hcell hh fr
    simp only [List.length_map, List.length_range] at hh hlen
    have f03 : Fr l q q3 := ((f1.trans (Fr.refl.push _)).trans f2).trans fr
    have hq3 : Hand (N - 1000 * i - 970) l q3 := hh.mono (by omega)
    repeat walk_at "x"
    refine wp_lstRecv (l := 0) (xs := []) ?_
    repeat walk_at "x"
    refine ⟨_, acc, rfl, f03.get (by omega) cq, ?_⟩
    repeat walk_at "x"
    refine drawF hq3 (by omega) (by omega) (by omega) fun me q4 me0 me1 hq4 f4 e4 => ?_
    have lq2 := hq2.lt
    have lq3 := hq3.lt
    repeat walk_at "x"
    refine wp_tupL (f4.get (by omega) hcell) ?_
    repeat walk_at "x"
    have cq4 := (f03.trans f4).get (k := μ.length) (by omega) cq
    refine wp_app cq4 (by omega) ?_
    refine ⟨_, _, _, _, _, rfl, (hq4.set (by omega) _).mono (by omega), ((fq.trans f03).trans f4).set (Nat.le_refl _) _, set_get cq4, by simp; omega, fun w hw => ?_⟩
    rcases List.mem_append.mp hw with hw | hw
    · exact hacc w hw
    · rw [List.mem_singleton.mp hw]
      exact ⟨me, _, ys, rfl, fun r hr => by obtain ⟨_, _, h⟩ := hy r hr; exact h, by omega⟩
  · rintro e q ⟨x4, x5, x6, x7, acc, rfl, hq, fq, cq, hal, hacc⟩
    simp only [List.length_map, List.length_range] at hq hal
    repeat walk_at "x"
    refine wp_tupL cq ?_
    repeat walk_at "x"
    exact ⟨⟨acc, rfl, hacc, hal⟩, hq.mono (by omega), fq⟩
end
end Lw

namespace Lw
open PySem L2 CW
local macro_rules | `(tactic| walk_at "w") => `(tactic| first
  | with_reducible refine ws_seq ?_ | with_reducible refine ws_asg ?_ | with_reducible refine ws_ret ?_ | with_reducible refine ws_drop ?_ | with_reducible refine ws_if ?_ | with_reducible refine ws_sk ?_
  | with_reducible refine wp_bin ?_ | with_reducible refine wp_v (by with_unfolding_all rfl) ?_ | with_reducible refine wp_c ?_ | with_reducible refine wp_tst ?_ | with_reducible refine wp_consA ?_ | with_reducible refine wp_nilA ?_
  | with_reducible refine wp_callE ?_ | with_reducible refine wp_nm ?_ | with_reducible refine wp_subG ?_ | with_reducible refine wp_tupE ?_ | with_reducible refine wp_lstE ?_ | with_reducible refine wp_andT ?_ | with_reducible refine wp_orT ?_ | with_reducible refine wp_notT ?_ | with_reducible refine wp_andV ?_ | with_reducible refine wp_orV ?_ | with_reducible refine wp_notV ?_ | with_reducible refine wp_isi ?_ | with_reducible refine wp_metE ?_
  | with_reducible refine wp_add ?_ | with_reducible refine wp_sub ?_ | with_reducible refine wp_gt ?_ | with_reducible refine wp_lt ?_ | with_reducible refine wp_ge ?_ | with_reducible refine wp_le ?_ | with_reducible refine wp_eqI ?_ | with_reducible refine wp_neI ?_
  | with_reducible refine ⟨_, rfl, ?_⟩ | with_reducible refine wp_slE ?_ | with_reducible refine wp_noP ?_ | with_reducible refine wp_somP ?_ | with_reducible refine wp_slF ?_ | with_reducible refine wp_slT ?_ | with_reducible refine wp_lenF ?_ | with_reducible refine wp_lenT ?_ | with_reducible refine wp_absB ?_ | with_reducible refine wp_yes ?_ | with_reducible refine wp_dctE ?_ | with_reducible refine wp_consP ?_ | with_reducible refine wp_nilP ?_ | with_reducible refine ws_put ?_)
local macro_rules | `(tactic| walk_at "e") => `(tactic| first
  | with_reducible exact ev_v (by with_unfolding_all rfl) | with_reducible exact ev_c | with_reducible apply ev_bin | with_reducible apply ev_orV | with_reducible apply ev_andV | with_reducible apply ev_notV | with_reducible apply ev_tup | with_reducible apply ev_call
  | with_reducible exact eva_nil | with_reducible apply eva_cons | with_reducible apply evs_ret | with_reducible apply evt_tst | with_reducible apply evt_and | with_reducible apply evt_or | with_reducible apply evt_not | with_reducible exact evt_yes | with_reducible apply ev_slT | with_reducible exact evp_no | with_reducible apply evp_som
  | with_reducible exact op_eqI | with_reducible exact op_ixT (by with_unfolding_all rfl) | with_reducible exact op_eqS (by first | assumption | decide +kernel) (by first | assumption | decide +kernel) | with_reducible exact op_eqIS (by first | assumption | decide +kernel) (by first | assumption | decide +kernel) | with_reducible exact pf_intB | with_reducible exact pf_len | (with_reducible intro _))
local macro_rules | `(tactic| walk_at "x") => `(tactic| first
  | with_reducible refine ws_seq ?_ | with_reducible refine ws_asg ?_ | with_reducible refine ws_ret ?_ | with_reducible refine ws_drop ?_ | with_reducible refine ws_if ?_ | with_reducible refine ws_sk ?_
  | with_reducible refine wp_bin ?_ | with_reducible refine wp_v (by with_unfolding_all rfl) ?_ | with_reducible refine wp_c ?_ | with_reducible refine wp_tst ?_ | with_reducible refine wp_consA ?_ | with_reducible refine wp_nilA ?_
  | with_reducible refine wp_callE ?_ | with_reducible refine wp_nm ?_ | with_reducible refine wp_subG ?_ | with_reducible refine wp_tupE ?_ | with_reducible refine wp_lstE ?_ | with_reducible refine wp_andT ?_ | with_reducible refine wp_orT ?_ | with_reducible refine wp_notT ?_ | with_reducible refine wp_andV ?_ | with_reducible refine wp_orV ?_ | with_reducible refine wp_notV ?_ | with_reducible refine wp_isi ?_ | with_reducible refine wp_metE ?_
  | with_reducible refine wp_add ?_ | with_reducible refine wp_sub ?_ | with_reducible refine wp_gt ?_ | with_reducible refine wp_lt ?_ | with_reducible refine wp_ge ?_ | with_reducible refine wp_le ?_ | with_reducible refine wp_eqI ?_ | with_reducible refine wp_neI ?_
  | with_reducible refine ⟨_, rfl, ?_⟩ | with_reducible refine wp_slE ?_ | with_reducible refine wp_noP ?_ | with_reducible refine wp_somP ?_ | with_reducible refine wp_slF ?_ | with_reducible refine wp_slT ?_ | with_reducible refine wp_lenF ?_ | with_reducible refine wp_lenT ?_ | with_reducible refine wp_absB ?_ | with_reducible refine wp_yes ?_ | with_reducible refine wp_dctE ?_ | with_reducible refine wp_consP ?_ | with_reducible refine wp_nilP ?_ | with_reducible refine ws_put ?_
  | with_reducible refine wp_ixT (by with_unfolding_all rfl) ?_ | with_reducible refine wp_tupGL rfl ?_ | with_reducible refine wp_consG ?_ | with_reducible refine wp_nilG ?_ | with_reducible refine wp_ifV ?_ | with_reducible refine wp_una ?_ | with_reducible refine ws_parL ?_)
theorem op_eqISI {p q a b : Int} {v w : Str} (hv : PyData.strOk v = true) (hw : PyData.strOk w = true) : OpV eqD (.tup [.int p, .str v, .int a]) (.tup [.int q, .str w, .int b]) (.bl (p == q && (v == w && a == b))) := fun m => by
  have h1 : pyD 8 m (.tup [.int p, .str v, .int a]) = some (.tuple [.int p, .str v, .int a]) := by
    show (List.mapM (pyD 7 m) [.int p, .str v, .int a]).map PyData.tuple = _
    simp [List.mapM_cons, pyD, hv]
  have h2 : pyD 8 m (.tup [.int q, .str w, .int b]) = some (.tuple [.int q, .str w, .int b]) := by
    show (List.mapM (pyD 7 m) [.int q, .str w, .int b]).map PyData.tuple = _
    simp [List.mapM_cons, pyD, hw]
  unfold eqD
  rw [h1, h2]
  simp [PyData.eqv, PyData.eqvAll]
section
variable {n night me hid : Int} {xs : List D}
theorem pg_so (hx : ∀ x ∈ xs, Call1 n x) (hl : xs.length ≤ 16) {w : Str} (hw : w ∈ words12) : PG sm_L_is_so [.tup xs, .int night, .int me, .int hid, .str w] (.bl (soB xs night me hid w)) := fun m => L_so_ok hx hl hw
theorem sb_non {event wish : D} (hw : TWish wish) (he : TEvent event) : sbD xs night event wish .non = .non := by
  obtain ⟨me, rules, tale, rfl, hr, _⟩ := hw.ex
  obtain ⟨w, k, lines, hid, rfl, hwk, hlen, hli⟩ := he.ex
  unfold sbD
  simp only
  rw [List.find?_eq_none.mpr]
  · rfl
  · intro r hm
    obtain ⟨st, w2, k2, pats, tests, aft, rfl, _⟩ := (hr r hm).ex
    simp [rcond, stEq]
theorem led_ok (hx : ∀ x ∈ xs, Call1 n x) (hl : xs.length ≤ 16) {wish state event : D} (hw : TWish wish) (hs : StD state) (he : TEvent event) : PG sm_L_led [wish, state, .tup xs, .int night, event] (sbD xs night event wish state) := fun μ => by
  have hsn := sb_non (xs := xs) (night := night) hw he
  obtain ⟨me, rules, tale, rfl, hr, _⟩ := hw.ex
  obtain ⟨w, k, lines, hid, rfl, hwk, hlen, hli⟩ := he.ex
  refine wp_def rfl ?_
  rcases hs with rfl | ⟨v, rfl⟩
  · repeat walk_at "x"
    refine wp_eq rfl ?_
    repeat walk_at "x"
    refine iteT ?_
    repeat walk_at "x"
    exact ⟨hsn.symm, Gr.refl⟩
  · repeat walk_at "x"
    refine wp_eq rfl ?_
    repeat walk_at "x"
    refine iteF ?_
    repeat walk_at "x"
    refine ws_for_first (p := rcond xs night me hid (.int v) w lines) (wp_seqIT ?_)
    repeat walk_at "x"
    refine ⟨fun e m => ∃ x8 x9 x10 x11 x12 x13 x14 x15 x16 x17, e = [some (.tup [.int me, rules, .tup tale]), some (.int v), some (.tup xs), some (.int night), some (.tup [.str w, .tup lines, .int hid]), some (.str w), some (.tup lines), some (.int hid), x8, x9, x10, x11, x12, x13, x14, x15, x16, x17] ∧ Gr μ m, ?_, ?_, ?_⟩
    · exact ⟨_, _, _, _, _, _, _, _, _, _, rfl, Gr.refl⟩
    · rintro x hm e m ⟨x8, x9, x10, x11, x12, x13, x14, x15, x16, x17, rfl, g⟩
      obtain ⟨st, w2, k2, pats, tests, aft, rfl, hwk2, hlen2, hpat, htst, _⟩ := (hr x hm).ex
      repeat walk_at "x"
      refine wp_eq (op_eqISI (wtab_ok _ hwk2) (wtab_ok _ hwk) _) ?_
      repeat walk_at "x"
      refine ite2 (fun hc => ?_) (fun hc => ?_)
      · simp only [Bool.and_eq_true, beq_iff_eq] at hc
        obtain ⟨rfl, rfl, hll⟩ := hc
        have hzl : (zipD pats lines).length < 1000000 := by
          have := wtab_le _ hwk
          simp only at this
          unfold zipD; rw [List.length_map, List.length_zip]; omega
        repeat walk_at "x"
        refine wp_lcE (p := fun _ => true) (k := fun z => .bl (match z with
          | .tup [p, l] => fitD p l
          | _ => false)) (wp_zipI ?_)
        repeat walk_at "x"
        refine ⟨pats, lines, rfl, zipD pats lines, still_zip.fuel, fun i m _ => still_zip.item i m, hzl, fun z hz m' g' => ?_, fun m2 g2 hc2 => ?_⟩
        · obtain ⟨p, l, rfl, h1, h2, _⟩ := mem_zipD hz
          obtain ⟨v, rfl⟩ := hli.mem h2
          exact wp_tupGL rfl (wp_consG (wp_nm (wp_consG (wp_nm (wp_nilG ⟨Gr.refl, egt_yes, fun _ => eg_call (ega_cons (eg_v rfl) (ega_cons (eg_v rfl) ega_nil)) (PG.m (PF.g (ev_fits (hpat p h1))))⟩)))))
        · rw [List.filter_eq_self.mpr fun _ _ => rfl] at hc2
          repeat walk_at "x"
          refine wp_allL hc2 ?_
          repeat walk_at "x"
          have htl : tests.length < 1000000 := by
            obtain ⟨ws, rfl, _, h12⟩ := htst
            simp; omega
          refine wp_lcE (p := fun _ => true) (k := fun t => .bl (soD xs night me hid t)) (wp_seqIT ?_)
          repeat walk_at "x"
          refine ⟨fun i m _ => rfl, htl, fun z hz m' g' => ?_, fun m3 g3 hc3 => ?_⟩
          · obtain ⟨w3, rfl, hw3⟩ := htst.mem hz
            exact wp_nm ⟨Gr.refl, egt_yes, fun _ => eg_call (ega_cons (eg_v rfl) (ega_cons (eg_v rfl) (ega_cons (eg_op (eg_v rfl) eg_c (op_ixT rfl)) (ega_cons (eg_v rfl) (ega_cons (eg_v rfl) ega_nil))))) (PG.m (pg_so hx hl hw3))⟩
          · rw [List.filter_eq_self.mpr fun _ _ => rfl] at hc3
            have gA := (g.trans g2).trans g3
            repeat walk_at "x"
            refine ite2 (fun hf => ?_) (fun hf => ?_)
            · repeat walk_at "x"
              refine wp_allL hc3 ?_
              repeat walk_at "x"
              refine ite2 (fun ht => ?_) (fun ht => ?_)
              · repeat walk_at "x"
                have hp : rcond xs night me hid (.int st) w2 lines (.tup [.int st, .str w2, .tup pats, .tup tests, aft]) = true := by
                  simp only [rcond, stEq, beq_self_eq_true, Bool.true_and, Bool.and_eq_true]
                  exact ⟨hf, ht⟩
                refine ⟨hp, fun hfind => ⟨?_, gA⟩⟩
                unfold sbD
                simp only
                rw [hfind]; rfl
              · refine ws_sk ⟨?_, ⟨_, _, _, _, _, _, _, _, _, _, rfl, gA⟩⟩
                simp only [rcond, Bool.and_eq_false_iff]
                exact .inr (.inr (.inr (Bool.eq_false_iff.mpr ht)))
            · refine iteF (ws_sk ⟨?_, ⟨_, _, _, _, _, _, _, _, _, _, rfl, gA⟩⟩)
              simp only [rcond, Bool.and_eq_false_iff]
              exact .inr (.inr (.inl (Bool.eq_false_iff.mpr hf)))
      · refine ws_sk ⟨?_, ⟨_, _, _, _, _, _, _, _, _, _, rfl, g⟩⟩
        refine Bool.eq_false_iff.mpr fun hp => hc ?_
        simp only [rcond, stEq, Bool.and_eq_true, beq_iff_eq] at hp ⊢
        obtain ⟨rfl, rfl, _⟩ := hp
        refine ⟨rfl, rfl, ?_⟩
        have := wtab_fun _ hwk2 _ hwk rfl
        simp only at this
        omega
    · rintro e m ⟨x8, x9, x10, x11, x12, x13, x14, x15, x16, x17, rfl, g⟩ hnone
      repeat walk_at "x"
      refine ⟨?_, g⟩
      unfold sbD
      simp only
      rw [hnone]; rfl
end
end Lw

namespace Lw
open PySem L2 CW
local macro_rules | `(tactic| walk_at "w") => `(tactic| first
  | with_reducible refine ws_seq ?_ | with_reducible refine ws_asg ?_ | with_reducible refine ws_ret ?_ | with_reducible refine ws_drop ?_ | with_reducible refine ws_if ?_ | with_reducible refine ws_sk ?_
  | with_reducible refine wp_bin ?_ | with_reducible refine wp_v (by with_unfolding_all rfl) ?_ | with_reducible refine wp_c ?_ | with_reducible refine wp_tst ?_ | with_reducible refine wp_consA ?_ | with_reducible refine wp_nilA ?_
  | with_reducible refine wp_callE ?_ | with_reducible refine wp_nm ?_ | with_reducible refine wp_subG ?_ | with_reducible refine wp_tupE ?_ | with_reducible refine wp_lstE ?_ | with_reducible refine wp_andT ?_ | with_reducible refine wp_orT ?_ | with_reducible refine wp_notT ?_ | with_reducible refine wp_andV ?_ | with_reducible refine wp_orV ?_ | with_reducible refine wp_notV ?_ | with_reducible refine wp_isi ?_ | with_reducible refine wp_metE ?_
  | with_reducible refine wp_add ?_ | with_reducible refine wp_sub ?_ | with_reducible refine wp_gt ?_ | with_reducible refine wp_lt ?_ | with_reducible refine wp_ge ?_ | with_reducible refine wp_le ?_ | with_reducible refine wp_eqI ?_ | with_reducible refine wp_neI ?_
  | with_reducible refine ⟨_, rfl, ?_⟩ | with_reducible refine wp_slE ?_ | with_reducible refine wp_noP ?_ | with_reducible refine wp_somP ?_ | with_reducible refine wp_slF ?_ | with_reducible refine wp_slT ?_ | with_reducible refine wp_lenF ?_ | with_reducible refine wp_lenT ?_ | with_reducible refine wp_absB ?_ | with_reducible refine wp_yes ?_ | with_reducible refine wp_dctE ?_ | with_reducible refine wp_consP ?_ | with_reducible refine wp_nilP ?_ | with_reducible refine ws_put ?_)
local macro_rules | `(tactic| walk_at "e") => `(tactic| first
  | with_reducible exact ev_v (by with_unfolding_all rfl) | with_reducible exact ev_c | with_reducible apply ev_bin | with_reducible apply ev_orV | with_reducible apply ev_andV | with_reducible apply ev_notV | with_reducible apply ev_tup | with_reducible apply ev_call
  | with_reducible exact eva_nil | with_reducible apply eva_cons | with_reducible apply evs_ret | with_reducible apply evt_tst | with_reducible apply evt_and | with_reducible apply evt_or | with_reducible apply evt_not | with_reducible exact evt_yes | with_reducible apply ev_slT | with_reducible exact evp_no | with_reducible apply evp_som
  | with_reducible exact op_eqI | with_reducible exact op_ixT (by with_unfolding_all rfl) | with_reducible exact op_eqS (by first | assumption | decide +kernel) (by first | assumption | decide +kernel) | with_reducible exact op_eqIS (by first | assumption | decide +kernel) (by first | assumption | decide +kernel) | with_reducible exact pf_intB | with_reducible exact pf_len | (with_reducible intro _))
local macro_rules | `(tactic| walk_at "x") => `(tactic| first
  | with_reducible refine ws_seq ?_ | with_reducible refine ws_asg ?_ | with_reducible refine ws_ret ?_ | with_reducible refine ws_drop ?_ | with_reducible refine ws_if ?_ | with_reducible refine ws_sk ?_
  | with_reducible refine wp_bin ?_ | with_reducible refine wp_v (by with_unfolding_all rfl) ?_ | with_reducible refine wp_c ?_ | with_reducible refine wp_tst ?_ | with_reducible refine wp_consA ?_ | with_reducible refine wp_nilA ?_
  | with_reducible refine wp_callE ?_ | with_reducible refine wp_nm ?_ | with_reducible refine wp_subG ?_ | with_reducible refine wp_tupE ?_ | with_reducible refine wp_lstE ?_ | with_reducible refine wp_andT ?_ | with_reducible refine wp_orT ?_ | with_reducible refine wp_notT ?_ | with_reducible refine wp_andV ?_ | with_reducible refine wp_orV ?_ | with_reducible refine wp_notV ?_ | with_reducible refine wp_isi ?_ | with_reducible refine wp_metE ?_
  | with_reducible refine wp_add ?_ | with_reducible refine wp_sub ?_ | with_reducible refine wp_gt ?_ | with_reducible refine wp_lt ?_ | with_reducible refine wp_ge ?_ | with_reducible refine wp_le ?_ | with_reducible refine wp_eqI ?_ | with_reducible refine wp_neI ?_
  | with_reducible refine ⟨_, rfl, ?_⟩ | with_reducible refine wp_slE ?_ | with_reducible refine wp_noP ?_ | with_reducible refine wp_somP ?_ | with_reducible refine wp_slF ?_ | with_reducible refine wp_slT ?_ | with_reducible refine wp_lenF ?_ | with_reducible refine wp_lenT ?_ | with_reducible refine wp_absB ?_ | with_reducible refine wp_yes ?_ | with_reducible refine wp_dctE ?_ | with_reducible refine wp_consP ?_ | with_reducible refine wp_nilP ?_ | with_reducible refine ws_put ?_
  | with_reducible refine wp_ixT (by with_unfolding_all rfl) ?_ | with_reducible refine wp_tupGL rfl ?_ | with_reducible refine wp_consG ?_ | with_reducible refine wp_nilG ?_ | with_reducible refine wp_ifV ?_ | with_reducible refine wp_una ?_ | with_reducible refine ws_parL ?_)
local macro_rules | `(tactic| walk_at "y") => `(tactic| first
  | with_reducible refine ws_seq ?_ | with_reducible refine ws_asg ?_ | with_reducible refine ws_ret ?_ | with_reducible refine ws_drop ?_ | with_reducible refine ws_if ?_ | with_reducible refine ws_sk ?_
  | with_reducible refine wp_bin ?_ | with_reducible refine wp_v (by with_unfolding_all rfl) ?_ | with_reducible refine wp_c ?_ | with_reducible refine wp_tst ?_ | with_reducible refine wp_consA ?_ | with_reducible refine wp_nilA ?_
  | with_reducible refine wp_callE ?_ | with_reducible refine wp_nm ?_ | with_reducible refine wp_subG ?_ | with_reducible refine wp_tupE ?_ | with_reducible refine wp_lstE ?_ | with_reducible refine wp_andT ?_ | with_reducible refine wp_orT ?_ | with_reducible refine wp_notT ?_ | with_reducible refine wp_andV ?_ | with_reducible refine wp_orV ?_ | with_reducible refine wp_notV ?_ | with_reducible refine wp_isi ?_ | with_reducible refine wp_metE ?_
  | with_reducible refine wp_add ?_ | with_reducible refine wp_sub ?_ | with_reducible refine wp_gt ?_ | with_reducible refine wp_lt ?_ | with_reducible refine wp_ge ?_ | with_reducible refine wp_le ?_ | with_reducible refine wp_eqI ?_ | with_reducible refine wp_neI ?_
  | with_reducible refine ⟨_, rfl, ?_⟩ | with_reducible refine wp_slE ?_ | with_reducible refine wp_noP ?_ | with_reducible refine wp_somP ?_ | with_reducible refine wp_slF ?_ | with_reducible refine wp_slT ?_ | with_reducible refine wp_lenF ?_ | with_reducible refine wp_lenT ?_ | with_reducible refine wp_absB ?_ | with_reducible refine wp_yes ?_ | with_reducible refine wp_consP ?_ | with_reducible refine wp_nilP ?_ | with_reducible refine ws_put ?_
  | with_reducible refine wp_ixT (by with_unfolding_all rfl) ?_ | with_reducible refine wp_tupGL rfl ?_ | with_reducible refine wp_consG ?_ | with_reducible refine wp_nilG ?_ | with_reducible refine wp_ifV ?_ | with_reducible refine wp_una ?_ | with_reducible refine ws_parL ?_)
section
variable {N n : Int} {l : Nat} {μ : Mu}
theorem zip_rev : ∀ {a b : List D}, a.length = b.length → zipD a.reverse b.reverse = (zipD a b).reverse := by
  intro a b h
  unfold zipD
  rw [← List.map_reverse]
  congr 1
  apply List.ext_getElem?
  intro i
  have hz : (a.zip b).length = a.length := by rw [List.length_zip]; omega
  by_cases hi : i < a.length
  · rw [List.getElem?_reverse (by omega), hz, List.zip, List.getElem?_zipWith, List.getElem?_zipWith, List.getElem?_reverse hi, List.getElem?_reverse (by omega), ← h]
  · rw [List.getElem?_eq_none (by simp [List.length_zip]; omega), List.getElem?_eq_none (by simp [List.length_zip]; omega)]
theorem std_py {s : D} (h : StD s) : ∃ p, nOk p = true ∧ ∀ k m, pyD k m s = some p := by
  rcases h with rfl | ⟨v, rfl⟩
  · exact ⟨.none, rfl, fun k m => by cases k <;> rfl⟩
  · exact ⟨.int v, rfl, fun k m => by cases k <;> rfl⟩
theorem std_pys : ∀ {xs : List D}, (∀ s ∈ xs, StD s) → ∃ ps, nOks ps = true ∧ ∀ k m, xs.mapM (pyD k m) = some ps
  | [], _ => ⟨[], rfl, fun k m => rfl⟩
  | x :: xs, h => by
    obtain ⟨p, h1, h2⟩ := std_py (h x List.mem_cons_self)
    obtain ⟨ps, h3, h4⟩ := std_pys (xs := xs) fun s hs => h s (List.mem_cons_of_mem _ hs)
    exact ⟨p :: ps, by show (nOk p && nOks ps) = true; rw [h1, h3]; rfl, fun k m => by rw [List.mapM_cons, h2, h4]; rfl⟩
theorem wp_neSelf {xs : List D} {Q : D → Mu → Prop} (h : ∀ s ∈ xs, StD s) (q : Q (.bl false) μ) : wp (neD (.tup xs) (.tup xs) μ) Q := by
  obtain ⟨ps, h1, h2⟩ := std_pys h
  have e : pyD 8 μ (.tup xs) = some (.tuple ps) := by
    show Option.map PyData.tuple (xs.mapM (pyD 7 μ)) = _
    rw [h2]; rfl
  refine wp_eq ?_ q
  unfold neD
  rw [e]
  have : (PyData.tuple ps).eqv (.tuple ps) = true := nOk_self (show nOk (.tuple ps) = true from h1)
  simp only [this]
  rfl
theorem wp_anyF {l k : Nat} {m : Mu} {Q : D → Mu → Prop} (hl : m[l]? = some (.lst (List.replicate k (.bl false)))) (q : Q (.bl false) m) : wp (allB true [.ref l] m) Q := by
  refine wp_eq (a := .bl false) (μ := m) ?_ q
  have e : ∀ k, blsD (List.replicate k (.bl false)) = some (List.replicate k false) := by
    intro k
    induction k with
    | zero => rfl
    | succ k ih => rw [List.replicate_succ, List.replicate_succ]; show (blsD (List.replicate k (.bl false))).map _ = _; rw [ih]; rfl
  unfold allB
  simp only
  rw [hl]; simp only; rw [e]
  simp
theorem wp_catA {Q : D → Mu → Prop} {μ : Mu} {xs ys : List D} (hz : xs.length + ys.length ≤ 1000000) (q : Q (.tup (xs ++ ys)) μ) : wp (addD (.tup xs) (.tup ys) μ) Q := by
  cases xs with
  | nil => exact wp_eq rfl q
  | cons x xs =>
    refine wp_eq ?_ q
    show (if (x :: xs).length + ys.length ≤ 1000000 then _ else none) = _
    rw [if_pos hz]
theorem wp_mulT {Q : D → Mu → Prop} {μ : Mu} {k : Nat} (hz : k ≤ 1000) (q : Q (.tup (List.replicate k (.int 0))) μ) : wp (mulD (.tup [.int 0]) (.int (k : Nat)) μ) Q := by
  refine wp_eq ?_ q
  show (if 0 ≤ ((k : Nat) : Int) ∧ ((k : Nat) : Int) < 1000000 ∧ (([D.int 0].length : Nat) : Int) * ((k : Nat) : Int) ≤ 1000000 then some (D.tup (List.replicate ((k : Nat) : Int).toNat [D.int 0]).flatten, μ) else none) = _
  rw [if_pos ⟨by omega, by omega, by simp; omega⟩]
  simp
theorem fix_zip {xs ys : List D} : zipIt xs ys = fixIt (zipD xs ys) := by
  have h := still_zip (xs := xs) (ys := ys)
  have h1 : (zipIt xs ys).item = (fixIt (zipD xs ys)).item := by
    funext i m
    exact h.item i m
  have h2 : (zipIt xs ys).fuel = (fixIt (zipD xs ys)).fuel := h.fuel
  show ItD.mk (zipIt xs ys).item (zipIt xs ys).fuel = ItD.mk (fixIt (zipD xs ys)).item (fixIt (zipD xs ys)).fuel
  rw [h1, h2]
theorem alone_wp {xs wishes tales : List D} {night : Int} {event dD : D} (hx : ∀ x ∈ xs, Call1 n x) (hw : ∀ w ∈ wishes, TWish w) (hs : ∀ s ∈ tales, StD s) (he : TEvent event) (hl : wishes.length ≤ 1000) (μ : Mu) :
    wp (sm_L_alone [.tup [.int n, .tup wishes, dD], .tup tales, .tup xs, .int night, event] μ) fun r m => r = .tup ((zipD wishes tales).map (toD xs night event)) ∧ Gr μ m := by
  have hz : (zipD wishes tales).length ≤ 1000 := by unfold zipD; rw [List.length_map, List.length_zip]; omega
  refine wp_def rfl ?_
  repeat walk_at "y"
  refine ws_for_fix (wp_zipI ?_)
  repeat walk_at "y"
  refine ⟨wishes, tales, rfl, zipD wishes tales, fix_zip, fun i e m => ∃ x6 x7, e = [some (.tup [.int n, .tup wishes, dD]), some (.tup tales), some (.tup xs), some (.int night), some event, some (.tup (((zipD wishes tales).take i).map (toD xs night event))), x6, x7] ∧ Gr μ m, ?_, ?_, ?_⟩
  · exact ⟨_, _, rfl, Gr.refl⟩
  · rintro i z e m hz' ⟨x6, x7, rfl, gm⟩
    have htk : (zipD wishes tales).take (i + 1) = (zipD wishes tales).take i ++ [z] := by rw [List.take_add_one, hz']; rfl
    obtain ⟨p, s, rfl, h1, h2, _⟩ := mem_zipD (List.mem_of_getElem? hz')
    repeat walk_at "y"
    refine wp_pf (ev_told_on hx (wishes := [p]) (tales := [s]) (fun w hw' => by rw [List.mem_singleton.mp hw']; exact hw p h1) (fun w hw' => by rw [List.mem_singleton.mp hw']; exact hs s h2) he (by simp)) ?_
    refine wp_catA (by rw [List.length_map, List.length_map, List.length_take]; show _ + ([p].zip [s]).length ≤ _; simp; omega) ?_
    repeat walk_at "y"
    refine ⟨some p, some s, ?_, gm⟩
    rw [htk, List.map_append]
    rfl
  · rintro e m ⟨x6, x7, rfl, gm⟩
    rw [List.take_length]
    repeat walk_at "y"
    exact ⟨rfl, gm⟩
end
theorem law_true (ns : List Int) (_ : ns.length ≤ 63) : ∃ μ', sm_law [.fl (ns.map D.int)] [] = some (.bl true, μ') := by
  suffices h : wp (sm_law [.fl (ns.map D.int)] []) fun r _ => r = .bl true by
    obtain ⟨r, m, e, rfl⟩ := h
    exact ⟨m, e⟩
  refine wp_def rfl ?_
  repeat walk_at "x"
  refine wp_mono (hand_spec ns []) ?_
  rintro r m ⟨rfl, g, hm⟩
  have z00 : ([] : Mu).length = 0 := rfl
  repeat walk_at "x"
  refine drawF hm (by omega) (by decide) (by decide) fun v m1 v0 v1 hm1 fm1 em1 => ?_
  repeat walk_at "x"
  refine drawF hm1 (by omega) (by decide) (by decide) fun w m2 w0 w1 hm2 fm2 em2 => ?_
  repeat walk_at "x"
  refine wp_mono (told_house_spec hm2 (by omega) (by omega) (by omega) (by omega) (by omega)) ?_
  rintro r m3 ⟨⟨wishes, rfl, hwish, hwl⟩, hm3, fm3⟩
  repeat walk_at "x"
  refine wp_tupRv ?_
  repeat walk_at "x"
  refine ⟨by omega, ?_⟩
  repeat walk_at "x"
  refine wp_mulT (by omega) ?_
  repeat walk_at "x"
  refine wp_mono (calls_spec hm3 (by omega) (by omega) (by omega)) ?_
  rintro r m4 ⟨⟨xs0, rfl, lx0, hx0, _⟩, hm4, fm4⟩
  repeat walk_at "x"
  refine ws_for_fix (wp_rng1 ?_)
  repeat walk_at "x"
  refine drawF hm4 (by omega) (by decide) (by decide) fun t m5 t0 t1 hm5 fm5 em5 => ?_
  repeat walk_at "x"
  refine ⟨by omega, by omega, _, rfl, fun i e k => ∃ (tales xs : List D) (night : Int) (x6 x9 x10 x11 x12 x13 x14 x15 x16 : Option D), e = [some (.fl (ns.map D.int)), some (.ref 0), some (.int (2 + v)), some (.tup [.int (2 + v), .tup wishes, .tup []]), some (.tup [.int (2 + v), .tup wishes.reverse, .tup []]), some (.tup tales), x6, some (.tup xs), some (.int night), x9, x10, x11, x12, x13, x14, x15, x16] ∧ Hand (900000000000 - 200 * i) 0 k ∧ i ≤ 30 ∧ tales.length = wishes.length ∧ (∀ s ∈ tales, StD s) ∧ xs.length ≤ 16 ∧ (∀ x ∈ xs, Call1 (2 + v) x), ?_, ?_, ?_⟩
  · refine ⟨_, xs0, 0, _, _, _, _, _, _, _, _, _, rfl, hm5.mono (by omega), by omega, by simp, fun s hs => .inr ⟨0, List.eq_of_mem_replicate hs⟩, lx0, hx0⟩
  · rintro i x e k hx ⟨tales, xs, night, x6, x9, x10, x11, x12, x13, x14, x15, x16, rfl, hk, hi, htl, hst, lx, hcall⟩
    have hi30 : i < (1 + t).toNat := by simpa using (List.getElem?_eq_some_iff.mp hx).1
    repeat walk_at "x"
    refine wp_mono (event_spec hk (by omega) (by omega) (by omega)) ?_
    rintro event k1 ⟨hev, hk1, fk1⟩
    repeat walk_at "x"
    have hzl : (zipD wishes tales).length < 1000 := by unfold zipD; rw [List.length_map, List.length_zip]; omega
    have hzz : (zipD wishes tales).length = wishes.length := by unfold zipD; rw [List.length_map, List.length_zip]; omega
    refine wp_lcE (p := fun _ => true) (k := toD xs night event) (wp_zipI ?_)
    repeat walk_at "x"
    refine ⟨wishes, tales, rfl, zipD wishes tales, still_zip.fuel, fun i m _ => still_zip.item i m, by omega, fun z hz m' g' => ?_, fun k2 g2 hc2 => ?_⟩
    · obtain ⟨p, s, rfl, h1, h2, _⟩ := mem_zipD hz
      exact wp_tupGL rfl (wp_consG (wp_nm (wp_consG (wp_nm (wp_nilG ⟨Gr.refl, egt_yes, fun _ => eg_call (ega_cons (eg_v rfl) (ega_cons (eg_v rfl) (ega_cons (eg_v rfl) (ega_cons (eg_v rfl) (ega_cons (eg_v rfl) ega_nil))))) (PG.m (led_ok hcall lx (hwish p h1) (hst s h2) hev))⟩)))))
    rw [List.filter_eq_self.mpr fun _ _ => rfl] at hc2
    have hdue : ∀ s ∈ (zipD wishes tales).map (toD xs night event), StD s := fun s hs => by
      obtain ⟨z, hz, rfl⟩ := List.mem_map.mp hs
      obtain ⟨p, s, rfl, h1, h2, _⟩ := mem_zipD hz
      exact sb_st (hwish p h1) (hst s h2) hev
    repeat walk_at "x"
    refine wp_tupL hc2 ?_
    repeat walk_at "x"
    refine wp_tupRv ?_
    repeat walk_at "x"
    refine ⟨by omega, ?_⟩
    repeat walk_at "x"
    refine wp_pf (ev_told_on hcall (fun w hw => hwish w (List.mem_reverse.mp hw)) (fun s hs => hst s (List.mem_reverse.mp hs)) hev (by rw [List.length_reverse]; omega)) ?_
    rw [zip_rev htl.symm, List.map_reverse]
    repeat walk_at "x"
    refine wp_mono (alone_wp hcall hwish hst hev (by omega) k2) ?_
    rintro _ k3 ⟨rfl, g3⟩
    repeat walk_at "x"
    refine wp_neSelf hdue ?_
    refine ⟨_, rfl, iteF ?_⟩
    repeat walk_at "x"
    refine wp_tupRv ?_
    repeat walk_at "x"
    refine ⟨by rw [List.length_reverse, List.length_map]; omega, ?_⟩
    rw [List.reverse_reverse]
    repeat walk_at "x"
    refine wp_neSelf hdue ?_
    refine ⟨_, rfl, iteF (ws_sk ?_)⟩
    have hk3 := (hk1.gr g2).gr g3
    generalize hZ : (zipD wishes tales).map (toD xs night event) = Z at hdue ⊢
    have hZl : Z.length = wishes.length := by rw [← hZ, List.length_map, hzz]
    have hgood : Good 8 (.tup Z) := ⟨by omega, fun y hy => by
      rcases hdue y hy with h | ⟨v, h⟩ <;> rw [h] <;> exact True.intro⟩
    repeat walk_at "x"
    refine ws_for_fix (wp_rng1 ?_)
    repeat walk_at "x"
    refine ⟨by decide, by decide, _, rfl, fun j e q => ∃ x12 : Option D, e = [some (.fl (ns.map D.int)), some (.ref 0), some (.int (2 + v)), some (.tup [.int (2 + v), .tup wishes, .tup []]), some (.tup [.int (2 + v), .tup wishes.reverse, .tup []]), some (.tup tales), some x, some (.tup xs), some (.int night), some event, some (.tup Z), some (.tup Z.reverse), x12, x13, x14, x15, x16] ∧ Gr k3 q, ?_, ?_, ?_⟩
    · exact ⟨_, rfl, Gr.refl⟩
    · rintro j y e q hy ⟨x12, rfl, gq⟩
      repeat walk_at "x"
      refine wp_pf (ev_told_on hcall hwish hst hev (by omega)) ?_
      rw [hZ]
      repeat walk_at "x"
      refine same_to (sm := sm_L_same) same_eq hgood rfl fun k7 g7 => ?_
      repeat walk_at "x"
      refine iteF (ws_sk ?_)
      exact ⟨_, rfl, gq.trans g7⟩
    · rintro e q ⟨x12, rfl, gq⟩
      repeat walk_at "x"
      refine wp_lcE (p := fun _ => true) (k := fun _ => .bl false) (wp_zipI ?_)
      repeat walk_at "x"
      refine ⟨tales, Z, rfl, zipD tales Z, still_zip.fuel, fun i m _ => still_zip.item i m, by unfold zipD; rw [List.length_map, List.length_zip]; omega, fun z hz m' g' => ?_, fun k4 g4 hc4 => ?_⟩
      · obtain ⟨a, b, rfl, h1, h2, h3⟩ := mem_zipD hz
        have hab : b = .non ∨ ∃ u, a = .int u := by
          obtain ⟨j, hj⟩ := List.mem_iff_getElem?.mp h3
          obtain ⟨ha, hb⟩ := List.getElem?_zip_eq_some.mp hj
          rcases hst a h1 with rfl | ⟨u, rfl⟩
          · left
            rw [← hZ, List.getElem?_map] at hb
            obtain ⟨z1, hz1, rfl⟩ := Option.map_eq_some_iff.mp hb
            unfold zipD at hz1
            rw [List.getElem?_map] at hz1
            obtain ⟨p, hp, rfl⟩ := Option.map_eq_some_iff.mp hz1
            obtain ⟨hw, hs⟩ := List.getElem?_zip_eq_some.mp (show (wishes.zip tales)[j]? = some (p.1, p.2) from hp)
            rw [ha] at hs
            have hs : p.2 = .non := (Option.some.inj hs).symm
            show sbD xs night event p.1 p.2 = .non
            rw [hs]
            exact sb_non (hwish _ (List.mem_of_getElem? hw)) hev
          · exact .inr ⟨u, rfl⟩
        refine wp_tupGL rfl (wp_consG (wp_nm (wp_consG (wp_nm (wp_nilG ⟨Gr.refl, egt_yes, fun _ m2 g2 => ?_⟩)))))
        rcases hab with rfl | ⟨u, rfl⟩
        · repeat walk_at "x"
          rcases hst a h1 with rfl | ⟨u, rfl⟩
          · refine wp_eq (a := .bl true) rfl ?_
            refine ⟨_, rfl, iteT ?_⟩
            repeat walk_at "x"
            exact wp_eq rfl ⟨rfl, Gr.refl⟩
          · refine wp_eq (a := .bl false) rfl ?_
            exact ⟨_, rfl, iteF ⟨rfl, Gr.refl⟩⟩
        · repeat walk_at "x"
          refine wp_eq (a := .bl false) rfl ?_
          exact ⟨_, rfl, iteF ⟨rfl, Gr.refl⟩⟩
      rw [List.filter_eq_self.mpr fun _ _ => rfl, List.map_const'] at hc4
      repeat walk_at "x"
      refine wp_anyF hc4 ?_
      refine ⟨_, rfl, iteF (ws_sk ?_)⟩
      repeat walk_at "x"
      have hk4 := (hk3.gr gq).gr g4
      refine drawF hk4 (by omega) (by decide) (by decide) fun u k5 u0 u1 hk5 fk5 ek5 => ?_
      repeat walk_at "x"
      refine ite2 (fun hc => ?_) (fun hc => ?_)
      · repeat walk_at "x"
        refine wp_mono (calls_spec hk5 (by omega) (by omega) (by omega)) ?_
        rintro r k6 ⟨⟨xs6, rfl, lx6, hx6, _⟩, hk6, fk6⟩
        repeat walk_at "x"
        refine drawF hk6 (by omega) (by decide) (by decide) fun nn k7 n0 n1 hk7 fk7 ek7 => ?_
        repeat walk_at "x"
        exact ⟨_, xs6, nn, _, _, _, _, _, _, _, _, _, rfl, hk7.mono (by omega), by omega, hZl, hdue, lx6, hx6⟩
      · refine ws_sk ?_
        exact ⟨_, xs, night, _, _, _, _, _, _, _, _, _, rfl, hk5.mono (by omega), by omega, hZl, hdue, lx, hcall⟩
  · rintro e k ⟨tales, xs, night, x6, x9, x10, x11, x12, x13, x14, x15, x16, rfl, _⟩
    repeat walk_at "x"
    rfl

end Lw
open PySem PySem.W PyProof.Rows
set_option maxRecDepth 100000 in
set_option maxHeartbeats 0 in
theorem PySem.Challenge.cw_callwishes_k37_tales_by_themselves_holds : PySem.Challenge.rw_callwishes_k37_tales_by_themselves.Holds := by
  w_on; o_law; x_head; (case hw => w_witness2)
  k_fill
  refine Lw.walk (l := PySem.Challenge.rw_callwishes_k37_tales_by_themselves) rfl rfl (fun w h Y => PySem.W.kIn_of Y) ?wC ?wF Lw.law_true
  case wC =>
    intro w
    kernel_rfl
  case wF =>
    intro w mg fa h hk KX G hmg
    refine' Lw.all_mk hk KX G hmg ?a_fits ?l_fits ?oc_n_fits ?c_fits ?a_is_in ?l_is_in ?oc_n_is_in ?c_is_in ?a_is_talk_of ?l_is_talk_of ?oc_n_is_talk_of ?c_is_talk_of ?a_is_held_by ?l_is_held_by ?oc_n_is_held_by ?c_is_held_by ?a_is_shown_to ?l_is_shown_to ?oc_n_is_shown_to ?c_is_shown_to ?a_shown_to ?l_shown_to ?oc_n_shown_to ?c_shown_to ?a_has_talk ?l_has_talk ?oc_n_has_talk ?c_has_talk ?u_has_talk ?q_has_talk ?a_has_hold ?l_has_hold ?oc_n_has_hold ?c_has_hold ?u_has_hold ?q_has_hold ?a_is_free ?l_is_free ?oc_n_is_free ?c_is_free ?u_is_free ?q_is_free ?a_is_so ?l_is_so ?oc_n_is_so ?c_is_so ?a_are_so ?l_are_so ?oc_n_are_so ?c_are_so ?u_are_so ?q_are_so ?a_all_fit ?l_all_fit ?oc_n_all_fit ?c_all_fit ?u_all_fit ?q_all_fit ?a_state_behind ?l_state_behind ?oc_n_state_behind ?c_state_behind ?a_told_on ?l_told_on ?oc_n_told_on ?c_told_on ?u_told_on ?q_told_on ?a_L_hand ?l_L_hand ?oc_n_L_hand ?c_L_hand ?a_L_take ?l_L_take ?oc_n_L_take ?c_L_take ?a_L_calls ?l_L_calls ?oc_n_L_calls ?c_L_calls ?a_L_is_in ?l_L_is_in ?oc_n_L_is_in ?c_L_is_in ?a_L_holds ?l_L_holds ?oc_n_L_holds ?c_L_holds ?a_L_is_so ?l_L_is_so ?oc_n_L_is_so ?c_L_is_so ?a_L_pattern ?l_L_pattern ?oc_n_L_pattern ?c_L_pattern ?a_L_tests ?l_L_tests ?oc_n_L_tests ?c_L_tests ?a_L_words ?l_L_words ?oc_n_L_words ?c_L_words ?a_L_tale_rule ?l_L_tale_rule ?oc_n_L_tale_rule ?c_L_tale_rule ?a_L_fits ?l_L_fits ?oc_n_L_fits ?c_L_fits ?a_L_led ?l_L_led ?oc_n_L_led ?c_L_led ?a_L_event ?l_L_event ?oc_n_L_event ?c_L_event ?a_L_told_house ?l_L_told_house ?oc_n_L_told_house ?c_L_told_house ?a_L_same ?l_L_same ?oc_n_L_same ?c_L_same ?a_L_alone ?l_L_alone ?oc_n_L_alone ?c_L_alone ?a_law ?l_law ?oc_n_law ?c_law ?z_abs ?z_all ?z_any ?z_bool ?z_enumerate ?z_int ?z_isinstance ?z_len ?z_range ?z_reversed ?z_sorted ?z_str ?z_tuple ?z_zip ?g_HOWS_AT_BOTH_ENDS ?h_HOWS_AT_BOTH_ENDS ?g_OPPOSITES ?d_OPPOSITES ?e_OPPOSITES ?y_OPPOSITES ?h_OPPOSITES
    (case a_fits => k_is)
    (case l_fits => k_is)
    (case oc_n_fits => exact rfl)
    (case c_fits => k_is)
    (case a_is_in => k_is)
    (case l_is_in => k_is)
    (case oc_n_is_in => exact rfl)
    (case c_is_in => k_is)
    (case a_is_talk_of => k_is)
    (case l_is_talk_of => k_is)
    (case oc_n_is_talk_of => exact rfl)
    (case c_is_talk_of => k_is)
    (case a_is_held_by => k_is)
    (case l_is_held_by => k_is)
    (case oc_n_is_held_by => exact rfl)
    (case c_is_held_by => k_is)
    (case a_is_shown_to => k_is)
    (case l_is_shown_to => k_is)
    (case oc_n_is_shown_to => exact rfl)
    (case c_is_shown_to => k_is)
    (case a_shown_to => k_is)
    (case l_shown_to => k_is)
    (case oc_n_shown_to => exact rfl)
    (case c_shown_to => k_is)
    (case a_has_talk => k_is)
    (case l_has_talk => k_is)
    (case oc_n_has_talk => exact rfl)
    (case c_has_talk => k_is)
    (case u_has_talk => k_is)
    (case q_has_talk => exact rfl)
    (case a_has_hold => k_is)
    (case l_has_hold => k_is)
    (case oc_n_has_hold => exact rfl)
    (case c_has_hold => k_is)
    (case u_has_hold => k_is)
    (case q_has_hold => exact rfl)
    (case a_is_free => k_is)
    (case l_is_free => k_is)
    (case oc_n_is_free => exact rfl)
    (case c_is_free => k_is)
    (case u_is_free => k_is)
    (case q_is_free => exact rfl)
    (case a_is_so => k_is)
    (case l_is_so => k_is)
    (case oc_n_is_so => exact rfl)
    (case c_is_so => k_is)
    (case a_are_so => k_is)
    (case l_are_so => k_is)
    (case oc_n_are_so => exact rfl)
    (case c_are_so => k_is)
    (case u_are_so => k_is)
    (case q_are_so => exact rfl)
    (case a_all_fit => k_is)
    (case l_all_fit => k_is)
    (case oc_n_all_fit => exact rfl)
    (case c_all_fit => k_is)
    (case u_all_fit => k_is)
    (case q_all_fit => exact rfl)
    (case a_state_behind => k_is)
    (case l_state_behind => k_is)
    (case oc_n_state_behind => exact rfl)
    (case c_state_behind => k_is)
    (case a_told_on => k_is)
    (case l_told_on => k_is)
    (case oc_n_told_on => exact rfl)
    (case c_told_on => k_is)
    (case u_told_on => k_is)
    (case q_told_on => exact rfl)
    (case a_L_hand => k_is)
    (case l_L_hand => k_is)
    (case oc_n_L_hand => exact rfl)
    (case c_L_hand => k_is)
    (case a_L_take => k_is)
    (case l_L_take => k_is)
    (case oc_n_L_take => exact rfl)
    (case c_L_take => k_is)
    (case a_L_calls => k_is)
    (case l_L_calls => k_is)
    (case oc_n_L_calls => exact rfl)
    (case c_L_calls => k_is)
    (case a_L_is_in => k_is)
    (case l_L_is_in => k_is)
    (case oc_n_L_is_in => exact rfl)
    (case c_L_is_in => k_is)
    (case a_L_holds => k_is)
    (case l_L_holds => k_is)
    (case oc_n_L_holds => exact rfl)
    (case c_L_holds => k_is)
    (case a_L_is_so => k_is)
    (case l_L_is_so => k_is)
    (case oc_n_L_is_so => exact rfl)
    (case c_L_is_so => k_is)
    (case a_L_pattern => k_is)
    (case l_L_pattern => k_is)
    (case oc_n_L_pattern => exact rfl)
    (case c_L_pattern => k_is)
    (case a_L_tests => k_is)
    (case l_L_tests => k_is)
    (case oc_n_L_tests => exact rfl)
    (case c_L_tests => k_is)
    (case a_L_words => k_is)
    (case l_L_words => k_is)
    (case oc_n_L_words => exact rfl)
    (case c_L_words => k_is)
    (case a_L_tale_rule => k_is)
    (case l_L_tale_rule => k_is)
    (case oc_n_L_tale_rule => exact rfl)
    (case c_L_tale_rule => k_is)
    (case a_L_fits => k_is)
    (case l_L_fits => k_is)
    (case oc_n_L_fits => exact rfl)
    (case c_L_fits => k_is)
    (case a_L_led => k_is)
    (case l_L_led => k_is)
    (case oc_n_L_led => exact rfl)
    (case c_L_led => k_is)
    (case a_L_event => k_is)
    (case l_L_event => k_is)
    (case oc_n_L_event => exact rfl)
    (case c_L_event => k_is)
    (case a_L_told_house => k_is)
    (case l_L_told_house => k_is)
    (case oc_n_L_told_house => exact rfl)
    (case c_L_told_house => k_is)
    (case a_L_same => k_is)
    (case l_L_same => k_is)
    (case oc_n_L_same => exact rfl)
    (case c_L_same => k_is)
    (case a_L_alone => k_is)
    (case l_L_alone => k_is)
    (case oc_n_L_alone => exact rfl)
    (case c_L_alone => k_is)
    (case a_law => k_is)
    (case l_law => k_is)
    (case oc_n_law => exact rfl)
    (case c_law => k_is)
    (case z_abs => k_is)
    (case z_all => k_is)
    (case z_any => k_is)
    (case z_bool => k_is)
    (case z_enumerate => k_is)
    (case z_int => k_is)
    (case z_isinstance => k_is)
    (case z_len => k_is)
    (case z_range => k_is)
    (case z_reversed => k_is)
    (case z_sorted => k_is)
    (case z_str => k_is)
    (case z_tuple => k_is)
    (case z_zip => k_is)
    (case g_HOWS_AT_BOTH_ENDS => k_is)
    (case h_HOWS_AT_BOTH_ENDS => kernel_rfl)
    (case g_OPPOSITES => k_is)
    (case d_OPPOSITES => k_is)
    (case e_OPPOSITES => decide)
    (case y_OPPOSITES => k_keys)
    (case h_OPPOSITES => kernel_rfl)
