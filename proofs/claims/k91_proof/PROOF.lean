import PyProof.Rows.All
import Wide.All
import OpenK.AllK
import Wide.FinOn
import HandS.ForMost
import HandS.Set
import HandS.TupSets
import HandS.SetFor
import KE.KSortTupG
import KE.KSortRegAny
import KE.KDictSum
import KE.KDictCopyH
import HandS.Strs
import HandS.Wide
import HandS.Walk
import HandS.IsInst
import HandS.StrMore
import HandS.SetKeys
import HandS.SetBool
import HandS.DictComp
import HandS.Exc
import HandS.ExcOwn
import HandS.ExcInit
import HandS.ExcField
import HandS.WordsExc
import HandS.Property
import HandS.Text
import HandS.OwnIter
import HandS.ListItems
import KE.KDictItemsList
import KE.KDictPairs
import PyProof.CollectStr
import HandS.ExcValue
import KE.KDictWalk
import HandS.Flow
import HandS.Call
import PyProof.Draws
import PyProof.EnumMake
import PyProof.WalksMore
import HandS.TryOnly
import HandS.Words
import HandS.Star
import HandS.Defaults
import KE.KExcIs
import KE.KDictDisplayH
import HandS.Codes
import HandS.ForSpec
import PySem.Challenge.RW_rightstate_k91_picks_and_what_is_told_of
set_option Elab.async false
set_option linter.all false
set_option maxRecDepth 100000
-- QSet
section
set_option maxRecDepth 100000
set_option maxHeartbeats 2000000
namespace Q9
open PySem PySem.Spec PyProof.Rows L2
theorem Paired.perm {α β : Type} {F : α → β → Prop} {l l' : List β} (p : l'.Perm l) : ∀ {ks : List α}, Paired F ks l → ∃ ks', ks'.Perm ks ∧ Paired F ks' l' := by
  induction p with
  | nil => intro ks h; exact ⟨ks, .refl _, h⟩
  | cons x p ih =>
    intro ks h
    cases h with
    | cons r t =>
      obtain ⟨ks', q1, q2⟩ := ih t
      exact ⟨_ :: ks', q1.cons _, .cons r q2⟩
  | swap x y l =>
    intro ks h
    cases h with
    | cons r t => cases t with
      | cons r' t' => exact ⟨_, List.Perm.swap _ _ _, .cons r' (.cons r t')⟩
  | trans p1 p2 ih1 ih2 =>
    intro ks h
    obtain ⟨k1, q1, q2⟩ := ih2 h
    obtain ⟨k2, q3, q4⟩ := ih1 q2
    exact ⟨k2, q3.trans q1, q4⟩
theorem Paired.mem_r {α β : Type} {F : α → β → Prop} : ∀ {ks : List α} {l : List β}, Paired F ks l → ∀ e ∈ l, ∃ k ∈ ks, F k e
  | _, _, .nil, e, h => by cases h
  | _, _, .cons r t, e, h => by
    rcases List.mem_cons.mp h with z | z
    · exact ⟨_, List.mem_cons_self, z ▸ r⟩
    · obtain ⟨k, h1, h2⟩ := Paired.mem_r t e z
      exact ⟨k, List.mem_cons_of_mem _ h1, h2⟩
theorem Paired.mem_l {α β : Type} {F : α → β → Prop} : ∀ {ks : List α} {l : List β}, Paired F ks l → ∀ k ∈ ks, ∃ e ∈ l, F k e
  | _, _, .nil, e, h => by cases h
  | _, _, .cons r t, e, h => by
    rcases List.mem_cons.mp h with z | z
    · exact ⟨_, List.mem_cons_self, z ▸ r⟩
    · obtain ⟨k, h1, h2⟩ := Paired.mem_l t e z
      exact ⟨k, List.mem_cons_of_mem _ h1, h2⟩
theorem Paired.snoc {α β : Type} {F : α → β → Prop} {k : α} {e : β} (r : F k e) : ∀ {ks : List α} {l : List β}, Paired F ks l → Paired F (ks ++ [k]) (l ++ [e])
  | _, _, .nil => .cons r .nil
  | _, _, .cons q t => .cons q (Paired.snoc r t)
section
variable {P : Program} {w : World} {K : Type} [DecidableEq K] (knd : KeyKind P w K)
/-- what an entry of a set's table is: the key, its hash -/
def Ent (k : K) (e : Int × Value) : Prop := knd.is k e.2 = true ∧ e.1 = knd.hash k ∧ e.2.scannable = true
/-- the set at a has the members ks, each once, in the order of its table; it can be walked -/
def RSet (h : Heap) (a : Addr) (ks : List K) : Prop :=
  ∃ o es ep t, h.get? a = some o ∧ o.ExactSet ∧ o.data = .set es ep t ∧ Paired (Ent knd) ks es.toList ∧ ks.Nodup ∧ es.size < scanBound ∧
    t.fits es.size = true ∧ Ris t.place.toList ∧ (w.params.followText "set-order" = true ∨ t.led = true)
variable {knd}
variable {A : Around} {E : Value → Shared → Prop} {s : Shared} {h h' : Heap} {a : Addr} {ks : List K}
theorem RSet.at (R : RSet knd h a ks) (k : ∀ o, h.get? a = some o → h'.get? a = some o) : RSet knd h' a ks := by
  obtain ⟨o, es, ep, t, ho, r⟩ := R
  exact ⟨o, es, ep, t, k o ho, r⟩
theorem RSet.size (R : RSet knd h a ks) : ks.length < scanBound := by
  obtain ⟨o, es, ep, t, ho, hx, hd, p, nd, hb, r⟩ := R
  have e : ks.length = es.size := (PySem.Paired.length p).trans Array.length_toList
  rw [e]; exact hb
theorem ents_elems {es : List (Int × Value)} (p : Paired (Ent knd) ks es) : ElemsOf knd es := fun e he => by
  obtain ⟨k, _, h1, h2, h3⟩ := Paired.mem_r p e he
  exact ⟨⟨k, h1, h2⟩, h3⟩
theorem ents_has {es : List (Int × Value)} (p : Paired (Ent knd) ks es) (k : K) : (∃ e ∈ es, knd.is k e.2 = true) ↔ k ∈ ks := by
  constructor
  · rintro ⟨e, he, q⟩
    obtain ⟨k', hk', h1, _⟩ := Paired.mem_r p e he
    rw [knd.inj e.2 k k' q h1]; exact hk'
  · intro hk
    obtain ⟨e, he, h1, _⟩ := Paired.mem_l p k hk
    exact ⟨e, he, h1⟩
theorem RSet.setOf (R : RSet knd h a ks) : h.SetOf knd a (fun k => decide (k ∈ ks)) ks.length := by
  obtain ⟨o, es, ep, t, ho, hx, hd, p, nd, hb, hf, _⟩ := R
  have e : ks.length = es.size := (PySem.Paired.length p).trans Array.length_toList
  exact ⟨o, es, ep, t, ho, hx, hd, ents_elems p, fun k => by rw [decide_eq_true_eq]; exact (ents_has p k).symm, hb, hf, e.symm⟩
/-- the table written, and laid anew where it is too full -/
theorem rset_tail {g : Bool → Sem Unit} (hg : ∀ (b : Bool) (s₁ : Shared) (Q' : Unit → Shared → Prop), Q' () s₁ → wpAny (model P w) A (g b) Q' E s₁)
    {o : Obj} {es : Array (Int × Value)} {ep : Nat} {t : SetTable} (ho : s.heap.get? a = some o) (hex : o.ExactSet) (hd : o.data = .set es ep t)
    {es1 : Array (Int × Value)} {t2 : SetTable} {ks1 : List K} (p1 : Paired (Ent knd) ks1 es1.toList) (nd1 : ks1.Nodup) (hb1 : es1.size < scanBound) (hf2 : t2.fits es1.size = true)
    (hr : Ris t2.place.toList) (hl : w.params.followText "set-order" = true ∨ t2.led = true) {wasDummy : Bool} {R : Option Bool → Shared → Prop}
    (hR : ∀ h' ks', Heap.SameBut a s.heap h' → ks'.Perm ks1 → RSet knd h' a ks' → R (some true) { s with heap := h' }) :
    wpAny (model P w) A (do
        storeSet a es1 t2
        if (!wasDummy && t2.tooFull) = true then do
            g (relayAll t2 es1 (SetTable.grown es1.size)).2.2
            storeSet a (relayAll t2 es1 (SetTable.grown es1.size)).1 (relayAll t2 es1 (SetTable.grown es1.size)).2.1
            pure (some true)
          else pure (some true)) R E s := by
  have at1 := store_at (es' := es1) (t' := t2) ho hd
  have same1 := Heap.SameBut.update s.heap a (Obj.putSet es1 t2)
  refine wpAny_bind (wpAny_storeSet_of ho hd ?_ (fits_of_scanBound hb1))
  split
  · have q1 := relayAll_perm t2 es1 (SetTable.grown es1.size)
    have q2 := relayAll_fits t2 es1 (SetTable.grown es1.size)
    have q3 := relayAll_ris t2 es1 (SetTable.grown es1.size)
    have q4 := relayAll_led t2 es1 (SetTable.grown es1.size)
    generalize relayAll t2 es1 (SetTable.grown es1.size) = Z at q1 q2 q3 q4 ⊢
    obtain ⟨es2, t3, gave⟩ := Z
    dsimp only at q1 q2 q3 q4 ⊢
    have sz : es2.size = es1.size := by rw [← Array.length_toList, q1.length_eq, Array.length_toList]
    have hb2 : es2.size < scanBound := by rw [sz]; exact hb1
    obtain ⟨ks2, pk, p2⟩ := Paired.perm q1 p1
    refine wpAny_bind (hg _ _ _ (wpAny_bind (wpAny_storeSet_of at1 rfl ?_ (fits_of_scanBound hb2))))
    have at2 := store_at (es' := es2) (t' := t3) at1 rfl
    refine wpAny_pure (hR _ ks2 (same1.trans (Heap.SameBut.update _ a _)) pk ?_)
    exact ⟨_, es2, _, t3, at2, hex, rfl, p2, pk.nodup_iff.mpr nd1, hb2, q2, q3, hl.imp id fun z => by rw [q4]; exact z⟩
  · exact wpAny_pure (hR _ ks1 same1 (.refl _) ⟨_, es1, _, t2, at1, hex, rfl, p1, nd1, hb1, hf2, hr, hl⟩)
/-- one key more, or none -/
def Added (k : K) (ks ks' : List K) : Prop := (k ∈ ks ∧ ks' = ks) ∨ (k ∉ ks ∧ ks'.Perm (k :: ks))
theorem rset_add {k : K} {x : Value} {Q : Bool → Shared → Prop} (R : RSet knd s.heap a ks) (hk : knd.is k x = true) (hsc : x.scannable = true) (room : ks.length + 1 < scanBound)
    (hQ : ∀ b h' ks', Heap.SameBut a s.heap h' → Added k ks ks' → RSet knd h' a ks' → Q b { s with heap := h' }) :
    wpAny (model P w) A (setAddHashed a x (knd.hash k)) Q E s := by
  have R0 := R
  obtain ⟨o, es, ep, t, ho, hex, hd, pr, nd, hb, hf, hr, hl⟩ := R
  have hel := ents_elems pr
  have hn : es.size = ks.length := by rw [PySem.Paired.length pr, Array.length_toList]
  unfold setAddHashed setAddHashedIn
  refine wpAny_holding (wpAny_bind (wpAny_setState_of ho hd hf ?_))
  dsimp only
  rw [byScan_of hsc hb hel]
  simp only [↓reduceIte]
  unfold setAddByScan
  refine wpAny_bind (wpAny_bind (wpAny_rule (wpAny_bind (wpAny_setScan_of hk ho hd hf hel ?_))))
  cases hfi : List.findIdx? (fun e => knd.is k e.2) es.toList with
  | some j =>
    dsimp only
    obtain ⟨hj, pj, _⟩ := List.findIdx?_eq_some_iff_getElem.mp hfi
    have hin : k ∈ ks := (ents_has pr k).1 ⟨es.toList[j], List.getElem_mem hj, pj⟩
    exact wpAny_pure (wpAny_pure (hQ _ s.heap ks (Heap.SameBut.refl a s.heap) (.inl ⟨hin, rfl⟩) R0))
  | none =>
    dsimp only
    have hout : k ∉ ks := fun z => by
      obtain ⟨e, he, q⟩ := (ents_has pr k).2 z
      have c := List.findIdx?_eq_none_iff.mp hfi e he
      rw [q] at c; cases c
    have gw : ∀ (b : Bool) {s₁ : Shared} {Q' : Unit → Shared → Prop}, Q' () s₁ → wpAny (model P w) A (match b with | true => rule "set.scan.the-table-gave-way" | false => pure ()) Q' E s₁ :=
      fun b s₁ Q' q => by cases b <;> first | exact wpAny_pure q | exact wpAny_rule q
    have m1 := layNew_perm t es (knd.hash k) x
    have m2 := layNew_fits t es (knd.hash k) x
    have m3 := layNew_ris t es (knd.hash k) x hr
    have m4 := layNew_led t es (knd.hash k) x
    generalize layNew t es (knd.hash k) x = Z at m1 m2 m3 m4 ⊢
    obtain ⟨es1, t1, wasDummy, gave⟩ := Z
    dsimp only at m1 m2 m3 m4 ⊢
    rw [Array.toList_push] at m1
    have psn : Paired (Ent knd) (ks ++ [k]) (es.toList ++ [(knd.hash k, x)]) := Paired.snoc (show Ent knd k (knd.hash k, x) from ⟨hk, rfl, hsc⟩) pr
    obtain ⟨ks1, pk, p1⟩ := Paired.perm m1 psn
    have pc : ks1.Perm (k :: ks) := pk.trans (List.perm_append_singleton _ _)
    have nd1 : ks1.Nodup := pc.nodup_iff.mpr (List.nodup_cons.mpr ⟨hout, nd⟩)
    have sz : es1.size = ks.length + 1 := by rw [← Array.length_toList, ← PySem.Paired.length p1, pc.length_eq, List.length_cons]
    have hb1 : es1.size < scanBound := by rw [sz]; exact room
    have led1 : w.params.followText "set-order" = true ∨ t1.led = true := hl.imp id fun z => by rw [m4]; exact z
    have fin : ∀ h' ks', Heap.SameBut a s.heap h' → ks'.Perm ks1 → RSet knd h' a ks' → ∀ b, Q b { s with heap := h' } := fun h' ks' sb pm r b => hQ b h' ks' sb (.inr ⟨hout, pm.trans pc⟩) r
    refine wpAny_bind (gw _ ?_)
    split
    · refine wpAny_bind ?_
      rw [hashByValue_scannable 8 hsc]
      refine wpAny_pure (rset_tail (knd := knd) (fun b s₁ Q' q => by cases b <;> first | exact wpAny_pure q | exact wpAny_rule q) ho hex hd p1 nd1 hb1 ?_ ?_ ?_ fun h' ks' sb pm r => ?_)
      · first | (split <;> first | exact m2 | exact SetTable.fits_plain_off m2) | exact m2
      · first | (split <;> exact m3) | exact m3
      · first | (split <;> exact led1) | exact led1
      · dsimp only; exact wpAny_pure (fin h' ks' sb pm r _)
    · refine wpAny_bind (wpAny_pure ?_)
      simp only [↓reduceIte]
      refine rset_tail (knd := knd) (fun b s₁ Q' q => by cases b <;> first | exact wpAny_pure q | exact wpAny_rule q) ho hex hd p1 nd1 hb1 m2 m3 led1 fun h' ks' sb pm r => ?_
      dsimp only; exact wpAny_pure (fin h' ks' sb pm r _)
end
end Q9
end
-- QSetCall
section
set_option maxRecDepth 100000
set_option maxHeartbeats 4000000
namespace Q9
open PySem PySem.Spec PyProof.Rows L2
section
variable {P : Program} {w : World} {K : Type} [DecidableEq K] {knd : KeyKind P w K} {A : Around} {E : Value → Shared → Prop} {s : Shared}
/-- ks are the first i of xs, each once, in any order -/
structure Coll (xs : List K) (i : Nat) (ks : List K) : Prop where
  nd : ks.Nodup
  mem : ∀ k, k ∈ ks ↔ k ∈ xs.take i
theorem Coll.zero (xs : List K) : Coll xs 0 [] := ⟨List.nodup_nil, fun k => by simp⟩
theorem take_one_more {α : Type} {l : List α} {i : Nat} {x : α} (h : l[i]? = some x) : l.take (i + 1) = l.take i ++ [x] := by
  rw [List.take_add_one, h]; rfl
theorem Coll.next {xs : List K} {i : Nat} {ks ks' : List K} {k : K} (c : Coll xs i ks) (h : xs[i]? = some k) (ad : Added k ks ks') : Coll xs (i + 1) ks' := by
  rcases ad with ⟨hin, rfl⟩ | ⟨hout, pm⟩
  · refine ⟨c.nd, fun j => ?_⟩
    rw [take_one_more h, List.mem_append, ← c.mem j, List.mem_singleton]
    exact ⟨.inl, fun z => z.elim id fun e => e ▸ hin⟩
  · refine ⟨pm.nodup_iff.mpr (List.nodup_cons.mpr ⟨hout, c.nd⟩), fun j => ?_⟩
    rw [pm.mem_iff, take_one_more h, List.mem_append, ← c.mem j, List.mem_singleton, List.mem_cons]
    exact Or.comm
theorem Coll.sub {xs : List K} {i : Nat} {ks : List K} (c : Coll xs i ks) : ∀ k ∈ ks, k ∈ xs := fun k hk => List.mem_of_mem_take ((c.mem k).1 hk)
/-- few enough unlike ones -/
def FewIn (xs : List K) : Prop := ∀ ks : List K, ks.Nodup → (∀ k ∈ ks, k ∈ xs) → ks.length + 1 < scanBound
theorem upd_turns {I : Addr} {fp wr : List Addr} {G : Array GenState → Array GenState → Prop} {n : Nat} {Pv : Nat → Value → Prop} {St : Nat → Shared → Prop} {R : Result → Shared → Prop}
    (W : WalksS P w A.in1 I fp wr G n Pv St) (S : Addr) (hSf : S ∉ fp) (xs : List K) (hn : n = xs.length) (few : FewIn xs)
    (hval : ∀ i v, Pv i v → ∃ k, xs[i]? = some k ∧ knd.is k v = true ∧ v.scannable = true) :
    ∀ (m i : Nat) (s : Shared), n - i = m → i ≤ n → St i s → (∃ ks, RSet knd s.heap S ks ∧ Coll xs i ks) →
      (∀ s' ks, Moved (S :: wr) G s s' → RSet knd s'.heap S ks → Coll xs n ks → R (.ok (.ret .none)) s') →
      codeAny (model P w) A (.builtin "set.update.loop" ⟨[.ref S, .ref I], []⟩) R s := by
  have away : S ∉ wr := fun h => hSf (W.sub _ h)
  have up : ∀ b ∈ wr, b ∈ S :: wr := fun b hb => List.mem_cons_of_mem _ hb
  intro m
  induction m with
  | zero =>
    intro i s hm hi st ⟨ks, RS, c⟩ hR
    obtain rfl : i = n := by omega
    refine codeAny_builtin F.entry_set_update_loop ?_
    rw [Around.under_plainId F.plain_set_update_loop _]
    show wpAny _ A.in1 (pyNext (.ref I) >>= _) _ _ s
    refine wpAny_bind (W.done s _ _ st fun s' mv => ?_)
    show wpAny _ A.in1 (ret Value.none) _ _ s'
    exact wpAny_pure (hR s' ks (mv.mono up) (RS.at fun o e => mv.heap S o away e) c)
  | succ m ih =>
    intro i s hm hi st ⟨ks, RS, c⟩ hR
    have lt : i < n := by omega
    refine codeAny_builtin F.entry_set_update_loop ?_
    rw [Around.under_plainId F.plain_set_update_loop _]
    show wpAny _ A.in1 (pyNext (.ref I) >>= _) _ _ s
    refine wpAny_bind (W.item i s _ _ lt st fun v s' pv st' mv => ?_)
    obtain ⟨k, hk, his, hsc⟩ := hval i v pv
    have RS' : RSet knd s'.heap S ks := RS.at fun o e => mv.heap S o away e
    show wpAny _ A.in1 (holding [v] (setAdd S v) >>= _) _ _ s'
    refine wpAny_bind (wpAny_holding ?_)
    unfold setAdd
    refine wpAny_holding (wpAny_bind (knd.pyHash his ?_))
    refine rset_add (s := { s' with toks := s'.toks + 1 }) RS' his hsc (few ks c.nd c.sub) fun b h' ks' same ad RS2 => ?_
    refine wpAny_pure ⟨plainId_quiet F.plain_set_update_loop _, ih (i + 1) _ (by omega) lt (W.frame _ s' _ _ st' (Nat.le_succ _) fun b hb o e => ?_) ⟨ks', RS2, c.next hk ad⟩ fun s'' ks2 mv2 RS3 c3 => ?_⟩
    · exact (same.2 b fun z => hSf (z ▸ hb)).trans e
    · refine hR s'' ks2 (Moved.trans W.gtrans ((mv.mono up).then_heap (Nat.le_succ _) fun b o hb e => ?_) mv2) RS3 c3
      exact (same.2 b fun z => hb (z ▸ List.mem_cons_self)).trans e
/-- what set(..) reads: a list or a tuple at l -/
structure Src (P : Program) (w : World) (h : Heap) (l : Addr) (T : String) (items : Array Value) : Prop where
  typ : ∃ o, h.get? l = some o ∧ o.cls = .type T
  sub1 : isSubtype (.type T) (.type "set") = pure false
  sub2 : isSubtype (.type T) (.type "frozenset") = pure false
  nod : (Value.type T == Value.type "dict") = false
  walk : ∃ (ob : Obj) (St : Addr → Nat → Heap → Prop),
    (∀ (s₁ : Shared) (A : Around) (E Q : Value → Shared → Prop), (∀ b o, h.get? b = some o → s₁.heap.get? b = some o) → Q (.ref s₁.heap.objs.size) { s₁ with heap := s₁.heap.push ob } → wpAny (model P w) A (pyIter (.ref l)) Q E s₁) ∧
    (∀ (A : Around) (I : Addr), A.handled = none → l ≠ I → Walks P w A I [I, l] [I] items.size (fun i v => items[i]? = some v) (St I)) ∧
    ∀ h₁ : Heap, (∀ b o, h.get? b = some o → h₁.get? b = some o) → St h₁.objs.size 0 (h₁.push ob)
theorem Src.list {h : Heap} {l : Addr} {items : Array Value} (hl : h.IsList l items) : Src P w h l "list" items where
  typ := let ⟨o, ho, hc, _⟩ := hl; ⟨o, ho, hc⟩
  sub1 := F.sub_list_set
  sub2 := F.sub_list_frozenset
  nod := by decide
  walk := by
    have up : ∀ h₁ : Heap, (∀ b o, h.get? b = some o → h₁.get? b = some o) → h₁.IsList l items := fun h₁ k => let ⟨o, ho, r⟩ := hl; ⟨o, k _ _ ho, r⟩
    exact ⟨_, fun I i h => h.IsListIter I l i ∧ h.IsList l items, fun s₁ A E Q k q => wpAny_pyIter_list (up _ k) q, fun A I hh ne => Walks.list hh I l ne items,
      fun h₁ k => ⟨⟨_, Heap.get?_push_size _ rfl, rfl, rfl⟩, (up h₁ k).push _⟩⟩
theorem Src.tuple {h : Heap} {l : Addr} {items : Array Value} (hl : h.IsTuple l items) : Src P w h l "tuple" items where
  typ := let ⟨o, ho, hc, _⟩ := hl; ⟨o, ho, hc⟩
  sub1 := F.sub_tuple_set
  sub2 := F.sub_tuple_frozenset
  nod := by decide
  walk := by
    have up : ∀ h₁ : Heap, (∀ b o, h.get? b = some o → h₁.get? b = some o) → h₁.IsTuple l items := fun h₁ k => let ⟨o, ho, r⟩ := hl; ⟨o, k _ _ ho, r⟩
    exact ⟨_, fun I i h => h.IsTupleIter I l i ∧ h.IsTuple l items, fun s₁ A E Q k q => wpAny_pyIter_tuple (up _ k) q, fun A I hh ne => Walks.tuple hh I l ne items,
      fun h₁ k => ⟨⟨_, Heap.get?_push_size _ rfl, rfl, rfl⟩, (up h₁ k).push _⟩⟩
theorem rset_fresh {h : Heap} {a : Addr} (ho : h.get? a = some { cls := .type "set", dict := none, data := .set #[] 0 (.fresh 0 0 (!w.params.followText "set-order")) }) : RSet knd h a [] :=
  ⟨_, #[], 0, _, ho, ⟨rfl, rfl, rfl⟩, rfl, .nil, List.nodup_nil, by decide, by rfl, List.Pairwise.nil, by
    show _ ∨ (!w.params.followText "set-order") = true
    cases w.params.followText "set-order" with
    | false => exact .inr rfl
    | true => exact .inl rfl⟩
end
end Q9
end
-- QSetNew
section
set_option maxRecDepth 100000
set_option maxHeartbeats 8000000
namespace Q9
open PySem PySem.Spec PyProof.Rows L2
section
variable {P : Program} {w : World} {K : Type} [DecidableEq K] {knd : KeyKind P w K} {A : Around} {E : Value → Shared → Prop} {s : Shared}
abbrev emptySet (w : World) : Obj := { cls := .type "set", dict := none, data := .set #[] 0 (.fresh 0 0 (!w.params.followText "set-order")) }
/-- set(xs), xs a list or a tuple of keys -/
theorem call_set_keys {l : Addr} {T : String} {items : Array Value} (src : Src P w s.heap l T items) (xs : List K) (few : FewIn xs) (hn : items.size = xs.length) {Q : Value → Shared → Prop} (hh : A.handled = none)
    (hval : ∀ (i : Nat) (v : Value), items[i]? = some v → ∃ k, xs[i]? = some k ∧ knd.is k v = true ∧ v.scannable = true)
    (hQ : ∀ (h' : Heap) (tk : Nat) ks, RSet knd h' s.heap.objs.size ks → Coll xs xs.length ks → (∀ b o, s.heap.get? b = some o → h'.get? b = some o) → Q (.ref s.heap.objs.size) { s with heap := h', toks := tk }) :
    wpAny (model P w) A (call (.type "set") [.ref l]) Q E s := by
  obtain ⟨⟨ol, hol, hcl⟩, hsls, hslf, hne, ob, St, hiter, hwalk, hst⟩ := src
  obtain ⟨c, tl, hmro⟩ := F.called_set.mro
  have hmade := F.called_set.made
  have hsub := F.called_set.sub
  refine wpAny_call (codeAny_of_tree ?_)
  show wpAny _ _ (callAny (.type "set") _) _ _ _
  refine wpAny_pure ⟨Code.quiet_builtin _ (by decide +kernel), codeAny_builtin F.entry_type_call ?_⟩
  rw [Around.under_plain (weight_type_call_type "set" [.ref l] []) rfl]
  have h1 := F.called_set.notType
  have h2 := F.called_set.canCreate
  have hct := F.typeCall_set_1 (.ref l)
  repeat (any_goals (first | assumption | wp_step))
  refine codeAny_mono (code_set_led1 (.ref l) (E := E) (Q₁ := fun obj s₁ => obj = .ref s.heap.objs.size ∧ s₁ = { s with heap := s.heap.push (emptySet w) }) ⟨rfl, rfl⟩) fun r s₁ hr => ?_
  cases r with
  | error e => exact hr
  | ok fl =>
    cases fl with
    | ret obj =>
      obtain ⟨rfl, rfl⟩ := hr
      have hS : (s.heap.push (emptySet w)).get? s.heap.objs.size = some (emptySet w) := Heap.get?_push_size _ rfl
      have hT : Shared.TypeIs { s with heap := s.heap.push (emptySet w) } (.ref s.heap.objs.size) "set" := ⟨_, hS, rfl⟩
      have hli := F.called_set.init.lookup
      have hbi := F.called_set.init.bind (.ref s.heap.objs.size)
      repeat (any_goals (first | assumption | wp_step))
      refine codeAny_mono (codeAny_call_builtin (R := wants (fun r s₂ => r = .none ∧ ∃ h' tk ks, s₂ = { s with heap := h', toks := tk } ∧ RSet knd h' s.heap.objs.size ks ∧ Coll xs xs.length ks ∧
          (∀ b o, s.heap.get? b = some o → h'.get? b = some o)) E) F.called_set.init.plain F.entry_set_init (check_set_init_1 hT ?_)) fun r₂ s₂ hr₂ => ?_
      · have up1 : ∀ b o, s.heap.get? b = some o → (s.heap.push (emptySet w)).get? b = some o := fun b o e => Heap.get?_push_of_some _ e
        have hol' := up1 _ _ hol
        obtain ⟨ocls, odict, odata, oslots⟩ := ol
        simp only at hcl
        subst hcl
        unfold Builtin.«set.__init__» noKeywords Builtin.Frozenset.updateFrom
        generalize hPI : pyIter = PI
        wp_walk
        subst hPI
        refine hiter { s with heap := s.heap.push (emptySet w) } _ _ _ up1 ?_
        refine wpAny_bind (wpAny_runValue ?_)
        have hlS : l < s.heap.objs.size := Heap.lt_size hol
        have hh3 : A.in1.in1.in1.handled = none := by simp [hh]
        have hz1 : (s.heap.push (emptySet w)).objs.size = s.heap.objs.size + 1 := Heap.size_push ..
        have neI : l ≠ (s.heap.push (emptySet w)).objs.size := by rw [hz1]; exact Nat.ne_of_lt (Nat.lt_succ_of_lt hlS)
        have hSf : s.heap.objs.size ∉ [(s.heap.push (emptySet w)).objs.size, l] := by
          rw [hz1]
          simp only [List.mem_cons, List.not_mem_nil, or_false, not_or]
          exact ⟨Nat.ne_of_lt (Nat.lt_succ_self _), Nat.ne_of_gt hlS⟩
        refine upd_turns (knd := knd) ((hwalk _ _ hh3 neI).toS) s.heap.objs.size hSf xs hn few hval (items.size - 0) 0 _ (by omega) (Nat.zero_le _) (hst _ up1)
          ⟨[], rset_fresh (Heap.get?_push_of_some _ hS), Coll.zero xs⟩ fun s' ks mv RS cl => ?_
        obtain ⟨h', g2, d', tk', os'⟩ := s'
        have eg : g2 = s.gens := mv.gens
        have ed : d' = s.drawn := mv.drawn
        have eo : os' = s.os := mv.os
        subst eg; subst ed; subst eo
        show wpAny _ _ _ _ _ _
        refine wpAny_pure ?_
        show wpAny _ _ (ret Value.none) _ _ _
        rw [hn] at cl
        refine wpAny_pure ⟨rfl, h', tk', ks, rfl, RS, cl, fun b o e => ?_⟩
        have lt := Heap.lt_size e
        refine mv.heap b o (fun z => ?_) (Heap.get?_push_of_some _ (up1 b o e))
        rcases List.mem_cons.mp z with z | z
        · exact absurd lt (by rw [z]; exact Nat.lt_irrefl _)
        · have z2 := List.mem_singleton.mp z
          rw [z2, hz1] at lt
          exact absurd lt (Nat.not_lt_of_le (Nat.le_succ _))
      · cases r₂ with
        | error e => exact hr₂
        | ok fl₂ =>
          cases fl₂ with
          | ret r =>
            obtain ⟨rfl, h', tk, ks, rfl, RS, cl, k2⟩ := hr₂
            repeat (any_goals (first | assumption | wp_step))
            exact hQ _ _ _ RS cl k2
          | _ => exact hr₂.elim
    | _ => exact hr.elim
end
end Q9
end
-- QSort
section
set_option maxRecDepth 100000
set_option maxHeartbeats 4000000
namespace Q9
open PySem PySem.Spec PyProof.Rows L2
section
variable {P : Program} {w : World} {A : Around} {E : Value → Shared → Prop} {s : Shared}
abbrev Keeps (h h' : Heap) : Prop := ∀ b o, h.get? b = some o → h'.get? b = some o
/-- sorted(..) of what gathers into vs -/
theorem sorted_frame {r : Value} {vs : List Value} {Good : Array Value → Prop} {Q : Value → Shared → Prop} (hL : vs.length ≤ sizeLine)
    (hcol : ∀ (R : List Value → Shared → Prop) (E' : Value → Shared → Prop), (∀ s1, Keeps s.heap s1.heap → s.heap.objs.size ≤ s1.heap.objs.size → s1.gens = s.gens → s1.os = s.os → R vs s1) → wpAny (model P w) A.in1 (collect r) R E' s)
    (hsort : ∀ (s2 : Shared) (a n : Nat) (A' : Around) (E' : Value → Shared → Prop) (Pf : Fin → Shared → Prop), Keeps s.heap s2.heap → s2.heap.get? a = some (seqObj "list" vs.toArray n) →
      (∀ out, Good out → Pf (.done (.ret .none)) { s2 with heap := sortedHeap s2.heap a vs out }) → wpAny (model P w) A' (Builtin.«list.sort» ⟨[.ref a], []⟩) Pf E' s2)
    (hQ : ∀ s' p out c, Keeps s.heap s'.heap → s'.gens = s.gens → s'.os = s.os → s.heap.objs.size ≤ p → s'.heap.get? p = some (seqObj "list" out c) → Good out → Q (.ref p) s') :
    wpAny (model P w) A (call (.builtin "sorted") [r]) Q E s := by
  refine Calls.call_function_entry kind_sorted plain_sorted entry_sorted (args_sorted1 _) ?_
  unfold Builtin.«sorted»
  refine wpAny_bind (m := checkCount "sorted" 1 1 _) (wpAny_pure (wpAny_bind (hcol _ _ fun s1 k1 z1 g1 o1 => wpAny_bind (wpAny_newList ?_ hL))))
  have at1 : (s1.heap.push (seqObj "list" vs.toArray 0)).get? s1.heap.objs.size = some (seqObj "list" vs.toArray 0) := Heap.get?_push_size _ rfl
  have k2 : Keeps s.heap (s1.heap.push (seqObj "list" vs.toArray 0)) := fun b o e => Heap.get?_push_of_some _ (k1 b o e)
  refine wpAny_bind (wpAny_holding (wpAny_call_entry slot_list_sort ⟨_, at1, rfl⟩ entry_list_sort (hsort { s1 with heap := s1.heap.push (seqObj "list" vs.toArray 0) } _ _ _ _ _ k2 at1 fun out g => ⟨_, rfl, ?_⟩) (args_list_sort _)))
  obtain ⟨c, hc⟩ := sortedHeap_at (vs := vs) (out := out) at1
  refine wpAny_pure ⟨_, rfl, hQ _ s1.heap.objs.size out c (fun b u e => ?_) g1 o1 z1 hc g⟩
  have q := k1 b u e
  have lt := Heap.lt_size q
  show (sortedHeap (s1.heap.push (seqObj "list" vs.toArray 0)) s1.heap.objs.size vs out).get? b = some u
  rw [sortedHeap_old (Nat.ne_of_lt lt) (by rw [size_push']; exact Nat.lt_succ_of_lt lt)]
  exact Heap.get?_push_of_some _ q
/-- texts in order -/
def TLe (x y : Str) : Prop := ¬ y.cps.toList < x.cps.toList
def Up (ys : List Str) : Prop := ys.Pairwise TLe
theorem list_sort_txts {a n : Nat} {vs : List Value} {ss : List Str} {Pf : Fin → Shared → Prop} (ho : s.heap.get? a = some (seqObj "list" vs.toArray n)) (hS : StrsAre vs ss) (hL : vs.length ≤ sizeLine)
    (hP : ∀ (out : Array Value) ys, StrsAre out.toList ys → ys.Perm ss → Up ys → Pf (.done (.ret .none)) { s with heap := sortedHeap s.heap a vs out }) :
    wpAny (model P w) A (Builtin.«list.sort» ⟨[.ref a], []⟩) Pf E s := by
  refine list_sort_treeKAny strKind_oneLt ho hS.keysOf (fun v₁ v₂ rest e => keyKind_strs (by rw [← e]; exact hS)) hL fun st' hp hs => ?_
  obtain ⟨ys, h1, h2, h3⟩ := sorted_out_str hS hp hs
  refine hP _ ys h1 h2 ?_
  -- in order, read off the array
  have len : ys.length = (arrOf st').size := by rw [← h1.length, Array.length_toList, Array.size_map]
  refine List.pairwise_iff_getElem.mpr fun i j hi hj hij => ?_
  have hj' : j < (arrOf st').size := len ▸ hj
  have hi' : i < (arrOf st').size := len ▸ hi
  have q := hs i j (Nat.le_of_lt hij) (by rw [← hp.size_eq]; exact hj')
  have hl : (arrOf st').toList.Perm (vs.zip vs) := by rw [← pairsOf_toList]; exact Array.perm_iff_toList_perm.mp hp
  have key : ∀ m (hm : m < (arrOf st').size) (hm2 : m < ys.length), KK strKind (arrOf st') m = (ys[m]).cps.toList := fun m hm hm2 => by
    have e1 := (mem_zip_self (hl.mem_iff.mp (show (arrOf st')[m] ∈ (arrOf st').toList from by simp))).1
    obtain ⟨t, e2⟩ := SS.strs_at h1 m (arrOf st')[m].2 (by rw [Array.getElem?_toList, Array.getElem?_map, Array.getElem?_eq_getElem hm]; rfl)
    have e3 : ys.getD m Str.empty = ys[m] := by rw [List.getD_eq_getElem?_getD, List.getElem?_eq_getElem hm2]; rfl
    rw [e3] at e2
    exact KK_str hm (x := ys[m]) (t := t) (q := (arrOf st')[m].2) (Prod.ext (e1.trans e2) rfl)
  rw [key i hi' hi, key j hj' hj] at q
  intro c
  have q' : decide ((ys[j]).cps.toList < (ys[i]).cps.toList) = false := q
  rw [decide_eq_true c] at q'
  cases q'
theorem sorted_txts {r : Value} {vs : List Value} {ss : List Str} (hS : StrsAre vs ss) {Q : Value → Shared → Prop} (hL : vs.length ≤ sizeLine)
    (hcol : ∀ (R : List Value → Shared → Prop) (E' : Value → Shared → Prop), (∀ s1, Keeps s.heap s1.heap → s.heap.objs.size ≤ s1.heap.objs.size → s1.gens = s.gens → s1.os = s.os → R vs s1) → wpAny (model P w) A.in1 (collect r) R E' s)
    (hQ : ∀ s' p (out : Array Value) c ys, Keeps s.heap s'.heap → s'.gens = s.gens → s'.os = s.os → s.heap.objs.size ≤ p → s'.heap.get? p = some (seqObj "list" out c) → StrsAre out.toList ys → ys.Perm ss → Up ys → Q (.ref p) s') :
    wpAny (model P w) A (call (.builtin "sorted") [r]) Q E s :=
  sorted_frame (Good := fun out => ∃ ys, StrsAre out.toList ys ∧ ys.Perm ss ∧ Up ys) hL hcol (fun s2 a n A' E' Pf k2 ho hP => list_sort_txts ho hS hL fun out ys h1 h2 h3 => hP out ⟨ys, h1, h2, h3⟩)
    fun s' p out c k g o z hp ⟨ys, h1, h2, h3⟩ => hQ s' p out c ys k g o z hp h1 h2 h3
end
end Q9
end
-- QRules
section
set_option maxRecDepth 100000
set_option maxHeartbeats 4000000
namespace Q9
open PySem PySem.Spec PyProof.Rows L2
/-- a set of keys (ints, texts) at a: its members, each once -/
def SetKs (P : Program) (w : World) (a : Addr) (ks : List Key) : HO := .ext fun h => RSet (mixKind P w) h a ks
section
variable {X : Cx} {pins : List (Addr × Obj)} {σ : L2.St} {H : Hp} {s : Shared} {a : Addr} {ks : List Key}
theorem setKs_ok {P : Program} {w : World} {H : Hp} {h : Heap} (R : RSet (mixKind P w) h a ks) : ObjOk P w H h a (SetKs P w a ks) := by
  have ⟨o, _, _, _, ho, _⟩ := R
  exact ⟨R, ⟨o, ho⟩, fun h1 h2 p k => RSet.at p k⟩
theorem setKs_get (I : Inv X pins σ H s) (ha : H a = some (SetKs X.prog X.w a ks)) : RSet (mixKind X.prog X.w) s.heap a ks := (I.hok a _ ha).1
theorem key_scannable {k : Key} {u : Value} (r : RelV (kV k) u) : u.scannable = true := by
  cases k with
  | inl i => obtain ⟨t, rfl⟩ := r; rfl
  | inr x => obtain ⟨t, rfl⟩ := r; rfl
theorem keys_of_vals {xs : List Key} {us : List Value} (r : Vals (xs.map kV) us) (i : Nat) (v : Value) (h : us[i]? = some v) : ∃ k, xs[i]? = some k ∧ RelV (kV k) v := by
  have len := PySem.Paired.length r
  have hi : i < us.length := (List.getElem?_eq_some_iff.mp h).1
  have hi2 : i < xs.length := by rw [List.length_map] at len; omega
  obtain ⟨u, h1, h2⟩ := Vals.get (i := i) (x := kV xs[i]) r (by rw [List.getElem?_map, List.getElem?_eq_getElem hi2]; rfl)
  rw [h] at h1
  cases h1
  exact ⟨xs[i], List.getElem?_eq_getElem hi2, h2⟩
/-- the state behind a call that laid one new object at p and kept all else -/
theorem Inv.new_at (I : Inv X pins σ H s) {s' : Shared} {p : Addr} {o : HO} (k : Keeps s.heap s'.heap) (g : s'.gens = s.gens) (os : s'.os = s.os) (hp : s.heap.objs.size ≤ p)
    (ok : ObjOk X.prog X.w (upd H p o) s'.heap p o) : Inv X pins σ (upd H p o) s' := by
  have hn : H p = none := I.hok.fresh hp
  exact I.call' (ch := []) os (Un.laid k hp hn) (I.hok.laid k hp ok) (by rw [g]; exact I.bare) fun _ z => nomatch z
/-- set(xs), xs a list or a tuple of keys -/
def rSetOf (K : PySem.W.Frag) (P : Program) (w : World) : List V → Hp → VK → Prop := fun vs H Q => ∃ (l : Addr) (xs : List Key), vs = [V.ref l] ∧ (SqL K H l (xs.map kV) ∨ SqT K H l (xs.map kV)) ∧ FewIn xs ∧
  ∀ (p : Addr) (ks : List Key), H p = none → ks.Nodup → (∀ k, k ∈ ks ↔ k ∈ xs) → Q (.ref p) (upd H p (SetKs P w p ks))
theorem cr_setOf (hc : X.calm = true) : CallR X (.type "set") (rSetOf X.K X.prog X.w) := by
  intro pins s σ H vs us Q I r h
  obtain ⟨l, xs, rfl, hq, few, q⟩ := h
  rw [Vals.ref1 r]
  have fin : ∀ (T : String) (its : List Value), Vals (xs.map kV) its → Src X.prog X.w s.heap l T its.toArray → wpAny (model X.prog X.w) X.A (call (.type "set") [.ref l]) (EP X pins σ Q) X.xe s := fun T its rv src => by
    refine call_set_keys (knd := mixKind X.prog X.w) src xs few ?_ (I.ok.hd hc) (fun i v hv => ?_) fun h' tk ks RS cl k => ?_
    · rw [List.size_toArray, ← PySem.Paired.length rv, List.length_map]
    · have hv' : its[i]? = some v := by simpa using hv
      obtain ⟨k, h1, h2⟩ := keys_of_vals rv i v hv'
      exact ⟨k, h1, kV_is h2, key_scannable h2⟩
    · have J : Inv X pins σ (upd H s.heap.objs.size (SetKs X.prog X.w s.heap.objs.size ks)) { s with heap := h', toks := tk } := I.laid k (Nat.le_refl _) (setKs_ok RS)
      exact ⟨.ref _, _, J, rfl, q _ ks (I.hok.fresh (Nat.le_refl _)) cl.nd fun k => by rw [cl.mem k, List.take_length]⟩
  rcases hq with hq | hq
  · obtain ⟨its, rv, pl, hz⟩ := I.list hq
    exact fin _ its rv (Src.list pl.isList)
  · obtain ⟨its, rv, pl, hz⟩ := I.tuple hq
    exact fin _ its rv (Src.tuple pl)
/-- len(s) -/
def rLenKs (P : Program) (w : World) : List V → Hp → VK → Prop := fun vs H Q => ∃ (a : Addr) (ks : List Key), vs = [V.ref a] ∧ H a = some (SetKs P w a ks) ∧ Q (.int ks.length) H
theorem cr_lenKs : CallR X (.builtin "len") (rLenKs X.prog X.w) := by
  intro pins s σ H vs us Q I r h
  obtain ⟨a, ks, rfl, ha, q⟩ := h
  rw [Vals.ref1 r]
  have R := setKs_get I ha
  have sz := R.size
  obtain ⟨o, es, ep, t, ho, hex, hd, pr, nd, hb, hf, hr, hl⟩ := R
  have e : es.size = ks.length := ((PySem.Paired.length pr).trans Array.length_toList).symm
  have b : scanBound = 4096 := rfl
  refine call_len_set ho hex hd hf (by rw [e]; omega) ⟨.int ks.length, H, I.tok _, ⟨_, by rw [e]⟩, q⟩
/-- sorted(s), a set of texts -/
def rSortedKs (P : Program) (w : World) : List V → Hp → VK → Prop := fun vs H Q => ∃ (a : Addr) (ss : List Str), vs = [V.ref a] ∧ H a = some (SetKs P w a (ss.map Sum.inr)) ∧
  ∀ (ys : List Str) (p : Addr), ys.Perm ss → Up ys → H p = none → Q (.ref p) (upd H p (.lst (ys.map V.str)))
theorem strs_of_ents {P : Program} {w : World} : ∀ {ss : List Str} {es : List (Int × Value)}, Paired (Ent (mixKind P w)) (ss.map Sum.inr) es → StrsAre (es.map (·.2)) ss
  | [], es, h => by
    rw [List.map_nil] at h
    cases h
    exact .nil
  | x :: ss, es, h => by
    rw [List.map_cons] at h
    cases h with
    | cons r t =>
      obtain ⟨h1, _, _⟩ := r
      rcases keyIs_shape (show keyIs (Sum.inr x) _ = true from h1) with ⟨i, t', e, _⟩ | ⟨y, t', e, e2⟩
      · cases e
      · cases e
        rw [List.map_cons, e2]
        exact .cons _ _ (strs_of_ents t)
theorem strsAre_perm {l l' : List Value} (p : l'.Perm l) : ∀ {ss : List Str}, StrsAre l ss → ∃ ss', ss'.Perm ss ∧ StrsAre l' ss' := by
  induction p with
  | nil => intro ss h; exact ⟨ss, .refl _, h⟩
  | cons x p ih =>
    intro ss h
    cases h with
    | cons x t r =>
      obtain ⟨ss', q1, q2⟩ := ih r
      exact ⟨_ :: ss', q1.cons _, .cons _ _ q2⟩
  | swap x y l =>
    intro ss h
    cases h with
    | cons x t r => cases r with
      | cons x' t' r' => exact ⟨_, List.Perm.swap _ _ _, .cons _ _ (.cons _ _ r')⟩
  | trans p1 p2 ih1 ih2 =>
    intro ss h
    obtain ⟨k1, q1, q2⟩ := ih2 h
    obtain ⟨k2, q3, q4⟩ := ih1 q2
    exact ⟨k2, q3.trans q1, q4⟩
theorem cr_sortedKs (hc : X.calm = true) : CallR X (.builtin "sorted") (rSortedKs X.prog X.w) := by
  intro pins s σ H vs us Q I r h
  obtain ⟨a, ss, rfl, ha, q⟩ := h
  rw [Vals.ref1 r]
  have R := setKs_get I ha
  have sz := R.size
  obtain ⟨o, es, ep, t, ho, hex, hd, pr, nd, hb, hf, hr, hl⟩ := R
  have e : es.size = ss.length := by
    have := (PySem.Paired.length pr).trans Array.length_toList
    rw [List.length_map] at this
    exact this.symm
  have hS := strs_of_ents pr
  -- the order that the walk of the set takes is not known ahead: the sort is asked for each
  refine Calls.call_function_entry kind_sorted plain_sorted entry_sorted (args_sorted1 _) ?_
  unfold Builtin.«sorted»
  refine wpAny_bind (m := checkCount "sorted" 1 1 _) (wpAny_pure (wpAny_bind (collect_set (A := X.A.in1) (I.ok.hd hc) ⟨o, ho, hex.1, hd⟩ hf hb hr hl fun s1 vs k1 z1 g1 o1 pm => ?_)))
  obtain ⟨ss1, pss, hS1⟩ := strsAre_perm pm hS
  have hvl : vs.length ≤ sizeLine := by
    have := hS1.length
    have := pss.length_eq
    have b : scanBound = 4096 := rfl
    rw [sizeLine_eq]; omega
  refine wpAny_bind (wpAny_newList ?_ hvl)
  have at1 : (s1.heap.push (seqObj "list" vs.toArray 0)).get? s1.heap.objs.size = some (seqObj "list" vs.toArray 0) := Heap.get?_push_size _ rfl
  refine wpAny_bind (wpAny_holding (wpAny_call_entry slot_list_sort ⟨_, at1, rfl⟩ entry_list_sort (list_sort_txts at1 hS1 hvl fun out ys h1 h2 h3 => ⟨_, rfl, ?_⟩) (args_list_sort _)))
  obtain ⟨c, hc'⟩ := sortedHeap_at (vs := vs) (out := out) at1
  refine wpAny_pure ⟨_, rfl, ?_⟩
  have kk : Keeps s.heap (sortedHeap (s1.heap.push (seqObj "list" vs.toArray 0)) s1.heap.objs.size vs out) := fun b u e => by
    have q := k1 b u e
    have lt := Heap.lt_size q
    rw [sortedHeap_old (Nat.ne_of_lt lt) (by rw [size_push']; exact Nat.lt_succ_of_lt lt)]
    exact Heap.get?_push_of_some _ q
  have len : (ys.map V.str).length ≤ sizeLine := by rw [List.length_map, h2.length_eq, ← hS1.length]; exact hvl
  have J := Inv.new_at I (s' := { s1 with heap := sortedHeap (s1.heap.push (seqObj "list" vs.toArray 0)) s1.heap.objs.size vs out }) (o := .lst (ys.map V.str)) kk g1 o1 z1 ⟨len, out.toList, c, vals_of_strs h1, hc'⟩
  exact ⟨.ref _, _, J, rfl, q ys _ (h2.trans pss) h3 (I.hok.fresh z1)⟩
end
end Q9
end
-- QPairs
section
set_option maxRecDepth 100000
set_option maxHeartbeats 4000000
namespace Q9
open PySem PySem.Spec PyProof.Rows L2
/-- a row that maps onto a rearranged one is a rearranged row -/
theorem perm_of_map {α β : Type} {f : α → β} {m : List β} {l : List α} (p : m.Perm (l.map f)) : ∃ l' : List α, m = l'.map f ∧ l'.Perm l := by
  generalize e : l.map f = n at p
  induction p generalizing l with
  | nil => exact ⟨[], rfl, by cases l with | nil => exact .refl _ | cons _ _ => cases e⟩
  | @cons x l1 l2 p ih =>
    cases l with
    | nil => cases e
    | cons y l =>
      injection e with e1 e2
      obtain ⟨l', h1, h2⟩ := ih e2
      exact ⟨y :: l', by rw [List.map_cons, ← h1, e1], h2.cons _⟩
  | swap x y l1 =>
    cases l with
    | nil => cases e
    | cons u l =>
      cases l with
      | nil => injection e with _ e2; cases e2
      | cons v l =>
        injection e with e1 e2
        injection e2 with e3 e4
        exact ⟨v :: u :: l, by rw [List.map_cons, List.map_cons, e1, e3, e4], List.Perm.swap _ _ _⟩
  | trans p1 p2 ih1 ih2 =>
    obtain ⟨l2, h1, h2⟩ := ih2 e
    obtain ⟨l3, h3, h4⟩ := ih1 h1.symm
    exact ⟨l3, h3, h4.trans h2⟩
theorem paired_zip {α β : Type} {F : α → β → Prop} : ∀ {l : List α} {m : List β}, Paired F l m → ∀ q ∈ l.zip m, F q.1 q.2
  | _, _, .nil, q, h => by simp at h
  | _, _, .cons r t, q, h => by
    rw [List.zip_cons_cons] at h
    rcases List.mem_cons.mp h with z | z
    · rw [z]; exact r
    · exact paired_zip t q z
abbrev PKey := List (Int ⊕ List Nat)
def pKey (p : Str × Str) : PKey := [.inr p.1.cps.toList, .inr p.2.cps.toList]
theorem pKey_inj {p q : Str × Str} (h : pKey p = pKey q) : p = q := by
  obtain ⟨x, y⟩ := p
  obtain ⟨x', y'⟩ := q
  simp only [pKey, List.cons.injEq, Sum.inr.injEq, and_true] at h
  obtain ⟨h1, h2⟩ := h
  obtain ⟨x⟩ := x; obtain ⟨y⟩ := y; obtain ⟨x'⟩ := x'; obtain ⟨y'⟩ := y'
  simp only [Array.toList_inj] at h1 h2
  rw [h1, h2]
/-- pairs of texts in order -/
def PLe (p q : Str × Str) : Prop := (listOrd itemOrd).kle (pKey p) (pKey q)
def UpP (ps : List (Str × Str)) : Prop := ps.Pairwise PLe
theorem PLe.anti {p q : Str × Str} (h : PLe p q) (h' : PLe q p) : p = q := pKey_inj ((listOrd itemOrd).total _ _ h' h)
/-- two rising rows of the same pairs are one -/
theorem upP_same {ps qs : List (Str × Str)} (p : ps.Perm qs) (h1 : UpP ps) (h2 : UpP qs) : ps = qs :=
  p.eq_of_pairwise (fun a b _ _ => PLe.anti) h1 h2
theorem tle_anti {x y : Str} (h : TLe x y) (h' : TLe y x) : x = y := by
  unfold TLe at h h'
  have e : x.cps.toList = y.cps.toList := List.le_antisymm h h'
  obtain ⟨x⟩ := x; obtain ⟨y⟩ := y
  simp only [Array.toList_inj] at e
  rw [e]
theorem up_same {ps qs : List Str} (p : ps.Perm qs) (h1 : Up ps) (h2 : Up qs) : ps = qs :=
  p.eq_of_pairwise (fun a b _ _ => tle_anti) h1 h2
section
variable {P : Program} {w : World} {A : Around} {E : Value → Shared → Prop} {s : Shared}
/-- v is a tuple of two texts -/
def Pair2 (h : Heap) (v : Value) (p : Str × Str) : Prop := ∃ a o t u n, v = .ref a ∧ h.get? a = some o ∧ o.cls = .type "tuple" ∧ o.data = .seq #[.str p.1 t, .str p.2 u] n
abbrev yes : Nat → Bool := fun _ => true
theorem Pair2.key {h : Heap} {v : Value} {p : Str × Str} (x : Pair2 h v p) : G.tupKeyC h yes v = some (pKey p) := by
  obtain ⟨a, o, t, u, n, rfl, ho, hc, hd⟩ := x
  have e1 : G.isTupObj h (.ref a) = true := by simp [G.isTupObj, ho, hc]
  unfold G.tupKeyC
  rw [if_pos e1]
  simp only [tupKey, ho, hd]
  simp [tupItems, pKey]
theorem pairs_tups {h : Heap} : ∀ {vs : List Value} {ps : List (Str × Str)}, Paired (Pair2 h) vs ps → ∃ fs, TupsOf h yes vs fs
  | _, _, .nil => ⟨[], .nil⟩
  | _, _, .cons r t => by
    obtain ⟨fs, q⟩ := pairs_tups t
    obtain ⟨a, o, tk, u, n, rfl, ho, hc, hd⟩ := r
    exact ⟨_ :: fs, .cons ⟨a, o, _, n, rfl, ho, hc, hd, rfl, (fun z => by cases z), fun _ => ⟨_, _, rfl⟩⟩ q⟩
theorem list_sort_pairs {a n : Nat} {vs : List Value} {ps : List (Str × Str)} {Pf : Fin → Shared → Prop} (ho : s.heap.get? a = some (seqObj "list" vs.toArray n)) (hS : Paired (Pair2 s.heap) vs ps) (hL : vs.length ≤ sizeLine)
    (hP : ∀ (out : Array Value) (vps : List (Value × Str × Str)), out.toList = vps.map (·.1) → vps.Perm (vs.zip ps) → UpP (vps.map (·.2)) → Pf (.done (.ret .none)) { s with heap := sortedHeap s.heap a vs out }) :
    wpAny (model P w) A (Builtin.«list.sort» ⟨[.ref a], []⟩) Pf E s := by
  obtain ⟨fs, ht⟩ := pairs_tups hS
  have each : ∀ v ∈ vs, ∃ p ∈ ps, Pair2 s.heap v p := fun v hv => Paired.mem_l hS v hv
  refine G.list_sort_tups ho ht (fun v hv => let ⟨p, _, q⟩ := each v hv; ⟨_, q.key⟩) hL fun st' hp hs hst => ?_
  have hl : (arrOf st').toList.Perm (vs.zip vs) := by rw [← pairsOf_toList]; exact Array.perm_iff_toList_perm.mp hp
  have len := PySem.Paired.length hS
  -- the pairs, read off the values' keys
  have e0 : (arrOf st').toList.map (·.2) = (arrOf st').toList.map (·.1) := List.map_congr_left fun q hq => (mem_zip_self (hl.mem_iff.mp hq)).1.symm
  have p1 : ((arrOf st').toList.map (·.2)).Perm vs := by
    have q := hl.map (·.2)
    rwa [List.map_snd_zip (Nat.le_refl _)] at q
  have e1 : vs = (vs.zip ps).map (·.1) := (List.map_fst_zip (Nat.le_of_eq len)).symm
  rw [e1] at p1
  obtain ⟨vps, e2, p2⟩ : ∃ vps : List (Value × Str × Str), (arrOf st').toList.map (·.2) = vps.map (·.1) ∧ vps.Perm (vs.zip ps) := by
    clear e1
    generalize vs.zip ps = l at p1
    generalize (arrOf st').toList.map (·.2) = m at p1
    exact perm_of_map p1
  refine hP _ vps (by rw [Array.toList_map]; exact e2) p2 ?_
  have at_ : ∀ q ∈ vps, Pair2 s.heap q.1 q.2 := fun q hq => paired_zip hS q (p2.mem_iff.mp hq)
  have sz : vps.length = (arrOf st').size := by
    have := congrArg List.length e2
    simpa using this.symm
  refine List.pairwise_iff_getElem.mpr fun i j hi hj hij => ?_
  rw [List.length_map] at hi hj
  have q := hs i j (Nat.le_of_lt hij) (by rw [← hp.size_eq, ← sz]; exact hj)
  have key : ∀ m (hm : m < vps.length), KK (G.tupKindC s.heap yes) (arrOf st') m = pKey vps[m].2 := fun m hm => by
    have hm' : m < (arrOf st').size := sz ▸ hm
    have e3 : (arrOf st')[m].1 = vps[m].1 := by
      have z := congrArg (fun l => l[m]?) (e0.symm.trans e2)
      simp only [List.getElem?_map, Array.getElem?_toList, Array.getElem?_eq_getElem hm', List.getElem?_eq_getElem hm, Option.map_some, Option.some.injEq] at z
      exact z
    unfold KK
    rw [Array.getElem?_eq_getElem hm']
    show ((G.tupKeyC s.heap yes (arrOf st')[m].1).getD []) = _
    rw [e3, (at_ _ (List.getElem_mem hm)).key]
    rfl
  rw [key i hi, key j hj] at q
  rw [List.getElem_map, List.getElem_map]
  exact q
end
end Q9
end
-- QPairRules
section
set_option maxRecDepth 100000
set_option maxHeartbeats 4000000
namespace Q9
open PySem PySem.Spec PyProof.Rows L2
section
variable {P : Program} {w : World} {A : Around} {E : Value → Shared → Prop} {s : Shared} {d : Addr} {es : Array DictEntry} {ep : Nat}
/-- the keys of a dict, gathered; the heap grows -/
theorem collect_dict {R : List Value → Shared → Prop} (lo : (d == sysModules) = false) (hh : A.handled = none) (raw : s.heap.DictRaw d es ep) (hn : es.size ≤ sizeLine)
    (hR : ∀ s1, Keeps s.heap s1.heap → s.heap.objs.size ≤ s1.heap.objs.size → s1.gens = s.gens → s1.os = s.os → R (es.toList.map (·.key)) s1) : wpAny (model P w) A (collect (.ref d)) R E s := by
  have src := KdlSrc.rawDict (prog := P) (w := w) (d := d) (es := es) (ep := ep) lo
  have lt := (src.there _ raw).1
  have ne : s.heap.objs.size ≠ d := Nat.ne_of_gt lt
  have fresh : (s.heap.push (seqObj "list" ([] : List Value).toArray 0)).get? s.heap.objs.size = some (seqObj "list" #[] 0) := Heap.get?_push_size _ rfl
  have told : ∀ (acc' : Array Value), ItemsOf (fun i v => ∃ hi : i < es.size, v = es[i].key) acc' es.size → acc'.toList = es.toList.map (·.key) := fun acc' items => by
    apply List.ext_getElem
    · rw [Array.length_toList, items.1, List.length_map, Array.length_toList]
    · intro i h1 h2
      have hi : i < acc'.size := by rw [Array.length_toList] at h1; exact h1
      obtain ⟨hj, e⟩ := items.2 i _ (Array.getElem?_eq_getElem hi)
      rw [Array.getElem_toList, List.getElem_map, Array.getElem_toList, e]
  unfold collect
  refine wpAny_bind (wpAny_runValue (codeAny_builtin entry_proto_collect' ?_))
  rw [Around.under_plainId PySem.F.plain_proto_collect _]
  show wpAny _ A.in1 (newList [] >>= fun l => again (.builtin "list.__iadd__" ⟨[l, .ref d], []⟩)) _ _ s
  refine wpAny_bind (wpAny_newObj_type (wpAny_pure ⟨plainId_quiet PySem.F.plain_list_iadd _, codeAny_builtin entry_list_iadd' ?_⟩))
  rw [Around.under_plainId PySem.F.plain_list_iadd _]
  show wpAny _ A.in1 (Builtin.List.listExtendWith (.ref s.heap.objs.size) (.ref d) (.ref s.heap.objs.size)) _ _ _
  have key := PySem.W.kdl_extend (A := A) (s := { s with heap := s.heap.push (seqObj "list" ([] : List Value).toArray 0) })
    (R := fun (q : Result) (s' : Shared) => ∃ (h' : Heap) (tk : Nat) (acc' : Array Value) (c' : Nat), q = .ok (.ret (.ref s.heap.objs.size)) ∧ s' = { s with heap := h', toks := tk } ∧ Keeps s.heap h' ∧
      h'.get? s.heap.objs.size = some (seqObj "list" acc' c') ∧ acc'.toList = es.toList.map (·.key))
    src hh (src.keep _ _ raw fun b _ o e => Heap.get?_push_of_some _ e) s.heap.objs.size ne ne (.ref s.heap.objs.size) 0 fresh
    (fun h' tk acc' c' k at1 items => ⟨h', tk, acc', c', rfl, rfl, fun b o e => k b o (Nat.ne_of_lt (Heap.lt_size e)) (Heap.get?_push_of_some _ e), at1, told acc' items⟩) hn
  have last : ∀ (q : Result) (s' : Shared), (∃ (h' : Heap) (tk : Nat) (acc' : Array Value) (c' : Nat), q = .ok (.ret (.ref s.heap.objs.size)) ∧ s' = { s with heap := h', toks := tk } ∧ Keeps s.heap h' ∧
      h'.get? s.heap.objs.size = some (seqObj "list" acc' c') ∧ acc'.toList = es.toList.map (·.key)) → ∃ h' tk, s' = { s with heap := h', toks := tk } ∧ q = .ok (.ret (.ref s.heap.objs.size)) ∧
      ∃ acc' c', h'.get? s.heap.objs.size = some (seqObj "list" acc' c') ∧ R acc'.toList s' := fun q s' ⟨h', tk, acc', c', e1, e2, k, at1, ea⟩ => by
    subst e2
    exact ⟨h', tk, rfl, e1, acc', c', at1, by rw [ea]; exact hR { s with heap := h', toks := tk } k (Nat.le_of_lt (Heap.lt_size at1)) rfl rfl⟩
  refine wpAny_mono key (fun f s' x => ?_) fun e s' x => ?_
  · cases f with
    | done f =>
      obtain ⟨h', tk, rfl, e, acc', c', at1, q⟩ := last _ _ x
      cases e
      show wpAny _ A (load s.heap.objs.size >>= _) _ _ _
      exact wpAny_bind (wpAny_load at1 (wpAny_pure q))
    | again c₁ =>
      refine ⟨x.1, codeAny_mono x.2 fun q s₂ y => ?_⟩
      obtain ⟨h', tk, rfl, rfl, acc', c', at1, q⟩ := last _ _ y
      show wpAny _ A (load s.heap.objs.size >>= _) _ _ _
      exact wpAny_bind (wpAny_load at1 (wpAny_pure q))
  · obtain ⟨h', tk, e, q, _⟩ := last _ _ x
    cases q
end
theorem refs_vals : ∀ {l : List Addr} {us : List Value}, Vals (l.map V.ref) us → us = l.map Value.ref
  | [], _, h => by rw [List.map_nil] at h; cases h; rfl
  | a :: l, _, h => by
    rw [List.map_cons] at h
    cases h with
    | cons r t =>
      cases r
      rw [List.map_cons, refs_vals t]
theorem vals_refs : ∀ (l : List Addr), Vals (l.map V.ref) (l.map Value.ref)
  | [] => .nil
  | a :: l => .cons rfl (vals_refs l)
section
variable {X : Cx} {pins : List (Addr × Obj)} {σ : L2.St} {H : Hp} {s : Shared} {a : Addr}
theorem pair2_at (I : Inv X pins σ H s) {p : Addr} {x y : Str} (h : SqT X.K H p [.str x, .str y]) : Pair2 s.heap (.ref p) (x, y) := by
  obtain ⟨its, r, ⟨o, ho, hc, n, hd⟩, _⟩ := I.tuple h
  cases r with
  | cons r1 t => cases t with
    | cons r2 t2 =>
      cases t2
      obtain ⟨t1, rfl⟩ := r1
      obtain ⟨t2, rfl⟩ := r2
      exact ⟨p, o, t1, t2, n, rfl, ho, hc, hd⟩
/-- sorted(xs), xs a list of tuples of two texts -/
def rSortedTT (K : PySem.W.Frag) : List V → Hp → VK → Prop := fun vs H Q => ∃ (a : Addr) (ps : List (Addr × Str × Str)), vs = [V.ref a] ∧ SqL K H a ((ps.map (·.1)).map V.ref) ∧ (∀ p ∈ ps, SqT K H p.1 [.str p.2.1, .str p.2.2]) ∧
  ∀ (qs : List (Addr × Str × Str)) (p : Addr), qs.Perm ps → UpP (qs.map (·.2)) → H p = none → Q (.ref p) (upd H p (.lst ((qs.map (·.1)).map V.ref)))
theorem zip_pairs (ps : List (Addr × Str × Str)) : ((ps.map (·.1)).map Value.ref).zip (ps.map (·.2)) = ps.map fun p => (Value.ref p.1, p.2) := by
  induction ps with
  | nil => rfl
  | cons p ps ih => simp only [List.map_cons, List.zip_cons_cons, ih]
theorem paired_ps {h : Heap} : ∀ {ps : List (Addr × Str × Str)}, (∀ p ∈ ps, Pair2 h (.ref p.1) p.2) → Paired (Pair2 h) ((ps.map (·.1)).map Value.ref) (ps.map (·.2))
  | [], _ => .nil
  | p :: ps, h => .cons (h p List.mem_cons_self) (paired_ps fun q hq => h q (List.mem_cons_of_mem _ hq))
theorem pair2_keep {h h' : Heap} {v : Value} {p : Str × Str} (k : Keeps h h') (x : Pair2 h v p) : Pair2 h' v p := by
  obtain ⟨a, o, t, u, n, e, ho, r⟩ := x
  exact ⟨a, o, t, u, n, e, k _ _ ho, r⟩
theorem paired_keep {h h' : Heap} (k : Keeps h h') {vs : List Value} {ps : List (Str × Str)} (x : Paired (Pair2 h) vs ps) : Paired (Pair2 h') vs ps := L2.Paired.mapP x fun _ _ q => pair2_keep k q
/-- sorted(r), which gathers into the tuples at ps -/
theorem sorted_tt {r : Value} {ps : List (Addr × Str × Str)} {Q : VK} (I : Inv X pins σ H s) (hps : ∀ p ∈ ps, Pair2 s.heap (.ref p.1) p.2) (hL : ps.length ≤ sizeLine)
    (hcol : ∀ (R : List Value → Shared → Prop) (E' : Value → Shared → Prop), (∀ s1, Keeps s.heap s1.heap → s.heap.objs.size ≤ s1.heap.objs.size → s1.gens = s.gens → s1.os = s.os → R ((ps.map (·.1)).map Value.ref) s1) → wpAny (model X.prog X.w) X.A.in1 (collect r) R E' s)
    (hQ : ∀ (qs : List (Addr × Str × Str)) (p : Addr), qs.Perm ps → UpP (qs.map (·.2)) → H p = none → Q (.ref p) (upd H p (.lst ((qs.map (·.1)).map V.ref)))) :
    wpAny (model X.prog X.w) X.A (call (.builtin "sorted") [r]) (EP X pins σ Q) X.xe s := by
  have hl : ((ps.map (·.1)).map Value.ref).length ≤ sizeLine := by simpa using hL
  refine sorted_frame (Good := fun out => ∃ qs : List (Addr × Str × Str), out.toList = (qs.map (·.1)).map Value.ref ∧ qs.Perm ps ∧ UpP (qs.map (·.2))) hl hcol (fun s2 a n A' E' Pf k2 ho hP => ?_) fun s' p out c k g o z hp ⟨qs, h1, h2, h3⟩ => ?_
  · refine list_sort_pairs ho (paired_keep k2 (paired_ps hps)) hl fun out vps h1 h2 h3 => hP out ?_
    rw [zip_pairs] at h2
    obtain ⟨qs, e, pm⟩ := perm_of_map h2
    refine ⟨qs, ?_, pm, ?_⟩
    · rw [h1, e, List.map_map, List.map_map]; rfl
    · rw [e, List.map_map] at h3; exact h3
  · have len : ((qs.map (·.1)).map V.ref).length ≤ sizeLine := by rw [List.length_map, List.length_map, h2.length_eq]; exact hL
    have J := Inv.new_at I (o := .lst ((qs.map (·.1)).map V.ref)) k g o z ⟨len, out.toList, c, by rw [h1]; exact vals_refs _, hp⟩
    exact ⟨.ref p, _, J, rfl, hQ qs p h2 h3 (I.hok.fresh z)⟩
theorem cr_sortedTT : CallR X (.builtin "sorted") (rSortedTT X.K) := by
  intro pins s σ H vs us Q I r h
  obtain ⟨a, ps, rfl, hs, he, q⟩ := h
  rw [Vals.ref1 r]
  obtain ⟨its, rv, pl, hz⟩ := I.list hs
  have e := refs_vals rv
  have hz' : ps.length ≤ sizeLine := by simpa using hz
  refine sorted_tt I (fun p hp => pair2_at I (he p hp)) hz' (fun R E' hR => ?_) q
  have hl : s.heap.IsList a its.toArray := pl.isList
  rw [e] at hl
  exact collect_list hl (hR _ (fun b o e => by rw [Heap.get?_update_other _ _ (Nat.ne_of_gt (Heap.lt_size e))]; exact Heap.get?_push_of_some _ e) (by simp [Heap.size_update, size_push']) rfl rfl)
/-- sorted(d), d a dict whose keys are tuples of two texts -/
def rSortedDT : List V → Hp → VK → Prop := fun vs H Q => ∃ (a : Addr) (kvs : List (List Key × V)) (prs : List (Str × Str)), vs = [V.ref a] ∧ Rd H a (.dT kvs) ∧ kvs.map (·.1) = prs.map (fun p => [.inr p.1, .inr p.2]) ∧
  ∀ (qs : List (Addr × Str × Str)) (p : Addr), (qs.map (·.2)).Perm prs → UpP (qs.map (·.2)) → (∀ q ∈ qs, H q.1 = some (.tup [.str q.2.1, .str q.2.2])) → H p = none → Q (.ref p) (upd H p (.lst ((qs.map (·.1)).map V.ref)))
/-- the tuples that are the keys, told by a dict's table -/
theorem keys_told {H : Hp} : ∀ {kvs : List (List Key × V)} {xs : List (List Key × Addr × Value)} {prs : List (Str × Str)},
    Paired (fun (p : List Key × V) (q : List Key × Addr × Value) => p.1 = q.1 ∧ H q.2.1 = some (.tup (p.1.map kV)) ∧ RelV p.2 q.2.2) kvs xs → kvs.map (·.1) = prs.map (fun p => [.inr p.1, .inr p.2]) →
    ∃ ps : List (Addr × Str × Str), xs.map (fun x => x.2.1) = ps.map (·.1) ∧ ps.map (·.2) = prs ∧ ∀ p ∈ ps, H p.1 = some (.tup [.str p.2.1, .str p.2.2])
  | _, _, prs, .nil, e => by
    cases prs with
    | nil => exact ⟨[], rfl, rfl, fun p h => nomatch h⟩
    | cons _ _ => cases e
  | _, _, prs, .cons r t, e => by
    cases prs with
    | nil => cases e
    | cons pr prs =>
      rw [List.map_cons, List.map_cons] at e
      injection e with e1 e2
      obtain ⟨ps, q1, q2, q3⟩ := keys_told t e2
      obtain ⟨r1, r2, r3⟩ := r
      refine ⟨(_, pr) :: ps, by rw [List.map_cons, List.map_cons, q1], by rw [List.map_cons, q2], fun p hp => ?_⟩
      rcases List.mem_cons.mp hp with z | z
      · rw [z]
        rw [e1] at r2
        exact r2
      · exact q3 p z
theorem cr_sortedDT (hc : X.calm = true) : CallR X (.builtin "sorted") rSortedDT := by
  intro pins s σ H vs us Q I r h
  obtain ⟨a, kvs, prs, rfl, hd, ek, q⟩ := h
  rw [Vals.ref1 r]
  obtain ⟨z, lo, xs, rel, o, es, ep, ho, hx, hdat, hes, nd⟩ := (show ObjOk X.prog X.w H s.heap a (.dT kvs) from rd_of I.hok hd)
  obtain ⟨ps, e1, e2, e3⟩ := keys_told rel ek
  have len : ps.length ≤ sizeLine := by
    have l1 := congrArg List.length e1
    have l2 := PySem.Paired.length rel
    simp only [List.length_map] at l1
    omega
  have raw : s.heap.DictRaw a es ep := ⟨o, ho, hx, hdat⟩
  have sz : es.size = ps.length := by
    have l1 := congrArg List.length e1
    have l3 := congrArg List.length hes
    simp only [List.length_map, Array.length_toList] at l1 l3
    omega
  refine sorted_tt I (fun p hp => pair2_at I (.of (e3 p hp))) len (fun R E' hR => ?_) fun qs p pm up hn => q qs p (by rw [← e2]; exact pm.map _) up (fun w hw => e3 w (pm.mem_iff.mp hw)) hn
  have ea : es.toList.map (·.key) = (ps.map (·.1)).map Value.ref := by
    rw [hes, List.map_map, ← e1, List.map_map]
    rfl
  refine collect_dict lo (I.ok.hd hc) raw (by rw [sz]; exact len) fun s1 k z1 g1 o1 => ?_
  rw [ea]
  exact hR s1 k z1 g1 o1
end
end Q9
end
-- QTop
section
set_option maxRecDepth 100000
set_option maxHeartbeats 4000000
namespace Q9
open PySem L2
def top (i : Nat) : Stmt := PySem.Challenge.pw_rightstate_k91_picks_and_what_is_told_of.main.body.getD i (.Pass ⟨0, 0, 0, 0⟩)
abbrev sIBadKind : Stmt := inClass (top 3) 0
abbrev sIBadHistory : Stmt := inClass (top 4) 0
abbrev sIBadChoices : Stmt := inClass (top 5) 0
abbrev sINoMethod : Stmt := inClass (top 6) 0
abbrev sIMet : Stmt := inClass (top 7) 0
abbrev sIBarred : Stmt := inClass (top 8) 0
abbrev sIWaiting : Stmt := inClass (top 9) 0
abbrev sINoState : Stmt := inClass (top 10) 0
abbrev sIsRow : Stmt := top 13
abbrev sIsName : Stmt := top 14
abbrev sIsError : Stmt := top 15
abbrev sIsWord : Stmt := top 16
abbrev sIsInt : Stmt := top 17
abbrev sUnlike : Stmt := top 18
abbrev sCheckCh : Stmt := top 20
abbrev lMeth (i : Nat) : Stmt := inClass (top 22) i
abbrev sIsKey : Stmt := top 27
abbrev sAreRows : Stmt := top 28
abbrev sPairs : Stmt := top 30
abbrev sRight : Stmt := top 31
abbrev sRead : Stmt := top 32
abbrev sCheckP : Stmt := top 33
abbrev kMeth (i : Nat) : Stmt := inClass (top 34) i
abbrev sSource : Stmt := top 37
abbrev sDraw : Stmt := top 38
abbrev sPick : Stmt := top 39
abbrev sMixed : Stmt := top 40
abbrev sBad : Stmt := top 41
abbrev sRight_ : Stmt := top 42
abbrev sLaw : Stmt := top 43
end Q9
end
-- QLaw
section
set_option maxRecDepth 100000
set_option maxHeartbeats 4000000
namespace Q9
open PySem L2
/-! ### the source of numbers -/
/-- a source: three numbers from 0 on -/
def Well (H : Hp) (l : Addr) : Prop := ∃ a b c : Int, H l = some (.lst [.int a, .int b, .int c]) ∧ 0 ≤ a ∧ 0 ≤ b ∧ 0 ≤ c
def spSource : Sp := fun vs H Q _ => ∃ z : Int, vs = [.int z] ∧ ∀ (l : Addr) (w : HO), H l = none → Well (upd H l w) l → Q (.ref l) (upd H l w)
def spDraw : Sp := fun vs H Q _ => ∃ (l : Addr) (m : Int), vs = [.ref l, .int m] ∧ Well H l ∧ 0 < m ∧ m < 1267650600228229401496703205376 ∧ ∀ (r : Int) (w : HO), 0 ≤ r → r < m → Well (upd H l w) l → Q (.int r) (upd H l w)
structure TLaw (K : PySem.W.Frag) (mg : Str → Option Value) (fD : Addr) : Prop where
  int : mg "int" = none
  len : mg "len" = none
  gD : mg "_law_next" = some (.ref fD)
  kD : PySem.W.keepIn K (.ref fD) = true
section
variable {P : Program} {w : World} {K : PySem.W.Frag} {mg : Str → Option Value} {base : Heap} {fD : Addr}
theorem scS : FnScope ["_law_cell"] ["_law_cell"] (defScope sSource) := ⟨rfl, rfl, rfl, by decide +kernel, rfl, by decide +kernel, by decide +kernel⟩
theorem ok_source {f : Addr} {fd : FuncData} (F : Fun K "_law_source_of" "_law_source_of" sSource f fd) (T : TLaw K mg fD) : FnOk P w K mg base CX0 1 f fd ["_law_cell"] spSource := by
  refine F.ok scS (fun vs H Q E h => ?_) (fun cdv A outer s H vs Q E hr h => ?_)
  · obtain ⟨z, rfl, _⟩ := h
    rfl
  · obtain ⟨z, rfl, k⟩ := h
    refine ⟨_, pss_cons (ps_set (i := 0) scS.nd rfl (.inl rfl) (pe_ifExp (pt_cmpR op_ge (pv 0) pe_int (nomark _)) (pv 0) (pe_op op_sub (pe_op op_sub pe_int (pe_op op_mul pe_int (pv 0))) pe_int)))
      (pss_one (ps_ret (pe_lst (pa_cons (pe_op op_mul (pv 0) (pe_callTy call_int1 (by rfl) T.int (by decide +kernel) (pa_cons (pe_cmpR op_ge (pv 0) (pe_op op_pow pe_int pe_int) (nomark _)) pa_nil)))
        (pa_cons (pe_op op_mod (pe_callTy call_int1 (by rfl) T.int (by decide +kernel) (pa_cons (pv 0) pa_nil)) pe_int) (pa_cons pe_int pa_nil)))))), ?_⟩
    refine ⟨_, rfl, _, _, rfl, rfl, _, rfl, ?_⟩
    have fin : ∀ n : Int, 0 ≤ n → ∀ p, H p = none → Q (.ref p) (upd H p (.lst [.int (n * (if decide (10 ^ (18 : Int).toNat ≤ n) = true then 1 else 0)), .int (n % 2147483647), .int 0])) := fun n hn p hp =>
      k p _ hp ⟨_, _, _, upd_same, by split <;> omega, Int.emod_nonneg _ (by decide), Int.le_refl _⟩
    refine ite2 (fun c => ?_) (fun c => ?_)
    · refine ⟨_, rfl, _, rfl, _, rfl, _, _, rfl, rfl, ⟨by decide, by decide, by decide⟩, _, _, rfl, rfl, .inr ⟨_, rfl, _, _, rfl, rfl, .inr (by split <;> decide), _, rfl, .inl ⟨_, rfl, _, _, rfl, rfl, (by show (0 : Int) < 2147483647; decide), ?_⟩⟩⟩
      exact ⟨by show 3 ≤ sizeLine; decide, fun p hp => fin z (by simpa using c) p hp⟩
    · have c' : ¬ 0 ≤ z := by simpa using c
      refine ⟨_, rfl, _, _, rfl, rfl, .inl ⟨by decide, by decide⟩, _, _, rfl, rfl, _, _, rfl, rfl, ?_⟩
      refine ⟨_, rfl, _, rfl, _, _, rfl, rfl, ⟨by decide, by decide, by decide⟩, _, _, rfl, rfl, .inr ⟨_, rfl, _, _, rfl, rfl, .inr (by split <;> decide), _, rfl, .inl ⟨_, rfl, _, _, rfl, rfl, (by show (0 : Int) < 2147483647; decide), ?_⟩⟩⟩
      exact ⟨by show 3 ≤ sizeLine; decide, fun p hp => fin (0 - 3 * z - 1) (by omega) p hp⟩
theorem scD : FnScope ["_law_source", "_law_many", "_law_found", "_law_number"] ["_law_source", "_law_many"] (defScope sDraw) := ⟨rfl, rfl, rfl, by decide +kernel, rfl, by decide +kernel, by decide +kernel⟩
theorem ok_draw {f : Addr} {fd : FuncData} (F : Fun K "_law_next" "_law_next" sDraw f fd) (T : TLaw K mg fD) : FnOk P w K mg base CX0 1 f fd ["_law_source", "_law_many"] spDraw := by
  refine F.ok scD (fun vs H Q E h => ?_) (fun cdv A outer s H vs Q E hr h => ?_)
  · obtain ⟨l, m, rfl, _⟩ := h
    rfl
  · obtain ⟨l, m, rfl, ⟨a, b, c, hl, ha, hb, hc⟩, m0, m1, k⟩ := h
    refine ⟨_, pss_cons (ps_if (pt_cmpR op_gt (pe_ix ix_list (pv 0) pe_int (fun _ _ => rfl)) pe_int (nomark _))
        (pss_cons (ps_set (i := 2) scD.nd rfl (.inl rfl) (pe_op op_mod (pe_callTy call_int1 (by rfl) T.int (by decide +kernel) (pa_cons (pe_ix ix_list (pv 0) pe_int (fun _ _ => rfl)) pa_nil)) (pv 1)))
        (pss_cons (ps_asg (pe_op op_fdivW (pe_ix ix_list (pv 0) pe_int (fun _ _ => rfl)) (pv 1)) (pg_sub (pv 0) pe_int set_list))
        (pss_one (ps_ret (pv 2))))) pss_nil)
      (pss_cons (ps_asg (pe_op op_add (pe_ix ix_list (pv 0) pe_int (fun _ _ => rfl)) pe_int) (pg_sub (pv 0) pe_int set_list))
      (pss_cons (ps_set (i := 3) scD.nd rfl (.inl rfl) (pe_op op_mod (pe_callTy call_int1 (by rfl) T.int (by decide +kernel) (pa_cons
        (pe_op op_add (pe_op op_add (pe_ix ix_list (pv 0) pe_int (fun _ _ => rfl)) (pe_op op_mul pe_int (pe_ix ix_list (pv 0) pe_int (fun _ _ => rfl)))) pe_int) pa_nil)) pe_int))
      (pss_cons (ps_set (i := 3) scD.nd rfl (.inl rfl) (pe_op op_mod (pe_callTy call_int1 (by rfl) T.int (by decide +kernel) (pa_cons (pe_op op_mul (pv 3) pe_int) pa_nil)) pe_int))
      (pss_cons (ps_set (i := 3) scD.nd rfl (.inl rfl) (pe_op op_mod (pe_callTy call_int1 (by rfl) T.int (by decide +kernel) (pa_cons
        (pe_op op_mul (pv 3) (pe_op op_add (pe_op op_fdiv (pv 3) pe_int) pe_int)) pa_nil)) pe_int))
      (pss_cons (ps_set (i := 3) scD.nd rfl (.inl rfl) (pe_op op_mod (pe_callTy call_int1 (by rfl) T.int (by decide +kernel) (pa_cons
        (pe_op op_mul (pv 3) (pe_op op_add (pe_op op_fdiv (pv 3) pe_int) pe_int)) pa_nil)) pe_int))
      (pss_one (ps_ret (pe_op op_mod (pe_callTy call_int1 (by rfl) T.int (by decide +kernel) (pa_cons (pe_op op_fdiv (pv 3) pe_int) pa_nil)) (pv 1))))))))), ?_⟩
    refine ⟨_, rfl, l, _, _, _, rfl, rfl, SqL.of hl, atI_nat (j := 0) rfl, _, _, rfl, rfl, _, rfl, ?_⟩
    refine ite2 (fun c0 => ?_) (fun c0 => ?_)
    · have hm : m.natAbs < 2 ^ 100 := by
        have : (2 : Nat) ^ 100 = 1267650600228229401496703205376 := by decide
        omega
      refine ⟨_, rfl, l, _, _, _, rfl, rfl, SqL.of hl, atI_nat (j := 0) rfl, .inl ⟨_, rfl, _, rfl, _, _, rfl, rfl, m0, ?_⟩⟩
      refine ⟨_, rfl, l, _, _, _, rfl, rfl, SqL.of hl, atI_nat (j := 0) rfl, _, rfl, _, _, rfl, rfl, wide_div (b := 100) m0 hm (by decide) (by decide), ?_⟩
      refine ⟨_, rfl, l, _, _, 0, rfl, rfl, hl, rfl, ?_⟩
      exact ⟨_, rfl, k _ _ (Int.emod_nonneg _ (by omega)) (Int.emod_lt_of_pos _ m0) ⟨_, _, _, upd_same, Int.ediv_nonneg ha (by omega), hb, hc⟩⟩
    · refine ⟨_, rfl, l, _, _, _, rfl, rfl, SqL.of hl, atI_nat (j := 2) rfl, _, _, rfl, rfl, _, rfl, l, _, _, 2, rfl, rfl, hl, rfl, ?_⟩
      generalize hH : upd H l _ = H1
      have h1 : H1 l = some (.lst [.int a, .int b, .int (c + 1)]) := by rw [← hH]; exact upd_same
      refine ⟨_, rfl, l, _, _, _, rfl, rfl, SqL.of h1, atI_nat (j := 1) rfl, _, rfl, l, _, _, _, rfl, rfl, SqL.of h1, atI_nat (j := 2) rfl, _, _, rfl, rfl, .inl ⟨by decide, by decide⟩, _, _, rfl, rfl, _, _, rfl, rfl,
        .inl ⟨_, rfl, _, _, rfl, rfl, (by show (0 : Int) < 2147483647; decide), ?_⟩⟩
      generalize hn : (b + 104729 * (c + 1) + 7919) % 2147483647 = n
      have n0 : 0 ≤ n := by omega
      have n1 : n < 2147483647 := by omega
      refine ⟨_, rfl, _, _, rfl, rfl, .inr ⟨by decide, by decide⟩, .inl ⟨_, rfl, _, _, rfl, rfl, (by show (0 : Int) < 2147483647; decide), ?_⟩⟩
      generalize hn2 : n * 48271 % 2147483647 = n2
      have n3 : 0 ≤ n2 := by rw [← hn2]; exact Int.emod_nonneg _ (by decide)
      have n4 : n2 < 2147483647 := by rw [← hn2]; exact Int.emod_lt_of_pos _ (by decide)
      refine ⟨_, rfl, _, rfl, _, _, rfl, rfl, ⟨by decide, by decide⟩, _, _, rfl, rfl, _, _, rfl, rfl, .inl ⟨by omega, by omega⟩, .inl ⟨_, rfl, _, _, rfl, rfl, (by show (0 : Int) < 2147483647; decide), ?_⟩⟩
      generalize hn5 : n2 * (n2 / 1009 + 69621) % 2147483647 = n5
      have n6 : 0 ≤ n5 := by rw [← hn5]; exact Int.emod_nonneg _ (by decide)
      have n7 : n5 < 2147483647 := by rw [← hn5]; exact Int.emod_lt_of_pos _ (by decide)
      refine ⟨_, rfl, _, rfl, _, _, rfl, rfl, ⟨by decide, by decide⟩, _, _, rfl, rfl, _, _, rfl, rfl, .inl ⟨by omega, by omega⟩, .inl ⟨_, rfl, _, _, rfl, rfl, (by show (0 : Int) < 2147483399; decide), ?_⟩⟩
      refine ⟨_, rfl, _, _, rfl, rfl, ⟨by decide, by decide⟩, .inl ⟨_, rfl, _, rfl, _, _, rfl, rfl, m0, ?_⟩⟩
      rw [← hH]
      exact k _ _ (Int.emod_nonneg _ (by omega)) (Int.emod_lt_of_pos _ m0) ⟨_, _, _, upd_same, ha, hb, by omega⟩
end
end Q9
end
-- QForms
section
set_option maxRecDepth 100000
set_option maxHeartbeats 4000000
namespace Q9
open PySem L2
/-! ### the mirror -/
abbrev Letters : Str := "abcdefghijklmnopqrstuvwxyz"
abbrev Capitals : Str := "ABCDEFGHIJKLMNOPQRSTUVWXYZ"
def nameB (z : Str) : Bool := decide ((z.length : Int) ≤ 8) && (Txt.isascii z && (Txt.isalpha z && Txt.islower z))
def errorB (z : Str) : Bool := decide ((z.length : Int) ≤ 8) && (Txt.isascii z && (Txt.isalpha z && Txt.isupper z))
def wordB (z : Str) : Bool := errorB z || (decide (z = "yes") || decide (z = "no"))
/-! ### the promises: each new heap has all that stood -/
/-- x is a list or a tuple of xs -/
def Row (K : PySem.W.Frag) (H : Hp) (x : V) (xs : List V) : Prop := ∃ a, x = .ref a ∧ (SqL K H a xs ∨ SqT K H a xs)
/-- x is of the built-in type T, or whatever t -/
def OfTy (K : PySem.W.Frag) (H : Hp) (x : V) (T : String) (b : Bool) : Prop := ∃ t, TyX K H x t ∧ PySem.W.kitOne K t (.type T) = some b
def spIsRow (K : PySem.W.Frag) : Sp := fun vs H Q _ => ∃ x, vs = [x] ∧ ((∃ xs, Row K H x xs ∧ ∀ H', Same H H' → Q (.bl true) H') ∨ ∃ t, TyX K H x t ∧ PySem.W.kitOne K t (.type "list") = some false ∧ PySem.W.kitOne K t (.type "tuple") = some false ∧ ∀ H', Same H H' → Q (.bl false) H')
structure TForm (K : PySem.W.Frag) (mg : Str → Option Value) (fRow : Addr) : Prop where
  isi : mg "isinstance" = none
  lst : mg "list" = none
  tup : mg "tuple" = none
  str : mg "str" = none
  len : mg "len" = none
  all : mg "all" = none
  set : mg "set" = none
  most : ∃ t, mg "MOST_SIGNS" = some (.int 8 t)
  gRow : mg "is_row" = some (.ref fRow)
  kRow : PySem.W.keepIn K (.ref fRow) = true
theorem row_up {K : PySem.W.Frag} {H H' : Hp} {x : V} {xs : List V} (s : Same H H') (r : Row K H x xs) : Row K H' x xs := by
  obtain ⟨a, e, r⟩ := r
  refine ⟨a, e, r.imp (fun h => s.seq h) fun h => ?_⟩
  rcases h with (h | ⟨o, h⟩) | h
  · exact .inl (.inl (s _ _ h))
  · exact .inl (.inr ⟨o, s _ _ h⟩)
  · exact .inr h
theorem same_upd {H : Hp} {p : Addr} {o : HO} (h : H p = none) : Same H (upd H p o) := fun b u e => by rw [upd_ne (ne_of_none e h)]; exact e
/-! ### a row walked, be it a list or a tuple -/
def iRow (K : PySem.W.Frag) (tl : TE) : TI := fun σ H R => tl σ H fun x H1 => ∃ xs, Row K H1 x xs ∧ ∀ (J : It) (G : Hp → Prop), (∀ H', Same H1 H' → G H') → Walk J xs.length G (YAt xs) → R J H1
theorem pi_row {X : Cx} {tg l : Expr} {tl : TE} (hl : PE X l tl) : PI X tg l (iRow X.K tl) := by
  refine ⟨fun pins s σ H R I h => ?_⟩
  refine thn (hl.run pins s σ H _ I h) fun v s1 ⟨x, H1, I1, r1, xs, ⟨a, e, hq⟩, q⟩ => ?_
  subst e
  cases r1
  have one : ∀ b ∈ [s1.heap.objs.size], FpOk X pins H1 b := fun b hb => by
    obtain rfl : b = s1.heap.objs.size := by simpa using hb
    exact I1.fpOk (Nat.le_refl _) (I1.hok.fresh (Nat.le_refl _))
  rcases hq with hq | hq
  · obtain ⟨its, rv, p, hz⟩ := I1.list hq
    exact PySem.wpAny_pyIter_list p.isList ⟨s1.heap.objs.size, [s1.heap.objs.size], _, _, H1, rfl, I1.kept (t' := s1.toks) fun b o e => Heap.get?_push_of_some _ e, turn_list a _, ⟨_, Heap.get?_push_size _ rfl, rfl, rfl⟩, one,
      q _ (fun H' => SqL X.K H' a xs) (fun H' s => s.seq hq) walk_list⟩
  · obtain ⟨its, rv, p, hz⟩ := I1.tuple hq
    refine PySem.wpAny_pyIter_tuple (show s1.heap.IsTuple a its.toArray from p) ⟨s1.heap.objs.size, [s1.heap.objs.size], _, _, H1, rfl, I1.kept (t' := s1.toks) fun b o e => Heap.get?_push_of_some _ e, turn_tuple a _, ⟨_, Heap.get?_push_size _ rfl, rfl, rfl⟩, one,
      q _ (fun H' => SqT X.K H' a xs) (fun H' s => ?_) walk_tup⟩
    rcases hq with (h | ⟨o, h⟩) | h
    · exact .inl (.inl (s _ _ h))
    · exact .inl (.inr ⟨o, s _ _ h⟩)
    · exact .inr h
/-- len of a list or a tuple -/
def rLenRow (K : PySem.W.Frag) : List V → Hp → VK → Prop := fun vs H Q => ∃ (x : V) (xs : List V), vs = [x] ∧ Row K H x xs ∧ Q (.int xs.length) H
theorem cr_lenRow {X : Cx} : CallR X (.builtin "len") (rLenRow X.K) := by
  intro pins s σ H vs us Q I r h
  obtain ⟨x, xs, rfl, ⟨a, rfl, hq⟩, q⟩ := h
  exact call_len_seq pins s σ H _ us Q I r ⟨a, xs, rfl, hq, q⟩
/-! ### how many unlike ones -/
theorem nodup_le {α : Type} [DecidableEq α] : ∀ (ks l : List α), ks.Nodup → (∀ k ∈ ks, k ∈ l) → ks.length ≤ l.length
  | [], _, _, _ => Nat.zero_le _
  | k :: ks, l, nd, sub => by
    obtain ⟨h1, h2⟩ := List.nodup_cons.mp nd
    have hk := sub k List.mem_cons_self
    have ih := nodup_le ks (l.erase k) h2 fun j hj => (List.mem_erase_of_ne (fun (e : j = k) => h1 (e ▸ hj))).mpr (sub j (List.mem_cons_of_mem _ hj))
    rw [List.length_erase_of_mem hk] at ih
    have := List.length_pos_of_mem hk
    rw [List.length_cons]
    omega
theorem shorter {α : Type} [DecidableEq α] : ∀ l : List α, ¬ l.Nodup → ∃ l' : List α, (∀ k ∈ l, k ∈ l') ∧ l'.length < l.length
  | [], h => (h List.nodup_nil).elim
  | x :: r, h => by
    by_cases hx : x ∈ r
    · exact ⟨r, fun k hk => (List.mem_cons.mp hk).elim (fun e => e ▸ hx) id, Nat.lt_succ_self _⟩
    · obtain ⟨r', h1, h2⟩ := shorter r fun nd => h (List.nodup_cons.mpr ⟨hx, nd⟩)
      exact ⟨x :: r', fun k hk => (List.mem_cons.mp hk).elim (fun e => e ▸ List.mem_cons_self) fun z => List.mem_cons_of_mem _ (h1 k z), by simpa using h2⟩
/-- as many unlike ones as there are: no one twice -/
theorem unlike_len {α : Type} [DecidableEq α] {ks l : List α} (nd : ks.Nodup) (e : ∀ k, k ∈ ks ↔ k ∈ l) : ks.length = l.length ↔ l.Nodup := by
  constructor
  · intro h
    by_cases n : l.Nodup
    · exact n
    · obtain ⟨l', h1, h2⟩ := shorter l n
      have := nodup_le ks l' nd fun k hk => h1 k ((e k).1 hk)
      omega
  · intro n
    exact Nat.le_antisymm (nodup_le ks l nd fun k hk => (e k).1 hk) (nodup_le l ks n fun k hk => (e k).2 hk)
theorem fewIn_of_len {l : List Key} (h : l.length + 1 < scanBound) : FewIn l := fun ks nd sub => Nat.lt_of_le_of_lt (Nat.succ_le_succ (nodup_le ks l nd sub)) h
theorem nodup_map_inr (ss : List Str) : (ss.map (Sum.inr : Str → Key)).Nodup ↔ ss.Nodup := by
  constructor
  · intro h
    exact List.Pairwise.of_map _ (fun _ _ ne e => ne (congrArg _ e)) h
  · intro h
    exact List.Pairwise.map _ (fun _ _ ne e => ne (Sum.inr.inj e)) h
section
variable {P : Program} {w : World} {K : PySem.W.Frag} {mg : Str → Option Value} {base : Heap} {fRow : Addr}
theorem row_ty {H : Hp} {x : V} {xs : List V} (r : Row K H x xs) : TyX K H x (.type "list") ∨ TyX K H x (.type "tuple") := by
  obtain ⟨a, rfl, r | r⟩ := r
  · left
    rcases r with (h | ⟨o, h⟩) | ⟨o, its, n, h1, h2, _⟩
    · exact .base (.lst h)
    · exact .base (.frz h)
    · exact .kList h1 h2
  · right
    rcases r with (h | ⟨o, h⟩) | ⟨o, its, n, h1, h2, _⟩
    · exact .base (.tup h)
    · exact .fTuple h
    · exact .kTuple h1 h2
theorem same_ty {H H' : Hp} {x : V} {t : Value} (s : Same H H') (ty : TyX K H x t) : TyX K H' x t := by
  cases ty with
  | base b => exact .base (by
      cases b with
      | non => exact .non
      | bl y => exact .bl y
      | int i => exact .int i
      | str y => exact .str y
      | flt y => exact .flt y
      | lst e => exact .lst (s _ _ e)
      | frz e => exact .frz (s _ _ e)
      | tup e => exact .tup (s _ _ e)
      | dK e => exact .dK (s _ _ e)
      | dT e => exact .dT (s _ _ e)
      | ins e cl ha hn htk hm => exact .ins (s _ _ e) cl ha hn htk hm)
  | byt b => exact .byt b
  | set e => exact .set (s _ _ e)
  | kList e c => exact .kList e c
  | kTuple e c => exact .kTuple e c
  | kDict e c => exact .kDict e c
  | fTuple e => exact .fTuple (s _ _ e)
  | fDict e => exact .fDict (s _ _ e)
theorem scRow : FnScope ["thing"] ["thing"] (defScope sIsRow) := ⟨rfl, rfl, rfl, by decide +kernel, rfl, by decide +kernel, by decide +kernel⟩
theorem ok_row {f : Addr} {fd : FuncData} (F : Fun K "is_row" "is_row" sIsRow f fd) (T : TForm K mg fRow) : FnOk P w K mg base CX0 1 f fd ["thing"] (spIsRow K) := by
  refine F.ok scRow (fun vs H Q E h => ?_) (fun cdv A outer s H vs Q E hr h => ?_)
  · obtain ⟨x, rfl, _⟩ := h
    rfl
  · obtain ⟨x, rfl, h⟩ := h
    refine ⟨_, pss_one (ps_ret (pe_callB call_isiT (by rfl) T.isi (by decide +kernel) (pa_cons (pv 0) (pa_cons (pe_tup (pa_cons (pe_bltn (v := .ty "list") (by rfl) T.lst (by decide +kernel) rfl) (pa_cons (pe_bltn (v := .ty "tuple") (by rfl) T.tup (by decide +kernel) rfl) pa_nil))) pa_nil)))), ?_⟩
    refine ⟨_, rfl, (by show 2 ≤ sizeLine; decide), fun t ht => ?_⟩
    have sm := same_upd (o := .tup [.ty "list", .ty "tuple"]) ht
    have pr : Paired ClsV [V.ty "list", V.ty "tuple"] [Value.type "list", Value.type "tuple"] := .cons (.ty _) (.cons (.ty _) .nil)
    rcases h with ⟨xs, r, q⟩ | ⟨tt, ty, e1, e2, q⟩
    · rcases row_ty r with ty | ty
      · exact ⟨x, t, _, _, _, true, rfl, upd_same, pr, same_ty sm ty, kitAny_cons (b := true) (kit_ty (by decide +kernel)) (fun z => nomatch z) fun _ => rfl, q _ sm⟩
      · exact ⟨x, t, _, _, _, true, rfl, upd_same, pr, same_ty sm ty, kitAny_cons (b := false) (kit_ty (by decide +kernel)) (fun _ => kitAny_cons (b := true) (kit_ty (by decide +kernel)) (fun z => nomatch z) fun _ => rfl) (fun z => nomatch z), q _ sm⟩
    · exact ⟨x, t, _, _, _, false, rfl, upd_same, pr, same_ty sm ty, kitAny_cons e1 (fun _ => kitAny_cons e2 (fun _ => kitAny_nil) (fun z => nomatch z)) (fun z => nomatch z), q _ sm⟩
end
end Q9
end
-- QForms2
section
set_option maxRecDepth 100000
set_option maxHeartbeats 4000000
namespace Q9
open PySem L2
def spIsPair (K : PySem.W.Frag) : Sp := fun vs H Q _ => ∃ x, vs = [x] ∧ ((∃ xs, Row K H x xs ∧ ∀ H', Same H H' → Q (.bl (decide (xs.length = 2))) H') ∨ ∃ t, TyX K H x t ∧ PySem.W.kitOne K t (.type "list") = some false ∧ PySem.W.kitOne K t (.type "tuple") = some false ∧ ∀ H', Same H H' → Q (.bl false) H')
def spForm (K : PySem.W.Frag) (p : Str → Bool) : Sp := fun vs H Q _ => ∃ x, vs = [x] ∧ ((∃ z, x = .str z ∧ z.length ≤ sizeLine ∧ ∀ H', Same H H' → Q (.bl (p z)) H') ∨ (OfTy K H x "str" false ∧ ∀ H', Same H H' → Q (.bl false) H'))
/-- a row of texts: are all of the form, no one twice -/
def spUnlike (K : PySem.W.Frag) (p : Str → Bool) : Sp := fun vs H Q _ => ∃ (x : V) (ss : List Str), vs = [x] ∧ Row K H x (ss.map V.str) ∧ (∀ z ∈ ss, z.length ≤ sizeLine) ∧ ss.length + 1 < scanBound ∧ ∀ H', Same H H' → Q (.bl (ss.all p && decide ss.Nodup)) H'
section
variable {P : Program} {w : World} {K : PySem.W.Frag} {mg : Str → Option Value} {base : Heap} {fRow fName fError : Addr}
theorem scName : FnScope ["thing"] ["thing"] (defScope sIsName) := ⟨rfl, rfl, rfl, by decide +kernel, rfl, by decide +kernel, by decide +kernel⟩
theorem ok_name {f : Addr} {fd : FuncData} (F : Fun K "is_name" "is_name" sIsName f fd) (T : TForm K mg fRow) : FnOk P w K mg base CX0 2 f fd ["thing"] (spForm K nameB) := by
  refine F.ok scName (fun vs H Q E h => ?_) (fun cdv A outer s H vs Q E hr h => ?_)
  · obtain ⟨x, rfl, _⟩ := h
    rfl
  · obtain ⟨x, rfl, h⟩ := h
    obtain ⟨tm, hm⟩ := T.most
    refine ⟨_, pss_one (ps_ret (pe_and (pe_callB call_isi (by rfl) T.isi (by decide +kernel) (pa_cons (pv 0) (pa_cons (pe_bltn (v := .ty "str") (by rfl) T.str (by decide +kernel) rfl) pa_nil)))
      (pe_and (pe_cmpR op_le (pe_callB call_len_str (by rfl) T.len (by decide +kernel) (pa_cons (pv 0) pa_nil)) (pe_glob (v := .int 8) (by rfl) hm ⟨_, rfl⟩) (nomark _))
      (pe_and (pe_m0 PySem.F.slot_str_isascii PySem.F.type_str_isascii mt_isascii (pv 0))
      (pe_and (pe_m0 PySem.F.slot_str_isalpha PySem.F.type_str_isalpha mt_isalpha (pv 0))
      (pe_one (pe_m0 PySem.F.slot_str_islower PySem.F.type_str_islower mt_islower (pv 0)))))))), ?_⟩
    rcases h with ⟨z, rfl, hz, q⟩ | ⟨⟨t, ty, e⟩, q⟩
    · have q' := q H (Same.refl H)
      unfold nameB at q'
      refine ⟨_, rfl, _, _, _, _, true, rfl, .ty _, .base (.str z), kit_ty (by decide +kernel), true, rfl, iteT ?_⟩
      refine ⟨_, rfl, z, rfl, hz, _, _, rfl, rfl, _, rfl, ?_⟩
      cases c1 : decide ((z.length : Int) ≤ 8) with
      | false => rw [c1] at q'; exact iteF q'
      | true =>
        rw [c1, Bool.true_and] at q'
        refine iteT ⟨_, rfl, ⟨_, rfl⟩, z, rfl, rfl, trivial, _, rfl, ?_⟩
        cases c2 : Txt.isascii z with
        | false => rw [c2] at q'; exact iteF q'
        | true =>
          rw [c2, Bool.true_and] at q'
          refine iteT ⟨_, rfl, ⟨_, rfl⟩, z, rfl, rfl, trivial, _, rfl, ?_⟩
          cases c3 : Txt.isalpha z with
          | false => rw [c3] at q'; exact iteF q'
          | true =>
            rw [c3, Bool.true_and] at q'
            exact iteT ⟨_, rfl, ⟨_, rfl⟩, z, rfl, rfl, trivial, q'⟩
    · exact ⟨_, rfl, _, _, _, _, false, rfl, .ty _, ty, e, false, rfl, iteF (q H (Same.refl H))⟩
theorem scError : FnScope ["thing"] ["thing"] (defScope sIsError) := ⟨rfl, rfl, rfl, by decide +kernel, rfl, by decide +kernel, by decide +kernel⟩
theorem ok_error {f : Addr} {fd : FuncData} (F : Fun K "is_error" "is_error" sIsError f fd) (T : TForm K mg fRow) : FnOk P w K mg base CX0 2 f fd ["thing"] (spForm K errorB) := by
  refine F.ok scError (fun vs H Q E h => ?_) (fun cdv A outer s H vs Q E hr h => ?_)
  · obtain ⟨x, rfl, _⟩ := h
    rfl
  · obtain ⟨x, rfl, h⟩ := h
    obtain ⟨tm, hm⟩ := T.most
    refine ⟨_, pss_one (ps_ret (pe_and (pe_callB call_isi (by rfl) T.isi (by decide +kernel) (pa_cons (pv 0) (pa_cons (pe_bltn (v := .ty "str") (by rfl) T.str (by decide +kernel) rfl) pa_nil)))
      (pe_and (pe_cmpR op_le (pe_callB call_len_str (by rfl) T.len (by decide +kernel) (pa_cons (pv 0) pa_nil)) (pe_glob (v := .int 8) (by rfl) hm ⟨_, rfl⟩) (nomark _))
      (pe_and (pe_m0 PySem.F.slot_str_isascii PySem.F.type_str_isascii mt_isascii (pv 0))
      (pe_and (pe_m0 PySem.F.slot_str_isalpha PySem.F.type_str_isalpha mt_isalpha (pv 0))
      (pe_one (pe_m0 PySem.F.slot_str_isupper PySem.F.type_str_isupper mt_isupper (pv 0)))))))), ?_⟩
    rcases h with ⟨z, rfl, hz, q⟩ | ⟨⟨t, ty, e⟩, q⟩
    · have q' := q H (Same.refl H)
      unfold errorB at q'
      refine ⟨_, rfl, _, _, _, _, true, rfl, .ty _, .base (.str z), kit_ty (by decide +kernel), true, rfl, iteT ?_⟩
      refine ⟨_, rfl, z, rfl, hz, _, _, rfl, rfl, _, rfl, ?_⟩
      cases c1 : decide ((z.length : Int) ≤ 8) with
      | false => rw [c1] at q'; exact iteF q'
      | true =>
        rw [c1, Bool.true_and] at q'
        refine iteT ⟨_, rfl, ⟨_, rfl⟩, z, rfl, rfl, trivial, _, rfl, ?_⟩
        cases c2 : Txt.isascii z with
        | false => rw [c2] at q'; exact iteF q'
        | true =>
          rw [c2, Bool.true_and] at q'
          refine iteT ⟨_, rfl, ⟨_, rfl⟩, z, rfl, rfl, trivial, _, rfl, ?_⟩
          cases c3 : Txt.isalpha z with
          | false => rw [c3] at q'; exact iteF q'
          | true =>
            rw [c3, Bool.true_and] at q'
            exact iteT ⟨_, rfl, ⟨_, rfl⟩, z, rfl, rfl, trivial, q'⟩
    · exact ⟨_, rfl, _, _, _, _, false, rfl, .ty _, ty, e, false, rfl, iteF (q H (Same.refl H))⟩
theorem scWord : FnScope ["thing"] ["thing"] (defScope sIsWord) := ⟨rfl, rfl, rfl, by decide +kernel, rfl, by decide +kernel, by decide +kernel⟩
theorem ok_word {f : Addr} {fd fdE : FuncData} (F : Fun K "is_word" "is_word" sIsWord f fd) (T : TForm K mg fRow) (gE : mg "is_error" = some (.ref fError)) (kE : PySem.W.keepIn K (.ref fError) = true)
    (G : FnOk P w K mg base CX0 2 fError fdE ["thing"] (spForm K errorB)) (b : Binds K fdE ["thing"] []) : FnOk P w K mg base CX0 3 f fd ["thing"] (spForm K wordB) := by
  refine F.ok scWord (fun vs H Q E h => ?_) (fun cdv A outer s H vs Q E hr h => ?_)
  · obtain ⟨x, rfl, _⟩ := h
    rfl
  · obtain ⟨x, rfl, h⟩ := h
    refine ⟨_, pss_one (ps_ret (pe_or (pe_call G hr (by rfl) gE kE b .nil pass0 (pa_cons (pv 0) pa_nil)) (pe_one (pe_and (pe_callB call_isi (by rfl) T.isi (by decide +kernel) (pa_cons (pv 0) (pa_cons (pe_bltn (v := .ty "str") (by rfl) T.str (by decide +kernel) rfl) pa_nil)))
      (pe_one (pe_cmpR op_in_seq (pv 0) (pe_tup (pa_cons pe_str (pa_cons pe_str pa_nil))) (by rfl))))))), ?_⟩
    rcases h with ⟨z, rfl, hz, q⟩ | ⟨⟨t, ty, e⟩, q⟩
    · refine ⟨_, rfl, _, rfl, .inl ⟨z, rfl, hz, fun H' sm => ⟨_, rfl, ?_⟩⟩⟩
      refine ite2 (fun c => ?_) (fun c => ?_)
      · have e : wordB z = true := by unfold wordB; rw [c, Bool.true_or]
        rw [e] at q
        exact q H' sm
      · have e : wordB z = (decide (z = "yes") || decide (z = "no")) := by unfold wordB; rw [Bool.eq_false_iff.mpr c, Bool.false_or]
        rw [e] at q
        refine ⟨_, rfl, _, _, _, _, true, rfl, .ty _, .base (.str z), kit_ty (by decide +kernel), true, rfl, iteT ⟨_, rfl, (by show 2 ≤ sizeLine; decide), fun t ht => ?_⟩⟩
        refine ⟨t, _, rfl, .inr (.of upd_same), rfl, rfl, ?_⟩
        have e3 : inV (V.str z) [V.str "yes", V.str "no"] = (decide (z = "yes") || decide (z = "no")) := by
          show (("yes" : Str) == z || (("no" : Str) == z || false)) = _
          rw [Bool.or_false]
          congr 1 <;> (rw [Bool.beq_eq_decide_eq]; exact decide_eq_decide.mpr eq_comm)
        show Q (.bl (inV (V.str z) [V.str "yes", V.str "no"])) _
        rw [e3]
        exact q _ (sm.trans (same_upd ht))
    · refine ⟨_, rfl, _, rfl, .inr ⟨⟨t, ty, e⟩, fun H' sm => ⟨false, rfl, iteF ?_⟩⟩⟩
      exact ⟨_, rfl, _, _, _, _, false, rfl, .ty _, same_ty sm ty, e, false, rfl, iteF (q H' sm)⟩
theorem scUn : FnScope ["thing", "one"] ["thing"] (defScope sUnlike) := ⟨rfl, rfl, rfl, by decide +kernel, rfl, by decide +kernel, by decide +kernel⟩
theorem ok_unlike {f : Addr} {fd fdR fdN : FuncData} (F : Fun K "are_unlike_names" "are_unlike_names" sUnlike f fd) (T : TForm K mg fRow) (gN : mg "is_name" = some (.ref fName)) (kN : PySem.W.keepIn K (.ref fName) = true)
    (GR : FnOk P w K mg base CX0 1 fRow fdR ["thing"] (spIsRow K)) (bR : Binds K fdR ["thing"] []) (GN : FnOk P w K mg base CX0 2 fName fdN ["thing"] (spForm K nameB)) (bN : Binds K fdN ["thing"] []) : FnOk P w K mg base CX0 3 f fd ["thing"] (spUnlike K nameB) := by
  refine F.ok scUn (fun vs H Q E h => ?_) (fun cdv A outer s H vs Q E hr h => ?_)
  · obtain ⟨x, ss, rfl, _⟩ := h
    rfl
  · obtain ⟨x, ss, rfl, r, hz, hl, q⟩ := h
    refine ⟨_, pss_one (ps_ret (pe_and (pe_call GR (hr.mono (by decide)) (by rfl) T.gRow T.kRow bR .nil pass0 (pa_cons (pv 0) pa_nil))
      (pe_and (pe_callB (cr_all rfl) (by rfl) T.all (by decide +kernel) (pa_cons
        (pe_lc (own := [("one", 1)]) (g := gName 1) (tt := tYes) rfl scUn.nd (pi_row (pv 0)) (blkOk_by (own := [("one", 1)]) (N := ["thing", "one"]) (sc := defScope sUnlike) (by decide +kernel))
          (fun _ _ _ _ _ => pg_name (i := 1) scUn.nd rfl (.inl rfl)) (fun _ _ _ _ _ => pts_nil) (fun _ _ _ _ _ => pe_call GN hr (by rfl) gN kN bN .nil pass0 (pa_cons (pv 1) pa_nil))) pa_nil))
      (pe_one (pe_cmpR op_eq (pe_callB cr_lenKs (by rfl) T.len (by decide +kernel) (pa_cons (pe_callTy (cr_setOf rfl) (by rfl) T.set (by decide +kernel) (pa_cons (pv 0) pa_nil)) pa_nil)) (pe_callB cr_lenRow (by rfl) T.len (by decide +kernel) (pa_cons (pv 0) pa_nil)) (nomark _)))))), ?_⟩
    refine ⟨_, rfl, x, rfl, .inl ⟨_, r, fun H1 s1 => ⟨true, rfl, iteT ?_⟩⟩⟩
    refine ⟨_, rfl, _, row_up s1 r, fun J G hG wk D hD => ?_⟩
    rw [List.length_map] at wk
    refine lc_it wk (fun i H' => Same H1 H' ∧ H' D = some (.lst (((ss.take i).map nameB).map V.bl))) ⟨same_upd hD, upd_same⟩ (fun _ _ _ p => hG _ p.1) ?_ ?_
    · rintro i v H2 H3 hi ⟨sm, hl'⟩ ⟨rfl, hv⟩
      rw [List.getElem?_map] at hv
      obtain ⟨z, hz1, rfl⟩ := Option.map_eq_some_iff.mp hv
      refine ⟨rfl, _, rfl, _, rfl, .inl ⟨z, rfl, hz z (List.mem_of_getElem? hz1), fun H4 s4 => ⟨_, s4 _ _ hl', ?_, ?_⟩⟩⟩
      · have : scanBound = 4096 := rfl
        rw [List.length_map, List.length_map, List.length_take, PySem.sizeLine_eq]
        omega
      · refine ⟨fun b o e => ?_, ?_⟩
        · rw [upd_ne (ne_of_none e hD)]
          exact s4 _ _ (sm _ _ e)
        · rw [upd_same, take_one_more hz1, List.map_append, List.map_append]
          rfl
    · rintro H2 ⟨s2, hl'⟩
      rw [List.take_length] at hl'
      have e1 : ((ss.map nameB)).all id = ss.all nameB := by rw [List.all_map]; rfl
      refine ⟨_, _, rfl, .of hl', _, rfl, ?_⟩
      rw [e1]
      refine ite2 (fun c => ?_) (fun c => ?_)
      · rw [c, Bool.true_and] at q
        have r2 := row_up (s1.trans s2) r
        have ek : (ss.map (Sum.inr : Str → Key)).map kV = ss.map V.str := by rw [List.map_map]; rfl
        obtain ⟨a, rfl, hr2⟩ := id r2
        refine ⟨_, rfl, a, ss.map Sum.inr, rfl, by rw [ek]; exact hr2, fewIn_of_len (by rw [List.length_map]; exact hl), fun p ks hp nd mem => ⟨p, ks, rfl, upd_same, ?_⟩⟩
        refine ⟨_, rfl, _, _, rfl, row_up (same_upd hp) r2, rfl, ?_⟩
        have e2 : decide (V.int (ks.length : Int) = V.int ((ss.map V.str).length : Int)) = decide ss.Nodup := by
          rw [List.length_map]
          have u := unlike_len nd mem
          rw [List.length_map, nodup_map_inr] at u
          refine decide_eq_decide.mpr ⟨fun z => u.1 ?_, fun z => ?_⟩
          · injection z with z; omega
          · rw [u.2 z]
        show Q (.bl (decide (V.int (ks.length : Int) = V.int ((ss.map V.str).length : Int)))) _
        rw [e2]
        exact q _ ((s1.trans s2).trans (same_upd hp))
      · rw [Bool.eq_false_iff.mpr c, Bool.false_and] at q
        exact q _ (s1.trans s2)
end
end Q9
end
-- QComp
section
set_option maxRecDepth 100000
set_option maxHeartbeats 4000000
namespace Q9
open PySem PySem.Spec PyProof.Rows L2
/-! ### comprehensions that fill a new thing, whatever it is -/
/-- what is done with a turn's element, as nested wishes: behind it Post -/
abbrev TailW := Env → Value → (Value → Shared → Prop) → (Shared → Prop) → Shared → Prop
abbrev TailR := Addr → L2.St → Hp → (Hp → Prop) → Prop
def tColl (o0 : Addr → HO) (wi : TI) (g : TG) (tt : TT) (tl : TailR) (vs : List Nat) : TE := fun σ H Q => wi σ H fun J H1 => ∀ D, H1 D = none →
  ∃ W : Nat → Nat → Hp → Prop, (∃ m, W 0 m (upd H1 D (o0 D))) ∧ ∀ i m H, W i m H → (J.stop i H ∧ Q (.ref D) H) ∨
    (J.go i H ∧ ∃ Nx : Hp → Prop, (∀ H', Nx H' → ∃ m', m' < m ∧ W (i + 1) m' H') ∧ ∀ x H', J.yld i H x H' → g x (wipe σ vs) H' fun σ2 H2 => wipe σ2 vs = wipe σ vs ∧ tt σ2 H2 fun b H3 => if b = true then tl D σ2 H3 Nx else Nx H3)
/-- a kind of comprehension: its syntax, the new thing, its loop -/
structure CompKind (P : Program) (w : World) (A : Around) (cx tg iter : Expr) (ifs : List Expr) (scope : Scope) (pos : Pos) (newAcc : Sem Value) (ob : Obj) (tailW : TailW) : Prop where
  ev : ∀ env, eval cx env = comprehension cx scope env (firstIterPos [⟨tg, iter, ifs, 0⟩] pos) newAcc (firstAsync [⟨tg, iter, ifs, 0⟩]) (firstIter [⟨tg, iter, ifs, 0⟩] env)
  cls : clausesOf cx = [⟨tg, iter, ifs, 0⟩]
  new : ∀ {E Q : Value → Shared → Prop} {s : Shared}, Q (.ref s.heap.objs.size) { s with heap := s.heap.push ob } → wpAny (model P w) A newAcc Q E s
  start : ∀ {R : Result → Shared → Prop} {s : Shared} {env : Env} {it : Value} {D : Addr}, codeAny (model P w) A (.compLoop cx 0 it (.ref D) env) R s →
    wpAny (model P w) A (pyIter it) (fun it' s' => codeAny (model P w) A (.compLoop cx 0 it' (.ref D) env) R s') (notedBy (model P w) A env fun x s' => R (.error x) s') s → codeAny (model P w) A (.compStart cx 0 it (.ref D) env) R s
  loop : ∀ {R : Result → Shared → Prop} {env : Env} {it : Value} {D : Addr} (I : Nat → Shared → Prop),
    (∀ n s, I n s → wpAny (model P w) A (pyNext it) (fun r s₁ => match r with
      | none => R (.ok .next) s₁
      | some v => wpAny (model P w) A (letOwnedTupleGo tg it v) (fun _ s₁' => wpAny (model P w) A (assign tg env v) (fun _ s₂ =>
          wpAny (model P w) A (forIn ifs true fun c r => if r = true then do let ok ← isTrue c env (eval c env); pure (ForInStep.yield ok) else pure (ForInStep.yield r)) (fun ok s₃ =>
            if ok = true then tailW env (.ref D) (notedBy (model P w) A env fun e s' => R (.error e) s') (fun s' => ∃ m, m < n ∧ I m s') s₃
            else ∃ m, m < n ∧ I m s₃) (notedBy (model P w) A env fun e s' => R (.error e) s') s₂) (notedBy (model P w) A env fun e s' => R (.error e) s') s₁') (notedBy (model P w) A env fun e s' => R (.error e) s') s₁) (notedBy (model P w) A env fun e s' => R (.error e) s') s) →
    ∀ n s, I n s → codeAny (model P w) A (.compLoop cx 0 it (.ref D) env) R s
section
variable {X : Cx} {cx tg iter : Expr} {ifs : List Expr} {scope : Scope} {pos : Pos} {newAcc : Sem Value} {ob : Obj} {tailW : TailW} {own : List (PySem.Str × Nat)} {wi : TI} {g : TG} {tt : TT} {tl : TailR} {o0 : Addr → HO}
theorem pe_coll (ck : CompKind X.prog X.w X.A cx tg iter ifs scope pos newAcc ob tailW) (hc : X.calm = true) (hN : X.N.Nodup) (hi : PI X tg iter wi) (ok : BlkOk X.N X.env.scope scope own)
    (h0 : ∀ (H : Hp) (h : Heap), sysModules < h.objs.size → ObjOk X.prog X.w H (h.push ob) h.objs.size (o0 h.objs.size))
    (hg : ∀ (s : Shared) (H : Hp) (C : Addr) (cl : List (PySem.Str × Addr)) (fp : List Addr), PG (X.blk s H scope (compEnvC scope cl C X.env) fp) tg g)
    (ht : ∀ (s : Shared) (H : Hp) (C : Addr) (cl : List (PySem.Str × Addr)) (fp : List Addr), PTs (X.blk s H scope (compEnvC scope cl C X.env) fp) ifs tt)
    (hl : ∀ (s : Shared) (H : Hp) (C : Addr) (cl : List (PySem.Str × Addr)) (fp : List Addr) (pins : List (Addr × Obj)) (s1 : Shared) (σ1 : L2.St) (H1 : Hp) (D : Addr) (Nx : Hp → Prop) (E : Value → Shared → Prop),
      Inv (X.blk s H scope (compEnvC scope cl C X.env) fp) pins σ1 H1 s1 → tl D σ1 H1 Nx → tailW (compEnvC scope cl C X.env) (.ref D) E (fun s' => ∃ H', Inv (X.blk s H scope (compEnvC scope cl C X.env) fp) pins σ1 H' s' ∧ Nx H') s1)
    (mono : ∀ {env acc E Q Q' s}, tailW env acc E Q s → (∀ s', Q s' → Q' s') → tailW env acc E Q' s)
    (hs : ∀ x, foldedSetIterable iter X.env x = pure x := by intro _; rfl) :
    PE X cx (tColl o0 wi g tt tl (own.map (·.2))) := by
  refine ⟨fun pins s σ H Q I h => ?_⟩
  rw [ck.ev]
  have frees : ∀ y ∈ scope.names, y.2 = .free → ∃ c, X.env.cells.lookup y.1 = some c := fun y hy e => (ok.free y hy e).elim (fun k => I.ok.has _ (.inl k)) fun k => I.ok.has _ (.inr k)
  refine wpAny_comprehension_free (use := none) ck.cls hs (closure_ok frees) ok.kind (fun y hy e => by rw [ok.uniq y hy, e]) ?_
  show wpAny _ _ (eval iter X.env) _ _ s
  refine thn (hi.run pins s σ H _ I h) fun xv s1 hx => thn hx fun itv s2 ⟨it, fp, tn, J, H2, e, I2, T, st2, f2, q⟩ => ?_
  subst e
  refine ck.new (newEnv_comp ?_)
  -- the new thing at D
  generalize eD : s2.heap.objs.size = D
  have freeD : H2 D = none := I2.hok.fresh (Nat.le_of_eq eD)
  obtain ⟨W, ⟨m0, w0⟩, turn⟩ := q D freeD
  generalize e3 : ({ s2 with heap := s2.heap.push ob } : Shared) = s3
  have heap3 : s3.heap = s2.heap.push ob := by rw [← e3]
  have I3 : Inv X pins σ (upd H2 D (o0 D)) s3 := by
    rw [← e3]
    refine I2.laid (t' := s2.toks) (fun b o e => Heap.get?_push_of_some _ e) (Nat.le_of_eq eD) ?_
    rw [← eD]
    exact h0 _ s2.heap I2.big
  have small : ∀ b ∈ fp, b < s2.heap.objs.size := fun b hb => let ⟨o, e, _⟩ := T.obj _ _ st2 b hb; Heap.lt_size e
  have fps : ∀ b ∈ fp, FpOk X pins (upd H2 D (o0 D)) b ∧ b < s3.heap.objs.size := fun b hb => by
    refine ⟨⟨?_, (f2 b hb).2⟩, by rw [heap3, Heap.size_push]; exact Nat.lt_succ_of_lt (small b hb)⟩
    rw [upd_ne (by rw [← eD]; exact Nat.ne_of_lt (small b hb))]
    exact (f2 b hb).1
  have st3 : tn 0 s3.heap := T.keep _ _ _ st2 fun b _ o e => by rw [heap3]; exact Heap.get?_push_of_some _ e
  -- the block's frame
  have I4 := block_start I3 ok hN fps
  generalize ecl : cellsFrom (s3.heap.objs.size + 1) scope.names (cloFrom X.env.cells scope.names []) = cl at I4
  have pg := hg s3 (upd H2 D (o0 D)) s3.heap.objs.size cl fp
  have pt := ht s3 (upd H2 D (o0 D)) s3.heap.objs.size cl fp
  have pl := fun (pins' : List (Addr × Obj)) s1 σ1 H1 D' Nx E => hl s3 (upd H2 D (o0 D)) s3.heap.objs.size cl fp pins' s1 σ1 H1 D' Nx E
  have sh : ∀ env' s', env' = compEnvC scope cl s3.heap.objs.size X.env → s' = ({ s3 with heap := pushCells (s3.heap.push { cls := .type "dict", data := .dict #[] }) scope.names } : Shared) →
      codeAny (model X.prog X.w) X.A (.compStart cx 0 (.ref it) (.ref D) env') (compPost (model X.prog X.w) X.A X.xe none (EP X pins σ Q) (.ref D) s3.heap.objs.size) s' := fun env' s' ee es => by
    rw [← ee] at I4 pg pt pl
    have eL : env'.locals = s3.heap.objs.size := by rw [ee]; rfl
    have nfp : ∀ b ∈ fp, (upd H2 D (o0 D)) b = none := fun b hb => (fps b hb).1.1
    rw [← es] at I4
    have st4 : tn 0 s'.heap := T.keep _ _ _ st3 fun b _ o e => by rw [es]; exact pushCells_keeps _ _ _ _ (Heap.get?_push_of_some _ e)
    have stat : ∀ {σ' : L2.St} {H' : Hp} {t : Shared}, Inv (X.blk s3 (upd H2 D (o0 D)) scope env' fp) [] σ' H' t → (∀ b ∈ fp, H' b = none) → ∀ b ∈ fp, FpOk (X.blk s3 (upd H2 D (o0 D)) scope env' fp) [] H' b := fun {σ' H' t} I' hn b hb =>
      ⟨hn b hb, (I'.ok.exf b hb).1, I'.ok.exfs b hb, .inl hb, fun x c e => (I'.ok.exf b hb).2 x c e, fun p hp => nomatch (show p ∈ ([] : List (Addr × Obj)) from hp)⟩
    have lp : codeAny (model X.prog X.w) X.A (.compLoop cx 0 (.ref it) (.ref D) env') (compPost (model X.prog X.w) X.A X.xe none (EP X pins σ Q) (.ref D) s3.heap.objs.size) s' := by
      refine ck.loop (fun n t => ∃ i H', Inv (X.blk s3 (upd H2 D (o0 D)) scope env' fp) [] (wipe σ (own.map (·.2))) H' t ∧ tn i t.heap ∧ (∀ b ∈ fp, H' b = none) ∧ W i n H') ?_ m0 s' ⟨0, _, I4, st4, nfp, w0⟩
      rintro n s5 ⟨i, H5, I5, st5, n5, w5⟩
      rcases turn i n H5 w5 with ⟨stop, qq⟩ | ⟨go, Nx, less, step⟩
      · refine thnF (T.done (X.blk s3 (upd H2 D (o0 D)) scope env' fp) rfl rfl rfl hc i [] s5 _ H5 (fun _ _ => False) I5 (stat I5 n5) st5 stop) fun r s6 ⟨er, I6⟩ => ?_
        subst er
        have I7 : Inv X pins σ H5 s6 := I3.call' (ch := fp) I6.os I6.base I6.hok I6.bare fun b hb => let z := (fps b hb).1.2; ⟨z.2.2.1, z.1, z.2.2.2.1, z.2.2.2.2⟩
        have nC : H5 s3.heap.objs.size = none := by have z : H5 env'.locals = none := I6.free; rwa [eL] at z
        obtain ⟨m, hn, _⟩ := I6.loc
        have hn : s6.heap.Ns env'.locals m := hn
        rw [eL] at hn
        refine ⟨m, hn, fun h'' sb => ?_⟩
        obtain ⟨f0, f1, f2, f3, f4, f5⟩ := I3.fpOk (b := s3.heap.objs.size) (H' := H5) (Nat.le_refl _) nC
        exact ⟨.ref D, H5, I7.turned (t' := s6.toks) (fun b o hb e => (sb.2 b hb).trans e) f0 f1 f3 f4 f5, rfl, qq⟩
      · refine thnF (T.item (X.blk s3 (upd H2 D (o0 D)) scope env' fp) rfl rfl rfl hc i [] s5 _ H5 (fun _ _ => False) I5 (stat I5 n5) st5 go) fun r s6 ⟨u, er, h6⟩ => ?_
        subst er
        refine thnF h6 fun _ s7 ⟨x, H7, I7, r7, y7, st7, n7⟩ => ?_
        refine thnF (pg.run _ s7 _ H7 x u _ (I7.pinned (stat I7 n7) (T.obj _ _ st7)) r7 (step x H7 y7)) fun _ s8 ⟨σ8, H8, I8, hw8, q8⟩ => ?_
        refine thnF (pt.run _ s8 σ8 H8 _ I8 q8) fun b s9 ⟨H9, I9, q9⟩ => ?_
        have fin : ∀ {t : Shared} {H' : Hp}, Inv (X.blk s3 (upd H2 D (o0 D)) scope env' fp) ([] ++ pinsAt fp s7.heap) σ8 H' t → Nx H' →
            ∃ m, m < n ∧ ∃ i H', Inv (X.blk s3 (upd H2 D (o0 D)) scope env' fp) [] (wipe σ (own.map (·.2))) H' t ∧ tn i t.heap ∧ (∀ b ∈ fp, H' b = none) ∧ W i m H' := fun {t H'} I' nx => by
          obtain ⟨m', hm, w'⟩ := less H' nx
          have pin' : ∀ b ∈ fp, ∀ o, s7.heap.get? b = some o → t.heap.get? b = some o ∧ H' b = none := fun b hb o e =>
            let z := I'.pin (b, o) (List.mem_append_right _ (List.mem_append_right _ (mem_pinsAt hb e))); ⟨z.1, z.2.1⟩
          have len : (wipe σ (own.map (·.2))).length = σ8.length := by rw [← hw8, wipe_length]
          refine ⟨m', hm, i + 1, H', (I'.unpinned (pins := [])).weak len (fun j v e => ?_), T.keep _ _ _ st7 fun b hb o e => (pin' b hb o e).1, fun b hb => ?_, w'⟩
          · rw [← hw8] at e
            exact (wipe_some e).1
          · obtain ⟨o, e, _⟩ := T.obj _ _ st7 b hb
            exact (pin' b hb o e).2
        cases b with
        | false =>
          simp only [Bool.false_eq_true, if_false] at q9 ⊢
          exact fin I9 q9
        | true =>
          simp only [if_true] at q9 ⊢
          exact mono (pl _ s9 σ8 H9 D Nx _ I9 q9) fun t ⟨H', I', nx⟩ => fin I' nx
    exact ck.start lp (T.self X.A 0 _ _ _ st4 lp)
  exact sh _ _ (by rw [← ecl]; rfl) rfl
end
end Q9
end
-- QComp2
section
set_option maxRecDepth 100000
set_option maxHeartbeats 4000000
namespace Q9
open PySem PySem.Spec PyProof.Rows L2
/-! ### {e for .. in ..}, a set of keys -/
abbrev tailSet (P : Program) (w : World) (A : Around) (elt : Expr) : TailW := fun env acc E Q s => wpAny (model P w) A (eval elt env) (fun x s4 => wpAny (model P w) A (call (.builtin "set.add") [acc, x]) (fun _ s5 => Q s5) E s4) E s
section
variable {P : Program} {w : World} {A : Around} {E : Value → Shared → Prop} {s : Shared} {K : Type} [DecidableEq K] {knd : KeyKind P w K}
/-- found.add(k) -/
theorem rset_call_add {a : Addr} {ks : List K} {k : K} {x : Value} {Q : Value → Shared → Prop} (R : RSet knd s.heap a ks) (hk : knd.is k x = true) (hsc : x.scannable = true) (room : ks.length + 1 < scanBound)
    (hQ : ∀ h' ks', Heap.SameBut a s.heap h' → Added k ks ks' → RSet knd h' a ks' → Q .none { s with heap := h', toks := s.toks + 1 }) : wpAny (model P w) A (call (.builtin "set.add") [.ref a, x]) Q E s := by
  refine wpAny_call_entry F.slot_set_add R.setOf.typeIs F.entry_set_add ?_ (F.args_set_add_2 _ _)
  unfold Builtin.«set.add» Builtin.Frozenset.oneOther
  simp only [List.isEmpty_nil, bind_assoc]
  unfold Builtin.Frozenset.addrOf setAdd
  refine wpAny_bind (wpAny_pure ?_)
  try dsimp only
  refine wpAny_bind (wpAny_pure ?_)
  try dsimp only
  refine wpAny_bind (wpAny_holding (wpAny_bind (knd.pyHash hk ?_)))
  refine rset_add (s := { s with toks := s.toks + 1 }) R hk hsc room fun b h' ks' sb ad RS => ?_
  show wpAny _ _ (ret Value.none) _ _ _
  exact wpAny_pure ⟨_, rfl, hQ h' ks' sb ad RS⟩
end
theorem kind_set {P : Program} {w : World} {A : Around} {elt tg iter : Expr} {ifs : List Expr} {scope : Scope} {pos : Pos} : CompKind P w A (.SetComp elt [⟨tg, iter, ifs, 0⟩] scope pos) tg iter ifs scope pos (newSet (.type "set")) (emptySet w) (tailSet P w A elt) where
  ev := fun env => PpSet.eval_SetComp elt _ scope pos
  cls := rfl
  new := fun q => PpSet.newSet_ok q
  start := fun h0 h => PpSet.codeAny_compStart_set h0 h
  loop := fun I turn n s h => PpSet.compLoopS_any I turn n h
section
variable {X : Cx} {elt tg iter : Expr} {ifs : List Expr} {scope : Scope} {pos : Pos} {own : List (PySem.Str × Nat)} {wi : TI} {g : TG} {tt : TT} {te : TE}
def rAddK (P : Program) (w : World) (te : TE) : TailR := fun D σ H Nx => te σ H fun y H4 => ∃ (k : Key) (ks : List Key), y = kV k ∧ H4 D = some (SetKs P w D ks) ∧ ks.length + 1 < scanBound ∧ ∀ ks', Added k ks ks' → Nx (upd H4 D (SetKs P w D ks'))
/-- found.add(k), over the layer -/
theorem add_ks {pins : List (Addr × Obj)} {σ : L2.St} {H : Hp} {s : Shared} {D : Addr} {k : Key} {ks : List Key} {u : Value} {Q : Value → Shared → Prop} {E : Value → Shared → Prop} {A : Around} (I : Inv X pins σ H s) (ha : H D = some (SetKs X.prog X.w D ks)) (ru : RelV (kV k) u) (room : ks.length + 1 < scanBound)
    (hQ : ∀ s' ks', Added k ks ks' → Inv X pins σ (upd H D (SetKs X.prog X.w D ks')) s' → Q .none s') : wpAny (model X.prog X.w) A (call (.builtin "set.add") [.ref D, u]) Q E s := by
  refine rset_call_add (setKs_get I ha) (kV_is ru) (key_scannable ru) room fun h' ks' sb ad RS => hQ _ ks' ad ?_
  have he : ∃ q, h'.get? D = some q := let ⟨o, _, _, _, ho, _⟩ := RS; ⟨o, ho⟩
  exact I.write (e := D) (t' := s.toks + 1) (by rw [ha]; trivial) (.inl rfl) (fun b u hb hu => (sb.2 b hb).trans hu) he (setKs_ok RS)
theorem pe_scK (hc : X.calm = true) (hN : X.N.Nodup) (hi : PI X tg iter wi) (ok : BlkOk X.N X.env.scope scope own)
    (hg : ∀ (s : Shared) (H : Hp) (C : Addr) (cl : List (PySem.Str × Addr)) (fp : List Addr), PG (X.blk s H scope (compEnvC scope cl C X.env) fp) tg g)
    (ht : ∀ (s : Shared) (H : Hp) (C : Addr) (cl : List (PySem.Str × Addr)) (fp : List Addr), PTs (X.blk s H scope (compEnvC scope cl C X.env) fp) ifs tt)
    (he : ∀ (s : Shared) (H : Hp) (C : Addr) (cl : List (PySem.Str × Addr)) (fp : List Addr), PE (X.blk s H scope (compEnvC scope cl C X.env) fp) elt te)
    (hs : ∀ x, foldedSetIterable iter X.env x = pure x := by intro _; rfl) :
    PE X (.SetComp elt [⟨tg, iter, ifs, 0⟩] scope pos) (tColl (fun D => SetKs X.prog X.w D []) wi g tt (rAddK X.prog X.w te) (own.map (·.2))) := by
  refine pe_coll kind_set hc hN hi ok (fun H h _ => setKs_ok (rset_fresh (Heap.get?_push_size _ rfl))) hg ht ?_ ?_ hs
  · intro s H C cl fp pins s1 σ1 H1 D Nx E I h
    refine thnF ((he s H C cl fp).run pins s1 σ1 H1 _ I h) fun u s2 ⟨y, H2, I2, r2, k, ks, ey, hD, room, nx⟩ => ?_
    subst ey
    exact add_ks (X := X.blk s H scope (compEnvC scope cl C X.env) fp) I2 hD r2 room fun s' ks' ad I3 => ⟨_, I3, nx ks' ad⟩
  · intro env acc E Q Q' s h m
    exact thn h fun x s4 h4 => thn h4 fun _ s5 q => m s5 q
end
/-! ### {k: v for .. in ..}, the keys tuples -/
abbrev tailDict (P : Program) (w : World) (A : Around) (kx vx : Expr) : TailW := fun env acc E Q s => wpAny (model P w) A (eval kx env) (fun kv s4 => wpAny (model P w) A (eval vx env) (fun vv s5 =>
  wpAny (model P w) A (dictSet (match acc with | .ref D => D | _ => 0) kv vv) (fun _ s6 => Q s6) E s5) E s4) E s
theorem kind_dict {P : Program} {w : World} {A : Around} {kx vx tg iter : Expr} {ifs : List Expr} {scope : Scope} {pos : Pos} : CompKind P w A (.DictComp kx vx [⟨tg, iter, ifs, 0⟩] scope pos) tg iter ifs scope pos newDict { cls := .type "dict", data := .dict #[] } (tailDict P w A kx vx) where
  ev := fun env => arm_eval_DictComp kx vx _ scope pos env
  cls := rfl
  new := fun q => wpAny_newObj_type q
  start := fun h0 h => codeAny_compStart_dict h0 h
  loop := fun I turn n s h => compLoop_anyD I turn n h
section
variable {X : Cx} {kx vx tg iter : Expr} {ifs : List Expr} {scope : Scope} {pos : Pos} {own : List (PySem.Str × Nat)} {wi : TI} {g : TG} {tt : TT} {tk tv : TE}
/-- D[k] = v within a comprehension, D's keys tuples -/
theorem dictSet_t {pins : List (Addr × Obj)} {σ : L2.St} {H : Hp} {s : Shared} {D b : Addr} {k : List Key} {v : V} {kvs : List (List Key × V)} {r : Value} {Q : Unit → Shared → Prop} {E : Value → Shared → Prop} {A : Around} (hu : A.units < cLine) (I : Inv X pins σ H s)
    (e : H D = some (.dT kvs)) (eb : H b = some (.tup (k.map kV))) (l : kvs.length < sizeLine) (rv : RelV v r) (hQ : ∀ s', Inv X pins σ (upd H D (.dT (putK kvs k v))) s' → Q () s') : wpAny (model X.prog X.w) A (dictSet D (.ref b) r) Q E s := by
  obtain ⟨z, hd, xs, rel, dd⟩ := dt_of I.hok e
  have hz : xs.length ≤ sizeLine := by rw [← PySem.Paired.length rel]; exact z
  have hl : (putK kvs k v).length ≤ sizeLine := by have := length_putK kvs k v; omega
  refine wpAny_dictSet_heap (hsz := hz) (show (tupleKind (mixKind X.prog X.w)).room A from hu) (key_of I.hok eb) dd fun h' dd' hs => hQ _ ?_
  obtain ⟨q, es, ep, hq, h2, h3, h4, _, h5⟩ := dd'
  refine d_write I (by rw [e]; exact True.intro) hs ⟨q, hq⟩ ⟨hl, hd, _, (rel.put k eb rv).keeps fun c ys ec => ?_, q, es, ep, hq, h2, h3, h4, h5⟩
  rw [upd_ne (ne_of ec e (fun z => nomatch z))]
  exact ec
def rPutT (tk tv : TE) : TailR := fun D σ H Nx => tk σ H fun y H4 => tv σ H4 fun v H5 => ∃ (b : Addr) (k : List Key) (kvs : List (List Key × V)), y = .ref b ∧ H5 b = some (.tup (k.map kV)) ∧ H5 D = some (.dT kvs) ∧ kvs.length < sizeLine ∧ Nx (upd H5 D (.dT (putK kvs k v)))
theorem pe_dcT (hu : X.A.units < cLine) (hc : X.calm = true) (hN : X.N.Nodup) (hi : PI X tg iter wi) (ok : BlkOk X.N X.env.scope scope own)
    (hg : ∀ (s : Shared) (H : Hp) (C : Addr) (cl : List (PySem.Str × Addr)) (fp : List Addr), PG (X.blk s H scope (compEnvC scope cl C X.env) fp) tg g)
    (ht : ∀ (s : Shared) (H : Hp) (C : Addr) (cl : List (PySem.Str × Addr)) (fp : List Addr), PTs (X.blk s H scope (compEnvC scope cl C X.env) fp) ifs tt)
    (hk : ∀ (s : Shared) (H : Hp) (C : Addr) (cl : List (PySem.Str × Addr)) (fp : List Addr), PE (X.blk s H scope (compEnvC scope cl C X.env) fp) kx tk)
    (he : ∀ (s : Shared) (H : Hp) (C : Addr) (cl : List (PySem.Str × Addr)) (fp : List Addr), PE (X.blk s H scope (compEnvC scope cl C X.env) fp) vx tv)
    (hs : ∀ x, foldedSetIterable iter X.env x = pure x := by intro _; rfl) :
    PE X (.DictComp kx vx [⟨tg, iter, ifs, 0⟩] scope pos) (tColl (fun _ => .dT []) wi g tt (rPutT tk tv) (own.map (·.2))) := by
  refine pe_coll kind_dict hc hN hi ok (fun H h hb => dt_empty h hb) hg ht ?_ ?_ hs
  · intro s H C cl fp pins s1 σ1 H1 D Nx E I h
    refine thnF ((hk s H C cl fp).run pins s1 σ1 H1 _ I h) fun u s2 ⟨y, H2, I2, r2, h2⟩ => ?_
    refine thnF ((he s H C cl fp).run pins s2 σ1 H2 _ I2 h2) fun r s3 ⟨v, H3, I3, r3, b, k, kvs, ey, eb, eD, lz, nx⟩ => ?_
    subst ey
    cases r2
    exact dictSet_t (X := X.blk s H scope (compEnvC scope cl C X.env) fp) hu I3 eD eb lz r3 fun s' I' => ⟨_, I', nx⟩
  · intro env acc E Q Q' s h m
    exact thn h fun x s4 h4 => thn h4 fun y s5 h5 => thn h5 fun _ s6 q => m s6 q
end
/-- over a walk, whatever is filled -/
theorem coll_it {J : It} {n : Nat} {G : Hp → Prop} {Y : Nat → Hp → V → Hp → Prop} (w : Walk J n G Y) {o0 : HO} {g : TG} {tt : TT} {tl : TailR} {vs : List Nat} {σ : L2.St} {H1 : Hp} {D : Addr} {Qd : Hp → Prop} (Pv : Nat → Hp → Prop)
    (h0 : Pv 0 (upd H1 D o0)) (hG : ∀ i H, i ≤ n → Pv i H → G H)
    (hs : ∀ i x H H', i < n → Pv i H → Y i H x H' → g x (wipe σ vs) H' fun σ2 H2 => wipe σ2 vs = wipe σ vs ∧ tt σ2 H2 fun b H3 => if b = true then tl D σ2 H3 (Pv (i + 1)) else Pv (i + 1) H3) (hd : ∀ H, Pv n H → Qd H) :
    ∃ W : Nat → Nat → Hp → Prop, (∃ m, W 0 m (upd H1 D o0)) ∧ ∀ i m H, W i m H → (J.stop i H ∧ Qd H) ∨
      (J.go i H ∧ ∃ Nx : Hp → Prop, (∀ H', Nx H' → ∃ m', m' < m ∧ W (i + 1) m' H') ∧ ∀ x H', J.yld i H x H' → g x (wipe σ vs) H' fun σ2 H2 => wipe σ2 vs = wipe σ vs ∧ tt σ2 H2 fun b H3 => if b = true then tl D σ2 H3 Nx else Nx H3) := by
  refine ⟨fun i m H => m + i = n ∧ Pv i H, ⟨n, rfl, h0⟩, ?_⟩
  rintro i m H ⟨e, p⟩
  have q := hG i H (by omega) p
  cases m with
  | zero =>
    obtain rfl : i = n := by omega
    exact .inl ⟨w.stops H q, hd H p⟩
  | succ m =>
    have lt : i < n := by omega
    exact .inr ⟨w.goes i H lt q, Pv (i + 1), fun H' p' => ⟨m, Nat.lt_succ_self _, by omega, p'⟩, fun x H' y => hs i x H H' lt p (w.yields i H x H' lt q y)⟩
end Q9
end
-- QKinds
section
set_option maxRecDepth 100000
set_option maxHeartbeats 4000000
namespace Q9
open PySem L2
/-! ### the moves of a kind, as they stand in the heap -/
abbrev Mv := List ((Str × Str) × List (Str × Str))
def OutT (K : PySem.W.Frag) (H : Hp) (v : V) (o : Str × Str) : Prop := ∃ q, v = .ref q ∧ SqT K H q [.str o.1, .str o.2]
def OutsT (K : PySem.W.Frag) (H : Hp) (v : V) (os : List (Str × Str)) : Prop := ∃ vs, Row K H v vs ∧ Paired (OutT K H) vs os
def EntT (K : PySem.W.Frag) (H : Hp) (kv : List Key × V) (e : (Str × Str) × List (Str × Str)) : Prop := kv.1 = [.inr e.1.1, .inr e.1.2] ∧ OutsT K H kv.2 e.2
structure Moves (K : PySem.W.Frag) (H : Hp) (kvs : List (List Key × V)) (mv : Mv) : Prop where
  nd : (kvs.map (·.1)).Nodup
  ent : Paired (EntT K H) kvs mv
/-- lists and tuples stand as they stood -/
def SameSq (H H' : Hp) : Prop := (∀ b xs, H b = some (.lst xs) → H' b = some (.lst xs)) ∧ (∀ b xs, H b = some (.tup xs) → H' b = some (.tup xs)) ∧ ∀ b o u, H b = some (.frz o u) → H' b = some (.frz o u)
theorem Same.sq {H H' : Hp} (s : Same H H') : SameSq H H' := ⟨fun _ _ e => s _ _ e, fun _ _ e => s _ _ e, fun _ _ _ e => s _ _ e⟩
theorem SameSq.trans {H H1 H2 : Hp} (a : SameSq H H1) (b : SameSq H1 H2) : SameSq H H2 := ⟨fun _ _ e => b.1 _ _ (a.1 _ _ e), fun _ _ e => b.2.1 _ _ (a.2.1 _ _ e), fun _ _ _ e => b.2.2 _ _ _ (a.2.2 _ _ _ e)⟩
/-- all but the thing at m stands -/
def But (m : Addr) (H H' : Hp) : Prop := ∀ b o, b ≠ m → H b = some o → H' b = some o
theorem But.trans {m : Addr} {H H1 H2 : Hp} (a : But m H H1) (b : But m H1 H2) : But m H H2 := fun c o ne e => b c o ne (a c o ne e)
theorem But.of {m : Addr} {H H' : Hp} (s : Same H H') : But m H H' := fun b o _ e => s b o e
theorem But.upd {m : Addr} {H : Hp} {u : HO} : But m H (L2.upd H m u) := fun b o ne e => by rw [upd_ne ne]; exact e
theorem But.back {m : Addr} {H H' : Hp} {u : HO} (hm : H m = some u) (s : But m H H') : Same H (L2.upd H' m u) := fun b o e => by
  by_cases h : b = m
  · subst h
    rw [upd_same, ← hm, e]
  · rw [upd_ne h]
    exact s b o h e
theorem But.sq {m : Addr} {H H' : Hp} {kvs : List (List Key × V)} (s : But m H H') (hm : H m = some (.dT kvs)) : SameSq H H' := by
  have ne : ∀ b o, H b = some o → o ≠ .dT kvs → b ≠ m := fun b o e n z => by
    rw [z, hm] at e
    exact n (Option.some.inj e).symm
  exact ⟨fun b xs e => s b _ (ne b _ e fun z => nomatch z) e, fun b xs e => s b _ (ne b _ e fun z => nomatch z) e, fun b o u e => s b _ (ne b _ e fun z => nomatch z) e⟩
section
variable {K : PySem.W.Frag} {H H' : Hp}
theorem sqT_up (s : SameSq H H') {a : Addr} {xs : List V} (h : SqT K H a xs) : SqT K H' a xs := by
  rcases h with (h | ⟨o, h⟩) | h
  · exact .inl (.inl (s.2.1 _ _ h))
  · exact .inl (.inr ⟨o, s.2.2 _ _ _ h⟩)
  · exact .inr h
theorem sqL_up (s : SameSq H H') {a : Addr} {xs : List V} (h : SqL K H a xs) : SqL K H' a xs := by
  rcases h with (h | ⟨o, h⟩) | h
  · exact .inl (.inl (s.1 _ _ h))
  · exact .inl (.inr ⟨o, s.2.2 _ _ _ h⟩)
  · exact .inr h
theorem row_sq (s : SameSq H H') {x : V} {xs : List V} (h : Row K H x xs) : Row K H' x xs := by
  obtain ⟨a, e, h⟩ := h
  exact ⟨a, e, h.imp (sqL_up s) (sqT_up s)⟩
theorem outsT_up (s : SameSq H H') {v : V} {os : List (Str × Str)} (h : OutsT K H v os) : OutsT K H' v os := by
  obtain ⟨vs, h1, h2⟩ := h
  exact ⟨vs, row_sq s h1, L2.Paired.mapP h2 fun _ _ ⟨q, e, h⟩ => ⟨q, e, sqT_up s h⟩⟩
theorem moves_up (s : SameSq H H') {kvs : List (List Key × V)} {mv : Mv} (h : Moves K H kvs mv) : Moves K H' kvs mv :=
  ⟨h.nd, L2.Paired.mapP h.ent fun _ _ ⟨e, h⟩ => ⟨e, outsT_up s h⟩⟩
theorem paired_at {α β : Type} {F : α → β → Prop} : ∀ {l : List α} {m : List β}, Paired F l m → ∀ (i : Nat) (x : α), l[i]? = some x → ∃ y, m[i]? = some y ∧ F x y
  | _, _, .nil, i, x, h => by simp at h
  | _, _, .cons r t, 0, x, h => by
    simp only [List.getElem?_cons_zero, Option.some.injEq] at h
    subst h
    exact ⟨_, rfl, r⟩
  | _, _, .cons r t, i + 1, x, h => by
    obtain ⟨y, h1, h2⟩ := paired_at t i x (by simpa using h)
    exact ⟨y, by simpa using h1, h2⟩
theorem val_at {kvs : List (List Key × V)} (nd : (kvs.map (·.1)).Nodup) {i : Nat} {k : List Key} {v : V} (h : kvs[i]? = some (k, v)) : valV kvs k = some v := by
  induction kvs generalizing i with
  | nil => simp at h
  | cons p r ih =>
    rw [List.map_cons] at nd
    obtain ⟨h1, h2⟩ := List.nodup_cons.mp nd
    cases i with
    | zero =>
      simp only [List.getElem?_cons_zero, Option.some.injEq] at h
      subst h
      exact valV_pos rfl
    | succ i =>
      rw [List.getElem?_cons_succ] at h
      rw [valV_neg (fun e => h1 (e ▸ List.mem_map.mpr ⟨(k, v), List.mem_of_getElem? h, rfl⟩))]
      exact ih h2 h
end
/-! ### the mirror -/
abbrev kInr : Str → Key := Sum.inr
theorem kInr_kV (l : List Str) : (l.map kInr).map kV = l.map V.str := by rw [List.map_map]; rfl
def statesIn (st : Str) (es : List Str) (mv : Mv) : List Str := (st :: es) ++ mv.flatMap fun e => e.1.1 :: e.2.map (·.2)
def methodsIn (mv : Mv) : List Str := mv.map (·.1.2)
def wordsIn (mv : Mv) : List Str := mv.flatMap fun e => e.2.map (·.1)
/-- the unlike ones of a row, in order -/
def Told (l ys : List Str) : Prop := Up ys ∧ ys.Nodup ∧ ∀ z, z ∈ ys ↔ z ∈ l
theorem told_same {l ys zs : List Str} (a : Told l ys) (b : Told l zs) : ys = zs :=
  up_same ((List.perm_ext_iff_of_nodup a.2.1 b.2.1).mpr fun z => (a.2.2 z).trans (b.2.2 z).symm) a.1 b.1
structure TKinds (K : PySem.W.Frag) (mg : Str → Option Value) : Prop where
  lst : mg "list" = none
  sorted : mg "sorted" = none
  set : mg "set" = none
  tup : mg "tuple" = none
section
variable {P : Program} {w : World} {K : PySem.W.Frag} {mg : Str → Option Value} {base : Heap}
theorem cr_listRow {X : Cx} : CallR X (.type "list") (fun vs H Q => ∃ (x : V) (xs : List V), vs = [x] ∧ Row X.K H x xs ∧ ∀ l, H l = none → Q (.ref l) (upd H l (.lst xs))) := by
  intro pins s σ H vs us Q I r h
  obtain ⟨x, xs, rfl, ⟨a, rfl, hq⟩, q⟩ := h
  exact call_list_of pins s σ H _ us Q I r ⟨a, xs, rfl, hq, q⟩
theorem told_of {l : List Str} {ks : List Key} {ss ys : List Str} (ek : ks = ss.map Sum.inr) (nd : ks.Nodup) (mem : ∀ k, k ∈ ks ↔ k ∈ l.map (Sum.inr : Str → Key)) (pm : ys.Perm ss) (up : Up ys) : Told l ys := by
  subst ek
  refine ⟨up, pm.nodup_iff.mpr ((nodup_map_inr ss).1 nd), fun z => ?_⟩
  have e := mem (Sum.inr z)
  simp only [List.mem_map, Sum.inr.injEq, exists_eq_right] at e
  rw [pm.mem_iff, e]
theorem texts_of {ks : List Key} {l : List Str} (mem : ∀ k, k ∈ ks ↔ k ∈ l.map (Sum.inr : Str → Key)) : ∃ ss : List Str, ks = ss.map Sum.inr := by
  have all : ∀ k ∈ ks, ∃ x : Str, k = Sum.inr x := fun k hk => let ⟨x, _, e⟩ := List.mem_map.mp ((mem k).1 hk); ⟨x, e.symm⟩
  clear mem
  induction ks with
  | nil => exact ⟨[], rfl⟩
  | cons k ks ih =>
    obtain ⟨ss, e⟩ := ih fun j hj => all j (List.mem_cons_of_mem _ hj)
    obtain ⟨x, e2⟩ := all k List.mem_cons_self
    exact ⟨x :: ss, by rw [List.map_cons, ← e, e2]⟩
end
end Q9
end
-- QKinds2
section
set_option maxRecDepth 100000
set_option maxHeartbeats 4000000
namespace Q9
open PySem L2
/-- is x a text -/
def Txt1 (K : PySem.W.Frag) (H : Hp) (x : V) (b : Bool) : Prop := OfTy K H x "str" b
theorem txt_yes {K : PySem.W.Frag} {H : Hp} (z : Str) : OfTy K H (.str z) "str" true := ⟨.type "str", .base (.str z), kit_ty (by decide +kernel)⟩
/-- no tuple; a tuple of another length; a tuple of two -/
def spIsKey (K : PySem.W.Frag) : Sp := fun vs H Q _ => ∃ x, vs = [x] ∧ ((OfTy K H x "tuple" false ∧ Q (.bl false) H) ∨ (∃ a xs, x = .ref a ∧ SqT K H a xs ∧ xs.length ≠ 2 ∧ Q (.bl false) H) ∨
  ∃ a u v b c, x = .ref a ∧ SqT K H a [u, v] ∧ OfTy K H u "str" b ∧ OfTy K H v "str" c ∧ Q (.bl (b && c)) H)
theorem sqT_ty {K : PySem.W.Frag} {H : Hp} {a : Addr} {xs : List V} (h : SqT K H a xs) : TyX K H (.ref a) (.type "tuple") := by
  rcases h with (h | ⟨o, h⟩) | ⟨o, its, n, h1, h2, _⟩
  · exact .base (.tup h)
  · exact .fTuple h
  · exact .kTuple h1 h2
section
variable {P : Program} {w : World} {K : PySem.W.Frag} {mg : Str → Option Value} {base : Heap} {fRow : Addr}
theorem scKey : FnScope ["thing"] ["thing"] (defScope sIsKey) := ⟨rfl, rfl, rfl, by decide +kernel, rfl, by decide +kernel, by decide +kernel⟩
theorem ok_key {f : Addr} {fd : FuncData} (F : Fun K "_is_key" "_is_key" sIsKey f fd) (T : TForm K mg fRow) : FnOk P w K mg base CX0 1 f fd ["thing"] (spIsKey K) := by
  refine F.ok scKey (fun vs H Q E h => ?_) (fun cdv A outer s H vs Q E hr h => ?_)
  · obtain ⟨x, rfl, _⟩ := h
    rfl
  · obtain ⟨x, rfl, h⟩ := h
    refine ⟨_, pss_one (ps_ret (pe_and (pe_callB call_isi (by rfl) T.isi (by decide +kernel) (pa_cons (pv 0) (pa_cons (pe_bltn (v := .ty "tuple") (by rfl) T.tup (by decide +kernel) rfl) pa_nil)))
      (pe_and (pe_cmpR op_eq (pe_callB cr_lenRow (by rfl) T.len (by decide +kernel) (pa_cons (pv 0) pa_nil)) pe_int (nomark _))
      (pe_and (pe_callB call_isi (by rfl) T.isi (by decide +kernel) (pa_cons (pe_ix ix_tup (pv 0) pe_int (fun _ _ => rfl)) (pa_cons (pe_bltn (v := .ty "str") (by rfl) T.str (by decide +kernel) rfl) pa_nil)))
      (pe_one (pe_callB call_isi (by rfl) T.isi (by decide +kernel) (pa_cons (pe_ix ix_tup (pv 0) pe_int (fun _ _ => rfl)) (pa_cons (pe_bltn (v := .ty "str") (by rfl) T.str (by decide +kernel) rfl) pa_nil)))))))), ?_⟩
    rcases h with ⟨⟨t, ty, e⟩, q⟩ | ⟨a, xs, rfl, hx, hn, q⟩ | ⟨a, u, v, b, c, rfl, hx, ⟨t1, ty1, e1⟩, ⟨t2, ty2, e2⟩, q⟩
    · exact ⟨_, rfl, _, _, _, _, false, rfl, .ty _, ty, e, false, rfl, iteF q⟩
    · refine ⟨_, rfl, _, _, _, _, true, rfl, .ty _, sqT_ty hx, kit_ty (by decide +kernel), true, rfl, iteT ⟨_, rfl, _, _, rfl, ⟨a, rfl, .inr hx⟩, rfl, ?_⟩⟩
      have e : decide (V.int (xs.length : Int) = V.int 2) = false := decide_eq_false fun z => hn (by injection z with z; omega)
      exact ⟨_, rfl, by rw [e]; exact iteF q⟩
    · refine ⟨_, rfl, _, _, _, _, true, rfl, .ty _, sqT_ty hx, kit_ty (by decide +kernel), true, rfl, iteT ⟨_, rfl, _, _, rfl, ⟨a, rfl, .inr hx⟩, rfl, true, rfl, iteT ?_⟩⟩
      refine ⟨_, rfl, a, _, _, _, rfl, rfl, hx, atI_nat (j := 0) rfl, _, _, _, _, b, rfl, .ty _, ty1, e1, b, rfl, ?_⟩
      cases b with
      | false => exact iteF q
      | true =>
        refine iteT ⟨_, rfl, a, _, _, _, rfl, rfl, hx, atI_nat (j := 1) rfl, _, _, _, _, c, rfl, .ty _, ty2, e2, ?_⟩
        rw [Bool.true_and] at q
        exact q
end
end Q9
end
-- QMakeS
section
set_option maxRecDepth 100000
set_option maxHeartbeats 4000000
namespace Q9
open PySem L2
section
variable {X : Cx} {CX : CXT} {k : Nat} {f C : Addr} {fd : FuncData} {ps : List Str} {sp : Sp} {E : L2.St → XK} {x : Str} {p pos : Pos} {e : Expr} {es : List Expr} {t : TA}
/-- C(e, ..) within a try: its __init__ may raise -/
def tMakeS (C : Addr) (sp : Sp) (E : L2.St → XK) (t : TA) : TE := fun σ H Q => t σ H fun vs H1 => ∀ x dx, H1 x = none → H1 dx = none → dx ≠ x → sp (.ref x :: vs) (upd (upd H1 dx (.own x)) x (.ins C dx [])) (fun v H2 => v = .non ∧ Q (.ref x) H2) (E σ)
theorem pe_makeS (M : Mk X.K C f) (F : FnOk X.prog X.w X.K X.mg X.base CX k f fd ps sp) (hr : Room (k + 1) X.A) (hg : Gl X x) (hm : X.mg x = some (.ref C)) (hb : Binds X.K fd ps []) (hx : ∀ σ, PassesAt CX X σ (E σ)) (ha : PA X (e :: es) t)
    (hdb : (x == ("__debug__" : Str)) = false := by decide) (he : starEach (e :: es) X.env = (false, eval e X.env) :: starEach es X.env := by rfl) (hpl : (backTo pos (starEach es X.env)).any (·.1) = false := by rfl) :
    PE X (.Call (.Name x p) (e :: es) [] pos) (tMakeS C sp E t) := by
  refine ⟨fun pins s0 σ H Q I0 h0 => wpAny_Call_Name_kw (ld_glob I0 hg hm (PySem.W.callWith_K (h₀ := X.base) I0.ok.mod.kin M.kp (thn (ha.run pos pins s0 σ H _ I0 h0) fun us s ⟨vs, H1, I, r, h⟩ => ⟨I.kIn, ?_⟩) he hpl) hdb)⟩
  -- the new object stands behind all that is there
  generalize eo : s.heap.objs.size + 1 = o
  have no : H1 o = none := I.hok.fresh (by omega)
  have nd : H1 s.heap.objs.size = none := I.hok.fresh (Nat.le_refl _)
  have hq := h o s.heap.objs.size no nd (by rw [← eo]; exact Nat.ne_of_lt (Nat.lt_succ_self _))
  have J := Inv.made (C := C) I
  rw [eo] at J
  have rr : Vals (V.ref o :: vs) (Value.ref o :: us) := .cons rfl r
  have len : (Value.ref o :: us).length = ps.length := by rw [← rr.length]; exact F.len _ _ _ _ hq
  have bd := hb _ (Value.ref o :: us) J.kIn (by rw [List.append_nil]; exact len)
  rw [List.append_nil] at bd
  refine wpAny_call (make_map (f := f) I.kIn M.makes M.init (beq_iff_eq.mp M.fn) ?_)
  rw [eo]
  refine codeAny_mono (F.run _ X.stack _ _ ⟨Value.ref o :: us, []⟩ (Value.ref o :: us) _ _ (E σ) (hr.make C us []) (J.env0.make C us []) bd rr hq) fun res s' hres => ?_
  cases res with
  | error er => exact hx σ pins _ _ er s' J hres
  | ok fl =>
    cases fl with
    | ret u =>
      obtain ⟨v, H', J', rv, ev, q⟩ := J.after hres
      subst ev
      exact ⟨rv, .ref o, H', J', rfl, q⟩
    | next => exact False.elim hres
    | brk => exact False.elim hres
    | cont => exact False.elim hres
end
end Q9
end
-- QTupSet
section
set_option maxRecDepth 100000
set_option maxHeartbeats 4000000
namespace Q9
open PySem PySem.Spec PyProof.Rows L2
/-! ### sets of tuples of keys (ints, texts): members, number; the order is left open -/
section
variable {P : Program} {w : World} {K : Type} [DecidableEq K] {knd : KeyKind P w K} {A : Around} {E : Value → Shared → Prop} {s : Shared}
abbrev tkh (knd : KeyKind P w K) (k : List K) : Int := tupleKeyHash knd k
/-- items whose kind is told without the heap -/
def Flat8 (knd : KeyKind P w K) : Prop := ∀ (k : K) (v : Value) (n : Nat), knd.is k v = true → (∃ b, hashByValue n v = pure b) ∧ ofAClassStatement n v = pure false
theorem items_each {k : List K} {vs : List Value} (h : ItemsAre knd k vs) : ∀ v ∈ vs, ∃ i, knd.is i v = true := by
  induction h with
  | nil => intro v hv; cases hv
  | cons h1 _ ih =>
    intro v hv
    rcases List.mem_cons.mp hv with e | hv
    · exact ⟨_, e ▸ h1⟩
    · exact ih v hv
theorem noClass {k : List K} {b : Addr} {Q : Bool → Shared → Prop} (fl : Flat8 knd) (hk : IsTupleKey knd s.heap k b) (h : Q false s) : wpAny (model P w) A (ofAClassStatement 8 (.ref b)) Q E s := by
  have hT := hk.typeIs
  obtain ⟨o, items, n, ho, _, hd, hi⟩ := hk
  unfold ofAClassStatement
  refine wpAny_bind (wpAny_typeOf hT ?_)
  dsimp only
  have e : (("tuple" : String) == "tuple") = true := by decide
  simp only [e, if_true, Bool.not_true, Bool.false_eq_true, if_false]
  try refine wpAny_bind (wpAny_pure ?_)
  try simp only [Bool.not_true, Bool.false_eq_true, if_false]
  show wpAny _ _ (seqItems? (.ref b) >>= _) _ _ s
  refine wpAny_bind (wpAny_seqItems ho hd ?_)
  dsimp only
  refine wpAny_bind ?_
  show wpAny _ _ (forIn items _ _) _ _ s
  rw [← Array.forIn_toList]
  refine wpAny_forIn_list _ (fun rest r s' => r.1 = none ∧ s' = s ∧ ∀ v ∈ rest, v ∈ items.toList) _ ?_ ?_ _ _ ⟨rfl, rfl, fun _ z => z⟩
  · rintro v rest r s' ⟨hr, rfl, hall⟩
    obtain ⟨i, hv⟩ := items_each hi v (hall v List.mem_cons_self)
    rw [(fl i v 7 hv).2]
    refine wpAny_bind (wpAny_pure ?_)
    simp only [Bool.false_eq_true, if_false]
    exact wpAny_pure ⟨rfl, rfl, fun u hu => hall u (List.mem_cons_of_mem _ hu)⟩
  · rintro ⟨r1, r2⟩ s' ⟨hr, rfl, _⟩
    simp only at hr
    subst hr
    exact wpAny_pure h
theorem someHash {k : List K} {b : Addr} {Q : Bool → Shared → Prop} (fl : Flat8 knd) (hk : IsTupleKey knd s.heap k b) (h : ∀ c, Q c s) : wpAny (model P w) A (hashByValue 8 (.ref b)) Q E s := by
  have hT := hk.typeIs
  obtain ⟨o, items, n, ho, _, hd, hi⟩ := hk
  unfold hashByValue
  refine wpAny_bind (wpAny_specialOf hT F.slot_tuple_hash.lookup ?_)
  show wpAny _ _ (seqItems? (.ref b) >>= _) _ _ s
  refine wpAny_bind (wpAny_seqItems ho hd ?_)
  refine wpAny_bind ?_
  show wpAny _ _ (forIn items _ _) _ _ s
  rw [← Array.forIn_toList]
  refine wpAny_forIn_list _ (fun rest r s' => r.1 = none ∧ s' = s ∧ ∀ v ∈ rest, v ∈ items.toList) _ ?_ ?_ _ _ ⟨rfl, rfl, fun _ z => z⟩
  · rintro v rest r s' ⟨hr, rfl, hall⟩
    obtain ⟨i, hv⟩ := items_each hi v (hall v List.mem_cons_self)
    obtain ⟨c, ec⟩ := (fl i v 7 hv).1
    rw [ec]
    refine wpAny_bind (wpAny_pure ?_)
    cases c with
    | true =>
      simp only [Bool.not_true, Bool.false_eq_true, if_false]
      exact wpAny_pure ⟨rfl, rfl, fun u hu => hall u (List.mem_cons_of_mem _ hu)⟩
    | false =>
      simp only [Bool.not_false, if_true]
      exact wpAny_pure (wpAny_pure (h _))
  · rintro ⟨r1, r2⟩ s' ⟨hr, rfl, _⟩
    simp only at hr
    subst hr
    exact wpAny_pure (h _)
theorem noShow {k : List K} {b : Addr} {Q : Bool → Shared → Prop} (fl : Flat8 knd) (hk : IsTupleKey knd s.heap k b) {ys : List Value} (hy : ∀ y ∈ ys, ∃ k' c, y = Value.ref c ∧ IsTupleKey knd s.heap k' c) (h : Q false s) :
    wpAny (model P w) A (searchCouldBeSeen (.ref b) ys) Q E s := by
  unfold searchCouldBeSeen
  refine wpAny_bind ?_
  refine wpAny_forIn_list _ (fun rest r s' => r.1 = none ∧ s' = s ∧ ∀ y ∈ rest, ∃ k' c, y = Value.ref c ∧ IsTupleKey knd s.heap k' c) _ ?_ ?_ _ _ ⟨rfl, rfl, hy⟩
  · rintro v rest r s' ⟨hr, rfl, hall⟩
    obtain ⟨k', c, rfl, hc⟩ := hall v List.mem_cons_self
    have tl : ∀ y ∈ rest, ∃ k' c, y = Value.ref c ∧ IsTupleKey knd s'.heap k' c := fun u hu => hall u (List.mem_cons_of_mem _ hu)
    dsimp only
    by_cases hv : (b == c || (carriedByValue (.ref b) && carriedByValue (.ref c))) = true
    · exact wp_if_pos hv (wpAny_pure ⟨rfl, rfl, tl⟩)
    · refine wp_if_neg hv (wpAny_bind (wpAny_eqIsQuiet_tuple hk ?_))
      simp only [Bool.not_true, Bool.false_eq_true, if_false]
      refine wpAny_bind (wpAny_eqIsQuiet_tuple hc ?_)
      simp only [Bool.not_true, Bool.false_eq_true, if_false]
      refine wpAny_bind (noClass fl hk ?_)
      simp only [Bool.false_eq_true, if_false]
      refine wpAny_bind (noClass fl hc ?_)
      simp only [Bool.false_eq_true, if_false]
      exact wpAny_pure ⟨rfl, rfl, tl⟩
  · rintro ⟨r1, r2⟩ s' ⟨hr, rfl, _⟩
    simp only at hr
    subst hr
    exact wpAny_pure h
/-! ### such a set -/
abbrev Mem (K : Type) := List (Addr × List K)
def rowsT (knd : KeyKind P w K) (L : Mem K) : List (Int × Value) := L.map fun p => (tkh knd p.2, Value.ref p.1)
def hashesT (knd : KeyKind P w K) (L : Mem K) : List Int := L.map fun p => tkh knd p.2
structure TSet (knd : KeyKind P w K) (h : Heap) (a : Addr) (L : Mem K) (es : Array (Int × Value)) (ep : Nat) (t : SetTable) : Prop where
  ob : ∃ o, h.get? a = some o ∧ o.ExactSet ∧ o.data = .set es ep t
  rows : es.toList = rowsT knd L
  tab : TabOk t (hashesT knd L)
  nd : (L.map (·.2)).Nodup
  tup : ∀ p ∈ L, IsTupleKey knd h p.2 p.1
  room : L.length * 5 < t.mask * 3
  few : L.length < 64
variable {a : Addr} {L : Mem K} {es : Array (Int × Value)} {ep : Nat} {t : SetTable}
theorem rows_size {L : Mem K} {es : Array (Int × Value)} (r : es.toList = rowsT knd L) : es.size = L.length := by
  rw [← Array.length_toList, r, rowsT, List.length_map]
theorem rows_at {L : Mem K} {es : Array (Int × Value)} (r : es.toList = rowsT knd L) {i : Nat} {p : Addr × List K} (h : L[i]? = some p) : es[i]? = some (tkh knd p.2, Value.ref p.1) := by
  rw [← Array.getElem?_toList, r, rowsT, List.getElem?_map, h]
  rfl
theorem TSet.fits (R : TSet knd s.heap a L es ep t) : t.fits es.size = true := by
  have h1 := R.tab.sz
  have h2 := rows_size R.rows
  have h3 := R.room
  rw [hashesT, List.length_map] at h1
  unfold SetTable.fits SetTable.fill
  rw [R.tab.dm, Bool.and_eq_true, beq_iff_eq, decide_eq_true_eq]
  show t.place.size = es.size ∧ t.place.size + 0 ≤ t.mask
  omega
theorem TSet.sound (R : TSet knd s.heap a L es ep t) : ¬ t.gaveWay = true := by
  unfold SetTable.gaveWay
  rw [mask_odd R.tab.mok]
  decide
/-- the search, from the c-th step of the way on; K is the first free step -/
theorem seek (fl : Flat8 knd) (R : TSet knd s.heap a L es ep t) {x : Addr} {k : List K} (hx : IsTupleKey knd s.heap k x) (hu : A.units < cLine) {N : Nat} (hNf : N < 10 * SetTable.turns t.mask)
    (hN : way t.mask (tkh knd k) N ∉ t.place.toList) (hNb : ∀ c, c < N → way t.mask (tkh knd k) c ∈ t.place.toList) {Q : SetFound → Shared → Prop}
    (yes : k ∈ L.map (·.2) → Q (.there none) s) (no : k ∉ L.map (·.2) → Q (.free (way t.mask (tkh knd k) N) false) s) :
    ∀ (f c : Nat) (stand : Option SetTable.Probe), stand.getD (t.probeStart (tkh knd k)) = nth t.mask (runAt t.mask (SetTable.bits (tkh knd k) % (t.mask + 1)) (SetTable.bits (tkh knd k))) c → c ≤ N → N - c < f →
      (∀ (i : Nat) p, L[i]? = some p → p.2 = k → ∃ c', c ≤ c' ∧ c' < N ∧ t.place.toList[i]? = some (way t.mask (tkh knd k) c')) →
      wpAny (model P w) A (setSearchFrom a (.ref x) (tkh knd k) true f stand) Q E s := by
  intro f
  induction f with
  | zero => intro c stand _ _ hf _; exact absurd hf (Nat.not_lt_zero _)
  | succ f ih =>
    intro c stand est hc hf ahead
    obtain ⟨o, ho, hex, hd⟩ := R.ob
    generalize eh : tkh knd k = hh at *
    generalize ers : runAt t.mask (SetTable.bits hh % (t.mask + 1)) (SetTable.bits hh) = st0 at *
    have wj : ∀ n, way t.mask hh n = (nth t.mask st0 n).j := fun n => by rw [← ers]
    rw [setSearchFrom_succ]
    refine wpAny_bind (wpAny_setState_of ho hd R.fits ?_)
    dsimp only
    refine wp_if_neg R.sound ?_
    try refine wpAny_bind (wpAny_pure ?_)
    have noDummy : ∀ (n : Nat) (p : SetTable.Probe), p.dummy = none → (nth t.mask p n).dummy = none := by
      intro n
      induction n with
      | zero => intro p z; exact z
      | succ n ih' =>
        intro p z
        refine ih' (adv t.mask p) ?_
        unfold adv
        split <;> exact z
    have d0 : (nth t.mask st0 c).dummy = none := noDummy c st0 (by rw [← ers]; rfl)
    have later : ∀ q, nth t.mask (nth t.mask st0 c) q = nth t.mask st0 (c + q) := fun q => (nth_add t.mask c st0 q).symm
    have hashAt : ∀ (i : Nat) p, L[i]? = some p → (fun i => (es[i]?.map (·.1)).getD 0) i = tkh knd p.2 := fun i p hp => by
      show (es[i]?.map (·.1)).getD 0 = _
      rw [rows_at R.rows hp]
      rfl
    rcases go_spec t R.tab.ris R.tab.dm (fun i => (es[i]?.map (·.1)).getD 0) hh (10 * SetTable.turns t.mask) (N - c) (nth t.mask st0 c) d0 (by omega)
      (fun q hq => by rw [later, ← wj]; exact hNb (c + q) (by omega)) (by rw [later, ← wj, show c + (N - c) = N by omega]; exact hN) with ⟨q, i, hq, hi, hash, skipped, met⟩ | ⟨skipped, met⟩
    · -- an entry of this hash
      have met' : t.probe (fun i => (es[i]?.map (·.1)).getD 0) hh (stand.getD (t.probeStart hh)) = some (.candidate (way t.mask hh (c + q)) i (nth t.mask st0 (c + (q + 1)))) := by
        rw [est, wj, ← later, ← later]
        exact met
      rw [met']
      dsimp only
      rw [later, ← wj] at hi
      have lt : i < L.length := by
        have h1 : i < t.place.toList.length := (List.getElem?_eq_some_iff.mp hi).1
        have h2 := R.tab.sz
        rw [hashesT, List.length_map] at h2
        rw [Array.length_toList] at h1
        omega
      obtain ⟨p, hp⟩ : ∃ p, L[i]? = some p := ⟨_, List.getElem?_eq_getElem lt⟩
      have hpm : p ∈ L := List.mem_of_getElem? hp
      have rest : wpAny (model P w) A (searchRest a (.ref x) hh true f es t (way t.mask hh (c + q)) i (nth t.mask st0 (c + (q + 1)))) Q E s := by
        unfold searchRest
        rw [rows_at R.rows hp]
        dsimp only
        refine wpAny_bind (wpAny_holding (wpAny_eqBool_tuple hu (R.tup p hpm) hx (wpAny_bind (wpAny_setState_of ho hd R.fits ?_))))
        dsimp only
        by_cases same : p.2 = k
        · exact wp_if_pos (by simp [same]) (wpAny_pure (yes (List.mem_map.mpr ⟨p, hpm, same⟩)))
        · refine wp_if_neg (by simp [same]) ?_
          try refine wpAny_bind (wpAny_pure ?_)
          rw [sameMem]
          dsimp only
          have live : t.slot (way t.mask hh (c + q)) = .live i := slot_live R.tab.ris hi
          simp only [if_true, live, rows_at R.rows hp]
          refine wpAny_bind (wpAny_isSame_ref_self (wpAny_bind (wpAny_pure ?_)))
          simp only [if_true]
          refine wp_if_neg (by simp [same]) ?_
          refine ih (c + (q + 1)) _ rfl (by omega) (by omega) fun i0 p0 h0 hk0 => ?_
          obtain ⟨c', a1, a2, a3⟩ := ahead i0 p0 h0 hk0
          have hz : (fun i => (es[i]?.map (·.1)).getD 0) i0 = hh := by rw [hashAt i0 p0 h0, hk0, eh]
          refine ⟨c', ?_, a2, a3⟩
          rcases Nat.lt_trichotomy c' (c + q) with z | z | z
          · exact (skipped (c' - c) i0 (by omega) (by rw [later, ← wj, show c + (c' - c) = c' by omega]; exact a3) hz).elim
          · rw [z] at a3
            have live2 := slot_live R.tab.ris a3
            rw [live] at live2
            injection live2 with e
            rw [← e, hp] at h0
            exact (same ((congrArg Prod.snd (Option.some.inj h0)).trans hk0)).elim
          · omega
      by_cases led : t.led = true
      · refine wp_if_neg (by simp [led]) ?_
        try refine wpAny_bind (wpAny_pure ?_)
        exact rest
      · refine wp_if_pos (by simp [led]) (wpAny_bind (noShow fl hx (fun y hy => ?_) ?_))
        · obtain ⟨e, he, ee⟩ := List.mem_map.mp hy
          have he2 : e ∈ es ∧ e.1 = hh := by simpa using he
          have he3 : e ∈ es.toList := by simpa using he2.1
          rw [R.rows, rowsT] at he3
          obtain ⟨p2, hp2, e2⟩ := List.mem_map.mp he3
          exact ⟨p2.2, p2.1, by rw [← ee, ← e2], R.tup p2 hp2⟩
        · refine wp_if_neg (by decide) ?_
          try refine wpAny_bind (wpAny_pure ?_)
          exact rest
    · -- a free slot
      have met' : t.probe (fun i => (es[i]?.map (·.1)).getD 0) hh (stand.getD (t.probeStart hh)) = some (.empty (way t.mask hh N) none) := by
        have e2 : way t.mask hh N = (nth t.mask (nth t.mask st0 c) (N - c)).j := by rw [later, ← wj, show c + (N - c) = N by omega]
        rw [est, e2]
        exact met
      rw [met']
      dsimp only
      refine wpAny_pure (no fun hm => ?_)
      obtain ⟨p0, h0, hk0⟩ := List.mem_map.mp hm
      obtain ⟨i0, hi0, e0⟩ := List.getElem_of_mem h0
      have h00 : L[i0]? = some p0 := by rw [List.getElem?_eq_getElem hi0, e0]
      obtain ⟨c', a1, a2, a3⟩ := ahead i0 p0 h00 hk0
      exact skipped (c' - c) i0 (by omega) (by rw [later, ← wj, show c + (c' - c) = c' by omega]; exact a3) ((hashAt i0 p0 h00).trans (by rw [hk0, eh]))
theorem seek_all (fl : Flat8 knd) (R : TSet knd s.heap a L es ep t) {x : Addr} {k : List K} (hx : IsTupleKey knd s.heap k x) (hu : A.units < cLine) {Q : SetFound → Shared → Prop} (yes : k ∈ L.map (·.2) → Q (.there none) s)
    (no : ∀ N, k ∉ L.map (·.2) → way t.mask (tkh knd k) N ∉ t.place.toList → (∀ c, c < N → way t.mask (tkh knd k) c ∈ t.place.toList) → Q (.free (way t.mask (tkh knd k) N) false) s) :
    wpAny (model P w) A (setSearch a (.ref x) (tkh knd k) true) Q E s := by
  have room := R.room
  obtain ⟨N, hNf, hN, hNb⟩ := R.tab.first (by rw [hashesT, List.length_map]; omega) (tkh knd k)
  have few : 10 * SetTable.turns t.mask ≤ 1420 := by
    unfold SetTable.turns
    rcases R.tab.mok with e | e | e <;> omega
  unfold setSearch
  refine seek fl R hx hu hNf hN hNb yes (fun z => no N z hN hNb) 100000 0 none rfl (Nat.zero_le _) (by omega) fun i p hp hk => ?_
  have hi : (hashesT knd L)[i]? = some (tkh knd k) := by rw [hashesT, List.getElem?_map, hp, ← hk]; rfl
  have lt : i < t.place.toList.length := by
    have h1 : i < L.length := (List.getElem?_eq_some_iff.mp hp).1
    have h2 := R.tab.sz
    rw [hashesT, List.length_map] at h2
    rw [Array.length_toList]
    omega
  have hj := List.getElem?_eq_getElem lt
  obtain ⟨c, hc, e⟩ := R.tab.before hN hi hj
  exact ⟨c, Nat.zero_le _, hc, by rw [hj, e]⟩
/-! ### one tuple more -/
theorem still_tuple {h h' : Heap} {k : List K} {a b : Addr} {o : Obj} {es : Array (Int × Value)} {ep : Nat} {t : SetTable} (hb : IsTupleKey knd h k b) (ho : h.get? a = some o) (hd : o.data = .set es ep t) (hs : Heap.SameBut a h h') : IsTupleKey knd h' k b := by
  obtain ⟨o', items, n, ho', hc, hd', hi⟩ := hb
  refine ⟨o', items, n, (hs.2 b fun z => ?_).trans ho', hc, hd', hi⟩
  rw [z, ho] at ho'
  rw [← Option.some.inj ho', hd] at hd'
  cases hd'
theorem slid {α : Type} (l : List α) (p : Nat) (x : α) : (l.take p ++ x :: l.drop p).Perm (x :: l) := by
  have h : (l.take p ++ x :: l.drop p).Perm (x :: (l.take p ++ l.drop p)) := List.perm_middle
  rwa [List.take_append_drop] at h
theorem picked_all {α : Type} (l : List α) : (List.range l.length).filterMap (fun i => l[i]?) = l := by
  apply List.ext_getElem?
  intro i
  have e : (List.range l.length).filterMap (fun i => l[i]?) = (List.range l.length).pmap (fun i (h : i < l.length) => l[i]) fun i h => List.mem_range.mp h := by
    have key : ∀ (m : List Nat) (hm : ∀ i ∈ m, i < l.length), m.filterMap (fun i => l[i]?) = m.pmap (fun i (h : i < l.length) => l[i]) hm := by
      intro m
      induction m with
      | nil => intro _; rfl
      | cons i m ih =>
        intro hm
        rw [List.filterMap_cons_some (List.getElem?_eq_getElem (hm i List.mem_cons_self)), ih fun j hj => hm j (List.mem_cons_of_mem _ hj)]
        rfl
    exact key _ _
  rw [e]
  by_cases h : i < l.length
  · rw [List.getElem?_eq_getElem h, List.getElem?_eq_getElem (by simpa using h)]
    simp
  · rw [List.getElem?_eq_none (by simpa using h), List.getElem?_eq_none (by omega)]
/-- the rows taken in another order -/
theorem rows_order {L : Mem K} {es : Array (Int × Value)} {order : Array Nat} (hr : es.toList = rowsT knd L) (hp : order.toList.Perm (List.range L.length)) :
    ∃ L2 : Mem K, (order.filterMap (es[·]?)).toList = rowsT knd L2 ∧ L2.Perm L ∧ hashesT knd L2 = order.toList.map fun i => (es.map (·.1)).getD i 0 := by
  have bound : ∀ i ∈ order.toList, i < L.length := fun i hi => List.mem_range.mp (hp.mem_iff.mp hi)
  refine ⟨order.toList.filterMap fun i => L[i]?, ?_, ?_, ?_⟩
  · rw [Array.toList_filterMap, rowsT, List.map_filterMap]
    have key : ∀ (m : List Nat), (∀ i ∈ m, i < L.length) → m.filterMap (fun i => es[i]?) = m.filterMap fun i => (L[i]?).map fun p => ((tkh knd p.2, Value.ref p.1) : Int × Value) := by
      intro m
      induction m with
      | nil => intro _; rfl
      | cons i m ih =>
        intro hm
        have hi := hm i List.mem_cons_self
        rw [List.filterMap_cons_some (rows_at hr (List.getElem?_eq_getElem hi)), ih fun j hj => hm j (List.mem_cons_of_mem _ hj), List.filterMap_cons_some (by rw [List.getElem?_eq_getElem hi]; rfl)]
    exact key _ bound
  · have q := hp.filterMap fun i => L[i]?
    rwa [picked_all] at q
  · rw [hashesT, List.map_filterMap]
    have key : ∀ (m : List Nat), (∀ i ∈ m, i < L.length) → m.filterMap (fun i => (L[i]?).map fun p => tkh knd p.2) = m.map fun i => (es.map (·.1)).getD i 0 := by
      intro m
      induction m with
      | nil => intro _; rfl
      | cons i m ih =>
        intro hm
        have hi := hm i List.mem_cons_self
        have e1 : (es.map (·.1))[i]? = some (tkh knd (L[i]).2) := by rw [Array.getElem?_map, rows_at hr (List.getElem?_eq_getElem hi)]; rfl
        rw [List.filterMap_cons_some (b := tkh knd (L[i]).2) (by rw [List.getElem?_eq_getElem hi]; rfl), ih fun j hj => hm j (List.mem_cons_of_mem _ hj), List.map_cons]
        simp [Array.getD_eq_getD_getElem?, e1]
    exact key _ bound
theorem relay_more {o : Obj} (ho : s.heap.get? a = some o) (hex : o.ExactSet) (hd : o.data = .set es ep t) (hrows : es.toList = rowsT knd L) (hsz : t.place.size = es.size) (hdm : t.dummies = #[]) (hfl : es.size ≤ t.mask)
    (nd : (L.map (·.2)).Nodup) (tup : ∀ p ∈ L, IsTupleKey knd s.heap p.2 p.1) (few : L.length < 64) {wanted M : Nat} (hw : SetTable.sizeAbove wanted - 1 = M) (hM : MaskOk M) (hw2 : SetTable.sizeAbove wanted ≤ 128) (hn : L.length * 5 < M * 3)
    {Q : Unit → Shared → Prop} (hQ : ∀ h' L' es' ep' t', Heap.SameBut a s.heap h' → TSet knd h' a L' es' ep' t' → L'.Perm L → Q () { s with heap := h' }) : wpAny (model P w) A (setRelay a wanted) Q E s := by
  have len := rows_size hrows
  have fits : t.fits es.size = true := by
    unfold SetTable.fits SetTable.fill
    rw [hdm, Bool.and_eq_true, beq_iff_eq, decide_eq_true_eq]
    show t.place.size = es.size ∧ t.place.size + 0 ≤ t.mask
    omega
  obtain ⟨t', order, e, hp, T, em, el, ep', ed⟩ := relaid_ok t (hs := es.map (·.1)) (wanted := wanted) hw hM (by rw [Array.size_map, len]; omega)
  rw [Array.size_map, len] at hp
  obtain ⟨L2, r1, r2, r3⟩ := rows_order hrows hp
  rw [← r3] at T
  have len2 : (order.filterMap (es[·]?)).size = es.size := by rw [rows_size r1, r2.length_eq, len]
  rw [setRelay_eq]
  refine wpAny_bind (wpAny_setState_of ho hd fits ?_)
  dsimp only
  refine wp_if_neg (by rw [sizeLine_eq]; omega) ?_
  try refine wpAny_bind (wpAny_pure ?_)
  rw [e]
  dsimp only
  refine wpAny_bind (wp_if_neg (by rw [len2]; simp) ?_)
  try refine wpAny_bind (wpAny_pure ?_)
  refine wpAny_pure ?_
  dsimp only
  refine wpAny_storeSet_of ho hd ?_ (by rw [len2, len, sizeLine_eq]; omega)
  have sb : Heap.SameBut a s.heap (s.heap.update a (Obj.putSet (order.filterMap (es[·]?)) t')) := Heap.SameBut.update ..
  exact hQ _ L2 (order.filterMap (es[·]?)) (ep + 1) t' sb ⟨⟨_, store_at ho hd, ⟨hex.1, hex.2.1, hex.2.2⟩, rfl⟩, r1, T, (r2.map (·.2)).nodup_iff.mpr nd, fun p hpm => still_tuple (tup p (r2.mem_iff.mp hpm)) ho hd sb,
    by rw [r2.length_eq, em]; exact hn, by rw [r2.length_eq]; exact few⟩ r2
/-- L' is L, or L and x at k -/
def MoreT (x : Addr) (k : List K) (L L' : Mem K) : Prop := (k ∈ L.map (·.2) ∧ L' = L) ∨ (k ∉ L.map (·.2) ∧ L'.Perm ((x, k) :: L))
theorem tset_add (fl : Flat8 knd) (R : TSet knd s.heap a L es ep t) {x : Addr} {k : List K} (hx : IsTupleKey knd s.heap k x) (hu : A.units < cLine) (few : L.length + 1 < 64) {Q : Bool → Shared → Prop}
    (hQ : ∀ b h' L' es' ep' t', Heap.SameBut a s.heap h' → TSet knd h' a L' es' ep' t' → MoreT x k L L' → Q b { s with heap := h' }) : wpAny (model P w) A (setAddHashed a (.ref x) (tkh knd k)) Q E s := by
  have R0 := R
  obtain ⟨o, ho, hex, hd⟩ := R.ob
  have len := rows_size R.rows
  have room := R.room
  unfold setAddHashed
  refine wpAny_holding ?_
  rw [show (100000 : Nat) = 99999 + 1 from rfl, setAddHashedIn_succ]
  refine wpAny_bind (wpAny_setState_of ho hd R.fits ?_)
  dsimp only
  refine wp_if_neg (by simp [byScan, Value.scannable]) ?_
  try refine wpAny_bind (wpAny_pure ?_)
  refine wpAny_bind (seek_all fl R hx hu (fun hm => ?_) fun N hm hN hb => ?_)
  · dsimp only
    exact wpAny_pure (hQ false s.heap L es ep t (Heap.SameBut.refl a s.heap) R0 (.inl ⟨hm, rfl⟩))
  · dsimp only
    refine wpAny_bind (wpAny_setState_of ho hd R.fits ?_)
    dsimp only
    obtain ⟨q1, q2, q3, q4, _, _, _, _, q9⟩ := R.tab.put hN hb
    generalize hpt : t.put (way t.mask (tkh knd k) N) = pt at q1 q3 q4 q9 ⊢
    obtain ⟨t1, p⟩ := pt
    dsimp only at q1 q3 q4 q9 ⊢
    subst q1
    have rowsIn : (SetTable.insertAt es (SetTable.below t.place (way t.mask (tkh knd k) N)) (tkh knd k, Value.ref x)).toList = rowsT knd (L.take (SetTable.below t.place (way t.mask (tkh knd k) N)) ++ (x, k) :: L.drop (SetTable.below t.place (way t.mask (tkh knd k) N))) := by
      rw [SetTable.toList_insertAt, R.rows, rowsT, rowsT, List.map_append, List.map_cons, List.map_take, List.map_drop]
    generalize SetTable.below t.place (way t.mask (tkh knd k) N) = p at q2 q3 rowsIn ⊢
    have pm := slid L p (x, k)
    have hs1 : hashesT knd (L.take p ++ (x, k) :: L.drop p) = (hashesT knd L).take p ++ tkh knd k :: (hashesT knd L).drop p := by
      unfold hashesT
      rw [List.map_append, List.map_cons, List.map_take, List.map_drop]
    rw [← hs1] at q3
    have nd1 : ((L.take p ++ (x, k) :: L.drop p).map (·.2)).Nodup := (pm.map (·.2)).nodup_iff.mpr (List.nodup_cons.mpr ⟨hm, R.nd⟩)
    generalize SetTable.insertAt es p (tkh knd k, Value.ref x) = es1 at rowsIn ⊢
    generalize L.take p ++ (x, k) :: L.drop p = L1 at pm q3 nd1 rowsIn
    have len1 : L1.length = L.length + 1 := pm.length_eq
    have sz1 : es1.size = L.length + 1 := by rw [rows_size rowsIn, len1]
    -- whatever is told of the order
    have go : ∀ t2 : SetTable, t2.place = t1.place → t2.dummies = t1.dummies → t2.mask = t1.mask →
        wpAny (model P w) A (do
          storeSet a es1 t2
          if !false && t2.tooFull then setRelay a (SetTable.grown (es.size + 1))
          return true) Q E s := fun t2 e1 e2 e3 => by
      have T2 : TabOk t2 (hashesT knd L1) := by
        obtain ⟨z1, z2, z3, z4, z5, z6⟩ := q3
        exact ⟨by rw [e1]; exact z1, by rw [e2]; exact z2, by rw [e1]; exact z3, by rw [e3]; exact z4, by rw [e1, e3]; exact z5, by rw [e1, e3]; exact z6⟩
      refine wpAny_bind (wpAny_storeSet_of ho hd ?_ (by rw [sz1, sizeLine_eq]; omega))
      have sb : Heap.SameBut a s.heap (s.heap.update a (Obj.putSet es1 t2)) := Heap.SameBut.update ..
      have ho1 := store_at (es' := es1) (t' := t2) ho hd
      generalize s.heap.update a (Obj.putSet es1 t2) = h1 at sb ho1 ⊢
      have tup1 : ∀ p ∈ L1, IsTupleKey knd h1 p.2 p.1 := fun p hp => by
        rcases List.mem_cons.mp (pm.mem_iff.mp hp) with e | hp
        · rw [e]; exact still_tuple hx ho hd sb
        · exact still_tuple (R.tup p hp) ho hd sb
      have fill2 : t2.fill = L.length + 1 := by
        have z : t1.fill = (hashesT knd L).length + 1 := q9
        rw [hashesT, List.length_map] at z
        unfold SetTable.fill at z ⊢
        rw [e1, e2]; exact z
      by_cases hf : t2.tooFull = true
      · have full : (L.length + 1) * 5 ≥ t2.mask * 3 := by
          have z := hf
          unfold SetTable.tooFull at z
          rw [decide_eq_true_eq, fill2] at z
          exact z
        rw [e3, q4] at full
        have cases2 : (t.mask = 7 ∧ L.length = 4) ∨ (t.mask = 31 ∧ L.length = 18) := by
          rcases R.tab.mok with e | e | e <;> rw [e] at full room
          · exact .inl ⟨e, by omega⟩
          · exact .inr ⟨e, by omega⟩
          · omega
        have lay : ∀ M, SetTable.sizeAbove (SetTable.grown (L.length + 1)) - 1 = M → MaskOk M → SetTable.sizeAbove (SetTable.grown (L.length + 1)) ≤ 128 → (L.length + 1) * 5 < M * 3 →
            wpAny (model P w) A (setRelay a (SetTable.grown (L.length + 1))) (fun _ s' => wpAny (model P w) A (pure true) Q E s') E { s with heap := h1 } := fun M b1 b2 b3 b4 =>
          relay_more (s := { s with heap := h1 }) ho1 ⟨hex.1, hex.2.1, hex.2.2⟩ rfl rowsIn (by have z := T2.sz; rw [hashesT, List.length_map] at z; rw [z, len1, sz1]) T2.dm (by rw [sz1, e3, q4]; rcases cases2 with ⟨e, e2⟩ | ⟨e, e2⟩ <;> omega) nd1 tup1 (by rw [len1]; exact few) b1 b2 b3 (by rw [len1]; exact b4)
            fun h2 L2 es2 ep2 t3 sb2 R2 pm2 => wpAny_pure (hQ true h2 L2 es2 ep2 t3 (sb.trans sb2) R2 (.inr ⟨hm, pm2.trans pm⟩))
        rw [len]
        first
          | (refine wpAny_bind ?_; refine wp_if_pos (by simp [hf]) ?_)
          | (refine wp_if_pos (by simp [hf]) ?_; refine wpAny_bind ?_)
        rcases cases2 with ⟨_, e2⟩ | ⟨_, e2⟩
        · exact lay 31 (by rw [e2, size_20]) (.inr (.inl rfl)) (by rw [e2, size_20]; decide) (by omega)
        · exact lay 127 (by rw [e2, size_76]) (.inr (.inr rfl)) (by rw [e2, size_76]; decide) (by omega)
      · first
          | refine wp_if_neg (by simp [hf]) ?_
          | (refine wpAny_bind ?_; refine wp_if_neg (by simp [hf]) ?_; refine wpAny_pure ?_)
        refine wpAny_pure (hQ true h1 L1 es1 (ep + 1) t2 sb ⟨⟨_, ho1, ⟨hex.1, hex.2.1, hex.2.2⟩, rfl⟩, rowsIn, T2, nd1, tup1, ?_, by rw [len1]; exact few⟩ (.inr ⟨hm, pm⟩))
        have z := hf
        unfold SetTable.tooFull at z
        rw [decide_eq_true_eq, fill2] at z
        rw [len1]
        omega
    by_cases pl : t1.plain = true
    · first
        | (refine wpAny_bind ?_; refine wp_if_pos pl ?_; refine someHash fl hx fun c => ?_)
        | refine wp_if_pos pl (wpAny_bind (someHash fl hx fun c => ?_))
      cases c with
      | true => exact go _ rfl rfl rfl
      | false => exact go _ rfl rfl rfl
    · first
        | (refine wpAny_bind ?_; refine wp_if_neg pl ?_; refine wpAny_pure ?_)
        | refine wp_if_neg pl (wpAny_bind (wpAny_pure ?_))
      exact go _ rfl rfl rfl
theorem tset_fresh {h : Heap} {led : Bool} (ho : h.get? a = some { cls := .type "set", dict := none, data := .set #[] 0 (.fresh 0 0 led) }) : TSet knd h a [] #[] 0 (.fresh 0 0 led) where
  ob := ⟨_, ho, ⟨rfl, rfl, rfl⟩, rfl⟩
  rows := rfl
  tab := ⟨List.Pairwise.nil, rfl, rfl, .inl rfl, fun x hx => (by cases hx), fun i h j hi => (by simp [hashesT] at hi)⟩
  nd := List.nodup_nil
  tup := fun p hp => nomatch hp
  room := by show 0 * 5 < 7 * 3; decide
  few := by show 0 < 64; decide
end
end Q9
end
-- QOwn
section
set_option maxRecDepth 100000
set_option maxHeartbeats 4000000
/-! e[k] and k in e by own __getitem__ and __contains__ -/
namespace Q9
open PySem L2
/-- the class (or one above it) has the name as the def at f -/
structure OwnAt (K : PySem.W.Frag) (C : Addr) (nm : Str) (f : Addr) : Prop where
  at_ : PySem.W.findIn K (.ref C) nm = some (some (.ref f))
  fn : PySem.W.fnIn K f = true
  isf : PySem.W.isFn K (.ref f) = true
/-- the promise at the object and the other value -/
def rOwn2 (C : Addr) (sp : Sp) (E : XK) : R2 := fun x y H Q => ∃ a dx fs, x = .ref a ∧ H a = some (.ins C dx fs) ∧ sp [.ref a, y] H Q E
def rOwnIn (C : Addr) (sp : Sp) (E : XK) : R2 := fun y x H Q => ∃ a dx fs, x = .ref a ∧ H a = some (.ins C dx fs) ∧ sp [.ref a, y] H (fun z H' => ∃ b, z = .bl b ∧ Q (.bl b) H') E
def rOwnNotIn (C : Addr) (sp : Sp) (E : XK) : R2 := fun y x H Q => ∃ a dx fs, x = .ref a ∧ H a = some (.ins C dx fs) ∧ sp [.ref a, y] H (fun z H' => ∃ b, z = .bl b ∧ Q (.bl (!b)) H') E
section
variable {X : Cx} {CX : CXT} {k : Nat} {C f : Addr} {fd : FuncData} {ps : List Str} {sp : Sp} {E : XK} {a b : Expr} {pos : Pos} {ta tb : TE}
/-- a def runs one call deeper -/
theorem run_in1 {pins : List (Addr × Obj)} {σ : St} {H : Hp} {s : Shared} {Q : VK} {us : List Value} {vs : List V} (F : FnOk X.prog X.w X.K X.mg X.base CX k f fd ps sp) (hr : Room (k + 1) X.A) (hb : Binds X.K fd ps []) (hx : Passes CX X E)
    (I : Inv X pins σ H s) (r : Vals vs us) (h : sp vs H Q E) : wpAny (model X.prog X.w) X.A.in1 (call (.ref f) us) (EP X pins σ Q) X.xe s := by
  have hl : (us ++ []).length = ps.length := by rw [List.append_nil, ← r.length]; exact F.len _ _ _ _ h
  have hbs := hb s us I.kIn hl
  rw [List.append_nil] at hbs
  refine wpAny_call (codeAny_mono (F.run X.A.in1 X.stack s H ⟨us, []⟩ us vs Q E hr.in1 I.env0.in1 hbs r h) fun r s' hq => ?_)
  cases r with
  | error e => exact hx pins σ H s e s' I hq
  | ok fl =>
    cases fl with
    | ret u => exact I.after hq
    | next => exact False.elim hq
    | brk => exact False.elim hq
    | cont => exact False.elim hq
theorem pe_ownIx (c : OwnAt X.K C "__getitem__" f) (F : FnOk X.prog X.w X.K X.mg X.base CX k f fd ps sp) (hr : Room (k + 1) X.A) (hb : Binds X.K fd ps []) (hx : Passes CX X E) (ha : PE X a ta) (hb2 : PE X b tb)
    (hs : ∀ o i, subscripted b true o i = runValue (.builtin "lifetime.subscript" ⟨[o, i], []⟩) := by intros; with_unfolding_all rfl) : PE X (.Subscript a b pos) (tOp (rOwn2 C sp E) ta tb) := by
  refine ⟨fun pins s σ H Q I h => ?_⟩
  refine PyProof.Rows.Subscript_ (binT ha hb2 I (R := fun x y H2 => rOwn2 C sp E x y H2 Q) h fun v u s2 x y H2 I2 rx ry q => ?_)
  obtain ⟨a1, dx, fs, ex, ea, q⟩ := q
  subst ex
  obtain rfl : v = Value.ref a1 := rx
  obtain ⟨mA, J, _⟩ := ins_get I2.hok ea
  obtain ⟨od, J, _⟩ := J.look
  obtain ⟨m, hF⟩ := I2.fr
  exact PySem.W.sub_K hF I2.ok.mod.kin J c.at_ c.fn c.isf (run_in1 (vs := [.ref a1, y]) F hr hb hx I2 (.cons rfl (.cons ry .nil)) q) (hs _ _)
theorem own_contains {pins : List (Addr × Obj)} {σ : St} {H : Hp} {s : Shared} {Q : Bool → Shared → Prop} {a1 dx : Addr} {fs : List (Str × V)} {y : V} {u : Value} (c : OwnAt X.K C "__contains__" f) (F : FnOk X.prog X.w X.K X.mg X.base CX k f fd ps sp) (hr : Room k X.A) (hb : Binds X.K fd ps []) (hx : Passes CX X E)
    (I : Inv X pins σ H s) (ea : H a1 = some (.ins C dx fs)) (ry : RelV y u) {Qv : VK} (h : sp [.ref a1, y] H Qv E) (fin : ∀ z H' s', Inv X pins σ H' s' → Qv z H' → ∃ b, z = .bl b ∧ Q b s') :
    wpAny (model X.prog X.w) X.A (contains (.ref a1) u) Q X.xe s := by
  obtain ⟨mA, J, _⟩ := ins_get I.hok ea
  obtain ⟨od, J, _⟩ := J.look
  unfold contains
  refine wpAny_holding ?_
  have e0 : stdlibNamesSay? (.ref a1) u = none := rfl
  rw [e0]
  refine wpAny_bind (wpAny_bind (J.type.here ((PySem.W.looks_findIn I.kIn c.at_).here ?_)))
  rw [if_neg (show ¬ ((some (Value.ref f) == some Value.none) = true) from Bool.false_ne_true)]
  refine wpAny_bind ?_
  unfold callSpecialUnlessNone?
  refine wpAny_bind (wpAny_bind (J.type.here ((PySem.W.looks_findIn I.kIn c.at_).here ?_)))
  refine wpAny_holding (wpAny_bind ((PySem.W.bind_fn I.kIn _ (beq_iff_eq.mp c.isf)).here ?_))
  dsimp only
  rw [if_neg (show ¬ ((Value.ref f == Value.none) = true) from Bool.false_ne_true)]
  refine wpAny_bind (wpAny_mono (run_fn (us := [.ref a1, u]) (vs := [.ref a1, y]) (ds := []) (dvs := []) F hr hb .nil hx I (.cons rfl (.cons ry .nil)) (by simpa using h)) (fun v s' hv => ?_) fun _ _ z => z)
  obtain ⟨z, H', I', rz, q⟩ := hv
  obtain ⟨b, rfl, qb⟩ := fin z H' s' I' q
  refine wpAny_pure ?_
  obtain rfl : v = Value.bool b := rz
  exact wpAny_truthy_bool qb
theorem op_ownIn (c : OwnAt X.K C "__contains__" f) (F : FnOk X.prog X.w X.K X.mg X.base CX k f fd ps sp) (hr : Room k X.A) (hb : Binds X.K fd ps []) (hx : Passes CX X E) : OpR X (compareOp .In) (rOwnIn C sp E) := by
  intro pins s σ H y x v u Q I ry rx h
  obtain ⟨a1, dx, fs, rfl, ea, q⟩ := h
  obtain rfl : u = Value.ref a1 := rx
  show wpAny _ _ (contains (.ref a1) v >>= fun b => pure (Value.bool b)) _ _ _
  exact wpAny_bind (own_contains c F hr hb hx I ea ry q fun z H' s' I' ⟨b, e, q⟩ => ⟨b, e, wpAny_pure ⟨.bl b, H', I', rfl, q⟩⟩)
theorem op_ownNotIn (c : OwnAt X.K C "__contains__" f) (F : FnOk X.prog X.w X.K X.mg X.base CX k f fd ps sp) (hr : Room k X.A) (hb : Binds X.K fd ps []) (hx : Passes CX X E) : OpR X (compareOp .NotIn) (rOwnNotIn C sp E) := by
  intro pins s σ H y x v u Q I ry rx h
  obtain ⟨a1, dx, fs, rfl, ea, q⟩ := h
  obtain rfl : u = Value.ref a1 := rx
  show wpAny _ _ (contains (.ref a1) v >>= fun b => pure (Value.bool (!b))) _ _ _
  exact wpAny_bind (own_contains c F hr hb hx I ea ry q fun z H' s' I' ⟨b, e, q⟩ => ⟨b, e, wpAny_pure ⟨.bl (!b), H', I', rfl, q⟩⟩)
end
end Q9
end
-- QTupRules
section
set_option maxRecDepth 100000
set_option maxHeartbeats 4000000
namespace Q9
open PySem PySem.Spec PyProof.Rows L2
theorem flat_mix {P : Program} {w : World} : Flat8 (mixKind P w) := by
  intro k v n h
  rcases keyIs_shape (show keyIs k v = true from h) with ⟨i, t, _, rfl⟩ | ⟨x, t, _, rfl⟩
  · refine ⟨⟨true, ?_⟩, ?_⟩
    · unfold hashByValue; rfl
    · unfold ofAClassStatement; rfl
  · refine ⟨⟨false, ?_⟩, ?_⟩
    · unfold hashByValue; rfl
    · unfold ofAClassStatement; rfl
/-- a set of tuples of keys at a; the tuples stand elsewhere -/
def TObj (P : Program) (w : World) (h : Heap) (a : Addr) (L : Mem Key) : Prop := ∃ (es : Array (Int × Value)) (ep : Nat) (t : SetTable), (∃ o, h.get? a = some o ∧ o.ExactSet ∧ o.data = .set es ep t) ∧ es.toList = rowsT (mixKind P w) L ∧
  TabOk t (hashesT (mixKind P w) L) ∧ (L.map (·.2)).Nodup ∧ L.length * 5 < t.mask * 3 ∧ L.length < 64
def SetTs (P : Program) (w : World) (a : Addr) (L : Mem Key) : HO := .ext fun h => TObj P w h a L
/-- the tuples themselves -/
def Tups (H : Hp) (L : Mem Key) : Prop := ∀ p ∈ L, H p.1 = some (.tup (p.2.map kV))
section
variable {X : Cx} {pins : List (Addr × Obj)} {σ : L2.St} {H : Hp} {s : Shared} {a : Addr} {L : Mem Key}
theorem tobj_of {P : Program} {w : World} {h : Heap} {es : Array (Int × Value)} {ep : Nat} {t : SetTable} (R : TSet (mixKind P w) h a L es ep t) : TObj P w h a L := ⟨es, ep, t, R.ob, R.rows, R.tab, R.nd, R.room, R.few⟩
theorem setTs_ok {P : Program} {w : World} {H : Hp} {h : Heap} (R : TObj P w h a L) : ObjOk P w H h a (SetTs P w a L) := by
  obtain ⟨es, ep, t, ⟨o, ho, hx, hd⟩, r⟩ := R
  exact ⟨⟨es, ep, t, ⟨o, ho, hx, hd⟩, r⟩, ⟨o, ho⟩, fun h1 h2 ⟨es, ep, t, ⟨o, ho, hx, hd⟩, r⟩ k => ⟨es, ep, t, ⟨o, k o ho, hx, hd⟩, r⟩⟩
theorem setTs_get (I : Inv X pins σ H s) (ha : H a = some (SetTs X.prog X.w a L)) (tp : Tups H L) : ∃ es ep t, TSet (mixKind X.prog X.w) s.heap a L es ep t := by
  have q : ObjOk X.prog X.w H s.heap a (.ext fun h => TObj X.prog X.w h a L) := I.hok a _ ha
  obtain ⟨es, ep, t, ob, rows, tab, nd, room, few⟩ := q.1
  exact ⟨es, ep, t, ob, rows, tab, nd, fun p hp => key_of I.hok (tp p hp), room, few⟩
/-- found.add(t), over the layer -/
theorem add_ts {k : List Key} {b : Addr} {Q : Value → Shared → Prop} {E : Value → Shared → Prop} {A : Around} (hu : A.in1.units < cLine) (I : Inv X pins σ H s) (ha : H a = some (SetTs X.prog X.w a L)) (tp : Tups H L) (eb : H b = some (.tup (k.map kV))) (room : L.length + 1 < 64)
    (hQ : ∀ s' L', MoreT b k L L' → Inv X pins σ (upd H a (SetTs X.prog X.w a L')) s' → Q .none s') : wpAny (model X.prog X.w) A (call (.builtin "set.add") [.ref a, .ref b]) Q E s := by
  obtain ⟨es, ep, t, R⟩ := setTs_get I ha tp
  have hk : IsTupleKey (mixKind X.prog X.w) s.heap k b := key_of I.hok eb
  have hT : s.TypeIs (.ref a) "set" := by
    obtain ⟨o, ho, hx, _⟩ := R.ob
    exact ⟨o, ho, hx.1⟩
  refine wpAny_call_entry F.slot_set_add hT F.entry_set_add ?_ (F.args_set_add_2 _ _)
  unfold Builtin.«set.add» Builtin.Frozenset.oneOther
  simp only [List.isEmpty_nil, bind_assoc]
  unfold Builtin.Frozenset.addrOf setAdd
  refine wpAny_bind (wpAny_pure ?_)
  try dsimp only
  refine wpAny_bind (wpAny_pure ?_)
  try dsimp only
  refine wpAny_bind (wpAny_holding (wpAny_bind (wpAny_pyHash_tuple hu hk ?_)))
  refine tset_add (s := { s with toks := s.toks + (k.length + 1) }) flat_mix R hk hu room fun b' h' L' es' ep' t' sb RS more => ?_
  show wpAny _ _ (ret Value.none) _ _ _
  refine wpAny_pure ⟨_, rfl, hQ _ L' more ?_⟩
  have he : ∃ q, h'.get? a = some q := let ⟨o, ho, _⟩ := RS.ob; ⟨o, ho⟩
  exact I.write (e := a) (t' := s.toks + (k.length + 1)) (by rw [ha]; trivial) (.inl rfl) (fun c u hc hu => (sb.2 c hc).trans hu) he (setTs_ok (tobj_of RS))
/-- len of such a set -/
def rLenTs (P : Program) (w : World) : List V → Hp → VK → Prop := fun vs H Q => ∃ (a : Addr) (L : Mem Key), vs = [V.ref a] ∧ H a = some (SetTs P w a L) ∧ Q (.int L.length) H
theorem cr_lenTs : CallR X (.builtin "len") (rLenTs X.prog X.w) := by
  intro pins s σ H vs us Q I r h
  obtain ⟨a, L, rfl, ha, q⟩ := h
  rw [Vals.ref1 r]
  have x : ObjOk X.prog X.w H s.heap a (.ext fun h => TObj X.prog X.w h a L) := I.hok a _ ha
  obtain ⟨es, ep, t, ⟨o, ho, hex, hd⟩, rows, tab, nd, room, few⟩ := x.1
  have e : es.size = L.length := rows_size rows
  have hf : t.fits es.size = true := by
    have h1 := tab.sz
    rw [hashesT, List.length_map] at h1
    unfold SetTable.fits SetTable.fill
    rw [tab.dm, Bool.and_eq_true, beq_iff_eq, decide_eq_true_eq]
    show t.place.size = es.size ∧ t.place.size + 0 ≤ t.mask
    omega
  refine call_len_set ho hex hd hf (by rw [e]; omega) ⟨.int L.length, H, I.tok _, ⟨_, by rw [e]⟩, q⟩
end
section
variable {X : Cx} {elt tg iter : Expr} {ifs : List Expr} {scope : Scope} {pos : Pos} {own : List (PySem.Str × Nat)} {wi : TI} {g : TG} {tt : TT} {te : TE}
def rAddT (P : Program) (w : World) (te : TE) : TailR := fun D σ H Nx => te σ H fun y H4 => ∃ (b : Addr) (k : List Key) (L : Mem Key), y = .ref b ∧ H4 b = some (.tup (k.map kV)) ∧ H4 D = some (SetTs P w D L) ∧ Tups H4 L ∧ L.length + 1 < 64 ∧
  ∀ L', MoreT b k L L' → Nx (upd H4 D (SetTs P w D L'))
/-- {e for .. in ..}, the elements tuples -/
theorem pe_scT (hu : X.A.in1.units < cLine) (hc : X.calm = true) (hN : X.N.Nodup) (hi : PI X tg iter wi) (ok : BlkOk X.N X.env.scope scope own)
    (hg : ∀ (s : Shared) (H : Hp) (C : Addr) (cl : List (PySem.Str × Addr)) (fp : List Addr), PG (X.blk s H scope (compEnvC scope cl C X.env) fp) tg g)
    (ht : ∀ (s : Shared) (H : Hp) (C : Addr) (cl : List (PySem.Str × Addr)) (fp : List Addr), PTs (X.blk s H scope (compEnvC scope cl C X.env) fp) ifs tt)
    (he : ∀ (s : Shared) (H : Hp) (C : Addr) (cl : List (PySem.Str × Addr)) (fp : List Addr), PE (X.blk s H scope (compEnvC scope cl C X.env) fp) elt te)
    (hs : ∀ x, foldedSetIterable iter X.env x = pure x := by intro _; rfl) :
    PE X (.SetComp elt [⟨tg, iter, ifs, 0⟩] scope pos) (tColl (fun D => SetTs X.prog X.w D []) wi g tt (rAddT X.prog X.w te) (own.map (·.2))) := by
  refine pe_coll kind_set hc hN hi ok (fun H h _ => setTs_ok (tobj_of (tset_fresh (led := !X.w.params.followText "set-order") (Heap.get?_push_size (o := emptySet X.w) h rfl)))) hg ht ?_ ?_ hs
  · intro s H C cl fp pins s1 σ1 H1 D Nx E I h
    refine thnF ((he s H C cl fp).run pins s1 σ1 H1 _ I h) fun u s2 ⟨y, H2, I2, r2, b, k, L, ey, eb, hD, tp, room, nx⟩ => ?_
    subst ey
    cases r2
    exact add_ts (X := X.blk s H scope (compEnvC scope cl C X.env) fp) hu I2 hD tp eb room fun s' L' mo I3 => ⟨_, I3, nx L' mo⟩
  · intro env acc E Q Q' s h m
    exact thn h fun x s4 h4 => thn h4 fun _ s5 q => m s5 q
end
end Q9
namespace Q9
open PySem L2
/-- what a walk over tgt has gathered behind i turns -/
structure CollT (tgt : List (List Key)) (i : Nat) (L : Mem Key) : Prop where
  nd : (L.map (·.2)).Nodup
  mem : ∀ k, k ∈ L.map (·.2) ↔ k ∈ tgt.take i
theorem CollT.zero (tgt : List (List Key)) : CollT tgt 0 [] := ⟨List.nodup_nil, fun k => by simp⟩
theorem CollT.next {tgt : List (List Key)} {i : Nat} {L L' : Mem Key} {k : List Key} {b : Addr} (c : CollT tgt i L) (h : tgt[i]? = some k) (m : MoreT b k L L') : CollT tgt (i + 1) L' := by
  have e : tgt.take (i + 1) = tgt.take i ++ [k] := take_one_more h
  rcases m with ⟨hm, rfl⟩ | ⟨hm, p⟩
  · refine ⟨c.nd, fun j => ?_⟩
    rw [e, List.mem_append, List.mem_singleton, c.mem j]
    exact ⟨.inl, fun z => z.elim id fun z => z ▸ (c.mem k).1 hm⟩
  · have pm := p.map (·.2)
    refine ⟨pm.nodup_iff.mpr (List.nodup_cons.mpr ⟨hm, c.nd⟩), fun j => ?_⟩
    rw [pm.mem_iff, e, List.mem_append, List.mem_singleton, List.map_cons, List.mem_cons, c.mem j]
    exact Or.comm
theorem CollT.len_le {tgt : List (List Key)} {i : Nat} {L : Mem Key} (c : CollT tgt i L) : L.length ≤ i := by
  have h := nodup_le (L.map (·.2)) (tgt.take i) c.nd fun k hk => (c.mem k).1 hk
  rw [List.length_map, List.length_take] at h
  omega
theorem CollT.all {tgt : List (List Key)} {L : Mem Key} (c : CollT tgt tgt.length L) : L.length = tgt.length ↔ tgt.Nodup := by
  have h := unlike_len c.nd (l := tgt) fun k => by rw [c.mem k, List.take_length]
  rwa [List.length_map] at h
end Q9
end
-- QItems
section
set_option maxRecDepth 100000
set_option maxHeartbeats 4000000
namespace Q9
open PySem PySem.Spec PyProof.Rows L2
/-! ### many new things at once -/
/-- the things os at the addresses as -/
def lay : Hp → List Addr → List HO → Hp
  | H, a :: as, o :: os => lay (upd H a o) as os
  | H, _, _ => H
theorem lay_off {b : Addr} : ∀ (as : List Addr) (os : List HO) (H : Hp), b ∉ as → lay H as os b = H b
  | [], os, _, _ => by cases os <;> rfl
  | _ :: _, [], _, _ => rfl
  | a :: as, o :: os, H, n => by
    have n' : b ≠ a ∧ b ∉ as := ⟨fun z => n (z ▸ List.mem_cons_self), fun z => n (List.mem_cons_of_mem _ z)⟩
    show lay (upd H a o) as os b = H b
    rw [lay_off as os _ n'.2, upd_ne n'.1]
theorem lay_at : ∀ (as : List Addr) (os : List HO) (H : Hp) (j : Nat) (a : Addr) (o : HO), as.Nodup → as[j]? = some a → os[j]? = some o → lay H as os a = some o
  | [], _, _, j, _, _, _, h, _ => by cases h
  | _ :: _, [], _, j, _, _, _, _, h => by cases h
  | a :: as, o :: os, H, 0, b, u, nd, h1, h2 => by
    cases Option.some.inj h1
    cases Option.some.inj h2
    show lay (upd H a o) as os a = some o
    rw [lay_off as os _ (List.nodup_cons.mp nd).1, upd_same]
  | a :: as, o :: os, H, j + 1, b, u, nd, h1, h2 => lay_at as os (upd H a o) j b u (List.nodup_cons.mp nd).2 (by simpa using h1) (by simpa using h2)
section
variable {X : Cx} {pins : List (Addr × Obj)} {σ : L2.St} {H : Hp} {s : Shared}
/-- the state behind a call that laid the things os at as, all new, and kept all else -/
theorem inv_lay (I : Inv X pins σ H s) {s' : Shared} {as : List Addr} {os : List HO} (k : Keeps s.heap s'.heap) (g : s'.gens = s.gens) (eo : s'.os = s.os) (len : as.length = os.length) (nd : as.Nodup) (new : ∀ a ∈ as, s.heap.objs.size ≤ a)
    (ok : ∀ (j : Nat) (a : Addr) (o : HO), as[j]? = some a → os[j]? = some o → ObjOk X.prog X.w (lay H as os) s'.heap a o) : Inv X pins σ (lay H as os) s' := by
  have fr : ∀ a ∈ as, H a = none := fun a ha => I.hok.fresh (new a ha)
  have low : ∀ b o, s.heap.get? b = some o → b ∉ as := fun b o e z => Nat.not_lt.mpr (new b z) (Heap.lt_size e)
  have keep : ∀ b u, H b = some u → lay H as os b = some u := fun b u e => by
    rw [lay_off as os H fun z => nomatch (fr b z).symm.trans e]
    exact e
  have un : Un (frs X.stack) [] H (lay H as os) s.heap s'.heap := {
    keep := fun b o q _ _ _ => k b o q
    slot := fun b o q _ _ _ => ⟨o.slots, k b o q⟩
    free := fun b o q n _ => (lay_off as os H (low b o q)).trans n
    there := fun b o q _ => ⟨o, k b o q⟩
    tups := fun b xs q => keep b _ q
    frzs := fun b o u q => keep b _ q
    tbls := fun b ps q => ⟨#[], by rw [Array.append_empty]; exact keep b _ q⟩ }
  refine I.call' (ch := []) eo un (fun b u e => ?_) (by rw [g]; exact I.bare) fun _ z => nomatch z
  by_cases hb : b ∈ as
  · obtain ⟨j, hj⟩ := List.mem_iff_getElem?.mp hb
    have jl : j < os.length := by rw [← len]; exact (List.getElem?_eq_some_iff.mp hj).1
    have e2 := lay_at as os H j b os[j] nd hj (List.getElem?_eq_getElem jl)
    rw [e2] at e
    cases e
    exact ok j b _ hj (List.getElem?_eq_getElem jl)
  · rw [lay_off as os H hb] at e
    exact (I.hok b u e).stay (fun c v _ q => k c v q) (fun c q => keep c _ q) fun c xs q => keep c _ q
/-- at t: the tuple of a key (a tuple of keys) and its value -/
def PairT (H : Hp) (t : Addr) (kv : List Key × V) : Prop := ∃ q, H t = some (.tup [.ref q, kv.2]) ∧ H q = some (.tup (kv.1.map kV))
def rItemsT : V → Hp → VK → Prop := fun x H Q => ∃ (d : Addr) (kvs : List (List Key × V)), x = .ref d ∧ H d = some (.dT kvs) ∧
  ∀ (H' : Hp) (p : Addr) (ts : List Addr), Same H H' → H p = none → (∀ t ∈ ts, H t = none) → p ∉ ts → H' p = some (.lst (ts.map V.ref)) → Paired (PairT H') ts kvs → Q (.ref p) H'
def tListItemsT (te : TE) : TE := fun σ H Q => te σ H fun x H1 => rItemsT x H1 Q
theorem paired_by {α β : Type} {F : α → β → Prop} : ∀ {xs : List α} {ys : List β}, xs.length = ys.length → (∀ (j : Nat) (x : α) (y : β), xs[j]? = some x → ys[j]? = some y → F x y) → Paired F xs ys
  | [], [], _, _ => .nil
  | [], _ :: _, h, _ => by cases h
  | _ :: _, [], h, _ => by cases h
  | x :: xs, y :: ys, h, f => .cons (f 0 x y rfl rfl) (paired_by (Nat.succ.inj h) fun j a b h1 h2 => f (j + 1) a b (by simpa using h1) (by simpa using h2))
variable {e : Expr} {te : TE} {p apos cpos pos : Pos}
/-- list(e.items()), the keys of the dict tuples -/
theorem pe_listItemsT (hc : X.calm = true) (he : PE X e te) (hg : Gl X "list") (hm : X.mg "list" = none) (hv : bootBuiltins "list" = some (.type "list")) (hbase : attributeBase e "items" X.env (eval e X.env) = eval e X.env := by rfl) (hline : (apos.endLine == cpos.line) = true := by rfl)
    (hs : starEach [.Call (.Attribute e "items" apos) [] [] cpos] X.env = (false, eval (.Call (.Attribute e "items" apos) [] [] cpos) X.env) :: starEach [] X.env := by rfl) :
    PE X (.Call (.Name "list" p) [.Call (.Attribute e "items" apos) [] [] cpos] [] pos) (tListItemsT te) := by
  refine ⟨fun pins s σ H Q I hq => wpAny_Call_Name_kw (ld_blt I hg hm hv (PyProof.Rows.callWith_type1 ?_ hs rfl))⟩
  rw [hs]
  show wpAny _ _ (spliced ((false, eval (.Call (.Attribute e "items" apos) [] [] cpos) X.env) :: backTo pos (starEach [] X.env))) _ _ s
  refine Calls.spliced_cons (wpAny_Call_method (T := "dict") (id := "dict.items") hbase rfl hline F.plainAttrs_dict F.slot_dict_items F.type_dict_items (thn (he.run pins s σ H _ I hq) fun u s1 ⟨x, H1, I1, rx, d, kvs, ex, hd, q⟩ => ?_))
  subst ex
  obtain rfl : u = Value.ref d := rx
  obtain ⟨hz, hs0, xs, kt, hdo⟩ := dt_of I1.hok hd
  obtain ⟨es, ep, raw, sz, ents⟩ := hdo.raw
  have lk : kvs.length = xs.length := Paired.length kt
  have I2 : Inv X pins σ H1 { s1 with heap := s1.heap.push { cls := .type "dict_items", data := .fields #[.ref d] } } := I1.kept (t' := s1.toks) fun b ob q => Heap.get?_push_of_some _ q
  refine ⟨raw.typeIs, (fun b e => by cases e; exact let ⟨o, ho, hc, _⟩ := raw; ⟨o, ho, hc.2.1⟩), ?_⟩
  show wpAny _ _ (callWith cpos (.builtin "dict.items") [.ref d] [] []) _ X.xe s1
  refine method_meetsIn F.slot_dict_items F.entry_dict_items rfl (PySem.evalArgs_none ⟨rfl, raw.typeIs, F.args_dict_items_1 _, _, meets_dict_items_raw d hs0, ⟨es, ep, raw⟩, Calls.spliced_nil ?_⟩)
  refine PySem.W.dil_call (I1.ok.hd hc) ⟨_, Heap.get?_push_size _ rfl, rfl, rfl⟩ (raw.push _) (by omega) fun h' tk acc c as hk hS hl hG hacc => ?_
  have size2 : (s1.heap.push { cls := .type "dict_items", data := .fields #[.ref d] }).objs.size = s1.heap.objs.size + 1 := Heap.size_push ..
  generalize eD : (s1.heap.push { cls := .type "dict_items", data := .fields #[.ref d] }).objs.size = D at *
  have nd : (D :: as).Nodup := List.nodup_cons.mpr ⟨fun z => Nat.lt_irrefl _ (hG.above _ z), List.Pairwise.imp (fun {a b} (h : a < b) => Nat.ne_of_lt h) hG.rise⟩
  have new : ∀ a ∈ D :: as, (s1.heap.push { cls := .type "dict_items", data := .fields #[.ref d] }).objs.size ≤ a := fun a ha => by
    rcases List.mem_cons.mp ha with z | z
    · rw [z, eD]; exact Nat.le_refl _
    · rw [eD]; exact Nat.le_of_lt (hG.above a z)
  have los : as.length = ((kvs.zip xs).map fun z => HO.tup [.ref z.2.2.1, z.1.2]).length := by rw [List.length_map, List.length_zip, hl, sz, lk, Nat.min_self]
  have low : ∀ b o, s1.heap.get? b = some o → b ∉ D :: as := fun b o e2 z => by
    have l1 := new b z
    have l2 := Heap.lt_size e2
    rw [eD, size2] at l1
    exact Nat.not_lt.mpr (Nat.le_of_succ_le l1) l2
  have old : ∀ b u, H1 b = some u → lay H1 (D :: as) (.lst (as.map V.ref) :: (kvs.zip xs).map fun z => HO.tup [.ref z.2.2.1, z.1.2]) b = some u := fun b u e2 => by
    rw [lay_off _ _ _ fun z => nomatch (I2.hok.fresh (new b z)).symm.trans e2]
    exact e2
  -- the j-th pair
  have pr : ∀ (j : Nat) (kv : List Key × V), kvs[j]? = some kv → ∃ y, xs[j]? = some y ∧ ((kvs.zip xs).map fun z => HO.tup [.ref z.2.2.1, z.1.2])[j]? = some (.tup [.ref y.2.1, kv.2]) ∧ H1 y.2.1 = some (.tup (kv.1.map kV)) ∧ RelV kv.2 y.2.2 := fun j kv hj => by
    obtain ⟨y, h1, e1, e2, e3⟩ := LiI.paired_get kt hj
    exact ⟨y, h1, by rw [List.getElem?_map, List.getElem?_zip_eq_some (z := (kv, y)) |>.mpr ⟨hj, h1⟩]; rfl, e2, e3⟩
  have J : Inv X pins σ (lay H1 (D :: as) (.lst (as.map V.ref) :: (kvs.zip xs).map fun z => HO.tup [.ref z.2.2.1, z.1.2])) { s1 with heap := h', toks := tk } := by
    refine inv_lay I2 hk rfl rfl (by rw [List.length_cons, List.length_cons, los]) nd new fun j a o h1 h2 => ?_
    cases j with
    | zero =>
      cases Option.some.inj h1
      cases Option.some.inj h2
      refine ⟨by rw [List.length_map]; omega, acc.toList, c, by rw [hacc]; exact LiI.vals_refs as, ?_⟩
      rw [Array.toArray_toList]
      exact hS
    | succ j =>
      have h1' : as[j]? = some a := by simpa using h1
      obtain ⟨hj, at_⟩ := hG.pairs j a h1'
      obtain ⟨y, k1, k2, k3, _⟩ := ents j hj
      have jk : j < kvs.length := by omega
      obtain ⟨y', m1, m2, m3, m4⟩ := pr j _ (List.getElem?_eq_getElem jk)
      rw [k1] at m1
      cases m1
      have h2' : ((kvs.zip xs).map fun z => HO.tup [.ref z.2.2.1, z.1.2])[j]? = some o := by simpa using h2
      rw [m2] at h2'
      cases h2'
      rw [k2, k3] at at_
      exact ⟨by show 2 ≤ sizeLine; decide, [.ref y.2.1, y.2.2], .cons rfl (.cons m4 .nil), _, at_, rfl, _, rfl⟩
  refine ⟨.ref D, _, J, rfl, q _ D as (fun b o e2 => old b o e2) (I2.hok.fresh (new D List.mem_cons_self)) (fun t ht => I2.hok.fresh (new t (List.mem_cons_of_mem _ ht))) (List.nodup_cons.mp nd).1 (lay_at _ _ _ 0 D _ nd rfl rfl) ?_⟩
  refine paired_by (by omega) fun j a kv h1 h2 => ?_
  obtain ⟨y, m1, m2, m3, m4⟩ := pr j kv h2
  exact ⟨y.2.1, lay_at _ _ _ (j + 1) a _ nd (by simpa using h1) (by simpa using m2), old _ _ m3⟩
/-! ### dict(ps), the keys tuples -/
def mergeT (kvs more : List (List Key × V)) : List (List Key × V) := more.foldl (fun acc kv => putK acc kv.1 kv.2) kvs
theorem length_mergeT : ∀ (more kvs : List (List Key × V)), (mergeT kvs more).length ≤ kvs.length + more.length
  | [], kvs => Nat.le_refl _
  | kv :: more, kvs => by
    have h1 := length_mergeT more (putK kvs kv.1 kv.2)
    have h2 := length_putK kvs kv.1 kv.2
    show (mergeT (putK kvs kv.1 kv.2) more).length ≤ _
    rw [List.length_cons]
    omega
theorem kt_merge {H : Hp} {more : List (List Key × V)} {rs : List (List Key × Addr × Value)} (m : KT H more rs) : ∀ {kvs : List (List Key × V)} {xs : List (List Key × Addr × Value)}, KT H kvs xs → KT H (mergeT kvs more) (storedAllH xs rs) := by
  unfold KT at m
  induction m with
  | nil => exact fun r => r
  | @cons p q l m h t ih =>
    intro kvs xs r
    have h' : KT H (putK kvs p.1 p.2) (storedH xs q.1 q.2.1 q.2.2) := by
      rw [← h.1]
      exact KT.put r p.1 h.2.1 h.2.2
    exact ih h' 
theorem rows_of_pairs (I : Inv X pins σ H s) : ∀ {ts : List Addr} {kvs : List (List Key × V)}, Paired (PairT H) ts kvs →
    ∃ rs : List (List Key × Addr × Value), KT H kvs rs ∧ rs.length = ts.length ∧ ∀ (j : Nat) (r : List Key × Addr × Value), rs[j]? = some r → ∃ b, ts[j]? = some b ∧ s.heap.IsTuple b #[.ref r.2.1, r.2.2]
  | _, _, .nil => ⟨[], .nil, rfl, fun j r e => by simp at e⟩
  | _, _, .cons (a := t) (b := kv) ⟨q, h1, h2⟩ rest => by
    obtain ⟨rs, k, l, f⟩ := rows_of_pairs I rest
    obtain ⟨its, rv, ht, _⟩ := I.tuple (.of h1)
    obtain ⟨u, y, ei, ru, ry⟩ := vals2 rv
    subst ei
    cases ru
    refine ⟨(kv.1, q, y) :: rs, .cons ⟨rfl, h2, ry⟩ k, by rw [List.length_cons, List.length_cons, l], fun j r e => ?_⟩
    cases j with
    | zero =>
      cases Option.some.inj e
      exact ⟨t, rfl, ht⟩
    | succ j =>
      obtain ⟨b, e1, e2⟩ := f j r (by simpa using e)
      exact ⟨b, by simpa using e1, e2⟩
def rDictT (K : PySem.W.Frag) : List V → Hp → VK → Prop := fun vs H Q => ∃ (a : Addr) (ts : List Addr) (kvs : List (List Key × V)), vs = [.ref a] ∧ SqL K H a (ts.map V.ref) ∧ Paired (PairT H) ts kvs ∧
  ∀ p, H p = none → Q (.ref p) (upd H p (.dT (mergeT [] kvs)))
theorem cr_dictT (hcalm : X.calm = true) (hu : X.A.in1.in1.units < cLine) : CallR X (.type "dict") (rDictT X.K) := by
  intro pins s σ H vs us Q I r h
  obtain ⟨a, ts, kvs, rfl, hq, hp, q⟩ := h
  rw [Vals.ref1 r]
  obtain ⟨its, rv, pl, hz⟩ := I.list hq
  cases refs_vals rv
  rw [List.length_map] at hz
  obtain ⟨rs, kt, hl, hr⟩ := rows_of_pairs I hp
  obtain ⟨o, n, ho, hc, hd, hdat⟩ := pl
  have len : (rs.map fun r => ((.ref r.2.1, r.2.2) : Value × Value)).length = ts.length := by rw [List.length_map, hl]
  have items : PairItems s.heap (ts.map Value.ref).toArray (fun j => (ts[j]?).getD 0) (rs.map fun r => ((.ref r.2.1, r.2.2) : Value × Value)) := by
    refine ⟨by rw [List.size_toArray, List.length_map, len], fun j k v e => ?_⟩
    rw [List.getElem?_map] at e
    obtain ⟨r, e1, e2⟩ := Option.map_eq_some_iff.mp e
    cases e2
    obtain ⟨b, e3, e4⟩ := hr j r e1
    refine ⟨?_, ?_⟩
    · rw [List.getElem?_toArray, List.getElem?_map, e3]
      show some (Value.ref b) = some (Value.ref ((ts[j]?).getD 0))
      rw [e3]
      rfl
    · show PairAt s.heap ((ts[j]?).getD 0) _ _
      rw [e3]
      exact .inl e4
  refine call_dict_pairsH (knd := tupleKind (mixKind X.prog X.w)) (ps := rs) (PairArg.list a _ _ _) (I.ok.hd hcalm) hu ⟨⟨o, n, ho, hc, hd, hdat⟩, items⟩ ⟨by rw [len, hl], fun i key v e => ?_⟩ (fun h' keep x hx => ?_) (by rw [len]; exact hz) fun h' tk hd' k => ?_
  · have e' : (rs.map fun r => ((.ref r.2.1, r.2.2) : Value × Value))[i]? = some (key, v) := e
    rw [List.getElem?_map] at e'
    obtain ⟨r, e1, e2⟩ := Option.map_eq_some_iff.mp e'
    cases e2
    exact ⟨r.1, r.2.1, e1, rfl⟩
  · obtain ⟨j, hj⟩ := List.mem_iff_getElem?.mp hx
    have jl : j < kvs.length := by rw [Paired.length kt]; exact (List.getElem?_eq_some_iff.mp hj).1
    obtain ⟨y, e1, e2, e3, _⟩ := LiI.paired_get kt (List.getElem?_eq_getElem jl)
    rw [hj] at e1
    cases e1
    rw [e2] at e3
    obtain ⟨o', items', n', g1, g2, g3, g4⟩ := key_of I.hok e3
    exact ⟨o', items', n', keep _ _ (Nat.ne_of_lt (Heap.lt_size g1)) (fun z => nomatch z) g1, g2, g3, g4⟩
  · have k' : Keeps s.heap h' := fun b o e => k b o (fun z => nomatch z) e
    have big : (s.heap.objs.size == sysModules) = false := beq_eq_false_iff_ne.mpr (Nat.ne_of_gt I.big)
    have hn : H s.heap.objs.size = none := I.hok.fresh (Nat.le_refl _)
    have lz : (mergeT [] kvs).length ≤ sizeLine := by
      have := length_mergeT kvs []
      rw [List.length_nil, Nat.zero_add, Paired.length kt, hl] at this
      omega
    obtain ⟨o2, es, ep, g1, g2, g3, g4, _, g5⟩ := hd'
    have J := I.laid (t' := tk) (o := .dT (mergeT [] kvs)) k' (Nat.le_refl _) ⟨lz, big, _, (kt_merge kt .nil).keeps fun b ys e => (by rw [upd_ne (ne_of_none e hn)]; exact e), o2, es, ep, g1, g2, g3, g4, g5⟩
    exact ⟨.ref _, _, J, rfl, q _ hn⟩
end
end Q9
end
-- QNone
section
set_option maxRecDepth 100000
set_option maxHeartbeats 4000000
namespace Q9
open PySem L2
/-! ### what a kind is made of -/
/-- names, words, unlike outcomes -/
structure RightParts (nm st : Str) (es : List Str) (mv : Mv) : Prop where
  name : nameB nm = true
  start : nameB st = true
  ends : ∀ z ∈ es, nameB z = true
  unlike : es.Nodup
  keys : ∀ e ∈ mv, nameB e.1.1 = true ∧ nameB e.1.2 = true
  outs : ∀ e ∈ mv, ∀ o ∈ e.2, wordB o.1 = true ∧ nameB o.2 = true
  outsU : ∀ e ∈ mv, e.2.Nodup
/-- within the bounds -/
def Fits (st : Str) (es : List Str) (mv : Mv) : Prop := (∀ e ∈ mv, e.2.length ≤ 8) ∧ (∀ ys : List Str, ys.Nodup → (∀ z ∈ ys, z ∈ statesIn st es mv) → ys.length ≤ 60) ∧ ∀ zs : List Str, zs.Nodup → (∀ z ∈ zs, z ∈ methodsIn mv) → zs.length ≤ 8
/-- few enough for any set of them -/
structure Small (st : Str) (es : List Str) (mv : Mv) : Prop where
  len : (statesIn st es mv).length ≤ 1000000
  states : FewIn ((statesIn st es mv).map kInr)
  methods : FewIn ((methodsIn mv).map kInr)
  words : FewIn ((wordsIn mv).map kInr)
/-- what __init__ does with parts that are right but for the bounds; KA tells a made kind -/
def spKindI (C CB : Addr) (K : PySem.W.Frag) (KA : Hp → Addr → Str → Str → List Str → Mv → Prop) : Sp := fun vs H Q E => ∃ (x dx m : Addr) (nm st : Str) (ex : V) (es : List Str) (kvs : List (List Key × V)) (mv : Mv), vs = [.ref x, .str nm, .str st, ex, .ref m] ∧
  H x = some (.ins C dx []) ∧ H dx = some (.own x) ∧ Row K H ex (es.map V.str) ∧ H m = some (.dT kvs) ∧ Moves K H kvs mv ∧ RightParts nm st es mv ∧ Small st es mv ∧
  ((Fits st es mv ∧ ∀ H', But x H H' → KA H' x nm st es mv → Q .non H') ∨ (¬ Fits st es mv ∧ ∀ (H' : Hp) (d : Addr), But x H H' → H d = none → H' d = some (.xd [("part", .str "moves")]) → E (.ref CB) (some d) H'))
/-- _law_is_none: whether the bounds are passed -/
abbrev kindPs : List Str := ["self", "name", "start", "ends", "moves"]
section
variable {P : Program} {w : World} {K : PySem.W.Frag} {mg : Str → Option Value} {base : Heap} {C CB fI : Addr} {KA : Hp → Addr → Str → Str → List Str → Mv → Prop} {k : Nat}
end
end Q9
end
-- QMoves
section
set_option maxRecDepth 100000
set_option maxHeartbeats 4000000
namespace Q9
open PySem L2
/-! ### dicts of moves put together -/
def putM (mv : Mv) (k : Str × Str) (os : List (Str × Str)) : Mv := if (mv.any fun e => decide (e.1 = k)) = true then mv.map (fun e => if e.1 = k then (e.1, os) else e) else mv ++ [(k, os)]
def mergeM (mv more : Mv) : Mv := more.foldl (fun acc e => putM acc e.1 e.2) mv
theorem mergeM_cons (mv : Mv) (e : (Str × Str) × List (Str × Str)) (more : Mv) : mergeM mv (e :: more) = mergeM (putM mv e.1 e.2) more := rfl
theorem mem_putM {mv : Mv} {k : Str × Str} {os : List (Str × Str)} {e : (Str × Str) × List (Str × Str)} (h : e ∈ putM mv k os) : e ∈ mv ∨ e = (k, os) := by
  unfold putM at h
  split at h
  · obtain ⟨e', h1, h2⟩ := List.mem_map.mp h
    by_cases c : e'.1 = k
    · rw [if_pos c] at h2
      right
      rw [← h2, c]
    · rw [if_neg c] at h2
      left
      rw [← h2]
      exact h1
  · rcases List.mem_append.mp h with h | h
    · exact .inl h
    · exact .inr (List.mem_singleton.mp h)
theorem mem_mergeM : ∀ {more mv : Mv} {e : (Str × Str) × List (Str × Str)}, e ∈ mergeM mv more → e ∈ mv ∨ e ∈ more
  | [], _, _, h => .inl h
  | x :: more, mv, e, h => by
    rcases mem_mergeM (more := more) (show e ∈ mergeM (putM mv x.1 x.2) more from h) with h | h
    · rcases mem_putM h with h | h
      · exact .inl h
      · exact .inr (h ▸ List.mem_cons_self)
    · exact .inr (List.mem_cons_of_mem _ h)
/-- it stands there -/
theorem at_putM (mv : Mv) (k : Str × Str) (os : List (Str × Str)) : (k, os) ∈ putM mv k os := by
  unfold putM
  split
  · rename_i c
    obtain ⟨e, h1, h2⟩ := List.any_eq_true.mp c
    have h2' : e.1 = k := of_decide_eq_true h2
    exact List.mem_map.mpr ⟨e, h1, by rw [if_pos h2', h2']⟩
  · exact List.mem_append_right _ List.mem_cons_self
theorem keys_putM {mv : Mv} {k : Str × Str} {os : List (Str × Str)} {j : Str × Str} (h : j ∈ mv.map (·.1)) : j ∈ (putM mv k os).map (·.1) := by
  obtain ⟨e, h1, h2⟩ := List.mem_map.mp h
  unfold putM
  split
  · rw [List.map_map]
    exact List.mem_map.mpr ⟨e, h1, by by_cases c : e.1 = k <;> simp [c, ← h2]⟩
  · rw [List.map_append]
    exact List.mem_append_left _ h
theorem keys_mergeM : ∀ {more mv : Mv} {j : Str × Str}, j ∈ mv.map (·.1) ∨ j ∈ more.map (·.1) → j ∈ (mergeM mv more).map (·.1)
  | [], _, _, h => h.elim id fun z => nomatch z
  | x :: more, mv, j, h => by
    refine keys_mergeM (more := more) (mv := putM mv x.1 x.2) ?_
    rcases h with h | h
    · exact .inl (keys_putM h)
    · rcases List.mem_cons.mp (show j ∈ x.1 :: more.map (·.1) from h) with h | h
      · exact .inl (List.mem_map.mpr ⟨_, at_putM mv x.1 x.2, h.symm⟩)
      · exact .inr h
theorem mergeM_append (mv a b : Mv) : mergeM mv (a ++ b) = mergeM (mergeM mv a) b := List.foldl_append ..
theorem last_mergeM (mv more : Mv) (e : (Str × Str) × List (Str × Str)) : e ∈ mergeM mv (more ++ [e]) := by
  rw [mergeM_append]
  exact at_putM _ _ _
theorem length_putM (mv : Mv) (k : Str × Str) (os : List (Str × Str)) : (putM mv k os).length ≤ mv.length + 1 := by
  unfold putM
  split
  · rw [List.length_map]; exact Nat.le_succ _
  · rw [List.length_append, List.length_singleton]; exact Nat.le_refl _
theorem length_mergeM : ∀ (more mv : Mv), (mergeM mv more).length ≤ mv.length + more.length
  | [], mv => Nat.le_refl _
  | x :: more, mv => by
    have h1 := length_mergeM more (putM mv x.1 x.2)
    have h2 := length_putM mv x.1 x.2
    rw [mergeM_cons, List.length_cons]
    omega
theorem paired_append {α β : Type} {F : α → β → Prop} : ∀ {a : List α} {b : List β} {c : List α} {d : List β}, Paired F a b → Paired F c d → Paired F (a ++ c) (b ++ d)
  | _, _, _, _, .nil, q => q
  | _, _, _, _, .cons h t, q => .cons h (paired_append t q)
section
variable {K : PySem.W.Frag} {H : Hp}
theorem ent_any {kvs : List (List Key × V)} {mv : Mv} (p : Paired (EntT K H) kvs mv) (a b : Str) : (kvs.any fun kv => decide (kv.1 = [kInr a, kInr b])) = mv.any fun e => decide (e.1 = (a, b)) := by
  induction p with
  | nil => rfl
  | @cons kv e l m h t ih =>
    rw [List.any_cons, List.any_cons, ih]
    congr 1
    rw [h.1, Bool.eq_iff_iff, decide_eq_true_iff, decide_eq_true_iff]
    constructor
    · intro z
      simp only [List.cons.injEq, Sum.inr.injEq, and_true] at z
      exact Prod.ext z.1 z.2
    · intro z
      rw [z]
theorem moves_put {kvs : List (List Key × V)} {mv : Mv} (M : Moves K H kvs mv) {a b : Str} {v : V} {os : List (Str × Str)} (o : OutsT K H v os) : Moves K H (putK kvs [kInr a, kInr b] v) (putM mv (a, b) os) := by
  have ea := ent_any M.ent a b
  unfold putK putM
  by_cases c : (kvs.any fun kv => decide (kv.1 = [kInr a, kInr b])) = true
  · rw [if_pos c, if_pos (ea ▸ c)]
    refine ⟨?_, ?_⟩
    · have e : (kvs.map fun kv => if kv.1 = [kInr a, kInr b] then (kv.1, v) else kv).map (·.1) = kvs.map (·.1) := by
        rw [List.map_map]
        refine List.map_congr_left fun kv _ => ?_
        show (if kv.1 = _ then (kv.1, v) else kv).1 = kv.1
        split <;> rfl
      rw [e]
      exact M.nd
    · have key : ∀ {l : List (List Key × V)} {m : Mv}, Paired (EntT K H) l m → Paired (EntT K H) (l.map fun kv => if kv.1 = [kInr a, kInr b] then (kv.1, v) else kv) (m.map fun e => if e.1 = (a, b) then (e.1, os) else e) := by
        intro l m p
        induction p with
        | nil => exact .nil
        | @cons kv e l m h t ih =>
          refine .cons ?_ ih
          show EntT K H (if kv.1 = [kInr a, kInr b] then (kv.1, v) else kv) (if e.1 = (a, b) then (e.1, os) else e)
          by_cases z : e.1 = (a, b)
          · have z' : kv.1 = [kInr a, kInr b] := by rw [h.1, z]
            rw [if_pos z', if_pos z]
            exact ⟨h.1, o⟩
          · have z' : ¬ kv.1 = [kInr a, kInr b] := fun y => by
              rw [h.1] at y
              simp only [List.cons.injEq, Sum.inr.injEq, and_true] at y
              exact z (Prod.ext y.1 y.2)
            rw [if_neg z', if_neg z]
            exact h
      exact key M.ent
  · rw [if_neg c, if_neg (ea ▸ c)]
    refine ⟨?_, paired_append M.ent (.cons ⟨rfl, o⟩ .nil)⟩
    rw [List.map_append]
    refine List.nodup_append.mpr ⟨M.nd, List.nodup_cons.mpr ⟨(fun z => nomatch z), List.nodup_nil⟩, fun x hx y hy e => ?_⟩
    obtain ⟨kv, h1, h2⟩ := List.mem_map.mp hx
    have hy' : y = [kInr a, kInr b] := List.mem_singleton.mp hy
    exact c (List.any_eq_true.mpr ⟨kv, h1, decide_eq_true (h2.trans (e.trans hy'))⟩)
theorem moves_merge {moreK : List (List Key × V)} {more : Mv} (p : Paired (EntT K H) moreK more) : ∀ {kvs : List (List Key × V)} {mv : Mv}, Moves K H kvs mv → Moves K H (mergeT kvs moreK) (mergeM mv more) := by
  induction p with
  | nil => exact fun M => M
  | @cons kv e l m h t ih =>
    intro kvs mv M
    have h' : Moves K H (putK kvs kv.1 kv.2) (putM mv e.1 e.2) := by
      rw [h.1]
      exact moves_put M h.2
    exact ih h'
theorem moves_nil : Moves K H [] [] := ⟨List.nodup_nil, .nil⟩
end
/-! ### the states and methods of what is put together -/
theorem few_sub {l l' : List Str} (sub : ∀ z ∈ l, z ∈ l') (n : l'.length + 1 < scanBound) : FewIn (l.map kInr) := fun ks nd h => by
  refine fewIn_of_len (l := l'.map kInr) (by rw [List.length_map]; exact n) ks nd fun k hk => ?_
  obtain ⟨z, h1, h2⟩ := List.mem_map.mp (h k hk)
  exact List.mem_map.mpr ⟨z, sub z h1, h2⟩
/-- too many unlike ones -/
theorem told_more {l m ys : List Str} (t : Told l ys) (nd : m.Nodup) (sub : ∀ z ∈ m, z ∈ l) : m.length ≤ ys.length := nodup_le m ys nd fun z hz => (t.2.2 z).2 (sub z hz)
end Q9
end
-- QPick
section
set_option maxRecDepth 100000
set_option maxHeartbeats 4000000
namespace Q9
open PySem L2
abbrev Eight : Str := "abcdefgh"
/-- the text of a number: its sign of 26, its sign of eight -/
def stateT (n : Nat) : Str := ⟨#[(Letters.cps.toList[n / 8]?).getD 0, (Eight.cps.toList[n % 8]?).getD 0]⟩
def spPickL (K : PySem.W.Frag) : Sp := fun vs H Q _ => ∃ (l m : Addr) (xs : List V), vs = [.ref l, .ref m] ∧ Well H l ∧ SqL K H m xs ∧ m ≠ l ∧ 0 < xs.length ∧ xs.length < 1073741824 ∧
  ∀ (i : Nat) (x : V) (w : HO), xs[i]? = some x → Well (upd H l w) l → Q x (upd H l w)
theorem sqL_upd {K : PySem.W.Frag} {H : Hp} {l m : Addr} {xs : List V} {w : HO} (h : SqL K H m xs) (n : m ≠ l) : SqL K (upd H l w) m xs := by
  rcases h with (h | ⟨o, h⟩) | h
  · exact .inl (.inl (by rw [upd_ne n]; exact h))
  · exact .inl (.inr ⟨o, by rw [upd_ne n]; exact h⟩)
  · exact .inr h
def spStateT : Sp := fun vs H Q _ => ∃ n : Nat, vs = [.int n] ∧ n < 64 ∧ Q (.str (stateT n)) H
section
variable {P : Program} {w : World} {K : PySem.W.Frag} {mg : Str → Option Value} {base : Heap} {fD : Addr}
theorem scP : FnScope ["_law_source", "_law_some"] ["_law_source", "_law_some"] (defScope sPick) := ⟨rfl, rfl, rfl, by decide +kernel, rfl, by decide +kernel, by decide +kernel⟩
theorem ok_pick {f : Addr} {fd fdD : FuncData} (F : Fun K "_law_one" "_law_one" sPick f fd) (T : TLaw K mg fD) (G : FnOk P w K mg base CX0 1 fD fdD ["_law_source", "_law_many"] spDraw) (gb : Binds K fdD ["_law_source", "_law_many"] []) :
    FnOk P w K mg base CX0 2 f fd ["_law_source", "_law_some"] (spPickL K) := by
  refine F.ok scP (fun vs H Q E h => ?_) (fun cdv A outer s H vs Q E hr h => ?_)
  · obtain ⟨l, m, xs, rfl, _⟩ := h
    rfl
  · obtain ⟨l, m, xs, rfl, hw, hm, ne, x0, x1, k⟩ := h
    refine ⟨_, pss_one (ps_ret (pe_ix ix_list (pv 1) (pe_call G hr (by rfl) T.gD T.kD gb .nil pass0 (pa_cons (pv 0) (pa_cons (pe_callB call_len (by rfl) T.len (by decide +kernel) (pa_cons (pv 1) pa_nil)) pa_nil))) (fun _ _ => rfl))), ?_⟩
    refine ⟨_, rfl, _, rfl, _, rfl, _, _, rfl, .inl ⟨_, hm, rfl⟩, ?_⟩
    refine ⟨l, _, rfl, hw, (by omega), (by omega), fun r w' r0 r1 hw' => ?_⟩
    have hi : r.toNat < xs.length := by omega
    refine ⟨m, xs, r, xs[r.toNat], rfl, rfl, sqL_upd hm ne, ?_, ?_⟩
    · have e := atI_nat (xs := xs) (j := r.toNat) (List.getElem?_eq_getElem hi)
      rwa [Int.toNat_of_nonneg r0] at e
    · exact k r.toNat _ w' (List.getElem?_eq_getElem hi) hw' 
end
end Q9
end
-- QWell
section
set_option maxRecDepth 100000
set_option maxHeartbeats 4000000
namespace Q9
open PySem L2
section
variable {K : PySem.W.Frag} {H H' : Hp} {D l : Addr}
theorem del_same_of (s : Same H H') : Same (del H D) (del H' D) := fun b o e => by
  by_cases h : b = D
  · rw [h, del_same] at e
    cases e
  · rw [del_ne h] at e ⊢
    exact s b o e
theorem del_less : Same (del H D) H := fun b o e => by
  by_cases h : b = D
  · rw [h, del_same] at e
    cases e
  · rw [del_ne h] at e
    exact e
theorem sqT_del (w : Well H l) {a : Addr} {xs : List V} (h : SqT K H a xs) : SqT K (del H l) a xs := by
  obtain ⟨x, y, z, e, _⟩ := w
  rcases h with (h | ⟨o, h⟩) | h
  · exact .inl (.inl (by rw [del_ne (fun c => by rw [c, e] at h; cases h)]; exact h))
  · exact .inl (.inr ⟨o, by rw [del_ne (fun c => by rw [c, e] at h; cases h)]; exact h⟩)
  · exact .inr h
theorem but_del (b : But l H H') : Same (del H l) (del H' l) := fun c o e => by
  by_cases h : c = l
  · rw [h, del_same] at e
    cases e
  · rw [del_ne h] at e ⊢
    exact b c o h e
end
theorem mem_states {st : Str} {es : List Str} {mv : Mv} {z : Str} : z ∈ statesIn st es mv ↔ z = st ∨ z ∈ es ∨ ∃ e ∈ mv, z = e.1.1 ∨ ∃ o ∈ e.2, z = o.2 := by
  unfold statesIn
  rw [List.mem_append, List.mem_cons, List.mem_flatMap, or_assoc]
  constructor
  · rintro (h | h | ⟨e, h1, h2⟩)
    · exact .inl h
    · exact .inr (.inl h)
    · refine .inr (.inr ⟨e, h1, ?_⟩)
      rcases List.mem_cons.mp h2 with h | h
      · exact .inl h
      · obtain ⟨o, h3, h4⟩ := List.mem_map.mp h
        exact .inr ⟨o, h3, h4.symm⟩
  · rintro (h | h | ⟨e, h1, h2⟩)
    · exact .inl h
    · exact .inr (.inl h)
    · refine .inr (.inr ⟨e, h1, ?_⟩)
      rcases h2 with h | ⟨o, h3, h4⟩
      · exact List.mem_cons.mpr (.inl h)
      · exact List.mem_cons_of_mem _ (List.mem_map.mpr ⟨o, h3, h4.symm⟩)
theorem wordsIn_len {c : Nat} : ∀ {mv : Mv}, (∀ e ∈ mv, e.2.length ≤ c) → (wordsIn mv).length ≤ c * mv.length
  | [], _ => Nat.zero_le _
  | e :: mv, h => by
    have ih := wordsIn_len (mv := mv) fun x hx => h x (List.mem_cons_of_mem _ hx)
    have h1 := h e List.mem_cons_self
    unfold wordsIn at ih ⊢
    rw [List.flatMap_cons, List.length_append, List.length_map, List.length_cons, Nat.mul_succ]
    omega
end Q9
end
-- QChars
section
set_option maxRecDepth 100000
set_option maxHeartbeats 4000000
namespace Q9
open PySem PySem.Spec PyProof.Rows L2
/-! ### sorted of a text: its signs -/
def oneSign (c : Nat) : Str := ⟨#[c]⟩
def signsOf (z : Str) : List Str := z.cps.toList.map oneSign
theorem signs_strs {x : Str} {acc : Array Value} (h : ItemsOf (SignAt x) acc x.cps.size) : StrsAre acc.toList (signsOf x) := by
  obtain ⟨sz, at_⟩ := h
  have key : ∀ (vs : List Value) (cs : List Nat), vs.length = cs.length → (∀ (i : Nat) (v : Value), vs[i]? = some v → ∃ (c : Nat) (t : Tok), cs[i]? = some c ∧ v = Value.str ⟨#[c]⟩ t) → StrsAre vs (cs.map oneSign) := by
    intro vs
    induction vs with
    | nil =>
      intro cs l _
      cases cs with
      | nil => exact .nil
      | cons _ _ => cases l
    | cons v vs ih =>
      intro cs l f
      cases cs with
      | nil => cases l
      | cons c cs =>
        obtain ⟨c', t, e1, e2⟩ := f 0 v rfl
        cases Option.some.inj e1
        subst e2
        exact .cons _ _ (ih cs (Nat.succ.inj l) fun i u h => f (i + 1) u (by simpa using h))
  refine key _ _ (by rw [Array.length_toList, Array.length_toList, sz]) fun i v hv => ?_
  rw [Array.getElem?_toList] at hv
  obtain ⟨c, u, e1, e2⟩ := at_ i v hv
  exact ⟨c, u, by rw [Array.getElem?_toList]; exact e1, e2⟩
/-- what is told stands -/
theorem obj_there {P : Program} {w : World} {H : Hp} {h : Heap} {a : Addr} {o : HO} (x : ObjOk P w H h a o) : ∃ ob, h.get? a = some ob := by
  cases o with
  | lst xs => let ⟨_, _, _, _, e⟩ := x; exact ⟨_, e⟩
  | tup xs => let ⟨_, _, _, ob, e, _⟩ := x; exact ⟨_, e⟩
  | dK kvs => let ⟨_, _, _, _, o, _, _, e, _⟩ := x; exact ⟨_, e⟩
  | dT kvs => let ⟨_, _, _, _, o, _, _, e, _⟩ := x; exact ⟨_, e⟩
  | set S n => let ⟨o, _, _, _, e, _⟩ := x; exact ⟨_, e⟩
  | ins C dx fs => let ⟨_, _, _, e, _⟩ := x; exact ⟨_, e⟩
  | own y => exact x
  | xd fs => let ⟨_, ⟨_, _, _, e, _⟩, _⟩ := x; exact ⟨_, e⟩
  | rng lo hi => let ⟨_, _, _, e⟩ := x; exact ⟨_, e⟩
  | frz ob u => exact ⟨_, x.1⟩
  | tbl ps => exact ⟨_, x⟩
  | met f y => exact ⟨_, x⟩
  | ext φ => exact x.2.1
section
variable {X : Cx} {pins : List (Addr × Obj)} {σ : L2.St} {H : Hp} {s : Shared}
def rSortedChr : List V → Hp → VK → Prop := fun vs H Q => ∃ z : Str, vs = [V.str z] ∧ z.cps.size ≤ sizeLine ∧ ∀ (ys : List Str) (p : Addr), ys.Perm (signsOf z) → Up ys → H p = none → Q (.ref p) (upd H p (.lst (ys.map V.str)))
theorem cr_sortedChr (hc : X.calm = true) : CallR X (.builtin "sorted") rSortedChr := by
  intro pins s σ H vs us Q I r h
  obtain ⟨z, rfl, hz, q⟩ := h
  obtain ⟨u, eu, rx⟩ := vals1 r
  subst eu
  obtain ⟨t, rfl⟩ := rx
  refine Calls.call_function_entry kind_sorted plain_sorted entry_sorted (args_sorted1 _) ?_
  unfold Builtin.«sorted»
  refine wpAny_bind (m := checkCount "sorted" 1 1 _) (wpAny_pure (wpAny_bind (wpAny_collect_str (A := X.A.in1) (I.ok.hd hc) z t (fun s1 acc k1 g1 dr1 o1 items => ?_) hz)))
  have hS := signs_strs items
  have hvl : acc.toList.length ≤ sizeLine := by rw [Array.length_toList, items.1]; exact hz
  refine wpAny_bind (wpAny_newList ?_ hvl)
  have at1 : (s1.heap.push (seqObj "list" acc.toList.toArray 0)).get? s1.heap.objs.size = some (seqObj "list" acc.toList.toArray 0) := Heap.get?_push_size _ rfl
  refine wpAny_bind (wpAny_holding (wpAny_call_entry slot_list_sort ⟨_, at1, rfl⟩ entry_list_sort (list_sort_txts at1 hS hvl fun out ys h1 h2 h3 => ⟨_, rfl, ?_⟩) (args_list_sort _)))
  obtain ⟨c, hc'⟩ := sortedHeap_at (vs := acc.toList) (out := out) at1
  refine wpAny_pure ⟨_, rfl, ?_⟩
  have none1 : s.heap.get? s1.heap.objs.size = none := by
    cases e : s.heap.get? s1.heap.objs.size with
    | none => rfl
    | some o => exact absurd (Heap.lt_size (k1 _ _ e)) (Nat.lt_irrefl _)
  have hn : H s1.heap.objs.size = none := by
    cases e : H s1.heap.objs.size with
    | none => rfl
    | some u =>
      obtain ⟨o, ho⟩ := obj_there (I.hok _ _ e)
      rw [none1] at ho
      cases ho
  have kk : ∀ b u, s.heap.get? b = some u → (sortedHeap (s1.heap.push (seqObj "list" acc.toList.toArray 0)) s1.heap.objs.size acc.toList out).get? b = some u := fun b u e => by
    have q := k1 b u e
    have lt := Heap.lt_size q
    rw [sortedHeap_old (Nat.ne_of_lt lt) (by rw [size_push']; exact Nat.lt_succ_of_lt lt)]
    exact Heap.get?_push_of_some _ q
  have len : (ys.map V.str).length ≤ sizeLine := by rw [List.length_map, h2.length_eq, ← hS.length]; exact hvl
  have J : Inv X pins σ (upd H s1.heap.objs.size (.lst (ys.map V.str))) { s1 with heap := sortedHeap (s1.heap.push (seqObj "list" acc.toList.toArray 0)) s1.heap.objs.size acc.toList out } :=
    I.call' (ch := []) o1 (Un.laidN kk none1 hn) (I.hok.laidN kk hn ⟨len, out.toList, c, vals_of_strs h1, hc'⟩) (by rw [show _ = s.gens from g1]; exact I.bare) fun _ z => nomatch z
  exact ⟨.ref _, _, J, rfl, q ys _ h2 h3 hn⟩
end
end Q9
namespace Q9
open PySem PySem.Spec PyProof.Rows L2
section
variable {X : Cx}
/-- sorted(xs), xs a list of texts -/
def rSortedLs (K : PySem.W.Frag) : List V → Hp → VK → Prop := fun vs H Q => ∃ (a : Addr) (xs : List Str), vs = [V.ref a] ∧ SqL K H a (xs.map V.str) ∧ ∀ (ys : List Str) (p : Addr), ys.Perm xs → Up ys → H p = none → Q (.ref p) (upd H p (.lst (ys.map V.str)))
theorem cr_sortedLs : CallR X (.builtin "sorted") (rSortedLs X.K) := by
  intro pins s σ H vs us Q I r h
  obtain ⟨a, xs, rfl, hs, q⟩ := h
  rw [Vals.ref1 r]
  obtain ⟨its, rv, pl, hz⟩ := I.list hs
  have hS : StrsAre its xs := rv.strs
  have hl : its.length ≤ sizeLine := by rw [← PySem.Paired.length rv]; exact hz
  refine sorted_txts hS hl (fun R E' hR => ?_) fun s' p out c ys k g o z hp h1 h2 h3 => ?_
  · exact collect_list (pl.isList) (hR _ (fun b o e => by rw [Heap.get?_update_other _ _ (Nat.ne_of_gt (Heap.lt_size e))]; exact Heap.get?_push_of_some _ e) (by simp [Heap.size_update, size_push']) rfl rfl)
  · have len : (ys.map V.str).length ≤ sizeLine := by rw [List.length_map, h2.length_eq, ← hS.length]; exact hl
    have J := Inv.new_at I (o := .lst (ys.map V.str)) k g o z ⟨len, out.toList, c, vals_of_strs h1, hp⟩
    exact ⟨.ref p, _, J, rfl, q ys p h2 h3 (I.hok.fresh z)⟩
end
end Q9
end
-- QKindSp
section
set_option maxRecDepth 100000
set_option maxHeartbeats 4000000
namespace Q9
open PySem L2
/-! ### what a kind promises -/
abbrev KAt := Hp → Addr → Str → Str → List Str → Mv → Prop
def spNew (KA : KAt) (l : Str → List Str → Mv → List Str) : Sp := fun vs H Q _ => ∃ (x : Addr) (nm st : Str) (es : List Str) (mv : Mv), vs = [.ref x] ∧ KA H x nm st es mv ∧
  ∀ (H' : Hp) (p : Addr) (ys : List Str), Same H H' → Told (l st es mv) ys → H' p = some (.lst (ys.map V.str)) → Q (.ref p) H'
def spEnds (KA : KAt) : Sp := fun vs H Q _ => ∃ (x : Addr) (nm st : Str) (es : List Str) (mv : Mv), vs = [.ref x] ∧ KA H x nm st es mv ∧
  ∀ (t : Addr) (ys : List Str), ys.Perm es → Up ys → H t = some (.tup (ys.map V.str)) → Q (.ref t) H
/-- the states behind a call that answered so -/
def behind1 (mv : Mv) (S : List Str) (c : Str × Str) : List Str := mv.flatMap fun e => if e.1.1 ∈ S ∧ e.1.2 = c.1 then (e.2.filter fun o => decide (o.1 = c.2)).map (·.2) else []
def behind (mv : Mv) (S : List Str) (hist : List (Str × Str)) : List Str := hist.foldl (behind1 mv) S
/-- a list of pairs of texts -/
def OutsL (K : PySem.W.Frag) (H : Hp) (v : V) (os : List (Str × Str)) : Prop := ∃ (a : Addr) (vs : List V), v = .ref a ∧ SqL K H a vs ∧ Paired (OutT K H) vs os
theorem outsL_up {K : PySem.W.Frag} {H H' : Hp} (s : Same H H') {v : V} {os : List (Str × Str)} (h : OutsL K H v os) : OutsL K H' v os := by
  obtain ⟨a, vs, e, h1, h2⟩ := h
  exact ⟨a, vs, e, sqL_up (Q9.Same.sq s) h1, L2.Paired.mapP h2 fun _ _ ⟨q, e, h⟩ => ⟨q, e, sqT_up (Q9.Same.sq s) h⟩⟩
/-- what a call may lead to, by the first entry of its key -/
def outsOf (mv : Mv) (k : Str × Str) : List (Str × Str) := ((mv.find? fun e => decide (e.1 = k)).map (·.2)).getD []
/-- the same moves in another order, few outcomes each -/
structure EqMv (mvs mv : Mv) : Prop where
  keys : ∀ k, k ∈ mvs.map (·.1) ↔ k ∈ mv.map (·.1)
  outs : ∀ k o, o ∈ outsOf mvs k ↔ o ∈ outsOf mv k
  few : ∀ k, (outsOf mvs k).length ≤ 8
def spMovesD (K : PySem.W.Frag) (KA : KAt) : Sp := fun vs H Q _ => ∃ (x : Addr) (nm st : Str) (es : List Str) (mv : Mv), vs = [.ref x] ∧ KA H x nm st es mv ∧
  ∀ (H' : Hp) (p : Addr) (kvs : List (List Key × V)), Same H H' → H' p = some (.dT kvs) → kvs.length = mv.length → Q (.ref p) H'
def spStart (KA : KAt) : Sp := fun vs H Q _ => ∃ (x : Addr) (nm st : Str) (es : List Str) (mv : Mv), vs = [.ref x] ∧ KA H x nm st es mv ∧ Q (.str st) H
def RightHist (hist : List (Str × Str)) : Prop := ∀ c ∈ hist, nameB c.1 = true ∧ wordB c.2 = true
def spAfter (K : PySem.W.Frag) (KA : KAt) : Sp := fun vs H Q _ => ∃ (x : Addr) (r : V) (nm st : Str) (es : List Str) (mv : Mv) (hist : List (Str × Str)), vs = [.ref x, r] ∧ KA H x nm st es mv ∧ OutsL K H r hist ∧ RightHist hist ∧
  ∀ (H' : Hp) (p : Addr) (ys : List Str), Same H H' → Told (behind mv [st] hist) ys → H' p = some (.lst (ys.map V.str)) → Q (.ref p) H'
def spAllowed (K : PySem.W.Frag) (KA : KAt) : Sp := fun vs H Q _ => ∃ (x : Addr) (r : V) (nm st : Str) (es : List Str) (mv : Mv) (hist : List (Str × Str)), vs = [.ref x, r] ∧ KA H x nm st es mv ∧ OutsL K H r hist ∧ RightHist hist ∧
  ∀ (H' : Hp) (p : Addr) (zs : List Str), Same H H' → Told (methodsIn mv) zs → H' p = some (.lst ((zs.filter fun m => decide (∀ s ∈ behind mv [st] hist, (s, m) ∈ mv.map (·.1))).map V.str)) → Q (.ref p) H'
def spItem (K : PySem.W.Frag) (KA : KAt) : Sp := fun vs H Q _ => ∃ (x q : Addr) (s m : Str) (nm st : Str) (es : List Str) (mv : Mv) (os : List (Str × Str)), vs = [.ref x, .ref q] ∧ KA H x nm st es mv ∧ H q = some (.tup [.str s, .str m]) ∧ ((s, m), os) ∈ mv ∧
  ∀ (H' : Hp) (t : Addr) (ps : List (Addr × Str × Str)), Same H H' → H' t = some (.tup ((ps.map (·.1)).map V.ref)) → (∀ p ∈ ps, SqT K H' p.1 [.str p.2.1, .str p.2.2]) → (ps.map (·.2)).Perm os → UpP (ps.map (·.2)) → Q (.ref t) H'
/-- kind[state, method], of any two texts -/
def spItem2 (K : PySem.W.Frag) (KA : KAt) : Sp := fun vs H Q _ => ∃ (x q : Addr) (s m : Str) (nm st : Str) (es : List Str) (mv : Mv), vs = [.ref x, .ref q] ∧ KA H x nm st es mv ∧ H q = some (.tup [.str s, .str m]) ∧
  (((s, m) ∉ mv.map (·.1) → ∀ H', Same H H' → Q .non H') ∧ ∀ os, ((s, m), os) ∈ mv → ∀ (H' : Hp) (t : Addr) (ps : List (Addr × Str × Str)), Same H H' → H' t = some (.tup ((ps.map (·.1)).map V.ref)) → (∀ p ∈ ps, SqT K H' p.1 [.str p.2.1, .str p.2.2]) → (ps.map (·.2)).Perm os → UpP (ps.map (·.2)) → Q (.ref t) H')
/-- what is told of a made kind -/
structure KAok (C : Addr) (KA : KAt) : Prop where
  up : ∀ {H H' : Hp} {x : Addr} {nm st : Str} {es : List Str} {mv : Mv}, Same H H' → KA H x nm st es mv → KA H' x nm st es mv
  well : ∀ {H H' : Hp} {l x : Addr} {nm st : Str} {es : List Str} {mv : Mv}, Well H l → But l H H' → KA H x nm st es mv → KA H' x nm st es mv
  small : ∀ {H : Hp} {x : Addr} {nm st : Str} {es : List Str} {mv : Mv}, KA H x nm st es mv → Small st es mv ∧ Fits st es mv ∧ (mv.map (·.1)).Nodup
  ins : ∀ {H : Hp} {x : Addr} {nm st : Str} {es : List Str} {mv : Mv}, KA H x nm st es mv → ∃ dx fs, H x = some (.ins C dx fs) ∧ fs.lookup ("states" : Str) = none ∧ fs.lookup ("methods" : Str) = none ∧ fs.lookup ("moves" : Str) = none
/-- nothing is raised where the promise says so -/
theorem pass0X {P : Program} {w : World} {X : Cx} : Passes (L2.CX P w) X E0 := fun _ _ _ _ _ _ _ c => by
  obtain ⟨_, _, _, _, _, _, _, _, _, _, _, _, h⟩ := c
  exact h.elim
end Q9
end
-- QErr
section
set_option maxRecDepth 100000
set_option maxHeartbeats 4000000
namespace Q9
open PySem L2
/-- an error's __init__: its one field -/
def spErrI (C : Addr) (f : Str) : Sp := fun vs H Q _ => ∃ (a : Addr) (v : V), vs = [.ref a, v] ∧ H a = some (exo a C none) ∧ ∀ dx, H dx = none → dx ≠ a → Q .non (upd (upd H dx (exd dx [(f, v)])) a (exo a C (some dx)))
structure TErr (K : PySem.W.Frag) (mg : Str → Option Value) (n f : Str) (C fI : Addr) : Prop where
  gC : mg n = some (.ref C)
  ox : OexC K C
  iC : PySem.W.findIn K (.ref C) "__init__" = some (some (.ref fI))
  tI : PySem.W.typeIn K (.ref fI) = some (.type "function")
  no : PySem.W.findIn K (.ref C) f = some none
section
variable {P : Program} {w : World} {K : PySem.W.Frag} {mg : Str → Option Value} {base : Heap}
theorem scHI : FnScope ["self", "index"] ["self", "index"] (defScope sIBadHistory) := ⟨rfl, rfl, rfl, by decide +kernel, rfl, by decide +kernel, by decide +kernel⟩
theorem ok_histI {f C : Addr} {fd : FuncData} (F : Fun K "__init__" "BadHistory.__init__" sIBadHistory f fd) (T : TErr K mg "BadHistory" "index" C f) : FnOk P w K mg base CX0 1 f fd ["self", "index"] (spErrI C "index") := by
  refine F.ok scHI (fun vs H Q E h => ?_) (fun cdv A outer s H vs Q E hr h => ?_)
  · obtain ⟨a, v, rfl, _⟩ := h
    rfl
  · obtain ⟨a, v, rfl, ha, q⟩ := h
    refine ⟨_, pss_one (ps_ost (pv 0) (pv 1)), ?_⟩
    exact ⟨_, rfl, _, rfl, a, C, rfl, T.ox, T.no, .inl ⟨ha, fun dx nd ne => q dx nd ne⟩⟩
theorem scBI : FnScope ["self", "part"] ["self", "part"] (defScope sIBadKind) := ⟨rfl, rfl, rfl, by decide +kernel, rfl, by decide +kernel, by decide +kernel⟩
theorem ok_badI {f C : Addr} {fd : FuncData} (F : Fun K "__init__" "BadKind.__init__" sIBadKind f fd) (T : TErr K mg "BadKind" "part" C f) : FnOk P w K mg base CX0 1 f fd ["self", "part"] (spErrI C "part") := by
  refine F.ok scBI (fun vs H Q E h => ?_) (fun cdv A outer s H vs Q E hr h => ?_)
  · obtain ⟨a, v, rfl, _⟩ := h
    rfl
  · obtain ⟨a, v, rfl, ha, q⟩ := h
    refine ⟨_, pss_one (ps_ost (pv 0) (pv 1)), ?_⟩
    exact ⟨_, rfl, _, rfl, a, C, rfl, T.ox, T.no, .inl ⟨ha, fun dx nd ne => q dx nd ne⟩⟩
theorem name_len8 {z : Str} (h : nameB z = true) : z.length ≤ 8 := by
  unfold nameB at h
  have := of_decide_eq_true (Bool.and_eq_true_iff.mp h).1
  omega
theorem error_len8 {z : Str} (h : errorB z = true) : z.length ≤ 8 := by
  unfold errorB at h
  have := of_decide_eq_true (Bool.and_eq_true_iff.mp h).1
  omega
theorem name_len {z : Str} (h : nameB z = true) : z.length ≤ sizeLine := Nat.le_trans (name_len8 h) (by decide)
theorem word_len {z : Str} (h : wordB z = true) : z.length ≤ sizeLine := by
  unfold wordB at h
  rcases Bool.or_eq_true_iff.mp h with h | h
  · exact Nat.le_trans (error_len8 h) (by decide)
  · rcases Bool.or_eq_true_iff.mp h with h | h
    · rw [of_decide_eq_true h]; decide +kernel
    · rw [of_decide_eq_true h]; decide +kernel
end
end Q9
end
-- QDictW
section
set_option maxRecDepth 100000
set_option maxHeartbeats 4000000
/-! d.values(), d.items(), list(d.values()) of a dict whose keys are tuples -/
namespace Q9
open PySem PySem.Spec PyProof.Rows L2
section
variable {X : Cx} {pins : List (Addr × Obj)} {σ : L2.St} {H : Hp} {s : Shared} {d : Addr} {o : Obj}
theorem frzT2 {kvs : List (List Key × V)} (I : Inv X pins σ H s) (h : H d = some (.frz o (.dT kvs))) :
    (d == sysModules) = false ∧ ∃ (es : Array DictEntry) (ep : Nat), o.data = .dict es ep ∧ s.heap.DictRaw d es ep ∧ es.size = kvs.length ∧
      ∀ (i : Nat) (k : List Key) (v : V), kvs[i]? = some (k, v) → ∃ (en : DictEntry) (q : Addr), es[i]? = some en ∧ en.key = .ref q ∧ H q = some (.tup (k.map kV)) ∧ RelV v en.val := by
  obtain ⟨hd, z, hs, xs, pr, o', es, ep, ho, hx, hdt, he, _⟩ := I.hok d _ h
  rw [hd] at ho
  cases ho
  refine ⟨hs, es, ep, hdt, ⟨o, hd, hx, hdt⟩, ?_, fun i k v e => ?_⟩
  · have l1 : es.size = xs.length := size_of_entries he
    have l2 : kvs.length = xs.length := Paired.length pr
    omega
  · obtain ⟨b, hb, e1, e2, e3⟩ := paired_get pr e
    have q := entry_at he i
    rw [hb] at q
    exact ⟨_, b.2.1, q, rfl, e2, e3⟩
end
/-- the values -/
def Itdt (d : Addr) (o : Obj) (kvs : List (List Key × V)) : It :=
  ⟨fun i H => H d = some (.frz o (.dT kvs)) ∧ i < kvs.length, fun i H x H' => H' = H ∧ ∃ k, kvs[i]? = some (k, x), fun i H => H d = some (.frz o (.dT kvs)) ∧ kvs.length ≤ i⟩
/-- the pairs, each a new tuple of the key's own tuple and the value -/
def Itit (d : Addr) (o : Obj) (kvs : List (List Key × V)) : It :=
  ⟨fun i H => H d = some (.frz o (.dT kvs)) ∧ i < kvs.length, fun i H x H' => ∃ T k v q, kvs[i]? = some (k, v) ∧ x = .ref T ∧ H T = none ∧ H q = some (.tup (k.map kV)) ∧ H' = upd H T (.tup [.ref q, v]), fun i H => H d = some (.frz o (.dT kvs)) ∧ kvs.length ≤ i⟩
section
variable {P : Program} {w : World} {K : PySem.W.Frag} {tg : Expr} {d : Addr} {o : Obj} {es : Array DictEntry} {ep : Nat}
theorem turn_valsT {kvs : List (List Key × V)} (it : Addr) (dat1 : o.data = .dict es ep) : Turn P w K tg (Itdt d o kvs) [it] it (fun i h => h.IsValIter it d i kvs.length ep) where
  mem := by simp
  obj := fun i h at0 b hb => by
    have e : b = it := by simpa using hb
    subst e
    obtain ⟨oi1, e, c, dd⟩ := at0
    exact ⟨oi1, e, fun v z => by rw [dd] at z; cases z⟩
  keep := fun i h h' at0 k => at0.at fun oi1 e => k it (by simp) oi1 e
  item := by
    intro X eP eW eK clm i pn s σ H E I fre at0 now
    subst eP eW eK
    obtain ⟨fz, lti⟩ := now
    obtain ⟨f0, f1, f2, f3, f4, f5⟩ := fre it (by simp)
    obtain ⟨lo, es', ep', dat2, rw1, many, each⟩ := frzT2 I fz
    obtain ⟨rfl, rfl⟩ := dict_ep dat1 dat2
    obtain ⟨⟨k, v⟩, atI⟩ : ∃ p, kvs[i]? = some p := ⟨kvs[i], List.getElem?_eq_getElem lti⟩
    obtain ⟨en, q, atE, hkey, hq, rel⟩ := each i k v atI
    have hi' : i < es'.size := by omega
    have eqE : es'[i] = en := by
      rw [Array.getElem?_eq_getElem hi'] at atE
      exact Option.some.inj atE
    rw [← many] at at0
    refine wpAny_pyNext_values_item_raw at0 rw1 hi' fun h' at1 but => ?_
    have J1 : Inv X pn σ H { s with heap := h' } := I.turned (t' := s.toks) (fun b ob hb e => (but.2 b hb).trans e) f0 f1 f3 f4 f5
    obtain ⟨oi1, e, c, dd⟩ := id at1
    refine ⟨_, rfl, go_of (s := { s with heap := h' }) e c dd (by decide) ⟨v, H, J1, ?_, ⟨rfl, k, atI⟩, ?_, fun b hb => (fre b hb).1⟩⟩
    · rw [eqE]; exact rel
    · show h'.IsValIter it d (i + 1) kvs.length _
      rw [← many]
      exact at1
  done := by
    intro X eP eW eK clm i pn s σ H E I fre at0 now
    subst eP eW eK
    obtain ⟨fz, lti⟩ := now
    obtain ⟨f0, f1, f2, f3, f4, f5⟩ := fre it (by simp)
    obtain ⟨lo, es', ep', dat2, rw1, many, each⟩ := frzT2 I fz
    obtain ⟨rfl, rfl⟩ := dict_ep dat1 dat2
    rw [← many] at at0
    exact wpAny_pyNext_values_end_raw (I.ok.hd clm) at0 rw1 (by omega) fun h' eb => ⟨rfl, I.turned (t' := s.toks) (fun b ob hb e => eb b ob hb e) f0 f1 f3 f4 f5⟩
  self := fun A i s Q E at0 h => wpAny_pyIter_valiter at0 h
theorem turn_itemsT {kvs : List (List Key × V)} {elts : List Expr} {kk : Nat} {tpos : Pos} (it : Addr) (dat1 : o.data = .dict es ep) :
    Turn P w K (.Tuple elts kk tpos) (Itit d o kvs) [it] it (fun i h => ∃ vk vv, IsItemIter h it d i kvs.length ep vk vv) where
  mem := by simp
  obj := fun i h at0 b hb => by
    have e : b = it := by simpa using hb
    subst e
    obtain ⟨vk, vv, e⟩ := at0
    exact ⟨_, e, fun v z => nomatch z⟩
  keep := fun i h h' at0 k => let ⟨vk, vv, e⟩ := at0; ⟨vk, vv, k it (by simp) _ e⟩
  item := by
    intro X eP eW eK clm i pn s σ H E I fre at0 now
    subst eP eW eK
    obtain ⟨fz, lti⟩ := now
    obtain ⟨lo, es', ep', dat2, rw1, many, each⟩ := frzT2 I fz
    obtain ⟨rfl, rfl⟩ := dict_ep dat1 dat2
    obtain ⟨⟨k, v⟩, atI⟩ : ∃ p, kvs[i]? = some p := ⟨kvs[i], List.getElem?_eq_getElem lti⟩
    obtain ⟨en, q, atE, hkey, hq, rel⟩ := each i k v atI
    have hi' : i < es'.size := by omega
    have eqE : es'[i] = en := by
      rw [Array.getElem?_eq_getElem hi'] at atE
      exact Option.some.inj atE
    obtain ⟨vk, vv, inE⟩ := at0
    rw [← many] at inE
    have ltit : it < s.heap.objs.size := Heap.lt_size inE
    refine wpAny_pyNext_items_item_raw inE rw1 hi' fun h' ho hT hz hk => ?_
    rw [eqE] at ho hT
    refine ⟨_, rfl, wpAny_letOwnedTupleGo_items (s := { s with heap := h' }) ho fun h'' inE' but => ?_⟩
    have hT2 : h''.get? s.heap.objs.size = some { cls := .type "tuple", data := .seq #[en.key, en.val] } := (but.2 _ (Nat.ne_of_gt ltit)).trans hT
    have rk : RelV (V.ref q) en.key := by rw [hkey]; exact rfl
    have new : ObjOk X.prog X.w (upd H s.heap.objs.size (.tup [.ref q, v])) h'' s.heap.objs.size (.tup [.ref q, v]) :=
      ⟨by show 2 ≤ sizeLine; decide, [en.key, en.val], .cons rk (.cons rel .nil), ⟨_, hT2, rfl, _, rfl⟩⟩
    have J1 : Inv X pn σ (upd H s.heap.objs.size (.tup [.ref q, v])) { s with heap := h'' } :=
      I.turnedNew (t' := s.toks) (ch := [it]) (fun b ob hb e => (but.2 b (by simpa using hb)).trans (hk b ob (by simpa using hb) e)) fre (Nat.le_refl _) new
    refine ⟨.ref s.heap.objs.size, _, J1, rfl, ⟨_, k, v, q, atI, rfl, I.hok.fresh (Nat.le_refl _), hq, rfl⟩, ⟨en.key, en.val, ?_⟩, fun b hb => ?_⟩
    · rw [← many]; exact inE'
    · have e : b = it := by simpa using hb
      rw [e, upd_ne (Nat.ne_of_lt ltit)]
      exact (fre it (by simp)).1
  done := by
    intro X eP eW eK clm i pn s σ H E I fre at0 now
    subst eP eW eK
    obtain ⟨fz, lti⟩ := now
    obtain ⟨f0, f1, f2, f3, f4, f5⟩ := fre it (by simp)
    obtain ⟨lo, es', ep', dat2, rw1, many, each⟩ := frzT2 I fz
    obtain ⟨rfl, rfl⟩ := dict_ep dat1 dat2
    obtain ⟨vk, vv, inE⟩ := at0
    rw [← many] at inE
    exact wpAny_pyNext_items_end_raw (I.ok.hd clm) inE rw1 (by omega) fun h' eb => ⟨rfl, I.turned (t' := s.toks) (fun b ob hb e => eb b ob hb e) f0 f1 f3 f4 f5⟩
  self := fun A i s Q E at0 h => let ⟨_, _, e⟩ := at0; PySem.W.kcp_self e h
theorem walk_valuesT {kvs : List (List Key × V)} : Walk (Itdt d o kvs) kvs.length (fun H => H d = some (.frz o (.dT kvs))) (fun i H x H' => H' = H ∧ ∃ k, kvs[i]? = some (k, x)) :=
  ⟨fun _ _ lti q => ⟨q, lti⟩, fun _ q => ⟨q, Nat.le_refl _⟩, fun _ _ _ _ _ _ y => y⟩
theorem walk_itemsT {kvs : List (List Key × V)} : Walk (Itit d o kvs) kvs.length (fun H => H d = some (.frz o (.dT kvs))) (fun i H x H' => ∃ T k v q, kvs[i]? = some (k, v) ∧ x = .ref T ∧ H T = none ∧ H q = some (.tup (k.map kV)) ∧ H' = upd H T (.tup [.ref q, v])) :=
  ⟨fun _ _ lti q => ⟨q, lti⟩, fun _ q => ⟨q, Nat.le_refl _⟩, fun _ _ _ _ _ _ y => y⟩
end
def iValsT (td : TE) : TI := fun σ H R => td σ H fun x H1 => ∃ d o kvs, x = .ref d ∧ H1 d = some (.frz o (.dT kvs)) ∧ R (Itdt d o kvs) H1
def iItemsT (td : TE) : TI := fun σ H R => td σ H fun x H1 => ∃ d o kvs, x = .ref d ∧ H1 d = some (.frz o (.dT kvs)) ∧ R (Itit d o kvs) H1
section
variable {X : Cx} {tg e : Expr} {td : TE} {apos cpos : Pos}
theorem pi_valuesT (inE : PE X e td) (hba : attributeBase e "values" X.env (eval e X.env) = eval e X.env := by rfl) (hli : (apos.endLine == cpos.line) = true := by rfl) : PI X tg (.Call (.Attribute e "values" apos) [] [] cpos) (iValsT td) := by
  refine ⟨fun pn s σ H R I h => ?_⟩
  refine wpAny_Call_method (T := "dict") (id := "dict.values") hba rfl hli F.plainAttrs_dict F.slot_dict_values F.type_dict_values (thn (inE.run pn s σ H _ I h) fun u s1 ⟨x, H1, J1, rx, d, o, kvs, ex, fz, q⟩ => ?_)
  subst ex
  obtain rfl : u = Value.ref d := rx
  obtain ⟨lo, es, ep, dat2, rw1, many, each⟩ := frzT2 J1 fz
  refine ⟨rw1.typeIs, (fun b e => by cases e; exact let ⟨o, ho, clm, _⟩ := rw1; ⟨o, ho, clm.2.1⟩), ?_⟩
  have J2 : Inv X pn σ H1 { s1 with heap := s1.heap.push { cls := .type "dict_values", data := .fields #[.ref d] } } := J1.kept (t' := s1.toks) fun b ob q => Heap.get?_push_of_some _ q
  have fin : wpAny (model X.prog X.w) X.A (pyIter (.ref s1.heap.objs.size)) (PIE X pn σ tg R) X.xe { s1 with heap := s1.heap.push { cls := .type "dict_values", data := .fields #[.ref d] } } := by
    refine wpAny_pyIter_values_raw ⟨_, Heap.get?_push_size _ rfl, rfl, rfl⟩ (rw1.push _) (pi_one (tk := s1.toks) J2 _ (turn_valsT _ dat2) ⟨_, Heap.get?_push_size _ rfl, rfl, ?_⟩ q)
    rw [many] <;> rfl
  show wpAny _ _ (callWith cpos (.builtin "dict.values") [.ref d] [] []) _ X.xe s1
  exact method_meetsIn F.slot_dict_values F.entry_dict_values rfl (PySem.evalArgs_none ⟨rfl, rw1.typeIs, F.args_dict_values_1 _, _, meets_dict_values_raw d lo, ⟨es, ep, rw1⟩, fin⟩)
theorem pi_itemsT {elts : List Expr} {kk : Nat} {tpos : Pos} (inE : PE X e td) (hba : attributeBase e "items" X.env (eval e X.env) = eval e X.env := by rfl) (hli : (apos.endLine == cpos.line) = true := by rfl) :
    PI X (.Tuple elts kk tpos) (.Call (.Attribute e "items" apos) [] [] cpos) (iItemsT td) := by
  refine ⟨fun pn s σ H R I h => ?_⟩
  refine wpAny_Call_method (T := "dict") (id := "dict.items") hba rfl hli F.plainAttrs_dict F.slot_dict_items F.type_dict_items (thn (inE.run pn s σ H _ I h) fun u s1 ⟨x, H1, J1, rx, d, o, kvs, ex, fz, q⟩ => ?_)
  subst ex
  obtain rfl : u = Value.ref d := rx
  obtain ⟨lo, es, ep, dat2, rw1, many, each⟩ := frzT2 J1 fz
  refine ⟨rw1.typeIs, (fun b e => by cases e; exact let ⟨o, ho, clm, _⟩ := rw1; ⟨o, ho, clm.2.1⟩), ?_⟩
  have J2 : Inv X pn σ H1 { s1 with heap := s1.heap.push { cls := .type "dict_items", data := .fields #[.ref d] } } := J1.kept (t' := s1.toks) fun b ob q => Heap.get?_push_of_some _ q
  have fin : wpAny (model X.prog X.w) X.A (pyIter (.ref s1.heap.objs.size)) (PIE X pn σ (.Tuple elts kk tpos) R) X.xe { s1 with heap := s1.heap.push { cls := .type "dict_items", data := .fields #[.ref d] } } := by
    refine wpAny_pyIter_items_raw ⟨_, Heap.get?_push_size _ rfl, rfl, rfl⟩ (rw1.push _) (pi_one (tk := s1.toks) J2 _ (turn_itemsT _ dat2) ⟨.none, .none, ?_⟩ q)
    rw [← many]
    exact Heap.get?_push_size _ rfl
  show wpAny _ _ (callWith cpos (.builtin "dict.items") [.ref d] [] []) _ X.xe s1
  exact method_meetsIn F.slot_dict_items F.entry_dict_items rfl (PySem.evalArgs_none ⟨rfl, rw1.typeIs, F.args_dict_items_1 _, _, meets_dict_items_raw d lo, ⟨es, ep, rw1⟩, fin⟩)
end
/-! ### list(d.values()) -/
def rValsT : V → Hp → VK → Prop := fun x H Q => ∃ (d : Addr) (kvs : List (List Key × V)), x = .ref d ∧ H d = some (.dT kvs) ∧ ∀ p, H p = none → Q (.ref p) (upd H p (.lst (kvs.map (·.2))))
def tListValsT (te : TE) : TE := fun σ H Q => te σ H fun x H1 => rValsT x H1 Q
theorem dt_of2 {X : Cx} {pn : List (Addr × Obj)} {σ : L2.St} {H : Hp} {s : Shared} {d : Addr} {kvs : List (List Key × V)} (I : Inv X pn σ H s) (fz : H d = some (.dT kvs)) :
    (d == sysModules) = false ∧ kvs.length ≤ sizeLine ∧ ∃ (es : Array DictEntry) (ep : Nat), s.heap.DictRaw d es ep ∧ es.size = kvs.length ∧ ∀ (i : Nat) (lti : i < es.size), ∃ kv, kvs[i]? = some kv ∧ RelV kv.2 es[i].val := by
  obtain ⟨hz, low, xs, kt, hdo⟩ := dt_of I.hok fz
  obtain ⟨es, ep, rw1, sz, ents⟩ := hdo.raw
  have lk : kvs.length = xs.length := Paired.length kt
  refine ⟨low, hz, es, ep, rw1, by omega, fun i lti => ?_⟩
  obtain ⟨y, k1, k2, k3, _⟩ := ents i lti
  have jk : i < kvs.length := by omega
  obtain ⟨y', m1, m2, m3, m4⟩ := paired_get kt (List.getElem?_eq_getElem jk)
  rw [k1] at m1
  cases m1
  exact ⟨_, List.getElem?_eq_getElem jk, by rw [k3]; exact m4⟩
section
variable {X : Cx} {e : Expr} {te : TE} {p apos cpos pos : Pos}
theorem vals_by {xs : List V} : ∀ {us : List Value}, us.length = xs.length → (∀ (j : Nat) (v : V) (u : Value), xs[j]? = some v → us[j]? = some u → RelV v u) → Vals xs us := by
  induction xs with
  | nil => intro us h _; cases us with
    | nil => exact .nil
    | cons _ _ => cases h
  | cons x xs ih => intro us h f; cases us with
    | nil => cases h
    | cons u us => exact .cons (f 0 x u rfl rfl) (ih (Nat.succ.inj h) fun j v w g1 h2 => f (j + 1) v w (by simpa using g1) (by simpa using h2))
theorem pe_listValsT (clm : X.calm = true) (inE : PE X e te) (now : Gl X "list") (hm : X.mg "list" = none) (hv : bootBuiltins "list" = some (.type "list")) (hba : attributeBase e "values" X.env (eval e X.env) = eval e X.env := by rfl) (hli : (apos.endLine == cpos.line) = true := by rfl)
    (lo : starEach [.Call (.Attribute e "values" apos) [] [] cpos] X.env = (false, eval (.Call (.Attribute e "values" apos) [] [] cpos) X.env) :: starEach [] X.env := by rfl) :
    PE X (.Call (.Name "list" p) [.Call (.Attribute e "values" apos) [] [] cpos] [] pos) (tListValsT te) := by
  refine ⟨fun pn s σ H Q I hq => wpAny_Call_Name_kw (ld_blt I now hm hv (PyProof.Rows.callWith_type1 ?_ lo rfl))⟩
  rw [lo]
  show wpAny _ _ (spliced ((false, eval (.Call (.Attribute e "values" apos) [] [] cpos) X.env) :: backTo pos (starEach [] X.env))) _ _ s
  refine Calls.spliced_cons (wpAny_Call_method (T := "dict") (id := "dict.values") hba rfl hli F.plainAttrs_dict F.slot_dict_values F.type_dict_values (thn (inE.run pn s σ H _ I hq) fun u s1 ⟨x, H1, J1, rx, d, kvs, ex, fz, q⟩ => ?_))
  subst ex
  obtain rfl : u = Value.ref d := rx
  obtain ⟨low, hz, es, ep, rw1, sz, ents⟩ := dt_of2 J1 fz
  have J2 : Inv X pn σ H1 { s1 with heap := s1.heap.push { cls := .type "dict_values", data := .fields #[.ref d] } } := J1.kept (t' := s1.toks) fun b ob q => Heap.get?_push_of_some _ q
  refine ⟨rw1.typeIs, (fun b e => by cases e; exact let ⟨o, ho, clm, _⟩ := rw1; ⟨o, ho, clm.2.1⟩), ?_⟩
  show wpAny _ _ (callWith cpos (.builtin "dict.values") [.ref d] [] []) _ X.xe s1
  refine method_meetsIn F.slot_dict_values F.entry_dict_values rfl (PySem.evalArgs_none ⟨rfl, rw1.typeIs, F.args_dict_values_1 _, _, meets_dict_values_raw d low, ⟨es, ep, rw1⟩, Calls.spliced_nil ?_⟩)
  refine PySem.W.kdl_call PySem.KdlSrc.rawValues (J1.ok.hd clm) ⟨⟨_, Heap.get?_push_size _ rfl, rfl, rfl⟩, rw1.push _⟩ (by omega) fun h' tk acc c hk hS hacc => ?_
  have rel : Vals (kvs.map (·.2)) acc.toList := vals_by (by rw [Array.length_toList, List.length_map, hacc.1, sz]) fun j v u g1 h2 => by
    have h2' : acc[j]? = some u := by rw [← Array.getElem?_toList]; exact h2
    obtain ⟨hj, e1⟩ := hacc.2 j u h2'
    obtain ⟨kv, k1, k2⟩ := ents j hj
    rw [List.getElem?_map, k1] at g1
    rw [e1, ← Option.some.inj g1]
    exact k2
  have J := J2.laid (t' := tk) (h' := h') (a := (s1.heap.push { cls := .type "dict_values", data := .fields #[.ref d] }).objs.size) (o := .lst (kvs.map (·.2))) hk (Nat.le_refl _) ⟨by rw [List.length_map]; omega, acc.toList, c, rel, by rw [Array.toArray_toList]; exact hS⟩
  exact ⟨.ref _, _, J, rfl, q _ (J2.hok.fresh (Nat.le_refl _))⟩
end
end Q9
end
-- QRead1
section
set_option maxRecDepth 100000
set_option maxHeartbeats 4000000
namespace Q9
open PySem L2
/-- are all rows of moves short enough -/
def spAreRows (K : PySem.W.Frag) : Sp := fun vs H Q _ => ∃ (m : Addr) (kvs : List (List Key × V)) (mv : Mv), vs = [.ref m] ∧ H m = some (.dT kvs) ∧ Moves K H kvs mv ∧ kvs.length ≤ 1000000 ∧
  ∀ H', Same H H' → Q (.bl (decide (∀ e ∈ mv, e.2.length ≤ 8))) H'
structure TRead (K : PySem.W.Frag) (mg : Str → Option Value) (fKey : Addr) : Prop where
  isi : mg "isinstance" = none
  dict : mg "dict" = none
  lst : mg "list" = none
  tup : mg "tuple" = none
  str : mg "str" = none
  len : mg "len" = none
  all : mg "all" = none
  sum : mg "sum" = none
  set : mg "set" = none
  sorted : mg "sorted" = none
  outcomes : ∃ t, mg "MOST_OUTCOMES" = some (.int 8 t)
  states : ∃ t, mg "MOST_STATES" = some (.int 60 t)
  methods : ∃ t, mg "MOST_METHODS" = some (.int 8 t)
  gKey : mg "_is_key" = some (.ref fKey)
  kKey : PySem.W.keepIn K (.ref fKey) = true
abbrev arN : List Str := ["moves", "key", "row"]
section
variable {P : Program} {w : World} {K : PySem.W.Frag} {mg : Str → Option Value} {base : Heap} {fKey : Addr}
theorem scAR : FnScope arN ["moves"] (defScope sAreRows) := ⟨rfl, rfl, rfl, by decide +kernel, rfl, by decide +kernel, by decide +kernel⟩
theorem ln6 : ∀ n : Nat, n ≤ 1000000 → n < sizeLine := fun n h => by rw [PySem.sizeLine_eq]; omega
theorem ok_areRows {f : Addr} {fd dK : FuncData} (F : Fun K "_are_rows" "_are_rows" sAreRows f fd) (T : TRead K mg fKey) (GK : FnOk P w K mg base CX0 1 fKey dK ["thing"] (spIsKey K)) (bK : Binds K dK ["thing"] []) : FnOk P w K mg base CX0 2 f fd ["moves"] (spAreRows K) := by
  refine F.ok scAR (fun vs H Q E h => ?_) (fun cdv A outer s H vs Q E hr h => ?_)
  · obtain ⟨m, kvs, mv, rfl, _⟩ := h
    rfl
  · obtain ⟨m, kvs, mv, rfl, hm, M, few, q⟩ := h
    obtain ⟨to, ho⟩ := T.outcomes
    refine ⟨_, pss_cons (ps_if (PW.pt (pw_or (pt_not (pt_val (pe_callB call_isi (by rfl) T.isi (by decide +kernel) (pa_cons (pv 0) (pa_cons (pe_bltn (v := .ty "dict") (by rfl) T.dict (by decide +kernel) rfl) pa_nil)))))
        (pw_or1 (pt_not (pt_val (pe_callB (cr_all rfl) (by rfl) T.all (by decide +kernel) (pa_cons
          (pe_lock (pe_lc (own := [("key", 1)]) (g := gName 1) (tt := tYes) rfl scAR.nd (pi_keys (pv 0)) (blkOk_by (own := [("key", 1)]) (N := arN) (sc := defScope sAreRows) (by decide +kernel))
            (fun _ _ _ _ _ => pg_name (i := 1) scAR.nd rfl (.inl rfl)) (fun _ _ _ _ _ => pts_nil) (fun _ _ _ _ _ => pe_call GK hr (by rfl) T.gKey T.kKey bK .nil pass0 (pa_cons (pv 1) pa_nil)))) pa_nil)))))))
        (pss_one (ps_ret pe_bl)) pss_nil)
      (pss_one (ps_ret (pe_notT (pe_lock (pe_lc (own := [("row", 2)]) (g := gName 2) (te := tVar 2) rfl scAR.nd (pi_valuesT (pv 0)) (blkOk_by (own := [("row", 2)]) (N := arN) (sc := defScope sAreRows) (by decide +kernel))
            (fun _ _ _ _ _ => pg_name (i := 2) scAR.nd rfl (.inl rfl))
            (fun _ _ _ _ _ => pts_one (PW.pt (pw_or (pt_not (pt_val (pe_callB (id := "isinstance") (r := rIsiT K) call_isiT (by rfl) T.isi (by decide +kernel) (pa_cons (pv 2) (pa_cons (pe_tup (pa_cons (pe_bltn (v := .ty "list") (by rfl) T.lst (by decide +kernel) rfl) (pa_cons (pe_bltn (v := .ty "tuple") (by rfl) T.tup (by decide +kernel) rfl) pa_nil))) pa_nil)))))
              (pw_or1 (pt_cmpR op_gt (pe_callB (id := "len") (r := rLenRow K) cr_lenRow (by rfl) T.len (by decide +kernel) (pa_cons (pv 2) pa_nil)) (pe_glob (v := .int 8) (by rfl) ho ⟨_, rfl⟩) (nomark _))))))
            (fun _ _ _ _ _ => pv 2)))))), ?_⟩
    refine ⟨_, rfl, _, _, _, _, true, rfl, .ty _, .base (.dT hm), kit_ty (by decide +kernel), true, rfl, iteF ?_⟩
    refine ⟨m, .dT kvs, hm, trivial, fun od => ?_⟩
    refine ⟨_, rfl, m, od, rfl, .inr ⟨kvs, upd_same, fun D hD => ?_⟩⟩
    have len : kvs.length = mv.length := PySem.Paired.length M.ent
    have nmD : m ≠ D := ne_of_none upd_same hD
    have freeD : H D = none := by rw [upd_ne nmD.symm] at hD; exact hD
    refine lc_it walk_keysT (fun i H' => H' m = some (.frz od (.dT kvs)) ∧ But m H H' ∧ H' D = some (.lst ((List.replicate i true).map V.bl))) ?_ (fun i H' _ p => p.1) ?_ ?_
    · exact ⟨by rw [upd_ne nmD]; exact upd_same, fun b o ne e => by rw [upd_ne (ne_of_none e freeD), upd_ne ne]; exact e, upd_same⟩
    · rintro i y H1 H2 hi ⟨hm1, bt, hd⟩ ⟨rfl, k0, v, qa, hk, rfl, hq⟩
      obtain ⟨e, hev, ek, _⟩ := paired_at M.ent i _ hk
      simp only at ek
      subst ek
      have hq' : H2 qa = some (.tup [.str e.1.1, .str e.1.2]) := hq
      refine ⟨rfl, _, rfl, .ref qa, rfl, .inr (.inr ⟨qa, _, _, true, true, rfl, .of hq', txt_yes _, txt_yes _, _, hd, ?_, ?_, fun b o ne z => ?_, ?_⟩)⟩
      · rw [List.length_map, List.length_replicate]; exact ln6 _ (by omega)
      · rw [upd_ne nmD]; exact hm1
      · rw [upd_ne (ne_of_none z freeD)]; exact bt b o ne z
      · rw [upd_same, List.replicate_succ', List.map_append]; rfl
    · rintro H1 ⟨hm1, bt, hd⟩
      have sb := bt.back hm
      refine ⟨hm1, D, _, rfl, .of (by rw [upd_ne nmD.symm]; exact hd), _, rfl, ?_⟩
      have e1 : (List.replicate kvs.length true).all id = true := by rw [List.all_eq_true]; intro x hx; exact (List.mem_replicate.mp hx).2
      rw [e1]
      refine iteF ?_
      generalize hG : upd H1 m (.dT kvs) = G at sb
      have hmG := sb m _ hm
      have MG := moves_up (Q9.Same.sq sb) M
      refine ⟨m, .dT kvs, hmG, trivial, fun od2 => ?_⟩
      refine ⟨_, rfl, m, od2, kvs, rfl, upd_same, fun D2 hD2 => ?_⟩
      have nmD2 : m ≠ D2 := ne_of_none upd_same hD2
      have freeD2 : G D2 = none := by rw [upd_ne nmD2.symm] at hD2; exact hD2
      refine lc_it walk_valuesT (fun i H' => H' m = some (.frz od2 (.dT kvs)) ∧ But m G H' ∧ ∃ acc, H' D2 = some (.lst acc) ∧ acc.length ≤ i ∧ (acc = [] ↔ ∀ e ∈ mv.take i, e.2.length ≤ 8)) ?_ (fun i H' _ p => p.1) ?_ ?_
      · exact ⟨by rw [upd_ne nmD2]; exact upd_same, fun b o ne e => by rw [upd_ne (ne_of_none e freeD2), upd_ne ne]; exact e, [], upd_same, Nat.le_refl _, by simp⟩
      · rintro i y H2 H3 hi ⟨hm2, bt2, acc, hacc, la, iff⟩ ⟨rfl, k0, hk⟩
        obtain ⟨e, hev, ek, vs, row, each⟩ := paired_at MG.ent i _ hk
        have row2 := row_sq (bt2.sq hmG) row
        have ll : vs.length = e.2.length := PySem.Paired.length each
        refine ⟨rfl, _, rfl, (by show 2 ≤ sizeLine; decide), fun t ht => ?_⟩
        have st := same_upd (o := .tup [.ty "list", .ty "tuple"]) ht
        have row3 := row_up st row2
        have pr : Paired ClsV [V.ty "list", V.ty "tuple"] [Value.type "list", Value.type "tuple"] := .cons (.ty _) (.cons (.ty _) .nil)
        have isrow : ∃ t0, TyX K (upd H3 t (.tup [.ty "list", .ty "tuple"])) y t0 ∧ PySem.W.kitAny K t0 [Value.type "list", Value.type "tuple"] = some true := by
          rcases row_ty row3 with ty | ty
          · exact ⟨_, ty, kitAny_cons (b := true) (kit_ty (by decide +kernel)) (fun z => nomatch z) fun _ => rfl⟩
          · exact ⟨_, ty, kitAny_cons (b := false) (kit_ty (by decide +kernel)) (fun _ => kitAny_cons (b := true) (kit_ty (by decide +kernel)) (fun z => nomatch z) fun _ => rfl) (fun z => nomatch z)⟩
        obtain ⟨t0, ty, kt⟩ := isrow
        refine ⟨y, t, _, _, _, true, rfl, upd_same, pr, ty, kt, true, rfl, iteF ?_⟩
        refine ⟨_, rfl, y, vs, rfl, row3, _, _, rfl, rfl, _, rfl, ?_⟩
        have bt3 : But m G (upd H3 t (.tup [.ty "list", .ty "tuple"])) := bt2.trans (But.of st)
        have tk1 : ∀ P : (Str × Str) × List (Str × Str) → Prop, (∀ x ∈ mv.take (i + 1), P x) ↔ ((∀ x ∈ mv.take i, P x) ∧ P e) := fun P => by
          rw [take_one_more hev]
          constructor
          · intro h
            exact ⟨fun x hx => h x (List.mem_append_left _ hx), h e (List.mem_append_right _ (List.mem_singleton.mpr rfl))⟩
          · rintro ⟨h1, h2⟩ x hx
            rcases List.mem_append.mp hx with hx | hx
            · exact h1 x hx
            · rw [List.mem_singleton.mp hx]; exact h2
        by_cases c : e.2.length ≤ 8
        · have c1 : decide ((8 : Int) < (vs.length : Int)) = false := decide_eq_false (by omega)
          rw [c1]
          refine iteF ⟨st _ _ hm2, bt3, acc, st _ _ hacc, by omega, ?_⟩
          rw [tk1, iff]
          exact ⟨fun h => ⟨h, c⟩, fun h => h.1⟩
        · have c1 : decide ((8 : Int) < (vs.length : Int)) = true := decide_eq_true (by omega)
          rw [c1]
          refine iteT ⟨_, rfl, acc, st _ _ hacc, ln6 _ (by omega), ?_, fun b o ne z => ?_, _, upd_same, ?_, ?_⟩
          · rw [upd_ne nmD2]; exact st _ _ hm2
          · rw [upd_ne (ne_of_none z freeD2)]; exact bt3 b o ne z
          · rw [List.length_append, List.length_singleton]; omega
          · rw [tk1]
            exact ⟨fun h => absurd h (by simp), fun h => absurd h.2 c⟩
      · rintro H2 ⟨hm2, bt2, acc, hacc, la, iff⟩
        rw [len, List.take_length] at iff
        have sb2 := bt2.back hmG
        refine ⟨hm2, _, .inl ⟨acc, .of (by rw [upd_ne nmD2.symm]; exact hacc), rfl⟩, ?_⟩
        have e2 : (!(!acc.isEmpty)) = decide (∀ e ∈ mv, e.2.length ≤ 8) := by
          rw [Bool.not_not, Bool.eq_iff_iff, List.isEmpty_iff, decide_eq_true_iff]
          exact iff
        rw [e2]
        exact q _ fun b o z => sb2 b o (sb b o z)

/-- a walk and what each turn does, whatever that is -/
theorem turns_it {J : It} {n : Nat} {G : Hp → Prop} {Y : Nat → Hp → V → Hp → Prop} (w : Walk J n G Y) {B : V → Hp → (Hp → Prop) → Prop} {H0 : Hp} {Qd : Hp → Prop} (Pv : Nat → Hp → Prop) (h0 : Pv 0 H0) (hG : ∀ i H, i ≤ n → Pv i H → G H)
    (hs : ∀ i x H H', i < n → Pv i H → Y i H x H' → B x H' (Pv (i + 1))) (hd : ∀ H, Pv n H → Qd H) :
    ∃ W : Nat → Nat → Hp → Prop, (∃ m, W 0 m H0) ∧ ∀ i m H, W i m H → (J.stop i H ∧ Qd H) ∨ (J.go i H ∧ ∃ Nx : Hp → Prop, (∀ H', Nx H' → ∃ m', m' < m ∧ W (i + 1) m' H') ∧ ∀ x H', J.yld i H x H' → B x H' Nx) := by
  refine ⟨fun i m H => m + i = n ∧ Pv i H, ⟨n, rfl, h0⟩, ?_⟩
  rintro i m H ⟨e, p⟩
  have q := hG i H (by omega) p
  cases m with
  | zero =>
    obtain rfl : i = n := by omega
    exact .inl ⟨w.stops H q, hd H p⟩
  | succ m =>
    have lt : i < n := by omega
    exact .inr ⟨w.goes i H lt q, Pv (i + 1), fun H' p' => ⟨m, Nat.lt_succ_self _, by omega, p'⟩, fun x H' y => hs i x H H' lt p (w.yields i H x H' lt q y)⟩
/-- a row that stood at some heap ahead and stands still -/
def iRowB (K : PySem.W.Frag) (tl : TE) : TI := fun σ H R => tl σ H fun x H1 => ∃ xs H0, Row K H0 x xs ∧ Same H0 H1 ∧ ∀ (J : It) (G : Hp → Prop), (∀ H', Same H0 H' → G H') → Walk J xs.length G (YAt xs) → R J H1
theorem same_sqT {K : PySem.W.Frag} {H H' : Hp} {a : Addr} {xs : List V} (s : Same H H') (h : SqT K H a xs) : SqT K H' a xs := sqT_up (Q9.Same.sq s) h
theorem pi_rowB {X : Cx} {tg l : Expr} {tl : TE} (hl : PE X l tl) : PI X tg l (iRowB X.K tl) := by
  refine ⟨fun pins s σ H R I h => ?_⟩
  refine thn (hl.run pins s σ H _ I h) fun v s1 ⟨x, H1, I1, r1, xs, H0, ⟨a, e, hq⟩, s0, q⟩ => ?_
  subst e
  cases r1
  have one : ∀ b ∈ [s1.heap.objs.size], FpOk X pins H1 b := fun b hb => by
    obtain rfl : b = s1.heap.objs.size := by simpa using hb
    exact I1.fpOk (Nat.le_refl _) (I1.hok.fresh (Nat.le_refl _))
  rcases hq with hq | hq
  · obtain ⟨its, rv, p, hz⟩ := I1.list (s0.seq hq)
    exact PySem.wpAny_pyIter_list p.isList ⟨s1.heap.objs.size, [s1.heap.objs.size], _, _, H1, rfl, I1.kept (t' := s1.toks) fun b o e => Heap.get?_push_of_some _ e, turn_list a _, ⟨_, Heap.get?_push_size _ rfl, rfl, rfl⟩, one,
      q _ (fun H' => SqL X.K H' a xs) (fun H' s => s.seq hq) walk_list⟩
  · obtain ⟨its, rv, p, hz⟩ := I1.tuple (same_sqT s0 hq)
    exact PySem.wpAny_pyIter_tuple (show s1.heap.IsTuple a its.toArray from p) ⟨s1.heap.objs.size, [s1.heap.objs.size], _, _, H1, rfl, I1.kept (t' := s1.toks) fun b o e => Heap.get?_push_of_some _ e, turn_tuple a _, ⟨_, Heap.get?_push_size _ rfl, rfl, rfl⟩, one,
      q _ (fun H' => SqT X.K H' a xs) (fun H' s => same_sqT s hq) walk_tup⟩
/-- all outcomes in one list -/
def spPairs (K : PySem.W.Frag) : Sp := fun vs H Q _ => ∃ (r : Addr) (rows : List V) (oss : List (List (Str × Str))), vs = [.ref r] ∧ SqL K H r rows ∧ Paired (OutsT K H) rows oss ∧ oss.flatten.length ≤ 1000000 ∧
  ∀ (H' : Hp) (p : Addr), Same H H' → OutsL K H' (.ref p) oss.flatten → Q (.ref p) H'
abbrev paN : List Str := ["rows", "row", "one"]
theorem scPa : FnScope paN ["rows"] (defScope sPairs) := ⟨rfl, rfl, rfl, by decide +kernel, rfl, by decide +kernel, by decide +kernel⟩
theorem ok_pairs {f : Addr} {fd : FuncData} (F : Fun K "_pairs_of_texts" "_pairs_of_texts" sPairs f fd) (T : TRead K mg fKey) : FnOk P w K mg base CX0 1 f fd ["rows"] (spPairs K) := by
  refine F.ok scPa (fun vs H Q E h => ?_) (fun cdv A outer s H vs Q E hr h => ?_)
  · obtain ⟨r, rows, oss, rfl, _⟩ := h
    rfl
  · obtain ⟨r, rows, oss, rfl, hr0, each, few, q⟩ := h
    refine ⟨_, pss_one (ps_ret (pe_lc2 (own := [("row", 1), ("one", 2)]) (vs1 := [2]) (g := gName 1) (tt := tYes) (wi1 := iRowB K (tVar 1)) (g1 := gName 2) (te := tVar 2) rfl scPa.nd (pi_list (pv 0)) (blkOk_by (own := [("row", 1), ("one", 2)]) (N := paN) (sc := defScope sPairs) (by decide +kernel)) (by decide)
      (fun _ _ _ _ _ => pg_name (i := 1) scPa.nd rfl (.inl rfl)) (fun _ _ _ _ _ => pts_nil) (fun _ _ _ _ _ => pi_rowB (pv 1)) (fun _ _ _ _ _ => pg_name (i := 2) scPa.nd rfl (.inl rfl))
      (fun _ _ _ _ _ => pts_one (PW.pt (pw_and (pt_val (pe_callB (id := "isinstance") (r := rIsi K) call_isi (by rfl) T.isi (by decide +kernel) (pa_cons (pv 2) (pa_cons (pe_bltn (v := .ty "tuple") (by rfl) T.tup (by decide +kernel) rfl) pa_nil))))
        (pw_and (pt_cmpR op_eq (pe_callB (id := "len") (r := rLenRow K) cr_lenRow (by rfl) T.len (by decide +kernel) (pa_cons (pv 2) pa_nil)) pe_int (nomark _))
        (pw_and (pt_val (pe_callB (id := "isinstance") (r := rIsi K) call_isi (by rfl) T.isi (by decide +kernel) (pa_cons (pe_ix (r := rIxT K) ix_tup (pv 2) pe_int (fun _ _ => rfl)) (pa_cons (pe_bltn (v := .ty "str") (by rfl) T.str (by decide +kernel) rfl) pa_nil))))
        (pw_and1 (pt_val (pe_callB (id := "isinstance") (r := rIsi K) call_isi (by rfl) T.isi (by decide +kernel) (pa_cons (pe_ix (r := rIxT K) ix_tup (pv 2) pe_int (fun _ _ => rfl)) (pa_cons (pe_bltn (v := .ty "str") (by rfl) T.str (by decide +kernel) rfl) pa_nil))))))))))
      (fun _ _ _ _ _ => pv 2))), ?_⟩
    refine ⟨_, rfl, r, rfl, ⟨_, hr0⟩, fun D hD => ?_⟩
    have lr : rows.length = oss.length := PySem.Paired.length each
    have flat : ∀ i, (oss.take i).flatten.length ≤ 1000000 := fun i => by
      refine Nat.le_trans ?_ few
      conv => rhs; rw [← List.take_append_drop i oss, List.flatten_append, List.length_append]
      exact Nat.le_add_right _ _
    refine turns_it (walk_list (xs := rows)) (fun i H' => Same H H' ∧ ∃ vs, H' D = some (.lst vs) ∧ Paired (OutT K H) vs (oss.take i).flatten) ⟨same_upd hD, [], upd_same, by simp; exact .nil⟩ (fun i H' _ p => sqL_up (Q9.Same.sq p.1) hr0) ?_ ?_
    · rintro i y H1 H2 hi ⟨s1, vs, hvs, pvs⟩ ⟨rfl, hy⟩
      obtain ⟨os, hos, us, row, eo⟩ := paired_at each i _ hy
      have lu : us.length = os.length := PySem.Paired.length eo
      have fl := flat (i + 1)
      have efl : (oss.take (i + 1)).flatten = (oss.take i).flatten ++ os := by rw [take_one_more hos, List.flatten_append]; simp
      rw [efl, List.length_append] at fl
      refine ⟨rfl, _, rfl, us, H, row, s1, fun J G hG wk => ?_⟩
      refine turns_it wk (fun j H' => Same H H' ∧ ∃ acc, H' D = some (.lst acc) ∧ Paired (OutT K H) acc ((oss.take i).flatten ++ os.take j)) ⟨s1, vs, hvs, by simpa using pvs⟩ (fun j H' _ p => hG _ p.1) ?_ ?_
      · rintro j y2 H3 H4 hj ⟨s3, acc, hacc, pacc⟩ ⟨rfl, hy2⟩
        obtain ⟨o, ho, q2, rfl, hq2⟩ := paired_at eo j _ hy2
        have hx := same_sqT s3 hq2
        have la : acc.length = ((oss.take i).flatten ++ os.take j).length := PySem.Paired.length pacc
        rw [List.length_append, List.length_take] at la
        refine ⟨rfl, _, rfl, _, _, _, _, true, rfl, .ty _, sqT_ty hx, kit_ty (by decide +kernel), true, rfl, iteT ?_⟩
        refine ⟨_, rfl, _, _, rfl, ⟨q2, rfl, .inr hx⟩, rfl, true, rfl, iteT ?_⟩
        refine ⟨_, rfl, q2, _, _, _, rfl, rfl, hx, atI_nat (j := 0) rfl, _, _, _, _, true, rfl, .ty _, .base (.str o.1), kit_ty (by decide +kernel), true, rfl, iteT ?_⟩
        refine ⟨_, rfl, q2, _, _, _, rfl, rfl, hx, atI_nat (j := 1) rfl, _, _, _, _, true, rfl, .ty _, .base (.str o.2), kit_ty (by decide +kernel), true, rfl, iteT ?_⟩
        refine ⟨_, rfl, acc, hacc, ln6 _ (by omega), fun b u z => ?_, _, upd_same, ?_⟩
        · rw [upd_ne (ne_of_none z hD)]
          exact s3 b u z
        · rw [take_one_more ho, ← List.append_assoc]
          exact paired_append pacc (.cons ⟨q2, rfl, hq2⟩ .nil)
      · rintro H3 ⟨s3, acc, hacc, pacc⟩
        rw [lu, List.take_length, ← efl] at pacc
        exact ⟨s3, acc, hacc, pacc⟩
    · rintro H1 ⟨s1, vs, hvs, pvs⟩
      rw [lr, List.take_length] at pvs
      exact q H1 D s1 ⟨D, vs, rfl, .of hvs, L2.Paired.mapP pvs fun _ _ ⟨q, e, h⟩ => ⟨q, e, same_sqT s1 h⟩⟩
end
end Q9
end
-- QRead2
section
set_option maxRecDepth 100000
set_option maxHeartbeats 4000000
namespace Q9
open PySem L2
/-- names and words that are right: are they few enough -/
def spRight (K : PySem.W.Frag) : Sp := fun vs H Q _ => ∃ (a b c : Addr) (ws ss ms : List Str), vs = [.ref a, .ref b, .ref c] ∧ SqL K H a (ws.map V.str) ∧ SqL K H b (ss.map V.str) ∧ SqL K H c (ms.map V.str) ∧
  (∀ z ∈ ws, wordB z = true) ∧ (∀ z ∈ ss, nameB z = true) ∧ (∀ z ∈ ms, nameB z = true) ∧ ws.length ≤ 1000000 ∧ ss.length ≤ 1000000 ∧ ms.length ≤ 1000000 ∧ ∀ H', Same H H' → Q (.bl (decide (ss.length ≤ 60) && decide (ms.length ≤ 8))) H'
structure TRight (K : PySem.W.Frag) (mg : Str → Option Value) (fName fWord : Addr) : Prop where
  gN : mg "is_name" = some (.ref fName)
  kN : PySem.W.keepIn K (.ref fName) = true
  gW : mg "is_word" = some (.ref fWord)
  kW : PySem.W.keepIn K (.ref fWord) = true
abbrev riN : List Str := ["words", "states", "methods", "word", "name"]
section
variable {P : Program} {w : World} {K : PySem.W.Frag} {mg : Str → Option Value} {base : Heap} {fKey fName fWord : Addr}
theorem scRi : FnScope riN ["words", "states", "methods"] (defScope sRight) := ⟨rfl, rfl, rfl, by decide +kernel, rfl, by decide +kernel, by decide +kernel⟩
/-- all([f(x) for x in texts]), f a test of texts that all of them pass: the walk -/
theorem all_true {H H1 : Hp} {K : PySem.W.Frag} (n : Nat) : ((List.replicate n true).all id) = true := by rw [List.all_eq_true]; intro x hx; exact (List.mem_replicate.mp hx).2
theorem ok_right {f : Addr} {fd dN dW : FuncData} (F : Fun K "_are_right" "_are_right" sRight f fd) (T : TRead K mg fKey) (TR : TRight K mg fName fWord)
    (GN : FnOk P w K mg base CX0 2 fName dN ["thing"] (spForm K nameB)) (bN : Binds K dN ["thing"] []) (GW : FnOk P w K mg base CX0 3 fWord dW ["thing"] (spForm K wordB)) (bW : Binds K dW ["thing"] []) :
    FnOk P w K mg base CX0 4 f fd ["words", "states", "methods"] (spRight K) := by
  refine F.ok scRi (fun vs H Q E h => ?_) (fun cdv A outer s H vs Q E hr h => ?_)
  · obtain ⟨a, b, c, ws, ss, ms, rfl, _⟩ := h
    rfl
  · obtain ⟨a, b, c, ws, ss, ms, rfl, ha, hb, hc, aw, as_, am, lw, ls, lm, q⟩ := h
    obtain ⟨t1, h1⟩ := T.states
    obtain ⟨t2, h2⟩ := T.methods
    refine ⟨_, pss_cons (ps_if (PW.pt (pw_or (pt_cmpR op_gt (pe_callB cr_lenRow (by rfl) T.len (by decide +kernel) (pa_cons (pv 1) pa_nil)) (pe_glob (v := .int 60) (by rfl) h1 ⟨_, rfl⟩) (nomark _))
        (pw_or (pt_cmpR op_gt (pe_callB cr_lenRow (by rfl) T.len (by decide +kernel) (pa_cons (pv 2) pa_nil)) (pe_glob (v := .int 8) (by rfl) h2 ⟨_, rfl⟩) (nomark _))
        (pw_or1 (pt_not (pt_val (pe_callB (cr_all rfl) (by rfl) T.all (by decide +kernel) (pa_cons
          (pe_lc (own := [("word", 3)]) (g := gName 3) (tt := tYes) rfl scRi.nd (pi_list (pv 0)) (blkOk_by (own := [("word", 3)]) (N := riN) (sc := defScope sRight) (by decide +kernel))
            (fun _ _ _ _ _ => pg_name (i := 3) scRi.nd rfl (.inl rfl)) (fun _ _ _ _ _ => pts_nil) (fun _ _ _ _ _ => pe_call GW (hr.mono (by decide)) (by rfl) TR.gW TR.kW bW .nil pass0 (pa_cons (pv 3) pa_nil))) pa_nil))))))))
        (pss_one (ps_ret pe_bl)) pss_nil)
      (pss_one (ps_ret (pe_and (pe_callB (cr_all rfl) (by rfl) T.all (by decide +kernel) (pa_cons
          (pe_lc (own := [("name", 4)]) (g := gName 4) (tt := tYes) rfl scRi.nd (pi_list (pv 1)) (blkOk_by (own := [("name", 4)]) (N := riN) (sc := defScope sRight) (by decide +kernel))
            (fun _ _ _ _ _ => pg_name (i := 4) scRi.nd rfl (.inl rfl)) (fun _ _ _ _ _ => pts_nil) (fun _ _ _ _ _ => pe_call GN (hr.mono (by decide)) (by rfl) TR.gN TR.kN bN .nil pass0 (pa_cons (pv 4) pa_nil))) pa_nil))
        (pe_one (pe_callB (cr_all rfl) (by rfl) T.all (by decide +kernel) (pa_cons
          (pe_lc (own := [("name", 4)]) (g := gName 4) (tt := tYes) rfl scRi.nd (pi_list (pv 2)) (blkOk_by (own := [("name", 4)]) (N := riN) (sc := defScope sRight) (by decide +kernel))
            (fun _ _ _ _ _ => pg_name (i := 4) scRi.nd rfl (.inl rfl)) (fun _ _ _ _ _ => pts_nil) (fun _ _ _ _ _ => pe_call GN (hr.mono (by decide)) (by rfl) TR.gN TR.kN bN .nil pass0 (pa_cons (pv 4) pa_nil))) pa_nil)))))), ?_⟩
    refine ⟨_, rfl, .ref b, _, rfl, ⟨b, rfl, .inl hb⟩, _, _, rfl, rfl, _, rfl, ?_⟩
    rw [List.length_map]
    by_cases c1 : ss.length ≤ 60
    · rw [show decide ((60 : Int) < (ss.length : Int)) = false from decide_eq_false (by omega)]
      refine iteF ⟨_, rfl, .ref c, _, rfl, ⟨c, rfl, .inl hc⟩, _, _, rfl, rfl, _, rfl, ?_⟩
      rw [List.length_map]
      rw [decide_eq_true c1, Bool.true_and] at q
      by_cases c2 : ms.length ≤ 8
      · rw [show decide ((8 : Int) < (ms.length : Int)) = false from decide_eq_false (by omega)]
        rw [decide_eq_true c2] at q
        refine iteF ⟨_, rfl, a, rfl, ⟨_, ha⟩, fun D hD => ?_⟩
        have stp : ∀ {zs : List Str} {p : Str → Bool} {G : Hp} {D : Addr} {i : Nat} {z : Str} {H1 H4 : Hp}, zs.length ≤ 1000000 → zs[i]? = some z → p z = true → G D = none → Same G H1 → H1 D = some (.lst ((List.replicate i true).map V.bl)) → Same H1 H4 →
            ∃ acc, H4 D = some (.lst acc) ∧ acc.length < sizeLine ∧ Same G (upd H4 D (.lst (acc ++ [.bl (p z)]))) ∧ upd H4 D (.lst (acc ++ [.bl (p z)])) D = some (.lst ((List.replicate (i + 1) true).map V.bl)) := by
          intro zs p G D i z H1 H4 lz hz hp hG s1 hd s4
          have := (List.getElem?_eq_some_iff.mp hz).1
          refine ⟨_, s4 _ _ hd, by rw [List.length_map, List.length_replicate]; exact ln6 _ (by omega), fun b o e => ?_, ?_⟩
          · rw [upd_ne (ne_of_none e hG)]
            exact s4 _ _ (s1 _ _ e)
          · rw [upd_same, hp, List.replicate_succ', List.map_append]
            rfl
        have get : ∀ {zs : List Str} {i : Nat} {y : V}, (zs.map V.str)[i]? = some y → ∃ z, zs[i]? = some z ∧ y = V.str z := by
          intro zs i y hy
          rw [List.getElem?_map] at hy
          obtain ⟨z, h1, h2⟩ := Option.map_eq_some_iff.mp hy
          exact ⟨z, h1, h2.symm⟩
        refine lc_it (walk_list (xs := ws.map V.str)) (fun i H' => Same H H' ∧ H' D = some (.lst ((List.replicate i true).map V.bl))) ⟨same_upd hD, upd_same⟩ (fun i H' _ p => sqL_up (Q9.Same.sq p.1) ha) ?_ ?_
        · rintro i y H1 H2 hi ⟨s1, hd⟩ ⟨rfl, hy⟩
          obtain ⟨z, hz, rfl⟩ := get hy
          have wz := aw z (List.mem_of_getElem? hz)
          refine ⟨rfl, _, rfl, _, rfl, .inl ⟨z, rfl, word_len wz, fun H4 s4 => ?_⟩⟩
          exact stp lw hz wz hD s1 hd s4
        · rintro H1 ⟨s1, hd⟩
          refine ⟨D, _, rfl, .of hd, _, rfl, ?_⟩
          rw [all_true (H := H) (H1 := H) (K := K)]
          refine iteF ⟨_, rfl, b, rfl, ⟨_, s1.seq hb⟩, fun D2 hD2 => ?_⟩
          refine lc_it (walk_list (xs := ss.map V.str)) (fun i H' => Same H1 H' ∧ H' D2 = some (.lst ((List.replicate i true).map V.bl))) ⟨same_upd hD2, upd_same⟩ (fun i H' _ p => sqL_up (Q9.Same.sq p.1) (s1.seq hb)) ?_ ?_
          · rintro i y H3 H2 hi ⟨s3, hd⟩ ⟨rfl, hy⟩
            obtain ⟨z, hz, rfl⟩ := get hy
            have wz := as_ z (List.mem_of_getElem? hz)
            refine ⟨rfl, _, rfl, _, rfl, .inl ⟨z, rfl, name_len wz, fun H4 s4 => ?_⟩⟩
            exact stp ls hz wz hD2 s3 hd s4
          · rintro H2 ⟨s2, hd2⟩
            have s12 : Same H H2 := fun b o z => s2 b o (s1 b o z)
            refine ⟨D2, _, rfl, .of hd2, _, rfl, ?_⟩
            rw [all_true (H := H) (H1 := H) (K := K)]
            refine iteT ⟨_, rfl, c, rfl, ⟨_, s12.seq hc⟩, fun D3 hD3 => ?_⟩
            refine lc_it (walk_list (xs := ms.map V.str)) (fun i H' => Same H2 H' ∧ H' D3 = some (.lst ((List.replicate i true).map V.bl))) ⟨same_upd hD3, upd_same⟩ (fun i H' _ p => sqL_up (Q9.Same.sq p.1) (s12.seq hc)) ?_ ?_
            · rintro i y H3 H5 hi ⟨s3, hd⟩ ⟨rfl, hy⟩
              obtain ⟨z, hz, rfl⟩ := get hy
              have wz := am z (List.mem_of_getElem? hz)
              refine ⟨rfl, _, rfl, _, rfl, .inl ⟨z, rfl, name_len wz, fun H4 s4 => ?_⟩⟩
              exact stp lm hz wz hD3 s3 hd s4
            · rintro H3 ⟨s3, hd3⟩
              refine ⟨D3, _, rfl, .of hd3, ?_⟩
              rw [all_true (H := H) (H1 := H) (K := K)]
              exact q H3 fun b o z => s3 b o (s12 b o z)
      · rw [show decide ((8 : Int) < (ms.length : Int)) = true from decide_eq_true (by omega)]
        rw [decide_eq_false c2] at q
        exact iteT (q H (Same.refl H))
    · rw [show decide ((60 : Int) < (ss.length : Int)) = true from decide_eq_true (by omega)]
      rw [decide_eq_false c1, Bool.false_and] at q
      exact iteT (q H (Same.refl H))
end
end Q9
end
-- QSetTups
section
set_option maxRecDepth 100000
set_option maxHeartbeats 8000000
/-! set(row), the row's elements tuples of ints and texts -/
namespace Q9
open PySem PySem.Spec PyProof.Rows L2
section
variable {P : Program} {w : World} {K : Type} [DecidableEq K] {knd : KeyKind P w K} {A : Around} {E : Value → Shared → Prop} {s : Shared}
/-- what a walk over xs has gathered behind i turns -/
structure CollK (xs : List (List K)) (i : Nat) (L : Mem K) : Prop where
  nd : (L.map (·.2)).Nodup
  mem : ∀ k, k ∈ L.map (·.2) ↔ k ∈ xs.take i
theorem CollK.zero (xs : List (List K)) : CollK xs 0 [] := ⟨List.nodup_nil, fun k => by simp⟩
theorem CollK.next {xs : List (List K)} {i : Nat} {L L' : Mem K} {k : List K} {b : Addr} (c : CollK xs i L) (h : xs[i]? = some k) (m : MoreT b k L L') : CollK xs (i + 1) L' := by
  have e : xs.take (i + 1) = xs.take i ++ [k] := take_one_more h
  rcases m with ⟨hm, rfl⟩ | ⟨hm, p⟩
  · refine ⟨c.nd, fun j => ?_⟩
    rw [e, List.mem_append, List.mem_singleton, c.mem j]
    exact ⟨.inl, fun z => z.elim id fun z => z ▸ (c.mem k).1 hm⟩
  · have pm := p.map (·.2)
    refine ⟨pm.nodup_iff.mpr (List.nodup_cons.mpr ⟨hm, c.nd⟩), fun j => ?_⟩
    rw [pm.mem_iff, e, List.mem_append, List.mem_singleton, List.map_cons, List.mem_cons, c.mem j]
    exact Or.comm
theorem CollK.le {xs : List (List K)} {i : Nat} {L : Mem K} (c : CollK xs i L) : L.length ≤ i := by
  have h := nodup_le (L.map (·.2)) (xs.take i) c.nd fun k hk => (c.mem k).1 hk
  rw [List.length_map, List.length_take] at h
  omega
theorem key_keep {h h' : Heap} {k : List K} {b : Addr} (x : IsTupleKey knd h k b) (e : ∀ o, h.get? b = some o → h'.get? b = some o) : IsTupleKey knd h' k b := by
  obtain ⟨o, items, n, ho, r⟩ := x
  exact ⟨o, items, n, e o ho, r⟩
theorem tset_keep {h h' : Heap} {a : Addr} {L : Mem K} {es : Array (Int × Value)} {ep : Nat} {t : SetTable} (R : TSet knd h a L es ep t) (e : ∀ o, h.get? a = some o → h'.get? a = some o) (f : ∀ p ∈ L, IsTupleKey knd h' p.2 p.1) : TSet knd h' a L es ep t :=
  ⟨let ⟨o, ho, r⟩ := R.ob; ⟨o, e o ho, r⟩, R.rows, R.tab, R.nd, f, R.room, R.few⟩
theorem upd_turnsT {I : Addr} {fp wr : List Addr} {G : Array GenState → Array GenState → Prop} {n : Nat} {Pv : Nat → Value → Prop} {St : Nat → Shared → Prop} {R : Result → Shared → Prop} (fl : Flat8 knd) (hu : A.in1.units < cLine)
    (W : WalksS P w A.in1 I fp wr G n Pv St) (S : Addr) (hSf : S ∉ fp) (xs : List (List K)) (hn : n = xs.length) (few : n + 1 < 64) (h0 : Heap) (new : ∀ b ∈ S :: wr, h0.get? b = none)
    (hval : ∀ i v, Pv i v → ∃ k b, xs[i]? = some k ∧ v = .ref b ∧ IsTupleKey knd h0 k b) :
    ∀ (m i : Nat) (s : Shared), n - i = m → i ≤ n → St i s → (∀ b o, h0.get? b = some o → s.heap.get? b = some o) → (∃ L es ep t, TSet knd s.heap S L es ep t ∧ (∀ p ∈ L, IsTupleKey knd h0 p.2 p.1) ∧ CollK xs i L) →
      (∀ s' L es ep t, Moved (S :: wr) G s s' → TSet knd s'.heap S L es ep t → CollK xs n L → R (.ok (.ret .none)) s') →
      codeAny (model P w) A (.builtin "set.update.loop" ⟨[.ref S, .ref I], []⟩) R s := by
  have away : S ∉ wr := fun h => hSf (W.sub _ h)
  have up : ∀ b ∈ wr, b ∈ S :: wr := fun b hb => List.mem_cons_of_mem _ hb
  have old : ∀ {b : Addr} {o : Obj}, h0.get? b = some o → b ∉ S :: wr := fun {b o} e z => by rw [new b z] at e; cases e
  intro m
  induction m with
  | zero =>
    intro i s hm hi st k0 ⟨L, es, ep, t, RS, inn, c⟩ hR
    obtain rfl : i = n := by omega
    refine codeAny_builtin F.entry_set_update_loop ?_
    rw [Around.under_plainId F.plain_set_update_loop _]
    show wpAny _ A.in1 (pyNext (.ref I) >>= _) _ _ s
    refine wpAny_bind (W.done s _ _ st fun s' mv => ?_)
    have keep : ∀ b o, h0.get? b = some o → s'.heap.get? b = some o := fun b o e => mv.heap b o (fun z => old e (up b z)) (k0 b o e)
    have RS' : TSet knd s'.heap S L es ep t := tset_keep RS (fun o e => mv.heap S o away e) fun p hp => key_keep (inn p hp) fun o e => keep _ o e
    show wpAny _ A.in1 (ret Value.none) _ _ s'
    exact wpAny_pure (hR s' L es ep t (mv.mono up) RS' c)
  | succ m ih =>
    intro i s hm hi st k0 ⟨L, es, ep, t, RS, inn, c⟩ hR
    have lt : i < n := by omega
    refine codeAny_builtin F.entry_set_update_loop ?_
    rw [Around.under_plainId F.plain_set_update_loop _]
    show wpAny _ A.in1 (pyNext (.ref I) >>= _) _ _ s
    refine wpAny_bind (W.item i s _ _ lt st fun v s' pv st' mv => ?_)
    obtain ⟨k, b0, hk, rfl, hb0⟩ := hval i v pv
    have keep : ∀ b o, h0.get? b = some o → s'.heap.get? b = some o := fun b o e => mv.heap b o (fun z => old e (up b z)) (k0 b o e)
    have RS' : TSet knd s'.heap S L es ep t := tset_keep RS (fun o e => mv.heap S o away e) fun p hp => key_keep (inn p hp) fun o e => keep _ o e
    have hkey : IsTupleKey knd s'.heap k b0 := key_keep hb0 fun o e => keep _ o e
    show wpAny _ A.in1 (holding [.ref b0] (setAdd S (.ref b0)) >>= _) _ _ s'
    refine wpAny_bind (wpAny_holding ?_)
    unfold setAdd
    refine wpAny_holding (wpAny_bind (wpAny_pyHash_tuple hu hkey ?_))
    have cl := c.le
    refine tset_add (s := { s' with toks := s'.toks + (k.length + 1) }) fl RS' hkey hu (by omega) fun b h' L' es' ep' t' same RS2 more => ?_
    have inn' : ∀ p ∈ L', IsTupleKey knd h0 p.2 p.1 := by
      rcases more with ⟨_, rfl⟩ | ⟨_, pm⟩
      · exact inn
      · intro p hp
        rcases List.mem_cons.mp (pm.mem_iff.mp hp) with z | z
        · rw [z]; exact hb0
        · exact inn p z
    refine wpAny_pure ⟨plainId_quiet F.plain_set_update_loop _, ih (i + 1) _ (by omega) lt (W.frame _ s' _ _ st' (Nat.le_add_right _ _) fun b hb o e => ?_) (fun b o e => ?_) ⟨L', es', ep', t', RS2, inn', c.next hk more⟩ fun s'' L2 es2 ep2 t2 mv2 RS3 c3 => ?_⟩
    · exact (same.2 b fun z => hSf (z ▸ hb)).trans e
    · exact (same.2 b fun z => old e (z ▸ List.mem_cons_self)).trans (keep b o e)
    · refine hR s'' L2 es2 ep2 t2 (Moved.trans W.gtrans ((mv.mono up).then_heap (Nat.le_add_right _ _) fun b o hb e => ?_) mv2) RS3 c3
      exact (same.2 b fun z => hb (z ▸ List.mem_cons_self)).trans e
theorem call_set_tups {l : Addr} {T : String} {items : Array Value} (fl : Flat8 knd) (hu : A.units + 8 < cLine) (src : Src P w s.heap l T items) (xs : List (List K)) (few : items.size + 1 < 64) (hn : items.size = xs.length) {Q : Value → Shared → Prop} (hh : A.handled = none)
    (hval : ∀ (i : Nat) (v : Value), items[i]? = some v → ∃ k b, xs[i]? = some k ∧ v = .ref b ∧ IsTupleKey knd s.heap k b)
    (hQ : ∀ (h' : Heap) (tk : Nat) L es ep t, TSet knd h' s.heap.objs.size L es ep t → CollK xs xs.length L → (∀ b o, s.heap.get? b = some o → h'.get? b = some o) → Q (.ref s.heap.objs.size) { s with heap := h', toks := tk }) :
    wpAny (model P w) A (call (.type "set") [.ref l]) Q E s := by
  obtain ⟨⟨ol, hol, hcl⟩, hsls, hslf, hne, ob, St, hiter, hwalk, hst⟩ := src
  obtain ⟨c, tl, hmro⟩ := F.called_set.mro
  have hmade := F.called_set.made
  have hsub := F.called_set.sub
  refine wpAny_call (codeAny_of_tree ?_)
  show wpAny _ _ (callAny (.type "set") _) _ _ _
  refine wpAny_pure ⟨Code.quiet_builtin _ (by decide +kernel), codeAny_builtin F.entry_type_call ?_⟩
  rw [Around.under_plain (weight_type_call_type "set" [.ref l] []) rfl]
  have h1 := F.called_set.notType
  have h2 := F.called_set.canCreate
  have hct := F.typeCall_set_1 (.ref l)
  repeat (any_goals (first | assumption | wp_step))
  refine codeAny_mono (code_set_led1 (.ref l) (E := E) (Q₁ := fun obj s₁ => obj = .ref s.heap.objs.size ∧ s₁ = { s with heap := s.heap.push (emptySet w) }) ⟨rfl, rfl⟩) fun r s₁ hr => ?_
  cases r with
  | error e => exact hr
  | ok fl2 =>
    cases fl2 with
    | ret obj =>
      obtain ⟨rfl, rfl⟩ := hr
      have hS : (s.heap.push (emptySet w)).get? s.heap.objs.size = some (emptySet w) := Heap.get?_push_size _ rfl
      have hT : Shared.TypeIs { s with heap := s.heap.push (emptySet w) } (.ref s.heap.objs.size) "set" := ⟨_, hS, rfl⟩
      have hli := F.called_set.init.lookup
      have hbi := F.called_set.init.bind (.ref s.heap.objs.size)
      repeat (any_goals (first | assumption | wp_step))
      refine codeAny_mono (codeAny_call_builtin (R := wants (fun r s₂ => r = .none ∧ ∃ h' tk L es ep t, s₂ = { s with heap := h', toks := tk } ∧ TSet knd h' s.heap.objs.size L es ep t ∧ CollK xs xs.length L ∧
          (∀ b o, s.heap.get? b = some o → h'.get? b = some o)) E) F.called_set.init.plain F.entry_set_init (check_set_init_1 hT ?_)) fun r₂ s₂ hr₂ => ?_
      · have up1 : ∀ b o, s.heap.get? b = some o → (s.heap.push (emptySet w)).get? b = some o := fun b o e => Heap.get?_push_of_some _ e
        have hol' := up1 _ _ hol
        obtain ⟨ocls, odict, odata, oslots⟩ := ol
        simp only at hcl
        subst hcl
        unfold Builtin.«set.__init__» noKeywords Builtin.Frozenset.updateFrom
        generalize hPI : pyIter = PI
        wp_walk
        subst hPI
        refine hiter { s with heap := s.heap.push (emptySet w) } _ _ _ up1 ?_
        refine wpAny_bind (wpAny_runValue ?_)
        have hlS : l < s.heap.objs.size := Heap.lt_size hol
        have hh3 : A.in1.in1.in1.handled = none := by simp [hh]
        have hz1 : (s.heap.push (emptySet w)).objs.size = s.heap.objs.size + 1 := Heap.size_push ..
        have neI : l ≠ (s.heap.push (emptySet w)).objs.size := by rw [hz1]; exact Nat.ne_of_lt (Nat.lt_succ_of_lt hlS)
        have hSf : s.heap.objs.size ∉ [(s.heap.push (emptySet w)).objs.size, l] := by
          rw [hz1]
          simp only [List.mem_cons, List.not_mem_nil, or_false, not_or]
          exact ⟨Nat.ne_of_lt (Nat.lt_succ_self _), Nat.ne_of_gt hlS⟩
        refine upd_turnsT (knd := knd) fl ?hu ((hwalk _ _ hh3 neI).toS) s.heap.objs.size hSf xs hn few s.heap ?new hval (items.size - 0) 0 _ (by omega) (Nat.zero_le _) (hst _ up1) ?keep
          ⟨[], _, _, _, tset_fresh (Heap.get?_push_of_some _ hS), (fun p hp => nomatch hp), CollK.zero xs⟩ fun s' L es ep t mv RS cl => ?_
        case hu => first | (simp only [Around.in1_units]; omega) | (simp; omega)
        case new =>
          intro b hb
          have hb2 : s.heap.objs.size ≤ b := by
            rcases List.mem_cons.mp hb with z | z
            · rw [z]; exact Nat.le_refl _
            · rw [List.mem_singleton.mp z, hz1]; exact Nat.le_succ _
          cases e : s.heap.get? b with
          | none => rfl
          | some o => exact absurd (Heap.lt_size e) (Nat.not_lt.mpr hb2)
        case keep => exact fun b o e => Heap.get?_push_of_some _ (up1 b o e)
        obtain ⟨h', g2, d', tk', os'⟩ := s'
        have eg : g2 = s.gens := mv.gens
        have ed : d' = s.drawn := mv.drawn
        have eo : os' = s.os := mv.os
        subst eg; subst ed; subst eo
        show wpAny _ _ _ _ _ _
        refine wpAny_pure ?_
        show wpAny _ _ (ret Value.none) _ _ _
        rw [hn] at cl
        refine wpAny_pure ⟨rfl, h', tk', L, es, ep, t, rfl, RS, cl, fun b o e => ?_⟩
        have lt := Heap.lt_size e
        refine mv.heap b o (fun z => ?_) (Heap.get?_push_of_some _ (up1 b o e))
        rcases List.mem_cons.mp z with z | z
        · exact absurd lt (by rw [z]; exact Nat.lt_irrefl _)
        · have z2 := List.mem_singleton.mp z
          rw [z2, hz1] at lt
          exact absurd lt (Nat.not_lt_of_le (Nat.le_succ _))
      · cases r₂ with
        | error e => exact hr₂
        | ok fl₂ =>
          cases fl₂ with
          | ret r =>
            obtain ⟨rfl, h', tk, L, es, ep, t, rfl, RS, cl, k2⟩ := hr₂
            repeat (any_goals (first | assumption | wp_step))
            exact hQ _ _ _ _ _ _ RS cl k2
          | _ => exact hr₂.elim
    | _ => exact hr.elim
end
section
variable {X : Cx} {pins : List (Addr × Obj)} {σ : L2.St} {H : Hp} {s : Shared}
/-- v is a tuple of the keys k -/
def TupK (K : PySem.W.Frag) (H : Hp) (v : V) (k : List Key) : Prop := ∃ q, v = .ref q ∧ SqT K H q (k.map kV)
theorem key_sq (I : Inv X pins σ H s) {q : Addr} {k : List Key} (h : SqT X.K H q (k.map kV)) : IsTupleKey (mixKind X.prog X.w) s.heap k q := by
  obtain ⟨its, rv, ⟨o, h1, h2, n, h3⟩, hz⟩ := I.tuple h
  exact ⟨o, its.toArray, n, h1, h2, h3, by simpa using items_are rv⟩
/-- set(row) -/
def rSetOfT (K : PySem.W.Frag) (P : Program) (w : World) : List V → Hp → VK → Prop := fun args H Q => ∃ (x : V) (vs : List V) (ks : List (List Key)), args = [x] ∧ Row K H x vs ∧ Paired (TupK K H) vs ks ∧ vs.length < 63 ∧
  ∀ (p : Addr) (L : Mem Key), H p = none → (L.map (·.2)).Nodup → (∀ k, k ∈ L.map (·.2) ↔ k ∈ ks) → Q (.ref p) (upd H p (SetTs P w p L))
theorem cr_setOfT (hc : X.calm = true) (hu : X.A.units + 8 < cLine) : CallR X (.type "set") (rSetOfT X.K X.prog X.w) := by
  intro pins s σ H vs us Q I r h
  obtain ⟨x, xs, ks, rfl, ⟨l, rfl, hq⟩, each, few, q⟩ := h
  rw [Vals.ref1 r]
  have lk := PySem.Paired.length each
  have fin : ∀ (T : String) (its : List Value), Vals xs its → Src X.prog X.w s.heap l T its.toArray → wpAny (model X.prog X.w) X.A (call (.type "set") [.ref l]) (EP X pins σ Q) X.xe s := fun T its rv src => by
    have li := PySem.Paired.length rv
    refine call_set_tups (knd := mixKind X.prog X.w) flat_mix hu src ks (by rw [List.size_toArray]; omega) (by rw [List.size_toArray]; omega) (I.ok.hd hc) (fun i v hv => ?_) fun h' tk L es ep t RS cl k => ?_
    · have hv' : its[i]? = some v := by simpa using hv
      have hi : i < its.length := (List.getElem?_eq_some_iff.mp hv').1
      have hi2 : i < xs.length := by omega
      obtain ⟨kk, e1, q2, e2, e3⟩ := paired_get each (List.getElem?_eq_getElem hi2)
      obtain ⟨u, e4, e5⟩ := Vals.get (i := i) (x := xs[i]) rv (List.getElem?_eq_getElem hi2)
      rw [hv'] at e4
      cases e4
      rw [e2] at e5
      cases e5
      exact ⟨kk, q2, e1, rfl, key_sq I e3⟩
    · have J : Inv X pins σ (upd H s.heap.objs.size (SetTs X.prog X.w s.heap.objs.size L)) { s with heap := h', toks := tk } := I.laid k (Nat.le_refl _) (setTs_ok (tobj_of RS))
      exact ⟨.ref _, _, J, rfl, q _ L (I.hok.fresh (Nat.le_refl _)) cl.nd fun k => by rw [cl.mem k, List.take_length]⟩
  rcases hq with hq | hq
  · obtain ⟨its, rv, pl, hz⟩ := I.list hq
    exact fin _ its rv (Src.list pl.isList)
  · obtain ⟨its, rv, pl, hz⟩ := I.tuple hq
    exact fin _ its rv (Src.tuple pl)
end
end Q9
end
-- QColl
section
set_option maxRecDepth 100000
set_option maxHeartbeats 4000000
namespace Q9
open PySem PySem.Spec PyProof.Rows L2
section
variable {P : Program} {w : World} {A : Around} {E : Value → Shared → Prop} {s : Shared}
/-- the items of a tuple, gathered -/
theorem collect_tup {t : Addr} {us : List Value} {Q : List Value → Shared → Prop} (ht : s.heap.IsTuple t us.toArray) (sz : us.length ≤ sizeLine)
    (h : ∀ s1, Keeps s.heap s1.heap → s.heap.objs.size ≤ s1.heap.objs.size → s1.gens = s.gens → s1.os = s.os → Q us s1) : wpAny (model P w) A (collect (.ref t)) Q E s := by
  obtain ⟨ob, h1, h2, cc, h3⟩ := id ht
  have h1' : (s.heap.push (seqObj "list" #[] 0)).get? t = some ob := Heap.get?_push_of_some _ h1
  unfold collect
  refine wpAny_bind (wpAny_runValue (codeAny_builtin entry_proto_collect' ?_))
  show wpAny _ _ (do again (.builtin "list.__iadd__" ⟨[← newList [], .ref t], []⟩)) _ _ s
  refine wpAny_bind (wpAny_newList (wpAny_pure ⟨Code.quiet_builtin _ (by decide +kernel), codeAny_builtin entry_list_iadd' ?_⟩))
  show wpAny _ _ (Builtin.List.listExtendWith (.ref s.heap.objs.size) (.ref t) (.ref s.heap.objs.size)) _ _ { s with heap := s.heap.push (seqObj "list" #[] 0) }
  unfold Builtin.List.listExtendWith
  refine wpAny_bind (wpAny_typeOf (T := "tuple") ⟨ob, h1', h2⟩ ?_)
  rw [if_pos (by have e : (Value.type "tuple" == Value.type "tuple") = true := rfl; rw [e]; simp)]
  refine wpAny_bind (listItems_at h1' h3 (wpAny_bind (listItems_at (xs := #[]) (n := 0) (Heap.get?_push_size _ rfl) rfl ?_)))
  rw [if_neg (by simp)]
  refine wpAny_bind (listUpdate_at (xs := #[]) (n := 0) (Heap.get?_push_size _ rfl) rfl ?_ (Nat.zero_le _) (by show (#[] ++ us.toArray).size ≤ sizeLine + 1; simp only [Array.size_append, List.size_toArray, List.length_nil]; omega))
  refine wpAny_pure ?_
  show wpAny (model P w) A (load s.heap.objs.size >>= _) Q E { s with heap := (s.heap.push (seqObj "list" #[] 0)).update s.heap.objs.size (Obj.mapSeq (· ++ us.toArray)) }
  refine wpAny_bind (wpAny_load (get?_update_seq (Heap.get?_push_size _ rfl) _) ?_)
  show wpAny _ _ (pure ((#[] : Array Value) ++ us.toArray).toList) Q E _
  rw [show ((#[] : Array Value) ++ us.toArray).toList = us by simp]
  exact wpAny_pure (h _ (fun b o e => by rw [Heap.get?_update_other _ _ (Nat.ne_of_gt (Heap.lt_size e))]; exact Heap.get?_push_of_some _ e) (by simp [Heap.size_update, size_push']) rfl rfl)
end
section
variable {X : Cx}
theorem row_its {pins : List (Addr × Obj)} {σ : L2.St} {H : Hp} {s : Shared} (I : Inv X pins σ H s) {a : Addr} {xs : List V} (h : SqL X.K H a xs ∨ SqT X.K H a xs) : ∃ its : List Value, Vals xs its ∧ its.length ≤ sizeLine ∧
    ∀ {A : Around} {R : List Value → Shared → Prop} {E : Value → Shared → Prop}, (∀ s1, Keeps s.heap s1.heap → s.heap.objs.size ≤ s1.heap.objs.size → s1.gens = s.gens → s1.os = s.os → R its s1) → wpAny (model X.prog X.w) A (collect (.ref a)) R E s := by
  rcases h with h | h
  · obtain ⟨its, rv, pl, hz⟩ := I.list h
    have hl : its.length ≤ sizeLine := by rw [← PySem.Paired.length rv]; exact hz
    exact ⟨its, rv, hl, fun hR => collect_list pl.isList (hR _ (fun b o e => by rw [Heap.get?_update_other _ _ (Nat.ne_of_gt (Heap.lt_size e))]; exact Heap.get?_push_of_some _ e) (by simp [Heap.size_update, size_push']) rfl rfl)⟩
  · obtain ⟨its, rv, pl, hz⟩ := I.tuple h
    have hl : its.length ≤ sizeLine := by rw [← PySem.Paired.length rv]; exact hz
    exact ⟨its, rv, hl, fun hR => collect_tup pl hl hR⟩
/-- sorted(xs), xs a row of texts -/
def rSortedRs (K : PySem.W.Frag) : List V → Hp → VK → Prop := fun vs H Q => ∃ (x : V) (xs : List Str), vs = [x] ∧ Row K H x (xs.map V.str) ∧ ∀ (ys : List Str) (p : Addr), ys.Perm xs → Up ys → H p = none → Q (.ref p) (upd H p (.lst (ys.map V.str)))
theorem cr_sortedRs : CallR X (.builtin "sorted") (rSortedRs X.K) := by
  intro pins s σ H vs us Q I r h
  obtain ⟨x, xs, rfl, ⟨a, rfl, hq⟩, q⟩ := h
  rw [Vals.ref1 r]
  obtain ⟨its, rv, hl, col⟩ := row_its I hq
  have hS : StrsAre its xs := rv.strs
  refine sorted_txts hS hl (fun R E' hR => col hR) fun s' p out c ys k g o z hp h1 h2 h3 => ?_
  have len : (ys.map V.str).length ≤ sizeLine := by rw [List.length_map, h2.length_eq, ← hS.length]; exact hl
  have J := Inv.new_at I (o := .lst (ys.map V.str)) k g o z ⟨len, out.toList, c, vals_of_strs h1, hp⟩
  exact ⟨.ref p, _, J, rfl, q ys p h2 h3 (I.hok.fresh z)⟩
/-- sorted(xs), xs a row of tuples of two texts -/
def rSortedRT (K : PySem.W.Frag) : List V → Hp → VK → Prop := fun vs H Q => ∃ (x : V) (ps : List (Addr × Str × Str)), vs = [x] ∧ Row K H x ((ps.map (·.1)).map V.ref) ∧ (∀ p ∈ ps, SqT K H p.1 [.str p.2.1, .str p.2.2]) ∧
  ∀ (qs : List (Addr × Str × Str)) (p : Addr), qs.Perm ps → UpP (qs.map (·.2)) → H p = none → Q (.ref p) (upd H p (.lst ((qs.map (·.1)).map V.ref)))
theorem cr_sortedRT : CallR X (.builtin "sorted") (rSortedRT X.K) := by
  intro pins s σ H vs us Q I r h
  obtain ⟨x, ps, rfl, ⟨a, rfl, hq⟩, he, q⟩ := h
  rw [Vals.ref1 r]
  obtain ⟨its, rv, hl, col⟩ := row_its I hq
  have e := refs_vals rv
  subst e
  exact sorted_tt I (fun p hp => pair2_at I (he p hp)) (by simpa using hl) (fun R E' hR => col hR) q
end
end Q9
end
-- QKA
section
set_option maxRecDepth 100000
set_option maxHeartbeats 4000000
namespace Q9
open PySem L2
/-! ### a kind as it stands -/
def kflds (nm st : Str) (e s me m : Addr) : List (Str × V) := putF "_moves" (.ref m) (putF "_methods" (.ref me) (putF "_states" (.ref s) (putF "_ends" (.ref e) (putF "_start" (.str st) (putF "_name" (.str nm) [])))))
theorem kf_all (nm st : Str) (e s me m : Addr) : (kflds nm st e s me m).lookup ("_moves" : Str) = some (.ref m) ∧ (kflds nm st e s me m).lookup ("_ends" : Str) = some (.ref e) ∧ (kflds nm st e s me m).lookup ("_start" : Str) = some (.str st) ∧ (kflds nm st e s me m).lookup ("_name" : Str) = some (.str nm) ∧
    (kflds nm st e s me m).lookup ("_states" : Str) = some (.ref s) ∧ (kflds nm st e s me m).lookup ("_methods" : Str) = some (.ref me) ∧
    (kflds nm st e s me m).lookup ("states" : Str) = none ∧ (kflds nm st e s me m).lookup ("methods" : Str) = none ∧ (kflds nm st e s me m).lookup ("moves" : Str) = none := by
  have no : ∀ f : Str, ¬ f = ("_moves" : Str) → ¬ f = ("_methods" : Str) → ¬ f = ("_states" : Str) → ¬ f = ("_ends" : Str) → ¬ f = ("_start" : Str) → ¬ f = ("_name" : Str) → (kflds nm st e s me m).lookup f = none := fun f h1 h2 h3 h4 h5 h6 => by
    unfold kflds
    rw [lookup_putF, if_neg h1, lookup_putF, if_neg h2, lookup_putF, if_neg h3, lookup_putF, if_neg h4, lookup_putF, if_neg h5, lookup_putF, if_neg h6]
    rfl
  refine ⟨?_, ?_, ?_, ?_, ?_, ?_, no _ (by decide +kernel) (by decide +kernel) (by decide +kernel) (by decide +kernel) (by decide +kernel) (by decide +kernel), no _ (by decide +kernel) (by decide +kernel) (by decide +kernel) (by decide +kernel) (by decide +kernel) (by decide +kernel), no _ (by decide +kernel) (by decide +kernel) (by decide +kernel) (by decide +kernel) (by decide +kernel) (by decide +kernel)⟩
  · unfold kflds; rw [lookup_putF, if_pos rfl]
  · unfold kflds; rw [lookup_putF, if_neg (by decide +kernel), lookup_putF, if_neg (by decide +kernel), lookup_putF, if_neg (by decide +kernel), lookup_putF, if_pos rfl]
  · unfold kflds; rw [lookup_putF, if_neg (by decide +kernel), lookup_putF, if_neg (by decide +kernel), lookup_putF, if_neg (by decide +kernel), lookup_putF, if_neg (by decide +kernel), lookup_putF, if_pos rfl]
  · unfold kflds; rw [lookup_putF, if_neg (by decide +kernel), lookup_putF, if_neg (by decide +kernel), lookup_putF, if_neg (by decide +kernel), lookup_putF, if_neg (by decide +kernel), lookup_putF, if_neg (by decide +kernel), lookup_putF, if_pos rfl]
  · unfold kflds; rw [lookup_putF, if_neg (by decide +kernel), lookup_putF, if_neg (by decide +kernel), lookup_putF, if_pos rfl]
  · unfold kflds; rw [lookup_putF, if_neg (by decide +kernel), lookup_putF, if_pos rfl]
/-- its own moves: the keys once, the outcomes in order, in tuples -/
def TupE (K : PySem.W.Frag) (H : Hp) (kv : List Key × V) (e : (Str × Str) × List (Str × Str)) : Prop := kv.1 = [.inr e.1.1, .inr e.1.2] ∧ ∃ t vs, kv.2 = .ref t ∧ H t = some (.tup vs) ∧ Paired (OutT K H) vs e.2
structure OwnMv (K : PySem.W.Frag) (H : Hp) (kvs : List (List Key × V)) (mvs mv : Mv) : Prop where
  nd : (kvs.map (·.1)).Nodup
  tups : Paired (TupE K H) kvs mvs
  eqm : EqMv mvs mv
  outs : ∀ k os, (k, os) ∈ mv → ∃ os', (k, os') ∈ mvs ∧ os'.Perm os
  up : ∀ e ∈ mvs, UpP e.2
  len : mvs.length = mv.length
theorem OwnMv.moves {K : PySem.W.Frag} {H : Hp} {kvs : List (List Key × V)} {mvs mv : Mv} (h : OwnMv K H kvs mvs mv) : Moves K H kvs mvs :=
  ⟨h.nd, L2.Paired.mapP h.tups fun _ _ ⟨e, t, vs, e1, e2, p⟩ => ⟨e, vs, ⟨t, e1, .inr (.of e2)⟩, p⟩⟩
structure KAc (C : Addr) (K : PySem.W.Frag) (H : Hp) (x : Addr) (nm st : Str) (es : List Str) (mv : Mv) : Prop where
  ex : ∃ (dx e s me m : Addr) (ys ss ms : List Str) (kvs : List (List Key × V)) (mvs : Mv), H x = some (.ins C dx (kflds nm st e s me m)) ∧ H e = some (.tup (ys.map V.str)) ∧ ys.Perm es ∧ Up ys ∧ H s = some (.lst (ss.map V.str)) ∧ Told (statesIn st es mv) ss ∧
    H me = some (.lst (ms.map V.str)) ∧ Told (methodsIn mv) ms ∧ H m = some (.dT kvs) ∧ OwnMv K H kvs mvs mv
  small : Small st es mv
  fits : Fits st es mv
  nd : (mv.map (·.1)).Nodup
theorem ownMv_up {K : PySem.W.Frag} {H H' : Hp} (s : Same H H') {kvs : List (List Key × V)} {mvs mv : Mv} (h : OwnMv K H kvs mvs mv) : OwnMv K H' kvs mvs mv :=
  ⟨h.nd, L2.Paired.mapP h.tups fun _ _ ⟨e, t, vs, e1, e2, p⟩ => ⟨e, t, vs, e1, s _ _ e2, L2.Paired.mapP p fun _ _ ⟨q, e, g⟩ => ⟨q, e, sqT_up (Q9.Same.sq s) g⟩⟩, h.eqm, h.outs, h.up, h.len⟩
theorem ownMv_well {K : PySem.W.Frag} {H H' : Hp} {l : Addr} (w : Well H l) (b : But l H H') {kvs : List (List Key × V)} {mvs mv : Mv} (h : OwnMv K H kvs mvs mv) : OwnMv K H' kvs mvs mv := by
  obtain ⟨x, y, z, e, r⟩ := id w
  have keep : ∀ t vs, H t = some (.tup vs) → H' t = some (.tup vs) := fun t vs g => b t _ (fun c => by rw [c, e] at g; cases g) g
  have sq : ∀ {a : Addr} {xs : List V}, SqT K H a xs → SqT K H' a xs := fun {a xs} g => sqT_up (Q9.Same.sq del_less) (sqT_up (Q9.Same.sq (but_del b)) (sqT_del w g))
  exact ⟨h.nd, L2.Paired.mapP h.tups fun _ _ ⟨e, t, vs, e1, e2, p⟩ => ⟨e, t, vs, e1, keep _ _ e2, L2.Paired.mapP p fun _ _ ⟨q, e, g⟩ => ⟨q, e, sq g⟩⟩, h.eqm, h.outs, h.up, h.len⟩
theorem kac_ok (C : Addr) (K : PySem.W.Frag) : KAok C (KAc C K) where
  up := fun z ⟨⟨dx, e, s, me, m, ys, ss, ms, kvs, mvs, h1, h2, h3, h4, h5, t5, h6, t6, h7, h8⟩, a, b, c⟩ => ⟨⟨dx, e, s, me, m, ys, ss, ms, kvs, mvs, z _ _ h1, z _ _ h2, h3, h4, z _ _ h5, t5, z _ _ h6, t6, z _ _ h7, ownMv_up z h8⟩, a, b, c⟩
  well := fun w bt ⟨⟨dx, e, s, me, m, ys, ss, ms, kvs, mvs, h1, h2, h3, h4, h5, t5, h6, t6, h7, h8⟩, a, b, c⟩ => by
    obtain ⟨n1, n2, n3, el, _⟩ := id w
    have txt : ∀ (zs : List Str), (HO.lst (zs.map V.str)) ≠ (HO.lst [.int n1, .int n2, .int n3]) := fun zs h => by
      injection h with h
      cases zs with
      | nil => cases h
      | cons z zs => rw [List.map_cons] at h; injection h with h _; cases h
    exact ⟨⟨dx, e, s, me, m, ys, ss, ms, kvs, mvs, bt _ _ (fun z => by rw [z, el] at h1; cases h1) h1, bt _ _ (fun z => by rw [z, el] at h2; cases h2) h2, h3, h4, bt _ _ (fun z => by rw [z, el] at h5; exact txt _ (Option.some.inj h5).symm) h5, t5, bt _ _ (fun z => by rw [z, el] at h6; exact txt _ (Option.some.inj h6).symm) h6, t6,
      bt _ _ (fun z => by rw [z, el] at h7; cases h7) h7, ownMv_well w bt h8⟩, a, b, c⟩
  small := fun h => ⟨h.small, h.fits, h.nd⟩
  ins := fun ⟨⟨dx, e, s, me, m, ys, ss, ms, kvs, mvs, h1, _⟩, _, _, _⟩ => by
    obtain ⟨_, _, _, _, _, _, l1, l2, l3⟩ := kf_all _ _ e s me m
    exact ⟨dx, _, h1, l1, l2, l3⟩
end Q9
end
-- QRead3a
section
set_option maxRecDepth 100000
set_option maxHeartbeats 4000000
namespace Q9
open PySem L2
/-! ### what the reader of moves needs -/
theorem few_same {l l' : List Str} (h : ∀ z ∈ l, z ∈ l') (f : FewIn (l'.map kInr)) : FewIn (l.map kInr) := fun ks nd hk => f ks nd fun k hks => by
  obtain ⟨z, h1, h2⟩ := List.mem_map.mp (hk k hks)
  exact List.mem_map.mpr ⟨z, h z h1, h2⟩
def rowsO (mv : Mv) : List (List (Str × Str)) := mv.map (·.2)
def flatO (mv : Mv) : List (Str × Str) := (mv.map (·.2)).flatten
theorem sum_lens : ∀ mv : Mv, (mv.map fun e => (e.2.length : Int)).sum = ((flatO mv).length : Int)
  | [] => rfl
  | e :: mv => by
    have ih := sum_lens mv
    unfold flatO at ih ⊢
    rw [List.map_cons, List.sum_cons, ih, List.map_cons, List.flatten_cons, List.length_append]
    omega
theorem lens_states (st : Str) (es : List Str) (mv : Mv) : (statesIn st es mv).length = 1 + es.length + mv.length + (flatO mv).length := by
  unfold statesIn
  rw [List.length_append, List.length_cons]
  have key : ∀ mv : Mv, (mv.flatMap fun e => e.1.1 :: e.2.map (·.2)).length = mv.length + (flatO mv).length := by
    intro mv
    induction mv with
    | nil => rfl
    | cons e mv ih =>
      unfold flatO at ih ⊢
      rw [List.flatMap_cons, List.length_append, ih, List.map_cons, List.flatten_cons, List.length_append, List.length_cons, List.length_cons, List.length_map]
      omega
  rw [key]
  omega
theorem mem_flatO {mv : Mv} {o : Str × Str} : o ∈ flatO mv ↔ ∃ e ∈ mv, o ∈ e.2 := by
  unfold flatO
  rw [List.mem_flatten]
  constructor
  · rintro ⟨l, h1, h2⟩
    obtain ⟨e, h3, rfl⟩ := List.mem_map.mp h1
    exact ⟨e, h3, h2⟩
  · rintro ⟨e, h1, h2⟩
    exact ⟨e.2, List.mem_map.mpr ⟨e, h1, rfl⟩, h2⟩
theorem flat_words {mv : Mv} {z : Str} : z ∈ (flatO mv).map (·.1) ↔ z ∈ wordsIn mv := by
  unfold wordsIn
  rw [List.mem_map, List.mem_flatMap]
  constructor
  · rintro ⟨o, h1, rfl⟩
    obtain ⟨e, h2, h3⟩ := mem_flatO.mp h1
    exact ⟨e, h2, List.mem_map.mpr ⟨o, h3, rfl⟩⟩
  · rintro ⟨e, h2, h3⟩
    obtain ⟨o, h4, rfl⟩ := List.mem_map.mp h3
    exact ⟨o, mem_flatO.mpr ⟨e, h2, h4⟩, rfl⟩
theorem states_told {st : Str} {es : List Str} {mv : Mv} {beh : List Str} (t : Told ((flatO mv).map (·.2)) beh) (z : Str) : z ∈ st :: es ++ mv.map (·.1.1) ++ beh ↔ z ∈ statesIn st es mv := by
  rw [mem_states, List.mem_append, List.mem_append, List.mem_cons, t.2.2 z, or_assoc, or_assoc]
  constructor
  · rintro (h | h | h | h)
    · exact .inl h
    · exact .inr (.inl h)
    · obtain ⟨e, h1, h2⟩ := List.mem_map.mp h
      exact .inr (.inr ⟨e, h1, .inl h2.symm⟩)
    · obtain ⟨o, h1, h2⟩ := List.mem_map.mp h
      obtain ⟨e, h3, h4⟩ := mem_flatO.mp h1
      exact .inr (.inr ⟨e, h3, .inr ⟨o, h4, h2.symm⟩⟩)
  · rintro (h | h | ⟨e, h1, h2 | ⟨o, h3, h4⟩⟩)
    · exact .inl h
    · exact .inr (.inl h)
    · exact .inr (.inr (.inl (List.mem_map.mpr ⟨e, h1, h2.symm⟩)))
    · exact .inr (.inr (.inr (List.mem_map.mpr ⟨o, mem_flatO.mpr ⟨e, h1, h3⟩, h4.symm⟩)))
theorem told_len {l ys : List Str} (t : Told l ys) : ys.length ≤ l.length := nodup_le ys l t.2.1 fun z hz => (t.2.2 z).1 hz
theorem paired_snd {K : PySem.W.Frag} {H : Hp} {kvs : List (List Key × V)} {mv : Mv} (p : Paired (EntT K H) kvs mv) : Paired (OutsT K H) (kvs.map (·.2)) (mv.map (·.2)) := by
  induction p with
  | nil => exact .nil
  | cons h t ih => exact .cons h.2 ih
/-! ### the sorted moves -/
abbrev SortOf (a b : (Str × Str) × List (Str × Str)) : Prop := a.1 = b.1 ∧ a.2.Perm b.2 ∧ UpP a.2
theorem sort_keys : ∀ {mvs mv : Mv}, Paired SortOf mvs mv → mvs.map (·.1) = mv.map (·.1)
  | _, _, .nil => rfl
  | _, _, .cons h t => by rw [List.map_cons, List.map_cons, h.1, sort_keys t]
theorem sort_outs {k : Str × Str} : ∀ {mvs mv : Mv}, Paired SortOf mvs mv → (outsOf mvs k).Perm (outsOf mv k)
  | _, _, .nil => List.Perm.refl _
  | a :: l, b :: m, .cons h t => by
    have ih := sort_outs (k := k) t
    unfold outsOf at ih ⊢
    by_cases c : a.1 = k
    · rw [List.find?_cons_of_pos (by simpa using c), List.find?_cons_of_pos (by simpa using h.1.symm.trans c)]
      exact h.2.1
    · rw [List.find?_cons_of_neg (by simpa using c), List.find?_cons_of_neg (by simpa using fun z => c (h.1.trans z))]
      exact ih
theorem sort_mem : ∀ {mvs mv : Mv}, Paired SortOf mvs mv → ∀ (k : Str × Str) (os : List (Str × Str)), (k, os) ∈ mv → ∃ os', (k, os') ∈ mvs ∧ os'.Perm os
  | _, _, .nil, _, _, h => nomatch h
  | a :: l, b :: m, .cons h t, k, os, hm => by
    rcases List.mem_cons.mp hm with z | z
    · refine ⟨a.2, List.mem_cons.mpr (.inl ?_), ?_⟩
      · exact Prod.ext (by rw [h.1, ← z]) rfl
      · have := h.2.1; rw [← z] at this; exact this
    · obtain ⟨os', h1, h2⟩ := sort_mem t k os z
      exact ⟨os', List.mem_cons_of_mem _ h1, h2⟩
theorem sort_up : ∀ {mvs mv : Mv}, Paired SortOf mvs mv → ∀ e ∈ mvs, UpP e.2
  | _, _, .nil, _, h => nomatch h
  | _, _, .cons h t, e, hm => by
    rcases List.mem_cons.mp hm with z | z
    · rw [z]; exact h.2.2
    · exact sort_up t e z
theorem outsOf_few {mv : Mv} (h : ∀ e ∈ mv, e.2.length ≤ 8) (k : Str × Str) : (outsOf mv k).length ≤ 8 := by
  unfold outsOf
  cases c : mv.find? fun e => decide (e.1 = k) with
  | none => exact Nat.zero_le _
  | some e => exact h e (List.mem_of_find?_eq_some c)
theorem own_of {K : PySem.W.Frag} {H : Hp} {kvs : List (List Key × V)} {mvs mv : Mv} (nd : (kvs.map (·.1)).Nodup) (tups : Paired (TupE K H) kvs mvs) (so : Paired SortOf mvs mv) (few : ∀ e ∈ mv, e.2.length ≤ 8) : OwnMv K H kvs mvs mv where
  nd := nd
  tups := tups
  eqm := ⟨fun k => by rw [sort_keys so], fun k o => (sort_outs so).mem_iff, fun k => by rw [(sort_outs so).length_eq]; exact outsOf_few few k⟩
  outs := sort_mem so
  up := sort_up so
  len := PySem.Paired.length so
theorem tupE_but {K : PySem.W.Frag} {H H' : Hp} {D : Addr} {ks : List (List Key × V)} (b : But D H H') (hD : H D = some (.dT ks)) {kv : List Key × V} {e : (Str × Str) × List (Str × Str)} (h : TupE K H kv e) : TupE K H' kv e := by
  obtain ⟨e1, t, vs, e2, e3, p⟩ := h
  refine ⟨e1, t, vs, e2, b t _ (fun z => by rw [z, hD] at e3; cases e3) e3, L2.Paired.mapP p fun _ _ ⟨q, e, g⟩ => ⟨q, e, sqT_up (b.sq hD) g⟩⟩
/-- the outcomes of a row as tuples of two texts -/
theorem outs_ps2 {K : PySem.W.Frag} {H : Hp} : ∀ {vs : List V} {os : List (Str × Str)}, Paired (OutT K H) vs os → ∃ ps : List (Addr × Str × Str), vs = (ps.map (·.1)).map V.ref ∧ ps.map (·.2) = os ∧ ∀ p ∈ ps, SqT K H p.1 [.str p.2.1, .str p.2.2]
  | _, _, .nil => ⟨[], rfl, rfl, fun _ h => nomatch h⟩
  | v :: vs, o :: os, .cons ⟨q, e, h⟩ t => by
    obtain ⟨ps, h1, h2, h3⟩ := outs_ps2 t
    refine ⟨(q, o) :: ps, by rw [e, h1]; rfl, by rw [List.map_cons, h2], fun p hp => ?_⟩
    rcases List.mem_cons.mp hp with z | z
    · rw [z]; exact h
    · exact h3 p z
theorem paired_outs {K : PySem.W.Frag} {H : Hp} : ∀ {ps : List (Addr × Str × Str)}, (∀ p ∈ ps, SqT K H p.1 [.str p.2.1, .str p.2.2]) → Paired (OutT K H) ((ps.map (·.1)).map V.ref) (ps.map (·.2))
  | [], _ => .nil
  | p :: ps, h => .cons ⟨p.1, rfl, h p List.mem_cons_self⟩ (paired_outs fun x hx => h x (List.mem_cons_of_mem _ hx))
def keyOf (o : Str × Str) : List Key := [kInr o.1, kInr o.2]
theorem keyOf_inj {a b : Str × Str} (h : keyOf a = keyOf b) : a = b := by
  unfold keyOf at h
  simp only [List.cons.injEq, Sum.inr.injEq, and_true] at h
  exact Prod.ext h.1 h.2
theorem keys_nodup {os : List (Str × Str)} (nd : os.Nodup) : (os.map keyOf).Nodup := List.Pairwise.map _ (fun _ _ ne e => ne (keyOf_inj e)) nd
theorem paired_keys {K : PySem.W.Frag} {H : Hp} : ∀ {vs : List V} {os : List (Str × Str)}, Paired (OutT K H) vs os → Paired (TupK K H) vs (os.map keyOf)
  | _, _, .nil => .nil
  | _, _, .cons ⟨q, e, h⟩ t => .cons ⟨q, e, h⟩ (paired_keys t)
/-- an error raised: what stood stands, and its own dict is new -/
theorem raised {H H1 : Hp} {a dx C : Addr} {fs : List (Str × V)} (s : Same H H1) (na : H1 a = none) (nd : (upd H1 a (exo a C none)) dx = none) (ne : dx ≠ a) :
    (upd (upd (upd H1 a (exo a C none)) dx (exd dx fs)) a (exo a C (some dx))) a = some (exo a C (some dx)) ∧ (upd (upd (upd H1 a (exo a C none)) dx (exd dx fs)) a (exo a C (some dx))) dx = some (exd dx fs) ∧ H1 dx = none ∧
    Same H (upd (del (upd (upd (upd H1 a (exo a C none)) dx (exd dx fs)) a (exo a C (some dx))) a) dx (.xd fs)) ∧ H dx = none := by
  have n1 : H1 dx = none := by rw [upd_ne ne] at nd; exact nd
  refine ⟨upd_same, by rw [upd_ne ne]; exact upd_same, n1, fun b o e => ?_, ?_⟩
  · have h1 := s b o e
    have ba : b ≠ a := ne_of_none h1 na
    have bd : b ≠ dx := ne_of_none h1 n1
    rw [upd_ne bd, del_ne ba, upd_ne ba, upd_ne bd, upd_ne ba]
    exact h1
  · cases h : H dx with
    | none => rfl
    | some o => rw [s _ _ h] at n1; cases n1
end Q9
end
-- QRead3
section
set_option maxRecDepth 100000
set_option maxHeartbeats 4000000
namespace Q9
open PySem L2
/-- tuple(xs), xs a list or a tuple -/
def rTupOf (K : PySem.W.Frag) : List V → Hp → VK → Prop := fun vs H Q => ∃ p ys, vs = [.ref p] ∧ ((SqL K H p ys ∧ ∀ l, H l = none → Q (.ref l) (upd H l (.tup ys))) ∨ (SqT K H p ys ∧ Q (.ref p) H))
theorem cr_tupOf {X : Cx} : CallR X (.type "tuple") (rTupOf X.K) := call_tuple_of
structure TRd (K : PySem.W.Frag) (mg : Str → Option Value) (fA fP fR : Addr) : Prop where
  gA : mg "_are_rows" = some (.ref fA)
  kA : PySem.W.keepIn K (.ref fA) = true
  gP : mg "_pairs_of_texts" = some (.ref fP)
  kP : PySem.W.keepIn K (.ref fP) = true
  gR : mg "_are_right" = some (.ref fR)
  kR : PySem.W.keepIn K (.ref fR) = true
abbrev rdN : List Str := ["moves", "start", "ends", "many", "pairs", "behind", "states", "methods", "row", "_", "state", "method", "word", "key"]
/-- the states, the methods, the own moves; or the error -/
def spRead (CB : Addr) (K : PySem.W.Frag) : Sp := fun vs H Q E => ∃ (m : Addr) (nm st : Str) (ex : V) (es : List Str) (kvs : List (List Key × V)) (mv : Mv), vs = [.ref m, .str st, ex] ∧
  Row K H ex (es.map V.str) ∧ H m = some (.dT kvs) ∧ Moves K H kvs mv ∧ RightParts nm st es mv ∧ Small st es mv ∧
  ((Fits st es mv ∧ ∀ (H' : Hp) (t s me d : Addr) (ss ms : List Str) (kvs' : List (List Key × V)) (mvs : Mv), Same H H' → H' t = some (.tup [.ref s, .ref me, .ref d]) → H' s = some (.lst (ss.map V.str)) → Told (statesIn st es mv) ss → H' me = some (.lst (ms.map V.str)) → Told (methodsIn mv) ms →
      H' d = some (.dT kvs') → OwnMv K H' kvs' mvs mv → Q (.ref t) H') ∨
    (¬ Fits st es mv ∧ ∀ (H' : Hp) (d : Addr), Same H H' → H d = none → H' d = some (.xd [("part", .str "moves")]) → E (.ref CB) (some d) H'))
section
variable {P : Program} {w : World} {K : PySem.W.Frag} {mg : Str → Option Value} {base : Heap} {C CB fKey fA fP fR fI : Addr}
theorem scRd : FnScope rdN ["moves", "start", "ends"] (defScope sRead) := ⟨rfl, rfl, rfl, by decide +kernel, rfl, by decide +kernel, by decide +kernel⟩
theorem ok_read {f : Addr} {fd dA dP dR dI : FuncData} (F : Fun K "_read_moves" "_read_moves" sRead f fd) (T : TRead K mg fKey) (TD : TRd K mg fA fP fR) (TE : TErr K mg "BadKind" "part" CB fI)
    (GI : FnOk P w K mg base CX0 1 fI dI ["self", "part"] (spErrI CB "part")) (bI : Binds K dI ["self", "part"] [])
    (GA : FnOk P w K mg base CX0 2 fA dA ["moves"] (spAreRows K)) (bA : Binds K dA ["moves"] []) (GP : FnOk P w K mg base CX0 1 fP dP ["rows"] (spPairs K)) (bP : Binds K dP ["rows"] [])
    (GR : FnOk P w K mg base CX0 4 fR dR ["words", "states", "methods"] (spRight K)) (bR : Binds K dR ["words", "states", "methods"] []) :
    FnOk P w K mg base (L2.CX P w) 5 f fd ["moves", "start", "ends"] (spRead CB K) := by
  refine F.okX scRd (fun vs H Q E h => ?_) (fun cdv A outer s H vs Q E hr h => ?_)
  · obtain ⟨m, nm, st, ex, es, kvs, mv, rfl, _⟩ := h
    rfl
  · obtain ⟨m, nm, st, ex, es, kvs, mv, rfl, he, hm, M, R, S, way⟩ := h
    have hu := hu_of hr
    have hu8 : (A.deeper (PyProof.Rows.envOfC (Str.ofString "_read_moves") (defScope sRead) s.heap.objs.size f cdv)).units + 8 < cLine := Nat.lt_of_le_of_lt (Nat.add_le_add_left (by decide : 8 ≤ 64) _) hr.units
    refine ⟨_, pss_cons (ps_if (pt_not (pt_val (pe_call GA (hr.mono (by decide)) (by rfl) TD.gA TD.kA bA .nil pass0 (pa_cons (pv 0) pa_nil))))
        (pss_one (ps_raise rfl (takes_of rfl rfl rfl rfl) (pmk_oex TE.ox TE.iC TE.tI GI (hr.mono (by omega)) bI .nil pass0 (by rfl) TE.gC (pa_cons pe_str pa_nil)))) pss_nil)
      (pss_cons (ps_set (i := 3) scRd.nd rfl (.inl rfl) (pe_callB (cr_sum rfl) (by rfl) T.sum (by decide +kernel) (pa_cons
        (pe_lock (pe_lc (te := tCB (rLenRow K) (tCons (tVar 8) tNil)) (own := [("row", 8)]) (g := gName 8) (tt := tYes) rfl scRd.nd (pi_valuesT (pv 0)) (blkOk_by (own := [("row", 8)]) (N := rdN) (sc := defScope sRead) (by decide +kernel))
          (fun _ _ _ _ _ => pg_name (i := 8) scRd.nd rfl (.inl rfl)) (fun _ _ _ _ _ => pts_nil) (fun _ _ _ _ _ => pe_callB (id := "len") (r := rLenRow K) cr_lenRow (by rfl) T.len (by decide +kernel) (pa_cons (pv 8) pa_nil)))) pa_nil)))
      (pss_cons (ps_set (i := 4) scRd.nd rfl (.inl rfl) (pe_call GP (hr.mono (by decide)) (by rfl) TD.gP TD.kP bP .nil pass0 (pa_cons (pe_listValsT rfl (pv 0) (by rfl) T.lst (by decide +kernel)) pa_nil)))
      (pss_cons (ps_if (pt_cmpR op_ne (pe_callB cr_lenRow (by rfl) T.len (by decide +kernel) (pa_cons (pv 4) pa_nil)) (pv 3) (nomark _)) pss_never pss_nil)
      (pss_cons (ps_if (pt_cmpR op_ne (pe_callB cr_lenRow (by rfl) T.len (by decide +kernel) (pa_cons (pv 4) pa_nil)) (pv 3) (nomark _)) pss_never pss_nil)
      (pss_cons (ps_set (i := 5) scRd.nd rfl (.inl rfl) (pe_callB (cr_sortedKs rfl) (by rfl) T.sorted (by decide +kernel) (pa_cons
        (pe_scK (own := [("_", 9), ("state", 10)]) (g := gTup K 2 (gCons (gName 9) (gCons (gName 10) gNil))) (tt := tYes) rfl scRd.nd (pi_list (pv 4)) (blkOk_by (own := [("_", 9), ("state", 10)]) (N := rdN) (sc := defScope sRead) (by decide +kernel))
          (fun _ _ _ _ _ => pg_tup rfl (pgs_cons (pg_name (i := 9) scRd.nd rfl (.inl rfl)) (pgs_cons (pg_name (i := 10) scRd.nd rfl (.inl rfl)) pgs_nil))) (fun _ _ _ _ _ => pts_nil) (fun _ _ _ _ _ => pv 10)) pa_nil)))
      (pss_cons (ps_set (i := 6) scRd.nd rfl (.inl rfl) (pe_callB (cr_sortedKs rfl) (by rfl) T.sorted (by decide +kernel) (pa_cons (pe_callTy (cr_setOf rfl) (by rfl) T.set (by decide +kernel) (pa_cons
        (pe_op op_cat (pe_op op_cat (pe_op op_cat (pe_lst (pa_cons (pv 1) pa_nil)) (pe_callTy cr_listRow (by rfl) T.lst (by decide +kernel) (pa_cons (pv 2) pa_nil)))
          (pe_lock (pe_lc (te := tVar 10) (own := [("state", 10), ("_", 9)]) (g := gTup K 2 (gCons (gName 10) (gCons (gName 9) gNil))) (tt := tYes) rfl scRd.nd (pi_keys (pv 0)) (blkOk_by (own := [("state", 10), ("_", 9)]) (N := rdN) (sc := defScope sRead) (by decide +kernel))
            (fun _ _ _ _ _ => pg_tup rfl (pgs_cons (pg_name (i := 10) scRd.nd rfl (.inl rfl)) (pgs_cons (pg_name (i := 9) scRd.nd rfl (.inl rfl)) pgs_nil))) (fun _ _ _ _ _ => pts_nil) (fun _ _ _ _ _ => pv 10)))) (pv 5)) pa_nil)) pa_nil)))
      (pss_cons (ps_set (i := 7) scRd.nd rfl (.inl rfl) (pe_callB (cr_sortedKs rfl) (by rfl) T.sorted (by decide +kernel) (pa_cons
        (pe_lock (pe_scK (own := [("_", 9), ("method", 11)]) (g := gTup K 2 (gCons (gName 9) (gCons (gName 11) gNil))) (tt := tYes) rfl scRd.nd (pi_keys (pv 0)) (blkOk_by (own := [("_", 9), ("method", 11)]) (N := rdN) (sc := defScope sRead) (by decide +kernel))
          (fun _ _ _ _ _ => pg_tup rfl (pgs_cons (pg_name (i := 9) scRd.nd rfl (.inl rfl)) (pgs_cons (pg_name (i := 11) scRd.nd rfl (.inl rfl)) pgs_nil))) (fun _ _ _ _ _ => pts_nil) (fun _ _ _ _ _ => pv 11))) pa_nil)))
      (pss_cons (ps_if (pt_not (pt_val (pe_call GR (hr.mono (by decide)) (by rfl) TD.gR TD.kR bR .nil pass0 (pa_cons (pe_callB (cr_sortedKs rfl) (by rfl) T.sorted (by decide +kernel) (pa_cons
          (pe_scK (own := [("word", 12), ("_", 9)]) (g := gTup K 2 (gCons (gName 12) (gCons (gName 9) gNil))) (tt := tYes) rfl scRd.nd (pi_list (pv 4)) (blkOk_by (own := [("word", 12), ("_", 9)]) (N := rdN) (sc := defScope sRead) (by decide +kernel))
            (fun _ _ _ _ _ => pg_tup rfl (pgs_cons (pg_name (i := 12) scRd.nd rfl (.inl rfl)) (pgs_cons (pg_name (i := 9) scRd.nd rfl (.inl rfl)) pgs_nil))) (fun _ _ _ _ _ => pts_nil) (fun _ _ _ _ _ => pv 12)) pa_nil)) (pa_cons (pv 6) (pa_cons (pv 7) pa_nil))))))
        (pss_one (ps_raise rfl (takes_of rfl rfl rfl rfl) (pmk_oex TE.ox TE.iC TE.tI GI (hr.mono (by omega)) bI .nil pass0 (by rfl) TE.gC (pa_cons pe_str pa_nil)))) pss_nil)
      (pss_cons (ps_if (pt_truth (pe_lock (pe_lc (te := tVar 8) (own := [("row", 8)]) (g := gName 8) rfl scRd.nd (pi_valuesT (pv 0)) (blkOk_by (own := [("row", 8)]) (N := rdN) (sc := defScope sRead) (by decide +kernel))
          (fun _ _ _ _ _ => pg_name (i := 8) scRd.nd rfl (.inl rfl))
          (fun _ _ _ _ _ => pts_one (pt_cmpR op_ne (pe_callB (id := "len") (r := rLenTs P w) cr_lenTs (by rfl) T.len (by decide +kernel) (pa_cons (pe_callTy (r := rSetOfT K P w) (cr_setOfT rfl hu8) (by rfl) T.set (by decide +kernel) (pa_cons (pv 8) pa_nil)) pa_nil)) (pe_callB (id := "len") (r := rLenRow K) cr_lenRow (by rfl) T.len (by decide +kernel) (pa_cons (pv 8) pa_nil)) (nomark _)))
          (fun _ _ _ _ _ => pv 8))) (by intro _; rfl)) pss_never pss_nil)
      (pss_one (ps_ret (pe_tup (pa_cons (pv 6) (pa_cons (pv 7) (pa_cons
        (pe_lock (pe_dcT (tk := tVar 13) (tv := tCB (rTupOf K) (tCons (tCB (rSortedRT K) (tCons (tVar 8) tNil)) tNil)) (tt := tYes) (own := [("key", 13), ("row", 8)]) (g := gTup K 2 (gCons (gName 13) (gCons (gName 8) gNil))) (Nat.lt_of_succ_lt hu) rfl scRd.nd (pi_itemsT (pv 0)) (blkOk_by (own := [("key", 13), ("row", 8)]) (N := rdN) (sc := defScope sRead) (by decide +kernel))
          (fun _ _ _ _ _ => pg_tup rfl (pgs_cons (pg_name (i := 13) scRd.nd rfl (.inl rfl)) (pgs_cons (pg_name (i := 8) scRd.nd rfl (.inl rfl)) pgs_nil))) (fun _ _ _ _ _ => pts_nil) (fun _ _ _ _ _ => pv 13)
          (fun _ _ _ _ _ => pe_callTy (r := rTupOf K) cr_tupOf (by rfl) T.tup (by decide +kernel) (pa_cons (pe_callB (id := "sorted") (r := rSortedRT K) cr_sortedRT (by rfl) T.sorted (by decide +kernel) (pa_cons (pv 8) pa_nil)) pa_nil)))) pa_nil))))))))))))))), ?_⟩
    have len : kvs.length = mv.length := PySem.Paired.length M.ent
    have ls := lens_states st es mv
    have big := S.len
    have lf : (flatO mv).length ≤ 1000000 := by omega
    have le : es.length ≤ 1000000 := by omega
    have few : kvs.length ≤ 1000000 := by omega
    have sz : ∀ n : Nat, n ≤ 4000010 → n < sizeLine := fun n h => by rw [PySem.sizeLine_eq]; omega
    refine ⟨_, rfl, m, kvs, mv, rfl, hm, M, few, fun H1 s1 => ⟨_, rfl, ?_⟩⟩
    by_cases c8 : ∀ e ∈ mv, e.2.length ≤ 8
    case neg =>
      rw [decide_eq_false c8]
      rcases way with ⟨ft, _⟩ | ⟨_, wrong⟩
      · exact (c8 ft.1).elim
      refine iteT ⟨(by show 1 ≤ 1000; decide), fun a na => ⟨a, _, rfl, upd_same, fun dx nd ne => ?_⟩⟩
      obtain ⟨r1, r2, r3, r4, r5⟩ := raised (C := CB) (fs := [("part", .str "moves")]) s1 na nd ne
      exact ⟨rfl, dx, _, r1, r2, r3, wrong _ dx r4 r5 upd_same⟩
    rw [decide_eq_true c8]
    refine iteF ?_
    have hm1 := s1 m _ hm
    have M1 := moves_up (Q9.Same.sq s1) M
    -- how many outcomes
    refine ⟨m, .dT kvs, hm1, trivial, fun od => ⟨_, rfl, m, od, kvs, rfl, upd_same, fun D hD => ?_⟩⟩
    have nmD : m ≠ D := ne_of_none upd_same hD
    have freeD : H1 D = none := by rw [upd_ne nmD.symm] at hD; exact hD
    refine lc_it walk_valuesT (fun i H' => H' m = some (.frz od (.dT kvs)) ∧ But m H1 H' ∧ H' D = some (.lst (((mv.take i).map fun e => (e.2.length : Int)).map V.int))) ?_ (fun i H' _ p => p.1) ?_ ?_
    · exact ⟨by rw [upd_ne nmD]; exact upd_same, fun b o ne e => by rw [upd_ne (ne_of_none e freeD), upd_ne ne]; exact e, upd_same⟩
    · rintro i y H2 H3 hi ⟨hm2, bt, hd⟩ ⟨rfl, k0, hk⟩
      obtain ⟨e, hev, ek, vs, row, each⟩ := paired_at M1.ent i _ hk
      have row2 := row_sq (bt.sq hm1) row
      have ll : vs.length = e.2.length := PySem.Paired.length each
      refine ⟨rfl, _, rfl, y, vs, rfl, row2, _, hd, ?_, ?_, fun b o ne z => ?_, ?_⟩
      · rw [List.length_map, List.length_map, List.length_take]; exact sz _ (by omega)
      · rw [upd_ne nmD]; exact hm2
      · rw [upd_ne (ne_of_none z freeD)]; exact bt b o ne z
      · rw [upd_same, take_one_more hev, List.map_append, List.map_append, ll]
        rfl
    rintro H2' ⟨hm2, bt, hd⟩
    rw [len, List.take_length] at hd
    have sb := bt.back hm1
    refine ⟨hm2, D, _, rfl, .of (by rw [upd_ne nmD.symm]; exact hd), ?_⟩
    rw [sum_lens]
    have s2 : Same H (upd H2' m (.dT kvs)) := fun b o z => sb b o (s1 b o z)
    generalize upd H2' m (.dT kvs) = H2 at s2
    clear sb hd bt hm2 freeD nmD hD
    have M2 := moves_up (Q9.Same.sq s2) M
    -- the outcomes
    refine ⟨_, rfl, m, kvs, rfl, s2 _ _ hm, fun rp nrp => ?_⟩
    have s3 : Same H (upd H2 rp (.lst (kvs.map (·.2)))) := fun b o z => same_upd nrp b o (s2 b o z)
    refine ⟨rp, kvs.map (fun e => e.2), rowsO mv, rfl, .of upd_same, paired_snd (moves_up (Q9.Same.sq s3) M).ent, lf, fun H4 pp s34 ⟨pp', vs, epp, hvs, pvs⟩ => ?_⟩
    cases epp
    have s4 : Same H H4 := fun b o z => s34 b o (s3 b o z)
    clear s34 s3 nrp s2 M2
    have pvs : Paired (OutT K H4) vs (flatO mv) := pvs
    have lv : vs.length = (flatO mv).length := PySem.Paired.length pvs
    refine ⟨_, rfl, .ref pp, vs, rfl, ⟨pp, rfl, .inl hvs⟩, _, rfl, rfl, _, rfl, ?_⟩
    refine iteNS (by rw [lv]) ⟨_, rfl, .ref pp, vs, rfl, ⟨pp, rfl, .inl hvs⟩, _, rfl, rfl, _, rfl, iteNS (by rw [lv]) ?_⟩
    -- the states behind
    have subB : ∀ z ∈ (flatO mv).map (·.2), z ∈ statesIn st es mv := fun z hz => by
      obtain ⟨o, h1, h2⟩ := List.mem_map.mp hz
      obtain ⟨e, h3, h4⟩ := mem_flatO.mp h1
      exact mem_states.mpr (.inr (.inr ⟨e, h3, .inr ⟨o, h4, h2.symm⟩⟩))
    have fewB := few_same subB S.states
    refine ⟨_, rfl, pp, rfl, ⟨_, hvs⟩, fun D hD => ?_⟩
    refine coll_it (walk_list (xs := vs)) (fun i H' => Same H4 H' ∧ ∃ ks, H' D = some (SetKs P w D ks) ∧ Coll (((flatO mv).map (·.2)).map kInr) i ks) ⟨same_upd hD, [], upd_same, Coll.zero _⟩ (fun i H' _ p => sqL_up (Q9.Same.sq p.1) hvs) ?_ ?_
    · rintro i y H5 H6 hi ⟨s5, ks, hks, cl⟩ ⟨rfl, hy⟩
      obtain ⟨o, ho, q5, rfl, hq5⟩ := paired_at pvs i _ hy
      have at_ : (((flatO mv).map (·.2)).map kInr)[i]? = some (kInr o.2) := by rw [List.getElem?_map, List.getElem?_map, ho]; rfl
      refine ⟨q5, _, rfl, same_sqT s5 hq5, rfl, _, _, rfl, _, _, rfl, rfl, rfl, ?_⟩
      exact ⟨_, rfl, kInr o.2, ks, rfl, hks, fewB ks cl.nd cl.sub, fun ks' ad => ⟨fun b u z => by rw [upd_ne (ne_of_none z hD)]; exact s5 b u z, ks', upd_same, cl.next at_ ad⟩⟩
    rintro H5 ⟨s5, ks, hks, cl⟩
    have el : (((flatO mv).map (·.2)).map kInr).take vs.length = ((flatO mv).map (·.2)).map kInr := List.take_of_length_le (by rw [List.length_map, List.length_map, lv]; exact Nat.le_refl _)
    have memB : ∀ j, j ∈ ks ↔ j ∈ ((flatO mv).map (·.2)).map kInr := fun j => by rw [cl.mem j, el]
    obtain ⟨ss0, e0⟩ := texts_of memB
    refine ⟨D, ss0, rfl, (by rw [hks, e0]; rfl), fun beh bp pmB upB nbp => ?_⟩
    have tB : Told ((flatO mv).map (·.2)) beh := told_of e0 cl.nd memB pmB upB
    have s46 : Same H4 (upd H5 bp (.lst (beh.map V.str))) := fun b o z => same_upd nbp b o (s5 b o z)
    have hbp : (upd H5 bp (.lst (beh.map V.str))) bp = some (.lst (beh.map V.str)) := upd_same
    have lb := told_len tB
    rw [List.length_map] at lb
    generalize upd H5 bp (.lst (beh.map V.str)) = H6 at s46 hbp
    clear nbp upB pmB e0 memB el cl hks s5 hD
    have s6 : Same H H6 := fun b o z => s46 b o (s4 b o z)
    -- all states
    refine ⟨_, rfl, (by show 1 ≤ sizeLine; decide), fun f1 hf1 => ?_⟩
    have a1 := same_upd (o := .lst [V.str st]) hf1
    refine ⟨_, rfl, ex, _, rfl, row_up (fun b o z => a1 b o (s6 b o z)) he, fun f2 hf2 => ?_⟩
    have a2 := same_upd (o := .lst (es.map V.str)) hf2
    refine ⟨f1, f2, _, _, rfl, rfl, a2 _ _ upd_same, upd_same, ?_, fun f3 hf3 => ?_⟩
    · rw [List.length_map]; show 1 + es.length ≤ sizeLine; exact Nat.le_of_lt (sz _ (by omega))
    have a3 := same_upd (o := .lst ([V.str st] ++ es.map V.str)) hf3
    have a13 : Same H6 (upd (upd (upd H6 f1 (.lst [V.str st])) f2 (.lst (es.map V.str))) f3 (.lst ([V.str st] ++ es.map V.str))) := fun b o z => a3 b o (a2 b o (a1 b o z))
    have hf3' : (upd (upd (upd H6 f1 (.lst [V.str st])) f2 (.lst (es.map V.str))) f3 (.lst ([V.str st] ++ es.map V.str))) f3 = some (.lst ([V.str st] ++ es.map V.str)) := upd_same
    generalize upd (upd (upd H6 f1 (.lst [V.str st])) f2 (.lst (es.map V.str))) f3 (.lst ([V.str st] ++ es.map V.str)) = H7 at a13 hf3'
    clear a1 a2 a3 hf1 hf2 hf3
    have s7 : Same H H7 := fun b o z => a13 b o (s6 b o z)
    have hm7 := s7 m _ hm
    have M7 := moves_up (Q9.Same.sq s7) M
    refine ⟨m, .dT kvs, hm7, trivial, fun od3 => ⟨_, rfl, m, od3, rfl, .inr ⟨kvs, upd_same, fun D3 hD3 => ?_⟩⟩⟩
    have nm3 : m ≠ D3 := ne_of_none upd_same hD3
    have free3 : H7 D3 = none := by rw [upd_ne nm3.symm] at hD3; exact hD3
    refine lc_it walk_keysT (fun i H' => H' m = some (.frz od3 (.dT kvs)) ∧ But m H7 H' ∧ H' D3 = some (.lst (((mv.take i).map (·.1.1)).map V.str))) ?_ (fun i H' _ p => p.1) ?_ ?_
    · exact ⟨by rw [upd_ne nm3]; exact upd_same, fun b o ne e => by rw [upd_ne (ne_of_none e free3), upd_ne ne]; exact e, upd_same⟩
    · rintro i y H8 H9 hi ⟨hm8, bt, hd⟩ ⟨rfl, k0, v, qa, hk, rfl, hq⟩
      obtain ⟨e, hev, ek, _⟩ := paired_at M7.ent i _ hk
      simp only at ek
      subst ek
      have hq' : H9 qa = some (.tup [.str e.1.1, .str e.1.2]) := hq
      refine ⟨qa, _, rfl, .of hq', rfl, _, _, rfl, _, _, rfl, rfl, rfl, _, rfl, _, hd, ?_, ?_, fun b o ne z => ?_, ?_⟩
      · rw [List.length_map, List.length_map, List.length_take]; exact sz _ (by omega)
      · rw [upd_ne nm3]; exact hm8
      · rw [upd_ne (ne_of_none z free3)]; exact bt b o ne z
      · rw [upd_same, take_one_more hev, List.map_append, List.map_append]; rfl
    rintro H8 ⟨hm8, bt, hd⟩
    rw [len, List.take_length] at hd
    have sb3 := bt.back hm7
    refine ⟨hm8, f3, D3, _, _, rfl, rfl, sb3 _ _ hf3', (by rw [upd_ne nm3.symm]; exact hd), ?_, fun f4 hf4 => ?_⟩
    · rw [List.length_append, List.length_map, List.length_map, List.length_map]; exact Nat.le_of_lt (sz _ (by simp only [List.length_cons, List.length_nil]; omega))
    have a4 := same_upd (o := .lst ([V.str st] ++ es.map V.str ++ (mv.map (·.1.1)).map V.str)) hf4
    refine ⟨_, rfl, f4, bp, _, _, rfl, rfl, upd_same, a4 _ _ (sb3 _ _ (a13 _ _ hbp)), ?_, fun f5 hf5 => ?_⟩
    · rw [List.length_append, List.length_append, List.length_map, List.length_map, List.length_map, List.length_map]; exact Nat.le_of_lt (sz _ (by simp only [List.length_cons, List.length_nil]; omega))
    have tot : ∀ z, z ∈ st :: es ++ mv.map (·.1.1) ++ beh ↔ z ∈ statesIn st es mv := states_told tB
    have etot : ((st :: es ++ mv.map (·.1.1) ++ beh).map kInr).map kV = [V.str st] ++ es.map V.str ++ (mv.map (·.1.1)).map V.str ++ beh.map V.str := by rw [kInr_kV]; simp
    refine ⟨f5, (st :: es ++ mv.map (·.1.1) ++ beh).map kInr, rfl, .inl (.of (by rw [etot]; exact upd_same)), few_same (fun z hz => (tot z).1 hz) S.states, fun p6 ks6 hp6 nd6 mem6 => ?_⟩
    obtain ⟨ss6, e6⟩ := texts_of mem6
    refine ⟨p6, ss6, rfl, by rw [upd_same, e6], fun ss sp pmS upS nsp => ?_⟩
    have tS : Told (statesIn st es mv) ss := by
      have t0 := told_of e6 nd6 mem6 pmS upS
      exact ⟨t0.1, t0.2.1, fun z => (t0.2.2 z).trans (tot z)⟩
    generalize hH9 : upd (upd (upd (upd (upd H8 m (.dT kvs)) f4 _) f5 _) p6 (SetKs _ _ p6 ks6)) sp _ = H9
    have s9 : Same H6 H9 := by rw [← hH9]; exact fun b o z => same_upd nsp b o (same_upd hp6 b o (same_upd hf5 b o (a4 b o (sb3 b o (a13 b o z)))))
    have hsp : H9 sp = some (.lst (ss.map V.str)) := by rw [← hH9]; exact upd_same
    have s9H : Same H H9 := fun b o z => s9 b o (s6 b o z)
    clear hH9 nsp hp6 hf5 a4 sb3 hf4 hd bt hm8 free3 nm3 hD3 M7 hm7 s7 hf3' a13 pmS upS e6 mem6 nd6
    have hm9 := s9H m _ hm
    have M9 := moves_up (Q9.Same.sq s9H) M
    -- the methods
    refine ⟨m, .dT kvs, hm9, trivial, fun od4 => ⟨_, rfl, m, od4, rfl, .inr ⟨kvs, upd_same, fun D4 hD4 => ?_⟩⟩⟩
    have nm4 : m ≠ D4 := ne_of_none upd_same hD4
    have free4 : H9 D4 = none := by rw [upd_ne nm4.symm] at hD4; exact hD4
    refine coll_it walk_keysT (fun i H' => H' m = some (.frz od4 (.dT kvs)) ∧ But m H9 H' ∧ ∃ ks, H' D4 = some (SetKs P w D4 ks) ∧ Coll ((methodsIn mv).map kInr) i ks) ?_ (fun i H' _ p => p.1) ?_ ?_
    · exact ⟨by rw [upd_ne nm4]; exact upd_same, fun b o ne e => by rw [upd_ne (ne_of_none e free4), upd_ne ne]; exact e, [], upd_same, Coll.zero _⟩
    · rintro i y Ha Hb hi ⟨hm1', bt, ks, hks, cl⟩ ⟨rfl, k0, v, q0, hk, rfl, hq⟩
      obtain ⟨e, hev, ek, _⟩ := paired_at M9.ent i _ hk
      simp only at ek
      subst ek
      have hq' : Hb q0 = some (.tup [.str e.1.1, .str e.1.2]) := hq
      have at_ : ((methodsIn mv).map kInr)[i]? = some (kInr e.1.2) := by
        unfold methodsIn
        rw [List.getElem?_map, List.getElem?_map, hev]
        rfl
      refine ⟨q0, _, rfl, .of hq', rfl, _, _, rfl, _, _, rfl, rfl, rfl, ?_⟩
      refine ⟨_, rfl, kInr e.1.2, ks, rfl, hks, S.methods ks cl.nd cl.sub, fun ks' ad => ?_⟩
      refine ⟨by rw [upd_ne nm4]; exact hm1', fun b o ne z => ?_, ks', upd_same, cl.next at_ ad⟩
      rw [upd_ne (ne_of_none z free4)]
      exact bt b o ne z
    rintro Ha ⟨hma, bt, ks, hks, cl⟩
    have el4 : ((methodsIn mv).map kInr).take kvs.length = (methodsIn mv).map kInr := List.take_of_length_le (by unfold methodsIn; rw [List.length_map, List.length_map, len]; exact Nat.le_refl _)
    have mem4 : ∀ j, j ∈ ks ↔ j ∈ (methodsIn mv).map kInr := fun j => by rw [cl.mem j, el4]
    obtain ⟨ss4, e4⟩ := texts_of mem4
    refine ⟨hma, D4, ss4, rfl, (by rw [upd_ne nm4.symm, hks, e4]; rfl), fun ms mp pmM upM nmp => ?_⟩
    have tM : Told (methodsIn mv) ms := told_of e4 cl.nd mem4 pmM upM
    have sb4 := bt.back hm9
    generalize hH10 : upd (upd Ha m (.dT kvs)) mp _ = H10
    have s10 : Same H9 H10 := by rw [← hH10]; exact fun b o z => same_upd nmp b o (sb4 b o z)
    have hmp : H10 mp = some (.lst (ms.map V.str)) := by rw [← hH10]; exact upd_same
    clear hH10 sb4 nmp pmM upM e4 mem4 el4 cl hks bt hma free4 nm4 hD4
    have s10_4 : Same H4 H10 := fun b o z => s10 b o (s9 b o (s46 b o z))
    -- the words
    have fewW : FewIn (((flatO mv).map (·.1)).map kInr) := few_same (fun z hz => flat_words.mp hz) S.words
    refine ⟨_, rfl, pp, rfl, ⟨_, s10_4.seq hvs⟩, fun D5 hD5 => ?_⟩
    refine coll_it (walk_list (xs := vs)) (fun i H' => Same H10 H' ∧ ∃ ks, H' D5 = some (SetKs P w D5 ks) ∧ Coll (((flatO mv).map (·.1)).map kInr) i ks) ⟨same_upd hD5, [], upd_same, Coll.zero _⟩ (fun i H' _ p => sqL_up (Q9.Same.sq p.1) (s10_4.seq hvs)) ?_ ?_
    · rintro i y Ha Hb hi ⟨s5, ks, hks, cl⟩ ⟨rfl, hy⟩
      obtain ⟨o, ho, q5, rfl, hq5⟩ := paired_at pvs i _ hy
      have at_ : (((flatO mv).map (·.1)).map kInr)[i]? = some (kInr o.1) := by rw [List.getElem?_map, List.getElem?_map, ho]; rfl
      refine ⟨q5, _, rfl, same_sqT s5 (same_sqT s10_4 hq5), rfl, _, _, rfl, _, _, rfl, rfl, rfl, ?_⟩
      exact ⟨_, rfl, kInr o.1, ks, rfl, hks, fewW ks cl.nd cl.sub, fun ks' ad => ⟨fun b u z => by rw [upd_ne (ne_of_none z hD5)]; exact s5 b u z, ks', upd_same, cl.next at_ ad⟩⟩
    rintro Ha ⟨s5, ks, hks, cl⟩
    have el5 : (((flatO mv).map (·.1)).map kInr).take vs.length = ((flatO mv).map (·.1)).map kInr := List.take_of_length_le (by rw [List.length_map, List.length_map, lv]; exact Nat.le_refl _)
    have mem5 : ∀ j, j ∈ ks ↔ j ∈ ((flatO mv).map (·.1)).map kInr := fun j => by rw [cl.mem j, el5]
    obtain ⟨ss5, e5⟩ := texts_of mem5
    refine ⟨D5, ss5, rfl, (by rw [hks, e5]; rfl), fun ws wp pmW upW nwp => ?_⟩
    have tW : Told ((flatO mv).map (·.1)) ws := told_of e5 cl.nd mem5 pmW upW
    generalize hH11 : upd Ha wp _ = H11
    have s11 : Same H10 H11 := by rw [← hH11]; exact fun b o z => same_upd nwp b o (s5 b o z)
    have hwp : H11 wp = some (.lst (ws.map V.str)) := by rw [← hH11]; exact upd_same
    clear hH11 nwp pmW upW e5 mem5 el5 cl hks s5 hD5
    have s11H : Same H H11 := fun b o z => s11 b o (s10 b o (s9H b o z))
    -- are they right
    have rightS : ∀ z ∈ ss, nameB z = true := fun z hz => by
      rcases mem_states.mp ((tS.2.2 z).1 hz) with h | h | ⟨e, h1, h2 | ⟨o, h3, h4⟩⟩
      · rw [h]; exact R.start
      · exact R.ends z h
      · rw [h2]; exact (R.keys e h1).1
      · rw [h4]; exact (R.outs e h1 o h3).2
    have rightM : ∀ z ∈ ms, nameB z = true := fun z hz => by
      obtain ⟨e, h1, h2⟩ := List.mem_map.mp ((tM.2.2 z).1 hz)
      rw [← h2]
      exact (R.keys e h1).2
    have rightW : ∀ z ∈ ws, wordB z = true := fun z hz => by
      obtain ⟨o, h1, h2⟩ := List.mem_map.mp ((tW.2.2 z).1 hz)
      obtain ⟨e, h3, h4⟩ := mem_flatO.mp h1
      rw [← h2]
      exact (R.outs e h3 o h4).1
    have lW := told_len tW
    have lS := told_len tS
    have lM := told_len tM
    rw [List.length_map] at lW
    have lMm : (methodsIn mv).length = mv.length := by unfold methodsIn; rw [List.length_map]
    refine ⟨_, rfl, _, rfl, wp, sp, mp, ws, ss, ms, rfl, .of hwp, .of (s11 _ _ (s10 _ _ hsp)), .of (s11 _ _ hmp), rightW, rightS, rightM, by omega, by omega, by omega, fun H12 s12 => ⟨_, rfl, ?_⟩⟩
    have s12H : Same H H12 := fun b o z => s12 b o (s11H b o z)
    by_cases cb : ss.length ≤ 60 ∧ ms.length ≤ 8
    case neg =>
      have e1 : (decide (ss.length ≤ 60) && decide (ms.length ≤ 8)) = false := by rw [Bool.and_eq_false_iff, decide_eq_false_iff_not, decide_eq_false_iff_not]; omega
      rw [e1]
      rcases way with ⟨ft, _⟩ | ⟨_, wrong⟩
      · exact (cb ⟨ft.2.1 ss tS.2.1 fun z hz => (tS.2.2 z).1 hz, ft.2.2 ms tM.2.1 fun z hz => (tM.2.2 z).1 hz⟩).elim
      refine iteT ⟨(by show 1 ≤ 1000; decide), fun a na => ⟨a, _, rfl, upd_same, fun dx nd ne => ?_⟩⟩
      obtain ⟨r1, r2, r3, r4, r5⟩ := raised (C := CB) (fs := [("part", .str "moves")]) s12H na nd ne
      exact ⟨rfl, dx, _, r1, r2, r3, wrong _ dx r4 r5 upd_same⟩
    have e1 : (decide (ss.length ≤ 60) && decide (ms.length ≤ 8)) = true := by rw [decide_eq_true cb.1, decide_eq_true cb.2]; rfl
    rw [e1]
    refine iteF ?_
    have hm12 := s12H m _ hm
    have M12 := moves_up (Q9.Same.sq s12H) M
    -- no outcome twice
    refine ⟨m, .dT kvs, hm12, trivial, fun od6 => ⟨_, rfl, m, od6, kvs, rfl, upd_same, fun D6 hD6 => ?_⟩⟩
    have nm6 : m ≠ D6 := ne_of_none upd_same hD6
    have free6 : H12 D6 = none := by rw [upd_ne nm6.symm] at hD6; exact hD6
    refine lc_it walk_valuesT (fun i H' => H' m = some (.frz od6 (.dT kvs)) ∧ But m H12 H' ∧ H' D6 = some (.lst [])) ?_ (fun i H' _ p => p.1) ?_ ?_
    · exact ⟨by rw [upd_ne nm6]; exact upd_same, fun b o ne e => by rw [upd_ne (ne_of_none e free6), upd_ne ne]; exact e, upd_same⟩
    · rintro i y Ha Hb hi ⟨hma, bt, hd⟩ ⟨rfl, k0, hk⟩
      obtain ⟨e, hev, ek, us, row, each⟩ := paired_at M12.ent i _ hk
      have he_mv := List.mem_of_getElem? hev
      have row2 := row_sq (bt.sq hm12) row
      have each2 : Paired (OutT K Hb) us e.2 := L2.Paired.mapP each fun _ _ ⟨q, e, h⟩ => ⟨q, e, sqT_up (bt.sq hm12) h⟩
      have lu : us.length = e.2.length := PySem.Paired.length each
      have l8 := c8 e he_mv
      refine ⟨rfl, _, rfl, y, us, e.2.map keyOf, rfl, row2, paired_keys each2, by omega, fun p L hp nd mem => ⟨p, L, rfl, upd_same, ?_⟩⟩
      have sp1 := same_upd (o := SetTs P w p L) hp
      have ll : L.length = e.2.length := by
        have h := (unlike_len (l := e.2.map keyOf) nd fun k => mem k).2 (keys_nodup (R.outsU e he_mv))
        rw [List.length_map, List.length_map] at h
        exact h
      refine ⟨_, rfl, y, us, rfl, row_up sp1 row2, rfl, _, rfl, iteNS (by rw [ll, lu]) ?_⟩
      exact ⟨sp1 _ _ hma, bt.trans (But.of sp1), sp1 _ _ hd⟩
    rintro Ha ⟨hma, bt, hd⟩
    have sb6 := bt.back hm12
    refine ⟨hma, false, .inl ⟨[], .of (by rw [upd_ne nm6.symm]; exact hd), rfl⟩, iteF ?_⟩
    generalize hH13 : upd Ha m _ = H13
    have s13 : Same H12 H13 := by rw [← hH13]; exact sb6
    have s13H : Same H H13 := fun b o z => s13 b o (s12H b o z)
    clear hH13 sb6 hd bt hma free6 nm6 hD6
    have hm13 := s13H m _ hm
    have M13 := moves_up (Q9.Same.sq s13H) M
    -- the own moves
    refine ⟨_, rfl, _, rfl, m, .dT kvs, hm13, trivial, fun od7 => ⟨_, rfl, m, od7, kvs, rfl, upd_same, fun D7 hD7 => ?_⟩⟩
    have nm7 : m ≠ D7 := ne_of_none upd_same hD7
    have free7 : H13 D7 = none := by rw [upd_ne nm7.symm] at hD7; exact hD7
    refine coll_it walk_itemsT (fun i H' => H' m = some (.frz od7 (.dT kvs)) ∧ But m H13 H' ∧ ∃ (kvs' : List (List Key × V)) (mvs : Mv), H' D7 = some (.dT kvs') ∧ kvs'.map (·.1) = (kvs.take i).map (·.1) ∧ Paired (TupE K H') kvs' mvs ∧ Paired SortOf mvs (mv.take i)) ?_ (fun i H' _ p => p.1) ?_ ?_
    · exact ⟨by rw [upd_ne nm7]; exact upd_same, fun b o ne e => by rw [upd_ne (ne_of_none e free7), upd_ne ne]; exact e, [], [], upd_same, by simp, .nil, by simp; exact .nil⟩
    · rintro i y Ha Hb hi ⟨hma, bt, kvs', mvs, hd, ekeys, tups, so⟩ ⟨Tq, k0, v, q0, hk, rfl, hT, hq, rfl⟩
      obtain ⟨e, hev, ek, us, row, each⟩ := paired_at M13.ent i _ hk
      simp only at ek
      subst ek
      have he_mv := List.mem_of_getElem? hev
      have sT := same_upd (o := .tup [.ref q0, v]) hT
      have row2 := row_up sT (row_sq (bt.sq hm13) row)
      obtain ⟨ps, eps, eos, hps⟩ := outs_ps2 each
      have hps2 : ∀ p ∈ ps, SqT K (upd Ha Tq (.tup [.ref q0, v])) p.1 [.str p.2.1, .str p.2.2] := fun p hp => same_sqT sT (sqT_up (bt.sq hm13) (hps p hp))
      rw [eps] at row2
      refine ⟨Tq, _, rfl, .of upd_same, rfl, _, _, rfl, _, _, rfl, rfl, rfl, ?_⟩
      refine ⟨_, rfl, _, rfl, v, ps, rfl, row2, hps2, fun qs p pm up hp => ⟨p, _, rfl, .inl ⟨.of upd_same, fun l hl => ?_⟩⟩⟩
      have sp1 := same_upd (o := .lst ((qs.map (·.1)).map V.ref)) hp
      have sl := same_upd (o := .tup ((qs.map (·.1)).map V.ref)) hl
      generalize hHc : upd (upd (upd Ha Tq (.tup [.ref q0, v])) p _) l _ = Hc
      have sc : Same Ha Hc := by rw [← hHc]; exact fun b o z => sl b o (sp1 b o (sT b o z))
      have hlc : Hc l = some (.tup ((qs.map (·.1)).map V.ref)) := by rw [← hHc]; exact upd_same
      have hqs : ∀ x ∈ qs, SqT K Hc x.1 [.str x.2.1, .str x.2.2] := fun x hx => by
        rw [← hHc]
        exact same_sqT sl (same_sqT sp1 (hps2 x (pm.mem_iff.mp hx)))
      have lk : kvs'.length ≤ 1000000 := by
        have h := congrArg List.length ekeys
        rw [List.length_map, List.length_map, List.length_take] at h
        omega
      refine ⟨q0, [.inr e.1.1, .inr e.1.2], kvs', rfl, sc _ _ hq, sc _ _ hd, sz _ (by omega), ?_⟩
      have nk : valV kvs' [kInr e.1.1, kInr e.1.2] = none := by
        cases c : valV kvs' [kInr e.1.1, kInr e.1.2] with
        | none => rfl
        | some u =>
          unfold valV at c
          obtain ⟨kv, g1, g2⟩ := Option.map_eq_some_iff.mp c
          have g3 := List.mem_of_find?_eq_some g1
          have g4 : kv.1 = [kInr e.1.1, kInr e.1.2] := by simpa using List.find?_some g1
          have g5 : [kInr e.1.1, kInr e.1.2] ∈ (kvs.take i).map (·.1) := by rw [← ekeys, ← g4]; exact List.mem_map.mpr ⟨kv, g3, rfl⟩
          have nd := M.nd
          have e1 : kvs.take (i + 1) = kvs.take i ++ [([kInr e.1.1, kInr e.1.2], v)] := take_one_more hk
          have nd1 : ((kvs.take (i + 1)).map (·.1)).Nodup := by rw [List.map_take]; exact List.Sublist.nodup (List.take_sublist _ _) nd
          rw [e1, List.map_append, List.nodup_append] at nd1
          exact (nd1.2.2 _ g5 _ (List.mem_singleton.mpr rfl) rfl).elim
      have upE : ∀ x ∈ kvs', True := fun _ _ => trivial
      have ne7 : ∀ {b : Addr} {xs : List V}, Hc b = some (.tup xs) → b ≠ D7 := fun {b xs} h z => by rw [z, sc _ _ hd] at h; cases h
      have butD : ∀ u, But D7 Hc (upd Hc D7 u) := fun u => But.upd
      have tupsC : Paired (TupE K Hc) kvs' mvs := L2.Paired.mapP tups fun _ _ h => tupE_but (D := D7) (But.of sc) hd h
      refine ⟨by rw [upd_ne nm7]; exact sc _ _ hma, fun b o ne z => ?_, _, mvs ++ [(e.1, qs.map (·.2))], upd_same, ?_, ?_, ?_⟩
      · rw [upd_ne (ne_of_none z free7)]
        exact sc _ _ (bt b o ne z)
      · rw [putK_new _ nk, List.map_append, ekeys, take_one_more hk, List.map_append]
        rfl
      · rw [putK_new _ nk]
        refine paired_append (L2.Paired.mapP tupsC fun _ _ h => tupE_but (butD _) (sc _ _ hd) h) (.cons ?_ .nil)
        exact tupE_but (butD _) (sc _ _ hd) (show TupE K Hc ([kInr e.1.1, kInr e.1.2], .ref l) (e.1, qs.map (·.2)) from ⟨rfl, l, _, rfl, hlc, paired_outs hqs⟩)
      · rw [take_one_more hev]
        refine paired_append so (.cons ⟨rfl, ?_, up⟩ .nil)
        rw [← eos]
        exact pm.map _
    rintro Ha ⟨hma, bt, kvs', mvs, hd, ekeys, tups, so⟩
    rw [List.take_length] at ekeys
    rw [len, List.take_length] at so
    have sb7 := bt.back hm13
    have nd' : (kvs'.map (·.1)).Nodup := by rw [ekeys]; exact M.nd
    refine ⟨hma, (by show 3 ≤ sizeLine; decide), fun t nt => ?_⟩
    rcases way with ⟨_, right⟩ | ⟨nf, _⟩
    case inr =>
      exact (nf ⟨c8, fun ys nd sub => Nat.le_trans (nodup_le ys ss nd fun z hz => (tS.2.2 z).2 (sub z hz)) cb.1, fun zs nd sub => Nat.le_trans (nodup_le zs ms nd fun z hz => (tM.2.2 z).2 (sub z hz)) cb.2⟩).elim
    have st := same_upd (o := .tup [.ref sp, .ref mp, .ref D7]) nt
    have s14 : ∀ b o, H13 b = some o → (upd (upd Ha m (.dT kvs)) t (.tup [.ref sp, .ref mp, .ref D7])) b = some o := fun b o z => st b o (sb7 b o z)
    have hsp14 : H13 sp = some (.lst (ss.map V.str)) := s13 _ _ (s12 _ _ (s11 _ _ (s10 _ _ hsp)))
    have hmp14 : H13 mp = some (.lst (ms.map V.str)) := s13 _ _ (s12 _ _ (s11 _ _ hmp))
    refine right _ t sp mp D7 ss ms kvs' mvs (fun b o z => s14 b o (s13H b o z)) upd_same (s14 _ _ hsp14) tS (s14 _ _ hmp14) tM (st _ _ (by rw [upd_ne nm7.symm]; exact hd)) ?_
    refine own_of nd' ?_ so c8
    have hmT : Ha m = some (.frz od7 (.dT kvs)) := hma
    refine L2.Paired.mapP tups fun kv e h => ?_
    obtain ⟨e1, t1, us, e2, e3, p⟩ := h
    have n1 : t1 ≠ m := fun z => by rw [z, hma] at e3; cases e3
    refine ⟨e1, t1, us, e2, st _ _ (by rw [upd_ne n1]; exact e3), L2.Paired.mapP p fun _ _ ⟨q, e, g⟩ => ⟨q, e, same_sqT st ?_⟩⟩
    rcases g with (g | ⟨o, g⟩) | g
    · exact .inl (.inl (by rw [upd_ne (fun z => by rw [z, hma] at g; cases g)]; exact g))
    · exact .inl (.inr ⟨o, by rw [upd_ne (fun z => by rw [z, hma] at g; cases g)]; exact g⟩)
    · exact .inr g
end
end Q9
end
-- QFldT
section
set_option maxRecDepth 100000
set_option maxHeartbeats 4000000
/-! o.f as a target among others -/
namespace Q9
open PySem L2
section
variable {X : Cx}
def gFld (K : PySem.W.Frag) (ta : TE) (f : Str) : TG := fun v σ H Q => ta σ H fun x H2 => ∃ a C dx fs, x = .ref a ∧ H2 a = some (.ins C dx fs) ∧ Cls K C ∧ NoAttr K C f ∧ fs.length < 1000 ∧ Q σ (upd H2 a (.ins C dx (putF f v fs)))
theorem pg_fld {o : Expr} {f : Str} {ta : TE} {pos : Pos} (ha : PE X o ta) : PG X (.Attribute o f pos) (gFld X.K ta f) := by
  refine ⟨fun pins s σ H v u Q I r h => ?_⟩
  rw [assign_Attribute]
  refine wpAny_bind (wpAny_holding (thn (ha.run pins s σ H _ I h) fun ov s2 ⟨x, H2, I2, rx, a, C, dx, fs, ex, ea, c, n, l, q2⟩ => ?_))
  subst ex
  obtain rfl : ov = Value.ref a := rx
  refine wpAny_bind (wpAny_standAt (wpAny_bind (wpAny_holding (setattr_ok I2 ea c n l r fun s3 I3 => ?_))))
  exact wpAny_release ⟨σ, _, I3, q2⟩
end
end Q9
end
-- QInit
section
set_option maxRecDepth 100000
set_option maxHeartbeats 4000000
namespace Q9
open PySem L2
/-- right parts are let by -/
def spCheckP (K : PySem.W.Frag) : Sp := fun vs H Q _ => ∃ (nm st : Str) (ex : V) (es : List Str), vs = [.str nm, .str st, ex] ∧ Row K H ex (es.map V.str) ∧ nameB nm = true ∧ nameB st = true ∧ (∀ z ∈ es, nameB z = true) ∧ es.Nodup ∧ es.length + 1 < scanBound ∧ ∀ H', Same H H' → Q .non H'
structure TCheckP (K : PySem.W.Frag) (mg : Str → Option Value) (fName fUn : Addr) : Prop where
  gN : mg "is_name" = some (.ref fName)
  kN : PySem.W.keepIn K (.ref fName) = true
  gU : mg "are_unlike_names" = some (.ref fUn)
  kU : PySem.W.keepIn K (.ref fUn) = true
structure TInit (K : PySem.W.Frag) (mg : Str → Option Value) (C fC fRd : Addr) : Prop where
  gC : mg "_check_parts" = some (.ref fC)
  kC : PySem.W.keepIn K (.ref fC) = true
  gR : mg "_read_moves" = some (.ref fRd)
  kR : PySem.W.keepIn K (.ref fRd) = true
  tup : mg "tuple" = none
  sorted : mg "sorted" = none
  cl : Cls K C
  nN : NoAttr K C "_name"
  nS : NoAttr K C "_start"
  nE : NoAttr K C "_ends"
  nSt : NoAttr K C "_states"
  nMe : NoAttr K C "_methods"
  nM : NoAttr K C "_moves"
abbrev initN : List Str := ["self", "name", "start", "ends", "moves"]
section
variable {P : Program} {w : World} {K : PySem.W.Frag} {mg : Str → Option Value} {base : Heap} {C CB fC fRd fName fUn fI : Addr}
theorem scCP : FnScope ["name", "start", "ends"] ["name", "start", "ends"] (defScope sCheckP) := ⟨rfl, rfl, rfl, by decide +kernel, rfl, by decide +kernel, by decide +kernel⟩
theorem ok_checkP {f : Addr} {fd dN dU dI : FuncData} (F : Fun K "_check_parts" "_check_parts" sCheckP f fd) (T : TCheckP K mg fName fUn) (TE : TErr K mg "BadKind" "part" CB fI)
    (GI : FnOk P w K mg base CX0 1 fI dI ["self", "part"] (spErrI CB "part")) (bI : Binds K dI ["self", "part"] [])
    (GN : FnOk P w K mg base CX0 2 fName dN ["thing"] (spForm K nameB)) (bN : Binds K dN ["thing"] []) (GU : FnOk P w K mg base CX0 3 fUn dU ["thing"] (spUnlike K nameB)) (bU : Binds K dU ["thing"] []) :
    FnOk P w K mg base (L2.CX P w) 4 f fd ["name", "start", "ends"] (spCheckP K) := by
  refine F.okX scCP (fun vs H Q E h => ?_) (fun cdv A outer s H vs Q E hr h => ?_)
  · obtain ⟨nm, st, ex, es, rfl, _⟩ := h
    rfl
  · obtain ⟨nm, st, ex, es, rfl, row, n1, n2, n3, un, few, q⟩ := h
    refine ⟨_, pss_cons (ps_if (pt_not (pt_val (pe_call GN (hr.mono (by decide)) (by rfl) T.gN T.kN bN .nil pass0 (pa_cons (pv 0) pa_nil)))) (pss_one (ps_raise rfl (takes_of rfl rfl rfl rfl) (pmk_oex TE.ox TE.iC TE.tI GI (hr.mono (by omega)) bI .nil pass0 (by rfl) TE.gC (pa_cons pe_str pa_nil)))) pss_nil)
      (pss_cons (ps_if (pt_not (pt_val (pe_call GN (hr.mono (by decide)) (by rfl) T.gN T.kN bN .nil pass0 (pa_cons (pv 1) pa_nil)))) (pss_one (ps_raise rfl (takes_of rfl rfl rfl rfl) (pmk_oex TE.ox TE.iC TE.tI GI (hr.mono (by omega)) bI .nil pass0 (by rfl) TE.gC (pa_cons pe_str pa_nil)))) pss_nil)
      (pss_one (ps_if (pt_not (pt_val (pe_call GU (hr.mono (by decide)) (by rfl) T.gU T.kU bU .nil pass0 (pa_cons (pv 2) pa_nil)))) (pss_one (ps_raise rfl (takes_of rfl rfl rfl rfl) (pmk_oex TE.ox TE.iC TE.tI GI (hr.mono (by omega)) bI .nil pass0 (by rfl) TE.gC (pa_cons pe_str pa_nil)))) pss_nil))), ?_⟩
    refine ⟨_, rfl, .str nm, rfl, .inl ⟨nm, rfl, name_len n1, fun H1 s1 => ⟨_, rfl, ?_⟩⟩⟩
    rw [n1]
    refine iteF ⟨_, rfl, .str st, rfl, .inl ⟨st, rfl, name_len n2, fun H2 s2 => ⟨_, rfl, ?_⟩⟩⟩
    rw [n2]
    have s12 : Same H H2 := fun b o z => s2 b o (s1 b o z)
    refine iteF ⟨_, rfl, ex, es, rfl, row_up s12 row, fun z hz => name_len (n3 z hz), few, fun H3 s3 => ⟨_, rfl, ?_⟩⟩
    have e : (es.all nameB && decide es.Nodup) = true := by rw [decide_eq_true un, Bool.and_true, List.all_eq_true]; exact n3
    rw [e]
    exact iteF (q H3 fun b o z => s3 b o (s12 b o z))
theorem butIns {H H' : Hp} {x dx C : Addr} {fs : List (Str × V)} (b : But x H H') (hx : H x = some (.ins C dx fs)) : SameSq H H' := by
  have ne : ∀ c o, H c = some o → o ≠ .ins C dx fs → c ≠ x := fun c o e n z => by
    rw [z, hx] at e
    exact n (Option.some.inj e).symm
  exact ⟨fun c xs e => b c _ (ne c _ e fun z => nomatch z) e, fun c xs e => b c _ (ne c _ e fun z => nomatch z) e, fun c o u e => b c _ (ne c _ e fun z => nomatch z) e⟩
theorem ownMv_sq {K : PySem.W.Frag} {H H' : Hp} (keep : ∀ t vs, H t = some (.tup vs) → H' t = some (.tup vs)) (s : SameSq H H') {kvs : List (List Key × V)} {mvs mv : Mv} (h : OwnMv K H kvs mvs mv) : OwnMv K H' kvs mvs mv :=
  ⟨h.nd, L2.Paired.mapP h.tups fun _ _ ⟨e, t, vs, e1, e2, p⟩ => ⟨e, t, vs, e1, keep _ _ e2, L2.Paired.mapP p fun _ _ ⟨q, e, g⟩ => ⟨q, e, sqT_up s g⟩⟩, h.eqm, h.outs, h.up, h.len⟩
theorem keys_nodup_of {K : PySem.W.Frag} {H : Hp} {kvs : List (List Key × V)} {mvs : Mv} (M : Moves K H kvs mvs) : (mvs.map (·.1)).Nodup := by
  have e : kvs.map (·.1) = mvs.map fun e => keyOf e.1 := by
    have key : ∀ {kvs : List (List Key × V)} {mvs : Mv}, Paired (EntT K H) kvs mvs → kvs.map (·.1) = mvs.map fun e => keyOf e.1 := by
      intro kvs mvs p
      induction p with
      | nil => rfl
      | @cons kv e a b h t ih => rw [List.map_cons, List.map_cons, ih, h.1]; rfl
    exact key M.ent
  have nd := M.nd
  rw [e] at nd
  refine List.pairwise_map.mpr (List.Pairwise.imp (fun {a b} ne e => ne ?_) (List.pairwise_map.mp nd))
  rw [e]
theorem putF_le {f : Str} {v : V} {fs : List (Str × V)} {n : Nat} (h : fs.length ≤ n) : (putF f v fs).length ≤ n + 1 := Nat.le_trans (length_putF f v fs) (Nat.succ_le_succ h)
theorem scK0 : FnScope initN kindPs (defScope (kMeth 0)) := ⟨rfl, rfl, rfl, by decide +kernel, rfl, by decide +kernel, by decide +kernel⟩
theorem ok_init {f : Addr} {fd dC dR : FuncData} (F : Fun K "__init__" "Kind.__init__" (kMeth 0) f fd) (T : TInit K mg C fC fRd) (G : FnOk P w K mg base (L2.CX P w) 4 fC dC ["name", "start", "ends"] (spCheckP K)) (b : Binds K dC ["name", "start", "ends"] [])
    (GR : FnOk P w K mg base (L2.CX P w) 5 fRd dR ["moves", "start", "ends"] (spRead CB K)) (bR : Binds K dR ["moves", "start", "ends"] []) :
    FnOk P w K mg base (L2.CX P w) 6 f fd kindPs (spKindI C CB K (KAc C K)) := by
  refine F.okX scK0 (fun vs H Q E h => ?_) (fun cdv A outer s H vs Q E hr h => ?_)
  · obtain ⟨x, dx, m, nm, st, ex, es, kvs, mv, rfl, _⟩ := h
    rfl
  · obtain ⟨x, dx, m, nm, st, ex, es, kvs, mv, rfl, hx, hd, he, hm, M, R, S, way⟩ := h
    refine ⟨_, pss_cons (ps_expr (pe_call G (hr.mono (by decide)) (by rfl) T.gC T.kC b .nil pass0X (pa_cons (pv 1) (pa_cons (pv 2) (pa_cons (pv 3) pa_nil)))))
      (pss_cons (ps_fld (pv 0) (pv 1) rfl)
      (pss_cons (ps_fld (pv 0) (pv 2) rfl)
      (pss_cons (ps_fld (pv 0) (pe_callTy cr_tupOf (by rfl) T.tup (by decide +kernel) (pa_cons (pe_callB cr_sortedRs (by rfl) T.sorted (by decide +kernel) (pa_cons (pv 3) pa_nil)) pa_nil)) rfl)
      (pss_one (ps_asg (pe_callS GR hr (by rfl) T.gR T.kR bR (fun σ => passAt (takes_of rfl rfl rfl rfl) σ) (pa_cons (pv 4) (pa_cons (pv 2) (pa_cons (pv 3) pa_nil))))
        (pg_tup rfl (pgs_cons (pg_fld (pv 0)) (pgs_cons (pg_fld (pv 0)) (pgs_cons (pg_fld (pv 0)) pgs_nil))))))))), ?_⟩
    have fewE : es.length + 1 < scanBound := by
      have h := S.states (es.map kInr) ((nodup_map_inr es).2 R.unlike) fun k hk => by
        obtain ⟨z, h1, h2⟩ := List.mem_map.mp hk
        exact List.mem_map.mpr ⟨z, mem_states.mpr (.inr (.inl h1)), h2⟩
      rwa [List.length_map] at h
    refine ⟨_, rfl, _, rfl, _, rfl, nm, st, ex, es, rfl, he, R.name, R.start, R.ends, R.unlike, fewE, fun H1 s1 => ?_⟩
    refine ⟨_, rfl, _, rfl, x, C, dx, _, rfl, s1 _ _ hx, T.cl, T.nN, by decide, ?_⟩
    refine ⟨_, rfl, _, rfl, x, C, dx, _, rfl, upd_same, T.cl, T.nS, Nat.lt_of_le_of_lt (putF_le (Nat.le_refl _)) (by decide), ?_⟩
    generalize hH2 : upd (upd H1 x _) x _ = H2
    have b2 : But x H H2 := by rw [← hH2]; exact fun b o ne z => by rw [upd_ne ne, upd_ne ne]; exact s1 b o z
    have hx2 : H2 x = some (.ins C dx (putF "_start" (.str st) (putF "_name" (.str nm) []))) := by rw [← hH2]; exact upd_same
    clear hH2
    refine ⟨_, rfl, ex, es, rfl, row_sq (butIns b2 hx) he, fun ys p pm up hp => ⟨p, _, rfl, .inl ⟨.of upd_same, fun l hl => ?_⟩⟩⟩
    have sp := same_upd (o := .lst (ys.map V.str)) hp
    have sl := same_upd (o := .tup (ys.map V.str)) hl
    have hx3 : upd (upd H2 p (.lst (ys.map V.str))) l (.tup (ys.map V.str)) x = some (.ins C dx (putF "_start" (.str st) (putF "_name" (.str nm) []))) := sl _ _ (sp _ _ hx2)
    refine ⟨_, rfl, x, C, dx, _, rfl, hx3, T.cl, T.nE, Nat.lt_of_le_of_lt (putF_le (putF_le (Nat.le_refl _))) (by decide), ?_⟩
    have nlx : l ≠ x := fun z => by rw [← z] at hx2; rw [sp _ _ hx2] at hl; cases hl
    generalize hH4 : upd (upd (upd H2 p (.lst (ys.map V.str))) l (.tup (ys.map V.str))) x _ = H4
    have b4 : But x H H4 := by rw [← hH4]; exact fun b o ne z => by rw [upd_ne ne]; exact sl _ _ (sp _ _ (b2 b o ne z))
    have hx4 : H4 x = some (.ins C dx (putF "_ends" (.ref l) (putF "_start" (.str st) (putF "_name" (.str nm) [])))) := by rw [← hH4]; exact upd_same
    have hl4 : H4 l = some (.tup (ys.map V.str)) := by rw [← hH4, upd_ne nlx]; exact upd_same
    clear hH4 hx3 sp sl hl hp
    have nmx : m ≠ x := fun z => by rw [z, hx] at hm; cases hm
    have sq4 := butIns b4 hx
    refine ⟨_, rfl, _, rfl, _, rfl, m, nm, st, ex, es, kvs, mv, rfl, row_sq sq4 he, b4 _ _ nmx hm, moves_up sq4 M, R, S, ?_⟩
    rcases way with ⟨ft, right⟩ | ⟨nf, wrong⟩
    · refine .inl ⟨ft, fun H5 t s5 me d ss ms kvs' mvs sm ht hs tS hme tM hd5 own => ?_⟩
      have hx5 := sm _ _ hx4
      have hl5 := sm _ _ hl4
      refine ⟨t, _, rfl, .of ht, rfl, _, _, rfl, ⟨_, rfl, x, C, dx, _, rfl, hx5, T.cl, T.nSt, Nat.lt_of_le_of_lt (putF_le (putF_le (putF_le (Nat.le_refl _)))) (by decide), _, _, rfl, ⟨_, rfl, x, C, dx, _, rfl, upd_same, T.cl, T.nMe, Nat.lt_of_le_of_lt (putF_le (putF_le (putF_le (putF_le (Nat.le_refl _))))) (by decide), _, _, rfl, ⟨_, rfl, x, C, dx, _, rfl, upd_same, T.cl, T.nM, Nat.lt_of_le_of_lt (putF_le (putF_le (putF_le (putF_le (putF_le (Nat.le_refl _)))))) (by decide), rfl, ?_⟩⟩⟩⟩
      have far : ∀ {b : Addr} {o : HO}, H5 b = some o → (∀ cx fs, o ≠ .ins C cx fs) → b ≠ x := fun {b o} h n z => by
        rw [z, hx5] at h
        exact n _ _ (Option.some.inj h).symm
      have keep : ∀ {b : Addr} {o : HO} (u1 u2 u3 : HO), H5 b = some o → (∀ cx fs, o ≠ .ins C cx fs) → upd (upd (upd H5 x u1) x u2) x u3 b = some o := fun {b o} u1 u2 u3 h n => by
        have ne := far h n
        rw [upd_ne ne, upd_ne ne, upd_ne ne]
        exact h
      refine right _ (fun b o ne z => by rw [upd_ne ne, upd_ne ne, upd_ne ne]; exact sm b o (b4 b o ne z)) ⟨⟨dx, l, s5, me, d, ys, ss, ms, kvs', mvs, upd_same, keep _ _ _ hl5 (fun _ _ z => nomatch z), pm, up, keep _ _ _ hs (fun _ _ z => nomatch z), tS, keep _ _ _ hme (fun _ _ z => nomatch z), tM, keep _ _ _ hd5 (fun _ _ z => nomatch z), ?_⟩, S, ft, keys_nodup_of M⟩
      have b5 : ∀ u1 u2 u3 : HO, But x H5 (upd (upd (upd H5 x u1) x u2) x u3) := fun u1 u2 u3 b o ne z => by rw [upd_ne ne, upd_ne ne, upd_ne ne]; exact z
      exact ownMv_sq (fun t vs h => keep _ _ _ h (fun _ _ z => nomatch z)) (butIns (b5 _ _ _) hx5) own
    · refine .inr ⟨nf, fun H5 d sm hn at_ => ?_⟩
      refine wrong H5 d (fun b o ne z => sm b o (b4 b o ne z)) ?_ at_
      cases h : H d with
      | none => rfl
      | some o =>
        by_cases c : d = x
        · rw [c, hx4] at hn; cases hn
        · rw [b4 _ _ c h] at hn; cases hn
end
end Q9
end
-- QKM
section
set_option maxRecDepth 100000
set_option maxHeartbeats 4000000
namespace Q9
open PySem L2
theorem outsOf_at {mv : Mv} (nd : (mv.map (·.1)).Nodup) {e : (Str × Str) × List (Str × Str)} (h : e ∈ mv) : outsOf mv e.1 = e.2 := by
  induction mv with
  | nil => cases h
  | cons x mv ih =>
    rw [List.map_cons] at nd
    obtain ⟨n1, n2⟩ := List.nodup_cons.mp nd
    rcases List.mem_cons.mp h with z | z
    · rw [z]
      unfold outsOf
      rw [List.find?_cons_of_pos (by simp)]
      rfl
    · have ne : ¬ x.1 = e.1 := fun c => n1 (c ▸ List.mem_map.mpr ⟨e, z, rfl⟩)
      have e1 : outsOf (x :: mv) e.1 = outsOf mv e.1 := by
        unfold outsOf
        rw [List.find?_cons_of_neg (by simpa using ne)]
      rw [e1]
      exact ih n2 z
theorem outsOf_mem {mv : Mv} {k : Str × Str} {o : Str × Str} (h : o ∈ outsOf mv k) : ∃ e ∈ mv, e.1 = k ∧ o ∈ e.2 := by
  unfold outsOf at h
  cases c : mv.find? fun e => decide (e.1 = k) with
  | none =>
    rw [c] at h
    cases h
  | some e =>
    rw [c] at h
    exact ⟨e, List.mem_of_find?_eq_some c, by simpa using List.find?_some c, h⟩
structure TKM (K : PySem.W.Frag) (mg : Str → Option Value) (C fKey : Addr) : Prop where
  cl : Cls K C
  lst : mg "list" = none
  sorted : mg "sorted" = none
  nS : NoAttr K C "_start"
  nE : NoAttr K C "_ends"
  nSt : NoAttr K C "_states"
  nMe : NoAttr K C "_methods"
  nM : NoAttr K C "_moves"
  gKey : mg "_is_key" = some (.ref fKey)
  kKey : PySem.W.keepIn K (.ref fKey) = true
section
variable {P : Program} {w : World} {K : PySem.W.Frag} {mg : Str → Option Value} {base : Heap} {C fKey : Addr}
theorem scK2 : FnScope ["self"] ["self"] (defScope (kMeth 2)) := ⟨rfl, rfl, rfl, by decide +kernel, rfl, by decide +kernel, by decide +kernel⟩
theorem ok_startM {f : Addr} {fd : FuncData} (F : Fun K "start" "Kind.start" (kMeth 2) f fd) (T : TKM K mg C fKey) : FnOk P w K mg base CX0 1 f fd ["self"] (spStart (KAc C K)) := by
  refine F.ok scK2 (fun vs H Q E h => ?_) (fun cdv A outer s H vs Q E hr h => ?_)
  · obtain ⟨x, nm, st, es, mv, rfl, _⟩ := h
    rfl
  · obtain ⟨x, nm, st, es, mv, rfl, ⟨⟨dx, e, s1, me, m, ys, ss, ms, kvs, mvs, h1, _⟩, _, _, _⟩, q⟩ := h
    exact ⟨_, pss_one (ps_ret (pe_fld (pv 0) rfl)), _, rfl, x, C, dx, _, _, rfl, h1, T.cl, T.nS, (kf_all nm st e s1 me m).2.2.1, q⟩
theorem scK3 : FnScope ["self"] ["self"] (defScope (kMeth 3)) := ⟨rfl, rfl, rfl, by decide +kernel, rfl, by decide +kernel, by decide +kernel⟩
theorem ok_endsM {f : Addr} {fd : FuncData} (F : Fun K "ends" "Kind.ends" (kMeth 3) f fd) (T : TKM K mg C fKey) : FnOk P w K mg base CX0 1 f fd ["self"] (spEnds (KAc C K)) := by
  refine F.ok scK3 (fun vs H Q E h => ?_) (fun cdv A outer s H vs Q E hr h => ?_)
  · obtain ⟨x, nm, st, es, mv, rfl, _⟩ := h
    rfl
  · obtain ⟨x, nm, st, es, mv, rfl, ⟨⟨dx, e, s1, me, m, ys, ss, ms, kvs, mvs, h1, h2, h3, h4, _⟩, _, _, _⟩, q⟩ := h
    exact ⟨_, pss_one (ps_ret (pe_fld (pv 0) rfl)), _, rfl, x, C, dx, _, _, rfl, h1, T.cl, T.nE, (kf_all nm st e s1 me m).2.1, q e ys h3 h4 h2⟩
theorem scK4 : FnScope ["self"] ["self"] (defScope (kMeth 4)) := ⟨rfl, rfl, rfl, by decide +kernel, rfl, by decide +kernel, by decide +kernel⟩
theorem ok_statesM {f : Addr} {fd : FuncData} (F : Fun K "states" "Kind.states" (kMeth 4) f fd) (T : TKM K mg C fKey) : FnOk P w K mg base CX0 1 f fd ["self"] (spNew (KAc C K) statesIn) := by
  refine F.ok scK4 (fun vs H Q E h => ?_) (fun cdv A outer s H vs Q E hr h => ?_)
  · obtain ⟨x, nm, st, es, mv, rfl, _⟩ := h
    rfl
  · obtain ⟨x, nm, st, es, mv, rfl, ⟨⟨dx, e, s1, me, m, ys, ss, ms, kvs, mvs, h1, h2, h3, h4, h5, t5, h6, t6, h7, O⟩, _, _, _⟩, q⟩ := h
    refine ⟨_, pss_one (ps_ret (pe_callTy cr_listRow (by rfl) T.lst (by decide +kernel) (pa_cons (pe_fld (pv 0) rfl) pa_nil))), ?_⟩
    exact ⟨_, rfl, x, C, dx, _, _, rfl, h1, T.cl, T.nSt, (kf_all nm st e s1 me m).2.2.2.2.1, _, _, rfl, ⟨s1, rfl, .inl (.of h5)⟩, fun l hl => q _ l ss (same_upd hl) t5 upd_same⟩
theorem scK5 : FnScope ["self"] ["self"] (defScope (kMeth 5)) := ⟨rfl, rfl, rfl, by decide +kernel, rfl, by decide +kernel, by decide +kernel⟩
theorem ok_methodsM {f : Addr} {fd : FuncData} (F : Fun K "methods" "Kind.methods" (kMeth 5) f fd) (T : TKM K mg C fKey) : FnOk P w K mg base CX0 1 f fd ["self"] (spNew (KAc C K) fun _ _ mv => methodsIn mv) := by
  refine F.ok scK5 (fun vs H Q E h => ?_) (fun cdv A outer s H vs Q E hr h => ?_)
  · obtain ⟨x, nm, st, es, mv, rfl, _⟩ := h
    rfl
  · obtain ⟨x, nm, st, es, mv, rfl, ⟨⟨dx, e, s1, me, m, ys, ss, ms, kvs, mvs, h1, h2, h3, h4, h5, t5, h6, t6, h7, O⟩, _, _, _⟩, q⟩ := h
    refine ⟨_, pss_one (ps_ret (pe_callTy cr_listRow (by rfl) T.lst (by decide +kernel) (pa_cons (pe_fld (pv 0) rfl) pa_nil))), ?_⟩
    exact ⟨_, rfl, x, C, dx, _, _, rfl, h1, T.cl, T.nMe, (kf_all nm st e s1 me m).2.2.2.2.2.1, _, _, rfl, ⟨me, rfl, .inl (.of h6)⟩, fun l hl => q _ l ms (same_upd hl) t6 upd_same⟩
theorem key_in {K : PySem.W.Frag} {H : Hp} {kvs : List (List Key × V)} {mvs : Mv} (M : Moves K H kvs mvs) (a b : Str) : (valV kvs [kInr a, kInr b]).isSome = decide ((a, b) ∈ mvs.map (·.1)) := by
  have e := ent_any M.ent a b
  rw [Bool.eq_iff_iff, decide_eq_true_iff]
  have h1 : (valV kvs [kInr a, kInr b]).isSome = kvs.any fun kv => decide (kv.1 = [kInr a, kInr b]) := by
    unfold valV
    rw [Option.isSome_map, List.isSome_find?]
  rw [h1, e, List.any_eq_true]
  constructor
  · rintro ⟨x, g1, g2⟩
    exact List.mem_map.mpr ⟨x, g1, of_decide_eq_true g2⟩
  · intro h
    obtain ⟨x, g1, g2⟩ := List.mem_map.mp h
    exact ⟨x, g1, decide_eq_true g2⟩
theorem scK9 : FnScope ["self", "x"] ["self", "x"] (defScope (kMeth 9)) := ⟨rfl, rfl, rfl, by decide +kernel, rfl, by decide +kernel, by decide +kernel⟩
def spCont (KA : KAt) : Sp := fun vs H Q _ => ∃ (x q : Addr) (s m : Str) (nm st : Str) (es : List Str) (mv : Mv), vs = [.ref x, .ref q] ∧ KA H x nm st es mv ∧ H q = some (.tup [.str s, .str m]) ∧
  ∀ H', Same H H' → Q (.bl (decide ((s, m) ∈ mv.map (·.1)))) H'
theorem ok_contM {f : Addr} {fd dK : FuncData} (F : Fun K "__contains__" "Kind.__contains__" (kMeth 9) f fd) (T : TKM K mg C fKey) (G : FnOk P w K mg base CX0 1 fKey dK ["thing"] (spIsKey K)) (b : Binds K dK ["thing"] []) :
    FnOk P w K mg base CX0 2 f fd ["self", "x"] (spCont (KAc C K)) := by
  refine F.ok scK9 (fun vs H Q E h => ?_) (fun cdv A outer s H vs Q E hr h => ?_)
  · obtain ⟨x, q, s, m, nm, st, es, mv, rfl, _⟩ := h
    rfl
  · obtain ⟨x, qa, s0, me0, nm, st, es, mv, rfl, ⟨⟨dx, e, s1, me, m, ys, ss, ms, kvs, mvs, h1, h2, h3, h4, h5, t5, h6, t6, h7, O⟩, _, _, _⟩, hq, q⟩ := h
    have hu := hu_of hr
    refine ⟨_, pss_one (ps_ret (pe_and (pe_call G hr (by rfl) T.gKey T.kKey b .nil pass0 (pa_cons (pv 1) pa_nil)) (pe_one (pe_cmp (pc_din hu (pv 1) (pe_fld (pv 0) rfl)))))), ?_⟩
    refine ⟨_, rfl, .ref qa, rfl, .inr (.inr ⟨qa, _, _, true, true, rfl, .of hq, txt_yes _, txt_yes _, true, rfl, iteT ?_⟩)⟩
    refine ⟨_, rfl, _, rfl, x, C, dx, _, _, rfl, h1, T.cl, T.nM, (kf_all nm st e s1 me m).1, m, _, rfl, DGet.t (k := [kInr s0, kInr me0]) h7 hq, ?_⟩
    have e1 : decide ((s0, me0) ∈ mvs.map (·.1)) = decide ((s0, me0) ∈ mv.map (·.1)) := decide_eq_decide.mpr (O.eqm.keys _)
    rw [key_in O.moves, e1]
    exact q H (Same.refl H)
theorem scK8 : FnScope ["self", "at"] ["self", "at"] (defScope (kMeth 8)) := ⟨rfl, rfl, rfl, by decide +kernel, rfl, by decide +kernel, by decide +kernel⟩
theorem ok_item2 {f : Addr} {fd dK : FuncData} (F : Fun K "__getitem__" "Kind.__getitem__" (kMeth 8) f fd) (T : TKM K mg C fKey) (G : FnOk P w K mg base CX0 1 fKey dK ["thing"] (spIsKey K)) (b : Binds K dK ["thing"] []) :
    FnOk P w K mg base CX0 2 f fd ["self", "at"] (spItem2 K (KAc C K)) := by
  refine F.ok scK8 (fun vs H Q E h => ?_) (fun cdv A outer s H vs Q E hr h => ?_)
  · obtain ⟨x, q, s, m, nm, st, es, mv, rfl, _⟩ := h
    rfl
  · obtain ⟨x, qa, s0, me0, nm, st, es, mv, rfl, ⟨⟨dx, e, s1, me, m, ys, ss, ms, kvs, mvs, h1, h2, h3, h4, h5, t5, h6, t6, h7, O⟩, _, _, nd⟩, hq, q0, q⟩ := h
    have hu := hu_of hr
    refine ⟨_, pss_cons (ps_if (pt_val (pe_call G hr (by rfl) T.gKey T.kKey b .nil pass0 (pa_cons (pv 1) pa_nil))) (pss_one (ps_ret (pe_dget1 hu (pe_fld (pv 0) rfl) (pv 1) ⟨rfl, rfl, rfl, rfl⟩))) pss_nil) (pss_one (ps_ret pe_non)), ?_⟩
    refine ⟨_, rfl, .ref qa, rfl, .inr (.inr ⟨qa, _, _, true, true, rfl, .of hq, txt_yes _, txt_yes _, true, rfl, iteT ?_⟩)⟩
    refine ⟨_, rfl, x, C, dx, _, _, rfl, h1, T.cl, T.nM, (kf_all nm st e s1 me m).1, m, rfl, .inr ⟨kvs, .inl h7⟩, _, rfl, _, DGet.t (k := [kInr s0, kInr me0]) h7 hq, ?_⟩
    by_cases inn : (s0, me0) ∈ mv.map (·.1)
    · obtain ⟨en0, mem0, e0⟩ := List.mem_map.mp inn
      obtain ⟨k00, os⟩ := en0
      simp only at e0
      subst e0
      obtain ⟨os', mem', pm⟩ := O.outs _ _ mem0
      obtain ⟨j, hj⟩ := List.mem_iff_getElem?.mp mem'
      have jl : j < kvs.length := by rw [PySem.Paired.length O.tups]; exact (List.getElem?_eq_some_iff.mp hj).1
      obtain ⟨en, e1, ek, t, vs, e2, e3, each⟩ := paired_at O.tups j _ (List.getElem?_eq_getElem jl)
      rw [hj] at e1
      cases e1
      have hval : valV kvs [kInr s0, kInr me0] = some (.ref t) := val_at O.nd (i := j) (by rw [List.getElem?_eq_getElem jl]; exact congrArg some (Prod.ext ek e2))
      rw [hval]
      obtain ⟨ps, e5, e6, e7⟩ := outs_ps2 each
      subst e5
      have e6' : ps.map (·.2) = os' := e6
      exact q os mem0 H t ps (Same.refl H) e3 e7 (by rw [e6']; exact pm) (by rw [e6']; exact O.up _ mem')
    · have hn : valV kvs [kInr s0, kInr me0] = none := by
        have h := key_in O.moves s0 me0
        rw [decide_eq_false (fun z => inn ((O.eqm.keys _).1 z))] at h
        exact Option.not_isSome_iff_eq_none.mp (by rw [h]; exact Bool.false_ne_true)
      rw [hn]
      exact q0 inn H (Same.refl H)
theorem ok_itemM {f : Addr} {fd dK : FuncData} (F : Fun K "__getitem__" "Kind.__getitem__" (kMeth 8) f fd) (T : TKM K mg C fKey) (G : FnOk P w K mg base CX0 1 fKey dK ["thing"] (spIsKey K)) (b : Binds K dK ["thing"] []) :
    FnOk P w K mg base CX0 2 f fd ["self", "at"] (spItem K (KAc C K)) := by
  refine (ok_item2 (P := P) (w := w) (base := base) F T G b).imp ?_
  rintro vs H Q E ⟨x, q, s, m, nm, st, es, mv, os, rfl, ka, hq, mem, k⟩
  refine ⟨x, q, s, m, nm, st, es, mv, rfl, ka, hq, fun n => (n (List.mem_map.mpr ⟨_, mem, rfl⟩)).elim, fun os' mem' H' t ps sm ht hps pm up => k H' t ps sm ht hps ?_ up⟩
  have e1 : outsOf mv (s, m) = os := outsOf_at ka.nd mem
  have e2 : outsOf mv (s, m) = os' := outsOf_at ka.nd mem'
  rw [← e1, e2]
  exact pm
theorem scK6 : FnScope ["self", "key"] ["self"] (defScope (kMeth 6)) := ⟨rfl, rfl, rfl, by decide +kernel, rfl, by decide +kernel, by decide +kernel⟩
theorem ok_movesM {f : Addr} {fd : FuncData} (F : Fun K "moves" "Kind.moves" (kMeth 6) f fd) (T : TKM K mg C fKey) : FnOk P w K mg base CX0 1 f fd ["self"] (spMovesD K (KAc C K)) := by
  refine F.ok scK6 (fun vs H Q E h => ?_) (fun cdv A outer s H vs Q E hr h => ?_)
  · obtain ⟨x, nm, st, es, mv, rfl, _⟩ := h
    rfl
  · obtain ⟨x, nm, st, es, mv, rfl, ⟨⟨dx, e, s1, me, m, ys, ss, ms, kvs, mvs, h1, h2, h3, h4, h5, t5, h6, t6, h7, O⟩, sm, ft, nd⟩, q⟩ := h
    have hu := hu_of hr
    refine ⟨_, pss_one (ps_ret (pe_dcT (tk := tVar 1) (tv := tDGet (tFld K (tVar 0) "_moves") (tVar 1)) (tt := tYes) (own := [("key", 1)]) (g := gName 1) (Nat.lt_of_succ_lt hu) rfl scK6.nd (pi_list (pe_callB (cr_sortedDT rfl) (by rfl) T.sorted (by decide +kernel) (pa_cons (pe_fld (pv 0) rfl) pa_nil))) (blkOk_by (own := [("key", 1)]) (N := ["self", "key"]) (sc := defScope (kMeth 6)) (by decide +kernel))
      (fun _ _ _ _ _ => pg_name (i := 1) scK6.nd rfl (.inl rfl)) (fun _ _ _ _ _ => pts_nil) (fun _ _ _ _ _ => pv 1) (fun _ _ _ _ _ => pe_dget hu (pe_fld (pv 0) rfl) (pv 1) (fun _ _ => rfl)))), ?_⟩
    have l1 := (kf_all nm st e s1 me m).1
    have ek : kvs.map (·.1) = (mvs.map (·.1)).map (fun p => [.inr p.1, .inr p.2]) := by
      have key : ∀ {kvs : List (List Key × V)} {mvs : Mv}, Paired (EntT K H) kvs mvs → kvs.map (·.1) = (mvs.map (·.1)).map (fun p => [.inr p.1, .inr p.2]) := by
        intro kvs mvs p
        induction p with
        | nil => rfl
        | @cons kv e a b h t ih => rw [List.map_cons, List.map_cons, List.map_cons, ih, h.1]
      exact key O.moves.ent
    refine ⟨_, rfl, x, C, dx, _, _, rfl, h1, T.cl, T.nM, l1, m, kvs, mvs.map (·.1), rfl, .inl h7, ek, fun qs p pm up hq hp => ⟨p, rfl, ⟨_, .of upd_same⟩, fun D hD => ?_⟩⟩
    have sp := same_upd (o := .lst ((qs.map (·.1)).map V.ref)) hp
    have lq : qs.length = mv.length := by
      have := pm.length_eq
      rw [List.length_map, List.length_map, O.len] at this
      exact this
    have lm : mv.length ≤ 1000000 := by
      have := lens_states st es mv
      have := sm.len
      omega
    have ndq : (qs.map (·.2)).Nodup := pm.nodup_iff.mpr (keys_nodup_of O.moves)
    refine coll_it (walk_list (xs := (qs.map (·.1)).map V.ref)) (fun i H' => Same (upd H p (.lst ((qs.map (·.1)).map V.ref))) H' ∧ ∃ kvs' : List (List Key × V), H' D = some (.dT kvs') ∧ kvs'.map (·.1) = ((qs.take i).map (·.2)).map keyOf) ⟨same_upd hD, [], upd_same, rfl⟩ (fun i H' _ h => .of (h.1 _ _ upd_same)) ?_ ?_
    · rintro i y H1 H2 hi ⟨s2, kvs', hd, ekeys⟩ ⟨rfl, hy⟩
      rw [List.getElem?_map, List.getElem?_map] at hy
      obtain ⟨a0, h8, rfl⟩ := Option.map_eq_some_iff.mp hy
      obtain ⟨x0, h9, rfl⟩ := Option.map_eq_some_iff.mp h8
      have x0m := List.mem_of_getElem? h9
      have hx0 := hq x0 x0m
      have inn : x0.2 ∈ mvs.map (·.1) := pm.mem_iff.mp (List.mem_map.mpr ⟨x0, x0m, rfl⟩)
      have isS := key_in O.moves x0.2.1 x0.2.2
      rw [decide_eq_true inn] at isS
      obtain ⟨v, hv⟩ := Option.isSome_iff_exists.mp isS
      have sAll : Same H H2 := fun b o z => s2 b o (sp b o z)
      refine ⟨rfl, _, rfl, _, rfl, x, C, dx, _, _, rfl, sAll _ _ h1, T.cl, T.nM, l1, _, rfl, m, v, rfl, .inr ⟨kvs, [kInr x0.2.1, kInr x0.2.2], x0.1, .inl (sAll _ _ h7), rfl, sAll _ _ hx0, hv.symm⟩, ?_⟩
      have nk : valV kvs' [kInr x0.2.1, kInr x0.2.2] = none := by
        cases c : valV kvs' [kInr x0.2.1, kInr x0.2.2] with
        | none => rfl
        | some u =>
          unfold valV at c
          obtain ⟨kv, g1, g2⟩ := Option.map_eq_some_iff.mp c
          have g3 := List.mem_of_find?_eq_some g1
          have g4 : kv.1 = [kInr x0.2.1, kInr x0.2.2] := by simpa using List.find?_some g1
          have g4 : kv.1 = keyOf x0.2 := g4
          have g5 : keyOf x0.2 ∈ ((qs.take i).map (·.2)).map keyOf := by rw [← ekeys, ← g4]; exact List.mem_map.mpr ⟨kv, g3, rfl⟩
          obtain ⟨k1, g6, g7⟩ := List.mem_map.mp g5
          have g8 := keyOf_inj g7
          subst g8
          have nd1 : ((qs.take (i + 1)).map (·.2)).Nodup := by rw [List.map_take]; exact List.Sublist.nodup (List.take_sublist _ _) ndq
          rw [take_one_more h9, List.map_append, List.nodup_append] at nd1
          exact (nd1.2.2 _ g6 _ (List.mem_singleton.mpr rfl) rfl).elim
      have lk : kvs'.length ≤ 1000000 := by
        have h := congrArg List.length ekeys
        rw [List.length_map, List.length_map, List.length_map, List.length_take] at h
        omega
      refine ⟨x0.1, [kInr x0.2.1, kInr x0.2.2], kvs', rfl, sAll _ _ hx0, hd, ln6 _ lk, fun b o z => ?_, _, upd_same, ?_⟩
      · rw [upd_ne (ne_of_none z hD)]
        exact s2 b o z
      · rw [putK_new _ nk, List.map_append, ekeys, take_one_more h9, List.map_append, List.map_append]
        rfl
    · rintro H1 ⟨s2, kvs', hd, ekeys⟩
      rw [List.length_map, List.length_map, List.take_length] at ekeys
      have h := congrArg List.length ekeys
      rw [List.length_map, List.length_map, List.length_map] at h
      exact q H1 D kvs' (fun b o z => s2 b o (sp b o z)) hd (h.trans lq)
end
end Q9
end
-- QEnumT
section
set_option maxRecDepth 100000
set_option maxHeartbeats 4000000
/-! enumerate(t), t a tuple -/
namespace PySem
open Sem (wp)
section
variable {prog : Program} {w : World} {A : Around} {E : Value → Shared → Prop} {s : Shared}
theorem q9_nextOf_tup {it t : Addr} {i : Nat} {its : Array Value} {x : Value} {Q : Value → Shared → Prop} (atI : s.heap.IsTupleIter it t i) (atT : s.heap.IsTuple t its) (hx : its[i]? = some x)
    (go : ∀ h', h'.IsTupleIter it t (i + 1) → Heap.SameBut it s.heap h' → Q x { s with heap := h' }) : wpAny (model prog w) A (Builtin.SmallTypes.nextOf (.ref it)) Q E s := by
  obtain ⟨ob, lo, lc, ld⟩ := id atI
  obtain ⟨ot, to, _, nt, td⟩ := atT
  unfold Builtin.SmallTypes.nextOf
  refine wpAny_bind (wpAny_callSpecial?_slot (name := Str.ofString "__next__") atI.typeIs F.slot_tuple_iterator_next (wpAny_call_entry F.slot_tuple_iterator_next atI.typeIs F.entry_tuple_iterator_next ?_ (F.args_tuple_iterator_next_1 _)))
  show wpAny _ _ (field (.ref it) 0 >>= _) _ _ s
  refine wpAny_bind (wpAny_field lo ld (x := .ref t) rfl ?_)
  show wpAny _ _ (if (Value.ref t == Value.none) = true then _ else _) _ _ s
  rw [if_neg (show ¬ ((Value.ref t == Value.none) = true) from Bool.false_ne_true)]
  show wpAny _ _ (field (.ref it) 1 >>= _) _ _ s
  refine wpAny_bind (wpAny_field lo ld (x := .int i 0) rfl ?_)
  show wpAny _ _ (seqItems? (.ref t) >>= _) _ _ s
  refine wpAny_bind (wpAny_seqItems to td ?_)
  simp only [Int.toNat_natCast, hx]
  refine wpAny_bind (wpAny_setField lo ld (by simp) (wpAny_pure ⟨x, rfl, wpAny_pure (go _ ?_ (Heap.SameBut.update ..))⟩))
  exact ⟨_, Heap.get?_update_self _ lo (Obj.isFreed_of_fields (Obj.data_mapFields ld _)), (Obj.cls_mapFields ..).trans lc, by rw [Obj.data_mapFields ld]; simp [rawInt]⟩
theorem q9_nextOf_tupEnd {it t : Addr} {i : Nat} {its : Array Value} {Q : Value → Shared → Prop} (calm : A.handled = none) (atI : s.heap.IsTupleIter it t i) (atT : s.heap.IsTuple t its) (hx : its[i]? = none)
    (out : ∀ h' e, Heap.ExtBut it s.heap h' → (∃ o, h'.get? e = some o ∧ o.cls = .type "StopIteration") → E (.ref e) { s with heap := h' }) : wpAny (model prog w) A (Builtin.SmallTypes.nextOf (.ref it)) Q E s := by
  obtain ⟨ob, lo, lc, ld⟩ := id atI
  obtain ⟨ot, to, _, nt, td⟩ := atT
  unfold Builtin.SmallTypes.nextOf
  refine wpAny_bind (wpAny_callSpecial?_slot (name := Str.ofString "__next__") atI.typeIs F.slot_tuple_iterator_next (wpAny_call_entry F.slot_tuple_iterator_next atI.typeIs F.entry_tuple_iterator_next ?_ (F.args_tuple_iterator_next_1 _)))
  show wpAny _ _ (field (.ref it) 0 >>= _) _ _ s
  refine wpAny_bind (wpAny_field lo ld (x := .ref t) rfl ?_)
  show wpAny _ _ (if (Value.ref t == Value.none) = true then _ else _) _ _ s
  rw [if_neg (show ¬ ((Value.ref t == Value.none) = true) from Bool.false_ne_true)]
  show wpAny _ _ (field (.ref it) 1 >>= _) _ _ s
  refine wpAny_bind (wpAny_field lo ld (x := .int i 0) rfl ?_)
  show wpAny _ _ (seqItems? (.ref t) >>= _) _ _ s
  refine wpAny_bind (wpAny_seqItems to td ?_)
  simp only [Int.toNat_natCast, hx]
  refine wpAny_bind (wpAny_rule (wpAny_bind (wpAny_setField lo ld (by simp) ?_)))
  show wpAny _ _ (newExc (.type "StopIteration") [] >>= _) _ _ _
  refine wpAny_bind ?_
  simp only [newExc, newTuple]
  refine wpAny_bind (wpAny_newObj_type ?_ (by size_fits))
  refine wpAny_bind (m := firstArgMember _ _) (wpAny_of_eq (a := Value.none) (by first | rfl | (simp only [firstArgMember]; rfl)) ?_)
  refine wpAny_newObj_type ?_ (by size_fits)
  simp only [raiseNew]
  refine wpAny_bind (wpAny_handled ?_)
  first | rw [show A.in1.handled = none from calm] | rw [calm]
  refine wpAny_bind (wpAny_pure (wpAny_throw ?_))
  exact out _ _ (((Heap.SameBut.update ..).extBut.push _).push _) ⟨_, Heap.get?_push_size _ rfl, rfl⟩
end
theorem q9_draws_tup {prog : Program} {w : World} {A : Around} (calm : A.handled = none) (it t : Addr) (ne : t ≠ it) (its : Array Value) :
    Draws prog w A it [it, t] its.size (fun i v => its[i]? = some v) (fun i h => h.IsTupleIter it t i ∧ h.IsTuple t its) where
  live := fun _ _ z => let ⟨o, e, _⟩ := z.1; ⟨o, e⟩
  frame := fun _ _ _ z k => ⟨z.1.at fun o e => k it (by simp) o e, let ⟨o, e, r⟩ := z.2; ⟨o, k t (by simp) o e, r⟩⟩
  item := fun i s Q E lt z go => by
    refine q9_nextOf_tup z.1 z.2 (x := its[i]) (by simp [lt]) fun h' a b => ?_
    exact go _ h' s.toks (by simp [lt]) ⟨a, z.2.extBut b.extBut ne⟩ b
  done := fun s Q E z out => q9_nextOf_tupEnd calm z.1 z.2 (by simp) out
theorem q9_enum_newT (l : Addr) (its : Array Value) (n : Nat) (dct : Option Addr) (sl : Array (Option Value)) :
    Meets (Builtin.«enumerate.__new__» ⟨[.type "enumerate", .ref l], []⟩) (fun _ R s => s.heap.get? l = some { cls := .type "tuple", dict := dct, data := .seq its n, slots := sl } ∧
      R (.ok (.ret (.ref (s.heap.push { cls := .type "tuple_iterator", data := .fields #[.ref l, .int 0 0] }).objs.size)))
        { s with heap := (s.heap.push { cls := .type "tuple_iterator", data := .fields #[.ref l, .int 0 0] }).push { cls := .type "enumerate", data := .fields #[.none, .bool false, .ref s.heap.objs.size, rawInt 0, .none, .none] } }) :=
  .of_wp fun prog w A R s h => by
    obtain ⟨hp, g, d, tk, os⟩ := s
    obtain ⟨hl, h⟩ := h
    have hsub := sub_enumerate
    have hT : Heap.IsTuple (Shared.heap ⟨hp, g, d, tk, os⟩) l its := ⟨_, hl, rfl, n, rfl⟩
    wp_walk using AutoSeq1.wpAny_loadPart' hl
    refine wpAny_stack_any fun st => wpAny_pure ?_
    split
    · rename_i c _ _ _ _ _
      cases (c == Value.type "enumerate")
      · wp_walk using AutoSeq1.wpAny_loadPart' hl, wpAny_pyIter_tuple hT
        exact ⟨_, rfl, h⟩
      · wp_walk using AutoSeq1.wpAny_loadPart' hl, wpAny_pyIter_tuple hT
        exact ⟨_, rfl, h⟩
    · wp_walk using AutoSeq1.wpAny_loadPart' hl, wpAny_pyIter_tuple hT
      exact ⟨_, rfl, h⟩
theorem q9_call_enumT {prog : Program} {w : World} {A : Around} {E : Value → Shared → Prop} {s : Shared} {l : Addr} {its : Array Value} {Q : Value → Shared → Prop} (hL : s.heap.IsTuple l its)
    (go : ∀ h', IsEnum h' (s.heap.objs.size + 1) s.heap.objs.size 0 .none → h'.IsTupleIter s.heap.objs.size l 0 → h'.objs.size = s.heap.objs.size + 2 → (∀ b o, s.heap.get? b = some o → h'.get? b = some o) → Q (.ref (s.heap.objs.size + 1)) { s with heap := h' }) :
    wpAny (model prog w) A (call (.type "enumerate") [.ref l]) Q E s := by
  obtain ⟨⟨c, dct, dt, sl⟩, hl, hc, n, hd⟩ := hL
  replace hc : c = .type "tuple" := hc
  replace hd : dt = .seq its n := hd
  subst hc hd
  refine callType_new F.called_enumerate (by decide) (F.typeCall_enumerate_1 _) (F.newCall_enumerate_1 _) (fun obj => F.args_object_init_2 obj _) F.entry_enumerate_new (q9_enum_newT l its n dct sl) ⟨hl, ?_⟩
  have hz : (s.heap.push { cls := .type "tuple_iterator", data := .fields #[.ref l, .int 0 0] }).objs.size = s.heap.objs.size + 1 := Heap.size_push ..
  show _ ∧ _
  rw [hz]
  have he : IsEnum ((s.heap.push { cls := .type "tuple_iterator", data := .fields #[.ref l, .int 0 0] }).push
      { cls := .type "enumerate", data := .fields #[.none, .bool false, .ref s.heap.objs.size, rawInt 0, .none, .none] }) (s.heap.objs.size + 1) s.heap.objs.size 0 .none := by
    have := Heap.get?_push_size (s.heap.push { cls := .type "tuple_iterator", data := .fields #[.ref l, .int 0 0] }) (o := { cls := .type "enumerate", data := .fields #[.none, .bool false, .ref s.heap.objs.size, rawInt 0, .none, .none] }) rfl
    rw [hz] at this
    exact this
  refine ⟨⟨_, he, rfl⟩, go _ he ⟨_, Heap.get?_push_of_some _ (Heap.get?_push_size _ rfl), rfl, rfl⟩ (by rw [Heap.size_push, hz]) fun b o x => Heap.get?_push_of_some _ (Heap.get?_push_of_some _ x)⟩
end PySem
namespace Q9
open PySem PySem.Spec PyProof.Rows L2
/-- the tuple at a as it stands at each turn, each item in a new pair -/
def IteT (K : PySem.W.Frag) (a : Addr) : It :=
  ⟨fun i H => ∃ (xs : List V) (x : V), SqT K H a xs ∧ xs[i]? = some x, fun i H v H' => ∃ (T : Addr) (x : V), v = .ref T ∧ H T = none ∧ H' = upd H T (.tup [.int (i : Nat), x]) ∧ ∀ xs, SqT K H a xs → xs[i]? = some x, fun i H => ∃ xs : List V, SqT K H a xs ∧ xs.length = i⟩
theorem turn_enumT {P : Program} {w : World} {K : PySem.W.Frag} {elts : List Expr} {kk : Nat} {tpos : Pos} (a e it : Addr) (apart : a ≠ it ∧ a ≠ e) :
    Turn P w K (.Tuple elts kk tpos) (IteT K a) [e, it] e (fun i h => (∃ old, IsEnum h e it ((i : Nat) : Int) old) ∧ h.IsTupleIter it a i ∧ e ≠ it) where
  mem := by simp
  obj := fun i h z b hb => by
    obtain ⟨⟨old, he⟩, ⟨o, ho, hc, hd⟩, _⟩ := z
    rcases (by simpa using hb : b = e ∨ b = it) with z | z
    · rw [z]; exact ⟨_, he, fun v q => nomatch q⟩
    · rw [z]; exact ⟨o, ho, fun v q => by rw [hd] at q; cases q⟩
  keep := fun i h h' z k => let ⟨⟨old, he⟩, hi, hne⟩ := z; ⟨⟨old, k e (by simp) _ he⟩, hi.at fun o q => k it (by simp) o q, hne⟩
  item := by
    intro X eP eW eK clm i pn s σ H E I fre z now
    subst eP eW eK
    obtain ⟨⟨old, he⟩, hit, hne⟩ := z
    obtain ⟨xs, x, hq, hx⟩ := now
    obtain ⟨its, rv, p, hz⟩ := I.tuple hq
    have p' : s.heap.IsTuple a its.toArray := p
    obtain ⟨u, hu, ru⟩ := rv.get hx
    have hel : e < s.heap.objs.size := Heap.lt_size he
    have hil : it < s.heap.objs.size := by obtain ⟨_, q, _⟩ := hit; exact Heap.lt_size q
    have lt : i < its.toArray.size := by
      have := (List.getElem?_eq_some_iff.mp hu).1
      simpa using this
    refine wpAny_pyNext_enum_itemD (q9_draws_tup (A := X.A.in1) (show X.A.in1.handled = none from I.ok.hd clm) it a apart.1 its.toArray) he ⟨hit, p'⟩ lt hne (by simp only [List.mem_cons, List.not_mem_nil, or_false, not_or]; exact ⟨hne, fun z => apart.2 z.symm⟩) fun y h' tk hy ho hSt hT hsz hk => ?_
    have ey : y = u := by
      have h2 : its.toArray[i]? = some u := by simpa using hu
      rw [hy] at h2
      exact Option.some.inj h2
    subst ey
    refine ⟨_, rfl, wpAny_letOwnedTupleGo_enum (s := { s with heap := h', toks := tk + 1 }) ho fun h'' he' sb => ?_⟩
    have hT2 : h''.get? s.heap.objs.size = some { cls := .type "tuple", data := .seq #[.int i tk, y] } := (sb.2 _ (Nat.ne_of_gt hel)).trans hT
    have new : ObjOk X.prog X.w (upd H s.heap.objs.size (.tup [.int (i : Nat), x])) h'' s.heap.objs.size (.tup [.int (i : Nat), x]) :=
      ⟨by show 2 ≤ sizeLine; decide, [.int i tk, y], .cons ⟨_, rfl⟩ (.cons ru .nil), ⟨_, hT2, rfl, _, rfl⟩⟩
    have J1 : Inv X pn σ (upd H s.heap.objs.size (.tup [.int (i : Nat), x])) { s with heap := h'', toks := tk + 1 } :=
      I.turnedNew (ch := [e, it]) (fun b ob hb q => (sb.2 b (fun z => hb (by simp [z]))).trans (hk b ob (fun z => hb (by simp [z])) (fun z => hb (by simp [z])) q)) fre (Nat.le_refl _) new
    refine ⟨.ref s.heap.objs.size, _, J1, rfl, ⟨_, x, rfl, I.hok.fresh (Nat.le_refl _), rfl, fun ys hy2 => ?_⟩, ⟨⟨y, ?_⟩, hSt.1.at fun o q => (sb.2 it (Ne.symm hne)).trans q, hne⟩, fun b hb => ?_⟩
    · rw [I.tuple_inj hy2 hq]; exact hx
    · have e1 : ((i + 1 : Nat) : Int) = (i : Int) + 1 := by omega
      rw [e1]; exact he'
    · have hb' : b < s.heap.objs.size := by
        rcases (by simpa using hb : b = e ∨ b = it) with z | z
        · rw [z]; exact hel
        · rw [z]; exact hil
      rw [upd_ne (Nat.ne_of_lt hb')]
      exact (fre b hb).1
  done := by
    intro X eP eW eK clm i pn s σ H E I fre z now
    subst eP eW eK
    obtain ⟨⟨old, he⟩, hit, hne⟩ := z
    obtain ⟨xs, hq, hx⟩ := now
    obtain ⟨its, rv, p, hz⟩ := I.tuple hq
    obtain ⟨f0, f1, f2, f3, f4, f5⟩ := fre it (by simp)
    have hl := rv.length
    have p' : s.heap.IsTuple a its.toArray := p
    have st0 : s.heap.IsTupleIter it a its.toArray.size ∧ s.heap.IsTuple a its.toArray := by
      refine ⟨?_, p'⟩
      have e1 : its.toArray.size = i := by rw [List.size_toArray]; omega
      rw [e1]
      exact hit
    exact wpAny_pyNext_enum_endD (q9_draws_tup (A := X.A.in1) (show X.A.in1.handled = none from I.ok.hd clm) it a apart.1 its.toArray) he st0 fun h' eb => ⟨rfl, I.turned (t' := s.toks) (fun b o hb q => eb b o hb q) f0 f1 f3 f4 f5⟩
  self := fun A i s Q E z h => let ⟨⟨_, he⟩, _⟩ := z; wpAny_pyIter_enum he h
theorem walk_enumT {K : PySem.W.Frag} {a : Addr} {xs : List V} : Walk (IteT K a) xs.length (fun H => SqT K H a xs) (YPair (fun i => some (.int (i : Nat))) (fun i => xs[i]?)) := by
  refine ⟨fun i _ hi q => ⟨xs, xs[i], q, by simp [hi]⟩, fun _ q => ⟨xs, q, rfl⟩, fun i H v H' _ q y => ?_⟩
  obtain ⟨T, x, h1, h2, h3, h4⟩ := y
  exact ⟨T, .int (i : Nat), x, h1, h2, h3, rfl, h4 xs q⟩
/-- x is a list or a tuple of xs -/
abbrev Row0 (K : PySem.W.Frag) (H : Hp) (x : V) (xs : List V) : Prop := ∃ a, x = .ref a ∧ (SqL K H a xs ∨ SqT K H a xs)
/-- enumerate(row), the row as it stood at some heap ahead -/
def iEnumB (K : PySem.W.Frag) (ta : TA) : TI := fun σ H R => ta σ H fun vs H1 => ∃ (x : V) (xs : List V) (H0 : Hp), vs = [x] ∧ Row0 K H0 x xs ∧ L2.Same H0 H1 ∧
  ∀ (J : It) (G : Hp → Prop), (∀ H', L2.Same H0 H' → G H') → Walk J xs.length G (YPair (fun i => some (.int (i : Nat))) (fun i => xs[i]?)) → R J H1
theorem sqT_same0 {K : PySem.W.Frag} {H H' : Hp} {a : Addr} {xs : List V} (s : L2.Same H H') (h : SqT K H a xs) : SqT K H' a xs := by
  rcases h with (h | ⟨o, h⟩) | h
  · exact .inl (.inl (s _ _ h))
  · exact .inl (.inr ⟨o, s _ _ h⟩)
  · exact .inr h
theorem pi_enumB {X : Cx} {e : Expr} {ta : TA} {p pos tpos : Pos} {elts : List Expr} {kk : Nat} (hg : Gl X "enumerate") (hm : X.mg "enumerate" = none) (ha : PA X [e] ta) (hs : starEach [e] X.env = [(false, eval e X.env)] := by rfl) :
    PI X (.Tuple elts kk tpos) (.Call (.Name "enumerate" p) [e] [] pos) (iEnumB X.K ta) := by
  refine ⟨fun pn s σ H R I h => ?_⟩
  refine Call_ (ld_blt I hg hm boot_enumerate (PyProof.Rows.callWith_type1 (thn (ha.run pos pn s σ H _ I h) fun us s1 ⟨vs, H1, I1, r1, q1⟩ => ?_) hs rfl))
  obtain ⟨x, xs, H0, ex, ⟨a, rfl, hq⟩, s0, q⟩ := q1
  subst ex
  cases r1 with
  | cons r rr =>
    cases rr
    cases r
    have far : ∀ b, b ∈ [s1.heap.objs.size + 1, s1.heap.objs.size] → s1.heap.objs.size ≤ b := fun b hb => by
      rcases (by simpa using hb : b = s1.heap.objs.size + 1 ∨ b = s1.heap.objs.size) with z | z
      · rw [z]; exact Nat.le_add_right _ _
      · rw [z]; exact Nat.le_refl _
    rcases hq with hq | hq
    · obtain ⟨its, rv, p', hz⟩ := I1.list (s0.seq hq)
      refine call_enumerate_list p'.isList fun h' he hit hsz hk => wpAny_pyIter_enum he ?_
      have I2 : Inv X pn σ H1 { s1 with heap := h' } := I1.kept (t' := s1.toks) hk
      exact ⟨s1.heap.objs.size + 1, [s1.heap.objs.size + 1, s1.heap.objs.size], _, _, H1, rfl, I2, turn_enum a (s1.heap.objs.size + 1) s1.heap.objs.size, ⟨⟨.none, he⟩, hit, Nat.succ_ne_self _⟩, fun b hb => I1.fpOk (far b hb) (I1.hok.fresh (far b hb)),
        q _ (fun H' => SqL X.K H' a xs) (fun H' s => s.seq hq) walk_enum⟩
    · obtain ⟨its, rv, p', hz⟩ := I1.tuple (sqT_same0 s0 hq)
      have pt : s1.heap.IsTuple a its.toArray := p'
      have al : a < s1.heap.objs.size := by obtain ⟨o, e, _⟩ := pt; exact Heap.lt_size e
      refine q9_call_enumT pt fun h' he hit hsz hk => wpAny_pyIter_enum he ?_
      have I2 : Inv X pn σ H1 { s1 with heap := h' } := I1.kept (t' := s1.toks) hk
      exact ⟨s1.heap.objs.size + 1, [s1.heap.objs.size + 1, s1.heap.objs.size], _, _, H1, rfl, I2, turn_enumT a (s1.heap.objs.size + 1) s1.heap.objs.size ⟨Nat.ne_of_lt al, Nat.ne_of_lt (Nat.lt_succ_of_lt al)⟩, ⟨⟨.none, he⟩, hit, Nat.succ_ne_self _⟩, fun b hb => I1.fpOk (far b hb) (I1.hok.fresh (far b hb)),
        q _ (fun H' => SqT X.K H' a xs) (fun H' s => sqT_same0 s hq) walk_enumT⟩
/-- a, b, .. = a list or a tuple of that length -/
def gRowT (K : PySem.W.Frag) (n : Nat) (t : TGs) : TG := fun v σ H Q => ∃ xs, Row0 K H v xs ∧ xs.length = n ∧ t xs σ H Q
theorem pg_rowT {X : Cx} {pos : Pos} {es : List Expr} {k : Nat} {t : TGs} {n : Nat} (hc : X.calm = true) (h : PGs X es t) (hn : (assignEach es X.env).length = n := by rfl) (hst : (assignEach es X.env).findIdx? (·.1) = none := by rfl) : PG X (.Tuple es k pos) (gRowT X.K n t) := by
  refine ⟨fun pn s σ H v u Q I r ⟨xs, ⟨a, e, hq⟩, l, w⟩ => ?_⟩
  rcases hq with hq | hq
  · exact (pg_lst hc h hn hst).run pn s σ H v u Q I r ⟨a, xs, e, hq, l, w⟩
  · exact (pg_tup hc h hn hst).run pn s σ H v u Q I r ⟨a, xs, e, hq, l, w⟩
end Q9
end
-- QChoices
section
set_option maxRecDepth 100000
set_option maxHeartbeats 4000000
namespace Q9
open PySem L2
/-- neither a list nor a tuple -/
def NotRow (K : PySem.W.Frag) (H : Hp) (x : V) : Prop := ∃ t, TyX K H x t ∧ PySem.W.kitOne K t (.type "list") = some false ∧ PySem.W.kitOne K t (.type "tuple") = some false
/-- no integer -/
def NotInt (K : PySem.W.Frag) (H : Hp) (x : V) : Prop := (∃ b, x = .bl b) ∨ OfTy K H x "int" false
def spIsInt (K : PySem.W.Frag) : Sp := fun vs H Q _ => ∃ x, vs = [x] ∧ ((∃ n, x = .int n ∧ Q (.bl true) H) ∨ (NotInt K H x ∧ Q (.bl false) H))
structure TInt (mg : Str → Option Value) : Prop where
  isi : mg "isinstance" = none
  int : mg "int" = none
  bool : mg "bool" = none
theorem notRow_up {K : PySem.W.Frag} {H H' : Hp} (s : Same H H') {x : V} (h : NotRow K H x) : NotRow K H' x := by
  obtain ⟨t, ty, e⟩ := h
  exact ⟨t, same_ty s ty, e⟩
theorem notInt_up {K : PySem.W.Frag} {H H' : Hp} (s : Same H H') {x : V} (h : NotInt K H x) : NotInt K H' x := by
  rcases h with h | ⟨t, ty, e⟩
  · exact .inl h
  · exact .inr ⟨t, same_ty s ty, e⟩
def BadCh (K : PySem.W.Frag) (H : Hp) (v : V) : Prop := NotInt K H v ∨ ∃ n : Int, v = .int n ∧ n < 0
/-- what stands as an argument: choices, or the index of what is wrong -/
inductive Choices (K : PySem.W.Frag) (H : Hp) (r : V) : List Int → Option Int → Prop
  | right {ns : List Int} : Row K H r (ns.map V.int) → (∀ n ∈ ns, 0 ≤ n) → Choices K H r ns none
  | none : NotRow K H r → Choices K H r [] (some (-1))
  | bad {vs : List V} {ns : List Int} {v : V} : Row K H r vs → vs[ns.length]? = some v → vs.take ns.length = ns.map V.int → (∀ n ∈ ns, 0 ≤ n) → BadCh K H v → Choices K H r ns (some (ns.length : Int))
theorem badCh_up {K : PySem.W.Frag} {H H' : Hp} (s : Same H H') {v : V} (h : BadCh K H v) : BadCh K H' v := h.imp (notInt_up s) id
theorem choices_up {K : PySem.W.Frag} {H H' : Hp} (s : Same H H') {r : V} {ns : List Int} {o : Option Int} (h : Choices K H r ns o) : Choices K H' r ns o := by
  cases h with
  | right a b => exact .right (row_up s a) b
  | none a => exact .none (notRow_up s a)
  | bad a e b c d => exact .bad (row_up s a) e b c (badCh_up s d)
def spCheckCh (CB : Addr) (K : PySem.W.Frag) : Sp := fun vs H Q E => ∃ (r : V) (ns : List Int) (o : Option Int), vs = [r] ∧ Choices K H r ns o ∧
  (o = none → ∀ H', Same H H' → Q .non H') ∧ ∀ i, o = some i → ∀ (H' : Hp) (d : Addr), Same H H' → H d = none → H' d = some (.xd [("index", .int i)]) → E (.ref CB) (some d) H'
structure TCheckCh (K : PySem.W.Frag) (mg : Str → Option Value) (fRow fInt : Addr) : Prop where
  enum : mg "enumerate" = none
  gR : mg "is_row" = some (.ref fRow)
  kR : PySem.W.keepIn K (.ref fRow) = true
  gI : mg "is_integer" = some (.ref fInt)
  kI : PySem.W.keepIn K (.ref fInt) = true
section
variable {P : Program} {w : World} {K : PySem.W.Frag} {mg : Str → Option Value} {base : Heap}
theorem scIsInt : FnScope ["thing"] ["thing"] (defScope sIsInt) := ⟨rfl, rfl, rfl, by decide +kernel, rfl, by decide +kernel, by decide +kernel⟩
theorem ok_isInt {f : Addr} {fd : FuncData} (F : Fun K "is_integer" "is_integer" sIsInt f fd) (T : TInt mg) : FnOk P w K mg base CX0 1 f fd ["thing"] (spIsInt K) := by
  refine F.ok scIsInt (fun vs H Q E h => ?_) (fun cdv A outer s H vs Q E hr h => ?_)
  · obtain ⟨x, rfl, _⟩ := h
    rfl
  · obtain ⟨x, rfl, h⟩ := h
    refine ⟨_, pss_one (ps_ret (pe_and (pe_callB call_isi (by rfl) T.isi (by decide +kernel) (pa_cons (pv 0) (pa_cons (pe_bltn (v := .ty "int") (by rfl) T.int (by decide +kernel) rfl) pa_nil)))
      (pe_one (pe_not (pe_callB call_isi (by rfl) T.isi (by decide +kernel) (pa_cons (pv 0) (pa_cons (pe_bltn (v := .ty "bool") (by rfl) T.bool (by decide +kernel) rfl) pa_nil))))))), ?_⟩
    rcases h with ⟨n, rfl, q⟩ | ⟨⟨b, rfl⟩ | ⟨t, ty, e⟩, q⟩
    · exact ⟨_, rfl, _, _, _, _, true, rfl, .ty _, .base (.int n), kit_ty (by decide +kernel), true, rfl, iteT ⟨_, rfl, _, _, _, _, false, rfl, .ty _, .base (.int n), kit_ty (by decide +kernel), false, rfl, q⟩⟩
    · exact ⟨_, rfl, _, _, _, _, true, rfl, .ty _, .base (.bl b), kit_ty (by decide +kernel), true, rfl, iteT ⟨_, rfl, _, _, _, _, true, rfl, .ty _, .base (.bl b), kit_ty (by decide +kernel), true, rfl, q⟩⟩
    · exact ⟨_, rfl, _, _, _, _, false, rfl, .ty _, ty, e, false, rfl, iteF q⟩
/-- an error with an index, its __init__ -/
theorem scBCI : FnScope ["self", "index"] ["self", "index"] (defScope sIBadChoices) := ⟨rfl, rfl, rfl, by decide +kernel, rfl, by decide +kernel, by decide +kernel⟩
theorem ok_badChI {f C : Addr} {fd : FuncData} (F : Fun K "__init__" "BadChoices.__init__" sIBadChoices f fd) (T : TErr K mg "BadChoices" "index" C f) : FnOk P w K mg base CX0 1 f fd ["self", "index"] (spErrI C "index") := by
  refine F.ok scBCI (fun vs H Q E h => ?_) (fun cdv A outer s H vs Q E hr h => ?_)
  · obtain ⟨a, v, rfl, _⟩ := h
    rfl
  · obtain ⟨a, v, rfl, ha, q⟩ := h
    refine ⟨_, pss_one (ps_ost (pv 0) (pv 1)), ?_⟩
    exact ⟨_, rfl, _, rfl, a, C, rfl, T.ox, T.no, .inl ⟨ha, fun dx nd ne => q dx nd ne⟩⟩
theorem scMetI : FnScope ["self", "error"] ["self", "error"] (defScope sIMet) := ⟨rfl, rfl, rfl, by decide +kernel, rfl, by decide +kernel, by decide +kernel⟩
theorem ok_metI {f C : Addr} {fd : FuncData} (F : Fun K "__init__" "Met.__init__" sIMet f fd) (T : TErr K mg "Met" "error" C f) : FnOk P w K mg base CX0 1 f fd ["self", "error"] (spErrI C "error") := by
  refine F.ok scMetI (fun vs H Q E h => ?_) (fun cdv A outer s H vs Q E hr h => ?_)
  · obtain ⟨a, v, rfl, _⟩ := h
    rfl
  · obtain ⟨a, v, rfl, ha, q⟩ := h
    refine ⟨_, pss_one (ps_ost (pv 0) (pv 1)), ?_⟩
    exact ⟨_, rfl, _, rfl, a, C, rfl, T.ox, T.no, .inl ⟨ha, fun dx nd ne => q dx nd ne⟩⟩
theorem scCC : FnScope ["choices", "index", "choice"] ["choices"] (defScope sCheckCh) := ⟨rfl, rfl, rfl, by decide +kernel, rfl, by decide +kernel, by decide +kernel⟩
theorem ok_checkCh {f CB fI fRow fInt : Addr} {fd dI dR dN : FuncData} (F : Fun K "check_choices" "check_choices" sCheckCh f fd) (T : TCheckCh K mg fRow fInt) (TE : TErr K mg "BadChoices" "index" CB fI)
    (GI : FnOk P w K mg base CX0 1 fI dI ["self", "index"] (spErrI CB "index")) (bI : Binds K dI ["self", "index"] [])
    (GR : FnOk P w K mg base CX0 1 fRow dR ["thing"] (spIsRow K)) (bR : Binds K dR ["thing"] [])
    (GN : FnOk P w K mg base CX0 1 fInt dN ["thing"] (spIsInt K)) (bN : Binds K dN ["thing"] []) :
    FnOk P w K mg base (L2.CX P w) 3 f fd ["choices"] (spCheckCh CB K) := by
  refine F.okX scCC (fun vs H Q E h => ?_) (fun cdv A outer s H vs Q E hr h => ?_)
  · obtain ⟨r, ns, o, rfl, _⟩ := h
    rfl
  · obtain ⟨r, ns, o, rfl, hh, qn, qe⟩ := h
    refine ⟨_, pss_cons (ps_if (pt_not (pt_val (pe_call GR (hr.mono (by omega)) (by rfl) T.gR T.kR bR .nil pass0 (pa_cons (pv 0) pa_nil))))
        (pss_one (ps_raise rfl (takes_of rfl rfl rfl rfl) (pmk_oex TE.ox TE.iC TE.tI GI (hr.mono (by omega)) bI .nil pass0 (by rfl) TE.gC (pa_cons (pe_un un_neg pe_int) pa_nil)))) pss_nil)
      (pss_one (ps_for (passes_of rfl) rfl (pi_enumB (by rfl) T.enum (pa_cons (pv 0) pa_nil)) (pg_tup rfl (pgs_cons (pg_name (i := 1) scCC.nd rfl (.inl rfl)) (pgs_cons (pg_name (i := 2) scCC.nd rfl (.inl rfl)) pgs_nil)))
        (pss_one (ps_if (PW.pt (pw_or (pt_not (pt_val (pe_call GN (hr.mono (by omega)) (by rfl) T.gI T.kI bN .nil pass0 (pa_cons (pv 2) pa_nil))))
            (pw_or1 (pt_cmpR op_lt (pv 2) pe_int (nomark _)))))
          (pss_one (ps_raise rfl (takes_of rfl rfl rfl rfl) (pmk_oex TE.ox TE.iC TE.tI GI (hr.mono (by omega)) bI .nil pass0 (by rfl) TE.gC (pa_cons (pv 1) pa_nil)))) pss_nil)))), ?_⟩
    have main : (∃ vs : List V, Row K H r vs ∧ vs.take ns.length = ns.map V.int ∧ (∀ n ∈ ns, 0 ≤ n) ∧ (∀ v, vs[ns.length]? = some v → o = some (ns.length : Int) ∧ BadCh K H v) ∧ (vs.length ≤ ns.length → o = none)) ∨ (NotRow K H r ∧ o = some (-1)) := by
      cases hh with
      | right a b =>
        refine .inl ⟨_, a, by rw [← List.map_take, List.take_length], b, fun v hv => ?_, fun _ => rfl⟩
        rw [List.getElem?_eq_none (by rw [List.length_map]; exact Nat.le_refl _)] at hv
        cases hv
      | none a => exact .inr ⟨a, rfl⟩
      | bad a e b c d =>
        refine .inl ⟨_, a, b, c, fun v hv => ?_, fun hl => ?_⟩
        · rw [e] at hv
          cases hv
          exact ⟨rfl, d⟩
        · rw [List.getElem?_eq_none hl] at e
          cases e
    rcases main with ⟨vs, row, good, pos, badAt, fin⟩ | ⟨nr, ho⟩
    case inr =>
      obtain ⟨t, ty, e1, e2⟩ := nr
      refine ⟨_, rfl, r, rfl, .inr ⟨t, ty, e1, e2, fun H1 s1 => ⟨_, rfl, iteT ?_⟩⟩⟩
      refine ⟨_, rfl, (by show 1 ≤ 1000; decide), fun a na => ⟨a, _, rfl, upd_same, fun dx nd ne => ?_⟩⟩
      obtain ⟨r1, r2, r3, r4, r5⟩ := raised (C := CB) (fs := [("index", .int (-1))]) s1 na nd ne
      exact ⟨rfl, dx, _, r1, r2, r3, qe _ ho _ dx r4 r5 upd_same⟩
    refine ⟨_, rfl, r, rfl, .inl ⟨vs, row, fun H1 s1 => ⟨_, rfl, iteF ?_⟩⟩⟩
    refine ⟨_, rfl, r, vs, H, rfl, row, s1, fun J G hG wk => ?_⟩
    refine for_it wk (fun i σ H' => ∃ v1 v2, σ = [some r, v1, v2] ∧ Same H H' ∧ i ≤ ns.length) ⟨none, none, rfl, s1, Nat.zero_le _⟩ (fun i σ H' _ ⟨_, _, _, s, _⟩ => hG _ s) ?_ ?_
    · rintro i x σ H2 H3 hi ⟨v1, v2, rfl, s2, il⟩ ⟨tt, x1, v, rfl, nt, rfl, ex, ey⟩
      have ex' : x1 = .int (i : Nat) := (Option.some.inj ex).symm
      subst ex'
      have s3 : Same H (upd H2 tt (.tup [.int (i : Nat), v])) := fun b u e => same_upd nt b u (s2 b u e)
      refine ⟨tt, _, rfl, .of upd_same, rfl, _, _, rfl, _, _, rfl, rfl, ?_⟩
      by_cases c : i < ns.length
      · have ev : (vs.take ns.length)[i]? = some v := by rw [List.getElem?_take_of_lt c]; exact ey
        rw [good, List.getElem?_map] at ev
        obtain ⟨n, hn, rfl⟩ := Option.map_eq_some_iff.mp ev
        have n0 := pos n (List.mem_of_getElem? hn)
        refine ⟨_, rfl, _, rfl, .inl ⟨n, rfl, _, rfl, iteF ?_⟩⟩
        refine ⟨_, rfl, _, _, rfl, rfl, _, rfl, ?_⟩
        rw [decide_eq_false (show ¬ n < 0 by omega)]
        exact iteF ⟨_, _, rfl, s3, c⟩
      · have ei : i = ns.length := by omega
        subst ei
        obtain ⟨ho, bad⟩ := badAt v ey
        have out : ∀ (a : Addr), (upd H2 tt (.tup [.int (ns.length : Nat), v])) a = none → spErrI CB "index" [.ref a, .int (ns.length : Nat)] (upd (upd H2 tt (.tup [.int (ns.length : Nat), v])) a (exo a CB none)) (fun z H5 => z = .non ∧ ∃ (d : Addr) (fs : List (Str × V)), H5 a = some (exo a CB (some d)) ∧ H5 d = some (exd d fs) ∧ (upd H2 tt (.tup [.int (ns.length : Nat), v])) d = none ∧ E (.ref CB) (some d) (upd (del H5 a) d (.xd fs))) (fun _ _ _ => False) := by
          intro a na
          refine ⟨a, _, rfl, upd_same, fun dx nd ne => ?_⟩
          obtain ⟨r1, r2, r3, r4, r5⟩ := raised (C := CB) (fs := [("index", .int (ns.length : Nat))]) s3 na nd ne
          exact ⟨rfl, dx, _, r1, r2, r3, qe _ ho _ dx r4 r5 upd_same⟩
        rcases bad with bad | ⟨n, rfl, hn⟩
        · refine ⟨_, rfl, v, rfl, .inr ⟨notInt_up s3 bad, _, rfl, iteT ?_⟩⟩
          exact ⟨_, rfl, (by show 1 ≤ 1000; decide), fun a na => out a na⟩
        · refine ⟨_, rfl, _, rfl, .inl ⟨n, rfl, _, rfl, iteF ?_⟩⟩
          refine ⟨_, rfl, _, _, rfl, rfl, _, rfl, ?_⟩
          rw [decide_eq_true hn]
          exact iteT ⟨_, rfl, (by show 1 ≤ 1000; decide), fun a na => out a na⟩
    · rintro σ H2 ⟨v1, v2, rfl, s2, il⟩
      refine qn (fin ?_) H2 s2
      exact il
end
end Q9
end
-- QLive
section
set_option maxRecDepth 100000
set_option maxHeartbeats 4000000
namespace Q9
open PySem L2
/-! ### live objects -/
theorem putF_again (f : Str) (v u : V) (r : List (Str × V)) : putF f v (putF f u r) = putF f v r := by
  induction r with
  | nil => simp [putF]
  | cons p r ih =>
    obtain ⟨g, x⟩ := p
    by_cases h : g = f
    · simp [putF, h]
    · simp [putF, h, ih]
theorem putF_over {f g : Str} (v x : V) {r : List (Str × V)} (ne : f ≠ g) (h : r.lookup f ≠ none) : putF f v (putF g x r) = putF g x (putF f v r) := by
  induction r with
  | nil => exact (h rfl).elim
  | cons p r ih =>
    obtain ⟨k, y⟩ := p
    by_cases hf : k = f
    · have hg : ¬ k = g := fun e => ne (hf.symm.trans e)
      simp [putF, hf, ne]
    · by_cases hg : k = g
      · subst hg
        simp [putF, hf]
      · have hb : (f == k) = false := by rw [beq_eq_false_iff_ne]; exact fun e => hf e.symm
        simp only [putF, if_neg hf, if_neg hg]
        rw [ih]
        rwa [List.lookup_cons, hb] at h
def lf1 (k sts : Addr) (cur : Str) : List (Str × V) := putF "_state" (.str cur) (putF "_states" (.ref sts) (putF "_kind" (.ref k) []))
def lf2 (k sts : Addr) (cur : Str) (pk : Addr) (used : Int) : List (Str × V) := putF "_used" (.int used) (putF "_picks" (.ref pk) (lf1 k sts cur))
def lflds (k sts : Addr) (cur : Str) (pk : Addr) (used : Int) (an : Addr) (deep : Int) : List (Str × V) := putF "_deep" (.int deep) (putF "_answered" (.ref an) (lf2 k sts cur pk used))
section
variable (k sts : Addr) (cur : Str) (pk : Addr) (used : Int) (an : Addr) (deep : Int)
theorem lf_no (f : Str) (h1 : ¬ f = ("_deep" : Str)) (h2 : ¬ f = ("_answered" : Str)) (h3 : ¬ f = ("_used" : Str)) (h4 : ¬ f = ("_picks" : Str)) (h5 : ¬ f = ("_state" : Str)) (h6 : ¬ f = ("_states" : Str)) (h7 : ¬ f = ("_kind" : Str)) : (lflds k sts cur pk used an deep).lookup f = none := by
  unfold lflds lf2 lf1
  rw [lookup_putF, if_neg h1, lookup_putF, if_neg h2, lookup_putF, if_neg h3, lookup_putF, if_neg h4, lookup_putF, if_neg h5, lookup_putF, if_neg h6, lookup_putF, if_neg h7]
  rfl
theorem lf_deep : (lflds k sts cur pk used an deep).lookup ("_deep" : Str) = some (.int deep) := by unfold lflds; rw [lookup_putF, if_pos rfl]
theorem lf_answered : (lflds k sts cur pk used an deep).lookup ("_answered" : Str) = some (.ref an) := by unfold lflds; rw [lookup_putF, if_neg (by decide +kernel), lookup_putF, if_pos rfl]
theorem lf_used : (lflds k sts cur pk used an deep).lookup ("_used" : Str) = some (.int used) := by unfold lflds lf2; rw [lookup_putF, if_neg (by decide +kernel), lookup_putF, if_neg (by decide +kernel), lookup_putF, if_pos rfl]
theorem lf_picks : (lflds k sts cur pk used an deep).lookup ("_picks" : Str) = some (.ref pk) := by unfold lflds lf2; rw [lookup_putF, if_neg (by decide +kernel), lookup_putF, if_neg (by decide +kernel), lookup_putF, if_neg (by decide +kernel), lookup_putF, if_pos rfl]
theorem lf_state : (lflds k sts cur pk used an deep).lookup ("_state" : Str) = some (.str cur) := by
  unfold lflds lf2 lf1
  rw [lookup_putF, if_neg (by decide +kernel), lookup_putF, if_neg (by decide +kernel), lookup_putF, if_neg (by decide +kernel), lookup_putF, if_neg (by decide +kernel), lookup_putF, if_pos rfl]
theorem lf_kind : (lflds k sts cur pk used an deep).lookup ("_kind" : Str) = some (.ref k) := by
  unfold lflds lf2 lf1
  rw [lookup_putF, if_neg (by decide +kernel), lookup_putF, if_neg (by decide +kernel), lookup_putF, if_neg (by decide +kernel), lookup_putF, if_neg (by decide +kernel), lookup_putF, if_neg (by decide +kernel), lookup_putF, if_neg (by decide +kernel), lookup_putF, if_pos rfl]
theorem lf_setUsed (u : Int) : putF "_used" (.int u) (lflds k sts cur pk used an deep) = lflds k sts cur pk u an deep := by
  unfold lflds lf2
  have n0 : ∀ r, (putF "_used" (.int used) r).lookup ("_used" : Str) ≠ none := fun r => by rw [lookup_putF, if_pos rfl]; exact fun h => nomatch h
  have n1 : ∀ g v r, ¬ ("_used" : Str) = g → List.lookup ("_used" : Str) r ≠ none → (putF g v r).lookup ("_used" : Str) ≠ none := fun g v r h1 h2 => by rw [lookup_putF, if_neg h1]; exact h2
  rw [putF_over (f := "_used") (g := "_deep") _ _ (by decide +kernel) (n1 _ _ _ (by decide +kernel) (n0 _)), putF_over (f := "_used") (g := "_answered") _ _ (by decide +kernel) (n0 _), putF_again]
theorem lf_setState (c : Str) : putF "_state" (.str c) (lflds k sts cur pk used an deep) = lflds k sts c pk used an deep := by
  unfold lflds lf2 lf1
  have n0 : ∀ r, (putF "_state" (.str cur) r).lookup ("_state" : Str) ≠ none := fun r => by rw [lookup_putF, if_pos rfl]; exact fun h => nomatch h
  have n1 : ∀ g v r, ¬ ("_state" : Str) = g → List.lookup ("_state" : Str) r ≠ none → (putF g v r).lookup ("_state" : Str) ≠ none := fun g v r h1 h2 => by rw [lookup_putF, if_neg h1]; exact h2
  rw [putF_over _ _ (by decide +kernel) (n1 _ _ _ (by decide +kernel) (n1 _ _ _ (by decide +kernel) (n1 _ _ _ (by decide +kernel) (n0 _)))), putF_over _ _ (by decide +kernel) (n1 _ _ _ (by decide +kernel) (n1 _ _ _ (by decide +kernel) (n0 _))), putF_over _ _ (by decide +kernel) (n1 _ _ _ (by decide +kernel) (n0 _)), putF_over _ _ (by decide +kernel) (n0 _), putF_again]
theorem lf_len : (lflds k sts cur pk used an deep).length < 999 := by
  unfold lflds lf2 lf1
  exact Nat.lt_of_le_of_lt (putF_le (putF_le (putF_le (putF_le (putF_le (putF_le (putF_le (Nat.le_refl 0)))))))) (by decide)
end
/-- all but two things stand -/
def But2 (x y : Addr) (H H' : Hp) : Prop := ∀ b o, b ≠ x → b ≠ y → H b = some o → H' b = some o
theorem But2.trans {x y : Addr} {H H1 H2 : Hp} (a : But2 x y H H1) (b : But2 x y H1 H2) : But2 x y H H2 := fun c o n1 n2 e => b c o n1 n2 (a c o n1 n2 e)
theorem But2.of {x y : Addr} {H H' : Hp} (s : Same H H') : But2 x y H H' := fun b o _ _ e => s b o e
theorem But2.updL {x y : Addr} {H : Hp} {u : HO} : But2 x y H (upd H x u) := fun b o n _ e => by rw [upd_ne n]; exact e
theorem But2.updR {x y : Addr} {H : Hp} {u : HO} : But2 x y H (upd H y u) := fun b o _ n e => by rw [upd_ne n]; exact e
/-- tuple(row): the tuple itself, or a new one -/
def rTupAny (K : PySem.W.Frag) : List V → Hp → VK → Prop := fun xs H Q => ∃ a ys T, xs = [.ref a] ∧ (SqL K H a ys ∨ (SqT K H a ys ∧ T)) ∧ ∀ (pk : Addr) (H6 : Hp), Same H H6 → ((pk = a ∧ T) ∨ (H pk = none ∧ H6 pk = some (.tup ys))) → Q (.ref pk) H6
theorem cr_tupAny {X : Cx} : CallR X (.type "tuple") (rTupAny X.K) := by
  intro pins s σ H vs us Q I r h
  obtain ⟨a, ys, T, rfl, row, q⟩ := h
  exact call_tuple_of pins s σ H _ us Q I r ⟨a, ys, rfl, row.imp (fun h => ⟨h, fun l hl => q l _ (same_upd hl) (.inr ⟨hl, upd_same⟩)⟩) fun h => ⟨h.1, q a H (Same.refl H) (.inl ⟨rfl, h.2⟩)⟩⟩
structure TLive (K : PySem.W.Frag) (mg : Str → Option Value) (C CK fCh fIt fMs pS fS fOp : Addr) : Prop where
  len : mg "len" = none
  tup : mg "tuple" = none
  lst : mg "list" = none
  gCh : mg "check_choices" = some (.ref fCh)
  kCh : PySem.W.keepIn K (.ref fCh) = true
  cl : Cls K C
  clK : Cls K CK
  states : Meth K CK "states" fMs
  start : PropOf K CK "start" pS fS
  item : OwnAt K CK "__getitem__" fIt
  opt : Meth K C "_option" fOp
  nKind : NoAttr K C "_kind"
  nStates : NoAttr K C "_states"
  nState : NoAttr K C "_state"
  nPicks : NoAttr K C "_picks"
  nUsed : NoAttr K C "_used"
  nAns : NoAttr K C "_answered"
  nDeep : NoAttr K C "_deep"
def spLiveI (C CK CB : Addr) (K : PySem.W.Frag) : Sp := fun vs H Q E => ∃ (x dx k : Addr) (H0 : Hp) (r : V) (nm st : Str) (es : List Str) (mv : Mv) (ns : List Int) (o : Option Int), vs = [.ref x, .ref k, r] ∧
  H x = some (.ins C dx []) ∧ H dx = some (.own x) ∧ Same H0 H ∧ H0 x = none ∧ KAc CK K H0 k nm st es mv ∧ Choices K H0 r ns o ∧
  (o = none → ∀ (H' : Hp) (sts pk an : Addr) (ys : List Str), But x H H' → H' x = some (.ins C dx (lflds k sts st pk 0 an 0)) → H' sts = some (.lst (ys.map V.str)) → Told (statesIn st es mv) ys → H an = none → H' an = some (.lst []) →
    (SqT K H0 pk (ns.map V.int) ∨ (H pk = none ∧ H' pk = some (.tup (ns.map V.int)))) → Q .non H') ∧
  ∀ i, o = some i → ∀ (H' : Hp) (d : Addr), Same H0 H' → H0 d = none → H' d = some (.xd [("index", .int i)]) → E (.ref CB) (some d) H'
section
variable {P : Program} {w : World} {K : PySem.W.Frag} {mg : Str → Option Value} {base : Heap} {C CK CB fCh fIt fMs pS fS fOp : Addr}
abbrev liveIN : List Str := ["self", "kind", "picks"]
theorem scL0 : FnScope liveIN liveIN (defScope (lMeth 0)) := ⟨rfl, rfl, rfl, by decide +kernel, rfl, by decide +kernel, by decide +kernel⟩
theorem ok_liveI {f : Addr} {fd dC dM dS : FuncData} {dvs : List V} (F : FunD K "__init__" "Live.__init__" (defArgs (lMeth 0)) (defBody (lMeth 0)) (defScope (lMeth 0)) dvs [] f fd) (T : TLive K mg C CK fCh fIt fMs pS fS fOp)
    (GC : FnOk P w K mg base (L2.CX P w) 3 fCh dC ["choices"] (spCheckCh CB K)) (bC : Binds K dC ["choices"] [])
    (GM : FnOk P w K mg base CX0 1 fMs dM ["self"] (spNew (KAc CK K) statesIn)) (bM : Binds K dM ["self"] [])
    (GS : FnOk P w K mg base CX0 1 fS dS ["self"] (spStart (KAc CK K))) (bS : Binds K dS ["self"] []) :
    FnOk P w K mg base (L2.CX P w) 4 f fd liveIN (spLiveI C CK CB K) := by
  refine F.ok (CX := L2.CX P w) scL0 (fun vs H Q E h => ?_) (fun cdv A outer s H vs Q E hr h => ?_)
  · obtain ⟨x, dx, k, H0, r, nm, st, es, mv, ns, o, rfl, _⟩ := h
    rfl
  · obtain ⟨x, dx, k, H0, r, nm, st, es, mv, ns, o, rfl, hx, hd, s0, nx, ka, hh, qn, qe⟩ := h
    refine ⟨_, pss_cons (ps_expr (pe_callS GC hr (by rfl) T.gCh T.kCh bC (fun σ => passAt (takes_of rfl rfl rfl rfl) σ) (pa_cons (pv 2) pa_nil)))
      (pss_cons (ps_fld (pv 0) (pv 1) rfl)
      (pss_cons (ps_fld (pv 0) (pe_meth0 (pv 1) T.clK T.states GM (hr.mono (by omega)) bM .nil pass0) rfl)
      (pss_cons (ps_fld (pv 0) (pe_prop (pv 1) T.clK T.start GS (hr.mono (by omega)) bS .nil pass0 rfl) rfl)
      (pss_cons (ps_fld (pv 0) (pe_callTy cr_tupAny (by rfl) T.tup (by decide +kernel) (pa_cons (pv 2) pa_nil)) rfl)
      (pss_cons (ps_fld (pv 0) pe_int rfl)
      (pss_cons (ps_fld (pv 0) (pe_lst pa_nil) rfl)
      (pss_one (ps_fld (pv 0) pe_int rfl)))))))), ?_⟩
    have old : ∀ {H' : Hp}, But x H H' → Same H0 H' := fun {H'} b c u e => b c u (ne_of_none e nx) (s0 _ _ e)
    refine ⟨_, rfl, r, ns, o, rfl, choices_up s0 hh, fun ho H1 s1 => ?_, fun i hi H1 d s1 nd at_ => qe i hi H1 d (fun b u e => s1 b u (s0 b u e)) ?_ at_⟩
    rotate_left
    · cases h : H0 d with
      | none => rfl
      | some u => rw [s0 _ _ h] at nd; cases nd
    have q := qn ho
    clear qn qe
    obtain ⟨a, row⟩ : ∃ a, r = .ref a ∧ (SqL K H0 a (ns.map V.int) ∨ SqT K H0 a (ns.map V.int)) := by
      subst ho
      cases hh with
      | right h _ => exact h
    obtain ⟨rfl, row⟩ := row
    clear hh
    refine ⟨_, rfl, _, rfl, x, C, dx, _, rfl, s1 _ _ hx, T.cl, T.nKind, by decide, ?_⟩
    have b2 : But x H (upd H1 x (.ins C dx (putF "_kind" (.ref k) []))) := fun b u ne e => by rw [upd_ne ne]; exact s1 b u e
    have hx2 : (upd H1 x (.ins C dx (putF "_kind" (.ref k) []))) x = some (.ins C dx (putF "_kind" (.ref k) [])) := upd_same
    generalize upd H1 x (.ins C dx (putF "_kind" (.ref k) [])) = H2 at b2 hx2 ⊢
    have ka2 := (kac_ok CK K).up (old b2) ka
    obtain ⟨dxk, fsk, hk2, lk, _⟩ := (kac_ok CK K).ins ka2
    refine ⟨_, rfl, k, _, _, rfl, hk2, lk, k, nm, st, es, mv, rfl, ka2, fun H3 sts ys s3 td hsts => ?_⟩
    have hx3 := s3 _ _ hx2
    have b3 : But x H H3 := b2.trans (But.of s3)
    refine ⟨_, rfl, x, C, dx, _, rfl, hx3, T.cl, T.nStates, Nat.lt_of_le_of_lt (putF_le (Nat.le_refl 0)) (by decide), ?_⟩
    have nsx : sts ≠ x := fun e => by rw [e, hx3] at hsts; cases hsts
    have b4 : But x H (upd H3 x (.ins C dx (putF "_states" (.ref sts) (putF "_kind" (.ref k) [])))) := fun b u ne e => by rw [upd_ne ne]; exact b3 b u ne e
    have hx4 : (upd H3 x (.ins C dx (putF "_states" (.ref sts) (putF "_kind" (.ref k) [])))) x = some (.ins C dx (putF "_states" (.ref sts) (putF "_kind" (.ref k) []))) := upd_same
    have hs4 : (upd H3 x (.ins C dx (putF "_states" (.ref sts) (putF "_kind" (.ref k) [])))) sts = some (.lst (ys.map V.str)) := by rw [upd_ne nsx]; exact hsts
    generalize upd H3 x (.ins C dx (putF "_states" (.ref sts) (putF "_kind" (.ref k) []))) = H4 at b4 hx4 hs4 ⊢
    have ka4 := (kac_ok CK K).up (old b4) ka
    obtain ⟨dxk4, fsk4, hk4, _⟩ := (kac_ok CK K).ins ka4
    refine ⟨_, rfl, k, _, _, rfl, hk4, k, nm, st, es, mv, rfl, ka4, ?_⟩
    refine ⟨_, rfl, x, C, dx, _, rfl, hx4, T.cl, T.nState, Nat.lt_of_le_of_lt (putF_le (putF_le (Nat.le_refl 0))) (by decide), ?_⟩
    have b5 : But x H (upd H4 x (.ins C dx (lf1 k sts st))) := fun b u ne e => by rw [upd_ne ne]; exact b4 b u ne e
    have hx5 : (upd H4 x (.ins C dx (lf1 k sts st))) x = some (.ins C dx (lf1 k sts st)) := upd_same
    have hs5 : (upd H4 x (.ins C dx (lf1 k sts st))) sts = some (.lst (ys.map V.str)) := by rw [upd_ne nsx]; exact hs4
    show tSeq _ _ _ _ (upd H4 x (.ins C dx (lf1 k sts st)))
    generalize upd H4 x (.ins C dx (lf1 k sts st)) = H5 at b5 hx5 hs5 ⊢
    -- the picks, in a tuple, and what comes behind them
    have l1 : (lf1 k sts st).length ≤ 3 := putF_le (putF_le (putF_le (Nat.le_refl 0)))
    have row5 : SqL K H5 a (ns.map V.int) ∨ (SqT K H5 a (ns.map V.int) ∧ SqT K H0 a (ns.map V.int)) := row.imp (sqL_up (Q9.Same.sq (old b5))) fun h => ⟨sqT_up (Q9.Same.sq (old b5)) h, h⟩
    refine ⟨_, rfl, a, _, _, rfl, row5, fun pk H6 s6 hpk => ?_⟩
    have hpk : SqT K H0 pk (ns.map V.int) ∨ (H pk = none ∧ H6 pk = some (.tup (ns.map V.int))) := by
      rcases hpk with ⟨rfl, h⟩ | ⟨h1, h2⟩
      · left
        exact h
      · right
        refine ⟨?_, h2⟩
        cases h : H pk with
        | none => rfl
        | some u =>
          by_cases c : pk = x
          · rw [c, hx5] at h1; cases h1
          · rw [b5 _ _ c h] at h1; cases h1
    have hx6 := s6 _ _ hx5
    have hs6 := s6 _ _ hs5
    have b6 := b5.trans (But.of s6)
    refine ⟨_, rfl, x, C, dx, _, rfl, hx6, T.cl, T.nPicks, Nat.lt_of_le_of_lt l1 (by decide), ?_⟩
    refine ⟨_, rfl, x, C, dx, _, rfl, upd_same, T.cl, T.nUsed, Nat.lt_of_le_of_lt (putF_le l1) (by decide), ?_⟩
    show tSeq _ _ _ _ (upd (upd H6 x (.ins C dx (putF "_picks" (.ref pk) (lf1 k sts st)))) x (.ins C dx (lf2 k sts st pk 0)))
    have b7 : But x H (upd (upd H6 x (.ins C dx (putF "_picks" (.ref pk) (lf1 k sts st)))) x (.ins C dx (lf2 k sts st pk 0))) := fun b u ne e => by rw [upd_ne ne, upd_ne ne]; exact b6 b u ne e
    have hx7 : (upd (upd H6 x (.ins C dx (putF "_picks" (.ref pk) (lf1 k sts st)))) x (.ins C dx (lf2 k sts st pk 0))) x = some (.ins C dx (lf2 k sts st pk 0)) := upd_same
    have keep7 : ∀ b u, b ≠ x → H6 b = some u → (upd (upd H6 x (.ins C dx (putF "_picks" (.ref pk) (lf1 k sts st)))) x (.ins C dx (lf2 k sts st pk 0))) b = some u := fun b u ne e => by rw [upd_ne ne, upd_ne ne]; exact e
    generalize upd (upd H6 x (.ins C dx (putF "_picks" (.ref pk) (lf1 k sts st)))) x (.ins C dx (lf2 k sts st pk 0)) = H7 at b7 hx7 keep7 ⊢
    have hs7 := keep7 _ _ nsx hs6
    refine ⟨(by show 0 ≤ sizeLine; decide), fun an nan => ?_⟩
    have s8 := same_upd (o := .lst []) nan
    have nax : an ≠ x := fun e => by rw [e, hx7] at nan; cases nan
    have l2 : (lf2 k sts st pk 0).length ≤ 5 := putF_le (putF_le l1)
    refine ⟨_, rfl, x, C, dx, _, rfl, s8 _ _ hx7, T.cl, T.nAns, Nat.lt_of_le_of_lt l2 (by decide), ?_⟩
    refine ⟨_, rfl, x, C, dx, _, rfl, upd_same, T.cl, T.nDeep, Nat.lt_of_le_of_lt (putF_le l2) (by decide), ?_⟩
    have keep9 : ∀ (u1 u2 : HO) (b : Addr) (u : HO), b ≠ x → H7 b = some u → upd (upd (upd H7 an (.lst [])) x u1) x u2 b = some u := fun u1 u2 b u ne e => by rw [upd_ne ne, upd_ne ne]; exact s8 _ _ e
    refine q _ sts pk an ys (fun b u ne e => keep9 _ _ b u ne (b7 b u ne e)) upd_same (keep9 _ _ _ _ nsx hs7) td ?_ ?_ (hpk.imp id fun ⟨h1, h2⟩ => ⟨h1, ?_⟩)
    · cases h : H an with
      | none => rfl
      | some u => rw [b7 _ _ nax h] at nan; cases nan
    · rw [upd_ne nax, upd_ne nax]
      exact upd_same
    · have npx : pk ≠ x := fun e => by rw [e, hx6] at h2; cases h2
      exact keep9 _ _ _ _ npx (keep7 _ _ npx h2)
end
end Q9
end
-- QLive2
section
set_option maxRecDepth 100000
set_option maxHeartbeats 4000000
namespace Q9
open PySem L2
/-- which outcome comes, and how many picks are used then -/
def optI (n : Nat) (ns : List Int) (used : Nat) : Nat := if n = 1 ∨ ns.length ≤ used then 0 else ((ns[used]?.getD 0) % (n : Int)).toNat
def optU (n : Nat) (ns : List Int) (used : Nat) : Nat := if n = 1 ∨ ns.length ≤ used then used else used + 1
def spOption (C : Addr) (K : PySem.W.Frag) : Sp := fun vs H Q _ => ∃ (x dx k sts pk an : Addr) (cur : Str) (ns : List Int) (used : Nat) (deep : Int) (many : Nat), vs = [.ref x, .int many] ∧ H x = some (.ins C dx (lflds k sts cur pk used an deep)) ∧ SqT K H pk (ns.map V.int) ∧ 1 ≤ many ∧ used ≤ ns.length ∧
  ∀ H', But x H H' → H' x = some (.ins C dx (lflds k sts cur pk (optU many ns used : Nat) an deep)) → Q (.int (optI many ns used : Nat)) H'
section
variable {P : Program} {w : World} {K : PySem.W.Frag} {mg : Str → Option Value} {base : Heap} {C CK CB CM fCh fIt fMs pS fS fOp fMI : Addr}
theorem scL2 : FnScope ["self", "many"] ["self", "many"] (defScope (lMeth 2)) := ⟨rfl, rfl, rfl, by decide +kernel, rfl, by decide +kernel, by decide +kernel⟩
theorem ok_option {f : Addr} {fd : FuncData} (F : Fun K "_option" "Live._option" (lMeth 2) f fd) (T : TLive K mg C CK fCh fIt fMs pS fS fOp) : FnOk P w K mg base CX0 1 f fd ["self", "many"] (spOption C K) := by
  refine F.ok scL2 (fun vs H Q E h => ?_) (fun cdv A outer s H vs Q E hr h => ?_)
  · obtain ⟨x, dx, k, sts, pk, an, cur, ns, used, deep, many, rfl, _⟩ := h
    rfl
  · obtain ⟨x, dx, k, sts, pk, an, cur, ns, used, deep, many, rfl, hx, hpk, m1, ul, q⟩ := h
    refine ⟨_, pss_cons (ps_if (PW.pt (pw_or (pt_cmpR op_eq (pv 1) pe_int (nomark _)) (pw_or1 (pt_cmpR op_eq (pe_fld (pv 0) rfl) (pe_callB cr_lenRow (by rfl) T.len (by decide +kernel) (pa_cons (pe_fld (pv 0) rfl) pa_nil)) (nomark _))))) (pss_one (ps_ret pe_int)) pss_nil)
      (pss_cons (ps_fldaug (pv 0) pe_int in_add)
      (pss_one (ps_ret (pe_op op_mod (pe_ix ix_tup (pe_fld (pv 0) rfl) (pe_op op_sub (pe_fld (pv 0) rfl) pe_int) (fun _ _ => rfl)) (pv 1))))), ?_⟩
    have q0 : many = 1 ∨ used = ns.length → Q (.int 0) H := fun c => by
      have c' : many = 1 ∨ ns.length ≤ used := c.imp id fun e => by omega
      have e := q H (fun _ _ _ e => e) (by unfold optU; rw [if_pos c']; exact hx)
      unfold optI at e
      rw [if_pos c'] at e
      exact e
    have q1 : many ≠ 1 → ∀ n, ns[used]? = some n → Q (.int (n % (many : Int))) (upd H x (.ins C dx (lflds k sts cur pk (used + 1 : Nat) an deep))) := fun ne n hn => by
      have lt : used < ns.length := (List.getElem?_eq_some_iff.mp hn).1
      have c' : ¬ (many = 1 ∨ ns.length ≤ used) := fun c => c.elim ne (by omega)
      have e := q (upd H x (.ins C dx (lflds k sts cur pk (used + 1 : Nat) an deep))) But.upd (by unfold optU; rw [if_neg c']; exact upd_same)
      unfold optI at e
      rw [if_neg c', hn] at e
      have h0 : 0 ≤ n % (many : Int) := Int.emod_nonneg _ (by omega)
      rw [Option.getD_some, Int.toNat_of_nonneg h0] at e
      exact e
    refine ⟨_, rfl, rfl, _, rfl, ?_⟩
    refine ite2 (fun c => ?_) (fun c => ?_)
    · have : many = 1 := by have := of_decide_eq_true c; injection this with this; omega
      exact q0 (.inl this)
    have ne1 : many ≠ 1 := fun z => c (decide_eq_true (by rw [z]; rfl))
    refine ⟨_, rfl, x, C, dx, _, _, rfl, hx, T.cl, T.nUsed, lf_used _ _ _ _ _ _ _, ?_⟩
    refine ⟨_, rfl, x, C, dx, _, _, rfl, hx, T.cl, T.nPicks, lf_picks _ _ _ _ _ _ _, _, _, rfl, ⟨pk, rfl, .inr hpk⟩, rfl, _, rfl, ?_⟩
    refine ite2 (fun c2 => ?_) (fun c2 => ?_)
    · have := of_decide_eq_true c2
      injection this with this
      rw [List.length_map] at this
      exact q0 (.inr (by omega))
    have lt : used < ns.length := by
      rcases Nat.lt_or_ge used ns.length with h | h
      · exact h
      · exact (c2 (decide_eq_true (by rw [List.length_map, show used = ns.length by omega]))).elim
    refine ⟨_, rfl, x, C, dx, _, _, rfl, hx, T.cl, T.nUsed, lf_used _ _ _ _ _ _ _, _, _, rfl, rfl, dx, _, hx, Nat.lt_succ_of_lt (lf_len _ _ _ _ _ _ _), ?_⟩
    rw [lf_setUsed]
    have hx2 : (upd H x (.ins C dx (lflds k sts cur pk ((used : Int) + 1) an deep))) x = some (.ins C dx (lflds k sts cur pk ((used : Int) + 1) an deep)) := upd_same
    have hpk2 : SqT K (upd H x (.ins C dx (lflds k sts cur pk ((used : Int) + 1) an deep))) pk (ns.map V.int) := by
      rcases hpk with (h | ⟨o, h⟩) | h
      · exact .inl (.inl (by rw [upd_ne (fun e => by rw [e, hx] at h; cases h)]; exact h))
      · exact .inl (.inr ⟨o, by rw [upd_ne (fun e => by rw [e, hx] at h; cases h)]; exact h⟩)
      · exact .inr h
    refine ⟨_, rfl, x, C, dx, _, _, rfl, hx2, T.cl, T.nPicks, lf_picks _ _ _ _ _ _ _, ?_⟩
    refine ⟨_, rfl, x, C, dx, _, _, rfl, hx2, T.cl, T.nUsed, lf_used _ _ _ _ _ _ _, _, _, rfl, rfl, ?_⟩
    refine ⟨pk, _, _, .int ns[used], rfl, rfl, hpk2, ?_, _, rfl, _, _, rfl, rfl, (by omega), q1 ne1 _ (List.getElem?_eq_getElem lt)⟩
    have e := atI_nat (xs := ns.map V.int) (j := used) (v := .int ns[used]) (by rw [List.getElem?_map, List.getElem?_eq_getElem lt]; rfl)
    have e2 : (used : Int) + 1 - 1 = (used : Int) := by omega
    rw [e2]
    exact e
end
/-- a call that has an outcome -/
def isYN (z : Str) : Bool := decide (V.str z = V.str "yes") || decide (V.str z = V.str "no")
def spLiveCall (C CK CM : Addr) (K : PySem.W.Frag) : Sp := fun vs H Q E => ∃ (x dx k sts pk an : Addr) (cur m : Str) (ns : List Int) (used : Nat) (deep : Int) (rs : List V) (nm st : Str) (es : List Str) (mv : Mv),
  vs = [.ref x, .str m] ∧ H x = some (.ins C dx (lflds k sts cur pk used an deep)) ∧ SqT K H pk (ns.map V.int) ∧ used ≤ ns.length ∧ H an = some (.lst rs) ∧ rs.length < sizeLine ∧ KAc CK K H k nm st es mv ∧ (cur, m) ∈ mv.map (·.1) ∧
  ∀ os, ((cur, m), os) ∈ mv → os ≠ [] ∧ ∀ os' : List (Str × Str), os'.Perm os → UpP os' → ∀ o, os'[optI os'.length ns used]? = some o → ∀ (H' : Hp) (q : Addr), But2 x an H H' → H q = none → H' x = some (.ins C dx (lflds k sts o.2 pk (optU os'.length ns used : Nat) an deep)) →
    H' an = some (.lst (rs ++ [.ref q])) → H' q = some (.tup [.str cur, .str m, .str o.1, .str o.2]) →
    (isYN o.1 = true → Q (.bl (decide (V.str o.1 = V.str "yes"))) H') ∧ (isYN o.1 = false → ∀ (H'' : Hp) (d : Addr), Same H' H'' → H' d = none → H'' d = some (.xd [("error", .str o.1)]) → E (.ref CM) (some d) H'')
theorem optI_lt {n : Nat} (h : 1 ≤ n) (ns : List Int) (used : Nat) : optI n ns used < n := by
  unfold optI
  split
  · omega
  · have h1 := Int.emod_lt_of_pos (ns[used]?.getD 0) (show (0 : Int) < n by omega)
    have h0 := Int.emod_nonneg (ns[used]?.getD 0) (show (n : Int) ≠ 0 by omega)
    omega
section
variable {P : Program} {w : World} {K : PySem.W.Frag} {mg : Str → Option Value} {base : Heap} {C CK CB CM fCh fIt fMs pS fS fOp fMI : Addr}
abbrev liveCN : List Str := ["self", "method", "outcomes", "word", "behind"]
theorem scL1 : FnScope liveCN ["self", "method"] (defScope (lMeth 1)) := ⟨rfl, rfl, rfl, by decide +kernel, rfl, by decide +kernel, by decide +kernel⟩
theorem ok_liveCall {f : Addr} {fd dI dO dM : FuncData} (F : Fun K "__call__" "Live.__call__" (lMeth 1) f fd) (T : TLive K mg C CK fCh fIt fMs pS fS fOp) (TE : TErr K mg "Met" "error" CM fMI)
    (GI : FnOk P w K mg base CX0 2 fIt dI ["self", "at"] (spItem2 K (KAc CK K))) (bI : Binds K dI ["self", "at"] [])
    (GO : FnOk P w K mg base CX0 1 fOp dO ["self", "many"] (spOption C K)) (bO : Binds K dO ["self", "many"] [])
    (GM : FnOk P w K mg base CX0 1 fMI dM ["self", "error"] (spErrI CM "error")) (bM : Binds K dM ["self", "error"] []) :
    FnOk P w K mg base (L2.CX P w) 4 f fd ["self", "method"] (spLiveCall C CK CM K) := by
  refine F.okX scL1 (fun vs H Q E h => ?_) (fun cdv A outer s H vs Q E hr h => ?_)
  · obtain ⟨x, dx, k, sts, pk, an, cur, m, ns, used, deep, rs, nm, st, es, mv, rfl, _⟩ := h
    rfl
  · obtain ⟨x, dx, k, sts, pk, an, cur, m, ns, used, deep, rs, nm, st, es, mv, rfl, hx, hpk, ul, han, room, ka, key, q⟩ := h
    refine ⟨_, pss_cons (ps_set (i := 2) scL1.nd rfl (.inl rfl) (pe_ownIx T.item GI (hr.mono (by omega)) bI pass0 (pe_fld (pv 0) rfl) (pe_tup (pa_cons (pe_fld (pv 0) rfl) (pa_cons (pv 1) pa_nil)))))
      (pss_cons (ps_if (pt_cmpR op_isN (pv 2) pe_non (nomark _)) (pss_one ps_never) pss_nil)
      (pss_cons (ps_if (pt_cmpR op_eq (pe_callB cr_lenRow (by rfl) T.len (by decide +kernel) (pa_cons (pv 2) pa_nil)) pe_int (nomark _)) (pss_one ps_never) pss_nil)
      (pss_cons (ps_asg (pe_ix ix_tup (pv 2) (pe_meth (pv 0) T.cl T.opt GO (hr.mono (by omega)) bO .nil pass0 (pa_cons (pe_callB cr_lenRow (by rfl) T.len (by decide +kernel) (pa_cons (pv 2) pa_nil)) pa_nil)) (fun _ _ => rfl))
        (pg_tup rfl (pgs_cons (pg_name (i := 3) scL1.nd rfl (.inl rfl)) (pgs_cons (pg_name (i := 4) scL1.nd rfl (.inl rfl)) pgs_nil))))
      (pss_cons (ps_expr (pe_bm PySem.F.plainAttrs_list PySem.F.slot_list_append PySem.F.type_list_append mt_append (pe_fld (pv 0) rfl) (pa_cons (pe_tup (pa_cons (pe_fld (pv 0) rfl) (pa_cons (pv 1) (pa_cons (pv 3) (pa_cons (pv 4) pa_nil))))) pa_nil)))
      (pss_cons (ps_fld (pv 0) (pv 4) rfl)
      (pss_cons (ps_if (PW.pt (pw_or (pt_cmpR op_eq (pv 3) pe_str (nomark _)) (pw_or1 (pt_cmpR op_eq (pv 3) pe_str (nomark _))))) (pss_one (ps_ret (pe_cmpR op_eq (pv 3) pe_str (nomark _)))) pss_nil)
      (pss_one (ps_raise rfl (takes_of rfl rfl rfl rfl) (pmk_oex TE.ox TE.iC TE.tI GM (hr.mono (by omega)) bM .nil pass0 (by rfl) TE.gC (pa_cons (pv 3) pa_nil)))))))))), ?_⟩
    have s1 : ∀ t, H t = none → Same H (upd H t (.tup [.str cur, .str m])) := fun t nt => same_upd nt
    refine ⟨_, rfl, x, C, dx, _, _, rfl, hx, T.cl, T.nKind, lf_kind _ _ _ _ _ _ _, ?_⟩
    refine ⟨_, rfl, x, C, dx, _, _, rfl, hx, T.cl, T.nState, lf_state _ _ _ _ _ _ _, _, rfl, (by show 2 ≤ sizeLine; decide), fun t nt => ?_⟩
    have s1 : Same H (upd H t (.tup [.str cur, .str m])) := same_upd nt
    have ht : (upd H t (.tup [.str cur, .str m])) t = some (.tup [.str cur, .str m]) := upd_same
    generalize upd H t (.tup [.str cur, .str m]) = H1 at s1 ht ⊢
    have ka1 := (kac_ok CK K).up s1 ka
    obtain ⟨dxk, fsk, hk1, _⟩ := (kac_ok CK K).ins ka1
    refine ⟨k, dxk, fsk, rfl, hk1, k, t, cur, m, nm, st, es, mv, rfl, ka1, ht, fun nin => (nin key).elim, fun os mem H2 tt ps s2 htt hps pm up => ?_⟩
    obtain ⟨ne, q⟩ := q os mem
    have s12 : Same H H2 := fun b u e => s2 b u (s1 b u e)
    clear s1 s2 ht
    have hx2 := s12 _ _ hx
    have l0 : 1 ≤ ps.length := by
      have h := pm.length_eq
      rw [List.length_map] at h
      cases os with
      | nil => exact (ne rfl).elim
      | cons o os => rw [h, List.length_cons]; omega
    refine ⟨_, rfl, rfl, _, rfl, iteF ?_⟩
    refine ⟨_, rfl, _, _, rfl, ⟨tt, rfl, .inr (.of htt)⟩, rfl, _, rfl, ?_⟩
    have ee : decide (V.int (((ps.map (·.1)).map V.ref).length : Nat) = V.int 0) = false := decide_eq_false fun z => by
      injection z with z
      rw [List.length_map, List.length_map] at z
      omega
    rw [ee]
    refine iteF ?_
    clear ee
    have em : ((ps.map (·.1)).map V.ref).length = ps.length := by rw [List.length_map, List.length_map]
    have hpk2 := sqT_up (Q9.Same.sq s12) hpk
    refine ⟨_, rfl, _, rfl, x, dx, _, rfl, hx2, lf_no _ _ _ _ _ _ _ _ (by decide +kernel) (by decide +kernel) (by decide +kernel) (by decide +kernel) (by decide +kernel) (by decide +kernel) (by decide +kernel), ?_⟩
    refine ⟨_, rfl, _, _, rfl, ⟨tt, rfl, .inr (.of htt)⟩, ?_⟩
    refine ⟨x, dx, k, sts, pk, an, cur, ns, used, deep, ps.length, (by rw [em]; rfl), hx2, hpk2, l0, ul, fun H3 b3 hx3 => ?_⟩
    have il := optI_lt l0 ns used
    obtain ⟨pp, hpp⟩ : ∃ pp, ps[optI ps.length ns used]? = some pp := ⟨_, List.getElem?_eq_getElem il⟩
    have q := q (ps.map (·.2)) pm up pp.2 (by rw [List.length_map, List.getElem?_map, hpp]; rfl)
    rw [List.length_map] at q
    have ntx : tt ≠ x := fun e => by rw [e, hx2] at htt; cases htt
    have nax : an ≠ x := fun e => by rw [e, hx] at han; cases han
    have htt3 := b3 _ _ ntx htt
    have han3 := b3 _ _ nax (s12 _ _ han)
    have hp3 : SqT K H3 pp.1 [.str pp.2.1, .str pp.2.2] := sqT_up (butIns b3 hx2) (hps pp (List.mem_of_getElem? hpp))
    have b03 : But2 x an H H3 := fun b u n1 n2 e => b3 b u n1 (s12 b u e)
    generalize optU ps.length ns used = us at hx3 q ⊢
    generalize optI ps.length ns used = ii at il hpp ⊢
    refine ⟨tt, _, _, .ref pp.1, rfl, rfl, .of htt3, atI_nat (by rw [List.getElem?_map, List.getElem?_map, hpp]; rfl), ?_⟩
    refine ⟨pp.1, _, rfl, hp3, rfl, _, _, rfl, _, _, rfl, rfl, ?_⟩
    refine ⟨_, rfl, x, C, dx, _, _, rfl, hx3, T.cl, T.nAns, lf_answered _ _ _ _ _ _ _, .inl ⟨rfl, _, SqL.of han3⟩, ?_⟩
    refine ⟨_, rfl, x, C, dx, _, _, rfl, hx3, T.cl, T.nState, lf_state _ _ _ _ _ _ _, _, rfl, _, rfl, _, rfl, (by show 4 ≤ sizeLine; decide), fun qa nq => ?_⟩
    have s4 := same_upd (o := .tup [.str cur, .str m, .str pp.2.1, .str pp.2.2]) nq
    refine ⟨an, rs, _, rfl, rfl, s4 _ _ han3, room, ?_⟩
    have nqa : qa ≠ an := fun e => by rw [e, han3] at nq; cases nq
    have nqx : qa ≠ x := fun e => by rw [e, hx3] at nq; cases nq
    have hx5 : upd (upd H3 qa (.tup [.str cur, .str m, .str pp.2.1, .str pp.2.2])) an (.lst (rs ++ [.ref qa])) x = some (.ins C dx (lflds k sts cur pk us an deep)) := by rw [upd_ne (Ne.symm nax)]; exact s4 _ _ hx3
    refine ⟨_, rfl, _, rfl, x, C, dx, _, rfl, hx5, T.cl, T.nState, Nat.lt_succ_of_lt (lf_len _ _ _ _ _ _ _), ?_⟩
    rw [lf_setState]
    generalize hG : upd (upd (upd H3 qa (.tup [.str cur, .str m, .str pp.2.1, .str pp.2.2])) an (.lst (rs ++ [.ref qa]))) x (.ins C dx (lflds k sts pp.2.2 pk us an deep)) = G
    have bG : But2 x an H G := fun b u n1 n2 e => by rw [← hG, upd_ne n1, upd_ne n2]; exact s4 _ _ (b03 b u n1 n2 e)
    have qx : G x = some (.ins C dx (lflds k sts pp.2.2 pk us an deep)) := by rw [← hG, upd_same]
    have qan : G an = some (.lst (rs ++ [.ref qa])) := by rw [← hG, upd_ne nax, upd_same]
    have qq : G qa = some (.tup [.str cur, .str m, .str pp.2.1, .str pp.2.2]) := by rw [← hG, upd_ne nqx, upd_ne nqa, upd_same]
    have hqa : H qa = none := by
      cases h : H qa with
      | none => rfl
      | some u => rw [b03 _ _ nqx nqa h] at nq; cases nq
    obtain ⟨y1, y2⟩ := q G qa bG hqa qx qan qq
    clear hG
    refine ⟨_, rfl, rfl, _, rfl, ?_⟩
    refine ite2 (fun c => ?_) (fun c => ?_)
    · exact ⟨_, rfl, rfl, y1 (by unfold isYN; rw [c]; rfl)⟩
    refine ⟨_, rfl, rfl, _, rfl, ?_⟩
    refine ite2 (fun c2 => ?_) (fun c2 => ?_)
    · exact ⟨_, rfl, rfl, y1 (by unfold isYN; rw [c2, Bool.or_true])⟩
    have y2 := y2 (by unfold isYN; rw [Bool.eq_false_iff.mpr c, Bool.eq_false_iff.mpr c2]; rfl)
    refine ⟨_, rfl, (by show 1 ≤ 1000; decide), fun a na => ⟨a, _, rfl, upd_same, fun d nd ne => ?_⟩⟩
    obtain ⟨r1, r2, r3, r4, r5⟩ := raised (C := CM) (fs := [("error", .str pp.2.1)]) (Same.refl G) na nd ne
    exact ⟨rfl, d, _, r1, r2, r3, y2 _ d r4 r5 upd_same⟩
/-- how many picks are left -/
def spLeft (C : Addr) (K : PySem.W.Frag) : Sp := fun vs H Q _ => ∃ (x dx k sts pk an : Addr) (cur : Str) (ns : List Int) (used : Nat) (deep : Int), vs = [.ref x] ∧ H x = some (.ins C dx (lflds k sts cur pk used an deep)) ∧ SqT K H pk (ns.map V.int) ∧ Q (.int ((ns.length : Int) - (used : Int))) H
theorem scL7 : FnScope ["self"] ["self"] (defScope (lMeth 7)) := ⟨rfl, rfl, rfl, by decide +kernel, rfl, by decide +kernel, by decide +kernel⟩
theorem ok_left {f : Addr} {fd : FuncData} (F : Fun K "left" "Live.left" (lMeth 7) f fd) (T : TLive K mg C CK fCh fIt fMs pS fS fOp) : FnOk P w K mg base CX0 1 f fd ["self"] (spLeft C K) := by
  refine F.ok scL7 (fun vs H Q E h => ?_) (fun cdv A outer s H vs Q E hr h => ?_)
  · obtain ⟨x, dx, k, sts, pk, an, cur, ns, used, deep, rfl, _⟩ := h
    rfl
  · obtain ⟨x, dx, k, sts, pk, an, cur, ns, used, deep, rfl, hx, hpk, q⟩ := h
    refine ⟨_, pss_one (ps_ret (pe_op op_sub (pe_callB cr_lenRow (by rfl) T.len (by decide +kernel) (pa_cons (pe_fld (pv 0) rfl) pa_nil)) (pe_fld (pv 0) rfl))), ?_⟩
    refine ⟨_, rfl, x, C, dx, _, _, rfl, hx, T.cl, T.nPicks, lf_picks _ _ _ _ _ _ _, _, _, rfl, ⟨pk, rfl, .inr hpk⟩, ?_⟩
    refine ⟨_, rfl, x, C, dx, _, _, rfl, hx, T.cl, T.nUsed, lf_used _ _ _ _ _ _ _, _, _, rfl, rfl, ?_⟩
    rw [List.length_map]
    exact q
/-- all that was answered, in a new list -/
def spTold (C : Addr) : Sp := fun vs H Q _ => ∃ (x dx k sts pk an : Addr) (cur : Str) (used deep : Int) (rs : List V), vs = [.ref x] ∧ H x = some (.ins C dx (lflds k sts cur pk used an deep)) ∧ H an = some (.lst rs) ∧ ∀ p, H p = none → Q (.ref p) (upd H p (.lst rs))
theorem scL9 : FnScope ["self"] ["self"] (defScope (lMeth 9)) := ⟨rfl, rfl, rfl, by decide +kernel, rfl, by decide +kernel, by decide +kernel⟩
theorem ok_told {f : Addr} {fd : FuncData} (F : Fun K "told" "Live.told" (lMeth 9) f fd) (T : TLive K mg C CK fCh fIt fMs pS fS fOp) : FnOk P w K mg base CX0 1 f fd ["self"] (spTold C) := by
  refine F.ok scL9 (fun vs H Q E h => ?_) (fun cdv A outer s H vs Q E hr h => ?_)
  · obtain ⟨x, dx, k, sts, pk, an, cur, used, deep, rs, rfl, _⟩ := h
    rfl
  · obtain ⟨x, dx, k, sts, pk, an, cur, used, deep, rs, rfl, hx, han, q⟩ := h
    refine ⟨_, pss_one (ps_ret (pe_callTy cr_listRow (by rfl) T.lst (by decide +kernel) (pa_cons (pe_fld (pv 0) rfl) pa_nil))), ?_⟩
    exact ⟨_, rfl, x, C, dx, _, _, rfl, hx, T.cl, T.nAns, lf_answered _ _ _ _ _ _ _, _, _, rfl, ⟨an, rfl, .inl (.of han)⟩, q⟩
end
end Q9
end
-- QBad
section
set_option maxRecDepth 100000
set_option maxHeartbeats 4000000
namespace Q9
open PySem L2
/-! isinstance of a caught error that has fields: both answers -/
structure ExcX (K : PySem.W.Frag) (D : Addr) : Prop where
  cl : (PySem.W.clsIn K D).isSome = true
  ga : PySem.W.findIn K (.ref D) "__getattribute__" = some (some (.builtin "BaseException.__getattribute__"))
  gt : PySem.W.findIn K (.ref D) "__getattr__" = some none
  sub : PySem.W.subIn K (.ref D) (.type "BaseException") = some true
  ha : PySem.W.findIn K (.ref D) "__class__" = some (some (.builtin "object.__class__"))
  hn : PySem.W.specialIn K (.builtin "object.__class__") "__get__" = some (some (.builtin "getset_descriptor.__get__"))
  ht : PySem.W.takesIn K (.builtin "object.__class__") = some true
  hm : PySem.W.mroIn K D (.type "object") = some true
theorem call_isX {X : Cx} {a D : Addr} {oe : Obj} {cls : Value} {d : Option Addr} {pn : List (Addr × Obj)} (C : ExcX X.K D) (hz : Zc cls d oe) (hf : ∃ vs, oe.data = .fields vs) : CallR (X.suite a ((a, oe) :: pn)) (.builtin "isinstance")
    (fun xs H Q => cls = .ref D ∧ ∃ (C2 : Addr) (b : Bool), xs = [.ref a, .ref C2] ∧ PySem.W.kitOne X.K (.ref D) (.ref C2) = some b ∧ (∃ dd fs, d = some dd ∧ H dd = some (.xd fs)) ∧ Q (.bl b) H) := by
  rintro pins s σ H xs us Q I r ⟨ec, C2, b, rfl, e, ⟨dd, fs, ed, ea⟩, q⟩
  subst ec ed
  cases r with
  | @cons v u vs us r1 r2 =>
  cases r2 with
  | @cons v2 u2 vs2 us2 r3 r4 =>
  cases r4
  obtain rfl : u = Value.ref a := r1
  obtain rfl : u2 = Value.ref C2 := r3
  have at_ : s.heap.get? a = some oe := (I.pin (a, oe) (by simp)).1
  obtain ⟨mA, hns, hr⟩ := (show ObjOk X.prog X.w H s.heap dd (.xd fs) from I.hok dd _ ea)
  obtain ⟨od, ho, hl⟩ := lookIn_ns hns
  obtain ⟨ws, hd⟩ := hf
  have J : PySem.W.InstAt s.heap a oe D (some od) := ⟨at_, hz.1, by unfold PySem.W.notCls; rw [hd] <;> rfl, by rw [hz.2]; exact ho⟩
  exact PySem.W.kia_one (PySem.W.kitx_exc C.cl C.ga C.gt C.sub C.ha C.hn C.ht C.hm) I.kIn J e (fun z => nomatch z) fun tk => ⟨.bl b, H, I.kept (t' := tk) fun _ _ z => z, rfl, q⟩
def spBad (CK : Addr) (K : PySem.W.Frag) : Sp := fun vs H Q _ => ∃ (k : Addr) (r : V) (nm st : Str) (es : List Str) (mv : Mv) (ns : List Int) (i : Int), vs = [.ref k, r] ∧ KAc CK K H k nm st es mv ∧ Choices K H r ns (some i) ∧ ∀ H', Same H H' → Q (.int i) H'
structure TBad (K : PySem.W.Frag) (mg : Str → Option Value) (C CR CB CH CN fI : Addr) : Prop where
  gR : mg "RightError" = some (.ref CR)
  gH : mg "BadHistory" = some (.ref CH)
  gN : mg "NoMethod" = some (.ref CN)
  gB : mg "BadChoices" = some (.ref CB)
  gL : mg "Live" = some (.ref C)
  mkL : Mk K C fI
  isi : mg "isinstance" = none
  ex : ExcX K CB
  xf : XfC K CB
  noIx : PySem.W.findIn K (.ref CB) "index" = some none
  te : PySem.W.exmOne K (.ref CB) (.ref CR) = some true
  kH : PySem.W.kitOne K (.ref CB) (.ref CH) = some false
  kN : PySem.W.kitOne K (.ref CB) (.ref CN) = some false
  kB : PySem.W.kitOne K (.ref CB) (.ref CB) = some true
section
variable {P : Program} {w : World} {K : PySem.W.Frag} {mg : Str → Option Value} {base : Heap} {C CK CR CB CH CN fI : Addr}
abbrev badN : List Str := ["_law_kind", "_law_picks", "e"]
theorem scBd : FnScope badN ["_law_kind", "_law_picks"] (defScope sBad) := ⟨rfl, rfl, rfl, by decide +kernel, rfl, by decide +kernel, by decide +kernel⟩
theorem ok_bad {f : Addr} {fd dI : FuncData} (F : Fun K "_law_bad" "_law_bad" sBad f fd) (T : TBad K mg C CR CB CH CN fI)
    (GI : FnOk P w K mg base (L2.CX P w) 4 fI dI liveIN (spLiveI C CK CB K)) (bI : Binds K dI liveIN []) :
    FnOk P w K mg base CX0 6 f fd ["_law_kind", "_law_picks"] (spBad CK K) := by
  refine F.ok scBd (fun vs H Q E h => ?_) (fun cdv A outer s H vs Q E hr h => ?_)
  · obtain ⟨k, r, nm, st, es, mv, ns, i, rfl, _⟩ := h
    rfl
  · obtain ⟨k, r, nm, st, es, mv, ns, i, rfl, ka, hh, q⟩ := h
    refine ⟨_, pss_one (ps_try_as (i := 2) rfl rfl scBd.nd rfl rfl ⟨rfl, by decide, .inl T.gR⟩ takes0
      (fun W pn xe tk _ => pss_cons (ps_expr (pe_makeS T.mkL GI (hr.mono (by omega)) (by rfl) T.gL bI (fun σ => passAt tk σ) (pa_cons (pv 0) (pa_cons (pv 1) pa_nil)))) (pss_one (ps_ret pe_non)))
      (fun a oe cls d pn hz hf => pss_cons (ps_if (PW.pt (pw_or (pt_val (pe_callB (call_isX T.ex hz hf) (by rfl) T.isi (by decide +kernel) (pa_cons (pv 2) (pa_cons (pe_glob (v := .ref CH) (by rfl) T.gH rfl) pa_nil))))
          (pw_or (pt_val (pe_callB (call_isX T.ex hz hf) (by rfl) T.isi (by decide +kernel) (pa_cons (pv 2) (pa_cons (pe_glob (v := .ref CN) (by rfl) T.gN rfl) pa_nil))))
          (pw_or1 (pt_not (pt_val (pe_callB (call_isX T.ex hz hf) (by rfl) T.isi (by decide +kernel) (pa_cons (pv 2) (pa_cons (pe_glob (v := .ref CB) (by rfl) T.gB rfl) pa_nil))))))))) (pss_one (ps_ret pe_str)) pss_nil)
        (pss_one (ps_ret (pe_xf T.xf T.noIx hz hf (pv 2)))))), ?_⟩
    refine ⟨_, rfl, _, rfl, fun x dx nx ndx ne => ?_⟩
    have s1 : Same H (upd (upd H dx (.own x)) x (.ins C dx [])) := fun b o e => by
      rw [upd_ne (ne_of_none e nx), upd_ne (ne_of_none e ndx)]
      exact e
    refine ⟨x, dx, k, H, r, nm, st, es, mv, ns, some i, rfl, upd_same, by rw [upd_ne ne, upd_same], s1, nx, ka, hh, (fun z => nomatch z), fun j hj H' d sm nd at_ => ?_⟩
    cases hj
    refine ⟨true, T.te, fun _ a na => ?_, fun z => Bool.noConfusion z⟩
    refine ⟨_, rfl, rfl, CH, false, rfl, T.kH, ⟨d, _, rfl, at_⟩, _, rfl, iteF ?_⟩
    refine ⟨_, rfl, rfl, CN, false, rfl, T.kN, ⟨d, _, rfl, at_⟩, _, rfl, iteF ?_⟩
    refine ⟨_, rfl, rfl, CB, true, rfl, T.kB, ⟨d, _, rfl, at_⟩, _, rfl, iteF ?_⟩
    exact ⟨_, rfl, rfl, rfl, d, _, .int i, rfl, at_, rfl, q H' sm⟩
end
end Q9
end
-- QDp
section
set_option maxRecDepth 100000
set_option maxHeartbeats 4000000
namespace Q9
open PySem L2
theorem inV_strs (z : Str) (l : List Str) : inV (.str z) (l.map V.str) = decide (z ∈ l) := by
  unfold inV
  induction l with
  | nil => rfl
  | cons y l ih =>
    rw [List.map_cons, List.any_cons, ih]
    have e : eqV (.str y) (.str z) = decide (z = y) := by
      show (y == z) = _
      rw [Bool.eq_iff_iff, beq_iff_eq, decide_eq_true_iff]
      exact eq_comm
    rw [e, Bool.eq_iff_iff]
    simp [List.mem_cons]
theorem flat_strs (l : List Str) : (l.map V.str).all flatV = true := by
  rw [List.all_eq_true]
  intro x hx
  obtain ⟨y, _, rfl⟩ := List.mem_map.mp hx
  rfl
section
variable {K : PySem.W.Frag} {H : Hp}
def dStrs (l : List Str) : List PyData := l.map PyData.str
theorem dp_strs : ∀ l : List Str, DpAll K H (l.map V.str) (dStrs l)
  | [] => .nil
  | x :: l => .cons (.str x) (dp_strs l)
theorem dp_lst {a : Addr} {l : List Str} (h : H a = some (.lst (l.map V.str))) : Dp K H (.ref a) (.list (dStrs l)) := .lst (.of h) (dp_strs l)
theorem dp_tup {a : Addr} {l : List Str} (h : H a = some (.tup (l.map V.str))) : Dp K H (.ref a) (.tuple (dStrs l)) := .tup (.of h) (dp_strs l)
end
def Oks (l : List Str) : Prop := ∀ z ∈ l, PyData.canLay0 (.str z) = true
theorem lay_strs : ∀ {l : List Str}, Oks l → PyData.canLayAll0 (dStrs l) = true ∧ PyData.depthAll (dStrs l) = 0
  | [], _ => ⟨by simp [dStrs, PyData.canLayAll0], by simp [dStrs, PyData.depthAll]⟩
  | x :: l, h => by
    obtain ⟨h1, h2⟩ := lay_strs (l := l) fun z hz => h z (List.mem_cons_of_mem _ hz)
    have h0 := h x List.mem_cons_self
    constructor
    · show PyData.canLayAll0 (.str x :: dStrs l) = true
      rw [PyData.canLayAll0, h0, h1]
      rfl
    · show PyData.depthAll (.str x :: dStrs l) = 0
      rw [PyData.depthAll, h2]
      rfl
theorem shaped_lst {l : List Str} (h : Oks l) : SeqAt.shaped (.list (dStrs l)) = true := by
  obtain ⟨h1, h2⟩ := lay_strs h
  unfold SeqAt.shaped
  rw [PyData.canLay0, h1, PyData.depth, h2]
  rfl
theorem shaped_tup {l : List Str} (h : Oks l) : SeqAt.shaped (.tuple (dStrs l)) = true := by
  obtain ⟨h1, h2⟩ := lay_strs h
  unfold SeqAt.shaped
  rw [PyData.canLay0, h1, PyData.depth, h2]
  rfl
def dPair (o : Str × Str) : PyData := .tuple [.str o.1, .str o.2]
theorem lay_pairs : ∀ {l : List (Str × Str)}, (∀ o ∈ l, PyData.canLay0 (.str o.1) = true ∧ PyData.canLay0 (.str o.2) = true) → PyData.canLayAll0 (l.map dPair) = true ∧ PyData.depthAll (l.map dPair) ≤ 1
  | [], _ => ⟨by simp [PyData.canLayAll0], by simp [PyData.depthAll]⟩
  | x :: l, h => by
    obtain ⟨h1, h2⟩ := lay_pairs (l := l) fun z hz => h z (List.mem_cons_of_mem _ hz)
    obtain ⟨h3, h4⟩ := h x List.mem_cons_self
    constructor
    · show PyData.canLayAll0 (.tuple [.str x.1, .str x.2] :: l.map dPair) = true
      rw [PyData.canLayAll0, h1, PyData.canLay0, PyData.canLayAll0, h3, PyData.canLayAll0, h4]
      simp [PyData.canLayAll0]
    · show PyData.depthAll (.tuple [.str x.1, .str x.2] :: l.map dPair) ≤ 1
      rw [PyData.depthAll]
      have e : PyData.depth (.tuple [.str x.1, .str x.2]) = 1 := by simp [PyData.depth, PyData.depthAll]
      rw [e]
      exact Nat.max_le.mpr ⟨Nat.le_refl _, h2⟩
theorem shaped_pairs {l : List (Str × Str)} (h : ∀ o ∈ l, PyData.canLay0 (.str o.1) = true ∧ PyData.canLay0 (.str o.2) = true) : SeqAt.shaped (.tuple (l.map dPair)) = true := by
  obtain ⟨h1, h2⟩ := lay_pairs h
  unfold SeqAt.shaped
  rw [PyData.canLay0, h1, PyData.depth, Bool.true_and, decide_eq_true_iff]
  omega
theorem same_data {d : PyData} (h : SeqAt.shaped d = true) : (!PyData.eqv d d) = false := by
  rw [SeqAt.eqv_refl d (SeqAt.canLay_of_shaped h)]
  rfl
section
variable {K : PySem.W.Frag} {H : Hp}
theorem dp_refs : ∀ {ps : List (Addr × Str × Str)}, (∀ p ∈ ps, SqT K H p.1 [.str p.2.1, .str p.2.2]) → DpAll K H ((ps.map (·.1)).map V.ref) ((ps.map (·.2)).map dPair)
  | [], _ => .nil
  | p :: ps, h => .cons (.tup (h p List.mem_cons_self) (.cons (.str _) (.cons (.str _) .nil))) (dp_refs fun q hq => h q (List.mem_cons_of_mem _ hq))
theorem dp_pairs {a : Addr} {ps : List (Addr × Str × Str)} (h : H a = some (.tup ((ps.map (·.1)).map V.ref))) (f : ∀ p ∈ ps, SqT K H p.1 [.str p.2.1, .str p.2.2]) : Dp K H (.ref a) (.tuple ((ps.map (·.2)).map dPair)) := .tup (.of h) (dp_refs f)
end
theorem cut_sub (l : List Str) (lo hi : Option Int) : ∃ es : List Str, cutV (l.map V.str) lo hi = es.map V.str ∧ es.Sublist l := by
  unfold cutV
  rw [← List.map_drop, ← List.map_take]
  exact ⟨_, rfl, (List.take_sublist _ _).trans (List.drop_sublist _ _)⟩
section
variable {K : PySem.W.Frag} {H H' : Hp} {l : Addr}
theorem sqL_del (w : Well H l) {a : Addr} {v : Addr} {xs : List V} (h : SqL K H a (.ref v :: xs)) : SqL K (del H l) a (.ref v :: xs) := by
  obtain ⟨x, y, z, e, _⟩ := w
  rcases h with (h | ⟨o, h⟩) | h
  · exact .inl (.inl (by rw [del_ne (fun c => by rw [c, e] at h; cases h)]; exact h))
  · exact .inl (.inr ⟨o, by rw [del_ne (fun c => by rw [c, e] at h; cases h)]; exact h⟩)
  · exact .inr h
theorem outsT_del (w : Well H l) {v : V} {os : List (Str × Str)} (ne : os ≠ []) (h : OutsT K H v os) : OutsT K (del H l) v os := by
  obtain ⟨vs, ⟨a, e, r⟩, p⟩ := h
  refine ⟨vs, ⟨a, e, ?_⟩, L2.Paired.mapP p fun _ _ ⟨q, e, h⟩ => ⟨q, e, sqT_del w h⟩⟩
  cases p with
  | nil => exact (ne rfl).elim
  | cons h1 t =>
    obtain ⟨q, rfl, _⟩ := h1
    exact r.imp (sqL_del w) (sqT_del w)
theorem moves_del (w : Well H l) {kvs : List (List Key × V)} {mv : Mv} (M : Moves K H kvs mv) (ne : ∀ e ∈ mv, e.2 ≠ []) : Moves K (del H l) kvs mv := by
  refine ⟨M.nd, ?_⟩
  have key : ∀ {kvs : List (List Key × V)} {mv : Mv}, Paired (EntT K H) kvs mv → (∀ e ∈ mv, e.2 ≠ []) → Paired (EntT K (del H l)) kvs mv := by
    intro kvs mv p
    induction p with
    | nil => intro _; exact .nil
    | @cons kv e a b h t ih => exact fun ne => .cons ⟨h.1, outsT_del w (ne e List.mem_cons_self) h.2⟩ (ih fun x hx => ne x (List.mem_cons_of_mem _ hx))
  exact key M.ent ne
end
end Q9
end
-- QMixed
section
set_option maxRecDepth 100000
set_option maxHeartbeats 4000000
namespace Q9
open PySem L2
/-- what is wanted behind a test, told ahead -/
theorem pt_mono {X : Cx} {e : Expr} {t : TT} (he : PT X e t) : PT X e (fun σ H Q => ∃ R : Bool → Hp → Prop, t σ H R ∧ ∀ b H1, R b H1 → Q b H1) :=
  ⟨fun pins s σ H Q I ⟨R, h, imp⟩ => thn (he.run pins s σ H R I h) fun v s1 ⟨H1, I1, q1⟩ => ⟨H1, I1, imp _ _ q1⟩⟩
theorem ne_nil {ws : List Str} : (!PyData.eqv (.list (dStrs ws)) (.list (dStrs []))) = !ws.isEmpty := by
  cases ws with
  | nil => simp [dStrs, PyData.eqv, PyData.eqvAll]
  | cons a l => simp [dStrs, PyData.eqv, PyData.eqvAll]
theorem sqL_but {K : PySem.W.Frag} {l m : Addr} {xs : List V} {H H' : Hp} (b : But l H H') (n : m ≠ l) (h : SqL K H m xs) : SqL K H' m xs := by
  rcases h with (h | ⟨o, h⟩) | h
  · exact .inl (.inl (b _ _ n h))
  · exact .inl (.inr ⟨o, b _ _ n h⟩)
  · exact .inr h
/-- some texts in another order -/
def spMixed (K : PySem.W.Frag) : Sp := fun vs H Q _ => ∃ (l m : Addr) (ws : List Str), vs = [.ref l, .ref m] ∧ Well H l ∧ SqL K H m (ws.map V.str) ∧ ws.length ≤ 1000 ∧ Oks ws ∧
  ∀ (H' : Hp) (p : Addr) (ys : List Str), But l H H' → Well H' l → H p = none → p ≠ l → H' p = some (.lst (ys.map V.str)) → ys.Perm ws → Q (.ref p) H'
structure TMixed (K : PySem.W.Frag) (mg : Str → Option Value) (fD : Addr) : Prop where
  lst : mg "list" = none
  len : mg "len" = none
  gD : mg "_law_next" = some (.ref fD)
  kD : PySem.W.keepIn K (.ref fD) = true
theorem map_erase {α β : Type} (f : α → β) : ∀ (l : List α) (i : Nat), (l.map f).eraseIdx i = (l.eraseIdx i).map f
  | [], _ => rfl
  | _ :: _, 0 => rfl
  | x :: l, i + 1 => by
    rw [List.map_cons, List.eraseIdx_cons_succ, map_erase f l i, List.eraseIdx_cons_succ, List.map_cons]
theorem perm_erase {α : Type} : ∀ {l : List α} {i : Nat} {z : α}, l[i]? = some z → (z :: l.eraseIdx i).Perm l
  | x :: l, 0, z, h => by
    obtain rfl : x = z := by simpa using h
    exact List.Perm.refl _
  | x :: l, i + 1, z, h => by
    have ih := perm_erase (l := l) (i := i) (z := z) (by simpa using h)
    rw [List.eraseIdx_cons_succ]
    exact (List.Perm.swap x z _).trans (List.Perm.cons x ih)
theorem seqIx {r : Int} {n : Nat} (h0 : 0 ≤ r) (h1 : r < n) : seqIndex? r n = some r.toNat := by
  unfold seqIndex?
  have e : (if r < 0 then r + (n : Int) else r) = r := if_neg (by omega)
  simp only [e]
  rw [if_pos (by simp; omega)]
/-- what stands while the left ones go over to the found ones -/
structure MSt (l L F : Addr) (ws left found : List Str) (H H' : Hp) : Prop where
  but : But l H H'
  well : Well H' l
  atL : H' L = some (.lst (left.map V.str))
  atF : H' F = some (.lst (found.map V.str))
  newL : H L = none
  newF : H F = none
  nLF : L ≠ F
  nL : L ≠ l
  nF : F ≠ l
  perm : (found ++ left).Perm ws
theorem MSt.same {l L F : Addr} {ws left found : List Str} {H H' H2 : Hp} (h : MSt l L F ws left found H H') (s : Same H' H2) : MSt l L F ws left found H H2 :=
  ⟨fun b u ne e => s _ _ (h.but b u ne e), (by obtain ⟨a, b, c, h1, h2⟩ := h.well; exact ⟨a, b, c, s _ _ h1, h2⟩), s _ _ h.atL, s _ _ h.atF, h.newL, h.newF, h.nLF, h.nL, h.nF, h.perm⟩
theorem MSt.draw {l L F : Addr} {ws left found : List Str} {H H' : Hp} {o : HO} (h : MSt l L F ws left found H H') (w : Well (upd H' l o) l) : MSt l L F ws left found H (upd H' l o) :=
  ⟨fun b u ne e => by rw [upd_ne ne]; exact h.but b u ne e, w, by rw [upd_ne h.nL]; exact h.atL, by rw [upd_ne h.nF]; exact h.atF, h.newL, h.newF, h.nLF, h.nL, h.nF, h.perm⟩
theorem MSt.go {l L F : Addr} {ws left found : List Str} {H H' : Hp} {i : Nat} {z : Str} (h : MSt l L F ws left found H H') (hz : left[i]? = some z) : MSt l L F ws (left.eraseIdx i) (found ++ [z]) H (upd (upd H' L (.lst ((left.map V.str).eraseIdx i))) F (.lst (found.map V.str ++ [.str z]))) := by
  refine ⟨fun b u ne e => ?_, ?_, ?_, ?_, h.newL, h.newF, h.nLF, h.nL, h.nF, ?_⟩
  · rw [upd_ne (ne_of_none e h.newF), upd_ne (ne_of_none e h.newL)]
    exact h.but b u ne e
  · obtain ⟨a, b, c, h1, h2⟩ := h.well
    exact ⟨a, b, c, by rw [upd_ne (Ne.symm h.nF), upd_ne (Ne.symm h.nL)]; exact h1, h2⟩
  · rw [upd_ne h.nLF, upd_same, map_erase]
  · rw [upd_same, List.map_append]
    rfl
  · rw [List.append_assoc]
    exact (List.Perm.append_left found (perm_erase hz)).trans h.perm
section
variable {P : Program} {w : World} {K : PySem.W.Frag} {mg : Str → Option Value} {base : Heap} {fD : Addr}
abbrev mixN : List Str := ["_law_source", "_law_some", "_law_left", "_law_found"]
theorem scMx : FnScope mixN ["_law_source", "_law_some"] (defScope sMixed) := ⟨rfl, rfl, rfl, by decide +kernel, rfl, by decide +kernel, by decide +kernel⟩
theorem ok_mixed {f : Addr} {fd dD : FuncData} (F : Fun K "_law_mixed" "_law_mixed" sMixed f fd) (T : TMixed K mg fD)
    (GD : FnOk P w K mg base CX0 1 fD dD ["_law_source", "_law_many"] spDraw) (bD : Binds K dD ["_law_source", "_law_many"] []) :
    FnOk P w K mg base CX0 2 f fd ["_law_source", "_law_some"] (spMixed K) := by
  refine F.ok scMx (fun vs H Q E h => ?_) (fun cdv A outer s H vs Q E hr h => ?_)
  · obtain ⟨l, m, ws, rfl, _⟩ := h
    rfl
  · obtain ⟨l, m, ws, rfl, hw, hm, len, oks, q⟩ := h
    have hu64 := hr.units
    refine ⟨_, pss_cons (ps_par (i := 2) (j := 3) (by rfl) scMx.nd rfl rfl (by decide) rfl rfl (pa_cons (pe_callTy cr_listRow (by rfl) T.lst (by decide +kernel) (pa_cons (pv 1) pa_nil)) (pa_cons (pe_lst pa_nil) pa_nil)) (by rfl))
      (pss_cons (ps_while PassesOwn.never (pt_mono (pt_cmpR (op_neD hu64) (pv 2) (pe_lst pa_nil) (nomark _)))
        (pss_one (ps_expr (pe_bm PySem.F.plainAttrs_list PySem.F.slot_list_append PySem.F.type_list_append mt_append (pv 3)
          (pa_cons (pe_bm PySem.F.plainAttrs_list PySem.F.slot_list_pop PySem.F.type_list_pop mt_popAt (pv 2)
            (pa_cons (pe_call GD (hr.mono (by omega)) (by rfl) T.gD T.kD bD .nil pass0 (pa_cons (pv 0) (pa_cons (pe_callB call_len (by rfl) T.len (by decide +kernel) (pa_cons (pv 2) pa_nil)) pa_nil))) pa_nil)) pa_nil)))))
      (pss_one (ps_ret (pv 3)))), ?_⟩
    refine ⟨_, rfl, _, _, rfl, ⟨m, rfl, .inl hm⟩, fun L nL => ⟨(by show 0 ≤ sizeLine; decide), fun F nF => ⟨_, _, rfl, ?_⟩⟩⟩
    have sL := same_upd (o := .lst (ws.map V.str)) nL
    have sF := same_upd (o := .lst []) nF
    have st0 : MSt l L F ws ws [] H (upd (upd H L (.lst (ws.map V.str))) F (.lst [])) := by
      obtain ⟨a, b, c, h1, h2⟩ := id hw
      have nLF : L ≠ F := fun e => by rw [← e, upd_same] at nF; cases nF
      refine ⟨fun b u ne e => sF _ _ (sL _ _ e), ⟨a, b, c, sF _ _ (sL _ _ h1), h2⟩, sF _ _ upd_same, upd_same, nL, ?_, nLF, (fun e => by rw [e, h1] at nL; cases nL), ?_, List.Perm.refl _⟩
      · rw [upd_ne (Ne.symm nLF)] at nF; exact nF
      · intro e
        rw [e, sL _ _ h1] at nF
        cases nF
    generalize upd (upd H L (.lst (ws.map V.str))) F (.lst []) = H0 at st0 ⊢
    clear sL sF nF nL
    dsimp only [tSeq]
    refine while_by (fun σ H' => ∃ left found, σ = [some (.ref l), some (.ref m), some (.ref L), some (.ref F)] ∧ MSt l L F ws left found H H') (fun σ H' => match H' L with
      | some (.lst xs) => xs.length
      | _ => 0) ⟨_, _, rfl, st0⟩ ?_ (fun σ H Q Q' im h => by obtain ⟨R, h, i⟩ := h; exact ⟨R, h, fun b H1 r => im _ _ (i _ _ r)⟩)
    rintro σ H1 ⟨left, found, rfl, st⟩
    have oksL : Oks left := fun z hz => oks z (st.perm.subset (List.mem_append_right _ hz))
    have lenL : left.length ≤ 1000 := by
      have := st.perm.length_eq
      rw [List.length_append] at this
      omega
    have lenF : found.length ≤ 1000 := by
      have := st.perm.length_eq
      rw [List.length_append] at this
      omega
    refine ⟨fun b H2 => b = !left.isEmpty ∧ MSt l L F ws left found H H2, ⟨_, rfl, (by show 0 ≤ sizeLine; decide), fun p np => ?_⟩, ?_⟩
    · have st' := st.same (same_upd (o := .lst []) np)
      refine ⟨_, _, dp_lst st'.atL, dp_lst (l := []) upd_same, shaped_lst oksL, shaped_lst (l := []) (fun _ h => nomatch h), _, rfl, ?_⟩
      exact ⟨ne_nil, st'⟩
    · rintro b H2 ⟨rfl, st2⟩
      have mu1 : (match H1 L with
        | some (.lst xs) => xs.length
        | _ => 0) = left.length := by rw [st.atL]; exact List.length_map ..
      rw [mu1]
      cases left with
      | nil =>
        refine iteF ⟨_, rfl, q H2 F found st2.but st2.well st2.newF st2.nF st2.atF ?_⟩
        have := st2.perm
        rwa [List.append_nil] at this
      | cons z0 left0 =>
        generalize hleft : z0 :: left0 = left at st2 oksL lenL ⊢
        have pos : 0 < left.length := by rw [← hleft, List.length_cons]; omega
        have e0 : (!left.isEmpty) = true := by rw [← hleft]; rfl
        rw [e0]
        refine iteT ⟨_, rfl, .inl ⟨rfl, _, SqL.of st2.atF⟩, _, rfl, .inl ⟨rfl, _, SqL.of st2.atL⟩, _, rfl, _, rfl, _, _, rfl, .inl ⟨_, .of st2.atL, rfl⟩, ?_⟩
        refine ⟨l, _, rfl, st2.well, (by rw [List.length_map]; omega), (by rw [List.length_map]; omega), fun r o r0 r1 w' => ?_⟩
        rw [List.length_map] at r1
        have st3 := st2.draw w'
        have hr : r.toNat < left.length := by omega
        refine ⟨L, _, r, r.toNat, .str left[r.toNat], rfl, rfl, st3.atL, (by omega), (by omega), seqIx r0 (by rw [List.length_map]; exact r1), (by rw [List.getElem?_map, List.getElem?_eq_getElem hr]; rfl), ?_⟩
        have st4 := st3.go (List.getElem?_eq_getElem hr)
        refine ⟨F, _, _, rfl, rfl, (by rw [upd_ne (Ne.symm st3.nLF)]; exact st3.atF), (by rw [List.length_map]; exact Nat.lt_of_le_of_lt lenF (by decide)), ⟨_, _, rfl, st4⟩, ?_⟩
        show (match (upd _ F _) L with
          | some (.lst xs) => xs.length
          | _ => 0) < _
        rw [st4.atL]
        show ((left.eraseIdx r.toNat).map V.str).length < left.length
        rw [List.length_map, List.length_eraseIdx, if_pos hr]
        omega
end
end Q9
end
-- QDisp
section
set_option maxRecDepth 100000
set_option maxHeartbeats 4000000
/-! {(a, b): v}: a dict of one entry, its key a tuple -/
namespace Q9
open PySem PySem.Spec PyProof.Rows L2
def tDisp1T (tk tv : TE) : TE := fun σ H Q => ∀ p, H p = none → tk σ (upd H p (.dT [])) fun y H1 => tv σ H1 fun v H2 => ∃ (b : Addr) (ks : List Key), y = .ref b ∧ H2 b = some (.tup (ks.map kV)) ∧ H2 p = some (.dT []) ∧ Q (.ref p) (upd H2 p (.dT [(ks, v)]))
theorem pe_disp1T {X : Cx} {pos : Pos} {k v : Expr} {tk tv : TE} (hu : X.A.units + 1 < cLine) (hk : PE X k tk) (hv : PE X v tv) : PE X (.Dict [some k] [v] pos) (tDisp1T tk tv) := by
  refine ⟨fun pins s σ H Q I q => ?_⟩
  have hn := I.hok.fresh (Nat.le_refl s.heap.objs.size)
  have I1 := I.laid (a := s.heap.objs.size) (o := .dT []) (h' := s.heap.push { cls := .type "dict", data := .dict #[] }) (t' := s.toks) (fun _ _ q => Heap.get?_push_of_some _ q) (Nat.le_refl _) (dt_empty s.heap I.big)
  rw [arm_eval_Dict, zip_pairTrees [some k] [v] X.env pos rfl rfl, dictDisplay_pairs (pairTrees [some k] [v] X.env pos) (fun h => by cases h) (by show 1 < 17; decide)]
  refine wpAny_bind (wpAny_standAt (wpAny_bind (wpAny_subDictH (knd := tupleKind (mixKind X.prog X.w)) (Q := fun d s' => wpAny (model X.prog X.w) X.A (pure (Value.ref d)) (EP X pins σ Q) X.xe s') ?_ (by show 1 ≤ 15; decide) ?_)))
  · show X.A.units < cLine
    omega
  · refine wpAny_mono ((pps_cons hk hv pps_nil).run pins _ σ _ (fun ps H2 => match ps with
      | [(y, v)] => ∃ (b : Addr) (ks : List Key), y = .ref b ∧ H2 b = some (.tup (ks.map kV)) ∧ H2 s.heap.objs.size = some (.dT []) ∧ Q (.ref s.heap.objs.size) (upd H2 s.heap.objs.size (.dT [(ks, v)]))
      | _ => False) I1 (q _ hn)) (fun ws s2 ⟨ps, H2, I2, rel, q2⟩ => ?_) fun _ _ e => e
    match ps, rel, q2 with
    | [(y, v)], rel, ⟨b, ks, ey, eb, ed, q2⟩ =>
      cases rel with
      | @cons p1 p2 l1 l2 r1 rr =>
        cases rr
        obtain ⟨wk, wv⟩ := p2
        obtain ⟨rk, rv⟩ := r1
        simp only at rk rv
        subst ey
        obtain rfl : wk = Value.ref b := rk
        obtain ⟨z, hd, xs, rel, dd⟩ := dt_of I2.hok ed
        have ex : xs = [] := by cases rel; rfl
        subst ex
        refine ⟨[(ks, b, wv)], ⟨rfl, rfl, key_of I2.hok eb, trivial⟩, dd, fun h' tk dd' hs => wpAny_pure ⟨.ref s.heap.objs.size, _, ?_, rfl, q2⟩⟩
        have hl : (putK ([] : List (List Key × V)) ks v).length ≤ sizeLine := by show 1 ≤ sizeLine; decide
        obtain ⟨o, es, ep, hq, h2, h3, h4, _, h5⟩ := dd'
        refine d_write I2 (by rw [ed]; exact True.intro) hs ⟨o, hq⟩ ⟨hl, hd, _, (rel.put ks eb rv).keeps fun c ys ec => ?_, o, es, ep, hq, h2, h3, h4, h5⟩
        rw [upd_ne (ne_of ec ed (fun z => nomatch z))]
        exact ec
end Q9
end
-- QLet
section
set_option maxRecDepth 100000
set_option maxHeartbeats 4000000
namespace Q9
open PySem L2
/-! ### words of small letters -/
/-- up to n small letters -/
def LP (n : Nat) (z : Str) : Prop := z.length ≤ n ∧ ∀ c ∈ z.cps.toList, 97 ≤ c ∧ c < 123
def LW (z : Str) : Prop := 1 ≤ z.length ∧ LP 8 z
theorem letters_tab : ∀ c < 123, 97 ≤ c → Unicode.isAlpha c = true ∧ Unicode.isLower c = true ∧ (Unicode.isUpper c || Unicode.isTitle c) = false := by decide +kernel
theorem name_of {z : Str} (h : LW z) : nameB z = true := by
  obtain ⟨h1, h2, h3⟩ := h
  have hm : ∀ i (hi : i < z.cps.size), 97 ≤ z.cps[i] ∧ z.cps[i] < 123 := fun i hi => h3 _ (by rw [Array.mem_toList_iff]; exact Array.getElem_mem hi)
  unfold nameB
  have e1 : decide ((z.length : Int) ≤ 8) = true := by rw [decide_eq_true_iff]; omega
  have e2 : Txt.isascii z = true := by
    unfold Txt.isascii
    rw [Array.all_eq_true]
    intro i hi
    have := hm i hi
    rw [decide_eq_true_iff]
    omega
  have e3 : Txt.isalpha z = true := by
    unfold Txt.isalpha
    rw [Bool.and_eq_true]
    refine ⟨by rw [decide_eq_true_iff]; omega, ?_⟩
    rw [Array.all_eq_true]
    intro i hi
    exact (letters_tab _ (hm i hi).2 (hm i hi).1).1
  have e4 : Txt.islower z = true := by
    unfold Txt.islower
    rw [Bool.and_eq_true]
    constructor
    · rw [Array.any_eq_true]
      have h0 : 0 < z.cps.size := h1
      exact ⟨0, h0, (letters_tab _ (hm 0 h0).2 (hm 0 h0).1).2.1⟩
    · rw [Bool.not_eq_true', Array.any_eq_false]
      intro i hi
      rw [(letters_tab _ (hm i hi).2 (hm i hi).1).2.2]
      decide
  rw [e1, e2, e3, e4]
  rfl
theorem lw_len {z : Str} (h : LW z) : z.length ≤ sizeLine := Nat.le_trans h.2.1 (by decide)
theorem lp_le {n m : Nat} {z : Str} (h : LP n z) (l : n ≤ m) : LP m z := ⟨Nat.le_trans h.1 l, h.2⟩
theorem lp_line {n : Nat} {z : Str} (h : LP n z) (l : n ≤ 8) : z.length ≤ sizeLine := Nat.le_trans h.1 (Nat.le_trans l (by decide))
/-- a letter -/
def ltr (t : Nat) : Str := ⟨#[97 + t]⟩
theorem letter_at : ∀ t < 26, Letters.cps.toList[t]? = some (97 + t) := by decide +kernel
theorem app_cps (a b : Str) : (a ++ b).cps.toList = a.cps.toList ++ b.cps.toList := by
  show (a.cps ++ b.cps).toList = _
  rw [Array.toList_append]
theorem app_len (a b : Str) : (a ++ b).length = a.length + b.length := by
  show (a.cps ++ b.cps).size = _
  rw [Array.size_append]
  rfl
theorem lp_snoc {n t : Nat} {z : Str} (h : LP n z) (ht : t < 26) : LP (n + 1) (z ++ ltr t) := by
  constructor
  · rw [app_len]
    exact Nat.add_le_add_right h.1 1
  · intro c hc
    rw [app_cps] at hc
    rcases List.mem_append.mp hc with hc | hc
    · exact h.2 c hc
    · have : c = 97 + t := by simpa [ltr] using hc
      omega
theorem snoc_inj {z : Str} {t u : Nat} (h : z ++ ltr t = z ++ ltr u) : t = u := by
  have e : (z ++ ltr t).cps.toList = (z ++ ltr u).cps.toList := by rw [h]
  rw [app_cps, app_cps] at e
  have := List.append_cancel_left e
  simpa [ltr] using this
theorem cut_lp {n m : Nat} {z : Str} (h : LP n z) : LP m (cutS z none (some (m : Int))) ∧ (1 ≤ z.length → 1 ≤ m → 1 ≤ (cutS z none (some (m : Int))).length) := by
  have e : (cutS z none (some (m : Int))).cps.toList = z.cps.toList.take m := by
    unfold cutS
    show (List.take (min ((m : Int).toNat) z.length - 0) (List.drop 0 z.cps.toList)) = _
    rw [List.drop_zero, Nat.sub_zero, Int.toNat_natCast]
    by_cases c : m ≤ z.length
    · rw [Nat.min_eq_left c]
    · have h1 : z.cps.toList.length = z.length := rfl
      rw [Nat.min_eq_right (by omega), List.take_of_length_le (by omega), List.take_of_length_le (by omega)]
  have el : (cutS z none (some (m : Int))).length = min m z.length := by
    show (cutS z none (some (m : Int))).cps.size = _
    rw [← Array.length_toList, e, List.length_take]
    rfl
  refine ⟨⟨by rw [el]; exact Nat.min_le_left _ _, fun c hc => ?_⟩, fun h1 h2 => by rw [el]; omega⟩
  rw [e] at hc
  exact h.2 c (List.mem_of_mem_take hc)
theorem lay_of {n : Nat} {z : Str} (h : LP n z) : PyData.canLay0 (.str z) = true := by
  rw [PyData.canLay0]
  unfold PyData.strOk
  rw [Array.all_eq_true]
  intro i hi
  have := h.2 z.cps[i] (by rw [Array.mem_toList_iff]; exact Array.getElem_mem hi)
  rw [decide_eq_true_iff]
  omega
/-- 25 letters behind one stem are not all among few words -/
theorem not_all {z : Str} {ws : List Str} (l : ws.length < 25) (h : ∀ t < 25, z ++ ltr t ∈ ws) : False := by
  have nd : ((List.range 25).map fun t => z ++ ltr t).Nodup := by
    refine List.pairwise_map.mpr (List.Pairwise.imp (fun {a b} ne e => ne (snoc_inj e)) List.nodup_range)
  have := nodup_le _ ws nd fun k hk => by
    obtain ⟨t, h1, rfl⟩ := List.mem_map.mp hk
    exact h t (List.mem_range.mp h1)
  rw [List.length_map, List.length_range] at this
  omega
end Q9
end
-- QRight
section
set_option maxRecDepth 100000
set_option maxHeartbeats 8000000
namespace Q9
open PySem L2
abbrev rgtN : List Str := ["_law_source", "_law_many", "_law_start", "_law_words", "_law_kind", "_law_picks", "_law_live", "_law_due", "_law_turn", "_law_at", "_law_answer", "_law_word", "_law_odd", "_law_some", "_law_row", "_law_great"]
theorem scRg : FnScope rgtN ["_law_source"] (defScope sRight_) := ⟨rfl, rfl, rfl, by decide +kernel, rfl, by decide +kernel, by decide +kernel⟩
def spRgt : Sp := fun vs H Q _ => ∃ l : Addr, vs = [.ref l] ∧ Well H l ∧ ∀ H', But l H H' → Well H' l → Q (.bl true) H'
structure TRgt (K : PySem.W.Frag) (mg : Str → Option Value) (C CK CR fI fKI fD fP fMx fBd fCall fTold pL fLeft : Addr) : Prop where
  len : mg "len" = none
  int : mg "int" = none
  max : mg "max" = none
  range : mg "range" = none
  tup : mg "tuple" = none
  sorted : mg "sorted" = none
  gD : mg "_law_next" = some (.ref fD)
  kD : PySem.W.keepIn K (.ref fD) = true
  gP : mg "_law_one" = some (.ref fP)
  kP : PySem.W.keepIn K (.ref fP) = true
  gMx : mg "_law_mixed" = some (.ref fMx)
  kMx : PySem.W.keepIn K (.ref fMx) = true
  gBd : mg "_law_bad" = some (.ref fBd)
  kBd : PySem.W.keepIn K (.ref fBd) = true
  gK : mg "Kind" = some (.ref CK)
  mkK : Mk K CK fKI
  gL : mg "Live" = some (.ref C)
  mkL : Mk K C fI
  gR : mg "RightError" = some (.ref CR)
  cl : Cls K C
  call : StX.CallO K C fCall
  told : Meth K C "told" fTold
  left : PropOf K C "left" pL fLeft
open PyProof.Rows in
theorem ple_same {a b s : Str} (h : TLe a b) : PLe (a, s) (b, s) := by
  unfold PLe
  show lexLt itemOrd (pKey (b, s)) (pKey (a, s)) = false
  rw [Bool.eq_false_iff]
  intro e
  rcases lex_true.mp e with e | ⟨_, e⟩
  · exact h (of_decide_eq_true e)
  · rcases lex_true.mp e with e | ⟨_, e⟩
    · have := itemOrd.irrefl (.inr s.cps.toList)
      rw [this] at e
      cases e
    · cases e
theorem outs_told {s0 : Str} {ws ds : List Str} {os' : List (Str × Str)} (pm : os'.Perm (ws.map fun z => (z, s0))) (up : UpP os') (pd : ds.Perm ws) (ud : Up ds) : os' = ds.map fun z => (z, s0) :=
  upP_same (pm.trans (pd.map _).symm) up (List.pairwise_map.mpr (List.Pairwise.imp (fun h => ple_same h) ud))
/-- what is wanted behind an expression, told ahead -/
theorem pe_mono {X : Cx} {e : Expr} {te : TE} (he : PE X e te) : PE X e (fun σ H Q => ∃ R : VK, te σ H R ∧ ∀ x H1, R x H1 → Q x H1) :=
  ⟨fun pins s σ H Q I ⟨R, h, imp⟩ => thn (he.run pins s σ H R I h) fun v s1 ⟨x, H1, I1, r1, q1⟩ => ⟨x, H1, I1, r1, imp _ _ q1⟩⟩
/-- how many picks are used behind i calls -/
def usAt (n : Nat) (ns : List Int) (i : Nat) : Nat := if n = 1 then 0 else min i ns.length
theorem usAt_next (n : Nat) (ns : List Int) (i : Nat) : optU n ns (usAt n ns i) = usAt n ns (i + 1) := by
  unfold optU usAt
  by_cases c : n = 1
  · rw [if_pos c, if_pos c, if_pos (.inl c)]
  · rw [if_neg c, if_neg c]
    by_cases d : ns.length ≤ min i ns.length
    · rw [if_pos (.inr d)]
      omega
    · rw [if_neg (fun h => h.elim c d)]
      omega
theorem optAt (n : Nat) (ns : List Int) (i : Nat) (pos : ∀ z ∈ ns, 0 ≤ z) (n1 : 1 ≤ n) : (∀ z, ns[i]? = some z → z % (n : Int) = (optI n ns (usAt n ns i) : Nat)) ∧ (ns.length ≤ i → optI n ns (usAt n ns i) = 0) := by
  unfold optI usAt
  by_cases c : n = 1
  · rw [if_pos c, if_pos (.inl c)]
    refine ⟨fun z _ => ?_, fun _ => rfl⟩
    rw [c]
    exact Int.emod_one z
  · rw [if_neg c]
    refine ⟨fun z hz => ?_, fun h => ?_⟩
    · have lt := (List.getElem?_eq_some_iff.mp hz).1
      have e : min i ns.length = i := by omega
      rw [e, if_neg (fun h => h.elim c (by omega)), hz, Option.getD_some, Int.toNat_of_nonneg (Int.emod_nonneg _ (by omega))]
    · rw [if_pos (.inr (by omega))]
theorem rep_flat {α : Type} (x : α) : ∀ n : Nat, (List.replicate n [x]).flatten = List.replicate n x
  | 0 => rfl
  | n + 1 => by rw [List.replicate_succ, List.flatten_cons, rep_flat x n, List.replicate_succ]; rfl
theorem odd_kits : kitB "NoneType" "int" = some false ∧ kitB "str" "int" = some false ∧ kitB "tuple" "int" = some false ∧ kitB "list" "int" = some false ∧ kitB "dict" "int" = some false := by decide +kernel
theorem row_kits : kitB "NoneType" "list" = some false ∧ kitB "NoneType" "tuple" = some false ∧ kitB "int" "list" = some false ∧ kitB "int" "tuple" = some false ∧ kitB "str" "list" = some false ∧ kitB "str" "tuple" = some false ∧ kitB "dict" "list" = some false ∧ kitB "dict" "tuple" = some false ∧
    kitB "bool" "list" = some false ∧ kitB "bool" "tuple" = some false := by decide +kernel
theorem ni_ty {K : PySem.W.Frag} {H : Hp} {x : V} {t : String} (h : TyX K H x (.type t)) (e1 : kitB t "int" = some false) : BadCh K H x := .inl (.inr ⟨_, h, kit_ty e1⟩)
theorem nr_ty {K : PySem.W.Frag} {H : Hp} {x : V} {t : String} (h : TyX K H x (.type t)) (e1 : kitB t "list" = some false) (e2 : kitB t "tuple" = some false) : NotRow K H x := ⟨_, h, kit_ty e1, kit_ty e2⟩
/-- what the law answers to a word -/
def ansT (z : Str) : Str := if isYN z = true then z else "error"
theorem yn_in (z : Str) : inV (V.str z) [V.str "yes", V.str "no"] = isYN z := by
  show (("yes" : Str) == z || (("no" : Str) == z || false)) = _
  unfold isYN
  rw [Bool.or_false, Bool.eq_iff_iff]
  simp only [Bool.or_eq_true, beq_iff_eq, decide_eq_true_eq, V.str.injEq]
  exact or_congr eq_comm eq_comm
theorem ans_yes {z : Str} (h : isYN z = true) : (if decide (V.str z = V.str "yes") = true then ("yes" : Str) else "no") = ansT z := by
  unfold ansT
  rw [if_pos h]
  by_cases c : z = "yes"
  · rw [if_pos (decide_eq_true (congrArg V.str c)), c]
  · have n : ¬ V.str z = V.str "yes" := fun e => c (V.str.inj e)
    rw [if_neg (by rw [decide_eq_false n]; exact Bool.false_ne_true)]
    unfold isYN at h
    rw [decide_eq_false n, Bool.false_or] at h
    exact (V.str.inj (of_decide_eq_true h)).symm
/-- what stands as it stood, beside the source -/
structure Fr (l : Addr) (F H : Hp) : Prop where
  same : Same F H
  no : F l = none
  well : Well H l
section
variable {l : Addr} {F H H' : Hp} {o : HO}
theorem Fr.but (h : Fr l F H) (b : But l H H') (w : Well H' l) : Fr l F H' := ⟨fun c o e => b c o (ne_of_none e h.no) (h.same c o e), h.no, w⟩
theorem Fr.draw (h : Fr l F H) (w : Well (upd H l o) l) : Fr l F (upd H l o) := h.but But.upd w
theorem Fr.go (h : Fr l F H) (s : Same H H') : Fr l F H' := ⟨fun c o e => s c o (h.same c o e), h.no, by obtain ⟨a, b, c, h1, h2⟩ := h.well; exact ⟨a, b, c, s _ _ h1, h2⟩⟩
theorem Fr.re (h : Fr l F H) : Fr l (del H l) H ∧ Same F (del H l) ∧ ∀ p o, p ≠ l → H p = some o → del H l p = some o :=
  ⟨⟨del_less, del_same, h.well⟩, fun c o e => by rw [del_ne (ne_of_none e h.no)]; exact h.same c o e, fun p o n e => by rw [del_ne n]; exact e⟩
theorem Fr.ne (h : Fr l F H) {p : Addr} (n : H p = none) : p ≠ l := fun e => by
  obtain ⟨_, _, _, h1, _⟩ := h.well
  rw [e, h1] at n
  cases n
theorem Fr.none (h : Fr l F H) {p : Addr} (n : H p = none) : F p = none := by
  cases c : F p with
  | none => rfl
  | some u => rw [h.same _ _ c] at n; cases n
theorem Fr.set (h : Fr l F H) {p : Addr} {u : HO} (nF : F p = Option.none) (n : p ≠ l) : Fr l F (upd H p u) :=
  ⟨fun b w e => by rw [upd_ne (ne_of_none e nF)]; exact h.same b w e, h.no, by obtain ⟨a, b, c, h1, h2⟩ := h.well; exact ⟨a, b, c, by rw [upd_ne (Ne.symm n)]; exact h1, h2⟩⟩
/-- beside the source, a live object, and its list -/
structure Lv (l x an : Addr) (F H : Hp) : Prop where
  fr : Fr l F H
  nx : F x = Option.none
  na : F an = Option.none
  xl : x ≠ l
  al : an ≠ l
def del3 (l x an : Addr) (H : Hp) : Hp := del (del (del H l) x) an
theorem del3_at {l x an p : Addr} {u : HO} {H : Hp} (h1 : p ≠ l) (h2 : p ≠ x) (h3 : p ≠ an) (e : H p = some u) : del3 l x an H p = some u := by
  unfold del3
  rw [del_ne h3, del_ne h2, del_ne h1]
  exact e
theorem Lv.make {x an : Addr} (h : Fr l F H) (nx : F x = Option.none) (na : F an = Option.none) (xl : x ≠ l) (al : an ≠ l) : Lv l x an (del3 l x an H) H ∧ Same F (del3 l x an H) := by
  refine ⟨⟨⟨fun b u e => del_less _ _ (del_less _ _ (del_less _ _ e)), ?_, h.well⟩, ?_, del_same, xl, al⟩, fun b u e => del3_at (ne_of_none e h.no) (ne_of_none e nx) (ne_of_none e na) (h.same _ _ e)⟩
  · show del (del (del H l) x) an l = _
    rw [del_ne (Ne.symm al), del_ne (Ne.symm xl), del_same]
  · show del (del (del H l) x) an x = _
    by_cases c : x = an
    · rw [c, del_same]
    · rw [del_ne c, del_same]
theorem Lv.go {x an : Addr} (h : Lv l x an F H) (s : Same H H') : Lv l x an F H' := ⟨h.fr.go s, h.nx, h.na, h.xl, h.al⟩
theorem Lv.step {x an : Addr} (h : Lv l x an F H) (b : But2 x an H H') : Lv l x an F H' :=
  ⟨⟨fun c o e => b c o (ne_of_none e h.nx) (ne_of_none e h.na) (h.fr.same _ _ e), h.fr.no, by obtain ⟨a1, a2, a3, h1, h2⟩ := h.fr.well; exact ⟨a1, a2, a3, b _ _ (Ne.symm h.xl) (Ne.symm h.al) h1, h2⟩⟩, h.nx, h.na, h.xl, h.al⟩
theorem Fr.start (w : Well H l) : Fr l (del H l) H := ⟨del_less, del_same, w⟩
end
theorem cut_to {xs : List V} {k : Nat} (h : k ≤ xs.length) : cutV xs none (some (k : Int)) = xs.take k := by
  unfold cutV
  show (List.take (min ((k : Int).toNat) xs.length - 0) (List.drop 0 xs)) = _
  rw [List.drop_zero, Nat.sub_zero, Int.toNat_natCast, Nat.min_eq_left h]
theorem cut_from {xs : List V} {k : Nat} (h : k ≤ xs.length) : cutV xs (some (k : Int)) none = xs.drop k := by
  have e : HT.sIx xs.length 0 (some (k : Int)) = k := by
    show (if (k : Int) < 0 then ((k : Int) + (xs.length : Int)).toNat else min (k : Int).toNat xs.length) = k
    rw [if_neg (by omega), Int.toNat_natCast, Nat.min_eq_left h]
  unfold cutV
  rw [e]
  show (xs.drop k).take (xs.length - k) = _
  rw [List.take_of_length_le (by rw [List.length_drop]; exact Nat.le_refl _)]
theorem outs_of_start {K : PySem.W.Frag} {H : Hp} {s0 : Str} : ∀ {ts : List Addr} {ws : List Str}, Paired (fun (t : Addr) (z : Str) => H t = some (.tup [.str z, .str s0])) ts ws → Paired (OutT K H) (ts.map V.ref) (ws.map fun z => (z, s0))
  | _, _, .nil => .nil
  | _, _, .cons h t => .cons ⟨_, rfl, .of h⟩ (outs_of_start t)
abbrev diceMv (s0 : Str) (ws : List Str) : Mv := [((s0, ("cast" : Str)), ws.map fun z => (z, s0))]
theorem castName : nameB "cast" = true ∧ nameB "dice" = true := by decide +kernel
theorem dice_fit {s0 : Str} {ws : List Str} (h0 : nameB s0 = true) (hw : ∀ z ∈ ws, wordB z = true) (nd : ws.Nodup) (l8 : ws.length ≤ 8) : RightParts "dice" s0 [] (diceMv s0 ws) ∧ Small s0 [] (diceMv s0 ws) ∧ Fits s0 [] (diceMv s0 ws) := by
  have ls : (statesIn s0 [] (diceMv s0 ws)).length ≤ 10 := by
    unfold statesIn diceMv
    simp only [List.flatMap_cons, List.flatMap_nil, List.append_nil, List.length_append, List.length_cons, List.length_nil, List.length_map]
    omega
  have lm : (methodsIn (diceMv s0 ws)).length ≤ 1 := by
    unfold methodsIn diceMv
    rw [List.length_map]
    exact Nat.le_refl 1
  have lo : (wordsIn (diceMv s0 ws)).length ≤ 8 := by
    unfold wordsIn diceMv
    simp only [List.flatMap_cons, List.flatMap_nil, List.append_nil, List.length_map]
    exact l8
  have one : ∀ e ∈ diceMv s0 ws, e = ((s0, ("cast" : Str)), ws.map fun z => (z, s0)) := fun e he => by simpa [diceMv] using he
  have few : ∀ {l : List Str} {k : Nat}, l.length ≤ k → k + 1 < scanBound → FewIn (l.map kInr) := fun {l k} h1 h2 => fewIn_of_len (by rw [List.length_map]; omega)
  refine ⟨⟨castName.2, h0, (fun z hz => nomatch hz), List.nodup_nil, fun e he => ?_, fun e he o ho => ?_, fun e he => ?_⟩, ⟨by omega, few ls (by decide), few lm (by decide), few lo (by decide)⟩, fun e he => ?_, fun ys nd' sub => ?_, fun zs nd' sub => ?_⟩
  · rw [one e he]
    exact ⟨h0, castName.1⟩
  · rw [one e he] at ho
    obtain ⟨z, h1, rfl⟩ := List.mem_map.mp ho
    exact ⟨hw z h1, h0⟩
  · rw [one e he]
    exact List.Pairwise.map _ (fun _ _ ne e => ne (congrArg Prod.fst e)) nd
  · rw [one e he, List.length_map]
    exact l8
  · exact Nat.le_trans (nodup_le ys _ nd' sub) (Nat.le_trans ls (by decide))
  · exact Nat.le_trans (nodup_le zs _ nd' sub) (Nat.le_trans lm (by decide))
abbrev Words8 : List Str := ["yes", "no", "AA", "BB", "CC", "DD", "EE", "FF"]
theorem words8 : ∀ z ∈ Words8, wordB z = true ∧ PyData.canLay0 (.str z) = true := by decide +kernel
theorem starts3 : ∀ z ∈ (["now", "a", "z"] : List Str), nameB z = true ∧ PyData.canLay0 (.str z) = true := by decide +kernel
theorem nodup8 : Words8.Nodup := by decide +kernel
section
variable {P : Program} {w : World} {K : PySem.W.Frag} {mg : Str → Option Value} {base : Heap} {C CK CR CB CBk CM fI fKI fD fP fMx fBd fCall fTold pL fLeft : Addr}
/-- a call of an instance; what it raises is taken where it may be -/
def tCallOS (C : Addr) (sp : Sp) (E : L2.St → XK) (tf : TE) (t : TA) : TE := fun σ H Q => tf σ H fun y H1 => ∃ a, y = V.ref a ∧ t σ H1 fun vs H2 => (∃ dx fs, H2 a = some (.ins C dx fs)) ∧ sp (V.ref a :: vs) H2 Q (E σ)
theorem pe_callOS {X : Cx} {CX : CXT} {k : Nat} {C g : Addr} {fd : FuncData} {ps : List Str} {sp : Sp} {E : L2.St → XK} {fe e : Expr} {es : List Expr} {pos : Pos} {tf : TE} {t : TA} (hf : PE X fe tf) (c : StX.CallO X.K C g) (F : FnOk X.prog X.w X.K X.mg X.base CX k g fd ps sp) (hr : Room k X.A) (hb : Binds X.K fd ps []) (hx : ∀ σ, PassesAt CX X σ (E σ)) (ha : PA X (e :: es) t)
    (ht : eval (.Call fe (e :: es) [] pos) X.env = (do callWith pos (← eval fe X.env) [] (backTo pos (starEach (e :: es) X.env)) (backToKw pos (keywordEach [] X.env))) := by rfl)
    (he : starEach (e :: es) X.env = (false, eval e X.env) :: starEach es X.env := by rfl) (hpl : (backTo pos (starEach es X.env)).any (·.1) = false := by rfl) : PE X (.Call fe (e :: es) [] pos) (tCallOS C sp E tf t) := by
  refine ⟨fun pins s σ H Q I h => PyProof.Rows.Call_ (thn (hf.run pins s σ H _ I h) fun u s1 ⟨y, H1, I1, ry, a, ey, q⟩ => ?_) ht⟩
  subst ey
  obtain rfl : u = Value.ref a := ry
  refine StX.callO_with (thn (ha.run pos pins s1 σ H1 _ I1 q) fun us s2 ⟨vs, H2, I2, r, hi, q2⟩ => ?_) he hpl
  obtain ⟨ox, od, J, hd⟩ := StX.insC_at I2 (.inr hi)
  refine ⟨⟨C, ox, od, J, hd⟩, ?_⟩
  refine wpAny_call (PySem.W.kco_code I2.kIn J hd c.at_ c.fn c.fi ?_)
  have rr : Vals (V.ref a :: vs) (Value.ref a :: us) := .cons rfl r
  have hl : (Value.ref a :: us).length = ps.length := by rw [← rr.length]; exact F.len _ _ _ _ q2
  have hbs := hb s2 (Value.ref a :: us) I2.kIn (by rw [List.append_nil]; exact hl)
  rw [List.append_nil] at hbs
  refine codeAny_mono (F.run X.A X.stack s2 H2 ⟨Value.ref a :: us, []⟩ (Value.ref a :: us) _ Q (E σ) hr I2.env0 hbs rr q2) fun r s' hq => ?_
  cases r with
  | error er => exact hx σ pins _ _ er s' I2 hq
  | ok fl =>
    cases fl with
    | ret u => exact I2.after hq
    | next => exact False.elim hq
    | brk => exact False.elim hq
    | cont => exact False.elim hq
theorem ok_right_ {f : Addr} {fd dK dL dD dP dM dB dC dT dLf : FuncData} (F : Fun K "_law_right" "_law_right" sRight_ f fd) (T : TRgt K mg C CK CR fI fKI fD fP fMx fBd fCall fTold pL fLeft) (te : PySem.W.exmOne K (.ref CM) (.ref CR) = some true)
    (GK : FnOk P w K mg base (L2.CX P w) 6 fKI dK kindPs (spKindI CK CBk K (KAc CK K))) (bK : Binds K dK kindPs [])
    (GI : FnOk P w K mg base (L2.CX P w) 4 fI dL liveIN (spLiveI C CK CB K)) (bI : Binds K dL liveIN [])
    (GD : FnOk P w K mg base CX0 1 fD dD ["_law_source", "_law_many"] spDraw) (bD : Binds K dD ["_law_source", "_law_many"] [])
    (GP : FnOk P w K mg base CX0 2 fP dP ["_law_source", "_law_some"] (spPickL K)) (bP : Binds K dP ["_law_source", "_law_some"] [])
    (GM : FnOk P w K mg base CX0 2 fMx dM ["_law_source", "_law_some"] (spMixed K)) (bM : Binds K dM ["_law_source", "_law_some"] [])
    (GB : FnOk P w K mg base CX0 6 fBd dB ["_law_kind", "_law_picks"] (spBad CK K)) (bB : Binds K dB ["_law_kind", "_law_picks"] [])
    (GC : FnOk P w K mg base (L2.CX P w) 4 fCall dC ["self", "method"] (spLiveCall C CK CM K)) (bC : Binds K dC ["self", "method"] [])
    (GT : FnOk P w K mg base CX0 1 fTold dT ["self"] (spTold C)) (bT : Binds K dT ["self"] [])
    (GL : FnOk P w K mg base CX0 1 fLeft dLf ["self"] (spLeft C K)) (bL : Binds K dLf ["self"] []) :
    FnOk P w K mg base CX0 8 f fd ["_law_source"] spRgt := by
  refine F.ok scRg (fun vs H Q E h => ?_) (fun cdv A outer s H vs Q E hr h => ?_)
  · obtain ⟨l, rfl, _⟩ := h
    rfl
  · obtain ⟨l, rfl, hw, q⟩ := h
    have hu := hu_of hr
    have hu64 := hr.units
    refine ⟨_, pss_cons (ps_asg (pe_tup (pa_cons (pe_op op_add pe_int (pe_call GD (hr.mono (by omega)) (by rfl) T.gD T.kD bD .nil pass0 (pa_cons (pv 0) (pa_cons pe_int pa_nil)))) (pa_cons (pe_call GP (hr.mono (by omega)) (by rfl) T.gP T.kP bP .nil pass0 (pa_cons (pv 0) (pa_cons (pe_lst (pa_cons pe_str (pa_cons pe_str (pa_cons pe_str pa_nil)))) pa_nil))) pa_nil)))
        (pg_tup rfl (pgs_cons (pg_name (i := 1) scRg.nd rfl (.inl rfl)) (pgs_cons (pg_name (i := 2) scRg.nd rfl (.inr rfl)) pgs_nil))))
      (pss_cons (ps_set (i := 3) scRg.nd rfl (.inl rfl) (pe_slice sl_list (pe_call GM (hr.mono (by omega)) (by rfl) T.gMx T.kMx bM .nil pass0 (pa_cons (pv 0) (pa_cons (pe_lst (pa_cons pe_str (pa_cons pe_str (pa_cons pe_str (pa_cons pe_str (pa_cons pe_str (pa_cons pe_str (pa_cons pe_str (pa_cons pe_str pa_nil))))))))) pa_nil))) po_none (po_some (pv 1))))
      (pss_cons (ps_set (i := 4) scRg.nd rfl (.inl rfl) (pe_make T.mkK GK (hr.mono (by omega)) (by rfl) T.gK bK .nil pass0X (pa_cons pe_str (pa_cons (pv 2) (pa_cons (pe_lst pa_nil) (pa_cons (pe_disp1T hu (pe_tup (pa_cons (pv 2) (pa_cons pe_str pa_nil)))
          (pe_lc (own := [("_law_word", 11)]) (g := gName 11) (tt := tYes) rfl scRg.nd (pi_list (pv 3)) (blkOk_by (own := [("_law_word", 11)]) (N := rgtN) (sc := defScope sRight_) (by decide +kernel)) (fun _ _ _ _ _ => pg_name (i := 11) scRg.nd rfl (.inl rfl)) (fun _ _ _ _ _ => pts_nil) (fun _ _ _ _ _ => pe_tup (pa_cons (pv 11) (pa_cons (pv 2) pa_nil))))) pa_nil))))))
      (pss_cons (ps_setLc (i := 5) (own := [("_law_turn", 8)]) (g := gName 8) (tt := tYes) (by rfl) scRg.nd rfl rfl (sw_true rfl rfl rfl (by decide +kernel)) (pi_range1 (by rfl) T.range (pa_cons (pe_call GD (hr.mono (by omega)) (by rfl) T.gD T.kD bD .nil pass0 (pa_cons (pv 0) (pa_cons pe_int pa_nil))) pa_nil)) (blkOk_by (own := [("_law_turn", 8)]) (N := rgtN) (sc := defScope sRight_) (by decide +kernel))
          (fun _ _ _ _ _ => pg_name (i := 8) scRg.nd rfl (.inl rfl)) (fun _ _ _ _ _ => pts_nil)
          (fun _ _ _ _ _ => pe_call GD (hr.mono (by omega)) (by rfl) T.gD T.kD bD .nil pass0 (pa_cons (pv 0) (pa_cons (pe_call GP (hr.mono (by omega)) (by rfl) T.gP T.kP bP .nil pass0 (pa_cons (pv 0) (pa_cons (pe_lst (pa_cons pe_int (pa_cons pe_int (pa_cons (pe_op op_pow pe_int pe_int) pa_nil)))) pa_nil))) pa_nil))))
      (pss_cons (ps_par (i := 6) (j := 7) (by rfl) scRg.nd rfl rfl (by decide) rfl rfl (pa_cons (pe_make T.mkL GI (hr.mono (by omega)) (by rfl) T.gL bI .nil pass0X (pa_cons (pv 4) (pa_cons (pe_callTy call_tuple_of (by rfl) T.tup (by decide +kernel) (pa_cons (pv 5) pa_nil)) pa_nil))) (pa_cons (pe_callB cr_sortedRs (by rfl) T.sorted (by decide +kernel) (pa_cons (pv 3) pa_nil)) pa_nil)) (by rfl))
      (pss_cons (ps_for PassesOwn.never rfl (pi_range1 (by rfl) T.range (pa_cons (pe_op op_add (pe_callB call_len (by rfl) T.len (by decide +kernel) (pa_cons (pv 5) pa_nil)) pe_int) pa_nil)) (pg_name (i := 8) scRg.nd rfl (.inl rfl))
        (pss_cons (ps_set (i := 9) scRg.nd rfl (.inl rfl) (pe_mono (pe_ifExp (pt_cmpR op_lt (pv 8) (pe_callB call_len (by rfl) T.len (by decide +kernel) (pa_cons (pv 5) pa_nil)) (nomark _)) (pe_op op_mod (pe_callTy call_int1 (by rfl) T.int (by decide +kernel) (pa_cons (pe_ix ix_list (pv 5) (pv 8) (fun _ _ => rfl)) pa_nil)) (pv 1)) pe_int)))
        (C8.pss_cut (ps_try_only rfl rfl ⟨rfl, by decide, .inl T.gR⟩ takes0 (fun W pn xe tk _ => pss_one (ps_set (i := 10) scRg.nd rfl (.inl rfl) (pe_ifExp (pt_val (pe_callOS (pv 6) T.call GC (hr.mono (by omega)) bC (fun σ => passAt tk σ) (pa_cons pe_str pa_nil))) pe_str pe_str))) (fun a oe cls d pn _ _ => pss_one (ps_set (i := 10) scRg.nd rfl (.inl rfl) pe_str)))
        (pss_cons (ps_set (i := 11) scRg.nd rfl (.inl rfl) (pe_ix ix_list (pv 7) (pv 9) (fun _ _ => rfl)))
        (pss_cons (ps_if (PW.pt (pw_or (pt_cmpR op_ne (pv 10) (pe_mono (pe_ifExp (pt_cmpR op_in_seq (pv 11) (pe_tup (pa_cons pe_str (pa_cons pe_str pa_nil))) (by rfl)) (pv 11) pe_str)) (nomark _)) (pw_or1 (pt_cmpR (op_neD hu64) (pe_ix ix_list (pe_meth0 (pv 6) T.cl T.told GT (hr.mono (by omega)) bT .nil pass0) (pe_un un_neg pe_int) (fun _ _ => rfl)) (pe_tup (pa_cons (pv 2) (pa_cons pe_str (pa_cons (pv 11) (pa_cons (pv 2) pa_nil))))) (nomark _))))) (pss_one (ps_ret pe_bl)) pss_nil)
        (pss_one (ps_if (pt_cmpR op_ne (pe_prop (pv 6) T.cl T.left GL (hr.mono (by omega)) bL .nil pass0 rfl) (pe_mono (pe_ifExp (pt_cmpR op_eq (pv 1) pe_int (nomark _)) (pe_callB call_len (by rfl) T.len (by decide +kernel) (pa_cons (pv 5) pa_nil)) (pe_callB (call_max2 rfl) (by rfl) T.max (by decide +kernel) (pa_cons pe_int (pa_cons (pe_op op_sub (pe_op op_sub (pe_callB call_len (by rfl) T.len (by decide +kernel) (pa_cons (pv 5) pa_nil)) (pv 8)) pe_int) pa_nil))))) (nomark _)) (pss_one (ps_ret pe_bl)) pss_nil)))))))
      (pss_cons (ps_set (i := 9) scRg.nd rfl (.inl rfl) (pe_call GD (hr.mono (by omega)) (by rfl) T.gD T.kD bD .nil pass0 (pa_cons (pv 0) (pa_cons (pe_op op_add (pe_callB call_len (by rfl) T.len (by decide +kernel) (pa_cons (pv 5) pa_nil)) pe_int) pa_nil))))
      (pss_cons (ps_set (i := 12) scRg.nd rfl (.inl rfl) (pe_call GP (hr.mono (by omega)) (by rfl) T.gP T.kP bP .nil pass0 (pa_cons (pv 0) (pa_cons (pe_lst (pa_cons pe_non (pa_cons (pe_un un_neg pe_int) (pa_cons pe_bl (pa_cons pe_bl (pa_cons pe_str (pa_cons (pe_tup (pa_cons pe_int pa_nil)) (pa_cons (pe_lst (pa_cons pe_int pa_nil)) (pa_cons pe_dnewT (pa_cons (pe_op op_sub pe_int (pe_op op_pow pe_int pe_int)) (pa_cons (pe_tup pa_nil) pa_nil))))))))))) pa_nil))))
      (pss_cons (ps_set (i := 13) scRg.nd rfl (.inl rfl) (pe_op op_cat (pe_op op_cat (pe_op op_cat (pe_slice sl_list (pv 5) po_none (po_some (pv 9))) (pe_lst (pa_cons (pv 12) pa_nil))) (pe_slice sl_list (pv 5) (po_some (pv 9)) po_none)) (pe_op op_rep (pe_lst (pa_cons pe_non pa_nil)) (pe_call GD (hr.mono (by omega)) (by rfl) T.gD T.kD bD .nil pass0 (pa_cons (pv 0) (pa_cons pe_int pa_nil))))))
      (pss_cons (ps_set (i := 14) scRg.nd rfl (.inl rfl) (pe_call GP (hr.mono (by omega)) (by rfl) T.gP T.kP bP .nil pass0 (pa_cons (pv 0) (pa_cons (pe_lst (pa_cons pe_non (pa_cons pe_int (pa_cons pe_str (pa_cons pe_dnewT (pa_cons pe_bl (pa_cons pe_str (pa_cons pe_int pa_nil)))))))) pa_nil))))
      (pss_cons (ps_set (i := 15) scRg.nd rfl (.inl rfl) (pe_make T.mkL GI (hr.mono (by omega)) (by rfl) T.gL bI .nil pass0X (pa_cons (pv 4) (pa_cons (pe_op op_rep (pe_lst (pa_cons pe_int pa_nil)) pe_int) pa_nil))))
      (pss_cons (ps_if (PW.pt (pw_or (pt_cmpR op_ne (pe_prop (pv 15) T.cl T.left GL (hr.mono (by omega)) bL .nil pass0 rfl) pe_int (nomark _)) (pw_or1 (pt_cmpR op_ne (pe_call GB (hr.mono (by omega)) (by rfl) T.gBd T.kBd bB .nil pass0 (pa_cons (pv 4) (pa_cons (pe_op op_cat (pe_op op_rep (pe_lst (pa_cons pe_int pa_nil)) pe_int) (pe_lst (pa_cons pe_non pa_nil))) pa_nil))) pe_int (nomark _))))) (pss_one (ps_ret pe_bl)) pss_nil)
      (pss_one (ps_ret (pe_and (pe_cmpR op_eq (pe_call GB (hr.mono (by omega)) (by rfl) T.gBd T.kBd bB .nil pass0 (pa_cons (pv 4) (pa_cons (pv 13) pa_nil))) (pv 9) (nomark _)) (pe_and (pe_cmpR op_eq (pe_call GB (hr.mono (by omega)) (by rfl) T.gBd T.kBd bB .nil pass0 (pa_cons (pv 4) (pa_cons (pe_callTy call_tuple_of (by rfl) T.tup (by decide +kernel) (pa_cons (pv 13) pa_nil)) pa_nil))) (pv 9) (nomark _)) (pe_one (pe_cmpR op_eq (pe_call GB (hr.mono (by omega)) (by rfl) T.gBd T.kBd bB .nil pass0 (pa_cons (pv 4) (pa_cons (pv 14) pa_nil))) (pe_un un_neg pe_int) (nomark _)))))))))))))))))), ?_⟩
    have fr0 := Fr.start hw
    refine ⟨_, rfl, l, _, rfl, hw, by decide, by decide, fun r0 o0 g1 g2 w0 => ?_⟩
    have fr1 := fr0.draw w0
    refine ⟨_, _, rfl, rfl, _, rfl, (by show 3 ≤ sizeLine; decide), fun p0 np0 => ?_⟩
    have fr2 := fr1.go (same_upd (o := .lst [.str "now", .str "a", .str "z"]) np0)
    refine ⟨l, p0, _, rfl, fr2.well, .of upd_same, fr1.ne np0, by decide, by decide, fun i0 st o1 hst w1 => ?_⟩
    have fr3 := fr2.draw w1
    refine ⟨(by show 2 ≤ sizeLine; decide), fun p1 np1 => ?_⟩
    have fr4 := fr3.go (same_upd (o := .tup [.int (1 + r0), st]) np1)
    refine ⟨p1, _, rfl, .of upd_same, rfl, _, _, rfl, _, _, rfl, rfl, ?_⟩
    generalize upd (upd (upd (upd H l o0) p0 _) l o1) p1 _ = H1 at fr4 ⊢
    obtain ⟨s0, rfl, hs0⟩ : ∃ s0 : Str, st = .str s0 ∧ s0 ∈ (["now", "a", "z"] : List Str) := by
      have h := List.mem_of_getElem? hst
      have e : ([.str "now", .str "a", .str "z"] : List V) = (["now", "a", "z"] : List Str).map V.str := rfl
      rw [e] at h
      obtain ⟨z, h1, h2⟩ := List.mem_map.mp h
      exact ⟨z, h2.symm, h1⟩
    obtain ⟨n0, rfl⟩ := Int.eq_ofNat_of_zero_le g1
    obtain ⟨n, hn, n1, n8⟩ : ∃ n : Nat, (1 + (n0 : Int)) = (n : Int) ∧ 1 ≤ n ∧ n ≤ 8 := ⟨n0 + 1, by omega, by omega, by omega⟩
    clear g1 g2 fr0 fr1 fr2 fr3 np0 np1 w0 w1 hst
    -- the words
    refine ⟨_, rfl, (by show 8 ≤ sizeLine; decide), fun p2 np2 => ?_⟩
    have fr5 := fr4.go (same_upd (o := .lst (Words8.map V.str)) np2)
    refine ⟨l, p2, Words8, rfl, fr5.well, .of upd_same, by decide, fun z hz => (words8 z hz).2, fun H2 A8 ys b6 w6 nA nAl hA pm => ?_⟩
    have fr6 := fr5.but b6 w6
    have ly : ys.length = 8 := pm.length_eq
    refine ⟨_, rfl, _, rfl, A8, _, rfl, .of hA, fun Wp nW => ?_⟩
    have fr7 := fr6.go (same_upd (o := .lst (cutV (ys.map V.str) none (some (1 + (n0 : Int))))) nW)
    have nWl := fr6.ne nW
    have hW : upd H2 Wp (.lst (cutV (ys.map V.str) none (some (1 + (n0 : Int))))) Wp = some (.lst ((ys.take n).map V.str)) := by
      rw [upd_same, hn, cut_to (by rw [List.length_map]; omega), List.map_take]
    generalize upd H2 Wp _ = H3 at fr7 hW ⊢
    have lw : (ys.take n).length = n := by rw [List.length_take]; omega
    have ww : ∀ z ∈ ys.take n, wordB z = true ∧ PyData.canLay0 (.str z) = true := fun z hz => words8 z (pm.subset (List.mem_of_mem_take hz))
    have wu : (ys.take n).Nodup := (List.take_sublist _ _).nodup (pm.nodup_iff.mpr nodup8)
    generalize ys.take n = ws at hW lw ww wu
    clear hA pm ly fr5 fr6 np2 nW b6 w6 nA nAl
    obtain ⟨frF, bs, keepF⟩ := fr7.re
    have hWF := keepF _ _ nWl hW
    clear keepF fr7 fr4
    generalize del H3 l = F at frF hWF bs
    -- the kind
    refine ⟨_, rfl, (by show 0 ≤ sizeLine; decide), fun ep nep => ?_⟩
    have sa := same_upd (o := .lst []) nep
    have hep : upd H3 ep (.lst []) ep = some (.lst []) := upd_same
    generalize upd H3 ep (.lst []) = Ha at sa hep ⊢
    refine fun m nm => ⟨_, rfl, (by show 2 ≤ sizeLine; decide), fun kt nkt => ?_⟩
    have sb : Same Ha (upd Ha m (.dT [])) := same_upd nm
    have hm : upd Ha m (.dT []) m = some (.dT []) := upd_same
    generalize upd Ha m (.dT []) = Hb at sb hm nkt ⊢
    have sc := same_upd (o := .tup [.str s0, .str "cast"]) nkt
    have hkt : upd Hb kt (.tup [.str s0, .str "cast"]) kt = some (.tup [.str s0, .str "cast"]) := upd_same
    generalize upd Hb kt (.tup [.str s0, .str "cast"]) = Hc at sc hkt ⊢
    have s3c : Same H3 Hc := fun b u e => sc _ _ (sb _ _ (sa _ _ e))
    refine ⟨_, rfl, Wp, rfl, ⟨_, .of (s3c _ _ hW)⟩, fun D nD => ?_⟩
    refine lc_it (walk_list (xs := ws.map V.str)) (fun i H' => ∃ ts : List Addr, Same Hc H' ∧ H' D = some (.lst (ts.map V.ref)) ∧ Paired (fun (t : Addr) (z : Str) => H' t = some (.tup [.str z, .str s0])) ts (ws.take i)) ⟨[], same_upd nD, upd_same, .nil⟩ (fun i H' _ h => .of (let ⟨_, s, _⟩ := h; s _ _ (s3c _ _ hW))) ?_ ?_
    · rintro i y H8 H9 hi ⟨ts, s8, hd, pr⟩ ⟨rfl, hy⟩
      obtain ⟨z, hz, rfl⟩ : ∃ z, ws[i]? = some z ∧ y = V.str z := by
        rw [List.getElem?_map] at hy
        obtain ⟨z, h1, h2⟩ := Option.map_eq_some_iff.mp hy
        exact ⟨z, h1, h2.symm⟩
      refine ⟨rfl, _, rfl, _, rfl, (by show 2 ≤ sizeLine; decide), fun t nt => ?_⟩
      have st := same_upd (o := .tup [.str z, .str s0]) nt
      have lt : ts.length ≤ 8 := by
        have := PySem.Paired.length pr
        rw [List.length_take] at this
        omega
      refine ⟨_, st _ _ hd, (by rw [List.length_map]; exact Nat.lt_of_le_of_lt lt (by decide)), ts ++ [t], fun b u e => ?_, ?_, ?_⟩
      · rw [upd_ne (ne_of_none e nD)]
        exact st _ _ (s8 _ _ e)
      · rw [upd_same, List.map_append]
        rfl
      · have far : ∀ {q : Addr} {xs : List V}, upd H9 t (.tup [.str z, .str s0]) q = some (.tup xs) → q ≠ D := fun {q xs} e c => by
          rw [c, st _ _ hd] at e
          cases e
        rw [take_one_more hz]
        refine PySem.Paired.snoc (L2.Paired.mapP pr fun b y e => ?_) ?_
        · have e' := st _ _ e
          rw [upd_ne (far e')]
          exact e'
        · rw [upd_ne (far upd_same)]
          exact upd_same
    · rintro H8 ⟨ts, s8, hd, pr⟩
      rw [List.length_map, List.take_length] at pr
      have hm8 := s8 _ _ (sc _ _ hm)
      refine ⟨kt, [kInr s0, kInr "cast"], rfl, s8 _ _ hkt, hm8, ?_⟩
      have sG : Same Ha (upd H8 m (.dT [([kInr s0, kInr "cast"], .ref D)])) := fun b u e => by
        rw [upd_ne (ne_of_none e nm)]
        exact s8 _ _ (sc _ _ (sb _ _ e))
      have hmG : upd H8 m (.dT [([kInr s0, kInr "cast"], .ref D)]) m = some (.dT [([kInr s0, kInr "cast"], .ref D)]) := upd_same
      have hDG : upd H8 m (.dT [([kInr s0, kInr "cast"], .ref D)]) D = some (.lst (ts.map V.ref)) := by
        rw [upd_ne (fun c => by rw [c, hm8] at hd; cases hd)]
        exact hd
      have prG : Paired (fun (t : Addr) (z : Str) => upd H8 m (.dT [([kInr s0, kInr "cast"], .ref D)]) t = some (.tup [.str z, .str s0])) ts ws := L2.Paired.mapP pr fun b y e => by
        rw [upd_ne (fun c => by rw [c, hm8] at e; cases e)]
        exact e
      generalize upd H8 m (.dT [([kInr s0, kInr "cast"], .ref D)]) = G at sG hmG hDG prG ⊢
      clear hd pr hm8 s8 nD
      refine fun x dx nx ndx nex => ?_
      have sX : Same G (upd (upd G dx (.own x)) x (.ins CK dx [])) := fun b o e => by
        rw [upd_ne (ne_of_none e nx), upd_ne (ne_of_none e ndx)]
        exact e
      have fit := dice_fit (ws := ws) (starts3 s0 hs0).1 (fun z hz => (ww z hz).1) wu (by omega)
      refine ⟨x, dx, m, "dice", s0, .ref ep, [], [([kInr s0, kInr "cast"], .ref D)], diceMv s0 ws, rfl, upd_same, by rw [upd_ne nex, upd_same], ⟨ep, rfl, .inl (.of (sX _ _ (sG _ _ hep)))⟩, sX _ _ hmG, ⟨by simp, .cons ⟨rfl, ts.map V.ref, ⟨D, rfl, .inl (.of (sX _ _ hDG))⟩, outs_of_start (L2.Paired.mapP prG fun b y e => sX _ _ e)⟩ .nil⟩, fit.1, fit.2.1, .inl ⟨fit.2.2, fun H9 bt ka => ⟨rfl, ?_⟩⟩⟩
      have fr9 : Fr l F H9 := frF.go fun b u e => by
        have e1 := sG _ _ (sa _ _ e)
        exact bt b u (ne_of_none e1 nx) (sX _ _ e1)
      clear sX sG hmG hDG prG bt nx ndx nex fit hep hkt hm sc sb sa s3c nkt nm nep frF
      obtain ⟨frK, sK, _⟩ := fr9.re
      have kaF : KAc CK K (del H9 l) x "dice" s0 [] (diceMv s0 ws) := (kac_ok CK K).well fr9.well (fun b o ne e => by rw [del_ne ne]; exact e) ka
      have hW2 := sK _ _ hWF
      have bs := bs.trans sK
      clear sK fr9 ka hWF
      generalize del H9 l = F2 at frK kaF hW2 bs
      -- the picks
      refine ⟨_, rfl, l, _, rfl, frK.well, by decide, by decide, fun r1 o2 g1 g2 w2 => ?_⟩
      have fr10 := frK.draw w2
      obtain ⟨np, rfl⟩ := Int.eq_ofNat_of_zero_le g1
      refine ⟨_, rfl, by omega, by omega, fun Pk nPk => ?_⟩
      have fr11 := fr10.go (same_upd (o := .lst []) nPk)
      have nPl := fr10.ne nPk
      have nFP := fr10.none nPk
      refine lc_range (lo := 0) (n := np) (fun i H' => ∃ ns : List Int, ns.length = i ∧ (∀ n ∈ ns, 0 ≤ n) ∧ Fr l F2 H' ∧ H' Pk = some (.lst (ns.map V.int))) ⟨[], rfl, (fun _ h => nomatch h), fr11, upd_same⟩ ?_ ?_
      · rintro i H' hi ⟨ns, ln, pos, fr, hP⟩
        refine ⟨rfl, _, rfl, _, rfl, _, _, rfl, rfl, ⟨by decide, by decide, by decide⟩, (by show 3 ≤ sizeLine; decide), fun p3 np3 => ?_⟩
        have fr12 := fr.go (same_upd (o := .lst [.int 2, .int 9, .int (10 ^ (30 : Int).toNat)]) np3)
        have hP1 : upd H' p3 (.lst [.int 2, .int 9, .int (10 ^ (30 : Int).toNat)]) Pk = some (.lst (ns.map V.int)) := same_upd np3 _ _ hP
        refine ⟨l, p3, _, rfl, fr12.well, .of upd_same, fr.ne np3, by decide, by decide, fun j v o3 hv w3 => ?_⟩
        have fr13 := fr12.draw w3
        obtain ⟨mm, rfl, m0, m1⟩ : ∃ mm : Int, v = .int mm ∧ 0 < mm ∧ mm < 1267650600228229401496703205376 := by
          have e10 : (10 : Int) ^ (30 : Int).toNat = 1000000000000000000000000000000 := by decide
          have h : v ∈ ([.int 2, .int 9, .int (10 ^ (30 : Int).toNat)] : List V) := List.mem_of_getElem? hv
          rw [e10] at h
          rcases List.mem_cons.mp h with rfl | h
          · exact ⟨_, rfl, by decide, by decide⟩
          · rcases List.mem_cons.mp h with rfl | h
            · exact ⟨_, rfl, by decide, by decide⟩
            · rcases List.mem_cons.mp h with rfl | h
              · exact ⟨_, rfl, by decide, by decide⟩
              · cases h
        refine ⟨l, mm, rfl, fr13.well, m0, m1, fun r o4 r0 _ w4 => ?_⟩
        have fr14 := fr13.draw w4
        have hP4 : upd (upd (upd H' p3 (.lst [.int 2, .int 9, .int (10 ^ (30 : Int).toNat)])) l o3) l o4 Pk = some (.lst (ns.map V.int)) := by
          rw [upd_ne nPl, upd_ne nPl]
          exact hP1
        refine ⟨_, hP4, (by rw [List.length_map, ln, PySem.sizeLine_eq]; omega), ns ++ [r], by rw [List.length_append, ln]; rfl, fun n hn => ?_, fr14.set nFP nPl, by rw [upd_same, List.map_append]; rfl⟩
        rcases List.mem_append.mp hn with h | h
        · exact pos n h
        · rw [List.mem_singleton.mp h]; exact r0
      · rintro H' ⟨ns, ln, pos, fr, hP⟩
        obtain ⟨frP, sP, keepP⟩ := fr.re
        have hP5 := keepP _ _ nPl hP
        have kaP := (kac_ok CK K).up sP kaF
        have hW5 := sP _ _ hW2
        have bs := bs.trans sP
        have l9 : ns.length ≤ 9 := by omega
        clear sP keepP fr hP kaF hW2 frK fr10 fr11 nFP nPk
        generalize del H' l = F3 at frP hP5 kaP hW5 bs
        -- the live object, the words in order
        have hP' := frP.same _ _ hP5
        refine ⟨_, rfl, _, rfl, Pk, _, rfl, .inl ⟨.of hP', fun tp ntp => ?_⟩⟩
        have frT := frP.go (same_upd (o := .tup (ns.map V.int)) ntp)
        have htp : upd H' tp (.tup (ns.map V.int)) tp = some (.tup (ns.map V.int)) := upd_same
        have ntl := frP.ne ntp
        generalize upd H' tp (.tup (ns.map V.int)) = HT at frT htp ⊢
        obtain ⟨frU, sU, keepU⟩ := frT.re
        have htpU := keepU _ _ ntl htp
        have kaU := (kac_ok CK K).up sU kaP
        have hWU := sU _ _ hW5
        have hPU := sU _ _ hP5
        have bs := bs.trans sU
        clear sU keepU frP hP5 kaP hW5 frT hP' ntp
        generalize del HT l = F4 at frU htpU kaU hWU hPU bs
        refine fun xl dxl nx ndx nex => ?_
        have sX : Same HT (upd (upd HT dxl (.own xl)) xl (.ins C dxl [])) := fun b o e => by
          rw [upd_ne (ne_of_none e nx), upd_ne (ne_of_none e ndx)]
          exact e
        refine ⟨xl, dxl, x, F4, .ref tp, "dice", s0, [], diceMv s0 ws, ns, none, rfl, upd_same, by rw [upd_ne nex, upd_same], fun b o e => sX _ _ (frU.same _ _ e), frU.none nx, kaU, .right ⟨tp, rfl, .inr (.of htpU)⟩ pos, fun _ H6 sts pk an sy bt hx6 hsts td nan han hpk => ⟨rfl, ?_⟩, (fun i z => nomatch z)⟩
        have fr6 : Fr l F4 H6 := frU.go fun b u e => bt b u (ne_of_none e nx) (sX _ _ e)
        have nxl := frU.ne nx
        have nanT : HT an = none := by
          cases c : HT an with
          | none => rfl
          | some u => rw [sX _ _ c] at nan; cases nan
        have nal := frU.ne nanT
        have nFx := frU.none nx
        have nFa := frU.none nanT
        have nxa : xl ≠ an := fun e => by rw [e, han] at hx6; cases hx6
        have hpk6 : SqT K F4 pk (ns.map V.int) ∨ (pk ≠ l ∧ H6 pk = some (.tup (ns.map V.int))) := hpk.imp id fun ⟨h1, h2⟩ => ⟨(fun e => by
          obtain ⟨_, _, _, h3, _⟩ := frU.well
          rw [e, sX _ _ h3] at h1
          cases h1), h2⟩
        clear bt sX nan nanT hpk nx ndx nex td hsts sy
        have hW6 := fr6.same _ _ hWU
        refine ⟨_, rfl, .ref Wp, ws, rfl, ⟨Wp, rfl, .inl (.of hW6)⟩, fun ds Dp pd ud nDp => ⟨_, _, rfl, ?_⟩⟩
        have s7 := same_upd (o := .lst (ds.map V.str)) nDp
        have hD7 : upd H6 Dp (.lst (ds.map V.str)) Dp = some (.lst (ds.map V.str)) := upd_same
        have nDl := fr6.ne nDp
        have nDx : Dp ≠ xl := fun e => by rw [e, hx6] at nDp; cases nDp
        have nDa : Dp ≠ an := fun e => by rw [e, han] at nDp; cases nDp
        have fr7 := fr6.go s7
        have hx7 := s7 _ _ hx6
        have han7 := s7 _ _ han
        have hpk7 : SqT K F4 pk (ns.map V.int) ∨ (pk ≠ l ∧ upd H6 Dp (.lst (ds.map V.str)) pk = some (.tup (ns.map V.int))) := hpk6.imp id fun ⟨h1, h2⟩ => ⟨h1, s7 _ _ h2⟩
        generalize upd H6 Dp (.lst (ds.map V.str)) = H7 at fr7 hx7 han7 hpk7 hD7 ⊢
        clear s7 hx6 han hpk6 hW6 fr6 nDp
        obtain ⟨lv7, s5⟩ := Lv.make fr7 nFx nFa nxl nal
        have hD5 := del3_at nDl nDx nDa hD7
        have hpk5 : SqT K (del3 l xl an H7) pk (ns.map V.int) := by
          rcases hpk7 with h | ⟨h1, h2⟩
          · exact sqT_up (Q9.Same.sq s5) h
          · exact .of (del3_at h1 (fun e => by rw [e, hx7] at h2; cases h2) (fun e => by rw [e, han7] at h2; cases h2) h2)
        have ka5 := (kac_ok CK K).up s5 kaU
        have hP5 := s5 _ _ hPU
        have bs := bs.trans s5
        clear hpk7 s5 kaU hPU hWU frU htpU hD7 fr7 nDl nDx nDa nFx nFa
        generalize del3 l xl an H7 = F5 at lv7 hD5 hpk5 ka5 hP5 bs
        have lds : ds.length = n := pd.length_eq.trans lw
        -- the calls
        refine ⟨_, rfl, _, _, rfl, .inl ⟨_, .of (lv7.fr.same _ _ hP5), rfl⟩, _, _, rfl, rfl, _, rfl, (by rw [List.length_map]; omega), (by rw [List.length_map]; omega), ?_⟩
        refine for_range (lo := 0) (fun i σ H' => ∃ (y8 y9 y10 y11 : Option V) (rs : List V), σ = [some (.ref l), some (.int (1 + (n0 : Int))), some (.str s0), some (.ref Wp), some (.ref x), some (.ref Pk), some (.ref xl), some (.ref Dp), y8, y9, y10, y11, none, none, none, none] ∧ Lv l xl an F5 H' ∧
          H' xl = some (.ins C dxl (lflds x sts s0 pk (usAt n ns i : Nat) an 0)) ∧ H' an = some (.lst rs) ∧ rs.length = i) ⟨_, _, _, _, [], rfl, lv7, ?_, han7, rfl⟩ ?_ ?_
        · have e : usAt n ns 0 = 0 := by unfold usAt; split <;> simp
          rw [e]
          exact hx7
        · rintro i σ H' hi ⟨y8, y9, y10, y11, rs, rfl, lv, hx, ha, lr⟩
          have hi12 : i < 12 := by
            rw [List.length_map] at hi
            omega
          have hPi := lv.fr.same _ _ hP5
          have hDi := lv.fr.same _ _ hD5
          have oa := optAt n ns i pos n1
          have il := optI_lt n1 ns (usAt n ns i)
          have un := usAt_next n ns i
          obtain ⟨z, hz⟩ : ∃ z, ds[optI n ns (usAt n ns i)]? = some z := ⟨_, List.getElem?_eq_getElem (by rw [lds]; exact il)⟩
          obtain ⟨k, hk⟩ : ∃ k, k = optI n ns (usAt n ns i) := ⟨_, rfl⟩
          rw [← hk] at oa il hz
          refine ⟨fun v H1 => v = .int (k : Nat) ∧ H1 = H', ?_, ?_⟩
          · refine ⟨_, rfl, _, rfl, _, _, rfl, .inl ⟨_, .of hPi, rfl⟩, _, _, rfl, rfl, _, rfl, ?_⟩
            refine ite2 (fun c => ?_) (fun c => ?_)
            · have c' := of_decide_eq_true c
              rw [List.length_map] at c'
              have c2 : i < ns.length := by omega
              have hz0 : ns[i]? = some ns[i] := List.getElem?_eq_getElem c2
              refine ⟨_, rfl, _, rfl, Pk, _, _, .int ns[i], rfl, rfl, .of hPi, ?_, .inl ⟨_, rfl, _, rfl, _, _, rfl, rfl, (by omega), ?_, rfl⟩⟩
              · rw [Int.zero_add]
                exact atI_nat (by rw [List.getElem?_map, hz0]; rfl)
              · show V.int (ns[i] % (1 + (n0 : Int))) = _
                rw [hn, oa.1 _ hz0]
            · refine ⟨?_, rfl⟩
              have c' : ns.length ≤ i := by
                rw [decide_eq_true_eq, List.length_map] at c
                omega
              rw [oa.2 c']
              rfl
          rintro v H1 ⟨rfl, rfl⟩
          refine ⟨fun σ' H2 => ∃ (v11 : Option V) (qa : Addr), σ' = [some (.ref l), some (.int (1 + (n0 : Int))), some (.str s0), some (.ref Wp), some (.ref x), some (.ref Pk), some (.ref xl), some (.ref Dp), some (.int (0 + (i : Int))), some (.int (k : Nat)), some (.str (ansT z)), v11, none, none, none, none] ∧ Lv l xl an F5 H2 ∧
            H2 xl = some (.ins C dxl (lflds x sts s0 pk (usAt n ns (i + 1) : Nat) an 0)) ∧ H2 an = some (.lst (rs ++ [.ref qa])) ∧ H2 qa = some (.tup [.str s0, .str "cast", .str z, .str s0]), ?_, ?_⟩
          · refine ⟨_, rfl, xl, rfl, ⟨dxl, _, hx⟩, ?_⟩
            have key : (s0, ("cast" : Str)) ∈ (diceMv s0 ws).map (·.1) := List.mem_singleton.mpr rfl
            have usl : usAt n ns i ≤ ns.length := by unfold usAt; split <;> omega
            refine ⟨xl, dxl, x, sts, pk, an, s0, "cast", ns, usAt n ns i, 0, rs, "dice", s0, [], diceMv s0 ws, rfl, hx, sqT_up (Q9.Same.sq lv.fr.same) hpk5, usl, ha, (by rw [lr, PySem.sizeLine_eq]; omega), (kac_ok CK K).up lv.fr.same ka5, key, fun os mem => ?_⟩
            have eos : os = ws.map fun z => (z, s0) := by
              have h := List.mem_singleton.mp mem
              exact (Prod.mk.inj h).2
            subst eos
            refine ⟨fun e => ?_, fun os' pmo upo o ho H2 qa bq nq hx2 ha2 hq2 => ?_⟩
            · have := congrArg List.length e
              rw [List.length_map, lw] at this
              simp at this
              omega
            have eo := outs_told pmo upo pd ud
            subst eo
            have lo : (ds.map fun z => (z, s0)).length = n := by rw [List.length_map, lds]
            rw [lo] at ho hx2
            rw [← hk, List.getElem?_map, hz] at ho
            have eo : o = (z, s0) := (Option.some.inj ho).symm
            subst eo
            rw [un] at hx2
            have lv2 := lv.step bq
            refine ⟨fun yn => ⟨_, rfl, ?_⟩, fun yn H3 d s3 nd at_ => ⟨true, te, fun _ a na => ?_, fun z => Bool.noConfusion z⟩⟩
            · have ea := ans_yes yn
              refine ite2 (fun c => ?_) (fun c => ?_)
              · rw [if_pos c] at ea
                exact ⟨_, qa, by rw [← ea]; rfl, lv2, hx2, ha2, hq2⟩
              · rw [if_neg c] at ea
                exact ⟨_, qa, by rw [← ea]; rfl, lv2, hx2, ha2, hq2⟩
            · have ea : ansT z = "error" := by unfold ansT; rw [if_neg (by rw [yn]; exact Bool.false_ne_true)]
              exact ⟨_, qa, by rw [ea]; rfl, lv2.go s3, s3 _ _ hx2, s3 _ _ ha2, s3 _ _ hq2⟩
          rintro σ' H2 ⟨v11, qa, rfl, lv2, hx2, ha2, hq2⟩
          have hD2 := lv2.fr.same _ _ hD5
          refine ⟨_, rfl, _, rfl, Dp, _, _, .str z, rfl, rfl, .of hD2, atI_nat (by rw [List.getElem?_map, hz]; rfl), ?_⟩
          refine ⟨_, rfl, fun v H3 => v = .str (ansT z) ∧ Same H2 H3, ?_, ?_⟩
          · refine ⟨_, rfl, (by show 2 ≤ sizeLine; decide), fun t nt => ⟨t, _, rfl, .inr (.of upd_same), rfl, rfl, _, rfl, ?_⟩⟩
            have e : inV (V.str z) [V.str "yes", V.str "no"] = isYN z := yn_in z
            have sT := same_upd (o := .tup [.str "yes", .str "no"]) nt
            rw [e]
            refine ite2 (fun c => ?_) (fun c => ?_)
            · exact ⟨_, rfl, by unfold ansT; rw [if_pos (show isYN z = true from c)], sT⟩
            · exact ⟨by unfold ansT; rw [if_neg (show ¬ isYN z = true from c)], sT⟩
          rintro v H3 ⟨rfl, s3⟩
          refine ⟨rfl, _, rfl, ?_⟩
          have e2 : (!decide (V.str (ansT z) = V.str (ansT z))) = false := by rw [decide_eq_true rfl]; rfl
          rw [e2]
          refine iteF ?_
          have lv3 := lv2.go s3
          have hx3 := s3 _ _ hx2
          have ha3 := s3 _ _ ha2
          have hq3 := s3 _ _ hq2
          refine ⟨_, rfl, xl, dxl, _, rfl, hx3, lf_no _ _ _ _ _ _ _ _ (by decide +kernel) (by decide +kernel) (by decide +kernel) (by decide +kernel) (by decide +kernel) (by decide +kernel) (by decide +kernel), ?_⟩
          refine ⟨xl, dxl, x, sts, pk, an, s0, _, 0, _, rfl, hx3, ha3, fun pt npt => ?_⟩
          have s4 := same_upd (o := .lst (rs ++ [.ref qa])) npt
          refine ⟨_, rfl, pt, _, _, .ref qa, rfl, rfl, .of upd_same, atI_last _ _, ?_⟩
          refine ⟨_, rfl, _, rfl, _, rfl, (by show 4 ≤ sizeLine; decide), fun t4 nt4 => ?_⟩
          have s5 := same_upd (o := .tup [.str s0, .str "cast", .str z, .str s0]) nt4
          have hq5 : (upd (upd H3 pt (.lst (rs ++ [.ref qa]))) t4 (.tup [.str s0, .str "cast", .str z, .str s0])) qa = some (.tup (([s0, "cast", z, s0] : List Str).map V.str)) := s5 _ _ (s4 _ _ hq3)
          have oks : Oks [s0, "cast", z, s0] := fun y hy => by
            have o1 := (starts3 s0 hs0).2
            have o2 := (ww z (pd.subset (List.mem_of_getElem? hz))).2
            have o3 : PyData.canLay0 (.str "cast") = true := by decide +kernel
            rcases List.mem_cons.mp hy with rfl | hy
            · exact o1
            · rcases List.mem_cons.mp hy with rfl | hy
              · exact o3
              · rcases List.mem_cons.mp hy with rfl | hy
                · exact o2
                · rcases List.mem_cons.mp hy with rfl | hy
                  · exact o1
                  · cases hy
          refine ⟨_, _, dp_tup hq5, dp_tup (l := [s0, "cast", z, s0]) upd_same, shaped_tup oks, shaped_tup oks, _, rfl, ?_⟩
          rw [same_data (shaped_tup oks)]
          refine iteF ?_
          have lv5 := (lv3.go s4).go s5
          have hx5 := s5 _ _ (s4 _ _ hx3)
          have ha5 := s5 _ _ (s4 _ _ ha3)
          generalize upd (upd H3 pt (.lst (rs ++ [.ref qa]))) t4 _ = H5 at lv5 hx5 ha5 ⊢
          clear hq5 s5 s4 hq3 ha3 hx3 lv3 hq2 ha2 hx2 lv2 nt4 npt s3
          -- how many picks are left
          refine ⟨_, rfl, xl, dxl, _, rfl, hx5, xl, dxl, x, sts, pk, an, s0, ns, usAt n ns (i + 1), 0, rfl, hx5, sqT_up (Q9.Same.sq lv5.fr.same) hpk5, ?_⟩
          refine ⟨fun v H6 => v = .int ((ns.length : Int) - (usAt n ns (i + 1) : Nat)) ∧ H6 = H5, ?_, ?_⟩
          · have hP6 := lv5.fr.same _ _ hP5
            refine ⟨_, rfl, rfl, _, rfl, ?_⟩
            refine ite2 (fun c => ?_) (fun c => ?_)
            · refine ⟨_, rfl, _, _, rfl, .inl ⟨_, .of hP6, rfl⟩, ?_, rfl⟩
              have c' := V.int.inj (of_decide_eq_true c)
              have e1 : n = 1 := by omega
              rw [List.length_map]
              unfold usAt
              rw [if_pos e1]
              congr 1
            · refine ⟨_, rfl, _, _, rfl, .inl ⟨_, .of hP6, rfl⟩, _, rfl, _, _, rfl, rfl, _, _, rfl, rfl, _, _, rfl, ?_, rfl⟩
              have ne1 : n ≠ 1 := fun e => c (decide_eq_true (by rw [hn, e]; rfl))
              unfold usAt
              rw [if_neg ne1, List.length_map]
              congr 1
              show (if (ns.length : Int) - (0 + (i : Int)) - 1 > 0 then (ns.length : Int) - (0 + (i : Int)) - 1 else 0) = _
              split <;> omega
          rintro v H6 ⟨rfl, rfl⟩
          refine ⟨rfl, _, rfl, ?_⟩
          have e6 : (!decide (V.int ((ns.length : Int) - (usAt n ns (i + 1) : Nat)) = V.int ((ns.length : Int) - (usAt n ns (i + 1) : Nat)))) = false := by rw [decide_eq_true rfl]; rfl
          rw [e6]
          exact iteF ⟨_, _, _, _, rs ++ [.ref qa], rfl, lv5, hx5, ha5, by rw [List.length_append, lr]; rfl⟩
        rintro σ H' ⟨y8, y9, y10, y11, rs, rfl, lv, _, _, _⟩
        have frA := lv.fr
        clear hx7 han7 lv7 lv hD5 hpk5 lds pd ud ww wu lw nxa
        have hPA := frA.same _ _ hP5
        refine ⟨_, rfl, _, rfl, _, _, rfl, .inl ⟨_, .of hPA, rfl⟩, _, _, rfl, rfl, l, _, rfl, frA.well, (by rw [List.length_map]; omega), (by rw [List.length_map]; omega), fun ra oA ra0 ra1 wA => ?_⟩
        have frB := frA.draw wA
        rw [List.length_map] at ra1
        obtain ⟨at_, rfl⟩ := Int.eq_ofNat_of_zero_le ra0
        have hat : at_ ≤ ns.length := by omega
        generalize upd H' l oA = HB at frB ⊢
        clear wA frA hPA ra0 ra1
        -- what is no choice
        refine ⟨_, rfl, _, rfl, (by show 1 ≤ sizeLine; decide), fun t1 nt1 => ⟨(by show 1 ≤ sizeLine; decide), fun t2 nt2 => ?_⟩⟩
        have q1 := same_upd (o := .tup [.int 1]) nt1
        have hq1 : upd HB t1 (.tup [.int 1]) t1 = some (.tup [.int 1]) := upd_same
        have q2 := same_upd (o := .lst [.int 1]) nt2
        have frC := (frB.go q1).go q2
        have m1 := frB.ne nt1
        have m2 := (frB.go q1).ne nt2
        have hq1 := q2 _ _ hq1
        have hq2 : upd (upd HB t1 (.tup [.int 1])) t2 (.lst [.int 1]) t2 = some (.lst [.int 1]) := upd_same
        generalize upd (upd HB t1 (.tup [.int 1])) t2 (.lst [.int 1]) = HC at frC hq1 hq2 ⊢
        clear q1 q2 nt1 nt2
        refine fun t3 nt3 => ⟨_, _, rfl, rfl, ⟨by decide, by decide, by decide⟩, _, _, rfl, rfl, (by show 0 ≤ sizeLine; decide), fun t4 nt4 => ⟨(by show 10 ≤ sizeLine; decide), fun t5 nt5 => ?_⟩⟩
        have q3 := same_upd (o := .dT []) nt3
        have hq3 : upd HC t3 (.dT []) t3 = some (.dT []) := upd_same
        have frD := frC.go q3
        have m3 := frC.ne nt3
        have hq1 := q3 _ _ hq1
        have hq2 := q3 _ _ hq2
        generalize upd HC t3 (.dT []) = HD at frD hq1 hq2 hq3 nt4 nt5 ⊢
        have q4 := same_upd (o := .tup []) nt4
        have hq4 : upd HD t4 (.tup []) t4 = some (.tup []) := upd_same
        have frE := frD.go q4
        have m4 := frD.ne nt4
        have hq1 := q4 _ _ hq1
        have hq2 := q4 _ _ hq2
        have hq3 := q4 _ _ hq3
        generalize upd HD t4 (.tup []) = HE at frE hq1 hq2 hq3 hq4 nt5 ⊢
        obtain ⟨frF, sF, keepF⟩ := frE.re
        have hq1 := keepF _ _ m1 hq1
        have hq2 := keepF _ _ m2 hq2
        have hq3 := keepF _ _ m3 hq3
        have hq4 := keepF _ _ m4 hq4
        have ka6 := (kac_ok CK K).up sF ka5
        have hP6 := sF _ _ hP5
        have bs := bs.trans sF
        clear q3 q4 nt3 nt4 frB frC frD frE sF keepF m1 m2 m3 m4 ka5 hP5
        generalize del HE l = F6 at frF hq1 hq2 hq3 hq4 ka6 hP6 bs
        have neF := frF.ne nt5
        have frG := frF.go (same_upd (o := .lst [.non, .int (-1), .bl true, .bl false, .str "1", .ref t1, .ref t2, .ref t3, .int (0 - 10 ^ (20 : Int).toNat), .ref t4]) nt5)
        refine ⟨l, t5, _, rfl, frG.well, .of upd_same, neF, (by show 0 < 10; decide), (by show 10 < 1073741824; decide), fun j v oD hv wD => ?_⟩
        have frH := frG.draw wD
        have bad : BadCh K F6 v := by
          obtain ⟨o1, o2, o3, o4, o5⟩ := odd_kits
          have h : v ∈ ([.non, .int (-1), .bl true, .bl false, .str "1", .ref t1, .ref t2, .ref t3, .int (0 - 10 ^ (20 : Int).toNat), .ref t4] : List V) := List.mem_of_getElem? hv
          simp only [List.mem_cons, List.not_mem_nil, or_false] at h
          rcases h with rfl | rfl | rfl | rfl | rfl | rfl | rfl | rfl | rfl | rfl
          · exact ni_ty (.base .non) o1
          · exact .inr ⟨_, rfl, by decide⟩
          · exact .inl (.inl ⟨_, rfl⟩)
          · exact .inl (.inl ⟨_, rfl⟩)
          · exact ni_ty (.base (.str _)) o2
          · exact ni_ty (.base (.tup hq1)) o3
          · exact ni_ty (.base (.lst hq2)) o4
          · exact ni_ty (.base (.dT hq3)) o5
          · exact .inr ⟨_, rfl, by decide⟩
          · exact ni_ty (.base (.tup hq4)) o3
        generalize upd (upd HE t5 _) l oD = HG at frH ⊢
        clear hq1 hq2 hq3 hq4 frG frF neF nt5 wD hv
        -- the choices with it
        have hPH := frH.same _ _ hP6
        refine ⟨_, rfl, _, rfl, _, rfl, Pk, _, rfl, .of hPH, fun c1 nc1 => ?_⟩
        have r1 := same_upd (o := .lst (cutV (ns.map V.int) none (some (at_ : Int)))) nc1
        have hc1 : upd HG c1 (.lst (cutV (ns.map V.int) none (some (at_ : Int)))) c1 = some (.lst ((ns.take at_).map V.int)) := by
          rw [upd_same, cut_to (by rw [List.length_map]; exact hat), List.map_take]
        have frI := frH.go r1
        generalize upd HG c1 _ = HI at frI hc1 r1 ⊢
        refine ⟨_, rfl, (by show 1 ≤ sizeLine; decide), fun b1 nb1 => ?_⟩
        have r2 := same_upd (o := .lst [v]) nb1
        refine ⟨c1, b1, _, _, rfl, rfl, r2 _ _ hc1, upd_same, (by rw [List.length_map, List.length_take, PySem.sizeLine_eq]; show _ + 1 ≤ _; omega), fun c2 nc2 => ?_⟩
        have r3 := same_upd (o := .lst ((ns.take at_).map V.int ++ [v])) nc2
        have frJ := (frI.go r2).go r3
        have hc2 : upd (upd HI b1 (.lst [v])) c2 (.lst ((ns.take at_).map V.int ++ [v])) c2 = some (.lst ((ns.take at_).map V.int ++ [v])) := upd_same
        have n2 := (frI.go r2).ne nc2
        generalize upd (upd HI b1 (.lst [v])) c2 (.lst ((ns.take at_).map V.int ++ [v])) = HJ at frJ hc2 ⊢
        have hPJ := frJ.same _ _ hP6
        refine ⟨_, rfl, _, rfl, _, rfl, Pk, _, rfl, .of hPJ, fun c3 nc3 => ?_⟩
        have r4 := same_upd (o := .lst (cutV (ns.map V.int) (some (at_ : Int)) none)) nc3
        have hc3 : upd HJ c3 (.lst (cutV (ns.map V.int) (some (at_ : Int)) none)) c3 = some (.lst ((ns.drop at_).map V.int)) := by
          rw [upd_same, cut_from (by rw [List.length_map]; exact hat), List.map_drop]
        have hc2 := r4 _ _ hc2
        have frK2 := frJ.go r4
        generalize upd HJ c3 _ = HK at frK2 hc2 hc3 ⊢
        refine ⟨c2, c3, _, _, rfl, rfl, hc2, hc3, (by rw [List.length_append, List.length_map, List.length_map, List.length_take, List.length_drop, PySem.sizeLine_eq]; show _ + 1 + _ ≤ _; omega), fun c4 nc4 => ?_⟩
        have r5 := same_upd (o := .lst ((ns.take at_).map V.int ++ [v] ++ (ns.drop at_).map V.int)) nc4
        have hc4 : upd HK c4 (.lst ((ns.take at_).map V.int ++ [v] ++ (ns.drop at_).map V.int)) c4 = some (.lst ((ns.take at_).map V.int ++ [v] ++ (ns.drop at_).map V.int)) := upd_same
        have frL := frK2.go r5
        have n4 := frK2.ne nc4
        generalize upd HK c4 _ = HL at frL hc4 ⊢
        clear r1 r2 r3 r4 r5 hc1 hc2 hc3 nc1 nb1 nc2 nc3 nc4 frH frI frJ frK2 n2 hPH hPJ
        refine ⟨(by show 1 ≤ sizeLine; decide), fun b2 nb2 => ?_⟩
        have r6 := same_upd (o := .lst [.non]) nb2
        have frM := frL.go r6
        have hb2 : upd HL b2 (.lst [.non]) b2 = some (.lst [.non]) := upd_same
        have nb2l := frL.ne nb2
        have hc4 := r6 _ _ hc4
        generalize upd HL b2 (.lst [.non]) = HM at frM hb2 hc4 ⊢
        refine ⟨_, rfl, l, _, rfl, frM.well, by decide, by decide, fun rb oB rb0 rb1 wB => ?_⟩
        have frN := frM.draw wB
        have hb2 : upd HM l oB b2 = some (.lst [.non]) := by rw [upd_ne nb2l]; exact hb2
        have hc4 : upd HM l oB c4 = some (.lst ((ns.take at_).map V.int ++ [v] ++ (ns.drop at_).map V.int)) := by rw [upd_ne n4]; exact hc4
        generalize upd HM l oB = HN at frN hb2 hc4 ⊢
        refine ⟨b2, rb, _, rfl, rfl, hb2, (by omega), (by omega), (by rw [PySem.sizeLine_eq]; show 1 * _ ≤ _; omega), fun b3 nb3 => ?_⟩
        have r7 := same_upd (o := .lst (List.replicate rb.toNat [V.non]).flatten) nb3
        have frO := frN.go r7
        have lr3 : (List.replicate rb.toNat [V.non]).flatten.length ≤ 2 := by rw [rep_flat, List.length_replicate]; omega
        refine ⟨c4, b3, _, _, rfl, rfl, r7 _ _ hc4, upd_same, (by rw [List.length_append, List.length_append, List.length_map, List.length_map, List.length_take, List.length_drop, PySem.sizeLine_eq]; show _ + 1 + _ + _ ≤ _; omega), fun c5 nc5 => ?_⟩
        have r8 := same_upd (o := .lst ((ns.take at_).map V.int ++ [v] ++ (ns.drop at_).map V.int ++ (List.replicate rb.toNat [V.non]).flatten)) nc5
        obtain ⟨vs, hvs, hv1, hv2⟩ : ∃ vs, vs = (ns.take at_).map V.int ++ [v] ++ (ns.drop at_).map V.int ++ (List.replicate rb.toNat [V.non]).flatten ∧ vs[(ns.take at_).length]? = some v ∧ vs.take (ns.take at_).length = (ns.take at_).map V.int := by
          refine ⟨_, rfl, ?_, ?_⟩
          · rw [List.append_assoc, List.append_assoc, List.getElem?_append_right (by rw [List.length_map]; exact Nat.le_refl _), List.length_map, Nat.sub_self]
            rfl
          · rw [List.append_assoc, List.append_assoc, List.take_append_of_le_length (by rw [List.length_map]; exact Nat.le_refl _), List.take_of_length_le (by rw [List.length_map]; exact Nat.le_refl _)]
        have frP2 := frO.go r8
        have nc5l := frO.ne nc5
        have hc5 : upd (upd HN b3 (.lst (List.replicate rb.toNat [V.non]).flatten)) c5 (.lst ((ns.take at_).map V.int ++ [v] ++ (ns.drop at_).map V.int ++ (List.replicate rb.toNat [V.non]).flatten)) c5 = some (.lst vs) := by rw [hvs]; exact upd_same
        generalize upd (upd HN b3 (.lst (List.replicate rb.toNat [V.non]).flatten)) c5 _ = HQ at frP2 hc5 ⊢
        clear r6 r7 r8 nb2 nb3 nc5 frL frM frN frO hb2 hc4 wB nb2l n4 lr3
        obtain ⟨frQ, sQ, keepQ⟩ := frP2.re
        have hc6 := keepQ _ _ nc5l hc5
        have ka7 := (kac_ok CK K).up sQ ka6
        have bad := badCh_up sQ bad
        have bs := bs.trans sQ
        clear keepQ sQ frP2 hc5 ka6 hP6 hvs rb0 rb1
        generalize del HQ l = F7 at frQ hc6 ka7 bad bs
        have lat : (ns.take at_).length = at_ := by rw [List.length_take]; omega
        have chL : ∀ {H' : Hp}, Same F7 H' → Choices K H' (.ref c5) (ns.take at_) (some (at_ : Int)) := fun {H'} s => by
          have h := Choices.bad (K := K) (H := H') (r := .ref c5) ⟨c5, rfl, .inl (.of (s _ _ hc6))⟩ hv1 hv2 (fun z hz => pos z (List.mem_of_mem_take hz)) (badCh_up s bad)
          rwa [lat] at h
        -- what is no row
        refine ⟨_, rfl, fun t6 nt6 => ?_⟩
        have q6 := same_upd (o := .dT []) nt6
        have hq6 : upd HQ t6 (.dT []) t6 = some (.dT []) := upd_same
        have m6 := frQ.ne nt6
        have frR := frQ.go q6
        generalize upd HQ t6 (.dT []) = HR at frR hq6 ⊢
        refine ⟨(by show 7 ≤ sizeLine; decide), fun t7 nt7 => ?_⟩
        have q7 := same_upd (o := .lst [.non, .int 5, .str "12", .ref t6, .bl true, .str "", .int 0]) nt7
        have frS := frR.go q7
        have hq6 := q7 _ _ hq6
        refine ⟨l, t7, _, rfl, frS.well, .of upd_same, frR.ne nt7, (by show 0 < 7; decide), (by show 7 < 1073741824; decide), fun j2 v2 oE hv3 wE => ?_⟩
        have frT := frS.draw wE
        have hq6 : upd (upd HR t7 (.lst [.non, .int 5, .str "12", .ref t6, .bl true, .str "", .int 0])) l oE t6 = some (.dT []) := by rw [upd_ne m6]; exact hq6
        have nrow : NotRow K (upd (upd HR t7 (.lst [.non, .int 5, .str "12", .ref t6, .bl true, .str "", .int 0])) l oE) v2 := by
          obtain ⟨o1, o2, o3, o4, o5, o6, o7, o8, o9, o10⟩ := row_kits
          have h : v2 ∈ ([.non, .int 5, .str "12", .ref t6, .bl true, .str "", .int 0] : List V) := List.mem_of_getElem? hv3
          simp only [List.mem_cons, List.not_mem_nil, or_false] at h
          rcases h with rfl | rfl | rfl | rfl | rfl | rfl | rfl
          · exact nr_ty (.base .non) o1 o2
          · exact nr_ty (.base (.int _)) o3 o4
          · exact nr_ty (.base (.str _)) o5 o6
          · exact nr_ty (.base (.dT hq6)) o7 o8
          · exact nr_ty (.base (.bl _)) o9 o10
          · exact nr_ty (.base (.str _)) o5 o6
          · exact nr_ty (.base (.int _)) o3 o4
        generalize upd (upd HR t7 _) l oE = HS at frT nrow ⊢
        clear q6 q7 nt6 nt7 frR frS hq6 wE hv3 m6
        -- a thousand picks
        refine ⟨_, rfl, (by show 1 ≤ sizeLine; decide), fun b6 nb6 => ?_⟩
        have q8 := same_upd (o := .lst [.int 5]) nb6
        refine ⟨b6, 1000, _, rfl, rfl, upd_same, by decide, by decide, (by show 1 * 1000 ≤ sizeLine; decide), fun c8 nc8 => ?_⟩
        have q9 := same_upd (o := .lst (List.replicate (1000 : Int).toNat [V.int 5]).flatten) nc8
        have hc8 : upd (upd HS b6 (.lst [.int 5])) c8 (.lst (List.replicate (1000 : Int).toNat [V.int 5]).flatten) c8 = some (.lst ((List.replicate 1000 (5 : Int)).map V.int)) := by
          rw [upd_same, rep_flat, List.map_replicate]
          rfl
        have frV := (frT.go q8).go q9
        have nrow := notRow_up (q8.trans q9) nrow
        generalize upd (upd HS b6 (.lst [.int 5])) c8 _ = HU at frV hc8 nrow ⊢
        clear q8 q9 nb6 nc8 frT
        refine fun x2 dx2 nx2 ndx2 ne2 => ?_
        have sX2 : Same HU (upd (upd HU dx2 (.own x2)) x2 (.ins C dx2 [])) := fun b o e => by
          rw [upd_ne (ne_of_none e nx2), upd_ne (ne_of_none e ndx2)]
          exact e
        refine ⟨x2, dx2, x, HU, .ref c8, "dice", s0, [], diceMv s0 ws, List.replicate 1000 5, none, rfl, upd_same, by rw [upd_ne ne2, upd_same], sX2, nx2, (kac_ok CK K).up frV.same ka7, .right ⟨c8, rfl, .inl (.of hc8)⟩ (fun z hz => by rw [(List.mem_replicate.mp hz).2]; decide), fun _ H9 sts2 pk2 an2 sy2 bt hx9 hsts2 td2 nan2 han2 hpk9 => ⟨rfl, ?_⟩, (fun i z => nomatch z)⟩
        have s9 : Same HU H9 := fun b u e => bt b u (ne_of_none e nx2) (sX2 _ _ e)
        have fr9 := frV.go s9
        have nrow := notRow_up s9 nrow
        have hpk9 : SqT K H9 pk2 ((List.replicate 1000 (5 : Int)).map V.int) := hpk9.elim (sqT_up (Q9.Same.sq s9)) fun h => .of h.2
        clear bt sX2 nx2 ndx2 ne2 frV s9 hc8 hsts2 td2 nan2 han2
        generalize hTh : List.replicate 1000 (5 : Int) = th at hpk9
        have lth : th.length = 1000 := by rw [← hTh, List.length_replicate]
        clear hTh
        refine ⟨_, rfl, x2, dx2, _, rfl, hx9, x2, dx2, x, sts2, pk2, an2, s0, th, 0, 0, rfl, hx9, hpk9, rfl, _, rfl, ?_⟩
        have e9 : (!decide (V.int ((th.length : Int) - ((0 : Nat) : Int)) = V.int 1000)) = false := by
          rw [lth]
          rfl
        rw [e9]
        refine iteF ?_
        clear e9 hpk9 lth hx9
        -- one that is none behind 999
        refine ⟨_, rfl, (by show 1 ≤ sizeLine; decide), fun d1 nd1 => ?_⟩
        have u1 := same_upd (o := .lst [.int 0]) nd1
        refine ⟨d1, 999, _, rfl, rfl, upd_same, by decide, by decide, (by show 1 * 999 ≤ sizeLine; decide), fun d2 nd2 => ?_⟩
        have u2 := same_upd (o := .lst (List.replicate (999 : Int).toNat [V.int 0]).flatten) nd2
        have hd2 : upd (upd H9 d1 (.lst [.int 0])) d2 (.lst (List.replicate (999 : Int).toNat [V.int 0]).flatten) d2 = some (.lst ((List.replicate 999 (0 : Int)).map V.int)) := by
          rw [upd_same, rep_flat, List.map_replicate]
          rfl
        have fr10 := (fr9.go u1).go u2
        have nrow := notRow_up (u1.trans u2) nrow
        generalize upd (upd H9 d1 (.lst [.int 0])) d2 _ = HV at fr10 hd2 nrow ⊢
        generalize hTh : List.replicate 999 (0 : Int) = th at hd2
        have lth : th.length = 999 := by rw [← hTh, List.length_replicate]
        have pth : ∀ z ∈ th, (0 : Int) ≤ z := fun z hz => by rw [← hTh] at hz; rw [(List.mem_replicate.mp hz).2]; decide
        clear hTh u1 u2 nd1 nd2 fr9
        refine ⟨(by show 1 ≤ sizeLine; decide), fun d3 nd3 => ?_⟩
        have u3 := same_upd (o := .lst [.non]) nd3
        refine ⟨d2, d3, _, _, rfl, rfl, u3 _ _ hd2, upd_same, (by rw [List.length_map, lth]; show 999 + 1 ≤ sizeLine; decide), fun d4 nd4 => ?_⟩
        have u4 := same_upd (o := .lst (th.map V.int ++ [.non])) nd4
        have hd4 : upd (upd HV d3 (.lst [.non])) d4 (.lst (th.map V.int ++ [.non])) d4 = some (.lst (th.map V.int ++ [.non])) := upd_same
        have fr11 := (fr10.go u3).go u4
        have nrow := notRow_up (u3.trans u4) nrow
        generalize upd (upd HV d3 (.lst [.non])) d4 _ = HW at fr11 hd4 nrow ⊢
        clear u3 u4 nd3 nd4 fr10 hd2
        have ch : Choices K HW (.ref d4) th (some (999 : Int)) := by
          have h := Choices.bad (K := K) (H := HW) (r := .ref d4) (vs := th.map V.int ++ [.non]) (v := .non) (ns := th) ⟨d4, rfl, .inl (.of hd4)⟩
            (by rw [List.getElem?_append_right (by rw [List.length_map]; exact Nat.le_refl _), List.length_map, Nat.sub_self]; rfl) (by rw [List.take_append_of_le_length (by rw [List.length_map]; exact Nat.le_refl _), List.take_of_length_le (by rw [List.length_map]; exact Nat.le_refl _)]) pth (ni_ty (.base .non) odd_kits.1)
          rwa [lth] at h
        refine ⟨x, .ref d4, "dice", s0, [], diceMv s0 ws, th, 999, rfl, (kac_ok CK K).up fr11.same ka7, ch, fun HX u5 => ⟨rfl, _, rfl, iteF ?_⟩⟩
        have fr12 := fr11.go u5
        have nrow := notRow_up u5 nrow
        clear ch lth pth hd4 u5 fr11
        -- what the three answers are
        refine ⟨_, rfl, _, rfl, x, .ref c5, "dice", s0, [], diceMv s0 ws, _, _, rfl, (kac_ok CK K).up fr12.same ka7, chL fr12.same, fun HY u6 => ⟨_, rfl, rfl, _, rfl, ?_⟩⟩
        have fr13 := fr12.go u6
        have nrow := notRow_up u6 nrow
        have ea : decide (V.int (at_ : Int) = V.int (at_ : Int)) = true := decide_eq_true rfl
        rw [ea]
        refine iteT ?_
        refine ⟨_, rfl, _, rfl, c5, _, rfl, .inl ⟨.of (fr13.same _ _ hc6), fun d5 nd5 => ?_⟩⟩
        have u7 := same_upd (o := .tup vs) nd5
        have fr14 := fr13.go u7
        have nrow := notRow_up u7 nrow
        have chT : Choices K (upd HY d5 (.tup vs)) (.ref d5) (ns.take at_) (some (at_ : Int)) := by
          have h := Choices.bad (K := K) (H := upd HY d5 (.tup vs)) (r := .ref d5) (vs := vs) (v := v) ⟨d5, rfl, .inr (.of upd_same)⟩ hv1 hv2 (fun z hz => pos z (List.mem_of_mem_take hz)) (badCh_up fr14.same bad)
          rwa [lat] at h
        refine ⟨x, .ref d5, "dice", s0, [], diceMv s0 ws, _, _, rfl, (kac_ok CK K).up fr14.same ka7, chT, fun HZ u8 => ⟨_, rfl, rfl, _, rfl, ?_⟩⟩
        rw [ea]
        refine iteT ?_
        have fr15 := fr14.go u8
        have nrow := notRow_up u8 nrow
        refine ⟨_, rfl, _, rfl, x, v2, "dice", s0, [], diceMv s0 ws, [], -1, rfl, (kac_ok CK K).up fr15.same ka7, .none nrow, fun HA2 u9 => ⟨_, rfl, rfl, ?_⟩⟩
        have fr16 := fr15.go u9
        exact q HA2 (fun b u ne e => fr16.same _ _ (bs _ _ (by rw [del_ne ne]; exact e))) fr16.well
end
end Q9
end
-- QLawE
section
set_option maxRecDepth 100000
set_option maxHeartbeats 8000000
namespace Q9
open PySem L2
abbrev lawN : List Str := ["_law_script", "_law_cell", "_law_source", "_law_turn"]
theorem scL : FnScope lawN ["_law_script"] (defScope sLaw) := ⟨rfl, rfl, rfl, by decide +kernel, rfl, by decide +kernel, by decide +kernel⟩
structure TLawE (K : PySem.W.Frag) (mg : Str → Option Value) (fS fR : Addr) : Prop where
  range : mg "range" = none
  gS : mg "_law_source_of" = some (.ref fS)
  kS : PySem.W.keepIn K (.ref fS) = true
  gR : mg "_law_right" = some (.ref fR)
  kR : PySem.W.keepIn K (.ref fR) = true
/-- law's promise as the statement wants it -/
def spLaw4 (K : PySem.W.Frag) : Sp := fun vs H Q _ => ∃ (a : Addr) (xs : List Int), vs = [.ref a] ∧ SqL K H a (xs.map V.int) ∧ xs.length ≤ 1000 ∧ ∀ H', Same H H' → Q (.bl true) H'
section
variable {P : Program} {w : World} {K : PySem.W.Frag} {mg : Str → Option Value} {base : Heap} {fS fR : Addr}
theorem ok_lawE {f : Addr} {fd dS dR : FuncData} (F : Fun K "law" "law" sLaw f fd) (T : TLawE K mg fS fR)
    (GS : FnOk P w K mg base CX0 1 fS dS ["_law_cell"] spSource) (bS : Binds K dS ["_law_cell"] [])
    (GR : FnOk P w K mg base CX0 8 fR dR ["_law_source"] spRgt) (bR : Binds K dR ["_law_source"] []) : FnOk P w K mg base CX0 9 f fd ["_law_script"] (spLaw4 K) := by
  refine F.ok scL (fun vs H Q E h => ?_) (fun cdv A outer s H vs Q E hr h => ?_)
  · obtain ⟨a, xs, rfl, _⟩ := h
    rfl
  · obtain ⟨a, xs, rfl, ha, len, q⟩ := h
    refine ⟨_, pss_cons (ps_for PassesOwn.never rfl (pi_list (pe_op op_cat (pe_slice sl_list (pv 0) po_none (po_some pe_int)) (pe_lst (pa_cons pe_int pa_nil)))) (pg_name (i := 1) scL.nd rfl (.inl rfl))
        (pss_cons (ps_set (i := 2) scL.nd rfl (.inl rfl) (pe_call GS (hr.mono (by omega)) (by rfl) T.gS T.kS bS .nil pass0 (pa_cons (pv 1) pa_nil)))
        (pss_one (ps_for PassesOwn.never rfl (pi_range1 (by rfl) T.range (pa_cons pe_int pa_nil)) (pg_name (i := 3) scL.nd rfl (.inl rfl))
          (pss_one (ps_if (pt_not (pt_val (pe_call GR (hr.mono (by omega)) (by rfl) T.gR T.kR bR .nil pass0 (pa_cons (pv 2) pa_nil)))) (pss_one (ps_ret pe_bl)) pss_nil))))))
      (pss_one (ps_ret pe_bl)), ?_⟩
    refine ⟨_, rfl, 4, rfl, a, _, rfl, ha, fun p hp => ?_⟩
    refine ⟨(by show 1 ≤ sizeLine; decide), fun z hz => ⟨p, z, _, _, rfl, rfl, (by rw [upd_ne (ne_of_none upd_same hz)]; exact upd_same), upd_same, ?_, fun c hc => ?_⟩⟩
    · have := cutV_length (xs.map V.int) none (some 4)
      rw [List.length_map] at this
      show _ + 1 ≤ sizeLine
      exact Nat.le_trans (Nat.succ_le_succ (Nat.le_trans this len)) (by decide)
    obtain ⟨ys, ey⟩ : ∃ ys : List Int, cutV (xs.map V.int) none (some 4) ++ [V.int 0] = ys.map V.int := by
      refine ⟨((xs.drop (HT.sIx (xs.map V.int).length 0 none)).take (HT.sIx (xs.map V.int).length (xs.map V.int).length (some 4) - HT.sIx (xs.map V.int).length 0 none)) ++ [0], ?_⟩
      unfold cutV
      rw [List.map_append, List.map_take, List.map_drop]
      rfl
    have s0 : Same H (upd (upd (upd H p (.lst (cutV (xs.map V.int) none (some 4)))) z (.lst [.int 0])) c (.lst (cutV (xs.map V.int) none (some 4) ++ [.int 0]))) := fun b o e => by
      exact same_upd hc b o (same_upd hz b o (same_upd hp b o e))
    have hc0 : (upd (upd (upd H p (.lst (cutV (xs.map V.int) none (some 4)))) z (.lst [.int 0])) c (.lst (cutV (xs.map V.int) none (some 4) ++ [.int 0]))) c = some (.lst (ys.map V.int)) := by rw [upd_same, ey]
    generalize upd (upd (upd H p (.lst (cutV (xs.map V.int) none (some 4)))) z (.lst [.int 0])) c (.lst (cutV (xs.map V.int) none (some 4) ++ [.int 0])) = H0 at s0 hc0 ⊢
    clear hp hz hc
    refine ⟨c, rfl, ⟨_, .of hc0⟩, for_list (K := K) (a := c) (xs := ys.map V.int) (fun i σ H' => ∃ y1 y2 y3 : Option V, σ = [some (.ref a), y1, y2, y3] ∧ Same H0 H')
      ⟨_, _, _, rfl, Same.refl _⟩ (fun i σ H' _ ⟨_, _, _, _, s⟩ => .of (s _ _ hc0)) ?_ ?_⟩
    · rintro i x σ H1 hx ⟨y1, y2, y3, rfl, s1⟩
      obtain ⟨n, rfl⟩ : ∃ n : Int, x = V.int n := by
        rw [List.getElem?_map] at hx
        obtain ⟨n, _, h2⟩ := Option.map_eq_some_iff.mp hx
        exact ⟨n, h2.symm⟩
      refine ⟨_, rfl, n, rfl, fun l w nl wB => ?_⟩
      have sB : Same H1 (upd H1 l w) := same_upd nl
      generalize upd H1 l w = B at sB wB ⊢
      have old : ∀ {H' : Hp}, But l B H' → Same H0 H' := fun b c o e => b c o (ne_of_none (s1 _ _ e) nl) (sB _ _ (s1 _ _ e))
      refine ⟨6, rfl, by decide, by decide, for_range (n := 6) (fun j σ H' => ∃ y3 : Option V, σ = [some (.ref a), some (.int n), some (.ref l), y3] ∧ But l B H' ∧ Well H' l) ⟨_, rfl, (fun _ _ _ e => e), wB⟩ ?_ ?_⟩
      · rintro j σ H2 hj ⟨z3, rfl, b2, w2⟩
        exact ⟨_, rfl, l, rfl, w2, fun H3 b3 w3 => ⟨_, rfl, iteF ⟨_, rfl, b2.trans b3, w3⟩⟩⟩
      · rintro σ H2 ⟨z3, rfl, b2, w2⟩
        exact ⟨_, _, _, rfl, old b2⟩
    · rintro σ H1 ⟨y1, y2, y3, rfl, s1⟩
      exact q H1 fun b o e => s1 _ _ (s0 _ _ e)
end
end Q9
end
-- QAll
section
set_option maxRecDepth 100000
set_option maxHeartbeats 8000000
namespace Q9
open PySem L2
theorem walk4 {l : PySem.W.OpenLaw} {q : Program} {loose : List Str} {XP : (Str → Option Value) → Heap → Prop} {YP : World → Heap → Prop} {d : DefRec} {K : Params → PySem.W.Frag} (hn : l.most = some 63) (hdf : d.params.defaults = [])
    (hY : ∀ (w : World) (h : Heap), YP w h → (K w.params).In h)
    (F : ∀ (w : World) (mg : Str → Option Value) (fa : Addr) (h : Heap), (K w.params).In h → h.Ns mainGlobals mg → mg d.name = some (.ref fa) →
      ∃ fd : FuncData, (∀ (s : Shared) (u : Value), BindsTo s fd ⟨[u], []⟩ [("_law_script", u)]) ∧ ∀ base : Heap, (K w.params).In base → base.Ns mainGlobals mg → FnOk l.prog w (K w.params) mg base CX0 12 fa fd ["_law_script"] (spLaw4 (K w.params))) :
    PySem.W.WalkO q loose XP YP l.row.toRowW d [] (fun f vs => PySem.call f vs) :=
  L2.walk_of (n := 63) (k := 12) (x := "_law_script") (CX := fun _ => CX0) (sp := fun w => spLaw4 (K w.params)) hn (by decide) hdf ⟨rfl, by decide, by decide⟩ hY F (fun _ _ a ns hl _ hS => ⟨a, ns, rfl, hS, Nat.le_trans hl (by decide), fun _ _ => rfl⟩) fun _ _ _ _ _ z => z
theorem all_mk {l : PySem.W.OpenLaw} {w : World} {K : PySem.W.Frag} {h : Heap} {mg : Str → Option Value} {fa C CL CBk CBc CMt CHi CNm CR NCBk NCBc NCMt : Addr} (X : K.In h) (G : h.Ns mainGlobals mg) (hfa : mg "law" = some (.ref fa))
    {fRow fName fErr fWord fInt fUn fCh fKey fAR fPa fRi fRd fCP fSrc fD fP fMx fBd fRg fLaw fBI fCI fMI fI fSt fSs fG fLI fLC fOp fLf fTo pSt pLf dT teT : Addr}
    {odRow anRow odName anName odErr anErr odWord anWord odInt anInt odUn anUn odCh anCh odKey anKey odAR anAR odPa anPa odRi anRi odRd anRd odCP anCP odSrc anSrc odD anD odP anP odMx anMx odBd anBd odRg anRg odLaw anLaw odBI anBI odCI anCI odMI anMI odI anI odSt anSt odSs anSs odG anG odLI anLI odLC anLC odOp anOp odLf anLf odTo anTo ddT : Option Addr}
    {slRow slName slErr slWord slInt slUn slCh slKey slAR slPa slRi slRd slCP slSrc slD slP slMx slBd slRg slLaw slBI slCI slMI slI slSt slSs slG slLI slLC slOp slLf slTo slT : Array (Option Value)}
    {ocRow kVRow dcRow pmRow cdRow ctRow ocName kVName dcName pmName cdName ctName ocErr kVErr dcErr pmErr cdErr ctErr ocWord kVWord dcWord pmWord cdWord ctWord ocInt kVInt dcInt pmInt cdInt ctInt ocUn kVUn dcUn pmUn cdUn ctUn ocCh kVCh dcCh pmCh cdCh ctCh ocKey kVKey dcKey pmKey cdKey ctKey ocAR kVAR dcAR pmAR cdAR ctAR ocPa kVPa dcPa pmPa cdPa ctPa ocRi kVRi dcRi pmRi cdRi ctRi ocRd kVRd dcRd pmRd cdRd ctRd ocCP kVCP dcCP pmCP cdCP ctCP ocSrc kVSrc dcSrc pmSrc cdSrc ctSrc ocD kVD dcD pmD cdD ctD ocP kVP dcP pmP cdP ctP ocMx kVMx dcMx pmMx cdMx ctMx ocBd kVBd dcBd pmBd cdBd ctBd ocRg kVRg dcRg pmRg cdRg ctRg ocLaw kVLaw dcLaw pmLaw cdLaw ctLaw ocBI kVBI dcBI pmBI cdBI ctBI ocCI kVCI dcCI pmCI cdCI ctCI ocMI kVMI dcMI pmMI cdMI ctMI ocI kVI dcI pmI cdI ctI ocSt kVSt dcSt pmSt cdSt ctSt ocSs kVSs dcSs pmSs cdSs ctSs ocG kVG dcG pmG cdG ctG ocLI kVLI dcLI pmLI cdLI ctLI ocLC kVLC dcLC pmLC cdLC ctLC ocOp kVOp dcOp pmOp cdOp ctOp ocLf kVLf dcLf pmLf cdLf ctLf ocTo kVTo dcTo pmTo cdTo ctTo cdT : Value}
    {restSt restLf : List Value} {nnT : Nat} {tt_MOST_SIGNS tt_MOST_STATES tt_MOST_METHODS tt_MOST_OUTCOMES : Tok}
    {nmCBk qCBk : Str} {bsCBk bmCBk : List Value} {snCBk : List Str} {subCBk : List Value} {abCBk : Bool} {colCBk : Option Bool} {ddCBk : Option Addr} {m0CBk m1CBk m2CBk m3CBk m5CBk : Option Value}
    {nmCBc qCBc : Str} {bsCBc bmCBc : List Value} {snCBc : List Str} {subCBc : List Value} {abCBc : Bool} {colCBc : Option Bool} {ddCBc : Option Addr} {m0CBc m1CBc m2CBc m3CBc m5CBc : Option Value}
    {nmCMt qCMt : Str} {bsCMt bmCMt : List Value} {snCMt : List Str} {subCMt : List Value} {abCMt : Bool} {colCMt : Option Bool} {ddCMt : Option Addr} {m0CMt m1CMt m2CMt m3CMt m5CMt : Option Value}
    (aRow : PySem.W.nsIn K mainGlobals "is_row" = some (some (.ref fRow)))
    (lRow : K.lookup fRow = some ⟨ocRow, odRow, .func (PySem.W.fnOf "is_row" "is_row" (defArgs sIsRow) (defBody sIsRow) (defScope sIsRow) .none kVRow dcRow pmRow anRow cdRow ctRow), slRow⟩)
    (cRow : PySem.W.codeIn K cdRow "is_row" = true)
    (kRow : PySem.W.keepIn K (.ref fRow) = true)
    (aName : PySem.W.nsIn K mainGlobals "is_name" = some (some (.ref fName)))
    (lName : K.lookup fName = some ⟨ocName, odName, .func (PySem.W.fnOf "is_name" "is_name" (defArgs sIsName) (defBody sIsName) (defScope sIsName) .none kVName dcName pmName anName cdName ctName), slName⟩)
    (cName : PySem.W.codeIn K cdName "is_name" = true)
    (kName : PySem.W.keepIn K (.ref fName) = true)
    (aErr : PySem.W.nsIn K mainGlobals "is_error" = some (some (.ref fErr)))
    (lErr : K.lookup fErr = some ⟨ocErr, odErr, .func (PySem.W.fnOf "is_error" "is_error" (defArgs sIsError) (defBody sIsError) (defScope sIsError) .none kVErr dcErr pmErr anErr cdErr ctErr), slErr⟩)
    (cErr : PySem.W.codeIn K cdErr "is_error" = true)
    (kErr : PySem.W.keepIn K (.ref fErr) = true)
    (aWord : PySem.W.nsIn K mainGlobals "is_word" = some (some (.ref fWord)))
    (lWord : K.lookup fWord = some ⟨ocWord, odWord, .func (PySem.W.fnOf "is_word" "is_word" (defArgs sIsWord) (defBody sIsWord) (defScope sIsWord) .none kVWord dcWord pmWord anWord cdWord ctWord), slWord⟩)
    (cWord : PySem.W.codeIn K cdWord "is_word" = true)
    (kWord : PySem.W.keepIn K (.ref fWord) = true)
    (aInt : PySem.W.nsIn K mainGlobals "is_integer" = some (some (.ref fInt)))
    (lInt : K.lookup fInt = some ⟨ocInt, odInt, .func (PySem.W.fnOf "is_integer" "is_integer" (defArgs sIsInt) (defBody sIsInt) (defScope sIsInt) .none kVInt dcInt pmInt anInt cdInt ctInt), slInt⟩)
    (cInt : PySem.W.codeIn K cdInt "is_integer" = true)
    (kInt : PySem.W.keepIn K (.ref fInt) = true)
    (aUn : PySem.W.nsIn K mainGlobals "are_unlike_names" = some (some (.ref fUn)))
    (lUn : K.lookup fUn = some ⟨ocUn, odUn, .func (PySem.W.fnOf "are_unlike_names" "are_unlike_names" (defArgs sUnlike) (defBody sUnlike) (defScope sUnlike) .none kVUn dcUn pmUn anUn cdUn ctUn), slUn⟩)
    (cUn : PySem.W.codeIn K cdUn "are_unlike_names" = true)
    (kUn : PySem.W.keepIn K (.ref fUn) = true)
    (aCh : PySem.W.nsIn K mainGlobals "check_choices" = some (some (.ref fCh)))
    (lCh : K.lookup fCh = some ⟨ocCh, odCh, .func (PySem.W.fnOf "check_choices" "check_choices" (defArgs sCheckCh) (defBody sCheckCh) (defScope sCheckCh) .none kVCh dcCh pmCh anCh cdCh ctCh), slCh⟩)
    (cCh : PySem.W.codeIn K cdCh "check_choices" = true)
    (kCh : PySem.W.keepIn K (.ref fCh) = true)
    (aKey : PySem.W.nsIn K mainGlobals "_is_key" = some (some (.ref fKey)))
    (lKey : K.lookup fKey = some ⟨ocKey, odKey, .func (PySem.W.fnOf "_is_key" "_is_key" (defArgs sIsKey) (defBody sIsKey) (defScope sIsKey) .none kVKey dcKey pmKey anKey cdKey ctKey), slKey⟩)
    (cKey : PySem.W.codeIn K cdKey "_is_key" = true)
    (kKey : PySem.W.keepIn K (.ref fKey) = true)
    (aAR : PySem.W.nsIn K mainGlobals "_are_rows" = some (some (.ref fAR)))
    (lAR : K.lookup fAR = some ⟨ocAR, odAR, .func (PySem.W.fnOf "_are_rows" "_are_rows" (defArgs sAreRows) (defBody sAreRows) (defScope sAreRows) .none kVAR dcAR pmAR anAR cdAR ctAR), slAR⟩)
    (cAR : PySem.W.codeIn K cdAR "_are_rows" = true)
    (kAR : PySem.W.keepIn K (.ref fAR) = true)
    (aPa : PySem.W.nsIn K mainGlobals "_pairs_of_texts" = some (some (.ref fPa)))
    (lPa : K.lookup fPa = some ⟨ocPa, odPa, .func (PySem.W.fnOf "_pairs_of_texts" "_pairs_of_texts" (defArgs sPairs) (defBody sPairs) (defScope sPairs) .none kVPa dcPa pmPa anPa cdPa ctPa), slPa⟩)
    (cPa : PySem.W.codeIn K cdPa "_pairs_of_texts" = true)
    (kPa : PySem.W.keepIn K (.ref fPa) = true)
    (aRi : PySem.W.nsIn K mainGlobals "_are_right" = some (some (.ref fRi)))
    (lRi : K.lookup fRi = some ⟨ocRi, odRi, .func (PySem.W.fnOf "_are_right" "_are_right" (defArgs sRight) (defBody sRight) (defScope sRight) .none kVRi dcRi pmRi anRi cdRi ctRi), slRi⟩)
    (cRi : PySem.W.codeIn K cdRi "_are_right" = true)
    (kRi : PySem.W.keepIn K (.ref fRi) = true)
    (aRd : PySem.W.nsIn K mainGlobals "_read_moves" = some (some (.ref fRd)))
    (lRd : K.lookup fRd = some ⟨ocRd, odRd, .func (PySem.W.fnOf "_read_moves" "_read_moves" (defArgs sRead) (defBody sRead) (defScope sRead) .none kVRd dcRd pmRd anRd cdRd ctRd), slRd⟩)
    (cRd : PySem.W.codeIn K cdRd "_read_moves" = true)
    (kRd : PySem.W.keepIn K (.ref fRd) = true)
    (aCP : PySem.W.nsIn K mainGlobals "_check_parts" = some (some (.ref fCP)))
    (lCP : K.lookup fCP = some ⟨ocCP, odCP, .func (PySem.W.fnOf "_check_parts" "_check_parts" (defArgs sCheckP) (defBody sCheckP) (defScope sCheckP) .none kVCP dcCP pmCP anCP cdCP ctCP), slCP⟩)
    (cCP : PySem.W.codeIn K cdCP "_check_parts" = true)
    (kCP : PySem.W.keepIn K (.ref fCP) = true)
    (aSrc : PySem.W.nsIn K mainGlobals "_law_source_of" = some (some (.ref fSrc)))
    (lSrc : K.lookup fSrc = some ⟨ocSrc, odSrc, .func (PySem.W.fnOf "_law_source_of" "_law_source_of" (defArgs sSource) (defBody sSource) (defScope sSource) .none kVSrc dcSrc pmSrc anSrc cdSrc ctSrc), slSrc⟩)
    (cSrc : PySem.W.codeIn K cdSrc "_law_source_of" = true)
    (kSrc : PySem.W.keepIn K (.ref fSrc) = true)
    (aD : PySem.W.nsIn K mainGlobals "_law_next" = some (some (.ref fD)))
    (lD : K.lookup fD = some ⟨ocD, odD, .func (PySem.W.fnOf "_law_next" "_law_next" (defArgs sDraw) (defBody sDraw) (defScope sDraw) .none kVD dcD pmD anD cdD ctD), slD⟩)
    (cD : PySem.W.codeIn K cdD "_law_next" = true)
    (kD : PySem.W.keepIn K (.ref fD) = true)
    (aP : PySem.W.nsIn K mainGlobals "_law_one" = some (some (.ref fP)))
    (lP : K.lookup fP = some ⟨ocP, odP, .func (PySem.W.fnOf "_law_one" "_law_one" (defArgs sPick) (defBody sPick) (defScope sPick) .none kVP dcP pmP anP cdP ctP), slP⟩)
    (cP : PySem.W.codeIn K cdP "_law_one" = true)
    (kP : PySem.W.keepIn K (.ref fP) = true)
    (aMx : PySem.W.nsIn K mainGlobals "_law_mixed" = some (some (.ref fMx)))
    (lMx : K.lookup fMx = some ⟨ocMx, odMx, .func (PySem.W.fnOf "_law_mixed" "_law_mixed" (defArgs sMixed) (defBody sMixed) (defScope sMixed) .none kVMx dcMx pmMx anMx cdMx ctMx), slMx⟩)
    (cMx : PySem.W.codeIn K cdMx "_law_mixed" = true)
    (kMx : PySem.W.keepIn K (.ref fMx) = true)
    (aBd : PySem.W.nsIn K mainGlobals "_law_bad" = some (some (.ref fBd)))
    (lBd : K.lookup fBd = some ⟨ocBd, odBd, .func (PySem.W.fnOf "_law_bad" "_law_bad" (defArgs sBad) (defBody sBad) (defScope sBad) .none kVBd dcBd pmBd anBd cdBd ctBd), slBd⟩)
    (cBd : PySem.W.codeIn K cdBd "_law_bad" = true)
    (kBd : PySem.W.keepIn K (.ref fBd) = true)
    (aRg : PySem.W.nsIn K mainGlobals "_law_right" = some (some (.ref fRg)))
    (lRg : K.lookup fRg = some ⟨ocRg, odRg, .func (PySem.W.fnOf "_law_right" "_law_right" (defArgs sRight_) (defBody sRight_) (defScope sRight_) .none kVRg dcRg pmRg anRg cdRg ctRg), slRg⟩)
    (cRg : PySem.W.codeIn K cdRg "_law_right" = true)
    (kRg : PySem.W.keepIn K (.ref fRg) = true)
    (aLaw : PySem.W.nsIn K mainGlobals "law" = some (some (.ref fLaw)))
    (lLaw : K.lookup fLaw = some ⟨ocLaw, odLaw, .func (PySem.W.fnOf "law" "law" (defArgs sLaw) (defBody sLaw) (defScope sLaw) .none kVLaw dcLaw pmLaw anLaw cdLaw ctLaw), slLaw⟩)
    (cLaw : PySem.W.codeIn K cdLaw "law" = true)
    (kLaw : PySem.W.keepIn K (.ref fLaw) = true)
    (aC : PySem.W.nsIn K mainGlobals "Kind" = some (some (.ref C)))
    (aCL : PySem.W.nsIn K mainGlobals "Live" = some (some (.ref CL)))
    (aCR : PySem.W.nsIn K mainGlobals "RightError" = some (some (.ref CR)))
    (aCHi : PySem.W.nsIn K mainGlobals "BadHistory" = some (some (.ref CHi)))
    (aCNm : PySem.W.nsIn K mainGlobals "NoMethod" = some (some (.ref CNm)))
    (aCBk : PySem.W.nsIn K mainGlobals "BadKind" = some (some (.ref CBk)))
    (xCBk : K.lookup CBk = some (excClassObj nmCBk qCBk CBk NCBk bsCBk bmCBk true snCBk subCBk abCBk colCBk ddCBk m0CBk m1CBk m2CBk m3CBk m5CBk "ValueError.__new__"))
    (rCBk : PySem.HandSPX.refsVE bmCBk = true)
    (saCBk : PySem.W.findIn K (.ref CBk) "__setattr__" = some (some (.builtin "object.__setattr__")))
    (exCBk : PySem.W.subIn K (.ref CBk) (.type "BaseException") = some true)
    (tyCBk : PySem.W.typeIn K (.ref CBk) = some (.type "type"))
    (kCBk : PySem.W.keepIn K (.ref CBk) = true)
    (noCBk : PySem.W.findIn K (.ref CBk) "part" = some none)
    (aBI : PySem.W.findIn K (.ref CBk) "__init__" = some (some (.ref fBI)))
    (tBI : PySem.W.typeIn K (.ref fBI) = some (.type "function"))
    (lBI : K.lookup fBI = some ⟨ocBI, odBI, .func (PySem.W.fnOf "__init__" "BadKind.__init__" (defArgs sIBadKind) (defBody sIBadKind) (defScope sIBadKind) .none kVBI dcBI pmBI anBI cdBI ctBI), slBI⟩)
    (cBI : PySem.W.codeIn K cdBI "BadKind.__init__" = true)
    (kBI : PySem.W.keepIn K (.ref fBI) = true)
    (aCBc : PySem.W.nsIn K mainGlobals "BadChoices" = some (some (.ref CBc)))
    (xCBc : K.lookup CBc = some (excClassObj nmCBc qCBc CBc NCBc bsCBc bmCBc true snCBc subCBc abCBc colCBc ddCBc m0CBc m1CBc m2CBc m3CBc m5CBc "ValueError.__new__"))
    (rCBc : PySem.HandSPX.refsVE bmCBc = true)
    (saCBc : PySem.W.findIn K (.ref CBc) "__setattr__" = some (some (.builtin "object.__setattr__")))
    (exCBc : PySem.W.subIn K (.ref CBc) (.type "BaseException") = some true)
    (tyCBc : PySem.W.typeIn K (.ref CBc) = some (.type "type"))
    (kCBc : PySem.W.keepIn K (.ref CBc) = true)
    (noCBc : PySem.W.findIn K (.ref CBc) "index" = some none)
    (aCI : PySem.W.findIn K (.ref CBc) "__init__" = some (some (.ref fCI)))
    (tCI : PySem.W.typeIn K (.ref fCI) = some (.type "function"))
    (lCI : K.lookup fCI = some ⟨ocCI, odCI, .func (PySem.W.fnOf "__init__" "BadChoices.__init__" (defArgs sIBadChoices) (defBody sIBadChoices) (defScope sIBadChoices) .none kVCI dcCI pmCI anCI cdCI ctCI), slCI⟩)
    (cCI : PySem.W.codeIn K cdCI "BadChoices.__init__" = true)
    (kCI : PySem.W.keepIn K (.ref fCI) = true)
    (gaBc : PySem.W.findIn K (.ref CBc) "__getattribute__" = some (some (.builtin "BaseException.__getattribute__")))
    (ggBc : PySem.W.findIn K (.ref CBc) "__getattr__" = some none)
    (hdBc : PySem.W.hasDictIn K CBc = true)
    (teBc : PySem.W.exmOne K (.ref CBc) (.ref CR) = some true)
    (clBc : (PySem.W.clsIn K CBc).isSome = true)
    (ccBc : PySem.W.findIn K (.ref CBc) "__class__" = some (some (.builtin "object.__class__")))
    (spBc : PySem.W.specialIn K (.builtin "object.__class__") "__get__" = some (some (.builtin "getset_descriptor.__get__")))
    (tkBc : PySem.W.takesIn K (.builtin "object.__class__") = some true)
    (moBc : PySem.W.mroIn K CBc (.type "object") = some true)
    (kiH : PySem.W.kitOne K (.ref CBc) (.ref CHi) = some false)
    (kiN : PySem.W.kitOne K (.ref CBc) (.ref CNm) = some false)
    (kiB : PySem.W.kitOne K (.ref CBc) (.ref CBc) = some true)
    (aCMt : PySem.W.nsIn K mainGlobals "Met" = some (some (.ref CMt)))
    (xCMt : K.lookup CMt = some (excClassObj nmCMt qCMt CMt NCMt bsCMt bmCMt true snCMt subCMt abCMt colCMt ddCMt m0CMt m1CMt m2CMt m3CMt m5CMt "ValueError.__new__"))
    (rCMt : PySem.HandSPX.refsVE bmCMt = true)
    (saCMt : PySem.W.findIn K (.ref CMt) "__setattr__" = some (some (.builtin "object.__setattr__")))
    (exCMt : PySem.W.subIn K (.ref CMt) (.type "BaseException") = some true)
    (tyCMt : PySem.W.typeIn K (.ref CMt) = some (.type "type"))
    (kCMt : PySem.W.keepIn K (.ref CMt) = true)
    (noCMt : PySem.W.findIn K (.ref CMt) "error" = some none)
    (aMI : PySem.W.findIn K (.ref CMt) "__init__" = some (some (.ref fMI)))
    (tMI : PySem.W.typeIn K (.ref fMI) = some (.type "function"))
    (lMI : K.lookup fMI = some ⟨ocMI, odMI, .func (PySem.W.fnOf "__init__" "Met.__init__" (defArgs sIMet) (defBody sIMet) (defScope sIMet) .none kVMI dcMI pmMI anMI cdMI ctMI), slMI⟩)
    (cMI : PySem.W.codeIn K cdMI "Met.__init__" = true)
    (kMI : PySem.W.keepIn K (.ref fMI) = true)
    (teMt : PySem.W.exmOne K (.ref CMt) (.ref CR) = some true)
    (aI : PySem.W.findIn K (.ref C) "__init__" = some (some (.ref fI)))
    (iI : PySem.W.isFn K (.ref fI) = true)
    (lI : K.lookup fI = some ⟨ocI, odI, .func (PySem.W.fnOf "__init__" "Kind.__init__" (defArgs (kMeth 0)) (defBody (kMeth 0)) (defScope (kMeth 0)) .none kVI dcI pmI anI cdI ctI), slI⟩)
    (cI : PySem.W.codeIn K cdI "Kind.__init__" = true)
    (kI : PySem.W.keepIn K (.ref fI) = true)
    (aSt : PySem.W.findIn K (.ref C) "start" = some (some (.ref pSt)))
    (gSt : PySem.W.specialIn K (.ref pSt) "__get__" = some (some (.builtin "property.__get__")))
    (tkSt : PySem.W.takesIn K (.ref pSt) = some true)
    (rcSt : PySem.W.recIn K pSt "property" = some (.ref fSt :: restSt))
    (lSt : K.lookup fSt = some ⟨ocSt, odSt, .func (PySem.W.fnOf "start" "Kind.start" (defArgs (kMeth 2)) (defBody (kMeth 2)) (defScope (kMeth 2)) .none kVSt dcSt pmSt anSt cdSt ctSt), slSt⟩)
    (cSt : PySem.W.codeIn K cdSt "Kind.start" = true)
    (kSt : PySem.W.keepIn K (.ref fSt) = true)
    (aSs : PySem.W.findIn K (.ref C) "states" = some (some (.ref fSs)))
    (iSs : PySem.W.isFn K (.ref fSs) = true)
    (lSs : K.lookup fSs = some ⟨ocSs, odSs, .func (PySem.W.fnOf "states" "Kind.states" (defArgs (kMeth 4)) (defBody (kMeth 4)) (defScope (kMeth 4)) .none kVSs dcSs pmSs anSs cdSs ctSs), slSs⟩)
    (cSs : PySem.W.codeIn K cdSs "Kind.states" = true)
    (kSs : PySem.W.keepIn K (.ref fSs) = true)
    (aG : PySem.W.findIn K (.ref C) "__getitem__" = some (some (.ref fG)))
    (iG : PySem.W.isFn K (.ref fG) = true)
    (nG : PySem.W.fnIn K fG = true)
    (lG : K.lookup fG = some ⟨ocG, odG, .func (PySem.W.fnOf "__getitem__" "Kind.__getitem__" (defArgs (kMeth 8)) (defBody (kMeth 8)) (defScope (kMeth 8)) .none kVG dcG pmG anG cdG ctG), slG⟩)
    (cG : PySem.W.codeIn K cdG "Kind.__getitem__" = true)
    (kG : PySem.W.keepIn K (.ref fG) = true)
    (aLI : PySem.W.findIn K (.ref CL) "__init__" = some (some (.ref fLI)))
    (iLI : PySem.W.isFn K (.ref fLI) = true)
    (lLI : K.lookup fLI = some ⟨ocLI, odLI, .func (PySem.W.fnOf "__init__" "Live.__init__" (defArgs (lMeth 0)) (defBody (lMeth 0)) (defScope (lMeth 0)) (.ref dT) kVLI dcLI pmLI anLI cdLI ctLI), slLI⟩)
    (cLI : PySem.W.codeIn K cdLI "Live.__init__" = true)
    (kLI : PySem.W.keepIn K (.ref fLI) = true)
    (ldT : K.lookup dT = some ⟨cdT, ddT, .seq #[.ref teT] nnT, slT⟩)
    (aLC : PySem.W.findIn K (.ref CL) "__call__" = some (some (.ref fLC)))
    (iLC : PySem.W.isFn K (.ref fLC) = true)
    (nLC : PySem.W.fnIn K fLC = true)
    (lLC : K.lookup fLC = some ⟨ocLC, odLC, .func (PySem.W.fnOf "__call__" "Live.__call__" (defArgs (lMeth 1)) (defBody (lMeth 1)) (defScope (lMeth 1)) .none kVLC dcLC pmLC anLC cdLC ctLC), slLC⟩)
    (cLC : PySem.W.codeIn K cdLC "Live.__call__" = true)
    (kLC : PySem.W.keepIn K (.ref fLC) = true)
    (aOp : PySem.W.findIn K (.ref CL) "_option" = some (some (.ref fOp)))
    (iOp : PySem.W.isFn K (.ref fOp) = true)
    (lOp : K.lookup fOp = some ⟨ocOp, odOp, .func (PySem.W.fnOf "_option" "Live._option" (defArgs (lMeth 2)) (defBody (lMeth 2)) (defScope (lMeth 2)) .none kVOp dcOp pmOp anOp cdOp ctOp), slOp⟩)
    (cOp : PySem.W.codeIn K cdOp "Live._option" = true)
    (kOp : PySem.W.keepIn K (.ref fOp) = true)
    (aLf : PySem.W.findIn K (.ref CL) "left" = some (some (.ref pLf)))
    (gLf : PySem.W.specialIn K (.ref pLf) "__get__" = some (some (.builtin "property.__get__")))
    (tkLf : PySem.W.takesIn K (.ref pLf) = some true)
    (rcLf : PySem.W.recIn K pLf "property" = some (.ref fLf :: restLf))
    (lLf : K.lookup fLf = some ⟨ocLf, odLf, .func (PySem.W.fnOf "left" "Live.left" (defArgs (lMeth 7)) (defBody (lMeth 7)) (defScope (lMeth 7)) .none kVLf dcLf pmLf anLf cdLf ctLf), slLf⟩)
    (cLf : PySem.W.codeIn K cdLf "Live.left" = true)
    (kLf : PySem.W.keepIn K (.ref fLf) = true)
    (aTo : PySem.W.findIn K (.ref CL) "told" = some (some (.ref fTo)))
    (iTo : PySem.W.isFn K (.ref fTo) = true)
    (lTo : K.lookup fTo = some ⟨ocTo, odTo, .func (PySem.W.fnOf "told" "Live.told" (defArgs (lMeth 9)) (defBody (lMeth 9)) (defScope (lMeth 9)) .none kVTo dcTo pmTo anTo cdTo ctTo), slTo⟩)
    (cTo : PySem.W.codeIn K cdTo "Live.told" = true)
    (kTo : PySem.W.keepIn K (.ref fTo) = true)
    (pgC : PySem.W.plainGet K C Str.empty = true)
    (hdC : PySem.W.hasDictIn K C = true)
    (poC : PySem.W.plainOver K C = true)
    (saC : PySem.W.findIn K (.ref C) "__setattr__" = some (some (.builtin "object.__setattr__")))
    (mkC : PySem.W.makesIn K C = true)
    (kcC : PySem.W.keepIn K (.ref C) = true)
    (pgCL : PySem.W.plainGet K CL Str.empty = true)
    (hdCL : PySem.W.hasDictIn K CL = true)
    (poCL : PySem.W.plainOver K CL = true)
    (saCL : PySem.W.findIn K (.ref CL) "__setattr__" = some (some (.builtin "object.__setattr__")))
    (mkCL : PySem.W.makesIn K CL = true)
    (kcCL : PySem.W.keepIn K (.ref CL) = true)
    (no_name : PySem.W.findIn K (.ref C) "_name" = some none)
    (no_start : PySem.W.findIn K (.ref C) "_start" = some none)
    (no_ends : PySem.W.findIn K (.ref C) "_ends" = some none)
    (no_states : PySem.W.findIn K (.ref C) "_states" = some none)
    (no_methods : PySem.W.findIn K (.ref C) "_methods" = some none)
    (no_moves : PySem.W.findIn K (.ref C) "_moves" = some none)
    (ln_kind : PySem.W.findIn K (.ref CL) "_kind" = some none)
    (ln_states : PySem.W.findIn K (.ref CL) "_states" = some none)
    (ln_state : PySem.W.findIn K (.ref CL) "_state" = some none)
    (ln_picks : PySem.W.findIn K (.ref CL) "_picks" = some none)
    (ln_used : PySem.W.findIn K (.ref CL) "_used" = some none)
    (ln_answered : PySem.W.findIn K (.ref CL) "_answered" = some none)
    (ln_deep : PySem.W.findIn K (.ref CL) "_deep" = some none)
    (z_isinstance : PySem.W.nsIn K mainGlobals "isinstance" = some none)
    (z_list : PySem.W.nsIn K mainGlobals "list" = some none)
    (z_tuple : PySem.W.nsIn K mainGlobals "tuple" = some none)
    (z_str : PySem.W.nsIn K mainGlobals "str" = some none)
    (z_len : PySem.W.nsIn K mainGlobals "len" = some none)
    (z_all : PySem.W.nsIn K mainGlobals "all" = some none)
    (z_set : PySem.W.nsIn K mainGlobals "set" = some none)
    (z_dict : PySem.W.nsIn K mainGlobals "dict" = some none)
    (z_sum : PySem.W.nsIn K mainGlobals "sum" = some none)
    (z_sorted : PySem.W.nsIn K mainGlobals "sorted" = some none)
    (z_enumerate : PySem.W.nsIn K mainGlobals "enumerate" = some none)
    (z_range : PySem.W.nsIn K mainGlobals "range" = some none)
    (z_int : PySem.W.nsIn K mainGlobals "int" = some none)
    (z_bool : PySem.W.nsIn K mainGlobals "bool" = some none)
    (z_max : PySem.W.nsIn K mainGlobals "max" = some none)
    (v_MOST_SIGNS : PySem.W.nsIn K mainGlobals "MOST_SIGNS" = some (some (.int 8 tt_MOST_SIGNS)))
    (v_MOST_STATES : PySem.W.nsIn K mainGlobals "MOST_STATES" = some (some (.int 60 tt_MOST_STATES)))
    (v_MOST_METHODS : PySem.W.nsIn K mainGlobals "MOST_METHODS" = some (some (.int 8 tt_MOST_METHODS)))
    (v_MOST_OUTCOMES : PySem.W.nsIn K mainGlobals "MOST_OUTCOMES" = some (some (.int 8 tt_MOST_OUTCOMES)))
    : ∃ fd : FuncData, (∀ (s : Shared) (v : Value), BindsTo s fd ⟨[v], []⟩ [("_law_script", v)]) ∧ ∀ base : Heap, K.In base → base.Ns mainGlobals mg → FnOk l.prog w K mg base CX0 12 fa fd ["_law_script"] (spLaw4 K) := by
  have e := hfa.symm.trans (PySem.W.mg_of X G aLaw)
  cases e
  have FRow := fun_mk (st := sIsRow) lRow cRow kRow
  have gRow := PySem.W.mg_of X G aRow
  have FName := fun_mk (st := sIsName) lName cName kName
  have gName := PySem.W.mg_of X G aName
  have FErr := fun_mk (st := sIsError) lErr cErr kErr
  have gErr := PySem.W.mg_of X G aErr
  have FWord := fun_mk (st := sIsWord) lWord cWord kWord
  have gWord := PySem.W.mg_of X G aWord
  have FInt := fun_mk (st := sIsInt) lInt cInt kInt
  have gInt := PySem.W.mg_of X G aInt
  have FUn := fun_mk (st := sUnlike) lUn cUn kUn
  have gUn := PySem.W.mg_of X G aUn
  have FCh := fun_mk (st := sCheckCh) lCh cCh kCh
  have gCh := PySem.W.mg_of X G aCh
  have FKey := fun_mk (st := sIsKey) lKey cKey kKey
  have gKey := PySem.W.mg_of X G aKey
  have FAR := fun_mk (st := sAreRows) lAR cAR kAR
  have gAR := PySem.W.mg_of X G aAR
  have FPa := fun_mk (st := sPairs) lPa cPa kPa
  have gPa := PySem.W.mg_of X G aPa
  have FRi := fun_mk (st := sRight) lRi cRi kRi
  have gRi := PySem.W.mg_of X G aRi
  have FRd := fun_mk (st := sRead) lRd cRd kRd
  have gRd := PySem.W.mg_of X G aRd
  have FCP := fun_mk (st := sCheckP) lCP cCP kCP
  have gCP := PySem.W.mg_of X G aCP
  have FSrc := fun_mk (st := sSource) lSrc cSrc kSrc
  have gSrc := PySem.W.mg_of X G aSrc
  have FD := fun_mk (st := sDraw) lD cD kD
  have gD := PySem.W.mg_of X G aD
  have FP := fun_mk (st := sPick) lP cP kP
  have gP := PySem.W.mg_of X G aP
  have FMx := fun_mk (st := sMixed) lMx cMx kMx
  have gMx := PySem.W.mg_of X G aMx
  have FBd := fun_mk (st := sBad) lBd cBd kBd
  have gBd := PySem.W.mg_of X G aBd
  have FRg := fun_mk (st := sRight_) lRg cRg kRg
  have gRg := PySem.W.mg_of X G aRg
  have FLaw := fun_mk (st := sLaw) lLaw cLaw kLaw
  have gLaw := PySem.W.mg_of X G aLaw
  have FBI := fun_mk (st := sIBadKind) lBI cBI kBI
  have FCI := fun_mk (st := sIBadChoices) lCI cCI kCI
  have FMI := fun_mk (st := sIMet) lMI cMI kMI
  have FI := fun_mk (st := (kMeth 0)) lI cI kI
  have FSt := fun_mk (st := (kMeth 2)) lSt cSt kSt
  have FSs := fun_mk (st := (kMeth 4)) lSs cSs kSs
  have FG := fun_mk (st := (kMeth 8)) lG cG kG
  have FLI : FunD K "__init__" "Live.__init__" (defArgs (lMeth 0)) (defBody (lMeth 0)) (defScope (lMeth 0)) [V.ref teT] [] fLI _ := ⟨⟨_, _, _, _, _, _, _, _, _, _, rfl, lLI, cLI, .inr ⟨(fun z => nomatch z), dT, _, [.ref teT], _, rfl, ldT, rfl, .cons rfl .nil⟩, .inl rfl⟩, kLI⟩
  obtain ⟨dsLI, vLI, bLI⟩ := FLI.binds1 (ps := ["self", "kind", "picks"]) 3 1 (fun z => nomatch z) rfl fun _ _ _ _ _ _ _ us its hl hi => match us, its, hl, hi with | [_, _, _], [_], _, _ => ⟨_, rfl, rfl⟩
  obtain rfl : dsLI = [] := by cases vLI; rfl
  have FLC := fun_mk (st := (lMeth 1)) lLC cLC kLC
  have FOp := fun_mk (st := (lMeth 2)) lOp cOp kOp
  have FLf := fun_mk (st := (lMeth 7)) lLf cLf kLf
  have FTo := fun_mk (st := (lMeth 9)) lTo cTo kTo
  have bRow := FRow.binds (ps := ["thing"]) fun _ _ _ _ _ _ us hl => match us, hl with | [_], _ => rfl
  have bName := FName.binds (ps := ["thing"]) fun _ _ _ _ _ _ us hl => match us, hl with | [_], _ => rfl
  have bErr := FErr.binds (ps := ["thing"]) fun _ _ _ _ _ _ us hl => match us, hl with | [_], _ => rfl
  have bWord := FWord.binds (ps := ["thing"]) fun _ _ _ _ _ _ us hl => match us, hl with | [_], _ => rfl
  have bInt := FInt.binds (ps := ["thing"]) fun _ _ _ _ _ _ us hl => match us, hl with | [_], _ => rfl
  have bUn := FUn.binds (ps := ["thing"]) fun _ _ _ _ _ _ us hl => match us, hl with | [_], _ => rfl
  have bCh := FCh.binds (ps := ["choices"]) fun _ _ _ _ _ _ us hl => match us, hl with | [_], _ => rfl
  have bKey := FKey.binds (ps := ["thing"]) fun _ _ _ _ _ _ us hl => match us, hl with | [_], _ => rfl
  have bAR := FAR.binds (ps := ["moves"]) fun _ _ _ _ _ _ us hl => match us, hl with | [_], _ => rfl
  have bPa := FPa.binds (ps := ["rows"]) fun _ _ _ _ _ _ us hl => match us, hl with | [_], _ => rfl
  have bRi := FRi.binds (ps := ["words", "states", "methods"]) fun _ _ _ _ _ _ us hl => match us, hl with | [_, _, _], _ => rfl
  have bRd := FRd.binds (ps := ["moves", "start", "ends"]) fun _ _ _ _ _ _ us hl => match us, hl with | [_, _, _], _ => rfl
  have bCP := FCP.binds (ps := ["name", "start", "ends"]) fun _ _ _ _ _ _ us hl => match us, hl with | [_, _, _], _ => rfl
  have bSrc := FSrc.binds (ps := ["_law_cell"]) fun _ _ _ _ _ _ us hl => match us, hl with | [_], _ => rfl
  have bD := FD.binds (ps := ["_law_source", "_law_many"]) fun _ _ _ _ _ _ us hl => match us, hl with | [_, _], _ => rfl
  have bP := FP.binds (ps := ["_law_source", "_law_some"]) fun _ _ _ _ _ _ us hl => match us, hl with | [_, _], _ => rfl
  have bMx := FMx.binds (ps := ["_law_source", "_law_some"]) fun _ _ _ _ _ _ us hl => match us, hl with | [_, _], _ => rfl
  have bBd := FBd.binds (ps := ["_law_kind", "_law_picks"]) fun _ _ _ _ _ _ us hl => match us, hl with | [_, _], _ => rfl
  have bRg := FRg.binds (ps := ["_law_source"]) fun _ _ _ _ _ _ us hl => match us, hl with | [_], _ => rfl
  have bLaw := FLaw.binds (ps := ["_law_script"]) fun _ _ _ _ _ _ us hl => match us, hl with | [_], _ => rfl
  have bBI := FBI.binds (ps := ["self", "part"]) fun _ _ _ _ _ _ us hl => match us, hl with | [_, _], _ => rfl
  have bCI := FCI.binds (ps := ["self", "index"]) fun _ _ _ _ _ _ us hl => match us, hl with | [_, _], _ => rfl
  have bMI := FMI.binds (ps := ["self", "error"]) fun _ _ _ _ _ _ us hl => match us, hl with | [_, _], _ => rfl
  have bI := FI.binds (ps := ["self", "name", "start", "ends", "moves"]) fun _ _ _ _ _ _ us hl => match us, hl with | [_, _, _, _, _], _ => rfl
  have bSt := FSt.binds (ps := ["self"]) fun _ _ _ _ _ _ us hl => match us, hl with | [_], _ => rfl
  have bSs := FSs.binds (ps := ["self"]) fun _ _ _ _ _ _ us hl => match us, hl with | [_], _ => rfl
  have bG := FG.binds (ps := ["self", "at"]) fun _ _ _ _ _ _ us hl => match us, hl with | [_, _], _ => rfl
  have bLC := FLC.binds (ps := ["self", "method"]) fun _ _ _ _ _ _ us hl => match us, hl with | [_, _], _ => rfl
  have bOp := FOp.binds (ps := ["self", "many"]) fun _ _ _ _ _ _ us hl => match us, hl with | [_, _], _ => rfl
  have bLf := FLf.binds (ps := ["self"]) fun _ _ _ _ _ _ us hl => match us, hl with | [_], _ => rfl
  have bTo := FTo.binds (ps := ["self"]) fun _ _ _ _ _ _ us hl => match us, hl with | [_], _ => rfl
  have y_isinstance := PySem.W.mg_none_of X G z_isinstance
  have y_list := PySem.W.mg_none_of X G z_list
  have y_tuple := PySem.W.mg_none_of X G z_tuple
  have y_str := PySem.W.mg_none_of X G z_str
  have y_len := PySem.W.mg_none_of X G z_len
  have y_all := PySem.W.mg_none_of X G z_all
  have y_set := PySem.W.mg_none_of X G z_set
  have y_dict := PySem.W.mg_none_of X G z_dict
  have y_sum := PySem.W.mg_none_of X G z_sum
  have y_sorted := PySem.W.mg_none_of X G z_sorted
  have y_enumerate := PySem.W.mg_none_of X G z_enumerate
  have y_range := PySem.W.mg_none_of X G z_range
  have y_int := PySem.W.mg_none_of X G z_int
  have y_bool := PySem.W.mg_none_of X G z_bool
  have y_max := PySem.W.mg_none_of X G z_max
  have u_MOST_SIGNS := PySem.W.mg_of X G v_MOST_SIGNS
  have u_MOST_STATES := PySem.W.mg_of X G v_MOST_STATES
  have u_MOST_METHODS := PySem.W.mg_of X G v_MOST_METHODS
  have u_MOST_OUTCOMES := PySem.W.mg_of X G v_MOST_OUTCOMES
  have gC := PySem.W.mg_of X G aC
  have gCL := PySem.W.mg_of X G aCL
  have gCBk := PySem.W.mg_of X G aCBk
  have gCBc := PySem.W.mg_of X G aCBc
  have gCMt := PySem.W.mg_of X G aCMt
  have gCHi := PySem.W.mg_of X G aCHi
  have gCNm := PySem.W.mg_of X G aCNm
  have gCR := PySem.W.mg_of X G aCR
  have cl : Cls K C := ⟨pgC, hdC, poC, saC⟩
  have clL : Cls K CL := ⟨pgCL, hdCL, poCL, saCL⟩
  have TF : TForm K mg fRow := ⟨y_isinstance, y_list, y_tuple, y_str, y_len, y_all, y_set, ⟨_, u_MOST_SIGNS⟩, gRow, kRow⟩
  have TE1 : TErr K mg "BadKind" "part" CBk fBI := ⟨gCBk, ⟨⟨_, _, _, _, _, _, _, _, _, _, _, _, _, _, _, xCBk, rCBk⟩, saCBk, exCBk, tyCBk, kCBk⟩, aBI, tBI, noCBk⟩
  have TE2 : TErr K mg "BadChoices" "index" CBc fCI := ⟨gCBc, ⟨⟨_, _, _, _, _, _, _, _, _, _, _, _, _, _, _, xCBc, rCBc⟩, saCBc, exCBc, tyCBc, kCBc⟩, aCI, tCI, noCBc⟩
  have TE3 : TErr K mg "Met" "error" CMt fMI := ⟨gCMt, ⟨⟨_, _, _, _, _, _, _, _, _, _, _, _, _, _, _, xCMt, rCMt⟩, saCMt, exCMt, tyCMt, kCMt⟩, aMI, tMI, noCMt⟩
  have TR : TRead K mg fKey := ⟨y_isinstance, y_dict, y_list, y_tuple, y_str, y_len, y_all, y_sum, y_set, y_sorted, ⟨_, u_MOST_OUTCOMES⟩, ⟨_, u_MOST_STATES⟩, ⟨_, u_MOST_METHODS⟩, gKey, kKey⟩
  have TRi : TRight K mg fName fWord := ⟨gName, kName, gWord, kWord⟩
  have TD : TRd K mg fAR fPa fRi := ⟨gAR, kAR, gPa, kPa, gRi, kRi⟩
  have TCP : TCheckP K mg fName fUn := ⟨gName, kName, gUn, kUn⟩
  have TI : TInit K mg C fCP fRd := ⟨gCP, kCP, gRd, kRd, y_tuple, y_sorted, cl, no_name, no_start, no_ends, no_states, no_methods, no_moves⟩
  have TM : TKM K mg C fKey := ⟨cl, y_list, y_sorted, no_start, no_ends, no_states, no_methods, no_moves, gKey, kKey⟩
  have own8 : OwnAt K C "__getitem__" fG := ⟨aG, nG, iG⟩
  have propS : PropOf K C "start" pSt fSt := ⟨aSt, gSt, tkSt, ⟨_, rcSt⟩⟩
  have propL : PropOf K CL "left" pLf fLf := ⟨aLf, gLf, tkLf, ⟨_, rcLf⟩⟩
  have TN : TInt mg := ⟨y_isinstance, y_int, y_bool⟩
  have TCc : TCheckCh K mg fRow fInt := ⟨y_enumerate, gRow, kRow, gInt, kInt⟩
  have TLv : TLive K mg CL C fCh fG fSs pSt fSt fOp := ⟨y_len, y_tuple, y_list, gCh, kCh, clL, cl, ⟨aSs, iSs, kSs⟩, propS, own8, ⟨aOp, iOp, kOp⟩, ln_kind, ln_states, ln_state, ln_picks, ln_used, ln_answered, ln_deep⟩
  have TLw : TLaw K mg fD := ⟨y_int, y_len, gD, kD⟩
  have TMx : TMixed K mg fD := ⟨y_list, y_len, gD, kD⟩
  have TBd : TBad K mg CL CR CBc CHi CNm fLI := ⟨gCR, gCHi, gCNm, gCBc, gCL, ⟨mkCL, aLI, iLI, kcCL⟩, y_isinstance, ⟨clBc, gaBc, ggBc, exCBc, ccBc, spBc, tkBc, moBc⟩, ⟨gaBc, ggBc, exCBc, hdBc⟩, noCBc, teBc, kiH, kiN, kiB⟩
  have TRg : TRgt K mg CL C CR fLI fI fD fP fMx fBd fLC fTo pLf fLf := ⟨y_len, y_int, y_max, y_range, y_tuple, y_sorted, gD, kD, gP, kP, gMx, kMx, gBd, kBd, gC, ⟨mkC, aI, iI, kcC⟩, gCL, ⟨mkCL, aLI, iLI, kcCL⟩, gCR, clL, ⟨aLC, iLC, nLC⟩, ⟨aTo, iTo, kTo⟩, propL⟩
  have TL : TLawE K mg fSrc fRg := ⟨y_range, gSrc, kSrc, gRg, kRg⟩
  refine ⟨PySem.W.fnOf "law" "law" (defArgs sLaw) (defBody sLaw) (defScope sLaw) .none kVLaw dcLaw pmLaw anLaw cdLaw ctLaw, fun s v => .of_eq rfl, fun base _ _ => ?_⟩
  have hRow := ok_row (P := l.prog) (w := w) (base := base) FRow TF
  have hName := ok_name (P := l.prog) (w := w) (base := base) FName TF
  have hErr := ok_error (P := l.prog) (w := w) (base := base) FErr TF
  have hWord := ok_word (P := l.prog) (w := w) (base := base) FWord TF gErr kErr hErr bErr
  have hUn := ok_unlike (P := l.prog) (w := w) (base := base) FUn TF gName kName hRow bRow hName bName
  have hInt := ok_isInt (P := l.prog) (w := w) (base := base) FInt TN
  have hKey := ok_key (P := l.prog) (w := w) (base := base) FKey TF
  have hAR := ok_areRows (P := l.prog) (w := w) (base := base) FAR TR hKey bKey
  have hPa := ok_pairs (P := l.prog) (w := w) (base := base) FPa TR
  have hRi := ok_right (P := l.prog) (w := w) (base := base) FRi TR TRi hName bName hWord bWord
  have hBI := ok_badI (P := l.prog) (w := w) (base := base) FBI TE1
  have hCI := ok_badChI (P := l.prog) (w := w) (base := base) FCI TE2
  have hMI := ok_metI (P := l.prog) (w := w) (base := base) FMI TE3
  have hRd := ok_read (P := l.prog) (w := w) (base := base) FRd TR TD TE1 hBI bBI hAR bAR hPa bPa hRi bRi
  have hCP := ok_checkP (P := l.prog) (w := w) (base := base) FCP TCP TE1 hBI bBI hName bName hUn bUn
  have hI := ok_init (P := l.prog) (w := w) (base := base) FI TI hCP bCP hRd bRd
  have hSt := ok_startM (P := l.prog) (w := w) (base := base) FSt TM
  have hSs := ok_statesM (P := l.prog) (w := w) (base := base) FSs TM
  have hG2 := ok_item2 (P := l.prog) (w := w) (base := base) FG TM hKey bKey
  have hCh := ok_checkCh (P := l.prog) (w := w) (base := base) FCh TCc TE2 hCI bCI hRow bRow hInt bInt
  have hLI := ok_liveI (P := l.prog) (w := w) (base := base) FLI TLv hCh bCh hSs bSs hSt bSt
  have hOp := ok_option (P := l.prog) (w := w) (base := base) FOp TLv
  have hLC := ok_liveCall (P := l.prog) (w := w) (base := base) FLC TLv TE3 hG2 bG hOp bOp hMI bMI
  have hLf := ok_left (P := l.prog) (w := w) (base := base) FLf TLv
  have hTo := ok_told (P := l.prog) (w := w) (base := base) FTo TLv
  have hSrc := ok_source (P := l.prog) (w := w) (base := base) FSrc TLw
  have hD := ok_draw (P := l.prog) (w := w) (base := base) FD TLw
  have hP := ok_pick (P := l.prog) (w := w) (base := base) FP TLw hD bD
  have hMx := ok_mixed (P := l.prog) (w := w) (base := base) FMx TMx hD bD
  have hBd := ok_bad (P := l.prog) (w := w) (base := base) FBd TBd hLI bLI
  have hRg := ok_right_ (P := l.prog) (w := w) (base := base) FRg TRg teMt hI bI hLI bLI hD bD hP bP hMx bMx hBd bBd hLC bLC hTo bTo hLf bLf
  exact (ok_lawE (P := l.prog) (w := w) (base := base) FLaw TL hSrc bSrc hRg bRg).mono (by decide)
end Q9
open PySem PySem.W PyProof.Rows
set_option maxHeartbeats 0 in
theorem PySem.Challenge.cw_rightstate_k91_picks_and_what_is_told_of_holds : PySem.Challenge.rw_rightstate_k91_picks_and_what_is_told_of.Holds := by
  w_on; o_law; k_head; (case hw => w_witness2)
  k_fill
  refine Q9.walk4 (l := PySem.Challenge.rw_rightstate_k91_picks_and_what_is_told_of) rfl rfl (fun w h Y => PySem.W.kIn_of Y) ?F
  case F =>
    intro w mg fa h KX G hmg
    refine' Q9.all_mk KX G hmg ?aRow ?lRow ?cRow ?kRow ?aName ?lName ?cName ?kName ?aErr ?lErr ?cErr ?kErr ?aWord ?lWord ?cWord ?kWord ?aInt ?lInt ?cInt ?kInt ?aUn ?lUn ?cUn ?kUn ?aCh ?lCh ?cCh ?kCh ?aKey ?lKey ?cKey ?kKey ?aAR ?lAR ?cAR ?kAR ?aPa ?lPa ?cPa ?kPa ?aRi ?lRi ?cRi ?kRi ?aRd ?lRd ?cRd ?kRd ?aCP ?lCP ?cCP ?kCP ?aSrc ?lSrc ?cSrc ?kSrc ?aD ?lD ?cD ?kD ?aP ?lP ?cP ?kP ?aMx ?lMx ?cMx ?kMx ?aBd ?lBd ?cBd ?kBd ?aRg ?lRg ?cRg ?kRg ?aLaw ?lLaw ?cLaw ?kLaw ?aC ?aCL ?aCR ?aCHi ?aCNm ?aCBk ?xCBk ?rCBk ?saCBk ?exCBk ?tyCBk ?kCBk ?noCBk ?aBI ?tBI ?lBI ?cBI ?kBI ?aCBc ?xCBc ?rCBc ?saCBc ?exCBc ?tyCBc ?kCBc ?noCBc ?aCI ?tCI ?lCI ?cCI ?kCI ?gaBc ?ggBc ?hdBc ?teBc ?clBc ?ccBc ?spBc ?tkBc ?moBc ?kiH ?kiN ?kiB ?aCMt ?xCMt ?rCMt ?saCMt ?exCMt ?tyCMt ?kCMt ?noCMt ?aMI ?tMI ?lMI ?cMI ?kMI ?teMt ?aI ?iI ?lI ?cI ?kI ?aSt ?gSt ?tkSt ?rcSt ?lSt ?cSt ?kSt ?aSs ?iSs ?lSs ?cSs ?kSs ?aG ?iG ?nG ?lG ?cG ?kG ?aLI ?iLI ?lLI ?cLI ?kLI ?ldT ?aLC ?iLC ?nLC ?lLC ?cLC ?kLC ?aOp ?iOp ?lOp ?cOp ?kOp ?aLf ?gLf ?tkLf ?rcLf ?lLf ?cLf ?kLf ?aTo ?iTo ?lTo ?cTo ?kTo ?pgC ?hdC ?poC ?saC ?mkC ?kcC ?pgCL ?hdCL ?poCL ?saCL ?mkCL ?kcCL ?no_name ?no_start ?no_ends ?no_states ?no_methods ?no_moves ?ln_kind ?ln_states ?ln_state ?ln_picks ?ln_used ?ln_answered ?ln_deep ?z_isinstance ?z_list ?z_tuple ?z_str ?z_len ?z_all ?z_set ?z_dict ?z_sum ?z_sorted ?z_enumerate ?z_range ?z_int ?z_bool ?z_max ?v_MOST_SIGNS ?v_MOST_STATES ?v_MOST_METHODS ?v_MOST_OUTCOMES
    (case aRow => k_is)
    (case lRow => k_is)
    (case cRow => k_is)
    (case kRow => k_is)
    (case aName => k_is)
    (case lName => k_is)
    (case cName => k_is)
    (case kName => k_is)
    (case aErr => k_is)
    (case lErr => k_is)
    (case cErr => k_is)
    (case kErr => k_is)
    (case aWord => k_is)
    (case lWord => k_is)
    (case cWord => k_is)
    (case kWord => k_is)
    (case aInt => k_is)
    (case lInt => k_is)
    (case cInt => k_is)
    (case kInt => k_is)
    (case aUn => k_is)
    (case lUn => k_is)
    (case cUn => k_is)
    (case kUn => k_is)
    (case aCh => k_is)
    (case lCh => k_is)
    (case cCh => k_is)
    (case kCh => k_is)
    (case aKey => k_is)
    (case lKey => k_is)
    (case cKey => k_is)
    (case kKey => k_is)
    (case aAR => k_is)
    (case lAR => k_is)
    (case cAR => k_is)
    (case kAR => k_is)
    (case aPa => k_is)
    (case lPa => k_is)
    (case cPa => k_is)
    (case kPa => k_is)
    (case aRi => k_is)
    (case lRi => k_is)
    (case cRi => k_is)
    (case kRi => k_is)
    (case aRd => k_is)
    (case lRd => k_is)
    (case cRd => k_is)
    (case kRd => k_is)
    (case aCP => k_is)
    (case lCP => k_is)
    (case cCP => k_is)
    (case kCP => k_is)
    (case aSrc => k_is)
    (case lSrc => k_is)
    (case cSrc => k_is)
    (case kSrc => k_is)
    (case aD => k_is)
    (case lD => k_is)
    (case cD => k_is)
    (case kD => k_is)
    (case aP => k_is)
    (case lP => k_is)
    (case cP => k_is)
    (case kP => k_is)
    (case aMx => k_is)
    (case lMx => k_is)
    (case cMx => k_is)
    (case kMx => k_is)
    (case aBd => k_is)
    (case lBd => k_is)
    (case cBd => k_is)
    (case kBd => k_is)
    (case aRg => k_is)
    (case lRg => k_is)
    (case cRg => k_is)
    (case kRg => k_is)
    (case aLaw => k_is)
    (case lLaw => k_is)
    (case cLaw => k_is)
    (case kLaw => k_is)
    (case aC => k_is)
    (case aCL => k_is)
    (case aCR => k_is)
    (case aCHi => k_is)
    (case aCNm => k_is)
    (case aCBk => k_is)
    (case xCBk => k_is)
    (case rCBk => decide +kernel)
    (case saCBk => k_is)
    (case exCBk => k_is)
    (case tyCBk => k_is)
    (case kCBk => k_is)
    (case noCBk => k_is)
    (case aBI => k_is)
    (case tBI => k_is)
    (case lBI => k_is)
    (case cBI => k_is)
    (case kBI => k_is)
    (case aCBc => k_is)
    (case xCBc => k_is)
    (case rCBc => decide +kernel)
    (case saCBc => k_is)
    (case exCBc => k_is)
    (case tyCBc => k_is)
    (case kCBc => k_is)
    (case noCBc => k_is)
    (case aCI => k_is)
    (case tCI => k_is)
    (case lCI => k_is)
    (case cCI => k_is)
    (case kCI => k_is)
    (case gaBc => k_is)
    (case ggBc => k_is)
    (case hdBc => k_is)
    (case teBc => first | rfl | k_is)
    (case clBc => first | rfl | k_is)
    (case ccBc => k_is)
    (case spBc => k_is)
    (case tkBc => k_is)
    (case moBc => k_is)
    (case kiH => first | rfl | k_is)
    (case kiN => first | rfl | k_is)
    (case kiB => first | rfl | k_is)
    (case aCMt => k_is)
    (case xCMt => k_is)
    (case rCMt => decide +kernel)
    (case saCMt => k_is)
    (case exCMt => k_is)
    (case tyCMt => k_is)
    (case kCMt => k_is)
    (case noCMt => k_is)
    (case aMI => k_is)
    (case tMI => k_is)
    (case lMI => k_is)
    (case cMI => k_is)
    (case kMI => k_is)
    (case teMt => first | rfl | k_is)
    (case aI => k_is)
    (case iI => k_is)
    (case lI => k_is)
    (case cI => k_is)
    (case kI => k_is)
    (case aSt => k_is)
    (case gSt => k_is)
    (case tkSt => k_is)
    (case rcSt => k_is)
    (case lSt => k_is)
    (case cSt => k_is)
    (case kSt => k_is)
    (case aSs => k_is)
    (case iSs => k_is)
    (case lSs => k_is)
    (case cSs => k_is)
    (case kSs => k_is)
    (case aG => k_is)
    (case iG => k_is)
    (case nG => k_is)
    (case lG => k_is)
    (case cG => k_is)
    (case kG => k_is)
    (case aLI => k_is)
    (case iLI => k_is)
    (case lLI => k_is)
    (case cLI => k_is)
    (case kLI => k_is)
    (case ldT => k_is)
    (case aLC => k_is)
    (case iLC => k_is)
    (case nLC => k_is)
    (case lLC => k_is)
    (case cLC => k_is)
    (case kLC => k_is)
    (case aOp => k_is)
    (case iOp => k_is)
    (case lOp => k_is)
    (case cOp => k_is)
    (case kOp => k_is)
    (case aLf => k_is)
    (case gLf => k_is)
    (case tkLf => k_is)
    (case rcLf => k_is)
    (case lLf => k_is)
    (case cLf => k_is)
    (case kLf => k_is)
    (case aTo => k_is)
    (case iTo => k_is)
    (case lTo => k_is)
    (case cTo => k_is)
    (case kTo => k_is)
    (case pgC => k_is)
    (case hdC => k_is)
    (case poC => k_is)
    (case saC => k_is)
    (case mkC => k_is)
    (case kcC => k_is)
    (case pgCL => k_is)
    (case hdCL => k_is)
    (case poCL => k_is)
    (case saCL => k_is)
    (case mkCL => k_is)
    (case kcCL => k_is)
    (case no_name => k_is)
    (case no_start => k_is)
    (case no_ends => k_is)
    (case no_states => k_is)
    (case no_methods => k_is)
    (case no_moves => k_is)
    (case ln_kind => k_is)
    (case ln_states => k_is)
    (case ln_state => k_is)
    (case ln_picks => k_is)
    (case ln_used => k_is)
    (case ln_answered => k_is)
    (case ln_deep => k_is)
    (case z_isinstance => k_is)
    (case z_list => k_is)
    (case z_tuple => k_is)
    (case z_str => k_is)
    (case z_len => k_is)
    (case z_all => k_is)
    (case z_set => k_is)
    (case z_dict => k_is)
    (case z_sum => k_is)
    (case z_sorted => k_is)
    (case z_enumerate => k_is)
    (case z_range => k_is)
    (case z_int => k_is)
    (case z_bool => k_is)
    (case z_max => k_is)
    (case v_MOST_SIGNS => k_is)
    (case v_MOST_STATES => k_is)
    (case v_MOST_METHODS => k_is)
    (case v_MOST_OUTCOMES => k_is)
end
