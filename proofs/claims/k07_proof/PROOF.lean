import PyProof.Rows.All
import Wide.All
import OpenK.AllK
import Wide.FinOn
import HandS.ForMost
import HandS.Set
import HandS.TupSets
import HandS.SetFor
import KE.KSortTupG
import KE.KSortRegAny
import KE.KDictSum
import KE.KDictCopyH
import HandS.Strs
import HandS.Walk
import HandS.IsInst
import HandS.StrMore
import HandS.SetKeys
import HandS.SetBool
import HandS.DictComp
import HandS.Exc
import HandS.ExcOwn
import HandS.ExcInit
import HandS.ExcField
import HandS.WordsExc
import HandS.Property
import HandS.Text
import HandS.OwnIter
import HandS.ListItems
import KE.KDictItemsList
import KE.KDictPairs
import PyProof.CollectStr
import HandS.ExcValue
import KE.KDictWalk
import HandS.Flow
import HandS.Call
import HandS.Codes
import PyProof.Draws
import PyProof.EnumMake
import PyProof.WalksMore
import HandS.TryOnly
import HandS.Words
import HandS.Zip
import HandS.Conv
import HandS.TupAny
import KE.KExcIs
import PyProof.ReprRoads
import PyProof.ReprLen
import HandS.Style
import HandS.Iter
import HandS.ForSpec
import PySem.Challenge.RW_rightstate_k07_programs_refused
set_option Elab.async false
set_option linter.all false
set_option maxRecDepth 100000
-- QSet
section
set_option maxRecDepth 100000
set_option maxHeartbeats 2000000
namespace Q9
open PySem PySem.Spec PyProof.Rows L2
theorem Paired.perm {α β : Type} {F : α → β → Prop} {l l' : List β} (p : l'.Perm l) : ∀ {ks : List α}, Paired F ks l → ∃ ks', ks'.Perm ks ∧ Paired F ks' l' := by
  induction p with
  | nil => intro ks h; exact ⟨ks, .refl _, h⟩
  | cons x p ih =>
    intro ks h
    cases h with
    | cons r t =>
      obtain ⟨ks', q1, q2⟩ := ih t
      exact ⟨_ :: ks', q1.cons _, .cons r q2⟩
  | swap x y l =>
    intro ks h
    cases h with
    | cons r t => cases t with
      | cons r' t' => exact ⟨_, List.Perm.swap _ _ _, .cons r' (.cons r t')⟩
  | trans p1 p2 ih1 ih2 =>
    intro ks h
    obtain ⟨k1, q1, q2⟩ := ih2 h
    obtain ⟨k2, q3, q4⟩ := ih1 q2
    exact ⟨k2, q3.trans q1, q4⟩
theorem Paired.mem_r {α β : Type} {F : α → β → Prop} : ∀ {ks : List α} {l : List β}, Paired F ks l → ∀ e ∈ l, ∃ k ∈ ks, F k e
  | _, _, .nil, e, h => by cases h
  | _, _, .cons r t, e, h => by
    rcases List.mem_cons.mp h with z | z
    · exact ⟨_, List.mem_cons_self, z ▸ r⟩
    · obtain ⟨k, h1, h2⟩ := Paired.mem_r t e z
      exact ⟨k, List.mem_cons_of_mem _ h1, h2⟩
theorem Paired.mem_l {α β : Type} {F : α → β → Prop} : ∀ {ks : List α} {l : List β}, Paired F ks l → ∀ k ∈ ks, ∃ e ∈ l, F k e
  | _, _, .nil, e, h => by cases h
  | _, _, .cons r t, e, h => by
    rcases List.mem_cons.mp h with z | z
    · exact ⟨_, List.mem_cons_self, z ▸ r⟩
    · obtain ⟨k, h1, h2⟩ := Paired.mem_l t e z
      exact ⟨k, List.mem_cons_of_mem _ h1, h2⟩
theorem Paired.snoc {α β : Type} {F : α → β → Prop} {k : α} {e : β} (r : F k e) : ∀ {ks : List α} {l : List β}, Paired F ks l → Paired F (ks ++ [k]) (l ++ [e])
  | _, _, .nil => .cons r .nil
  | _, _, .cons q t => .cons q (Paired.snoc r t)
section
variable {P : Program} {w : World} {K : Type} [DecidableEq K] (knd : KeyKind P w K)
/-- what an entry of a set's table is: the key, its hash -/
def Ent (k : K) (e : Int × Value) : Prop := knd.is k e.2 = true ∧ e.1 = knd.hash k ∧ e.2.scannable = true
/-- the set at a has the members ks, each once, in the order of its table; it can be walked -/
def RSet (h : Heap) (a : Addr) (ks : List K) : Prop :=
  ∃ o es ep t, h.get? a = some o ∧ o.ExactSet ∧ o.data = .set es ep t ∧ Paired (Ent knd) ks es.toList ∧ ks.Nodup ∧ es.size < scanBound ∧
    t.fits es.size = true ∧ Ris t.place.toList ∧ (w.params.followText "set-order" = true ∨ t.led = true)
variable {knd}
variable {A : Around} {E : Value → Shared → Prop} {s : Shared} {h h' : Heap} {a : Addr} {ks : List K}
theorem RSet.at (R : RSet knd h a ks) (k : ∀ o, h.get? a = some o → h'.get? a = some o) : RSet knd h' a ks := by
  obtain ⟨o, es, ep, t, ho, r⟩ := R
  exact ⟨o, es, ep, t, k o ho, r⟩
theorem RSet.size (R : RSet knd h a ks) : ks.length < scanBound := by
  obtain ⟨o, es, ep, t, ho, hx, hd, p, nd, hb, r⟩ := R
  have e : ks.length = es.size := (PySem.Paired.length p).trans Array.length_toList
  rw [e]; exact hb
theorem ents_elems {es : List (Int × Value)} (p : Paired (Ent knd) ks es) : ElemsOf knd es := fun e he => by
  obtain ⟨k, _, h1, h2, h3⟩ := Paired.mem_r p e he
  exact ⟨⟨k, h1, h2⟩, h3⟩
theorem ents_has {es : List (Int × Value)} (p : Paired (Ent knd) ks es) (k : K) : (∃ e ∈ es, knd.is k e.2 = true) ↔ k ∈ ks := by
  constructor
  · rintro ⟨e, he, q⟩
    obtain ⟨k', hk', h1, _⟩ := Paired.mem_r p e he
    rw [knd.inj e.2 k k' q h1]; exact hk'
  · intro hk
    obtain ⟨e, he, h1, _⟩ := Paired.mem_l p k hk
    exact ⟨e, he, h1⟩
theorem RSet.setOf (R : RSet knd h a ks) : h.SetOf knd a (fun k => decide (k ∈ ks)) ks.length := by
  obtain ⟨o, es, ep, t, ho, hx, hd, p, nd, hb, hf, _⟩ := R
  have e : ks.length = es.size := (PySem.Paired.length p).trans Array.length_toList
  exact ⟨o, es, ep, t, ho, hx, hd, ents_elems p, fun k => by rw [decide_eq_true_eq]; exact (ents_has p k).symm, hb, hf, e.symm⟩
/-- the table written, and laid anew where it is too full -/
theorem rset_tail {g : Bool → Sem Unit} (hg : ∀ (b : Bool) (s₁ : Shared) (Q' : Unit → Shared → Prop), Q' () s₁ → wpAny (model P w) A (g b) Q' E s₁)
    {o : Obj} {es : Array (Int × Value)} {ep : Nat} {t : SetTable} (ho : s.heap.get? a = some o) (hex : o.ExactSet) (hd : o.data = .set es ep t)
    {es1 : Array (Int × Value)} {t2 : SetTable} {ks1 : List K} (p1 : Paired (Ent knd) ks1 es1.toList) (nd1 : ks1.Nodup) (hb1 : es1.size < scanBound) (hf2 : t2.fits es1.size = true)
    (hr : Ris t2.place.toList) (hl : w.params.followText "set-order" = true ∨ t2.led = true) {wasDummy : Bool} {R : Option Bool → Shared → Prop}
    (hR : ∀ h' ks', Heap.SameBut a s.heap h' → ks'.Perm ks1 → RSet knd h' a ks' → R (some true) { s with heap := h' }) :
    wpAny (model P w) A (do
        storeSet a es1 t2
        if (!wasDummy && t2.tooFull) = true then do
            g (relayAll t2 es1 (SetTable.grown es1.size)).2.2
            storeSet a (relayAll t2 es1 (SetTable.grown es1.size)).1 (relayAll t2 es1 (SetTable.grown es1.size)).2.1
            pure (some true)
          else pure (some true)) R E s := by
  have at1 := store_at (es' := es1) (t' := t2) ho hd
  have same1 := Heap.SameBut.update s.heap a (Obj.putSet es1 t2)
  refine wpAny_bind (wpAny_storeSet_of ho hd ?_ (fits_of_scanBound hb1))
  split
  · have q1 := relayAll_perm t2 es1 (SetTable.grown es1.size)
    have q2 := relayAll_fits t2 es1 (SetTable.grown es1.size)
    have q3 := relayAll_ris t2 es1 (SetTable.grown es1.size)
    have q4 := relayAll_led t2 es1 (SetTable.grown es1.size)
    generalize relayAll t2 es1 (SetTable.grown es1.size) = Z at q1 q2 q3 q4 ⊢
    obtain ⟨es2, t3, gave⟩ := Z
    dsimp only at q1 q2 q3 q4 ⊢
    have sz : es2.size = es1.size := by rw [← Array.length_toList, q1.length_eq, Array.length_toList]
    have hb2 : es2.size < scanBound := by rw [sz]; exact hb1
    obtain ⟨ks2, pk, p2⟩ := Paired.perm q1 p1
    refine wpAny_bind (hg _ _ _ (wpAny_bind (wpAny_storeSet_of at1 rfl ?_ (fits_of_scanBound hb2))))
    have at2 := store_at (es' := es2) (t' := t3) at1 rfl
    refine wpAny_pure (hR _ ks2 (same1.trans (Heap.SameBut.update _ a _)) pk ?_)
    exact ⟨_, es2, _, t3, at2, hex, rfl, p2, pk.nodup_iff.mpr nd1, hb2, q2, q3, hl.imp id fun z => by rw [q4]; exact z⟩
  · exact wpAny_pure (hR _ ks1 same1 (.refl _) ⟨_, es1, _, t2, at1, hex, rfl, p1, nd1, hb1, hf2, hr, hl⟩)
/-- one key more, or none -/
def Added (k : K) (ks ks' : List K) : Prop := (k ∈ ks ∧ ks' = ks) ∨ (k ∉ ks ∧ ks'.Perm (k :: ks))
theorem rset_add {k : K} {x : Value} {Q : Bool → Shared → Prop} (R : RSet knd s.heap a ks) (hk : knd.is k x = true) (hsc : x.scannable = true) (room : ks.length + 1 < scanBound)
    (hQ : ∀ b h' ks', Heap.SameBut a s.heap h' → Added k ks ks' → RSet knd h' a ks' → Q b { s with heap := h' }) :
    wpAny (model P w) A (setAddHashed a x (knd.hash k)) Q E s := by
  have R0 := R
  obtain ⟨o, es, ep, t, ho, hex, hd, pr, nd, hb, hf, hr, hl⟩ := R
  have hel := ents_elems pr
  have hn : es.size = ks.length := by rw [PySem.Paired.length pr, Array.length_toList]
  unfold setAddHashed setAddHashedIn
  refine wpAny_holding (wpAny_bind (wpAny_setState_of ho hd hf ?_))
  dsimp only
  rw [byScan_of hsc hb hel]
  simp only [↓reduceIte]
  unfold setAddByScan
  refine wpAny_bind (wpAny_bind (wpAny_rule (wpAny_bind (wpAny_setScan_of hk ho hd hf hel ?_))))
  cases hfi : List.findIdx? (fun e => knd.is k e.2) es.toList with
  | some j =>
    dsimp only
    obtain ⟨hj, pj, _⟩ := List.findIdx?_eq_some_iff_getElem.mp hfi
    have hin : k ∈ ks := (ents_has pr k).1 ⟨es.toList[j], List.getElem_mem hj, pj⟩
    exact wpAny_pure (wpAny_pure (hQ _ s.heap ks (Heap.SameBut.refl a s.heap) (.inl ⟨hin, rfl⟩) R0))
  | none =>
    dsimp only
    have hout : k ∉ ks := fun z => by
      obtain ⟨e, he, q⟩ := (ents_has pr k).2 z
      have c := List.findIdx?_eq_none_iff.mp hfi e he
      rw [q] at c; cases c
    have gw : ∀ (b : Bool) {s₁ : Shared} {Q' : Unit → Shared → Prop}, Q' () s₁ → wpAny (model P w) A (match b with | true => rule "set.scan.the-table-gave-way" | false => pure ()) Q' E s₁ :=
      fun b s₁ Q' q => by cases b <;> first | exact wpAny_pure q | exact wpAny_rule q
    have m1 := layNew_perm t es (knd.hash k) x
    have m2 := layNew_fits t es (knd.hash k) x
    have m3 := layNew_ris t es (knd.hash k) x hr
    have m4 := layNew_led t es (knd.hash k) x
    generalize layNew t es (knd.hash k) x = Z at m1 m2 m3 m4 ⊢
    obtain ⟨es1, t1, wasDummy, gave⟩ := Z
    dsimp only at m1 m2 m3 m4 ⊢
    rw [Array.toList_push] at m1
    have psn : Paired (Ent knd) (ks ++ [k]) (es.toList ++ [(knd.hash k, x)]) := Paired.snoc (show Ent knd k (knd.hash k, x) from ⟨hk, rfl, hsc⟩) pr
    obtain ⟨ks1, pk, p1⟩ := Paired.perm m1 psn
    have pc : ks1.Perm (k :: ks) := pk.trans (List.perm_append_singleton _ _)
    have nd1 : ks1.Nodup := pc.nodup_iff.mpr (List.nodup_cons.mpr ⟨hout, nd⟩)
    have sz : es1.size = ks.length + 1 := by rw [← Array.length_toList, ← PySem.Paired.length p1, pc.length_eq, List.length_cons]
    have hb1 : es1.size < scanBound := by rw [sz]; exact room
    have led1 : w.params.followText "set-order" = true ∨ t1.led = true := hl.imp id fun z => by rw [m4]; exact z
    have fin : ∀ h' ks', Heap.SameBut a s.heap h' → ks'.Perm ks1 → RSet knd h' a ks' → ∀ b, Q b { s with heap := h' } := fun h' ks' sb pm r b => hQ b h' ks' sb (.inr ⟨hout, pm.trans pc⟩) r
    refine wpAny_bind (gw _ ?_)
    split
    · refine wpAny_bind ?_
      rw [hashByValue_scannable 8 hsc]
      refine wpAny_pure (rset_tail (knd := knd) (fun b s₁ Q' q => by cases b <;> first | exact wpAny_pure q | exact wpAny_rule q) ho hex hd p1 nd1 hb1 ?_ ?_ ?_ fun h' ks' sb pm r => ?_)
      · first | (split <;> first | exact m2 | exact SetTable.fits_plain_off m2) | exact m2
      · first | (split <;> exact m3) | exact m3
      · first | (split <;> exact led1) | exact led1
      · dsimp only; exact wpAny_pure (fin h' ks' sb pm r _)
    · refine wpAny_bind (wpAny_pure ?_)
      simp only [↓reduceIte]
      refine rset_tail (knd := knd) (fun b s₁ Q' q => by cases b <;> first | exact wpAny_pure q | exact wpAny_rule q) ho hex hd p1 nd1 hb1 m2 m3 led1 fun h' ks' sb pm r => ?_
      dsimp only; exact wpAny_pure (fin h' ks' sb pm r _)
end
end Q9
end
-- QSetCall
section
set_option maxRecDepth 100000
set_option maxHeartbeats 4000000
namespace Q9
open PySem PySem.Spec PyProof.Rows L2
section
variable {P : Program} {w : World} {K : Type} [DecidableEq K] {knd : KeyKind P w K} {A : Around} {E : Value → Shared → Prop} {s : Shared}
/-- ks are the first i of xs, each once, in any order -/
structure Coll (xs : List K) (i : Nat) (ks : List K) : Prop where
  nd : ks.Nodup
  mem : ∀ k, k ∈ ks ↔ k ∈ xs.take i
theorem Coll.zero (xs : List K) : Coll xs 0 [] := ⟨List.nodup_nil, fun k => by simp⟩
theorem take_one_more {α : Type} {l : List α} {i : Nat} {x : α} (h : l[i]? = some x) : l.take (i + 1) = l.take i ++ [x] := by
  rw [List.take_add_one, h]; rfl
theorem Coll.next {xs : List K} {i : Nat} {ks ks' : List K} {k : K} (c : Coll xs i ks) (h : xs[i]? = some k) (ad : Added k ks ks') : Coll xs (i + 1) ks' := by
  rcases ad with ⟨hin, rfl⟩ | ⟨hout, pm⟩
  · refine ⟨c.nd, fun j => ?_⟩
    rw [take_one_more h, List.mem_append, ← c.mem j, List.mem_singleton]
    exact ⟨.inl, fun z => z.elim id fun e => e ▸ hin⟩
  · refine ⟨pm.nodup_iff.mpr (List.nodup_cons.mpr ⟨hout, c.nd⟩), fun j => ?_⟩
    rw [pm.mem_iff, take_one_more h, List.mem_append, ← c.mem j, List.mem_singleton, List.mem_cons]
    exact Or.comm
theorem Coll.sub {xs : List K} {i : Nat} {ks : List K} (c : Coll xs i ks) : ∀ k ∈ ks, k ∈ xs := fun k hk => List.mem_of_mem_take ((c.mem k).1 hk)
/-- few enough unlike ones -/
def FewIn (xs : List K) : Prop := ∀ ks : List K, ks.Nodup → (∀ k ∈ ks, k ∈ xs) → ks.length + 1 < scanBound
theorem upd_turns {I : Addr} {fp wr : List Addr} {G : Array GenState → Array GenState → Prop} {n : Nat} {Pv : Nat → Value → Prop} {St : Nat → Shared → Prop} {R : Result → Shared → Prop}
    (W : WalksS P w A.in1 I fp wr G n Pv St) (S : Addr) (hSf : S ∉ fp) (xs : List K) (hn : n = xs.length) (few : FewIn xs)
    (hval : ∀ i v, Pv i v → ∃ k, xs[i]? = some k ∧ knd.is k v = true ∧ v.scannable = true) :
    ∀ (m i : Nat) (s : Shared), n - i = m → i ≤ n → St i s → (∃ ks, RSet knd s.heap S ks ∧ Coll xs i ks) →
      (∀ s' ks, Moved (S :: wr) G s s' → RSet knd s'.heap S ks → Coll xs n ks → R (.ok (.ret .none)) s') →
      codeAny (model P w) A (.builtin "set.update.loop" ⟨[.ref S, .ref I], []⟩) R s := by
  have away : S ∉ wr := fun h => hSf (W.sub _ h)
  have up : ∀ b ∈ wr, b ∈ S :: wr := fun b hb => List.mem_cons_of_mem _ hb
  intro m
  induction m with
  | zero =>
    intro i s hm hi st ⟨ks, RS, c⟩ hR
    obtain rfl : i = n := by omega
    refine codeAny_builtin F.entry_set_update_loop ?_
    rw [Around.under_plainId F.plain_set_update_loop _]
    show wpAny _ A.in1 (pyNext (.ref I) >>= _) _ _ s
    refine wpAny_bind (W.done s _ _ st fun s' mv => ?_)
    show wpAny _ A.in1 (ret Value.none) _ _ s'
    exact wpAny_pure (hR s' ks (mv.mono up) (RS.at fun o e => mv.heap S o away e) c)
  | succ m ih =>
    intro i s hm hi st ⟨ks, RS, c⟩ hR
    have lt : i < n := by omega
    refine codeAny_builtin F.entry_set_update_loop ?_
    rw [Around.under_plainId F.plain_set_update_loop _]
    show wpAny _ A.in1 (pyNext (.ref I) >>= _) _ _ s
    refine wpAny_bind (W.item i s _ _ lt st fun v s' pv st' mv => ?_)
    obtain ⟨k, hk, his, hsc⟩ := hval i v pv
    have RS' : RSet knd s'.heap S ks := RS.at fun o e => mv.heap S o away e
    show wpAny _ A.in1 (holding [v] (setAdd S v) >>= _) _ _ s'
    refine wpAny_bind (wpAny_holding ?_)
    unfold setAdd
    refine wpAny_holding (wpAny_bind (knd.pyHash his ?_))
    refine rset_add (s := { s' with toks := s'.toks + 1 }) RS' his hsc (few ks c.nd c.sub) fun b h' ks' same ad RS2 => ?_
    refine wpAny_pure ⟨plainId_quiet F.plain_set_update_loop _, ih (i + 1) _ (by omega) lt (W.frame _ s' _ _ st' (Nat.le_succ _) fun b hb o e => ?_) ⟨ks', RS2, c.next hk ad⟩ fun s'' ks2 mv2 RS3 c3 => ?_⟩
    · exact (same.2 b fun z => hSf (z ▸ hb)).trans e
    · refine hR s'' ks2 (Moved.trans W.gtrans ((mv.mono up).then_heap (Nat.le_succ _) fun b o hb e => ?_) mv2) RS3 c3
      exact (same.2 b fun z => hb (z ▸ List.mem_cons_self)).trans e
/-- what set(..) reads: a list or a tuple at l -/
structure Src (P : Program) (w : World) (h : Heap) (l : Addr) (T : String) (items : Array Value) : Prop where
  typ : ∃ o, h.get? l = some o ∧ o.cls = .type T
  sub1 : isSubtype (.type T) (.type "set") = pure false
  sub2 : isSubtype (.type T) (.type "frozenset") = pure false
  nod : (Value.type T == Value.type "dict") = false
  walk : ∃ (ob : Obj) (St : Addr → Nat → Heap → Prop),
    (∀ (s₁ : Shared) (A : Around) (E Q : Value → Shared → Prop), (∀ b o, h.get? b = some o → s₁.heap.get? b = some o) → Q (.ref s₁.heap.objs.size) { s₁ with heap := s₁.heap.push ob } → wpAny (model P w) A (pyIter (.ref l)) Q E s₁) ∧
    (∀ (A : Around) (I : Addr), A.handled = none → l ≠ I → Walks P w A I [I, l] [I] items.size (fun i v => items[i]? = some v) (St I)) ∧
    ∀ h₁ : Heap, (∀ b o, h.get? b = some o → h₁.get? b = some o) → St h₁.objs.size 0 (h₁.push ob)
theorem Src.list {h : Heap} {l : Addr} {items : Array Value} (hl : h.IsList l items) : Src P w h l "list" items where
  typ := let ⟨o, ho, hc, _⟩ := hl; ⟨o, ho, hc⟩
  sub1 := F.sub_list_set
  sub2 := F.sub_list_frozenset
  nod := by decide
  walk := by
    have up : ∀ h₁ : Heap, (∀ b o, h.get? b = some o → h₁.get? b = some o) → h₁.IsList l items := fun h₁ k => let ⟨o, ho, r⟩ := hl; ⟨o, k _ _ ho, r⟩
    exact ⟨_, fun I i h => h.IsListIter I l i ∧ h.IsList l items, fun s₁ A E Q k q => wpAny_pyIter_list (up _ k) q, fun A I hh ne => Walks.list hh I l ne items,
      fun h₁ k => ⟨⟨_, Heap.get?_push_size _ rfl, rfl, rfl⟩, (up h₁ k).push _⟩⟩
theorem Src.tuple {h : Heap} {l : Addr} {items : Array Value} (hl : h.IsTuple l items) : Src P w h l "tuple" items where
  typ := let ⟨o, ho, hc, _⟩ := hl; ⟨o, ho, hc⟩
  sub1 := F.sub_tuple_set
  sub2 := F.sub_tuple_frozenset
  nod := by decide
  walk := by
    have up : ∀ h₁ : Heap, (∀ b o, h.get? b = some o → h₁.get? b = some o) → h₁.IsTuple l items := fun h₁ k => let ⟨o, ho, r⟩ := hl; ⟨o, k _ _ ho, r⟩
    exact ⟨_, fun I i h => h.IsTupleIter I l i ∧ h.IsTuple l items, fun s₁ A E Q k q => wpAny_pyIter_tuple (up _ k) q, fun A I hh ne => Walks.tuple hh I l ne items,
      fun h₁ k => ⟨⟨_, Heap.get?_push_size _ rfl, rfl, rfl⟩, (up h₁ k).push _⟩⟩
theorem rset_fresh {h : Heap} {a : Addr} (ho : h.get? a = some { cls := .type "set", dict := none, data := .set #[] 0 (.fresh 0 0 (!w.params.followText "set-order")) }) : RSet knd h a [] :=
  ⟨_, #[], 0, _, ho, ⟨rfl, rfl, rfl⟩, rfl, .nil, List.nodup_nil, by decide, by rfl, List.Pairwise.nil, by
    show _ ∨ (!w.params.followText "set-order") = true
    cases w.params.followText "set-order" with
    | false => exact .inr rfl
    | true => exact .inl rfl⟩
end
end Q9
end
-- QSetNew
section
set_option maxRecDepth 100000
set_option maxHeartbeats 8000000
namespace Q9
open PySem PySem.Spec PyProof.Rows L2
section
variable {P : Program} {w : World} {K : Type} [DecidableEq K] {knd : KeyKind P w K} {A : Around} {E : Value → Shared → Prop} {s : Shared}
abbrev emptySet (w : World) : Obj := { cls := .type "set", dict := none, data := .set #[] 0 (.fresh 0 0 (!w.params.followText "set-order")) }
/-- set(xs), xs a list or a tuple of keys -/
theorem call_set_keys {l : Addr} {T : String} {items : Array Value} (src : Src P w s.heap l T items) (xs : List K) (few : FewIn xs) (hn : items.size = xs.length) {Q : Value → Shared → Prop} (hh : A.handled = none)
    (hval : ∀ (i : Nat) (v : Value), items[i]? = some v → ∃ k, xs[i]? = some k ∧ knd.is k v = true ∧ v.scannable = true)
    (hQ : ∀ (h' : Heap) (tk : Nat) ks, RSet knd h' s.heap.objs.size ks → Coll xs xs.length ks → (∀ b o, s.heap.get? b = some o → h'.get? b = some o) → Q (.ref s.heap.objs.size) { s with heap := h', toks := tk }) :
    wpAny (model P w) A (call (.type "set") [.ref l]) Q E s := by
  obtain ⟨⟨ol, hol, hcl⟩, hsls, hslf, hne, ob, St, hiter, hwalk, hst⟩ := src
  obtain ⟨c, tl, hmro⟩ := F.called_set.mro
  have hmade := F.called_set.made
  have hsub := F.called_set.sub
  refine wpAny_call (codeAny_of_tree ?_)
  show wpAny _ _ (callAny (.type "set") _) _ _ _
  refine wpAny_pure ⟨Code.quiet_builtin _ (by decide +kernel), codeAny_builtin F.entry_type_call ?_⟩
  rw [Around.under_plain (weight_type_call_type "set" [.ref l] []) rfl]
  have h1 := F.called_set.notType
  have h2 := F.called_set.canCreate
  have hct := F.typeCall_set_1 (.ref l)
  repeat (any_goals (first | assumption | wp_step))
  refine codeAny_mono (code_set_led1 (.ref l) (E := E) (Q₁ := fun obj s₁ => obj = .ref s.heap.objs.size ∧ s₁ = { s with heap := s.heap.push (emptySet w) }) ⟨rfl, rfl⟩) fun r s₁ hr => ?_
  cases r with
  | error e => exact hr
  | ok fl =>
    cases fl with
    | ret obj =>
      obtain ⟨rfl, rfl⟩ := hr
      have hS : (s.heap.push (emptySet w)).get? s.heap.objs.size = some (emptySet w) := Heap.get?_push_size _ rfl
      have hT : Shared.TypeIs { s with heap := s.heap.push (emptySet w) } (.ref s.heap.objs.size) "set" := ⟨_, hS, rfl⟩
      have hli := F.called_set.init.lookup
      have hbi := F.called_set.init.bind (.ref s.heap.objs.size)
      repeat (any_goals (first | assumption | wp_step))
      refine codeAny_mono (codeAny_call_builtin (R := wants (fun r s₂ => r = .none ∧ ∃ h' tk ks, s₂ = { s with heap := h', toks := tk } ∧ RSet knd h' s.heap.objs.size ks ∧ Coll xs xs.length ks ∧
          (∀ b o, s.heap.get? b = some o → h'.get? b = some o)) E) F.called_set.init.plain F.entry_set_init (check_set_init_1 hT ?_)) fun r₂ s₂ hr₂ => ?_
      · have up1 : ∀ b o, s.heap.get? b = some o → (s.heap.push (emptySet w)).get? b = some o := fun b o e => Heap.get?_push_of_some _ e
        have hol' := up1 _ _ hol
        obtain ⟨ocls, odict, odata, oslots⟩ := ol
        simp only at hcl
        subst hcl
        unfold Builtin.«set.__init__» noKeywords Builtin.Frozenset.updateFrom
        generalize hPI : pyIter = PI
        wp_walk
        subst hPI
        refine hiter { s with heap := s.heap.push (emptySet w) } _ _ _ up1 ?_
        refine wpAny_bind (wpAny_runValue ?_)
        have hlS : l < s.heap.objs.size := Heap.lt_size hol
        have hh3 : A.in1.in1.in1.handled = none := by simp [hh]
        have hz1 : (s.heap.push (emptySet w)).objs.size = s.heap.objs.size + 1 := Heap.size_push ..
        have neI : l ≠ (s.heap.push (emptySet w)).objs.size := by rw [hz1]; exact Nat.ne_of_lt (Nat.lt_succ_of_lt hlS)
        have hSf : s.heap.objs.size ∉ [(s.heap.push (emptySet w)).objs.size, l] := by
          rw [hz1]
          simp only [List.mem_cons, List.not_mem_nil, or_false, not_or]
          exact ⟨Nat.ne_of_lt (Nat.lt_succ_self _), Nat.ne_of_gt hlS⟩
        refine upd_turns (knd := knd) ((hwalk _ _ hh3 neI).toS) s.heap.objs.size hSf xs hn few hval (items.size - 0) 0 _ (by omega) (Nat.zero_le _) (hst _ up1)
          ⟨[], rset_fresh (Heap.get?_push_of_some _ hS), Coll.zero xs⟩ fun s' ks mv RS cl => ?_
        obtain ⟨h', g2, d', tk', os'⟩ := s'
        have eg : g2 = s.gens := mv.gens
        have ed : d' = s.drawn := mv.drawn
        have eo : os' = s.os := mv.os
        subst eg; subst ed; subst eo
        show wpAny _ _ _ _ _ _
        refine wpAny_pure ?_
        show wpAny _ _ (ret Value.none) _ _ _
        rw [hn] at cl
        refine wpAny_pure ⟨rfl, h', tk', ks, rfl, RS, cl, fun b o e => ?_⟩
        have lt := Heap.lt_size e
        refine mv.heap b o (fun z => ?_) (Heap.get?_push_of_some _ (up1 b o e))
        rcases List.mem_cons.mp z with z | z
        · exact absurd lt (by rw [z]; exact Nat.lt_irrefl _)
        · have z2 := List.mem_singleton.mp z
          rw [z2, hz1] at lt
          exact absurd lt (Nat.not_lt_of_le (Nat.le_succ _))
      · cases r₂ with
        | error e => exact hr₂
        | ok fl₂ =>
          cases fl₂ with
          | ret r =>
            obtain ⟨rfl, h', tk, ks, rfl, RS, cl, k2⟩ := hr₂
            repeat (any_goals (first | assumption | wp_step))
            exact hQ _ _ _ RS cl k2
          | _ => exact hr₂.elim
    | _ => exact hr.elim
end
end Q9
end
-- QSort
section
set_option maxRecDepth 100000
set_option maxHeartbeats 4000000
namespace Q9
open PySem PySem.Spec PyProof.Rows L2
section
variable {P : Program} {w : World} {A : Around} {E : Value → Shared → Prop} {s : Shared}
abbrev Keeps (h h' : Heap) : Prop := ∀ b o, h.get? b = some o → h'.get? b = some o
/-- sorted(..) of what gathers into vs -/
theorem sorted_frame {r : Value} {vs : List Value} {Good : Array Value → Prop} {Q : Value → Shared → Prop} (hL : vs.length ≤ sizeLine)
    (hcol : ∀ (R : List Value → Shared → Prop) (E' : Value → Shared → Prop), (∀ s1, Keeps s.heap s1.heap → s.heap.objs.size ≤ s1.heap.objs.size → s1.gens = s.gens → s1.os = s.os → R vs s1) → wpAny (model P w) A.in1 (collect r) R E' s)
    (hsort : ∀ (s2 : Shared) (a n : Nat) (A' : Around) (E' : Value → Shared → Prop) (Pf : Fin → Shared → Prop), Keeps s.heap s2.heap → s2.heap.get? a = some (seqObj "list" vs.toArray n) →
      (∀ out, Good out → Pf (.done (.ret .none)) { s2 with heap := sortedHeap s2.heap a vs out }) → wpAny (model P w) A' (Builtin.«list.sort» ⟨[.ref a], []⟩) Pf E' s2)
    (hQ : ∀ s' p out c, Keeps s.heap s'.heap → s'.gens = s.gens → s'.os = s.os → s.heap.objs.size ≤ p → s'.heap.get? p = some (seqObj "list" out c) → Good out → Q (.ref p) s') :
    wpAny (model P w) A (call (.builtin "sorted") [r]) Q E s := by
  refine Calls.call_function_entry kind_sorted plain_sorted entry_sorted (args_sorted1 _) ?_
  unfold Builtin.«sorted»
  refine wpAny_bind (m := checkCount "sorted" 1 1 _) (wpAny_pure (wpAny_bind (hcol _ _ fun s1 k1 z1 g1 o1 => wpAny_bind (wpAny_newList ?_ hL))))
  have at1 : (s1.heap.push (seqObj "list" vs.toArray 0)).get? s1.heap.objs.size = some (seqObj "list" vs.toArray 0) := Heap.get?_push_size _ rfl
  have k2 : Keeps s.heap (s1.heap.push (seqObj "list" vs.toArray 0)) := fun b o e => Heap.get?_push_of_some _ (k1 b o e)
  refine wpAny_bind (wpAny_holding (wpAny_call_entry slot_list_sort ⟨_, at1, rfl⟩ entry_list_sort (hsort { s1 with heap := s1.heap.push (seqObj "list" vs.toArray 0) } _ _ _ _ _ k2 at1 fun out g => ⟨_, rfl, ?_⟩) (args_list_sort _)))
  obtain ⟨c, hc⟩ := sortedHeap_at (vs := vs) (out := out) at1
  refine wpAny_pure ⟨_, rfl, hQ _ s1.heap.objs.size out c (fun b u e => ?_) g1 o1 z1 hc g⟩
  have q := k1 b u e
  have lt := Heap.lt_size q
  show (sortedHeap (s1.heap.push (seqObj "list" vs.toArray 0)) s1.heap.objs.size vs out).get? b = some u
  rw [sortedHeap_old (Nat.ne_of_lt lt) (by rw [size_push']; exact Nat.lt_succ_of_lt lt)]
  exact Heap.get?_push_of_some _ q
/-- texts in order -/
def TLe (x y : Str) : Prop := ¬ y.cps.toList < x.cps.toList
def Up (ys : List Str) : Prop := ys.Pairwise TLe
theorem list_sort_txts {a n : Nat} {vs : List Value} {ss : List Str} {Pf : Fin → Shared → Prop} (ho : s.heap.get? a = some (seqObj "list" vs.toArray n)) (hS : StrsAre vs ss) (hL : vs.length ≤ sizeLine)
    (hP : ∀ (out : Array Value) ys, StrsAre out.toList ys → ys.Perm ss → Up ys → Pf (.done (.ret .none)) { s with heap := sortedHeap s.heap a vs out }) :
    wpAny (model P w) A (Builtin.«list.sort» ⟨[.ref a], []⟩) Pf E s := by
  refine list_sort_treeKAny strKind_oneLt ho hS.keysOf (fun v₁ v₂ rest e => keyKind_strs (by rw [← e]; exact hS)) hL fun st' hp hs => ?_
  obtain ⟨ys, h1, h2, h3⟩ := sorted_out_str hS hp hs
  refine hP _ ys h1 h2 ?_
  -- in order, read off the array
  have len : ys.length = (arrOf st').size := by rw [← h1.length, Array.length_toList, Array.size_map]
  refine List.pairwise_iff_getElem.mpr fun i j hi hj hij => ?_
  have hj' : j < (arrOf st').size := len ▸ hj
  have hi' : i < (arrOf st').size := len ▸ hi
  have q := hs i j (Nat.le_of_lt hij) (by rw [← hp.size_eq]; exact hj')
  have hl : (arrOf st').toList.Perm (vs.zip vs) := by rw [← pairsOf_toList]; exact Array.perm_iff_toList_perm.mp hp
  have key : ∀ m (hm : m < (arrOf st').size) (hm2 : m < ys.length), KK strKind (arrOf st') m = (ys[m]).cps.toList := fun m hm hm2 => by
    have e1 := (mem_zip_self (hl.mem_iff.mp (show (arrOf st')[m] ∈ (arrOf st').toList from by simp))).1
    obtain ⟨t, e2⟩ := SS.strs_at h1 m (arrOf st')[m].2 (by rw [Array.getElem?_toList, Array.getElem?_map, Array.getElem?_eq_getElem hm]; rfl)
    have e3 : ys.getD m Str.empty = ys[m] := by rw [List.getD_eq_getElem?_getD, List.getElem?_eq_getElem hm2]; rfl
    rw [e3] at e2
    exact KK_str hm (x := ys[m]) (t := t) (q := (arrOf st')[m].2) (Prod.ext (e1.trans e2) rfl)
  rw [key i hi' hi, key j hj' hj] at q
  intro c
  have q' : decide ((ys[j]).cps.toList < (ys[i]).cps.toList) = false := q
  rw [decide_eq_true c] at q'
  cases q'
theorem sorted_txts {r : Value} {vs : List Value} {ss : List Str} (hS : StrsAre vs ss) {Q : Value → Shared → Prop} (hL : vs.length ≤ sizeLine)
    (hcol : ∀ (R : List Value → Shared → Prop) (E' : Value → Shared → Prop), (∀ s1, Keeps s.heap s1.heap → s.heap.objs.size ≤ s1.heap.objs.size → s1.gens = s.gens → s1.os = s.os → R vs s1) → wpAny (model P w) A.in1 (collect r) R E' s)
    (hQ : ∀ s' p (out : Array Value) c ys, Keeps s.heap s'.heap → s'.gens = s.gens → s'.os = s.os → s.heap.objs.size ≤ p → s'.heap.get? p = some (seqObj "list" out c) → StrsAre out.toList ys → ys.Perm ss → Up ys → Q (.ref p) s') :
    wpAny (model P w) A (call (.builtin "sorted") [r]) Q E s :=
  sorted_frame (Good := fun out => ∃ ys, StrsAre out.toList ys ∧ ys.Perm ss ∧ Up ys) hL hcol (fun s2 a n A' E' Pf k2 ho hP => list_sort_txts ho hS hL fun out ys h1 h2 h3 => hP out ⟨ys, h1, h2, h3⟩)
    fun s' p out c k g o z hp ⟨ys, h1, h2, h3⟩ => hQ s' p out c ys k g o z hp h1 h2 h3
end
end Q9
end
-- QRules
section
set_option maxRecDepth 100000
set_option maxHeartbeats 4000000
namespace Q9
open PySem PySem.Spec PyProof.Rows L2
/-- a set of keys (ints, texts) at a: its members, each once -/
def SetKs (P : Program) (w : World) (a : Addr) (ks : List Key) : HO := .ext fun h => RSet (mixKind P w) h a ks
section
variable {X : Cx} {pins : List (Addr × Obj)} {σ : L2.St} {H : Hp} {s : Shared} {a : Addr} {ks : List Key}
theorem setKs_ok {P : Program} {w : World} {H : Hp} {h : Heap} (R : RSet (mixKind P w) h a ks) : ObjOk P w H h a (SetKs P w a ks) := by
  have ⟨o, _, _, _, ho, _⟩ := R
  exact ⟨R, ⟨o, ho⟩, fun h1 h2 p k => RSet.at p k⟩
theorem setKs_get (I : Inv X pins σ H s) (ha : H a = some (SetKs X.prog X.w a ks)) : RSet (mixKind X.prog X.w) s.heap a ks := (I.hok a _ ha).1
theorem key_scannable {k : Key} {u : Value} (r : RelV (kV k) u) : u.scannable = true := by
  cases k with
  | inl i => obtain ⟨t, rfl⟩ := r; rfl
  | inr x => obtain ⟨t, rfl⟩ := r; rfl
theorem keys_of_vals {xs : List Key} {us : List Value} (r : Vals (xs.map kV) us) (i : Nat) (v : Value) (h : us[i]? = some v) : ∃ k, xs[i]? = some k ∧ RelV (kV k) v := by
  have len := PySem.Paired.length r
  have hi : i < us.length := (List.getElem?_eq_some_iff.mp h).1
  have hi2 : i < xs.length := by rw [List.length_map] at len; omega
  obtain ⟨u, h1, h2⟩ := Vals.get (i := i) (x := kV xs[i]) r (by rw [List.getElem?_map, List.getElem?_eq_getElem hi2]; rfl)
  rw [h] at h1
  cases h1
  exact ⟨xs[i], List.getElem?_eq_getElem hi2, h2⟩
/-- the state behind a call that laid one new object at p and kept all else -/
theorem Inv.new_at (I : Inv X pins σ H s) {s' : Shared} {p : Addr} {o : HO} (k : Keeps s.heap s'.heap) (g : s'.gens = s.gens) (os : s'.os = s.os) (hp : s.heap.objs.size ≤ p)
    (ok : ObjOk X.prog X.w (upd H p o) s'.heap p o) : Inv X pins σ (upd H p o) s' := by
  have hn : H p = none := I.hok.fresh hp
  exact I.call' (ch := []) os (Un.laid k hp hn) (I.hok.laid k hp ok) (by rw [g]; exact I.bare) fun _ z => nomatch z
/-- set(xs), xs a list or a tuple of keys -/
def rSetOf (K : PySem.W.Frag) (P : Program) (w : World) : List V → Hp → VK → Prop := fun vs H Q => ∃ (l : Addr) (xs : List Key), vs = [V.ref l] ∧ (SqL K H l (xs.map kV) ∨ SqT K H l (xs.map kV)) ∧ FewIn xs ∧
  ∀ (p : Addr) (ks : List Key), H p = none → ks.Nodup → (∀ k, k ∈ ks ↔ k ∈ xs) → Q (.ref p) (upd H p (SetKs P w p ks))
theorem cr_setOf (hc : X.calm = true) : CallR X (.type "set") (rSetOf X.K X.prog X.w) := by
  intro pins s σ H vs us Q I r h
  obtain ⟨l, xs, rfl, hq, few, q⟩ := h
  rw [Vals.ref1 r]
  have fin : ∀ (T : String) (its : List Value), Vals (xs.map kV) its → Src X.prog X.w s.heap l T its.toArray → wpAny (model X.prog X.w) X.A (call (.type "set") [.ref l]) (EP X pins σ Q) X.xe s := fun T its rv src => by
    refine call_set_keys (knd := mixKind X.prog X.w) src xs few ?_ (I.ok.hd hc) (fun i v hv => ?_) fun h' tk ks RS cl k => ?_
    · rw [List.size_toArray, ← PySem.Paired.length rv, List.length_map]
    · have hv' : its[i]? = some v := by simpa using hv
      obtain ⟨k, h1, h2⟩ := keys_of_vals rv i v hv'
      exact ⟨k, h1, kV_is h2, key_scannable h2⟩
    · have J : Inv X pins σ (upd H s.heap.objs.size (SetKs X.prog X.w s.heap.objs.size ks)) { s with heap := h', toks := tk } := I.laid k (Nat.le_refl _) (setKs_ok RS)
      exact ⟨.ref _, _, J, rfl, q _ ks (I.hok.fresh (Nat.le_refl _)) cl.nd fun k => by rw [cl.mem k, List.take_length]⟩
  rcases hq with hq | hq
  · obtain ⟨its, rv, pl, hz⟩ := I.list hq
    exact fin _ its rv (Src.list pl.isList)
  · obtain ⟨its, rv, pl, hz⟩ := I.tuple hq
    exact fin _ its rv (Src.tuple pl)
/-- len(s) -/
def rLenKs (P : Program) (w : World) : List V → Hp → VK → Prop := fun vs H Q => ∃ (a : Addr) (ks : List Key), vs = [V.ref a] ∧ H a = some (SetKs P w a ks) ∧ Q (.int ks.length) H
theorem cr_lenKs : CallR X (.builtin "len") (rLenKs X.prog X.w) := by
  intro pins s σ H vs us Q I r h
  obtain ⟨a, ks, rfl, ha, q⟩ := h
  rw [Vals.ref1 r]
  have R := setKs_get I ha
  have sz := R.size
  obtain ⟨o, es, ep, t, ho, hex, hd, pr, nd, hb, hf, hr, hl⟩ := R
  have e : es.size = ks.length := ((PySem.Paired.length pr).trans Array.length_toList).symm
  have b : scanBound = 4096 := rfl
  refine call_len_set ho hex hd hf (by rw [e]; omega) ⟨.int ks.length, H, I.tok _, ⟨_, by rw [e]⟩, q⟩
/-- sorted(s), a set of texts -/
def rSortedKs (P : Program) (w : World) : List V → Hp → VK → Prop := fun vs H Q => ∃ (a : Addr) (ss : List Str), vs = [V.ref a] ∧ H a = some (SetKs P w a (ss.map Sum.inr)) ∧
  ∀ (ys : List Str) (p : Addr), ys.Perm ss → Up ys → H p = none → Q (.ref p) (upd H p (.lst (ys.map V.str)))
theorem strs_of_ents {P : Program} {w : World} : ∀ {ss : List Str} {es : List (Int × Value)}, Paired (Ent (mixKind P w)) (ss.map Sum.inr) es → StrsAre (es.map (·.2)) ss
  | [], es, h => by
    rw [List.map_nil] at h
    cases h
    exact .nil
  | x :: ss, es, h => by
    rw [List.map_cons] at h
    cases h with
    | cons r t =>
      obtain ⟨h1, _, _⟩ := r
      rcases keyIs_shape (show keyIs (Sum.inr x) _ = true from h1) with ⟨i, t', e, _⟩ | ⟨y, t', e, e2⟩
      · cases e
      · cases e
        rw [List.map_cons, e2]
        exact .cons _ _ (strs_of_ents t)
theorem strsAre_perm {l l' : List Value} (p : l'.Perm l) : ∀ {ss : List Str}, StrsAre l ss → ∃ ss', ss'.Perm ss ∧ StrsAre l' ss' := by
  induction p with
  | nil => intro ss h; exact ⟨ss, .refl _, h⟩
  | cons x p ih =>
    intro ss h
    cases h with
    | cons x t r =>
      obtain ⟨ss', q1, q2⟩ := ih r
      exact ⟨_ :: ss', q1.cons _, .cons _ _ q2⟩
  | swap x y l =>
    intro ss h
    cases h with
    | cons x t r => cases r with
      | cons x' t' r' => exact ⟨_, List.Perm.swap _ _ _, .cons _ _ (.cons _ _ r')⟩
  | trans p1 p2 ih1 ih2 =>
    intro ss h
    obtain ⟨k1, q1, q2⟩ := ih2 h
    obtain ⟨k2, q3, q4⟩ := ih1 q2
    exact ⟨k2, q3.trans q1, q4⟩
theorem cr_sortedKs (hc : X.calm = true) : CallR X (.builtin "sorted") (rSortedKs X.prog X.w) := by
  intro pins s σ H vs us Q I r h
  obtain ⟨a, ss, rfl, ha, q⟩ := h
  rw [Vals.ref1 r]
  have R := setKs_get I ha
  have sz := R.size
  obtain ⟨o, es, ep, t, ho, hex, hd, pr, nd, hb, hf, hr, hl⟩ := R
  have e : es.size = ss.length := by
    have := (PySem.Paired.length pr).trans Array.length_toList
    rw [List.length_map] at this
    exact this.symm
  have hS := strs_of_ents pr
  -- the order that the walk of the set takes is not known ahead: the sort is asked for each
  refine Calls.call_function_entry kind_sorted plain_sorted entry_sorted (args_sorted1 _) ?_
  unfold Builtin.«sorted»
  refine wpAny_bind (m := checkCount "sorted" 1 1 _) (wpAny_pure (wpAny_bind (collect_set (A := X.A.in1) (I.ok.hd hc) ⟨o, ho, hex.1, hd⟩ hf hb hr hl fun s1 vs k1 z1 g1 o1 pm => ?_)))
  obtain ⟨ss1, pss, hS1⟩ := strsAre_perm pm hS
  have hvl : vs.length ≤ sizeLine := by
    have := hS1.length
    have := pss.length_eq
    have b : scanBound = 4096 := rfl
    rw [sizeLine_eq]; omega
  refine wpAny_bind (wpAny_newList ?_ hvl)
  have at1 : (s1.heap.push (seqObj "list" vs.toArray 0)).get? s1.heap.objs.size = some (seqObj "list" vs.toArray 0) := Heap.get?_push_size _ rfl
  refine wpAny_bind (wpAny_holding (wpAny_call_entry slot_list_sort ⟨_, at1, rfl⟩ entry_list_sort (list_sort_txts at1 hS1 hvl fun out ys h1 h2 h3 => ⟨_, rfl, ?_⟩) (args_list_sort _)))
  obtain ⟨c, hc'⟩ := sortedHeap_at (vs := vs) (out := out) at1
  refine wpAny_pure ⟨_, rfl, ?_⟩
  have kk : Keeps s.heap (sortedHeap (s1.heap.push (seqObj "list" vs.toArray 0)) s1.heap.objs.size vs out) := fun b u e => by
    have q := k1 b u e
    have lt := Heap.lt_size q
    rw [sortedHeap_old (Nat.ne_of_lt lt) (by rw [size_push']; exact Nat.lt_succ_of_lt lt)]
    exact Heap.get?_push_of_some _ q
  have len : (ys.map V.str).length ≤ sizeLine := by rw [List.length_map, h2.length_eq, ← hS1.length]; exact hvl
  have J := Inv.new_at I (s' := { s1 with heap := sortedHeap (s1.heap.push (seqObj "list" vs.toArray 0)) s1.heap.objs.size vs out }) (o := .lst (ys.map V.str)) kk g1 o1 z1 ⟨len, out.toList, c, vals_of_strs h1, hc'⟩
  exact ⟨.ref _, _, J, rfl, q ys _ (h2.trans pss) h3 (I.hok.fresh z1)⟩
end
end Q9
end
-- QPairs
section
set_option maxRecDepth 100000
set_option maxHeartbeats 4000000
namespace Q9
open PySem PySem.Spec PyProof.Rows L2
/-- a row that maps onto a rearranged one is a rearranged row -/
theorem perm_of_map {α β : Type} {f : α → β} {m : List β} {l : List α} (p : m.Perm (l.map f)) : ∃ l' : List α, m = l'.map f ∧ l'.Perm l := by
  generalize e : l.map f = n at p
  induction p generalizing l with
  | nil => exact ⟨[], rfl, by cases l with | nil => exact .refl _ | cons _ _ => cases e⟩
  | @cons x l1 l2 p ih =>
    cases l with
    | nil => cases e
    | cons y l =>
      injection e with e1 e2
      obtain ⟨l', h1, h2⟩ := ih e2
      exact ⟨y :: l', by rw [List.map_cons, ← h1, e1], h2.cons _⟩
  | swap x y l1 =>
    cases l with
    | nil => cases e
    | cons u l =>
      cases l with
      | nil => injection e with _ e2; cases e2
      | cons v l =>
        injection e with e1 e2
        injection e2 with e3 e4
        exact ⟨v :: u :: l, by rw [List.map_cons, List.map_cons, e1, e3, e4], List.Perm.swap _ _ _⟩
  | trans p1 p2 ih1 ih2 =>
    obtain ⟨l2, h1, h2⟩ := ih2 e
    obtain ⟨l3, h3, h4⟩ := ih1 h1.symm
    exact ⟨l3, h3, h4.trans h2⟩
theorem paired_zip {α β : Type} {F : α → β → Prop} : ∀ {l : List α} {m : List β}, Paired F l m → ∀ q ∈ l.zip m, F q.1 q.2
  | _, _, .nil, q, h => by simp at h
  | _, _, .cons r t, q, h => by
    rw [List.zip_cons_cons] at h
    rcases List.mem_cons.mp h with z | z
    · rw [z]; exact r
    · exact paired_zip t q z
abbrev PKey := List (Int ⊕ List Nat)
def pKey (p : Str × Str) : PKey := [.inr p.1.cps.toList, .inr p.2.cps.toList]
theorem pKey_inj {p q : Str × Str} (h : pKey p = pKey q) : p = q := by
  obtain ⟨x, y⟩ := p
  obtain ⟨x', y'⟩ := q
  simp only [pKey, List.cons.injEq, Sum.inr.injEq, and_true] at h
  obtain ⟨h1, h2⟩ := h
  obtain ⟨x⟩ := x; obtain ⟨y⟩ := y; obtain ⟨x'⟩ := x'; obtain ⟨y'⟩ := y'
  simp only [Array.toList_inj] at h1 h2
  rw [h1, h2]
/-- pairs of texts in order -/
def PLe (p q : Str × Str) : Prop := (listOrd itemOrd).kle (pKey p) (pKey q)
def UpP (ps : List (Str × Str)) : Prop := ps.Pairwise PLe
theorem PLe.anti {p q : Str × Str} (h : PLe p q) (h' : PLe q p) : p = q := pKey_inj ((listOrd itemOrd).total _ _ h' h)
/-- two rising rows of the same pairs are one -/
theorem upP_same {ps qs : List (Str × Str)} (p : ps.Perm qs) (h1 : UpP ps) (h2 : UpP qs) : ps = qs :=
  p.eq_of_pairwise (fun a b _ _ => PLe.anti) h1 h2
theorem tle_anti {x y : Str} (h : TLe x y) (h' : TLe y x) : x = y := by
  unfold TLe at h h'
  have e : x.cps.toList = y.cps.toList := List.le_antisymm h h'
  obtain ⟨x⟩ := x; obtain ⟨y⟩ := y
  simp only [Array.toList_inj] at e
  rw [e]
theorem up_same {ps qs : List Str} (p : ps.Perm qs) (h1 : Up ps) (h2 : Up qs) : ps = qs :=
  p.eq_of_pairwise (fun a b _ _ => tle_anti) h1 h2
section
variable {P : Program} {w : World} {A : Around} {E : Value → Shared → Prop} {s : Shared}
/-- v is a tuple of two texts -/
def Pair2 (h : Heap) (v : Value) (p : Str × Str) : Prop := ∃ a o t u n, v = .ref a ∧ h.get? a = some o ∧ o.cls = .type "tuple" ∧ o.data = .seq #[.str p.1 t, .str p.2 u] n
abbrev yes : Nat → Bool := fun _ => true
theorem Pair2.key {h : Heap} {v : Value} {p : Str × Str} (x : Pair2 h v p) : G.tupKeyC h yes v = some (pKey p) := by
  obtain ⟨a, o, t, u, n, rfl, ho, hc, hd⟩ := x
  have e1 : G.isTupObj h (.ref a) = true := by simp [G.isTupObj, ho, hc]
  unfold G.tupKeyC
  rw [if_pos e1]
  simp only [tupKey, ho, hd]
  simp [tupItems, pKey]
theorem pairs_tups {h : Heap} : ∀ {vs : List Value} {ps : List (Str × Str)}, Paired (Pair2 h) vs ps → ∃ fs, TupsOf h yes vs fs
  | _, _, .nil => ⟨[], .nil⟩
  | _, _, .cons r t => by
    obtain ⟨fs, q⟩ := pairs_tups t
    obtain ⟨a, o, tk, u, n, rfl, ho, hc, hd⟩ := r
    exact ⟨_ :: fs, .cons ⟨a, o, _, n, rfl, ho, hc, hd, rfl, (fun z => by cases z), fun _ => ⟨_, _, rfl⟩⟩ q⟩
theorem list_sort_pairs {a n : Nat} {vs : List Value} {ps : List (Str × Str)} {Pf : Fin → Shared → Prop} (ho : s.heap.get? a = some (seqObj "list" vs.toArray n)) (hS : Paired (Pair2 s.heap) vs ps) (hL : vs.length ≤ sizeLine)
    (hP : ∀ (out : Array Value) (vps : List (Value × Str × Str)), out.toList = vps.map (·.1) → vps.Perm (vs.zip ps) → UpP (vps.map (·.2)) → Pf (.done (.ret .none)) { s with heap := sortedHeap s.heap a vs out }) :
    wpAny (model P w) A (Builtin.«list.sort» ⟨[.ref a], []⟩) Pf E s := by
  obtain ⟨fs, ht⟩ := pairs_tups hS
  have each : ∀ v ∈ vs, ∃ p ∈ ps, Pair2 s.heap v p := fun v hv => Paired.mem_l hS v hv
  refine G.list_sort_tups ho ht (fun v hv => let ⟨p, _, q⟩ := each v hv; ⟨_, q.key⟩) hL fun st' hp hs hst => ?_
  have hl : (arrOf st').toList.Perm (vs.zip vs) := by rw [← pairsOf_toList]; exact Array.perm_iff_toList_perm.mp hp
  have len := PySem.Paired.length hS
  -- the pairs, read off the values' keys
  have e0 : (arrOf st').toList.map (·.2) = (arrOf st').toList.map (·.1) := List.map_congr_left fun q hq => (mem_zip_self (hl.mem_iff.mp hq)).1.symm
  have p1 : ((arrOf st').toList.map (·.2)).Perm vs := by
    have q := hl.map (·.2)
    rwa [List.map_snd_zip (Nat.le_refl _)] at q
  have e1 : vs = (vs.zip ps).map (·.1) := (List.map_fst_zip (Nat.le_of_eq len)).symm
  rw [e1] at p1
  obtain ⟨vps, e2, p2⟩ : ∃ vps : List (Value × Str × Str), (arrOf st').toList.map (·.2) = vps.map (·.1) ∧ vps.Perm (vs.zip ps) := by
    clear e1
    generalize vs.zip ps = l at p1
    generalize (arrOf st').toList.map (·.2) = m at p1
    exact perm_of_map p1
  refine hP _ vps (by rw [Array.toList_map]; exact e2) p2 ?_
  have at_ : ∀ q ∈ vps, Pair2 s.heap q.1 q.2 := fun q hq => paired_zip hS q (p2.mem_iff.mp hq)
  have sz : vps.length = (arrOf st').size := by
    have := congrArg List.length e2
    simpa using this.symm
  refine List.pairwise_iff_getElem.mpr fun i j hi hj hij => ?_
  rw [List.length_map] at hi hj
  have q := hs i j (Nat.le_of_lt hij) (by rw [← hp.size_eq, ← sz]; exact hj)
  have key : ∀ m (hm : m < vps.length), KK (G.tupKindC s.heap yes) (arrOf st') m = pKey vps[m].2 := fun m hm => by
    have hm' : m < (arrOf st').size := sz ▸ hm
    have e3 : (arrOf st')[m].1 = vps[m].1 := by
      have z := congrArg (fun l => l[m]?) (e0.symm.trans e2)
      simp only [List.getElem?_map, Array.getElem?_toList, Array.getElem?_eq_getElem hm', List.getElem?_eq_getElem hm, Option.map_some, Option.some.injEq] at z
      exact z
    unfold KK
    rw [Array.getElem?_eq_getElem hm']
    show ((G.tupKeyC s.heap yes (arrOf st')[m].1).getD []) = _
    rw [e3, (at_ _ (List.getElem_mem hm)).key]
    rfl
  rw [key i hi, key j hj] at q
  rw [List.getElem_map, List.getElem_map]
  exact q
end
end Q9
end
-- QPairRules
section
set_option maxRecDepth 100000
set_option maxHeartbeats 4000000
namespace Q9
open PySem PySem.Spec PyProof.Rows L2
section
variable {P : Program} {w : World} {A : Around} {E : Value → Shared → Prop} {s : Shared} {d : Addr} {es : Array DictEntry} {ep : Nat}
/-- the keys of a dict, gathered; the heap grows -/
theorem collect_dict {R : List Value → Shared → Prop} (lo : (d == sysModules) = false) (hh : A.handled = none) (raw : s.heap.DictRaw d es ep) (hn : es.size ≤ sizeLine)
    (hR : ∀ s1, Keeps s.heap s1.heap → s.heap.objs.size ≤ s1.heap.objs.size → s1.gens = s.gens → s1.os = s.os → R (es.toList.map (·.key)) s1) : wpAny (model P w) A (collect (.ref d)) R E s := by
  have src := KdlSrc.rawDict (prog := P) (w := w) (d := d) (es := es) (ep := ep) lo
  have lt := (src.there _ raw).1
  have ne : s.heap.objs.size ≠ d := Nat.ne_of_gt lt
  have fresh : (s.heap.push (seqObj "list" ([] : List Value).toArray 0)).get? s.heap.objs.size = some (seqObj "list" #[] 0) := Heap.get?_push_size _ rfl
  have told : ∀ (acc' : Array Value), ItemsOf (fun i v => ∃ hi : i < es.size, v = es[i].key) acc' es.size → acc'.toList = es.toList.map (·.key) := fun acc' items => by
    apply List.ext_getElem
    · rw [Array.length_toList, items.1, List.length_map, Array.length_toList]
    · intro i h1 h2
      have hi : i < acc'.size := by rw [Array.length_toList] at h1; exact h1
      obtain ⟨hj, e⟩ := items.2 i _ (Array.getElem?_eq_getElem hi)
      rw [Array.getElem_toList, List.getElem_map, Array.getElem_toList, e]
  unfold collect
  refine wpAny_bind (wpAny_runValue (codeAny_builtin entry_proto_collect' ?_))
  rw [Around.under_plainId PySem.F.plain_proto_collect _]
  show wpAny _ A.in1 (newList [] >>= fun l => again (.builtin "list.__iadd__" ⟨[l, .ref d], []⟩)) _ _ s
  refine wpAny_bind (wpAny_newObj_type (wpAny_pure ⟨plainId_quiet PySem.F.plain_list_iadd _, codeAny_builtin entry_list_iadd' ?_⟩))
  rw [Around.under_plainId PySem.F.plain_list_iadd _]
  show wpAny _ A.in1 (Builtin.List.listExtendWith (.ref s.heap.objs.size) (.ref d) (.ref s.heap.objs.size)) _ _ _
  have key := PySem.W.kdl_extend (A := A) (s := { s with heap := s.heap.push (seqObj "list" ([] : List Value).toArray 0) })
    (R := fun (q : Result) (s' : Shared) => ∃ (h' : Heap) (tk : Nat) (acc' : Array Value) (c' : Nat), q = .ok (.ret (.ref s.heap.objs.size)) ∧ s' = { s with heap := h', toks := tk } ∧ Keeps s.heap h' ∧
      h'.get? s.heap.objs.size = some (seqObj "list" acc' c') ∧ acc'.toList = es.toList.map (·.key))
    src hh (src.keep _ _ raw fun b _ o e => Heap.get?_push_of_some _ e) s.heap.objs.size ne ne (.ref s.heap.objs.size) 0 fresh
    (fun h' tk acc' c' k at1 items => ⟨h', tk, acc', c', rfl, rfl, fun b o e => k b o (Nat.ne_of_lt (Heap.lt_size e)) (Heap.get?_push_of_some _ e), at1, told acc' items⟩) hn
  have last : ∀ (q : Result) (s' : Shared), (∃ (h' : Heap) (tk : Nat) (acc' : Array Value) (c' : Nat), q = .ok (.ret (.ref s.heap.objs.size)) ∧ s' = { s with heap := h', toks := tk } ∧ Keeps s.heap h' ∧
      h'.get? s.heap.objs.size = some (seqObj "list" acc' c') ∧ acc'.toList = es.toList.map (·.key)) → ∃ h' tk, s' = { s with heap := h', toks := tk } ∧ q = .ok (.ret (.ref s.heap.objs.size)) ∧
      ∃ acc' c', h'.get? s.heap.objs.size = some (seqObj "list" acc' c') ∧ R acc'.toList s' := fun q s' ⟨h', tk, acc', c', e1, e2, k, at1, ea⟩ => by
    subst e2
    exact ⟨h', tk, rfl, e1, acc', c', at1, by rw [ea]; exact hR { s with heap := h', toks := tk } k (Nat.le_of_lt (Heap.lt_size at1)) rfl rfl⟩
  refine wpAny_mono key (fun f s' x => ?_) fun e s' x => ?_
  · cases f with
    | done f =>
      obtain ⟨h', tk, rfl, e, acc', c', at1, q⟩ := last _ _ x
      cases e
      show wpAny _ A (load s.heap.objs.size >>= _) _ _ _
      exact wpAny_bind (wpAny_load at1 (wpAny_pure q))
    | again c₁ =>
      refine ⟨x.1, codeAny_mono x.2 fun q s₂ y => ?_⟩
      obtain ⟨h', tk, rfl, rfl, acc', c', at1, q⟩ := last _ _ y
      show wpAny _ A (load s.heap.objs.size >>= _) _ _ _
      exact wpAny_bind (wpAny_load at1 (wpAny_pure q))
  · obtain ⟨h', tk, e, q, _⟩ := last _ _ x
    cases q
end
theorem refs_vals : ∀ {l : List Addr} {us : List Value}, Vals (l.map V.ref) us → us = l.map Value.ref
  | [], _, h => by rw [List.map_nil] at h; cases h; rfl
  | a :: l, _, h => by
    rw [List.map_cons] at h
    cases h with
    | cons r t =>
      cases r
      rw [List.map_cons, refs_vals t]
theorem vals_refs : ∀ (l : List Addr), Vals (l.map V.ref) (l.map Value.ref)
  | [] => .nil
  | a :: l => .cons rfl (vals_refs l)
section
variable {X : Cx} {pins : List (Addr × Obj)} {σ : L2.St} {H : Hp} {s : Shared} {a : Addr}
theorem pair2_at (I : Inv X pins σ H s) {p : Addr} {x y : Str} (h : SqT X.K H p [.str x, .str y]) : Pair2 s.heap (.ref p) (x, y) := by
  obtain ⟨its, r, ⟨o, ho, hc, n, hd⟩, _⟩ := I.tuple h
  cases r with
  | cons r1 t => cases t with
    | cons r2 t2 =>
      cases t2
      obtain ⟨t1, rfl⟩ := r1
      obtain ⟨t2, rfl⟩ := r2
      exact ⟨p, o, t1, t2, n, rfl, ho, hc, hd⟩
/-- sorted(xs), xs a list of tuples of two texts -/
def rSortedTT (K : PySem.W.Frag) : List V → Hp → VK → Prop := fun vs H Q => ∃ (a : Addr) (ps : List (Addr × Str × Str)), vs = [V.ref a] ∧ SqL K H a ((ps.map (·.1)).map V.ref) ∧ (∀ p ∈ ps, SqT K H p.1 [.str p.2.1, .str p.2.2]) ∧
  ∀ (qs : List (Addr × Str × Str)) (p : Addr), qs.Perm ps → UpP (qs.map (·.2)) → H p = none → Q (.ref p) (upd H p (.lst ((qs.map (·.1)).map V.ref)))
theorem zip_pairs (ps : List (Addr × Str × Str)) : ((ps.map (·.1)).map Value.ref).zip (ps.map (·.2)) = ps.map fun p => (Value.ref p.1, p.2) := by
  induction ps with
  | nil => rfl
  | cons p ps ih => simp only [List.map_cons, List.zip_cons_cons, ih]
theorem paired_ps {h : Heap} : ∀ {ps : List (Addr × Str × Str)}, (∀ p ∈ ps, Pair2 h (.ref p.1) p.2) → Paired (Pair2 h) ((ps.map (·.1)).map Value.ref) (ps.map (·.2))
  | [], _ => .nil
  | p :: ps, h => .cons (h p List.mem_cons_self) (paired_ps fun q hq => h q (List.mem_cons_of_mem _ hq))
theorem pair2_keep {h h' : Heap} {v : Value} {p : Str × Str} (k : Keeps h h') (x : Pair2 h v p) : Pair2 h' v p := by
  obtain ⟨a, o, t, u, n, e, ho, r⟩ := x
  exact ⟨a, o, t, u, n, e, k _ _ ho, r⟩
theorem paired_keep {h h' : Heap} (k : Keeps h h') {vs : List Value} {ps : List (Str × Str)} (x : Paired (Pair2 h) vs ps) : Paired (Pair2 h') vs ps := L2.Paired.mapP x fun _ _ q => pair2_keep k q
/-- sorted(r), which gathers into the tuples at ps -/
theorem sorted_tt {r : Value} {ps : List (Addr × Str × Str)} {Q : VK} (I : Inv X pins σ H s) (hps : ∀ p ∈ ps, Pair2 s.heap (.ref p.1) p.2) (hL : ps.length ≤ sizeLine)
    (hcol : ∀ (R : List Value → Shared → Prop) (E' : Value → Shared → Prop), (∀ s1, Keeps s.heap s1.heap → s.heap.objs.size ≤ s1.heap.objs.size → s1.gens = s.gens → s1.os = s.os → R ((ps.map (·.1)).map Value.ref) s1) → wpAny (model X.prog X.w) X.A.in1 (collect r) R E' s)
    (hQ : ∀ (qs : List (Addr × Str × Str)) (p : Addr), qs.Perm ps → UpP (qs.map (·.2)) → H p = none → Q (.ref p) (upd H p (.lst ((qs.map (·.1)).map V.ref)))) :
    wpAny (model X.prog X.w) X.A (call (.builtin "sorted") [r]) (EP X pins σ Q) X.xe s := by
  have hl : ((ps.map (·.1)).map Value.ref).length ≤ sizeLine := by simpa using hL
  refine sorted_frame (Good := fun out => ∃ qs : List (Addr × Str × Str), out.toList = (qs.map (·.1)).map Value.ref ∧ qs.Perm ps ∧ UpP (qs.map (·.2))) hl hcol (fun s2 a n A' E' Pf k2 ho hP => ?_) fun s' p out c k g o z hp ⟨qs, h1, h2, h3⟩ => ?_
  · refine list_sort_pairs ho (paired_keep k2 (paired_ps hps)) hl fun out vps h1 h2 h3 => hP out ?_
    rw [zip_pairs] at h2
    obtain ⟨qs, e, pm⟩ := perm_of_map h2
    refine ⟨qs, ?_, pm, ?_⟩
    · rw [h1, e, List.map_map, List.map_map]; rfl
    · rw [e, List.map_map] at h3; exact h3
  · have len : ((qs.map (·.1)).map V.ref).length ≤ sizeLine := by rw [List.length_map, List.length_map, h2.length_eq]; exact hL
    have J := Inv.new_at I (o := .lst ((qs.map (·.1)).map V.ref)) k g o z ⟨len, out.toList, c, by rw [h1]; exact vals_refs _, hp⟩
    exact ⟨.ref p, _, J, rfl, hQ qs p h2 h3 (I.hok.fresh z)⟩
theorem cr_sortedTT : CallR X (.builtin "sorted") (rSortedTT X.K) := by
  intro pins s σ H vs us Q I r h
  obtain ⟨a, ps, rfl, hs, he, q⟩ := h
  rw [Vals.ref1 r]
  obtain ⟨its, rv, pl, hz⟩ := I.list hs
  have e := refs_vals rv
  have hz' : ps.length ≤ sizeLine := by simpa using hz
  refine sorted_tt I (fun p hp => pair2_at I (he p hp)) hz' (fun R E' hR => ?_) q
  have hl : s.heap.IsList a its.toArray := pl.isList
  rw [e] at hl
  exact collect_list hl (hR _ (fun b o e => by rw [Heap.get?_update_other _ _ (Nat.ne_of_gt (Heap.lt_size e))]; exact Heap.get?_push_of_some _ e) (by simp [Heap.size_update, size_push']) rfl rfl)
/-- sorted(d), d a dict whose keys are tuples of two texts -/
def rSortedDT : List V → Hp → VK → Prop := fun vs H Q => ∃ (a : Addr) (kvs : List (List Key × V)) (prs : List (Str × Str)), vs = [V.ref a] ∧ Rd H a (.dT kvs) ∧ kvs.map (·.1) = prs.map (fun p => [.inr p.1, .inr p.2]) ∧
  ∀ (qs : List (Addr × Str × Str)) (p : Addr), (qs.map (·.2)).Perm prs → UpP (qs.map (·.2)) → (∀ q ∈ qs, H q.1 = some (.tup [.str q.2.1, .str q.2.2])) → H p = none → Q (.ref p) (upd H p (.lst ((qs.map (·.1)).map V.ref)))
/-- the tuples that are the keys, told by a dict's table -/
theorem keys_told {H : Hp} : ∀ {kvs : List (List Key × V)} {xs : List (List Key × Addr × Value)} {prs : List (Str × Str)},
    Paired (fun (p : List Key × V) (q : List Key × Addr × Value) => p.1 = q.1 ∧ H q.2.1 = some (.tup (p.1.map kV)) ∧ RelV p.2 q.2.2) kvs xs → kvs.map (·.1) = prs.map (fun p => [.inr p.1, .inr p.2]) →
    ∃ ps : List (Addr × Str × Str), xs.map (fun x => x.2.1) = ps.map (·.1) ∧ ps.map (·.2) = prs ∧ ∀ p ∈ ps, H p.1 = some (.tup [.str p.2.1, .str p.2.2])
  | _, _, prs, .nil, e => by
    cases prs with
    | nil => exact ⟨[], rfl, rfl, fun p h => nomatch h⟩
    | cons _ _ => cases e
  | _, _, prs, .cons r t, e => by
    cases prs with
    | nil => cases e
    | cons pr prs =>
      rw [List.map_cons, List.map_cons] at e
      injection e with e1 e2
      obtain ⟨ps, q1, q2, q3⟩ := keys_told t e2
      obtain ⟨r1, r2, r3⟩ := r
      refine ⟨(_, pr) :: ps, by rw [List.map_cons, List.map_cons, q1], by rw [List.map_cons, q2], fun p hp => ?_⟩
      rcases List.mem_cons.mp hp with z | z
      · rw [z]
        rw [e1] at r2
        exact r2
      · exact q3 p z
theorem cr_sortedDT (hc : X.calm = true) : CallR X (.builtin "sorted") rSortedDT := by
  intro pins s σ H vs us Q I r h
  obtain ⟨a, kvs, prs, rfl, hd, ek, q⟩ := h
  rw [Vals.ref1 r]
  obtain ⟨z, lo, xs, rel, o, es, ep, ho, hx, hdat, hes, nd⟩ := (show ObjOk X.prog X.w H s.heap a (.dT kvs) from rd_of I.hok hd)
  obtain ⟨ps, e1, e2, e3⟩ := keys_told rel ek
  have len : ps.length ≤ sizeLine := by
    have l1 := congrArg List.length e1
    have l2 := PySem.Paired.length rel
    simp only [List.length_map] at l1
    omega
  have raw : s.heap.DictRaw a es ep := ⟨o, ho, hx, hdat⟩
  have sz : es.size = ps.length := by
    have l1 := congrArg List.length e1
    have l3 := congrArg List.length hes
    simp only [List.length_map, Array.length_toList] at l1 l3
    omega
  refine sorted_tt I (fun p hp => pair2_at I (.of (e3 p hp))) len (fun R E' hR => ?_) fun qs p pm up hn => q qs p (by rw [← e2]; exact pm.map _) up (fun w hw => e3 w (pm.mem_iff.mp hw)) hn
  have ea : es.toList.map (·.key) = (ps.map (·.1)).map Value.ref := by
    rw [hes, List.map_map, ← e1, List.map_map]
    rfl
  refine collect_dict lo (I.ok.hd hc) raw (by rw [sz]; exact len) fun s1 k z1 g1 o1 => ?_
  rw [ea]
  exact hR s1 k z1 g1 o1
end
end Q9
end
-- QTop
section
set_option maxRecDepth 100000
set_option maxHeartbeats 4000000
namespace Q9
open PySem L2
def top (i : Nat) : Stmt := PySem.Challenge.pw_rightstate_k07_programs_refused.main.body.getD i (.Pass ⟨0, 0, 0, 0⟩)
abbrev sIsRow : Stmt := top 4
abbrev sIsName : Stmt := top 5
abbrev sIsError : Stmt := top 6
abbrev sIsWord : Stmt := top 7
abbrev sUnlike : Stmt := top 8
abbrev sUnlikeE : Stmt := top 9
abbrev sIsPart : Stmt := top 10
abbrev rMeth (i : Nat) : Stmt := inClass (top 17) i
abbrev sIBadKind : Stmt := inClass (top 20) 0
abbrev sIBadProgram : Stmt := inClass (top 21) 0
abbrev sINoFunction : Stmt := inClass (top 22) 0
abbrev sIsKey : Stmt := top 28
abbrev sAreRows : Stmt := top 29
abbrev sPairs : Stmt := top 31
abbrev sRight : Stmt := top 32
abbrev sRead : Stmt := top 33
abbrev sCheckP : Stmt := top 34
abbrev kMeth (i : Nat) : Stmt := inClass (top 35) i
abbrev sAreKinds : Stmt := top 36
abbrev sIsFun : Stmt := top 41
abbrev sCounts : Stmt := top 42
abbrev qMeth (i : Nat) : Stmt := inClass (top 43) i
abbrev sReadP : Stmt := top 44
abbrev pMeth (i : Nat) : Stmt := inClass (top 45) i
abbrev sSource : Stmt := top 47
abbrev sDraw : Stmt := top 48
abbrev sPick : Stmt := top 49
abbrev sWords : Stmt := top 50
abbrev sSaid : Stmt := top 51
abbrev sOddF : Stmt := top 52
abbrev sLaw : Stmt := top 53
end Q9
end
-- QLaw
section
set_option maxRecDepth 100000
set_option maxHeartbeats 4000000
namespace Q9
open PySem L2
/-! ### the source of numbers -/
/-- a source: three numbers from 0 on -/
def Well (H : Hp) (l : Addr) : Prop := ∃ a b c : Int, H l = some (.lst [.int a, .int b, .int c]) ∧ 0 ≤ a ∧ 0 ≤ b ∧ 0 ≤ c
def spSource : Sp := fun vs H Q _ => ∃ z : Int, vs = [.int z] ∧ ∀ (l : Addr) (w : HO), H l = none → Well (upd H l w) l → Q (.ref l) (upd H l w)
def spDraw : Sp := fun vs H Q _ => ∃ (l : Addr) (m : Int), vs = [.ref l, .int m] ∧ Well H l ∧ 0 < m ∧ m < 1073741824 ∧ ∀ (r : Int) (w : HO), 0 ≤ r → r < m → Well (upd H l w) l → Q (.int r) (upd H l w)
def spPick (K : PySem.W.Frag) : Sp := fun vs H Q _ => ∃ (l m : Addr) (xs : List V), vs = [.ref l, .ref m] ∧ Well H l ∧ SqL K H m xs ∧ 0 < xs.length ∧ xs.length < 1073741824 ∧
  ∀ (x : V) (w : HO), x ∈ xs → Well (upd H l w) l → Q x (upd H l w)
structure TLaw (K : PySem.W.Frag) (mg : Str → Option Value) (fD : Addr) : Prop where
  int : mg "int" = none
  len : mg "len" = none
  gD : mg "_law_draw" = some (.ref fD)
  kD : PySem.W.keepIn K (.ref fD) = true
section
variable {P : Program} {w : World} {K : PySem.W.Frag} {mg : Str → Option Value} {base : Heap} {fD : Addr}
theorem scS : FnScope ["_law_cell", "_law_number"] ["_law_cell"] (defScope sSource) := ⟨rfl, rfl, rfl, by decide +kernel, rfl, by decide +kernel, by decide +kernel⟩
theorem ok_source {f : Addr} {fd : FuncData} (F : Fun K "_law_source" "_law_source" sSource f fd) (T : TLaw K mg fD) : FnOk P w K mg base CX0 1 f fd ["_law_cell"] spSource := by
  refine F.ok scS (fun vs H Q E h => ?_) (fun cdv A outer s H vs Q E hr h => ?_)
  · obtain ⟨z, rfl, _⟩ := h
    rfl
  · obtain ⟨z, rfl, k⟩ := h
    refine ⟨_, pss_cons (ps_set (i := 1) scS.nd rfl (.inl rfl) (pe_ifExp (pt_cmpR op_ge (pv 0) pe_int (nomark _)) (pv 0) (pe_op op_sub (pe_op op_sub pe_int (pe_op op_mul pe_int (pv 0))) pe_int)))
      (pss_one (ps_ret (pe_lst (pa_cons (pe_op op_mul (pv 1) (pe_callTy call_int1 (by rfl) T.int (by decide +kernel) (pa_cons (pe_cmpR op_ge (pv 1) (pe_op op_pow pe_int pe_int) (nomark _)) pa_nil)))
        (pa_cons (pe_op op_mod (pe_callTy call_int1 (by rfl) T.int (by decide +kernel) (pa_cons (pv 1) pa_nil)) pe_int) (pa_cons pe_int pa_nil)))))), ?_⟩
    refine ⟨_, rfl, _, _, rfl, rfl, _, rfl, ?_⟩
    -- both ways: a number from 0 on, then the list of three
    have fin : ∀ n : Int, 0 ≤ n → ∀ p, H p = none → Q (.ref p) (upd H p (.lst [.int (n * (if decide (10 ^ (18 : Int).toNat ≤ n) = true then 1 else 0)), .int (n % 2147483629), .int 0])) := fun n hn p hp =>
      k p _ hp ⟨_, _, _, upd_same, by split <;> omega, Int.emod_nonneg _ (by decide), Int.le_refl _⟩
    refine ite2 (fun c => ?_) (fun c => ?_)
    · refine ⟨_, rfl, _, rfl, _, rfl, _, _, rfl, rfl, ⟨by decide, by decide, by decide⟩, _, _, rfl, rfl, .inr ⟨_, rfl, _, _, rfl, rfl, .inr (by split <;> decide), _, rfl, .inl ⟨_, rfl, _, _, rfl, rfl, (by show (0 : Int) < 2147483629; decide), ?_⟩⟩⟩
      exact ⟨by show 3 ≤ sizeLine; decide, fun p hp => fin z (by simpa using c) p hp⟩
    · have c' : ¬ 0 ≤ z := by simpa using c
      refine ⟨_, rfl, _, _, rfl, rfl, .inl ⟨by decide, by decide⟩, _, _, rfl, rfl, _, _, rfl, rfl, ?_⟩
      refine ⟨_, rfl, _, rfl, _, _, rfl, rfl, ⟨by decide, by decide, by decide⟩, _, _, rfl, rfl, .inr ⟨_, rfl, _, _, rfl, rfl, .inr (by split <;> decide), _, rfl, .inl ⟨_, rfl, _, _, rfl, rfl, (by show (0 : Int) < 2147483629; decide), ?_⟩⟩⟩
      exact ⟨by show 3 ≤ sizeLine; decide, fun p hp => fin (0 - 3 * z - 1) (by omega) p hp⟩
theorem scD : FnScope ["_law_well", "_law_many", "_law_found", "_law_number"] ["_law_well", "_law_many"] (defScope sDraw) := ⟨rfl, rfl, rfl, by decide +kernel, rfl, by decide +kernel, by decide +kernel⟩
theorem ok_draw {f : Addr} {fd : FuncData} (F : Fun K "_law_draw" "_law_draw" sDraw f fd) (T : TLaw K mg fD) : FnOk P w K mg base CX0 1 f fd ["_law_well", "_law_many"] spDraw := by
  refine F.ok scD (fun vs H Q E h => ?_) (fun cdv A outer s H vs Q E hr h => ?_)
  · obtain ⟨l, m, rfl, _⟩ := h
    rfl
  · obtain ⟨l, m, rfl, ⟨a, b, c, hl, ha, hb, hc⟩, m0, m1, k⟩ := h
    refine ⟨_, pss_cons (ps_if (pt_cmpR op_gt (pe_ix ix_list (pv 0) pe_int (fun _ _ => rfl)) pe_int (nomark _))
        (pss_cons (ps_set (i := 2) scD.nd rfl (.inl rfl) (pe_op op_mod (pe_callTy call_int1 (by rfl) T.int (by decide +kernel) (pa_cons (pe_ix ix_list (pv 0) pe_int (fun _ _ => rfl)) pa_nil)) (pv 1)))
        (pss_cons (ps_asg (pe_op op_fdiv (pe_ix ix_list (pv 0) pe_int (fun _ _ => rfl)) (pv 1)) (pg_sub (pv 0) pe_int set_list))
        (pss_one (ps_ret (pv 2))))) pss_nil)
      (pss_cons (ps_asg (pe_op op_add (pe_ix ix_list (pv 0) pe_int (fun _ _ => rfl)) pe_int) (pg_sub (pv 0) pe_int set_list))
      (pss_cons (ps_set (i := 3) scD.nd rfl (.inl rfl) (pe_op op_mod (pe_callTy call_int1 (by rfl) T.int (by decide +kernel) (pa_cons
        (pe_op op_mul (pe_op op_add (pe_op op_add (pe_ix ix_list (pv 0) pe_int (fun _ _ => rfl)) (pe_op op_mul pe_int (pe_ix ix_list (pv 0) pe_int (fun _ _ => rfl)))) pe_int) pe_int) pa_nil)) pe_int))
      (pss_cons (ps_set (i := 3) scD.nd rfl (.inl rfl) (pe_op op_mod (pe_callTy call_int1 (by rfl) T.int (by decide +kernel) (pa_cons
        (pe_op op_mul (pv 3) (pe_op op_add (pe_op op_add (pe_op op_fdiv (pv 3) pe_int) pe_int) (pe_ix ix_list (pv 0) pe_int (fun _ _ => rfl)))) pa_nil)) pe_int))
      (pss_one (ps_ret (pe_op op_mod (pe_callTy call_int1 (by rfl) T.int (by decide +kernel) (pa_cons
        (pe_op op_fdiv (pe_op op_mod (pe_callTy call_int1 (by rfl) T.int (by decide +kernel) (pa_cons (pe_op op_mul (pv 3) (pe_op op_add (pe_op op_fdiv (pv 3) pe_int) pe_int)) pa_nil)) pe_int) pe_int) pa_nil)) (pv 1))))))), ?_⟩
    refine ⟨_, rfl, l, _, _, _, rfl, rfl, SqL.of hl, atI_nat (j := 0) rfl, _, _, rfl, rfl, _, rfl, ?_⟩
    refine ite2 (fun c0 => ?_) (fun c0 => ?_)
    · refine ⟨_, rfl, l, _, _, _, rfl, rfl, SqL.of hl, atI_nat (j := 0) rfl, .inl ⟨_, rfl, _, rfl, _, _, rfl, rfl, m0, ?_⟩⟩
      refine ⟨_, rfl, l, _, _, _, rfl, rfl, SqL.of hl, atI_nat (j := 0) rfl, _, rfl, _, _, rfl, rfl, ⟨m0, m1⟩, ?_⟩
      refine ⟨_, rfl, l, _, _, 0, rfl, rfl, hl, rfl, ?_⟩
      exact ⟨_, rfl, k _ _ (Int.emod_nonneg _ (by omega)) (Int.emod_lt_of_pos _ m0) ⟨_, _, _, upd_same, Int.ediv_nonneg ha (by omega), hb, hc⟩⟩
    · refine ⟨_, rfl, l, _, _, _, rfl, rfl, SqL.of hl, atI_nat (j := 2) rfl, _, _, rfl, rfl, _, rfl, l, _, _, 2, rfl, rfl, hl, rfl, ?_⟩
      generalize hH : upd H l _ = H1
      have h1 : H1 l = some (.lst [.int a, .int b, .int (c + 1)]) := by rw [← hH]; exact upd_same
      refine ⟨_, rfl, l, _, _, _, rfl, rfl, SqL.of h1, atI_nat (j := 1) rfl, _, rfl, l, _, _, _, rfl, rfl, SqL.of h1, atI_nat (j := 2) rfl, _, _, rfl, rfl, .inl ⟨by decide, by decide⟩, _, _, rfl, rfl, _, _, rfl, rfl, _, _, rfl, rfl, .inr ⟨by decide, by decide⟩,
        .inl ⟨_, rfl, _, _, rfl, rfl, (by show (0 : Int) < 2147483647; decide), ?_⟩⟩
      generalize hn : (b + 104729 * (c + 1) + 11) * 48271 % 2147483647 = n
      have n0 : 0 ≤ n := by omega
      have n1 : n < 2147483647 := by omega
      refine ⟨_, rfl, _, rfl, _, _, rfl, rfl, ⟨by decide, by decide⟩, _, _, rfl, rfl, _, rfl, l, _, _, _, rfl, rfl, SqL.of h1, atI_nat (j := 2) rfl, _, _, rfl, rfl, _, _, rfl, rfl, .inl ⟨by omega, by omega⟩,
        .inl ⟨_, rfl, _, _, rfl, rfl, (by show (0 : Int) < 2147483587; decide), ?_⟩⟩
      generalize hn2 : n * (n / 1009 + 69621 + (c + 1)) % 2147483587 = n2
      have n3 : 0 ≤ n2 := by rw [← hn2]; exact Int.emod_nonneg _ (by decide)
      have n4 : n2 < 2147483587 := by rw [← hn2]; exact Int.emod_lt_of_pos _ (by decide)
      refine ⟨_, rfl, _, rfl, _, _, rfl, rfl, ⟨by decide, by decide⟩, _, _, rfl, rfl, _, _, rfl, rfl, .inl ⟨by omega, by omega⟩, .inl ⟨_, rfl, _, _, rfl, rfl, (by show (0 : Int) < 2147483563; decide), _, _, rfl, rfl, ⟨by decide, by decide⟩,
        .inl ⟨_, rfl, _, rfl, _, _, rfl, rfl, m0, ?_⟩⟩⟩
      rw [← hH]
      exact k _ _ (Int.emod_nonneg _ (by omega)) (Int.emod_lt_of_pos _ m0) ⟨_, _, _, upd_same, ha, hb, by omega⟩
end
end Q9
end
-- QForms
section
set_option maxRecDepth 100000
set_option maxHeartbeats 4000000
namespace Q9
open PySem L2
/-! ### the mirror -/
abbrev Letters : Str := "abcdefghijklmnopqrstuvwxyz"
abbrev Capitals : Str := "ABCDEFGHIJKLMNOPQRSTUVWXYZ"
def nameB (z : Str) : Bool := decide ((z.length : Int) ≤ 8) && (Txt.isascii z && (Txt.isalpha z && Txt.islower z))
def errorB (z : Str) : Bool := decide ((z.length : Int) ≤ 8) && (Txt.isascii z && (Txt.isalpha z && Txt.isupper z))
def wordB (z : Str) : Bool := errorB z || (decide (z = "yes") || decide (z = "no"))
/-! ### the promises: each new heap has all that stood -/
/-- x is a list or a tuple of xs -/
def Row (K : PySem.W.Frag) (H : Hp) (x : V) (xs : List V) : Prop := ∃ a, x = .ref a ∧ (SqL K H a xs ∨ SqT K H a xs)
/-- x is of the built-in type T, or whatever t -/
def OfTy (K : PySem.W.Frag) (H : Hp) (x : V) (T : String) (b : Bool) : Prop := ∃ t, TyX K H x t ∧ PySem.W.kitOne K t (.type T) = some b
def spIsRow (K : PySem.W.Frag) : Sp := fun vs H Q _ => ∃ x, vs = [x] ∧ ((∃ xs, Row K H x xs ∧ ∀ H', Same H H' → Q (.bl true) H') ∨ ∃ t, TyX K H x t ∧ PySem.W.kitOne K t (.type "list") = some false ∧ PySem.W.kitOne K t (.type "tuple") = some false ∧ ∀ H', Same H H' → Q (.bl false) H')
structure TForm (K : PySem.W.Frag) (mg : Str → Option Value) (fRow : Addr) : Prop where
  isi : mg "isinstance" = none
  lst : mg "list" = none
  tup : mg "tuple" = none
  str : mg "str" = none
  len : mg "len" = none
  all : mg "all" = none
  set : mg "set" = none
  most : ∃ t, mg "MOST_SIGNS" = some (.int 8 t)
  gRow : mg "is_row" = some (.ref fRow)
  kRow : PySem.W.keepIn K (.ref fRow) = true
theorem row_up {K : PySem.W.Frag} {H H' : Hp} {x : V} {xs : List V} (s : Same H H') (r : Row K H x xs) : Row K H' x xs := by
  obtain ⟨a, e, r⟩ := r
  refine ⟨a, e, r.imp (fun h => s.seq h) fun h => ?_⟩
  rcases h with (h | ⟨o, h⟩) | h
  · exact .inl (.inl (s _ _ h))
  · exact .inl (.inr ⟨o, s _ _ h⟩)
  · exact .inr h
theorem same_upd {H : Hp} {p : Addr} {o : HO} (h : H p = none) : Same H (upd H p o) := fun b u e => by rw [upd_ne (ne_of_none e h)]; exact e
/-! ### a row walked, be it a list or a tuple -/
def iRow (K : PySem.W.Frag) (tl : TE) : TI := fun σ H R => tl σ H fun x H1 => ∃ xs, Row K H1 x xs ∧ ∀ (J : It) (G : Hp → Prop), (∀ H', Same H1 H' → G H') → Walk J xs.length G (YAt xs) → R J H1
theorem pi_row {X : Cx} {tg l : Expr} {tl : TE} (hl : PE X l tl) : PI X tg l (iRow X.K tl) := by
  refine ⟨fun pins s σ H R I h => ?_⟩
  refine thn (hl.run pins s σ H _ I h) fun v s1 ⟨x, H1, I1, r1, xs, ⟨a, e, hq⟩, q⟩ => ?_
  subst e
  cases r1
  have one : ∀ b ∈ [s1.heap.objs.size], FpOk X pins H1 b := fun b hb => by
    obtain rfl : b = s1.heap.objs.size := by simpa using hb
    exact I1.fpOk (Nat.le_refl _) (I1.hok.fresh (Nat.le_refl _))
  rcases hq with hq | hq
  · obtain ⟨its, rv, p, hz⟩ := I1.list hq
    exact PySem.wpAny_pyIter_list p.isList ⟨s1.heap.objs.size, [s1.heap.objs.size], _, _, H1, rfl, I1.kept (t' := s1.toks) fun b o e => Heap.get?_push_of_some _ e, turn_list a _, ⟨_, Heap.get?_push_size _ rfl, rfl, rfl⟩, one,
      q _ (fun H' => SqL X.K H' a xs) (fun H' s => s.seq hq) walk_list⟩
  · obtain ⟨its, rv, p, hz⟩ := I1.tuple hq
    refine PySem.wpAny_pyIter_tuple (show s1.heap.IsTuple a its.toArray from p) ⟨s1.heap.objs.size, [s1.heap.objs.size], _, _, H1, rfl, I1.kept (t' := s1.toks) fun b o e => Heap.get?_push_of_some _ e, turn_tuple a _, ⟨_, Heap.get?_push_size _ rfl, rfl, rfl⟩, one,
      q _ (fun H' => SqT X.K H' a xs) (fun H' s => ?_) walk_tup⟩
    rcases hq with (h | ⟨o, h⟩) | h
    · exact .inl (.inl (s _ _ h))
    · exact .inl (.inr ⟨o, s _ _ h⟩)
    · exact .inr h
/-- len of a list or a tuple -/
def rLenRow (K : PySem.W.Frag) : List V → Hp → VK → Prop := fun vs H Q => ∃ (x : V) (xs : List V), vs = [x] ∧ Row K H x xs ∧ Q (.int xs.length) H
theorem cr_lenRow {X : Cx} : CallR X (.builtin "len") (rLenRow X.K) := by
  intro pins s σ H vs us Q I r h
  obtain ⟨x, xs, rfl, ⟨a, rfl, hq⟩, q⟩ := h
  exact call_len_seq pins s σ H _ us Q I r ⟨a, xs, rfl, hq, q⟩
/-! ### how many unlike ones -/
theorem nodup_le {α : Type} [DecidableEq α] : ∀ (ks l : List α), ks.Nodup → (∀ k ∈ ks, k ∈ l) → ks.length ≤ l.length
  | [], _, _, _ => Nat.zero_le _
  | k :: ks, l, nd, sub => by
    obtain ⟨h1, h2⟩ := List.nodup_cons.mp nd
    have hk := sub k List.mem_cons_self
    have ih := nodup_le ks (l.erase k) h2 fun j hj => (List.mem_erase_of_ne (fun (e : j = k) => h1 (e ▸ hj))).mpr (sub j (List.mem_cons_of_mem _ hj))
    rw [List.length_erase_of_mem hk] at ih
    have := List.length_pos_of_mem hk
    rw [List.length_cons]
    omega
theorem shorter {α : Type} [DecidableEq α] : ∀ l : List α, ¬ l.Nodup → ∃ l' : List α, (∀ k ∈ l, k ∈ l') ∧ l'.length < l.length
  | [], h => (h List.nodup_nil).elim
  | x :: r, h => by
    by_cases hx : x ∈ r
    · exact ⟨r, fun k hk => (List.mem_cons.mp hk).elim (fun e => e ▸ hx) id, Nat.lt_succ_self _⟩
    · obtain ⟨r', h1, h2⟩ := shorter r fun nd => h (List.nodup_cons.mpr ⟨hx, nd⟩)
      exact ⟨x :: r', fun k hk => (List.mem_cons.mp hk).elim (fun e => e ▸ List.mem_cons_self) fun z => List.mem_cons_of_mem _ (h1 k z), by simpa using h2⟩
/-- as many unlike ones as there are: no one twice -/
theorem unlike_len {α : Type} [DecidableEq α] {ks l : List α} (nd : ks.Nodup) (e : ∀ k, k ∈ ks ↔ k ∈ l) : ks.length = l.length ↔ l.Nodup := by
  constructor
  · intro h
    by_cases n : l.Nodup
    · exact n
    · obtain ⟨l', h1, h2⟩ := shorter l n
      have := nodup_le ks l' nd fun k hk => h1 k ((e k).1 hk)
      omega
  · intro n
    exact Nat.le_antisymm (nodup_le ks l nd fun k hk => (e k).1 hk) (nodup_le l ks n fun k hk => (e k).2 hk)
theorem fewIn_of_len {l : List Key} (h : l.length + 1 < scanBound) : FewIn l := fun ks nd sub => Nat.lt_of_le_of_lt (Nat.succ_le_succ (nodup_le ks l nd sub)) h
theorem nodup_map_inr (ss : List Str) : (ss.map (Sum.inr : Str → Key)).Nodup ↔ ss.Nodup := by
  constructor
  · intro h
    exact List.Pairwise.of_map _ (fun _ _ ne e => ne (congrArg _ e)) h
  · intro h
    exact List.Pairwise.map _ (fun _ _ ne e => ne (Sum.inr.inj e)) h
section
variable {P : Program} {w : World} {K : PySem.W.Frag} {mg : Str → Option Value} {base : Heap} {fRow : Addr}
theorem row_ty {H : Hp} {x : V} {xs : List V} (r : Row K H x xs) : TyX K H x (.type "list") ∨ TyX K H x (.type "tuple") := by
  obtain ⟨a, rfl, r | r⟩ := r
  · left
    rcases r with (h | ⟨o, h⟩) | ⟨o, its, n, h1, h2, _⟩
    · exact .base (.lst h)
    · exact .base (.frz h)
    · exact .kList h1 h2
  · right
    rcases r with (h | ⟨o, h⟩) | ⟨o, its, n, h1, h2, _⟩
    · exact .base (.tup h)
    · exact .fTuple h
    · exact .kTuple h1 h2
theorem same_ty {H H' : Hp} {x : V} {t : Value} (s : Same H H') (ty : TyX K H x t) : TyX K H' x t := by
  cases ty with
  | base b => exact .base (by
      cases b with
      | non => exact .non
      | bl y => exact .bl y
      | int i => exact .int i
      | str y => exact .str y
      | flt y => exact .flt y
      | lst e => exact .lst (s _ _ e)
      | frz e => exact .frz (s _ _ e)
      | tup e => exact .tup (s _ _ e)
      | dK e => exact .dK (s _ _ e)
      | dT e => exact .dT (s _ _ e)
      | ins e cl ha hn htk hm => exact .ins (s _ _ e) cl ha hn htk hm)
  | byt b => exact .byt b
  | set e => exact .set (s _ _ e)
  | kList e c => exact .kList e c
  | kTuple e c => exact .kTuple e c
  | kDict e c => exact .kDict e c
  | fTuple e => exact .fTuple (s _ _ e)
  | fDict e => exact .fDict (s _ _ e)
theorem scRow : FnScope ["thing"] ["thing"] (defScope sIsRow) := ⟨rfl, rfl, rfl, by decide +kernel, rfl, by decide +kernel, by decide +kernel⟩
theorem ok_row {f : Addr} {fd : FuncData} (F : Fun K "is_row" "is_row" sIsRow f fd) (T : TForm K mg fRow) : FnOk P w K mg base CX0 1 f fd ["thing"] (spIsRow K) := by
  refine F.ok scRow (fun vs H Q E h => ?_) (fun cdv A outer s H vs Q E hr h => ?_)
  · obtain ⟨x, rfl, _⟩ := h
    rfl
  · obtain ⟨x, rfl, h⟩ := h
    refine ⟨_, pss_one (ps_ret (pe_callB call_isiT (by rfl) T.isi (by decide +kernel) (pa_cons (pv 0) (pa_cons (pe_tup (pa_cons (pe_bltn (v := .ty "list") (by rfl) T.lst (by decide +kernel) rfl) (pa_cons (pe_bltn (v := .ty "tuple") (by rfl) T.tup (by decide +kernel) rfl) pa_nil))) pa_nil)))), ?_⟩
    refine ⟨_, rfl, (by show 2 ≤ sizeLine; decide), fun t ht => ?_⟩
    have sm := same_upd (o := .tup [.ty "list", .ty "tuple"]) ht
    have pr : Paired ClsV [V.ty "list", V.ty "tuple"] [Value.type "list", Value.type "tuple"] := .cons (.ty _) (.cons (.ty _) .nil)
    rcases h with ⟨xs, r, q⟩ | ⟨tt, ty, e1, e2, q⟩
    · rcases row_ty r with ty | ty
      · exact ⟨x, t, _, _, _, true, rfl, upd_same, pr, same_ty sm ty, kitAny_cons (b := true) (kit_ty (by decide +kernel)) (fun z => nomatch z) fun _ => rfl, q _ sm⟩
      · exact ⟨x, t, _, _, _, true, rfl, upd_same, pr, same_ty sm ty, kitAny_cons (b := false) (kit_ty (by decide +kernel)) (fun _ => kitAny_cons (b := true) (kit_ty (by decide +kernel)) (fun z => nomatch z) fun _ => rfl) (fun z => nomatch z), q _ sm⟩
    · exact ⟨x, t, _, _, _, false, rfl, upd_same, pr, same_ty sm ty, kitAny_cons e1 (fun _ => kitAny_cons e2 (fun _ => kitAny_nil) (fun z => nomatch z)) (fun z => nomatch z), q _ sm⟩
end
end Q9
end
-- QForms2
section
set_option maxRecDepth 100000
set_option maxHeartbeats 4000000
namespace Q9
open PySem L2
def spIsPair (K : PySem.W.Frag) : Sp := fun vs H Q _ => ∃ x, vs = [x] ∧ ((∃ xs, Row K H x xs ∧ ∀ H', Same H H' → Q (.bl (decide (xs.length = 2))) H') ∨ ∃ t, TyX K H x t ∧ PySem.W.kitOne K t (.type "list") = some false ∧ PySem.W.kitOne K t (.type "tuple") = some false ∧ ∀ H', Same H H' → Q (.bl false) H')
def spForm (K : PySem.W.Frag) (p : Str → Bool) : Sp := fun vs H Q _ => ∃ x, vs = [x] ∧ ((∃ z, x = .str z ∧ z.length ≤ sizeLine ∧ ∀ H', Same H H' → Q (.bl (p z)) H') ∨ (OfTy K H x "str" false ∧ ∀ H', Same H H' → Q (.bl false) H'))
/-- a row of texts: are all of the form, no one twice -/
def spUnlike (K : PySem.W.Frag) (p : Str → Bool) : Sp := fun vs H Q _ => ∃ (x : V) (ss : List Str), vs = [x] ∧ Row K H x (ss.map V.str) ∧ (∀ z ∈ ss, z.length ≤ sizeLine) ∧ ss.length + 1 < scanBound ∧ ∀ H', Same H H' → Q (.bl (ss.all p && decide ss.Nodup)) H'
section
variable {P : Program} {w : World} {K : PySem.W.Frag} {mg : Str → Option Value} {base : Heap} {fRow fName fError : Addr}
theorem scName : FnScope ["thing"] ["thing"] (defScope sIsName) := ⟨rfl, rfl, rfl, by decide +kernel, rfl, by decide +kernel, by decide +kernel⟩
theorem ok_name {f : Addr} {fd : FuncData} (F : Fun K "is_name" "is_name" sIsName f fd) (T : TForm K mg fRow) : FnOk P w K mg base CX0 2 f fd ["thing"] (spForm K nameB) := by
  refine F.ok scName (fun vs H Q E h => ?_) (fun cdv A outer s H vs Q E hr h => ?_)
  · obtain ⟨x, rfl, _⟩ := h
    rfl
  · obtain ⟨x, rfl, h⟩ := h
    obtain ⟨tm, hm⟩ := T.most
    refine ⟨_, pss_one (ps_ret (pe_and (pe_callB call_isi (by rfl) T.isi (by decide +kernel) (pa_cons (pv 0) (pa_cons (pe_bltn (v := .ty "str") (by rfl) T.str (by decide +kernel) rfl) pa_nil)))
      (pe_and (pe_cmpR op_le (pe_callB call_len_str (by rfl) T.len (by decide +kernel) (pa_cons (pv 0) pa_nil)) (pe_glob (v := .int 8) (by rfl) hm ⟨_, rfl⟩) (nomark _))
      (pe_and (pe_m0 PySem.F.slot_str_isascii PySem.F.type_str_isascii mt_isascii (pv 0))
      (pe_and (pe_m0 PySem.F.slot_str_isalpha PySem.F.type_str_isalpha mt_isalpha (pv 0))
      (pe_one (pe_m0 PySem.F.slot_str_islower PySem.F.type_str_islower mt_islower (pv 0)))))))), ?_⟩
    rcases h with ⟨z, rfl, hz, q⟩ | ⟨⟨t, ty, e⟩, q⟩
    · have q' := q H (Same.refl H)
      unfold nameB at q'
      refine ⟨_, rfl, _, _, _, _, true, rfl, .ty _, .base (.str z), kit_ty (by decide +kernel), true, rfl, iteT ?_⟩
      refine ⟨_, rfl, z, rfl, hz, _, _, rfl, rfl, _, rfl, ?_⟩
      cases c1 : decide ((z.length : Int) ≤ 8) with
      | false => rw [c1] at q'; exact iteF q'
      | true =>
        rw [c1, Bool.true_and] at q'
        refine iteT ⟨_, rfl, ⟨_, rfl⟩, z, rfl, rfl, trivial, _, rfl, ?_⟩
        cases c2 : Txt.isascii z with
        | false => rw [c2] at q'; exact iteF q'
        | true =>
          rw [c2, Bool.true_and] at q'
          refine iteT ⟨_, rfl, ⟨_, rfl⟩, z, rfl, rfl, trivial, _, rfl, ?_⟩
          cases c3 : Txt.isalpha z with
          | false => rw [c3] at q'; exact iteF q'
          | true =>
            rw [c3, Bool.true_and] at q'
            exact iteT ⟨_, rfl, ⟨_, rfl⟩, z, rfl, rfl, trivial, q'⟩
    · exact ⟨_, rfl, _, _, _, _, false, rfl, .ty _, ty, e, false, rfl, iteF (q H (Same.refl H))⟩
theorem scError : FnScope ["thing"] ["thing"] (defScope sIsError) := ⟨rfl, rfl, rfl, by decide +kernel, rfl, by decide +kernel, by decide +kernel⟩
theorem ok_error {f : Addr} {fd : FuncData} (F : Fun K "is_error" "is_error" sIsError f fd) (T : TForm K mg fRow) : FnOk P w K mg base CX0 2 f fd ["thing"] (spForm K errorB) := by
  refine F.ok scError (fun vs H Q E h => ?_) (fun cdv A outer s H vs Q E hr h => ?_)
  · obtain ⟨x, rfl, _⟩ := h
    rfl
  · obtain ⟨x, rfl, h⟩ := h
    obtain ⟨tm, hm⟩ := T.most
    refine ⟨_, pss_one (ps_ret (pe_and (pe_callB call_isi (by rfl) T.isi (by decide +kernel) (pa_cons (pv 0) (pa_cons (pe_bltn (v := .ty "str") (by rfl) T.str (by decide +kernel) rfl) pa_nil)))
      (pe_and (pe_cmpR op_le (pe_callB call_len_str (by rfl) T.len (by decide +kernel) (pa_cons (pv 0) pa_nil)) (pe_glob (v := .int 8) (by rfl) hm ⟨_, rfl⟩) (nomark _))
      (pe_and (pe_m0 PySem.F.slot_str_isascii PySem.F.type_str_isascii mt_isascii (pv 0))
      (pe_and (pe_m0 PySem.F.slot_str_isalpha PySem.F.type_str_isalpha mt_isalpha (pv 0))
      (pe_one (pe_m0 PySem.F.slot_str_isupper PySem.F.type_str_isupper mt_isupper (pv 0)))))))), ?_⟩
    rcases h with ⟨z, rfl, hz, q⟩ | ⟨⟨t, ty, e⟩, q⟩
    · have q' := q H (Same.refl H)
      unfold errorB at q'
      refine ⟨_, rfl, _, _, _, _, true, rfl, .ty _, .base (.str z), kit_ty (by decide +kernel), true, rfl, iteT ?_⟩
      refine ⟨_, rfl, z, rfl, hz, _, _, rfl, rfl, _, rfl, ?_⟩
      cases c1 : decide ((z.length : Int) ≤ 8) with
      | false => rw [c1] at q'; exact iteF q'
      | true =>
        rw [c1, Bool.true_and] at q'
        refine iteT ⟨_, rfl, ⟨_, rfl⟩, z, rfl, rfl, trivial, _, rfl, ?_⟩
        cases c2 : Txt.isascii z with
        | false => rw [c2] at q'; exact iteF q'
        | true =>
          rw [c2, Bool.true_and] at q'
          refine iteT ⟨_, rfl, ⟨_, rfl⟩, z, rfl, rfl, trivial, _, rfl, ?_⟩
          cases c3 : Txt.isalpha z with
          | false => rw [c3] at q'; exact iteF q'
          | true =>
            rw [c3, Bool.true_and] at q'
            exact iteT ⟨_, rfl, ⟨_, rfl⟩, z, rfl, rfl, trivial, q'⟩
    · exact ⟨_, rfl, _, _, _, _, false, rfl, .ty _, ty, e, false, rfl, iteF (q H (Same.refl H))⟩
theorem scWord : FnScope ["thing"] ["thing"] (defScope sIsWord) := ⟨rfl, rfl, rfl, by decide +kernel, rfl, by decide +kernel, by decide +kernel⟩
theorem ok_word {f : Addr} {fd fdE : FuncData} (F : Fun K "is_word" "is_word" sIsWord f fd) (T : TForm K mg fRow) (gE : mg "is_error" = some (.ref fError)) (kE : PySem.W.keepIn K (.ref fError) = true)
    (G : FnOk P w K mg base CX0 2 fError fdE ["thing"] (spForm K errorB)) (b : Binds K fdE ["thing"] []) : FnOk P w K mg base CX0 3 f fd ["thing"] (spForm K wordB) := by
  refine F.ok scWord (fun vs H Q E h => ?_) (fun cdv A outer s H vs Q E hr h => ?_)
  · obtain ⟨x, rfl, _⟩ := h
    rfl
  · obtain ⟨x, rfl, h⟩ := h
    refine ⟨_, pss_one (ps_ret (pe_or (pe_call G hr (by rfl) gE kE b .nil pass0 (pa_cons (pv 0) pa_nil)) (pe_one (pe_and (pe_callB call_isi (by rfl) T.isi (by decide +kernel) (pa_cons (pv 0) (pa_cons (pe_bltn (v := .ty "str") (by rfl) T.str (by decide +kernel) rfl) pa_nil)))
      (pe_one (pe_cmpR op_in_seq (pv 0) (pe_tup (pa_cons pe_str (pa_cons pe_str pa_nil))) (by rfl))))))), ?_⟩
    rcases h with ⟨z, rfl, hz, q⟩ | ⟨⟨t, ty, e⟩, q⟩
    · refine ⟨_, rfl, _, rfl, .inl ⟨z, rfl, hz, fun H' sm => ⟨_, rfl, ?_⟩⟩⟩
      refine ite2 (fun c => ?_) (fun c => ?_)
      · have e : wordB z = true := by unfold wordB; rw [c, Bool.true_or]
        rw [e] at q
        exact q H' sm
      · have e : wordB z = (decide (z = "yes") || decide (z = "no")) := by unfold wordB; rw [Bool.eq_false_iff.mpr c, Bool.false_or]
        rw [e] at q
        refine ⟨_, rfl, _, _, _, _, true, rfl, .ty _, .base (.str z), kit_ty (by decide +kernel), true, rfl, iteT ⟨_, rfl, (by show 2 ≤ sizeLine; decide), fun t ht => ?_⟩⟩
        refine ⟨t, _, rfl, .inr (.of upd_same), rfl, rfl, ?_⟩
        have e3 : inV (V.str z) [V.str "yes", V.str "no"] = (decide (z = "yes") || decide (z = "no")) := by
          show (("yes" : Str) == z || (("no" : Str) == z || false)) = _
          rw [Bool.or_false]
          congr 1 <;> (rw [Bool.beq_eq_decide_eq]; exact decide_eq_decide.mpr eq_comm)
        show Q (.bl (inV (V.str z) [V.str "yes", V.str "no"])) _
        rw [e3]
        exact q _ (sm.trans (same_upd ht))
    · refine ⟨_, rfl, _, rfl, .inr ⟨⟨t, ty, e⟩, fun H' sm => ⟨false, rfl, iteF ?_⟩⟩⟩
      exact ⟨_, rfl, _, _, _, _, false, rfl, .ty _, same_ty sm ty, e, false, rfl, iteF (q H' sm)⟩
theorem scUn : FnScope ["thing", "one"] ["thing"] (defScope sUnlike) := ⟨rfl, rfl, rfl, by decide +kernel, rfl, by decide +kernel, by decide +kernel⟩
theorem ok_unlike {f : Addr} {fd fdR fdN : FuncData} (F : Fun K "are_unlike_names" "are_unlike_names" sUnlike f fd) (T : TForm K mg fRow) (gN : mg "is_name" = some (.ref fName)) (kN : PySem.W.keepIn K (.ref fName) = true)
    (GR : FnOk P w K mg base CX0 1 fRow fdR ["thing"] (spIsRow K)) (bR : Binds K fdR ["thing"] []) (GN : FnOk P w K mg base CX0 2 fName fdN ["thing"] (spForm K nameB)) (bN : Binds K fdN ["thing"] []) : FnOk P w K mg base CX0 3 f fd ["thing"] (spUnlike K nameB) := by
  refine F.ok scUn (fun vs H Q E h => ?_) (fun cdv A outer s H vs Q E hr h => ?_)
  · obtain ⟨x, ss, rfl, _⟩ := h
    rfl
  · obtain ⟨x, ss, rfl, r, hz, hl, q⟩ := h
    refine ⟨_, pss_one (ps_ret (pe_and (pe_call GR (hr.mono (by decide)) (by rfl) T.gRow T.kRow bR .nil pass0 (pa_cons (pv 0) pa_nil))
      (pe_and (pe_callB (cr_all rfl) (by rfl) T.all (by decide +kernel) (pa_cons
        (pe_lc (own := [("one", 1)]) (g := gName 1) (tt := tYes) rfl scUn.nd (pi_row (pv 0)) (blkOk_by (own := [("one", 1)]) (N := ["thing", "one"]) (sc := defScope sUnlike) (by decide +kernel))
          (fun _ _ _ _ _ => pg_name (i := 1) scUn.nd rfl (.inl rfl)) (fun _ _ _ _ _ => pts_nil) (fun _ _ _ _ _ => pe_call GN hr (by rfl) gN kN bN .nil pass0 (pa_cons (pv 1) pa_nil))) pa_nil))
      (pe_one (pe_cmpR op_eq (pe_callB cr_lenKs (by rfl) T.len (by decide +kernel) (pa_cons (pe_callTy (cr_setOf rfl) (by rfl) T.set (by decide +kernel) (pa_cons (pv 0) pa_nil)) pa_nil)) (pe_callB cr_lenRow (by rfl) T.len (by decide +kernel) (pa_cons (pv 0) pa_nil)) (nomark _)))))), ?_⟩
    refine ⟨_, rfl, x, rfl, .inl ⟨_, r, fun H1 s1 => ⟨true, rfl, iteT ?_⟩⟩⟩
    refine ⟨_, rfl, _, row_up s1 r, fun J G hG wk D hD => ?_⟩
    rw [List.length_map] at wk
    refine lc_it wk (fun i H' => Same H1 H' ∧ H' D = some (.lst (((ss.take i).map nameB).map V.bl))) ⟨same_upd hD, upd_same⟩ (fun _ _ _ p => hG _ p.1) ?_ ?_
    · rintro i v H2 H3 hi ⟨sm, hl'⟩ ⟨rfl, hv⟩
      rw [List.getElem?_map] at hv
      obtain ⟨z, hz1, rfl⟩ := Option.map_eq_some_iff.mp hv
      refine ⟨rfl, _, rfl, _, rfl, .inl ⟨z, rfl, hz z (List.mem_of_getElem? hz1), fun H4 s4 => ⟨_, s4 _ _ hl', ?_, ?_⟩⟩⟩
      · have : scanBound = 4096 := rfl
        rw [List.length_map, List.length_map, List.length_take, PySem.sizeLine_eq]
        omega
      · refine ⟨fun b o e => ?_, ?_⟩
        · rw [upd_ne (ne_of_none e hD)]
          exact s4 _ _ (sm _ _ e)
        · rw [upd_same, take_one_more hz1, List.map_append, List.map_append]
          rfl
    · rintro H2 ⟨s2, hl'⟩
      rw [List.take_length] at hl'
      have e1 : ((ss.map nameB)).all id = ss.all nameB := by rw [List.all_map]; rfl
      refine ⟨_, _, rfl, .of hl', _, rfl, ?_⟩
      rw [e1]
      refine ite2 (fun c => ?_) (fun c => ?_)
      · rw [c, Bool.true_and] at q
        have r2 := row_up (s1.trans s2) r
        have ek : (ss.map (Sum.inr : Str → Key)).map kV = ss.map V.str := by rw [List.map_map]; rfl
        obtain ⟨a, rfl, hr2⟩ := id r2
        refine ⟨_, rfl, a, ss.map Sum.inr, rfl, by rw [ek]; exact hr2, fewIn_of_len (by rw [List.length_map]; exact hl), fun p ks hp nd mem => ⟨p, ks, rfl, upd_same, ?_⟩⟩
        refine ⟨_, rfl, _, _, rfl, row_up (same_upd hp) r2, rfl, ?_⟩
        have e2 : decide (V.int (ks.length : Int) = V.int ((ss.map V.str).length : Int)) = decide ss.Nodup := by
          rw [List.length_map]
          have u := unlike_len nd mem
          rw [List.length_map, nodup_map_inr] at u
          refine decide_eq_decide.mpr ⟨fun z => u.1 ?_, fun z => ?_⟩
          · injection z with z; omega
          · rw [u.2 z]
        show Q (.bl (decide (V.int (ks.length : Int) = V.int ((ss.map V.str).length : Int)))) _
        rw [e2]
        exact q _ ((s1.trans s2).trans (same_upd hp))
      · rw [Bool.eq_false_iff.mpr c, Bool.false_and] at q
        exact q _ (s1.trans s2)
end
end Q9
end
-- QComp
section
set_option maxRecDepth 100000
set_option maxHeartbeats 4000000
namespace Q9
open PySem PySem.Spec PyProof.Rows L2
/-! ### comprehensions that fill a new thing, whatever it is -/
/-- what is done with a turn's element, as nested wishes: behind it Post -/
abbrev TailW := Env → Value → (Value → Shared → Prop) → (Shared → Prop) → Shared → Prop
abbrev TailR := Addr → L2.St → Hp → (Hp → Prop) → Prop
def tColl (o0 : Addr → HO) (wi : TI) (g : TG) (tt : TT) (tl : TailR) (vs : List Nat) : TE := fun σ H Q => wi σ H fun J H1 => ∀ D, H1 D = none →
  ∃ W : Nat → Nat → Hp → Prop, (∃ m, W 0 m (upd H1 D (o0 D))) ∧ ∀ i m H, W i m H → (J.stop i H ∧ Q (.ref D) H) ∨
    (J.go i H ∧ ∃ Nx : Hp → Prop, (∀ H', Nx H' → ∃ m', m' < m ∧ W (i + 1) m' H') ∧ ∀ x H', J.yld i H x H' → g x (wipe σ vs) H' fun σ2 H2 => wipe σ2 vs = wipe σ vs ∧ tt σ2 H2 fun b H3 => if b = true then tl D σ2 H3 Nx else Nx H3)
/-- a kind of comprehension: its syntax, the new thing, its loop -/
structure CompKind (P : Program) (w : World) (A : Around) (cx tg iter : Expr) (ifs : List Expr) (scope : Scope) (pos : Pos) (newAcc : Sem Value) (ob : Obj) (tailW : TailW) : Prop where
  ev : ∀ env, eval cx env = comprehension cx scope env (firstIterPos [⟨tg, iter, ifs, 0⟩] pos) newAcc (firstAsync [⟨tg, iter, ifs, 0⟩]) (firstIter [⟨tg, iter, ifs, 0⟩] env)
  cls : clausesOf cx = [⟨tg, iter, ifs, 0⟩]
  new : ∀ {E Q : Value → Shared → Prop} {s : Shared}, Q (.ref s.heap.objs.size) { s with heap := s.heap.push ob } → wpAny (model P w) A newAcc Q E s
  start : ∀ {R : Result → Shared → Prop} {s : Shared} {env : Env} {it : Value} {D : Addr}, codeAny (model P w) A (.compLoop cx 0 it (.ref D) env) R s →
    wpAny (model P w) A (pyIter it) (fun it' s' => codeAny (model P w) A (.compLoop cx 0 it' (.ref D) env) R s') (notedBy (model P w) A env fun x s' => R (.error x) s') s → codeAny (model P w) A (.compStart cx 0 it (.ref D) env) R s
  loop : ∀ {R : Result → Shared → Prop} {env : Env} {it : Value} {D : Addr} (I : Nat → Shared → Prop),
    (∀ n s, I n s → wpAny (model P w) A (pyNext it) (fun r s₁ => match r with
      | none => R (.ok .next) s₁
      | some v => wpAny (model P w) A (letOwnedTupleGo tg it v) (fun _ s₁' => wpAny (model P w) A (assign tg env v) (fun _ s₂ =>
          wpAny (model P w) A (forIn ifs true fun c r => if r = true then do let ok ← isTrue c env (eval c env); pure (ForInStep.yield ok) else pure (ForInStep.yield r)) (fun ok s₃ =>
            if ok = true then tailW env (.ref D) (notedBy (model P w) A env fun e s' => R (.error e) s') (fun s' => ∃ m, m < n ∧ I m s') s₃
            else ∃ m, m < n ∧ I m s₃) (notedBy (model P w) A env fun e s' => R (.error e) s') s₂) (notedBy (model P w) A env fun e s' => R (.error e) s') s₁') (notedBy (model P w) A env fun e s' => R (.error e) s') s₁) (notedBy (model P w) A env fun e s' => R (.error e) s') s) →
    ∀ n s, I n s → codeAny (model P w) A (.compLoop cx 0 it (.ref D) env) R s
section
variable {X : Cx} {cx tg iter : Expr} {ifs : List Expr} {scope : Scope} {pos : Pos} {newAcc : Sem Value} {ob : Obj} {tailW : TailW} {own : List (PySem.Str × Nat)} {wi : TI} {g : TG} {tt : TT} {tl : TailR} {o0 : Addr → HO}
theorem pe_coll (ck : CompKind X.prog X.w X.A cx tg iter ifs scope pos newAcc ob tailW) (hc : X.calm = true) (hN : X.N.Nodup) (hi : PI X tg iter wi) (ok : BlkOk X.N X.env.scope scope own)
    (h0 : ∀ (H : Hp) (h : Heap), sysModules < h.objs.size → ObjOk X.prog X.w H (h.push ob) h.objs.size (o0 h.objs.size))
    (hg : ∀ (s : Shared) (H : Hp) (C : Addr) (cl : List (PySem.Str × Addr)) (fp : List Addr), PG (X.blk s H scope (compEnvC scope cl C X.env) fp) tg g)
    (ht : ∀ (s : Shared) (H : Hp) (C : Addr) (cl : List (PySem.Str × Addr)) (fp : List Addr), PTs (X.blk s H scope (compEnvC scope cl C X.env) fp) ifs tt)
    (hl : ∀ (s : Shared) (H : Hp) (C : Addr) (cl : List (PySem.Str × Addr)) (fp : List Addr) (pins : List (Addr × Obj)) (s1 : Shared) (σ1 : L2.St) (H1 : Hp) (D : Addr) (Nx : Hp → Prop) (E : Value → Shared → Prop),
      Inv (X.blk s H scope (compEnvC scope cl C X.env) fp) pins σ1 H1 s1 → tl D σ1 H1 Nx → tailW (compEnvC scope cl C X.env) (.ref D) E (fun s' => ∃ H', Inv (X.blk s H scope (compEnvC scope cl C X.env) fp) pins σ1 H' s' ∧ Nx H') s1)
    (mono : ∀ {env acc E Q Q' s}, tailW env acc E Q s → (∀ s', Q s' → Q' s') → tailW env acc E Q' s)
    (hs : ∀ x, foldedSetIterable iter X.env x = pure x := by intro _; rfl) :
    PE X cx (tColl o0 wi g tt tl (own.map (·.2))) := by
  refine ⟨fun pins s σ H Q I h => ?_⟩
  rw [ck.ev]
  have frees : ∀ y ∈ scope.names, y.2 = .free → ∃ c, X.env.cells.lookup y.1 = some c := fun y hy e => (ok.free y hy e).elim (fun k => I.ok.has _ (.inl k)) fun k => I.ok.has _ (.inr k)
  refine wpAny_comprehension_free (use := none) ck.cls hs (closure_ok frees) ok.kind (fun y hy e => by rw [ok.uniq y hy, e]) ?_
  show wpAny _ _ (eval iter X.env) _ _ s
  refine thn (hi.run pins s σ H _ I h) fun xv s1 hx => thn hx fun itv s2 ⟨it, fp, tn, J, H2, e, I2, T, st2, f2, q⟩ => ?_
  subst e
  refine ck.new (newEnv_comp ?_)
  -- the new thing at D
  generalize eD : s2.heap.objs.size = D
  have freeD : H2 D = none := I2.hok.fresh (Nat.le_of_eq eD)
  obtain ⟨W, ⟨m0, w0⟩, turn⟩ := q D freeD
  generalize e3 : ({ s2 with heap := s2.heap.push ob } : Shared) = s3
  have heap3 : s3.heap = s2.heap.push ob := by rw [← e3]
  have I3 : Inv X pins σ (upd H2 D (o0 D)) s3 := by
    rw [← e3]
    refine I2.laid (t' := s2.toks) (fun b o e => Heap.get?_push_of_some _ e) (Nat.le_of_eq eD) ?_
    rw [← eD]
    exact h0 _ s2.heap I2.big
  have small : ∀ b ∈ fp, b < s2.heap.objs.size := fun b hb => let ⟨o, e, _⟩ := T.obj _ _ st2 b hb; Heap.lt_size e
  have fps : ∀ b ∈ fp, FpOk X pins (upd H2 D (o0 D)) b ∧ b < s3.heap.objs.size := fun b hb => by
    refine ⟨⟨?_, (f2 b hb).2⟩, by rw [heap3, Heap.size_push]; exact Nat.lt_succ_of_lt (small b hb)⟩
    rw [upd_ne (by rw [← eD]; exact Nat.ne_of_lt (small b hb))]
    exact (f2 b hb).1
  have st3 : tn 0 s3.heap := T.keep _ _ _ st2 fun b _ o e => by rw [heap3]; exact Heap.get?_push_of_some _ e
  -- the block's frame
  have I4 := block_start I3 ok hN fps
  generalize ecl : cellsFrom (s3.heap.objs.size + 1) scope.names (cloFrom X.env.cells scope.names []) = cl at I4
  have pg := hg s3 (upd H2 D (o0 D)) s3.heap.objs.size cl fp
  have pt := ht s3 (upd H2 D (o0 D)) s3.heap.objs.size cl fp
  have pl := fun (pins' : List (Addr × Obj)) s1 σ1 H1 D' Nx E => hl s3 (upd H2 D (o0 D)) s3.heap.objs.size cl fp pins' s1 σ1 H1 D' Nx E
  have sh : ∀ env' s', env' = compEnvC scope cl s3.heap.objs.size X.env → s' = ({ s3 with heap := pushCells (s3.heap.push { cls := .type "dict", data := .dict #[] }) scope.names } : Shared) →
      codeAny (model X.prog X.w) X.A (.compStart cx 0 (.ref it) (.ref D) env') (compPost (model X.prog X.w) X.A X.xe none (EP X pins σ Q) (.ref D) s3.heap.objs.size) s' := fun env' s' ee es => by
    rw [← ee] at I4 pg pt pl
    have eL : env'.locals = s3.heap.objs.size := by rw [ee]; rfl
    have nfp : ∀ b ∈ fp, (upd H2 D (o0 D)) b = none := fun b hb => (fps b hb).1.1
    rw [← es] at I4
    have st4 : tn 0 s'.heap := T.keep _ _ _ st3 fun b _ o e => by rw [es]; exact pushCells_keeps _ _ _ _ (Heap.get?_push_of_some _ e)
    have stat : ∀ {σ' : L2.St} {H' : Hp} {t : Shared}, Inv (X.blk s3 (upd H2 D (o0 D)) scope env' fp) [] σ' H' t → (∀ b ∈ fp, H' b = none) → ∀ b ∈ fp, FpOk (X.blk s3 (upd H2 D (o0 D)) scope env' fp) [] H' b := fun {σ' H' t} I' hn b hb =>
      ⟨hn b hb, (I'.ok.exf b hb).1, I'.ok.exfs b hb, .inl hb, fun x c e => (I'.ok.exf b hb).2 x c e, fun p hp => nomatch (show p ∈ ([] : List (Addr × Obj)) from hp)⟩
    have lp : codeAny (model X.prog X.w) X.A (.compLoop cx 0 (.ref it) (.ref D) env') (compPost (model X.prog X.w) X.A X.xe none (EP X pins σ Q) (.ref D) s3.heap.objs.size) s' := by
      refine ck.loop (fun n t => ∃ i H', Inv (X.blk s3 (upd H2 D (o0 D)) scope env' fp) [] (wipe σ (own.map (·.2))) H' t ∧ tn i t.heap ∧ (∀ b ∈ fp, H' b = none) ∧ W i n H') ?_ m0 s' ⟨0, _, I4, st4, nfp, w0⟩
      rintro n s5 ⟨i, H5, I5, st5, n5, w5⟩
      rcases turn i n H5 w5 with ⟨stop, qq⟩ | ⟨go, Nx, less, step⟩
      · refine thnF (T.done (X.blk s3 (upd H2 D (o0 D)) scope env' fp) rfl rfl rfl hc i [] s5 _ H5 (fun _ _ => False) I5 (stat I5 n5) st5 stop) fun r s6 ⟨er, I6⟩ => ?_
        subst er
        have I7 : Inv X pins σ H5 s6 := I3.call' (ch := fp) I6.os I6.base I6.hok I6.bare fun b hb => let z := (fps b hb).1.2; ⟨z.2.2.1, z.1, z.2.2.2.1, z.2.2.2.2⟩
        have nC : H5 s3.heap.objs.size = none := by have z : H5 env'.locals = none := I6.free; rwa [eL] at z
        obtain ⟨m, hn, _⟩ := I6.loc
        have hn : s6.heap.Ns env'.locals m := hn
        rw [eL] at hn
        refine ⟨m, hn, fun h'' sb => ?_⟩
        obtain ⟨f0, f1, f2, f3, f4, f5⟩ := I3.fpOk (b := s3.heap.objs.size) (H' := H5) (Nat.le_refl _) nC
        exact ⟨.ref D, H5, I7.turned (t' := s6.toks) (fun b o hb e => (sb.2 b hb).trans e) f0 f1 f3 f4 f5, rfl, qq⟩
      · refine thnF (T.item (X.blk s3 (upd H2 D (o0 D)) scope env' fp) rfl rfl rfl hc i [] s5 _ H5 (fun _ _ => False) I5 (stat I5 n5) st5 go) fun r s6 ⟨u, er, h6⟩ => ?_
        subst er
        refine thnF h6 fun _ s7 ⟨x, H7, I7, r7, y7, st7, n7⟩ => ?_
        refine thnF (pg.run _ s7 _ H7 x u _ (I7.pinned (stat I7 n7) (T.obj _ _ st7)) r7 (step x H7 y7)) fun _ s8 ⟨σ8, H8, I8, hw8, q8⟩ => ?_
        refine thnF (pt.run _ s8 σ8 H8 _ I8 q8) fun b s9 ⟨H9, I9, q9⟩ => ?_
        have fin : ∀ {t : Shared} {H' : Hp}, Inv (X.blk s3 (upd H2 D (o0 D)) scope env' fp) ([] ++ pinsAt fp s7.heap) σ8 H' t → Nx H' →
            ∃ m, m < n ∧ ∃ i H', Inv (X.blk s3 (upd H2 D (o0 D)) scope env' fp) [] (wipe σ (own.map (·.2))) H' t ∧ tn i t.heap ∧ (∀ b ∈ fp, H' b = none) ∧ W i m H' := fun {t H'} I' nx => by
          obtain ⟨m', hm, w'⟩ := less H' nx
          have pin' : ∀ b ∈ fp, ∀ o, s7.heap.get? b = some o → t.heap.get? b = some o ∧ H' b = none := fun b hb o e =>
            let z := I'.pin (b, o) (List.mem_append_right _ (List.mem_append_right _ (mem_pinsAt hb e))); ⟨z.1, z.2.1⟩
          have len : (wipe σ (own.map (·.2))).length = σ8.length := by rw [← hw8, wipe_length]
          refine ⟨m', hm, i + 1, H', (I'.unpinned (pins := [])).weak len (fun j v e => ?_), T.keep _ _ _ st7 fun b hb o e => (pin' b hb o e).1, fun b hb => ?_, w'⟩
          · rw [← hw8] at e
            exact (wipe_some e).1
          · obtain ⟨o, e, _⟩ := T.obj _ _ st7 b hb
            exact (pin' b hb o e).2
        cases b with
        | false =>
          simp only [Bool.false_eq_true, if_false] at q9 ⊢
          exact fin I9 q9
        | true =>
          simp only [if_true] at q9 ⊢
          exact mono (pl _ s9 σ8 H9 D Nx _ I9 q9) fun t ⟨H', I', nx⟩ => fin I' nx
    exact ck.start lp (T.self X.A 0 _ _ _ st4 lp)
  exact sh _ _ (by rw [← ecl]; rfl) rfl
end
end Q9
end
-- QComp2
section
set_option maxRecDepth 100000
set_option maxHeartbeats 4000000
namespace Q9
open PySem PySem.Spec PyProof.Rows L2
/-! ### {e for .. in ..}, a set of keys -/
abbrev tailSet (P : Program) (w : World) (A : Around) (elt : Expr) : TailW := fun env acc E Q s => wpAny (model P w) A (eval elt env) (fun x s4 => wpAny (model P w) A (call (.builtin "set.add") [acc, x]) (fun _ s5 => Q s5) E s4) E s
section
variable {P : Program} {w : World} {A : Around} {E : Value → Shared → Prop} {s : Shared} {K : Type} [DecidableEq K] {knd : KeyKind P w K}
/-- found.add(k) -/
theorem rset_call_add {a : Addr} {ks : List K} {k : K} {x : Value} {Q : Value → Shared → Prop} (R : RSet knd s.heap a ks) (hk : knd.is k x = true) (hsc : x.scannable = true) (room : ks.length + 1 < scanBound)
    (hQ : ∀ h' ks', Heap.SameBut a s.heap h' → Added k ks ks' → RSet knd h' a ks' → Q .none { s with heap := h', toks := s.toks + 1 }) : wpAny (model P w) A (call (.builtin "set.add") [.ref a, x]) Q E s := by
  refine wpAny_call_entry F.slot_set_add R.setOf.typeIs F.entry_set_add ?_ (F.args_set_add_2 _ _)
  unfold Builtin.«set.add» Builtin.Frozenset.oneOther
  simp only [List.isEmpty_nil, bind_assoc]
  unfold Builtin.Frozenset.addrOf setAdd
  refine wpAny_bind (wpAny_pure ?_)
  try dsimp only
  refine wpAny_bind (wpAny_pure ?_)
  try dsimp only
  refine wpAny_bind (wpAny_holding (wpAny_bind (knd.pyHash hk ?_)))
  refine rset_add (s := { s with toks := s.toks + 1 }) R hk hsc room fun b h' ks' sb ad RS => ?_
  show wpAny _ _ (ret Value.none) _ _ _
  exact wpAny_pure ⟨_, rfl, hQ h' ks' sb ad RS⟩
end
theorem kind_set {P : Program} {w : World} {A : Around} {elt tg iter : Expr} {ifs : List Expr} {scope : Scope} {pos : Pos} : CompKind P w A (.SetComp elt [⟨tg, iter, ifs, 0⟩] scope pos) tg iter ifs scope pos (newSet (.type "set")) (emptySet w) (tailSet P w A elt) where
  ev := fun env => PpSet.eval_SetComp elt _ scope pos
  cls := rfl
  new := fun q => PpSet.newSet_ok q
  start := fun h0 h => PpSet.codeAny_compStart_set h0 h
  loop := fun I turn n s h => PpSet.compLoopS_any I turn n h
section
variable {X : Cx} {elt tg iter : Expr} {ifs : List Expr} {scope : Scope} {pos : Pos} {own : List (PySem.Str × Nat)} {wi : TI} {g : TG} {tt : TT} {te : TE}
def rAddK (P : Program) (w : World) (te : TE) : TailR := fun D σ H Nx => te σ H fun y H4 => ∃ (k : Key) (ks : List Key), y = kV k ∧ H4 D = some (SetKs P w D ks) ∧ ks.length + 1 < scanBound ∧ ∀ ks', Added k ks ks' → Nx (upd H4 D (SetKs P w D ks'))
/-- found.add(k), over the layer -/
theorem add_ks {pins : List (Addr × Obj)} {σ : L2.St} {H : Hp} {s : Shared} {D : Addr} {k : Key} {ks : List Key} {u : Value} {Q : Value → Shared → Prop} {E : Value → Shared → Prop} {A : Around} (I : Inv X pins σ H s) (ha : H D = some (SetKs X.prog X.w D ks)) (ru : RelV (kV k) u) (room : ks.length + 1 < scanBound)
    (hQ : ∀ s' ks', Added k ks ks' → Inv X pins σ (upd H D (SetKs X.prog X.w D ks')) s' → Q .none s') : wpAny (model X.prog X.w) A (call (.builtin "set.add") [.ref D, u]) Q E s := by
  refine rset_call_add (setKs_get I ha) (kV_is ru) (key_scannable ru) room fun h' ks' sb ad RS => hQ _ ks' ad ?_
  have he : ∃ q, h'.get? D = some q := let ⟨o, _, _, _, ho, _⟩ := RS; ⟨o, ho⟩
  exact I.write (e := D) (t' := s.toks + 1) (by rw [ha]; trivial) (.inl rfl) (fun b u hb hu => (sb.2 b hb).trans hu) he (setKs_ok RS)
theorem pe_scK (hc : X.calm = true) (hN : X.N.Nodup) (hi : PI X tg iter wi) (ok : BlkOk X.N X.env.scope scope own)
    (hg : ∀ (s : Shared) (H : Hp) (C : Addr) (cl : List (PySem.Str × Addr)) (fp : List Addr), PG (X.blk s H scope (compEnvC scope cl C X.env) fp) tg g)
    (ht : ∀ (s : Shared) (H : Hp) (C : Addr) (cl : List (PySem.Str × Addr)) (fp : List Addr), PTs (X.blk s H scope (compEnvC scope cl C X.env) fp) ifs tt)
    (he : ∀ (s : Shared) (H : Hp) (C : Addr) (cl : List (PySem.Str × Addr)) (fp : List Addr), PE (X.blk s H scope (compEnvC scope cl C X.env) fp) elt te)
    (hs : ∀ x, foldedSetIterable iter X.env x = pure x := by intro _; rfl) :
    PE X (.SetComp elt [⟨tg, iter, ifs, 0⟩] scope pos) (tColl (fun D => SetKs X.prog X.w D []) wi g tt (rAddK X.prog X.w te) (own.map (·.2))) := by
  refine pe_coll kind_set hc hN hi ok (fun H h _ => setKs_ok (rset_fresh (Heap.get?_push_size _ rfl))) hg ht ?_ ?_ hs
  · intro s H C cl fp pins s1 σ1 H1 D Nx E I h
    refine thnF ((he s H C cl fp).run pins s1 σ1 H1 _ I h) fun u s2 ⟨y, H2, I2, r2, k, ks, ey, hD, room, nx⟩ => ?_
    subst ey
    exact add_ks (X := X.blk s H scope (compEnvC scope cl C X.env) fp) I2 hD r2 room fun s' ks' ad I3 => ⟨_, I3, nx ks' ad⟩
  · intro env acc E Q Q' s h m
    exact thn h fun x s4 h4 => thn h4 fun _ s5 q => m s5 q
end
/-! ### {k: v for .. in ..}, the keys tuples -/
abbrev tailDict (P : Program) (w : World) (A : Around) (kx vx : Expr) : TailW := fun env acc E Q s => wpAny (model P w) A (eval kx env) (fun kv s4 => wpAny (model P w) A (eval vx env) (fun vv s5 =>
  wpAny (model P w) A (dictSet (match acc with | .ref D => D | _ => 0) kv vv) (fun _ s6 => Q s6) E s5) E s4) E s
theorem kind_dict {P : Program} {w : World} {A : Around} {kx vx tg iter : Expr} {ifs : List Expr} {scope : Scope} {pos : Pos} : CompKind P w A (.DictComp kx vx [⟨tg, iter, ifs, 0⟩] scope pos) tg iter ifs scope pos newDict { cls := .type "dict", data := .dict #[] } (tailDict P w A kx vx) where
  ev := fun env => arm_eval_DictComp kx vx _ scope pos env
  cls := rfl
  new := fun q => wpAny_newObj_type q
  start := fun h0 h => codeAny_compStart_dict h0 h
  loop := fun I turn n s h => compLoop_anyD I turn n h
section
variable {X : Cx} {kx vx tg iter : Expr} {ifs : List Expr} {scope : Scope} {pos : Pos} {own : List (PySem.Str × Nat)} {wi : TI} {g : TG} {tt : TT} {tk tv : TE}
/-- D[k] = v within a comprehension, D's keys tuples -/
theorem dictSet_t {pins : List (Addr × Obj)} {σ : L2.St} {H : Hp} {s : Shared} {D b : Addr} {k : List Key} {v : V} {kvs : List (List Key × V)} {r : Value} {Q : Unit → Shared → Prop} {E : Value → Shared → Prop} {A : Around} (hu : A.units < cLine) (I : Inv X pins σ H s)
    (e : H D = some (.dT kvs)) (eb : H b = some (.tup (k.map kV))) (l : kvs.length < sizeLine) (rv : RelV v r) (hQ : ∀ s', Inv X pins σ (upd H D (.dT (putK kvs k v))) s' → Q () s') : wpAny (model X.prog X.w) A (dictSet D (.ref b) r) Q E s := by
  obtain ⟨z, hd, xs, rel, dd⟩ := dt_of I.hok e
  have hz : xs.length ≤ sizeLine := by rw [← PySem.Paired.length rel]; exact z
  have hl : (putK kvs k v).length ≤ sizeLine := by have := length_putK kvs k v; omega
  refine wpAny_dictSet_heap (hsz := hz) (show (tupleKind (mixKind X.prog X.w)).room A from hu) (key_of I.hok eb) dd fun h' dd' hs => hQ _ ?_
  obtain ⟨q, es, ep, hq, h2, h3, h4, _, h5⟩ := dd'
  refine d_write I (by rw [e]; exact True.intro) hs ⟨q, hq⟩ ⟨hl, hd, _, (rel.put k eb rv).keeps fun c ys ec => ?_, q, es, ep, hq, h2, h3, h4, h5⟩
  rw [upd_ne (ne_of ec e (fun z => nomatch z))]
  exact ec
def rPutT (tk tv : TE) : TailR := fun D σ H Nx => tk σ H fun y H4 => tv σ H4 fun v H5 => ∃ (b : Addr) (k : List Key) (kvs : List (List Key × V)), y = .ref b ∧ H5 b = some (.tup (k.map kV)) ∧ H5 D = some (.dT kvs) ∧ kvs.length < sizeLine ∧ Nx (upd H5 D (.dT (putK kvs k v)))
theorem pe_dcT (hu : X.A.units < cLine) (hc : X.calm = true) (hN : X.N.Nodup) (hi : PI X tg iter wi) (ok : BlkOk X.N X.env.scope scope own)
    (hg : ∀ (s : Shared) (H : Hp) (C : Addr) (cl : List (PySem.Str × Addr)) (fp : List Addr), PG (X.blk s H scope (compEnvC scope cl C X.env) fp) tg g)
    (ht : ∀ (s : Shared) (H : Hp) (C : Addr) (cl : List (PySem.Str × Addr)) (fp : List Addr), PTs (X.blk s H scope (compEnvC scope cl C X.env) fp) ifs tt)
    (hk : ∀ (s : Shared) (H : Hp) (C : Addr) (cl : List (PySem.Str × Addr)) (fp : List Addr), PE (X.blk s H scope (compEnvC scope cl C X.env) fp) kx tk)
    (he : ∀ (s : Shared) (H : Hp) (C : Addr) (cl : List (PySem.Str × Addr)) (fp : List Addr), PE (X.blk s H scope (compEnvC scope cl C X.env) fp) vx tv)
    (hs : ∀ x, foldedSetIterable iter X.env x = pure x := by intro _; rfl) :
    PE X (.DictComp kx vx [⟨tg, iter, ifs, 0⟩] scope pos) (tColl (fun _ => .dT []) wi g tt (rPutT tk tv) (own.map (·.2))) := by
  refine pe_coll kind_dict hc hN hi ok (fun H h hb => dt_empty h hb) hg ht ?_ ?_ hs
  · intro s H C cl fp pins s1 σ1 H1 D Nx E I h
    refine thnF ((hk s H C cl fp).run pins s1 σ1 H1 _ I h) fun u s2 ⟨y, H2, I2, r2, h2⟩ => ?_
    refine thnF ((he s H C cl fp).run pins s2 σ1 H2 _ I2 h2) fun r s3 ⟨v, H3, I3, r3, b, k, kvs, ey, eb, eD, lz, nx⟩ => ?_
    subst ey
    cases r2
    exact dictSet_t (X := X.blk s H scope (compEnvC scope cl C X.env) fp) hu I3 eD eb lz r3 fun s' I' => ⟨_, I', nx⟩
  · intro env acc E Q Q' s h m
    exact thn h fun x s4 h4 => thn h4 fun y s5 h5 => thn h5 fun _ s6 q => m s6 q
end
/-- over a walk, whatever is filled -/
theorem coll_it {J : It} {n : Nat} {G : Hp → Prop} {Y : Nat → Hp → V → Hp → Prop} (w : Walk J n G Y) {o0 : HO} {g : TG} {tt : TT} {tl : TailR} {vs : List Nat} {σ : L2.St} {H1 : Hp} {D : Addr} {Qd : Hp → Prop} (Pv : Nat → Hp → Prop)
    (h0 : Pv 0 (upd H1 D o0)) (hG : ∀ i H, i ≤ n → Pv i H → G H)
    (hs : ∀ i x H H', i < n → Pv i H → Y i H x H' → g x (wipe σ vs) H' fun σ2 H2 => wipe σ2 vs = wipe σ vs ∧ tt σ2 H2 fun b H3 => if b = true then tl D σ2 H3 (Pv (i + 1)) else Pv (i + 1) H3) (hd : ∀ H, Pv n H → Qd H) :
    ∃ W : Nat → Nat → Hp → Prop, (∃ m, W 0 m (upd H1 D o0)) ∧ ∀ i m H, W i m H → (J.stop i H ∧ Qd H) ∨
      (J.go i H ∧ ∃ Nx : Hp → Prop, (∀ H', Nx H' → ∃ m', m' < m ∧ W (i + 1) m' H') ∧ ∀ x H', J.yld i H x H' → g x (wipe σ vs) H' fun σ2 H2 => wipe σ2 vs = wipe σ vs ∧ tt σ2 H2 fun b H3 => if b = true then tl D σ2 H3 Nx else Nx H3) := by
  refine ⟨fun i m H => m + i = n ∧ Pv i H, ⟨n, rfl, h0⟩, ?_⟩
  rintro i m H ⟨e, p⟩
  have q := hG i H (by omega) p
  cases m with
  | zero =>
    obtain rfl : i = n := by omega
    exact .inl ⟨w.stops H q, hd H p⟩
  | succ m =>
    have lt : i < n := by omega
    exact .inr ⟨w.goes i H lt q, Pv (i + 1), fun H' p' => ⟨m, Nat.lt_succ_self _, by omega, p'⟩, fun x H' y => hs i x H H' lt p (w.yields i H x H' lt q y)⟩
end Q9
end
-- QKinds
section
set_option maxRecDepth 100000
set_option maxHeartbeats 4000000
namespace Q9
open PySem L2
/-! ### the moves of a kind, as they stand in the heap -/
abbrev Mv := List ((Str × Str) × List (Str × Str))
def OutT (K : PySem.W.Frag) (H : Hp) (v : V) (o : Str × Str) : Prop := ∃ q, v = .ref q ∧ SqT K H q [.str o.1, .str o.2]
def OutsT (K : PySem.W.Frag) (H : Hp) (v : V) (os : List (Str × Str)) : Prop := ∃ vs, Row K H v vs ∧ Paired (OutT K H) vs os
def EntT (K : PySem.W.Frag) (H : Hp) (kv : List Key × V) (e : (Str × Str) × List (Str × Str)) : Prop := kv.1 = [.inr e.1.1, .inr e.1.2] ∧ OutsT K H kv.2 e.2
structure Moves (K : PySem.W.Frag) (H : Hp) (kvs : List (List Key × V)) (mv : Mv) : Prop where
  nd : (kvs.map (·.1)).Nodup
  ent : Paired (EntT K H) kvs mv
/-- lists and tuples stand as they stood -/
def SameSq (H H' : Hp) : Prop := (∀ b xs, H b = some (.lst xs) → H' b = some (.lst xs)) ∧ (∀ b xs, H b = some (.tup xs) → H' b = some (.tup xs)) ∧ ∀ b o u, H b = some (.frz o u) → H' b = some (.frz o u)
theorem Same.sq {H H' : Hp} (s : Same H H') : SameSq H H' := ⟨fun _ _ e => s _ _ e, fun _ _ e => s _ _ e, fun _ _ _ e => s _ _ e⟩
theorem SameSq.trans {H H1 H2 : Hp} (a : SameSq H H1) (b : SameSq H1 H2) : SameSq H H2 := ⟨fun _ _ e => b.1 _ _ (a.1 _ _ e), fun _ _ e => b.2.1 _ _ (a.2.1 _ _ e), fun _ _ _ e => b.2.2 _ _ _ (a.2.2 _ _ _ e)⟩
/-- all but the thing at m stands -/
def But (m : Addr) (H H' : Hp) : Prop := ∀ b o, b ≠ m → H b = some o → H' b = some o
theorem But.trans {m : Addr} {H H1 H2 : Hp} (a : But m H H1) (b : But m H1 H2) : But m H H2 := fun c o ne e => b c o ne (a c o ne e)
theorem But.of {m : Addr} {H H' : Hp} (s : Same H H') : But m H H' := fun b o _ e => s b o e
theorem But.upd {m : Addr} {H : Hp} {u : HO} : But m H (L2.upd H m u) := fun b o ne e => by rw [upd_ne ne]; exact e
theorem But.back {m : Addr} {H H' : Hp} {u : HO} (hm : H m = some u) (s : But m H H') : Same H (L2.upd H' m u) := fun b o e => by
  by_cases h : b = m
  · subst h
    rw [upd_same, ← hm, e]
  · rw [upd_ne h]
    exact s b o h e
theorem But.sq {m : Addr} {H H' : Hp} {kvs : List (List Key × V)} (s : But m H H') (hm : H m = some (.dT kvs)) : SameSq H H' := by
  have ne : ∀ b o, H b = some o → o ≠ .dT kvs → b ≠ m := fun b o e n z => by
    rw [z, hm] at e
    exact n (Option.some.inj e).symm
  exact ⟨fun b xs e => s b _ (ne b _ e fun z => nomatch z) e, fun b xs e => s b _ (ne b _ e fun z => nomatch z) e, fun b o u e => s b _ (ne b _ e fun z => nomatch z) e⟩
section
variable {K : PySem.W.Frag} {H H' : Hp}
theorem sqT_up (s : SameSq H H') {a : Addr} {xs : List V} (h : SqT K H a xs) : SqT K H' a xs := by
  rcases h with (h | ⟨o, h⟩) | h
  · exact .inl (.inl (s.2.1 _ _ h))
  · exact .inl (.inr ⟨o, s.2.2 _ _ _ h⟩)
  · exact .inr h
theorem sqL_up (s : SameSq H H') {a : Addr} {xs : List V} (h : SqL K H a xs) : SqL K H' a xs := by
  rcases h with (h | ⟨o, h⟩) | h
  · exact .inl (.inl (s.1 _ _ h))
  · exact .inl (.inr ⟨o, s.2.2 _ _ _ h⟩)
  · exact .inr h
theorem row_sq (s : SameSq H H') {x : V} {xs : List V} (h : Row K H x xs) : Row K H' x xs := by
  obtain ⟨a, e, h⟩ := h
  exact ⟨a, e, h.imp (sqL_up s) (sqT_up s)⟩
theorem outsT_up (s : SameSq H H') {v : V} {os : List (Str × Str)} (h : OutsT K H v os) : OutsT K H' v os := by
  obtain ⟨vs, h1, h2⟩ := h
  exact ⟨vs, row_sq s h1, L2.Paired.mapP h2 fun _ _ ⟨q, e, h⟩ => ⟨q, e, sqT_up s h⟩⟩
theorem moves_up (s : SameSq H H') {kvs : List (List Key × V)} {mv : Mv} (h : Moves K H kvs mv) : Moves K H' kvs mv :=
  ⟨h.nd, L2.Paired.mapP h.ent fun _ _ ⟨e, h⟩ => ⟨e, outsT_up s h⟩⟩
theorem paired_at {α β : Type} {F : α → β → Prop} : ∀ {l : List α} {m : List β}, Paired F l m → ∀ (i : Nat) (x : α), l[i]? = some x → ∃ y, m[i]? = some y ∧ F x y
  | _, _, .nil, i, x, h => by simp at h
  | _, _, .cons r t, 0, x, h => by
    simp only [List.getElem?_cons_zero, Option.some.injEq] at h
    subst h
    exact ⟨_, rfl, r⟩
  | _, _, .cons r t, i + 1, x, h => by
    obtain ⟨y, h1, h2⟩ := paired_at t i x (by simpa using h)
    exact ⟨y, by simpa using h1, h2⟩
theorem val_at {kvs : List (List Key × V)} (nd : (kvs.map (·.1)).Nodup) {i : Nat} {k : List Key} {v : V} (h : kvs[i]? = some (k, v)) : valV kvs k = some v := by
  induction kvs generalizing i with
  | nil => simp at h
  | cons p r ih =>
    rw [List.map_cons] at nd
    obtain ⟨h1, h2⟩ := List.nodup_cons.mp nd
    cases i with
    | zero =>
      simp only [List.getElem?_cons_zero, Option.some.injEq] at h
      subst h
      exact valV_pos rfl
    | succ i =>
      rw [List.getElem?_cons_succ] at h
      rw [valV_neg (fun e => h1 (e ▸ List.mem_map.mpr ⟨(k, v), List.mem_of_getElem? h, rfl⟩))]
      exact ih h2 h
end
/-! ### the mirror -/
abbrev kInr : Str → Key := Sum.inr
theorem kInr_kV (l : List Str) : (l.map kInr).map kV = l.map V.str := by rw [List.map_map]; rfl
def statesIn (st : Str) (es : List Str) (mv : Mv) : List Str := (st :: es) ++ mv.flatMap fun e => e.1.1 :: e.2.map (·.2)
def methodsIn (mv : Mv) : List Str := mv.map (·.1.2)
def wordsIn (mv : Mv) : List Str := mv.flatMap fun e => e.2.map (·.1)
/-- the unlike ones of a row, in order -/
def Told (l ys : List Str) : Prop := Up ys ∧ ys.Nodup ∧ ∀ z, z ∈ ys ↔ z ∈ l
theorem told_same {l ys zs : List Str} (a : Told l ys) (b : Told l zs) : ys = zs :=
  up_same ((List.perm_ext_iff_of_nodup a.2.1 b.2.1).mpr fun z => (a.2.2 z).trans (b.2.2 z).symm) a.1 b.1
structure TKinds (K : PySem.W.Frag) (mg : Str → Option Value) : Prop where
  lst : mg "list" = none
  sorted : mg "sorted" = none
  set : mg "set" = none
  tup : mg "tuple" = none
section
variable {P : Program} {w : World} {K : PySem.W.Frag} {mg : Str → Option Value} {base : Heap}
theorem cr_listRow {X : Cx} : CallR X (.type "list") (fun vs H Q => ∃ (x : V) (xs : List V), vs = [x] ∧ Row X.K H x xs ∧ ∀ l, H l = none → Q (.ref l) (upd H l (.lst xs))) := by
  intro pins s σ H vs us Q I r h
  obtain ⟨x, xs, rfl, ⟨a, rfl, hq⟩, q⟩ := h
  exact call_list_of pins s σ H _ us Q I r ⟨a, xs, rfl, hq, q⟩
theorem told_of {l : List Str} {ks : List Key} {ss ys : List Str} (ek : ks = ss.map Sum.inr) (nd : ks.Nodup) (mem : ∀ k, k ∈ ks ↔ k ∈ l.map (Sum.inr : Str → Key)) (pm : ys.Perm ss) (up : Up ys) : Told l ys := by
  subst ek
  refine ⟨up, pm.nodup_iff.mpr ((nodup_map_inr ss).1 nd), fun z => ?_⟩
  have e := mem (Sum.inr z)
  simp only [List.mem_map, Sum.inr.injEq, exists_eq_right] at e
  rw [pm.mem_iff, e]
theorem texts_of {ks : List Key} {l : List Str} (mem : ∀ k, k ∈ ks ↔ k ∈ l.map (Sum.inr : Str → Key)) : ∃ ss : List Str, ks = ss.map Sum.inr := by
  have all : ∀ k ∈ ks, ∃ x : Str, k = Sum.inr x := fun k hk => let ⟨x, _, e⟩ := List.mem_map.mp ((mem k).1 hk); ⟨x, e.symm⟩
  clear mem
  induction ks with
  | nil => exact ⟨[], rfl⟩
  | cons k ks ih =>
    obtain ⟨ss, e⟩ := ih fun j hj => all j (List.mem_cons_of_mem _ hj)
    obtain ⟨x, e2⟩ := all k List.mem_cons_self
    exact ⟨x :: ss, by rw [List.map_cons, ← e, e2]⟩
end
end Q9
end
-- QKinds2
section
set_option maxRecDepth 100000
set_option maxHeartbeats 4000000
namespace Q9
open PySem L2
/-- is x a text -/
def Txt1 (K : PySem.W.Frag) (H : Hp) (x : V) (b : Bool) : Prop := OfTy K H x "str" b
theorem txt_yes {K : PySem.W.Frag} {H : Hp} (z : Str) : OfTy K H (.str z) "str" true := ⟨.type "str", .base (.str z), kit_ty (by decide +kernel)⟩
/-- no tuple; a tuple of another length; a tuple of two -/
def spIsKey (K : PySem.W.Frag) : Sp := fun vs H Q _ => ∃ x, vs = [x] ∧ ((OfTy K H x "tuple" false ∧ Q (.bl false) H) ∨ (∃ a xs, x = .ref a ∧ SqT K H a xs ∧ xs.length ≠ 2 ∧ Q (.bl false) H) ∨
  ∃ a u v b c, x = .ref a ∧ SqT K H a [u, v] ∧ OfTy K H u "str" b ∧ OfTy K H v "str" c ∧ Q (.bl (b && c)) H)
theorem sqT_ty {K : PySem.W.Frag} {H : Hp} {a : Addr} {xs : List V} (h : SqT K H a xs) : TyX K H (.ref a) (.type "tuple") := by
  rcases h with (h | ⟨o, h⟩) | ⟨o, its, n, h1, h2, _⟩
  · exact .base (.tup h)
  · exact .fTuple h
  · exact .kTuple h1 h2
section
variable {P : Program} {w : World} {K : PySem.W.Frag} {mg : Str → Option Value} {base : Heap} {fRow : Addr}
theorem scKey : FnScope ["thing"] ["thing"] (defScope sIsKey) := ⟨rfl, rfl, rfl, by decide +kernel, rfl, by decide +kernel, by decide +kernel⟩
theorem ok_key {f : Addr} {fd : FuncData} (F : Fun K "_is_key" "_is_key" sIsKey f fd) (T : TForm K mg fRow) : FnOk P w K mg base CX0 1 f fd ["thing"] (spIsKey K) := by
  refine F.ok scKey (fun vs H Q E h => ?_) (fun cdv A outer s H vs Q E hr h => ?_)
  · obtain ⟨x, rfl, _⟩ := h
    rfl
  · obtain ⟨x, rfl, h⟩ := h
    refine ⟨_, pss_one (ps_ret (pe_and (pe_callB call_isi (by rfl) T.isi (by decide +kernel) (pa_cons (pv 0) (pa_cons (pe_bltn (v := .ty "tuple") (by rfl) T.tup (by decide +kernel) rfl) pa_nil)))
      (pe_and (pe_cmpR op_eq (pe_callB cr_lenRow (by rfl) T.len (by decide +kernel) (pa_cons (pv 0) pa_nil)) pe_int (nomark _))
      (pe_and (pe_callB call_isi (by rfl) T.isi (by decide +kernel) (pa_cons (pe_ix ix_tup (pv 0) pe_int (fun _ _ => rfl)) (pa_cons (pe_bltn (v := .ty "str") (by rfl) T.str (by decide +kernel) rfl) pa_nil)))
      (pe_one (pe_callB call_isi (by rfl) T.isi (by decide +kernel) (pa_cons (pe_ix ix_tup (pv 0) pe_int (fun _ _ => rfl)) (pa_cons (pe_bltn (v := .ty "str") (by rfl) T.str (by decide +kernel) rfl) pa_nil)))))))), ?_⟩
    rcases h with ⟨⟨t, ty, e⟩, q⟩ | ⟨a, xs, rfl, hx, hn, q⟩ | ⟨a, u, v, b, c, rfl, hx, ⟨t1, ty1, e1⟩, ⟨t2, ty2, e2⟩, q⟩
    · exact ⟨_, rfl, _, _, _, _, false, rfl, .ty _, ty, e, false, rfl, iteF q⟩
    · refine ⟨_, rfl, _, _, _, _, true, rfl, .ty _, sqT_ty hx, kit_ty (by decide +kernel), true, rfl, iteT ⟨_, rfl, _, _, rfl, ⟨a, rfl, .inr hx⟩, rfl, ?_⟩⟩
      have e : decide (V.int (xs.length : Int) = V.int 2) = false := decide_eq_false fun z => hn (by injection z with z; omega)
      exact ⟨_, rfl, by rw [e]; exact iteF q⟩
    · refine ⟨_, rfl, _, _, _, _, true, rfl, .ty _, sqT_ty hx, kit_ty (by decide +kernel), true, rfl, iteT ⟨_, rfl, _, _, rfl, ⟨a, rfl, .inr hx⟩, rfl, true, rfl, iteT ?_⟩⟩
      refine ⟨_, rfl, a, _, _, _, rfl, rfl, hx, atI_nat (j := 0) rfl, _, _, _, _, b, rfl, .ty _, ty1, e1, b, rfl, ?_⟩
      cases b with
      | false => exact iteF q
      | true =>
        refine iteT ⟨_, rfl, a, _, _, _, rfl, rfl, hx, atI_nat (j := 1) rfl, _, _, _, _, c, rfl, .ty _, ty2, e2, ?_⟩
        rw [Bool.true_and] at q
        exact q
end
end Q9
end
-- QMakeS
section
set_option maxRecDepth 100000
set_option maxHeartbeats 4000000
namespace Q9
open PySem L2
section
variable {X : Cx} {CX : CXT} {k : Nat} {f C : Addr} {fd : FuncData} {ps : List Str} {sp : Sp} {E : L2.St → XK} {x : Str} {p pos : Pos} {e : Expr} {es : List Expr} {t : TA}
/-- C(e, ..) within a try: its __init__ may raise -/
def tMakeS (C : Addr) (sp : Sp) (E : L2.St → XK) (t : TA) : TE := fun σ H Q => t σ H fun vs H1 => ∀ x dx, H1 x = none → H1 dx = none → dx ≠ x → sp (.ref x :: vs) (upd (upd H1 dx (.own x)) x (.ins C dx [])) (fun v H2 => v = .non ∧ Q (.ref x) H2) (E σ)
theorem pe_makeS (M : Mk X.K C f) (F : FnOk X.prog X.w X.K X.mg X.base CX k f fd ps sp) (hr : Room (k + 1) X.A) (hg : Gl X x) (hm : X.mg x = some (.ref C)) (hb : Binds X.K fd ps []) (hx : ∀ σ, PassesAt CX X σ (E σ)) (ha : PA X (e :: es) t)
    (hdb : (x == ("__debug__" : Str)) = false := by decide) (he : starEach (e :: es) X.env = (false, eval e X.env) :: starEach es X.env := by rfl) (hpl : (backTo pos (starEach es X.env)).any (·.1) = false := by rfl) :
    PE X (.Call (.Name x p) (e :: es) [] pos) (tMakeS C sp E t) := by
  refine ⟨fun pins s0 σ H Q I0 h0 => wpAny_Call_Name_kw (ld_glob I0 hg hm (PySem.W.callWith_K (h₀ := X.base) I0.ok.mod.kin M.kp (thn (ha.run pos pins s0 σ H _ I0 h0) fun us s ⟨vs, H1, I, r, h⟩ => ⟨I.kIn, ?_⟩) he hpl) hdb)⟩
  -- the new object stands behind all that is there
  generalize eo : s.heap.objs.size + 1 = o
  have no : H1 o = none := I.hok.fresh (by omega)
  have nd : H1 s.heap.objs.size = none := I.hok.fresh (Nat.le_refl _)
  have hq := h o s.heap.objs.size no nd (by rw [← eo]; exact Nat.ne_of_lt (Nat.lt_succ_self _))
  have J := Inv.made (C := C) I
  rw [eo] at J
  have rr : Vals (V.ref o :: vs) (Value.ref o :: us) := .cons rfl r
  have len : (Value.ref o :: us).length = ps.length := by rw [← rr.length]; exact F.len _ _ _ _ hq
  have bd := hb _ (Value.ref o :: us) J.kIn (by rw [List.append_nil]; exact len)
  rw [List.append_nil] at bd
  refine wpAny_call (make_map (f := f) I.kIn M.makes M.init (beq_iff_eq.mp M.fn) ?_)
  rw [eo]
  refine codeAny_mono (F.run _ X.stack _ _ ⟨Value.ref o :: us, []⟩ (Value.ref o :: us) _ _ (E σ) (hr.make C us []) (J.env0.make C us []) bd rr hq) fun res s' hres => ?_
  cases res with
  | error er => exact hx σ pins _ _ er s' J hres
  | ok fl =>
    cases fl with
    | ret u =>
      obtain ⟨v, H', J', rv, ev, q⟩ := J.after hres
      subst ev
      exact ⟨rv, .ref o, H', J', rfl, q⟩
    | next => exact False.elim hres
    | brk => exact False.elim hres
    | cont => exact False.elim hres
end
end Q9
end
-- QTupSet
section
set_option maxRecDepth 100000
set_option maxHeartbeats 4000000
namespace Q9
open PySem PySem.Spec PyProof.Rows L2
/-! ### sets of tuples of keys (ints, texts): members, number; the order is left open -/
section
variable {P : Program} {w : World} {K : Type} [DecidableEq K] {knd : KeyKind P w K} {A : Around} {E : Value → Shared → Prop} {s : Shared}
abbrev tkh (knd : KeyKind P w K) (k : List K) : Int := tupleKeyHash knd k
/-- items whose kind is told without the heap -/
def Flat8 (knd : KeyKind P w K) : Prop := ∀ (k : K) (v : Value) (n : Nat), knd.is k v = true → (∃ b, hashByValue n v = pure b) ∧ ofAClassStatement n v = pure false
theorem items_each {k : List K} {vs : List Value} (h : ItemsAre knd k vs) : ∀ v ∈ vs, ∃ i, knd.is i v = true := by
  induction h with
  | nil => intro v hv; cases hv
  | cons h1 _ ih =>
    intro v hv
    rcases List.mem_cons.mp hv with e | hv
    · exact ⟨_, e ▸ h1⟩
    · exact ih v hv
theorem noClass {k : List K} {b : Addr} {Q : Bool → Shared → Prop} (fl : Flat8 knd) (hk : IsTupleKey knd s.heap k b) (h : Q false s) : wpAny (model P w) A (ofAClassStatement 8 (.ref b)) Q E s := by
  have hT := hk.typeIs
  obtain ⟨o, items, n, ho, _, hd, hi⟩ := hk
  unfold ofAClassStatement
  refine wpAny_bind (wpAny_typeOf hT ?_)
  dsimp only
  have e : (("tuple" : String) == "tuple") = true := by decide
  simp only [e, if_true, Bool.not_true, Bool.false_eq_true, if_false]
  try refine wpAny_bind (wpAny_pure ?_)
  try simp only [Bool.not_true, Bool.false_eq_true, if_false]
  show wpAny _ _ (seqItems? (.ref b) >>= _) _ _ s
  refine wpAny_bind (wpAny_seqItems ho hd ?_)
  dsimp only
  refine wpAny_bind ?_
  show wpAny _ _ (forIn items _ _) _ _ s
  rw [← Array.forIn_toList]
  refine wpAny_forIn_list _ (fun rest r s' => r.1 = none ∧ s' = s ∧ ∀ v ∈ rest, v ∈ items.toList) _ ?_ ?_ _ _ ⟨rfl, rfl, fun _ z => z⟩
  · rintro v rest r s' ⟨hr, rfl, hall⟩
    obtain ⟨i, hv⟩ := items_each hi v (hall v List.mem_cons_self)
    rw [(fl i v 7 hv).2]
    refine wpAny_bind (wpAny_pure ?_)
    simp only [Bool.false_eq_true, if_false]
    exact wpAny_pure ⟨rfl, rfl, fun u hu => hall u (List.mem_cons_of_mem _ hu)⟩
  · rintro ⟨r1, r2⟩ s' ⟨hr, rfl, _⟩
    simp only at hr
    subst hr
    exact wpAny_pure h
theorem someHash {k : List K} {b : Addr} {Q : Bool → Shared → Prop} (fl : Flat8 knd) (hk : IsTupleKey knd s.heap k b) (h : ∀ c, Q c s) : wpAny (model P w) A (hashByValue 8 (.ref b)) Q E s := by
  have hT := hk.typeIs
  obtain ⟨o, items, n, ho, _, hd, hi⟩ := hk
  unfold hashByValue
  refine wpAny_bind (wpAny_specialOf hT F.slot_tuple_hash.lookup ?_)
  show wpAny _ _ (seqItems? (.ref b) >>= _) _ _ s
  refine wpAny_bind (wpAny_seqItems ho hd ?_)
  refine wpAny_bind ?_
  show wpAny _ _ (forIn items _ _) _ _ s
  rw [← Array.forIn_toList]
  refine wpAny_forIn_list _ (fun rest r s' => r.1 = none ∧ s' = s ∧ ∀ v ∈ rest, v ∈ items.toList) _ ?_ ?_ _ _ ⟨rfl, rfl, fun _ z => z⟩
  · rintro v rest r s' ⟨hr, rfl, hall⟩
    obtain ⟨i, hv⟩ := items_each hi v (hall v List.mem_cons_self)
    obtain ⟨c, ec⟩ := (fl i v 7 hv).1
    rw [ec]
    refine wpAny_bind (wpAny_pure ?_)
    cases c with
    | true =>
      simp only [Bool.not_true, Bool.false_eq_true, if_false]
      exact wpAny_pure ⟨rfl, rfl, fun u hu => hall u (List.mem_cons_of_mem _ hu)⟩
    | false =>
      simp only [Bool.not_false, if_true]
      exact wpAny_pure (wpAny_pure (h _))
  · rintro ⟨r1, r2⟩ s' ⟨hr, rfl, _⟩
    simp only at hr
    subst hr
    exact wpAny_pure (h _)
theorem noShow {k : List K} {b : Addr} {Q : Bool → Shared → Prop} (fl : Flat8 knd) (hk : IsTupleKey knd s.heap k b) {ys : List Value} (hy : ∀ y ∈ ys, ∃ k' c, y = Value.ref c ∧ IsTupleKey knd s.heap k' c) (h : Q false s) :
    wpAny (model P w) A (searchCouldBeSeen (.ref b) ys) Q E s := by
  unfold searchCouldBeSeen
  refine wpAny_bind ?_
  refine wpAny_forIn_list _ (fun rest r s' => r.1 = none ∧ s' = s ∧ ∀ y ∈ rest, ∃ k' c, y = Value.ref c ∧ IsTupleKey knd s.heap k' c) _ ?_ ?_ _ _ ⟨rfl, rfl, hy⟩
  · rintro v rest r s' ⟨hr, rfl, hall⟩
    obtain ⟨k', c, rfl, hc⟩ := hall v List.mem_cons_self
    have tl : ∀ y ∈ rest, ∃ k' c, y = Value.ref c ∧ IsTupleKey knd s'.heap k' c := fun u hu => hall u (List.mem_cons_of_mem _ hu)
    dsimp only
    by_cases hv : (b == c || (carriedByValue (.ref b) && carriedByValue (.ref c))) = true
    · exact wp_if_pos hv (wpAny_pure ⟨rfl, rfl, tl⟩)
    · refine wp_if_neg hv (wpAny_bind (wpAny_eqIsQuiet_tuple hk ?_))
      simp only [Bool.not_true, Bool.false_eq_true, if_false]
      refine wpAny_bind (wpAny_eqIsQuiet_tuple hc ?_)
      simp only [Bool.not_true, Bool.false_eq_true, if_false]
      refine wpAny_bind (noClass fl hk ?_)
      simp only [Bool.false_eq_true, if_false]
      refine wpAny_bind (noClass fl hc ?_)
      simp only [Bool.false_eq_true, if_false]
      exact wpAny_pure ⟨rfl, rfl, tl⟩
  · rintro ⟨r1, r2⟩ s' ⟨hr, rfl, _⟩
    simp only at hr
    subst hr
    exact wpAny_pure h
/-! ### such a set -/
abbrev Mem (K : Type) := List (Addr × List K)
def rowsT (knd : KeyKind P w K) (L : Mem K) : List (Int × Value) := L.map fun p => (tkh knd p.2, Value.ref p.1)
def hashesT (knd : KeyKind P w K) (L : Mem K) : List Int := L.map fun p => tkh knd p.2
structure TSet (knd : KeyKind P w K) (h : Heap) (a : Addr) (L : Mem K) (es : Array (Int × Value)) (ep : Nat) (t : SetTable) : Prop where
  ob : ∃ o, h.get? a = some o ∧ o.ExactSet ∧ o.data = .set es ep t
  rows : es.toList = rowsT knd L
  tab : TabOk t (hashesT knd L)
  nd : (L.map (·.2)).Nodup
  tup : ∀ p ∈ L, IsTupleKey knd h p.2 p.1
  room : L.length * 5 < t.mask * 3
  few : L.length < 64
variable {a : Addr} {L : Mem K} {es : Array (Int × Value)} {ep : Nat} {t : SetTable}
theorem rows_size {L : Mem K} {es : Array (Int × Value)} (r : es.toList = rowsT knd L) : es.size = L.length := by
  rw [← Array.length_toList, r, rowsT, List.length_map]
theorem rows_at {L : Mem K} {es : Array (Int × Value)} (r : es.toList = rowsT knd L) {i : Nat} {p : Addr × List K} (h : L[i]? = some p) : es[i]? = some (tkh knd p.2, Value.ref p.1) := by
  rw [← Array.getElem?_toList, r, rowsT, List.getElem?_map, h]
  rfl
theorem TSet.fits (R : TSet knd s.heap a L es ep t) : t.fits es.size = true := by
  have h1 := R.tab.sz
  have h2 := rows_size R.rows
  have h3 := R.room
  rw [hashesT, List.length_map] at h1
  unfold SetTable.fits SetTable.fill
  rw [R.tab.dm, Bool.and_eq_true, beq_iff_eq, decide_eq_true_eq]
  show t.place.size = es.size ∧ t.place.size + 0 ≤ t.mask
  omega
theorem TSet.sound (R : TSet knd s.heap a L es ep t) : ¬ t.gaveWay = true := by
  unfold SetTable.gaveWay
  rw [mask_odd R.tab.mok]
  decide
/-- the search, from the c-th step of the way on; K is the first free step -/
theorem seek (fl : Flat8 knd) (R : TSet knd s.heap a L es ep t) {x : Addr} {k : List K} (hx : IsTupleKey knd s.heap k x) (hu : A.units < cLine) {N : Nat} (hNf : N < 10 * SetTable.turns t.mask)
    (hN : way t.mask (tkh knd k) N ∉ t.place.toList) (hNb : ∀ c, c < N → way t.mask (tkh knd k) c ∈ t.place.toList) {Q : SetFound → Shared → Prop}
    (yes : k ∈ L.map (·.2) → Q (.there none) s) (no : k ∉ L.map (·.2) → Q (.free (way t.mask (tkh knd k) N) false) s) :
    ∀ (f c : Nat) (stand : Option SetTable.Probe), stand.getD (t.probeStart (tkh knd k)) = nth t.mask (runAt t.mask (SetTable.bits (tkh knd k) % (t.mask + 1)) (SetTable.bits (tkh knd k))) c → c ≤ N → N - c < f →
      (∀ (i : Nat) p, L[i]? = some p → p.2 = k → ∃ c', c ≤ c' ∧ c' < N ∧ t.place.toList[i]? = some (way t.mask (tkh knd k) c')) →
      wpAny (model P w) A (setSearchFrom a (.ref x) (tkh knd k) true f stand) Q E s := by
  intro f
  induction f with
  | zero => intro c stand _ _ hf _; exact absurd hf (Nat.not_lt_zero _)
  | succ f ih =>
    intro c stand est hc hf ahead
    obtain ⟨o, ho, hex, hd⟩ := R.ob
    generalize eh : tkh knd k = hh at *
    generalize ers : runAt t.mask (SetTable.bits hh % (t.mask + 1)) (SetTable.bits hh) = st0 at *
    have wj : ∀ n, way t.mask hh n = (nth t.mask st0 n).j := fun n => by rw [← ers]
    rw [setSearchFrom_succ]
    refine wpAny_bind (wpAny_setState_of ho hd R.fits ?_)
    dsimp only
    refine wp_if_neg R.sound ?_
    try refine wpAny_bind (wpAny_pure ?_)
    have noDummy : ∀ (n : Nat) (p : SetTable.Probe), p.dummy = none → (nth t.mask p n).dummy = none := by
      intro n
      induction n with
      | zero => intro p z; exact z
      | succ n ih' =>
        intro p z
        refine ih' (adv t.mask p) ?_
        unfold adv
        split <;> exact z
    have d0 : (nth t.mask st0 c).dummy = none := noDummy c st0 (by rw [← ers]; rfl)
    have later : ∀ q, nth t.mask (nth t.mask st0 c) q = nth t.mask st0 (c + q) := fun q => (nth_add t.mask c st0 q).symm
    have hashAt : ∀ (i : Nat) p, L[i]? = some p → (fun i => (es[i]?.map (·.1)).getD 0) i = tkh knd p.2 := fun i p hp => by
      show (es[i]?.map (·.1)).getD 0 = _
      rw [rows_at R.rows hp]
      rfl
    rcases go_spec t R.tab.ris R.tab.dm (fun i => (es[i]?.map (·.1)).getD 0) hh (10 * SetTable.turns t.mask) (N - c) (nth t.mask st0 c) d0 (by omega)
      (fun q hq => by rw [later, ← wj]; exact hNb (c + q) (by omega)) (by rw [later, ← wj, show c + (N - c) = N by omega]; exact hN) with ⟨q, i, hq, hi, hash, skipped, met⟩ | ⟨skipped, met⟩
    · -- an entry of this hash
      have met' : t.probe (fun i => (es[i]?.map (·.1)).getD 0) hh (stand.getD (t.probeStart hh)) = some (.candidate (way t.mask hh (c + q)) i (nth t.mask st0 (c + (q + 1)))) := by
        rw [est, wj, ← later, ← later]
        exact met
      rw [met']
      dsimp only
      rw [later, ← wj] at hi
      have lt : i < L.length := by
        have h1 : i < t.place.toList.length := (List.getElem?_eq_some_iff.mp hi).1
        have h2 := R.tab.sz
        rw [hashesT, List.length_map] at h2
        rw [Array.length_toList] at h1
        omega
      obtain ⟨p, hp⟩ : ∃ p, L[i]? = some p := ⟨_, List.getElem?_eq_getElem lt⟩
      have hpm : p ∈ L := List.mem_of_getElem? hp
      have rest : wpAny (model P w) A (searchRest a (.ref x) hh true f es t (way t.mask hh (c + q)) i (nth t.mask st0 (c + (q + 1)))) Q E s := by
        unfold searchRest
        rw [rows_at R.rows hp]
        dsimp only
        refine wpAny_bind (wpAny_holding (wpAny_eqBool_tuple hu (R.tup p hpm) hx (wpAny_bind (wpAny_setState_of ho hd R.fits ?_))))
        dsimp only
        by_cases same : p.2 = k
        · exact wp_if_pos (by simp [same]) (wpAny_pure (yes (List.mem_map.mpr ⟨p, hpm, same⟩)))
        · refine wp_if_neg (by simp [same]) ?_
          try refine wpAny_bind (wpAny_pure ?_)
          rw [sameMem]
          dsimp only
          have live : t.slot (way t.mask hh (c + q)) = .live i := slot_live R.tab.ris hi
          simp only [if_true, live, rows_at R.rows hp]
          refine wpAny_bind (wpAny_isSame_ref_self (wpAny_bind (wpAny_pure ?_)))
          simp only [if_true]
          refine wp_if_neg (by simp [same]) ?_
          refine ih (c + (q + 1)) _ rfl (by omega) (by omega) fun i0 p0 h0 hk0 => ?_
          obtain ⟨c', a1, a2, a3⟩ := ahead i0 p0 h0 hk0
          have hz : (fun i => (es[i]?.map (·.1)).getD 0) i0 = hh := by rw [hashAt i0 p0 h0, hk0, eh]
          refine ⟨c', ?_, a2, a3⟩
          rcases Nat.lt_trichotomy c' (c + q) with z | z | z
          · exact (skipped (c' - c) i0 (by omega) (by rw [later, ← wj, show c + (c' - c) = c' by omega]; exact a3) hz).elim
          · rw [z] at a3
            have live2 := slot_live R.tab.ris a3
            rw [live] at live2
            injection live2 with e
            rw [← e, hp] at h0
            exact (same ((congrArg Prod.snd (Option.some.inj h0)).trans hk0)).elim
          · omega
      by_cases led : t.led = true
      · refine wp_if_neg (by simp [led]) ?_
        try refine wpAny_bind (wpAny_pure ?_)
        exact rest
      · refine wp_if_pos (by simp [led]) (wpAny_bind (noShow fl hx (fun y hy => ?_) ?_))
        · obtain ⟨e, he, ee⟩ := List.mem_map.mp hy
          have he2 : e ∈ es ∧ e.1 = hh := by simpa using he
          have he3 : e ∈ es.toList := by simpa using he2.1
          rw [R.rows, rowsT] at he3
          obtain ⟨p2, hp2, e2⟩ := List.mem_map.mp he3
          exact ⟨p2.2, p2.1, by rw [← ee, ← e2], R.tup p2 hp2⟩
        · refine wp_if_neg (by decide) ?_
          try refine wpAny_bind (wpAny_pure ?_)
          exact rest
    · -- a free slot
      have met' : t.probe (fun i => (es[i]?.map (·.1)).getD 0) hh (stand.getD (t.probeStart hh)) = some (.empty (way t.mask hh N) none) := by
        have e2 : way t.mask hh N = (nth t.mask (nth t.mask st0 c) (N - c)).j := by rw [later, ← wj, show c + (N - c) = N by omega]
        rw [est, e2]
        exact met
      rw [met']
      dsimp only
      refine wpAny_pure (no fun hm => ?_)
      obtain ⟨p0, h0, hk0⟩ := List.mem_map.mp hm
      obtain ⟨i0, hi0, e0⟩ := List.getElem_of_mem h0
      have h00 : L[i0]? = some p0 := by rw [List.getElem?_eq_getElem hi0, e0]
      obtain ⟨c', a1, a2, a3⟩ := ahead i0 p0 h00 hk0
      exact skipped (c' - c) i0 (by omega) (by rw [later, ← wj, show c + (c' - c) = c' by omega]; exact a3) ((hashAt i0 p0 h00).trans (by rw [hk0, eh]))
theorem seek_all (fl : Flat8 knd) (R : TSet knd s.heap a L es ep t) {x : Addr} {k : List K} (hx : IsTupleKey knd s.heap k x) (hu : A.units < cLine) {Q : SetFound → Shared → Prop} (yes : k ∈ L.map (·.2) → Q (.there none) s)
    (no : ∀ N, k ∉ L.map (·.2) → way t.mask (tkh knd k) N ∉ t.place.toList → (∀ c, c < N → way t.mask (tkh knd k) c ∈ t.place.toList) → Q (.free (way t.mask (tkh knd k) N) false) s) :
    wpAny (model P w) A (setSearch a (.ref x) (tkh knd k) true) Q E s := by
  have room := R.room
  obtain ⟨N, hNf, hN, hNb⟩ := R.tab.first (by rw [hashesT, List.length_map]; omega) (tkh knd k)
  have few : 10 * SetTable.turns t.mask ≤ 1420 := by
    unfold SetTable.turns
    rcases R.tab.mok with e | e | e <;> omega
  unfold setSearch
  refine seek fl R hx hu hNf hN hNb yes (fun z => no N z hN hNb) 100000 0 none rfl (Nat.zero_le _) (by omega) fun i p hp hk => ?_
  have hi : (hashesT knd L)[i]? = some (tkh knd k) := by rw [hashesT, List.getElem?_map, hp, ← hk]; rfl
  have lt : i < t.place.toList.length := by
    have h1 : i < L.length := (List.getElem?_eq_some_iff.mp hp).1
    have h2 := R.tab.sz
    rw [hashesT, List.length_map] at h2
    rw [Array.length_toList]
    omega
  have hj := List.getElem?_eq_getElem lt
  obtain ⟨c, hc, e⟩ := R.tab.before hN hi hj
  exact ⟨c, Nat.zero_le _, hc, by rw [hj, e]⟩
/-! ### one tuple more -/
theorem still_tuple {h h' : Heap} {k : List K} {a b : Addr} {o : Obj} {es : Array (Int × Value)} {ep : Nat} {t : SetTable} (hb : IsTupleKey knd h k b) (ho : h.get? a = some o) (hd : o.data = .set es ep t) (hs : Heap.SameBut a h h') : IsTupleKey knd h' k b := by
  obtain ⟨o', items, n, ho', hc, hd', hi⟩ := hb
  refine ⟨o', items, n, (hs.2 b fun z => ?_).trans ho', hc, hd', hi⟩
  rw [z, ho] at ho'
  rw [← Option.some.inj ho', hd] at hd'
  cases hd'
theorem slid {α : Type} (l : List α) (p : Nat) (x : α) : (l.take p ++ x :: l.drop p).Perm (x :: l) := by
  have h : (l.take p ++ x :: l.drop p).Perm (x :: (l.take p ++ l.drop p)) := List.perm_middle
  rwa [List.take_append_drop] at h
theorem picked_all {α : Type} (l : List α) : (List.range l.length).filterMap (fun i => l[i]?) = l := by
  apply List.ext_getElem?
  intro i
  have e : (List.range l.length).filterMap (fun i => l[i]?) = (List.range l.length).pmap (fun i (h : i < l.length) => l[i]) fun i h => List.mem_range.mp h := by
    have key : ∀ (m : List Nat) (hm : ∀ i ∈ m, i < l.length), m.filterMap (fun i => l[i]?) = m.pmap (fun i (h : i < l.length) => l[i]) hm := by
      intro m
      induction m with
      | nil => intro _; rfl
      | cons i m ih =>
        intro hm
        rw [List.filterMap_cons_some (List.getElem?_eq_getElem (hm i List.mem_cons_self)), ih fun j hj => hm j (List.mem_cons_of_mem _ hj)]
        rfl
    exact key _ _
  rw [e]
  by_cases h : i < l.length
  · rw [List.getElem?_eq_getElem h, List.getElem?_eq_getElem (by simpa using h)]
    simp
  · rw [List.getElem?_eq_none (by simpa using h), List.getElem?_eq_none (by omega)]
/-- the rows taken in another order -/
theorem rows_order {L : Mem K} {es : Array (Int × Value)} {order : Array Nat} (hr : es.toList = rowsT knd L) (hp : order.toList.Perm (List.range L.length)) :
    ∃ L2 : Mem K, (order.filterMap (es[·]?)).toList = rowsT knd L2 ∧ L2.Perm L ∧ hashesT knd L2 = order.toList.map fun i => (es.map (·.1)).getD i 0 := by
  have bound : ∀ i ∈ order.toList, i < L.length := fun i hi => List.mem_range.mp (hp.mem_iff.mp hi)
  refine ⟨order.toList.filterMap fun i => L[i]?, ?_, ?_, ?_⟩
  · rw [Array.toList_filterMap, rowsT, List.map_filterMap]
    have key : ∀ (m : List Nat), (∀ i ∈ m, i < L.length) → m.filterMap (fun i => es[i]?) = m.filterMap fun i => (L[i]?).map fun p => ((tkh knd p.2, Value.ref p.1) : Int × Value) := by
      intro m
      induction m with
      | nil => intro _; rfl
      | cons i m ih =>
        intro hm
        have hi := hm i List.mem_cons_self
        rw [List.filterMap_cons_some (rows_at hr (List.getElem?_eq_getElem hi)), ih fun j hj => hm j (List.mem_cons_of_mem _ hj), List.filterMap_cons_some (by rw [List.getElem?_eq_getElem hi]; rfl)]
    exact key _ bound
  · have q := hp.filterMap fun i => L[i]?
    rwa [picked_all] at q
  · rw [hashesT, List.map_filterMap]
    have key : ∀ (m : List Nat), (∀ i ∈ m, i < L.length) → m.filterMap (fun i => (L[i]?).map fun p => tkh knd p.2) = m.map fun i => (es.map (·.1)).getD i 0 := by
      intro m
      induction m with
      | nil => intro _; rfl
      | cons i m ih =>
        intro hm
        have hi := hm i List.mem_cons_self
        have e1 : (es.map (·.1))[i]? = some (tkh knd (L[i]).2) := by rw [Array.getElem?_map, rows_at hr (List.getElem?_eq_getElem hi)]; rfl
        rw [List.filterMap_cons_some (b := tkh knd (L[i]).2) (by rw [List.getElem?_eq_getElem hi]; rfl), ih fun j hj => hm j (List.mem_cons_of_mem _ hj), List.map_cons]
        simp [Array.getD_eq_getD_getElem?, e1]
    exact key _ bound
theorem relay_more {o : Obj} (ho : s.heap.get? a = some o) (hex : o.ExactSet) (hd : o.data = .set es ep t) (hrows : es.toList = rowsT knd L) (hsz : t.place.size = es.size) (hdm : t.dummies = #[]) (hfl : es.size ≤ t.mask)
    (nd : (L.map (·.2)).Nodup) (tup : ∀ p ∈ L, IsTupleKey knd s.heap p.2 p.1) (few : L.length < 64) {wanted M : Nat} (hw : SetTable.sizeAbove wanted - 1 = M) (hM : MaskOk M) (hw2 : SetTable.sizeAbove wanted ≤ 128) (hn : L.length * 5 < M * 3)
    {Q : Unit → Shared → Prop} (hQ : ∀ h' L' es' ep' t', Heap.SameBut a s.heap h' → TSet knd h' a L' es' ep' t' → L'.Perm L → Q () { s with heap := h' }) : wpAny (model P w) A (setRelay a wanted) Q E s := by
  have len := rows_size hrows
  have fits : t.fits es.size = true := by
    unfold SetTable.fits SetTable.fill
    rw [hdm, Bool.and_eq_true, beq_iff_eq, decide_eq_true_eq]
    show t.place.size = es.size ∧ t.place.size + 0 ≤ t.mask
    omega
  obtain ⟨t', order, e, hp, T, em, el, ep', ed⟩ := relaid_ok t (hs := es.map (·.1)) (wanted := wanted) hw hM (by rw [Array.size_map, len]; omega)
  rw [Array.size_map, len] at hp
  obtain ⟨L2, r1, r2, r3⟩ := rows_order hrows hp
  rw [← r3] at T
  have len2 : (order.filterMap (es[·]?)).size = es.size := by rw [rows_size r1, r2.length_eq, len]
  rw [setRelay_eq]
  refine wpAny_bind (wpAny_setState_of ho hd fits ?_)
  dsimp only
  refine wp_if_neg (by rw [sizeLine_eq]; omega) ?_
  try refine wpAny_bind (wpAny_pure ?_)
  rw [e]
  dsimp only
  refine wpAny_bind (wp_if_neg (by rw [len2]; simp) ?_)
  try refine wpAny_bind (wpAny_pure ?_)
  refine wpAny_pure ?_
  dsimp only
  refine wpAny_storeSet_of ho hd ?_ (by rw [len2, len, sizeLine_eq]; omega)
  have sb : Heap.SameBut a s.heap (s.heap.update a (Obj.putSet (order.filterMap (es[·]?)) t')) := Heap.SameBut.update ..
  exact hQ _ L2 (order.filterMap (es[·]?)) (ep + 1) t' sb ⟨⟨_, store_at ho hd, ⟨hex.1, hex.2.1, hex.2.2⟩, rfl⟩, r1, T, (r2.map (·.2)).nodup_iff.mpr nd, fun p hpm => still_tuple (tup p (r2.mem_iff.mp hpm)) ho hd sb,
    by rw [r2.length_eq, em]; exact hn, by rw [r2.length_eq]; exact few⟩ r2
/-- L' is L, or L and x at k -/
def MoreT (x : Addr) (k : List K) (L L' : Mem K) : Prop := (k ∈ L.map (·.2) ∧ L' = L) ∨ (k ∉ L.map (·.2) ∧ L'.Perm ((x, k) :: L))
theorem tset_add (fl : Flat8 knd) (R : TSet knd s.heap a L es ep t) {x : Addr} {k : List K} (hx : IsTupleKey knd s.heap k x) (hu : A.units < cLine) (few : L.length + 1 < 64) {Q : Bool → Shared → Prop}
    (hQ : ∀ b h' L' es' ep' t', Heap.SameBut a s.heap h' → TSet knd h' a L' es' ep' t' → MoreT x k L L' → Q b { s with heap := h' }) : wpAny (model P w) A (setAddHashed a (.ref x) (tkh knd k)) Q E s := by
  have R0 := R
  obtain ⟨o, ho, hex, hd⟩ := R.ob
  have len := rows_size R.rows
  have room := R.room
  unfold setAddHashed
  refine wpAny_holding ?_
  rw [show (100000 : Nat) = 99999 + 1 from rfl, setAddHashedIn_succ]
  refine wpAny_bind (wpAny_setState_of ho hd R.fits ?_)
  dsimp only
  refine wp_if_neg (by simp [byScan, Value.scannable]) ?_
  try refine wpAny_bind (wpAny_pure ?_)
  refine wpAny_bind (seek_all fl R hx hu (fun hm => ?_) fun N hm hN hb => ?_)
  · dsimp only
    exact wpAny_pure (hQ false s.heap L es ep t (Heap.SameBut.refl a s.heap) R0 (.inl ⟨hm, rfl⟩))
  · dsimp only
    refine wpAny_bind (wpAny_setState_of ho hd R.fits ?_)
    dsimp only
    obtain ⟨q1, q2, q3, q4, _, _, _, _, q9⟩ := R.tab.put hN hb
    generalize hpt : t.put (way t.mask (tkh knd k) N) = pt at q1 q3 q4 q9 ⊢
    obtain ⟨t1, p⟩ := pt
    dsimp only at q1 q3 q4 q9 ⊢
    subst q1
    have rowsIn : (SetTable.insertAt es (SetTable.below t.place (way t.mask (tkh knd k) N)) (tkh knd k, Value.ref x)).toList = rowsT knd (L.take (SetTable.below t.place (way t.mask (tkh knd k) N)) ++ (x, k) :: L.drop (SetTable.below t.place (way t.mask (tkh knd k) N))) := by
      rw [SetTable.toList_insertAt, R.rows, rowsT, rowsT, List.map_append, List.map_cons, List.map_take, List.map_drop]
    generalize SetTable.below t.place (way t.mask (tkh knd k) N) = p at q2 q3 rowsIn ⊢
    have pm := slid L p (x, k)
    have hs1 : hashesT knd (L.take p ++ (x, k) :: L.drop p) = (hashesT knd L).take p ++ tkh knd k :: (hashesT knd L).drop p := by
      unfold hashesT
      rw [List.map_append, List.map_cons, List.map_take, List.map_drop]
    rw [← hs1] at q3
    have nd1 : ((L.take p ++ (x, k) :: L.drop p).map (·.2)).Nodup := (pm.map (·.2)).nodup_iff.mpr (List.nodup_cons.mpr ⟨hm, R.nd⟩)
    generalize SetTable.insertAt es p (tkh knd k, Value.ref x) = es1 at rowsIn ⊢
    generalize L.take p ++ (x, k) :: L.drop p = L1 at pm q3 nd1 rowsIn
    have len1 : L1.length = L.length + 1 := pm.length_eq
    have sz1 : es1.size = L.length + 1 := by rw [rows_size rowsIn, len1]
    -- whatever is told of the order
    have go : ∀ t2 : SetTable, t2.place = t1.place → t2.dummies = t1.dummies → t2.mask = t1.mask →
        wpAny (model P w) A (do
          storeSet a es1 t2
          if !false && t2.tooFull then setRelay a (SetTable.grown (es.size + 1))
          return true) Q E s := fun t2 e1 e2 e3 => by
      have T2 : TabOk t2 (hashesT knd L1) := by
        obtain ⟨z1, z2, z3, z4, z5, z6⟩ := q3
        exact ⟨by rw [e1]; exact z1, by rw [e2]; exact z2, by rw [e1]; exact z3, by rw [e3]; exact z4, by rw [e1, e3]; exact z5, by rw [e1, e3]; exact z6⟩
      refine wpAny_bind (wpAny_storeSet_of ho hd ?_ (by rw [sz1, sizeLine_eq]; omega))
      have sb : Heap.SameBut a s.heap (s.heap.update a (Obj.putSet es1 t2)) := Heap.SameBut.update ..
      have ho1 := store_at (es' := es1) (t' := t2) ho hd
      generalize s.heap.update a (Obj.putSet es1 t2) = h1 at sb ho1 ⊢
      have tup1 : ∀ p ∈ L1, IsTupleKey knd h1 p.2 p.1 := fun p hp => by
        rcases List.mem_cons.mp (pm.mem_iff.mp hp) with e | hp
        · rw [e]; exact still_tuple hx ho hd sb
        · exact still_tuple (R.tup p hp) ho hd sb
      have fill2 : t2.fill = L.length + 1 := by
        have z : t1.fill = (hashesT knd L).length + 1 := q9
        rw [hashesT, List.length_map] at z
        unfold SetTable.fill at z ⊢
        rw [e1, e2]; exact z
      by_cases hf : t2.tooFull = true
      · have full : (L.length + 1) * 5 ≥ t2.mask * 3 := by
          have z := hf
          unfold SetTable.tooFull at z
          rw [decide_eq_true_eq, fill2] at z
          exact z
        rw [e3, q4] at full
        have cases2 : (t.mask = 7 ∧ L.length = 4) ∨ (t.mask = 31 ∧ L.length = 18) := by
          rcases R.tab.mok with e | e | e <;> rw [e] at full room
          · exact .inl ⟨e, by omega⟩
          · exact .inr ⟨e, by omega⟩
          · omega
        have lay : ∀ M, SetTable.sizeAbove (SetTable.grown (L.length + 1)) - 1 = M → MaskOk M → SetTable.sizeAbove (SetTable.grown (L.length + 1)) ≤ 128 → (L.length + 1) * 5 < M * 3 →
            wpAny (model P w) A (setRelay a (SetTable.grown (L.length + 1))) (fun _ s' => wpAny (model P w) A (pure true) Q E s') E { s with heap := h1 } := fun M b1 b2 b3 b4 =>
          relay_more (s := { s with heap := h1 }) ho1 ⟨hex.1, hex.2.1, hex.2.2⟩ rfl rowsIn (by have z := T2.sz; rw [hashesT, List.length_map] at z; rw [z, len1, sz1]) T2.dm (by rw [sz1, e3, q4]; rcases cases2 with ⟨e, e2⟩ | ⟨e, e2⟩ <;> omega) nd1 tup1 (by rw [len1]; exact few) b1 b2 b3 (by rw [len1]; exact b4)
            fun h2 L2 es2 ep2 t3 sb2 R2 pm2 => wpAny_pure (hQ true h2 L2 es2 ep2 t3 (sb.trans sb2) R2 (.inr ⟨hm, pm2.trans pm⟩))
        rw [len]
        first
          | (refine wpAny_bind ?_; refine wp_if_pos (by simp [hf]) ?_)
          | (refine wp_if_pos (by simp [hf]) ?_; refine wpAny_bind ?_)
        rcases cases2 with ⟨_, e2⟩ | ⟨_, e2⟩
        · exact lay 31 (by rw [e2, size_20]) (.inr (.inl rfl)) (by rw [e2, size_20]; decide) (by omega)
        · exact lay 127 (by rw [e2, size_76]) (.inr (.inr rfl)) (by rw [e2, size_76]; decide) (by omega)
      · first
          | refine wp_if_neg (by simp [hf]) ?_
          | (refine wpAny_bind ?_; refine wp_if_neg (by simp [hf]) ?_; refine wpAny_pure ?_)
        refine wpAny_pure (hQ true h1 L1 es1 (ep + 1) t2 sb ⟨⟨_, ho1, ⟨hex.1, hex.2.1, hex.2.2⟩, rfl⟩, rowsIn, T2, nd1, tup1, ?_, by rw [len1]; exact few⟩ (.inr ⟨hm, pm⟩))
        have z := hf
        unfold SetTable.tooFull at z
        rw [decide_eq_true_eq, fill2] at z
        rw [len1]
        omega
    by_cases pl : t1.plain = true
    · first
        | (refine wpAny_bind ?_; refine wp_if_pos pl ?_; refine someHash fl hx fun c => ?_)
        | refine wp_if_pos pl (wpAny_bind (someHash fl hx fun c => ?_))
      cases c with
      | true => exact go _ rfl rfl rfl
      | false => exact go _ rfl rfl rfl
    · first
        | (refine wpAny_bind ?_; refine wp_if_neg pl ?_; refine wpAny_pure ?_)
        | refine wp_if_neg pl (wpAny_bind (wpAny_pure ?_))
      exact go _ rfl rfl rfl
theorem tset_fresh {h : Heap} {led : Bool} (ho : h.get? a = some { cls := .type "set", dict := none, data := .set #[] 0 (.fresh 0 0 led) }) : TSet knd h a [] #[] 0 (.fresh 0 0 led) where
  ob := ⟨_, ho, ⟨rfl, rfl, rfl⟩, rfl⟩
  rows := rfl
  tab := ⟨List.Pairwise.nil, rfl, rfl, .inl rfl, fun x hx => (by cases hx), fun i h j hi => (by simp [hashesT] at hi)⟩
  nd := List.nodup_nil
  tup := fun p hp => nomatch hp
  room := by show 0 * 5 < 7 * 3; decide
  few := by show 0 < 64; decide
end
end Q9
end
-- QOwn
section
set_option maxRecDepth 100000
set_option maxHeartbeats 4000000
/-! e[k] and k in e by own __getitem__ and __contains__ -/
namespace Q9
open PySem L2
/-- the class (or one above it) has the name as the def at f -/
structure OwnAt (K : PySem.W.Frag) (C : Addr) (nm : Str) (f : Addr) : Prop where
  at_ : PySem.W.findIn K (.ref C) nm = some (some (.ref f))
  fn : PySem.W.fnIn K f = true
  isf : PySem.W.isFn K (.ref f) = true
/-- the promise at the object and the other value -/
def rOwn2 (C : Addr) (sp : Sp) (E : XK) : R2 := fun x y H Q => ∃ a dx fs, x = .ref a ∧ H a = some (.ins C dx fs) ∧ sp [.ref a, y] H Q E
def rOwnIn (C : Addr) (sp : Sp) (E : XK) : R2 := fun y x H Q => ∃ a dx fs, x = .ref a ∧ H a = some (.ins C dx fs) ∧ sp [.ref a, y] H (fun z H' => ∃ b, z = .bl b ∧ Q (.bl b) H') E
def rOwnNotIn (C : Addr) (sp : Sp) (E : XK) : R2 := fun y x H Q => ∃ a dx fs, x = .ref a ∧ H a = some (.ins C dx fs) ∧ sp [.ref a, y] H (fun z H' => ∃ b, z = .bl b ∧ Q (.bl (!b)) H') E
section
variable {X : Cx} {CX : CXT} {k : Nat} {C f : Addr} {fd : FuncData} {ps : List Str} {sp : Sp} {E : XK} {a b : Expr} {pos : Pos} {ta tb : TE}
/-- a def runs one call deeper -/
theorem run_in1 {pins : List (Addr × Obj)} {σ : St} {H : Hp} {s : Shared} {Q : VK} {us : List Value} {vs : List V} (F : FnOk X.prog X.w X.K X.mg X.base CX k f fd ps sp) (hr : Room (k + 1) X.A) (hb : Binds X.K fd ps []) (hx : Passes CX X E)
    (I : Inv X pins σ H s) (r : Vals vs us) (h : sp vs H Q E) : wpAny (model X.prog X.w) X.A.in1 (call (.ref f) us) (EP X pins σ Q) X.xe s := by
  have hl : (us ++ []).length = ps.length := by rw [List.append_nil, ← r.length]; exact F.len _ _ _ _ h
  have hbs := hb s us I.kIn hl
  rw [List.append_nil] at hbs
  refine wpAny_call (codeAny_mono (F.run X.A.in1 X.stack s H ⟨us, []⟩ us vs Q E hr.in1 I.env0.in1 hbs r h) fun r s' hq => ?_)
  cases r with
  | error e => exact hx pins σ H s e s' I hq
  | ok fl =>
    cases fl with
    | ret u => exact I.after hq
    | next => exact False.elim hq
    | brk => exact False.elim hq
    | cont => exact False.elim hq
theorem pe_ownIx (c : OwnAt X.K C "__getitem__" f) (F : FnOk X.prog X.w X.K X.mg X.base CX k f fd ps sp) (hr : Room (k + 1) X.A) (hb : Binds X.K fd ps []) (hx : Passes CX X E) (ha : PE X a ta) (hb2 : PE X b tb)
    (hs : ∀ o i, subscripted b true o i = runValue (.builtin "lifetime.subscript" ⟨[o, i], []⟩) := by intros; with_unfolding_all rfl) : PE X (.Subscript a b pos) (tOp (rOwn2 C sp E) ta tb) := by
  refine ⟨fun pins s σ H Q I h => ?_⟩
  refine PyProof.Rows.Subscript_ (binT ha hb2 I (R := fun x y H2 => rOwn2 C sp E x y H2 Q) h fun v u s2 x y H2 I2 rx ry q => ?_)
  obtain ⟨a1, dx, fs, ex, ea, q⟩ := q
  subst ex
  obtain rfl : v = Value.ref a1 := rx
  obtain ⟨mA, J, _⟩ := ins_get I2.hok ea
  obtain ⟨od, J, _⟩ := J.look
  obtain ⟨m, hF⟩ := I2.fr
  exact PySem.W.sub_K hF I2.ok.mod.kin J c.at_ c.fn c.isf (run_in1 (vs := [.ref a1, y]) F hr hb hx I2 (.cons rfl (.cons ry .nil)) q) (hs _ _)
theorem own_contains {pins : List (Addr × Obj)} {σ : St} {H : Hp} {s : Shared} {Q : Bool → Shared → Prop} {a1 dx : Addr} {fs : List (Str × V)} {y : V} {u : Value} (c : OwnAt X.K C "__contains__" f) (F : FnOk X.prog X.w X.K X.mg X.base CX k f fd ps sp) (hr : Room k X.A) (hb : Binds X.K fd ps []) (hx : Passes CX X E)
    (I : Inv X pins σ H s) (ea : H a1 = some (.ins C dx fs)) (ry : RelV y u) {Qv : VK} (h : sp [.ref a1, y] H Qv E) (fin : ∀ z H' s', Inv X pins σ H' s' → Qv z H' → ∃ b, z = .bl b ∧ Q b s') :
    wpAny (model X.prog X.w) X.A (contains (.ref a1) u) Q X.xe s := by
  obtain ⟨mA, J, _⟩ := ins_get I.hok ea
  obtain ⟨od, J, _⟩ := J.look
  unfold contains
  refine wpAny_holding ?_
  have e0 : stdlibNamesSay? (.ref a1) u = none := rfl
  rw [e0]
  refine wpAny_bind (wpAny_bind (J.type.here ((PySem.W.looks_findIn I.kIn c.at_).here ?_)))
  rw [if_neg (show ¬ ((some (Value.ref f) == some Value.none) = true) from Bool.false_ne_true)]
  refine wpAny_bind ?_
  unfold callSpecialUnlessNone?
  refine wpAny_bind (wpAny_bind (J.type.here ((PySem.W.looks_findIn I.kIn c.at_).here ?_)))
  refine wpAny_holding (wpAny_bind ((PySem.W.bind_fn I.kIn _ (beq_iff_eq.mp c.isf)).here ?_))
  dsimp only
  rw [if_neg (show ¬ ((Value.ref f == Value.none) = true) from Bool.false_ne_true)]
  refine wpAny_bind (wpAny_mono (run_fn (us := [.ref a1, u]) (vs := [.ref a1, y]) (ds := []) (dvs := []) F hr hb .nil hx I (.cons rfl (.cons ry .nil)) (by simpa using h)) (fun v s' hv => ?_) fun _ _ z => z)
  obtain ⟨z, H', I', rz, q⟩ := hv
  obtain ⟨b, rfl, qb⟩ := fin z H' s' I' q
  refine wpAny_pure ?_
  obtain rfl : v = Value.bool b := rz
  exact wpAny_truthy_bool qb
theorem op_ownIn (c : OwnAt X.K C "__contains__" f) (F : FnOk X.prog X.w X.K X.mg X.base CX k f fd ps sp) (hr : Room k X.A) (hb : Binds X.K fd ps []) (hx : Passes CX X E) : OpR X (compareOp .In) (rOwnIn C sp E) := by
  intro pins s σ H y x v u Q I ry rx h
  obtain ⟨a1, dx, fs, rfl, ea, q⟩ := h
  obtain rfl : u = Value.ref a1 := rx
  show wpAny _ _ (contains (.ref a1) v >>= fun b => pure (Value.bool b)) _ _ _
  exact wpAny_bind (own_contains c F hr hb hx I ea ry q fun z H' s' I' ⟨b, e, q⟩ => ⟨b, e, wpAny_pure ⟨.bl b, H', I', rfl, q⟩⟩)
theorem op_ownNotIn (c : OwnAt X.K C "__contains__" f) (F : FnOk X.prog X.w X.K X.mg X.base CX k f fd ps sp) (hr : Room k X.A) (hb : Binds X.K fd ps []) (hx : Passes CX X E) : OpR X (compareOp .NotIn) (rOwnNotIn C sp E) := by
  intro pins s σ H y x v u Q I ry rx h
  obtain ⟨a1, dx, fs, rfl, ea, q⟩ := h
  obtain rfl : u = Value.ref a1 := rx
  show wpAny _ _ (contains (.ref a1) v >>= fun b => pure (Value.bool (!b))) _ _ _
  exact wpAny_bind (own_contains c F hr hb hx I ea ry q fun z H' s' I' ⟨b, e, q⟩ => ⟨b, e, wpAny_pure ⟨.bl (!b), H', I', rfl, q⟩⟩)
end
end Q9
end
-- QTupRules
section
set_option maxRecDepth 100000
set_option maxHeartbeats 4000000
namespace Q9
open PySem PySem.Spec PyProof.Rows L2
theorem flat_mix {P : Program} {w : World} : Flat8 (mixKind P w) := by
  intro k v n h
  rcases keyIs_shape (show keyIs k v = true from h) with ⟨i, t, _, rfl⟩ | ⟨x, t, _, rfl⟩
  · refine ⟨⟨true, ?_⟩, ?_⟩
    · unfold hashByValue; rfl
    · unfold ofAClassStatement; rfl
  · refine ⟨⟨false, ?_⟩, ?_⟩
    · unfold hashByValue; rfl
    · unfold ofAClassStatement; rfl
/-- a set of tuples of keys at a; the tuples stand elsewhere -/
def TObj (P : Program) (w : World) (h : Heap) (a : Addr) (L : Mem Key) : Prop := ∃ (es : Array (Int × Value)) (ep : Nat) (t : SetTable), (∃ o, h.get? a = some o ∧ o.ExactSet ∧ o.data = .set es ep t) ∧ es.toList = rowsT (mixKind P w) L ∧
  TabOk t (hashesT (mixKind P w) L) ∧ (L.map (·.2)).Nodup ∧ L.length * 5 < t.mask * 3 ∧ L.length < 64
def SetTs (P : Program) (w : World) (a : Addr) (L : Mem Key) : HO := .ext fun h => TObj P w h a L
/-- the tuples themselves -/
def Tups (H : Hp) (L : Mem Key) : Prop := ∀ p ∈ L, H p.1 = some (.tup (p.2.map kV))
section
variable {X : Cx} {pins : List (Addr × Obj)} {σ : L2.St} {H : Hp} {s : Shared} {a : Addr} {L : Mem Key}
theorem tobj_of {P : Program} {w : World} {h : Heap} {es : Array (Int × Value)} {ep : Nat} {t : SetTable} (R : TSet (mixKind P w) h a L es ep t) : TObj P w h a L := ⟨es, ep, t, R.ob, R.rows, R.tab, R.nd, R.room, R.few⟩
theorem setTs_ok {P : Program} {w : World} {H : Hp} {h : Heap} (R : TObj P w h a L) : ObjOk P w H h a (SetTs P w a L) := by
  obtain ⟨es, ep, t, ⟨o, ho, hx, hd⟩, r⟩ := R
  exact ⟨⟨es, ep, t, ⟨o, ho, hx, hd⟩, r⟩, ⟨o, ho⟩, fun h1 h2 ⟨es, ep, t, ⟨o, ho, hx, hd⟩, r⟩ k => ⟨es, ep, t, ⟨o, k o ho, hx, hd⟩, r⟩⟩
theorem setTs_get (I : Inv X pins σ H s) (ha : H a = some (SetTs X.prog X.w a L)) (tp : Tups H L) : ∃ es ep t, TSet (mixKind X.prog X.w) s.heap a L es ep t := by
  have q : ObjOk X.prog X.w H s.heap a (.ext fun h => TObj X.prog X.w h a L) := I.hok a _ ha
  obtain ⟨es, ep, t, ob, rows, tab, nd, room, few⟩ := q.1
  exact ⟨es, ep, t, ob, rows, tab, nd, fun p hp => key_of I.hok (tp p hp), room, few⟩
/-- found.add(t), over the layer -/
theorem add_ts {k : List Key} {b : Addr} {Q : Value → Shared → Prop} {E : Value → Shared → Prop} {A : Around} (hu : A.in1.units < cLine) (I : Inv X pins σ H s) (ha : H a = some (SetTs X.prog X.w a L)) (tp : Tups H L) (eb : H b = some (.tup (k.map kV))) (room : L.length + 1 < 64)
    (hQ : ∀ s' L', MoreT b k L L' → Inv X pins σ (upd H a (SetTs X.prog X.w a L')) s' → Q .none s') : wpAny (model X.prog X.w) A (call (.builtin "set.add") [.ref a, .ref b]) Q E s := by
  obtain ⟨es, ep, t, R⟩ := setTs_get I ha tp
  have hk : IsTupleKey (mixKind X.prog X.w) s.heap k b := key_of I.hok eb
  have hT : s.TypeIs (.ref a) "set" := by
    obtain ⟨o, ho, hx, _⟩ := R.ob
    exact ⟨o, ho, hx.1⟩
  refine wpAny_call_entry F.slot_set_add hT F.entry_set_add ?_ (F.args_set_add_2 _ _)
  unfold Builtin.«set.add» Builtin.Frozenset.oneOther
  simp only [List.isEmpty_nil, bind_assoc]
  unfold Builtin.Frozenset.addrOf setAdd
  refine wpAny_bind (wpAny_pure ?_)
  try dsimp only
  refine wpAny_bind (wpAny_pure ?_)
  try dsimp only
  refine wpAny_bind (wpAny_holding (wpAny_bind (wpAny_pyHash_tuple hu hk ?_)))
  refine tset_add (s := { s with toks := s.toks + (k.length + 1) }) flat_mix R hk hu room fun b' h' L' es' ep' t' sb RS more => ?_
  show wpAny _ _ (ret Value.none) _ _ _
  refine wpAny_pure ⟨_, rfl, hQ _ L' more ?_⟩
  have he : ∃ q, h'.get? a = some q := let ⟨o, ho, _⟩ := RS.ob; ⟨o, ho⟩
  exact I.write (e := a) (t' := s.toks + (k.length + 1)) (by rw [ha]; trivial) (.inl rfl) (fun c u hc hu => (sb.2 c hc).trans hu) he (setTs_ok (tobj_of RS))
/-- len of such a set -/
def rLenTs (P : Program) (w : World) : List V → Hp → VK → Prop := fun vs H Q => ∃ (a : Addr) (L : Mem Key), vs = [V.ref a] ∧ H a = some (SetTs P w a L) ∧ Q (.int L.length) H
theorem cr_lenTs : CallR X (.builtin "len") (rLenTs X.prog X.w) := by
  intro pins s σ H vs us Q I r h
  obtain ⟨a, L, rfl, ha, q⟩ := h
  rw [Vals.ref1 r]
  have x : ObjOk X.prog X.w H s.heap a (.ext fun h => TObj X.prog X.w h a L) := I.hok a _ ha
  obtain ⟨es, ep, t, ⟨o, ho, hex, hd⟩, rows, tab, nd, room, few⟩ := x.1
  have e : es.size = L.length := rows_size rows
  have hf : t.fits es.size = true := by
    have h1 := tab.sz
    rw [hashesT, List.length_map] at h1
    unfold SetTable.fits SetTable.fill
    rw [tab.dm, Bool.and_eq_true, beq_iff_eq, decide_eq_true_eq]
    show t.place.size = es.size ∧ t.place.size + 0 ≤ t.mask
    omega
  refine call_len_set ho hex hd hf (by rw [e]; omega) ⟨.int L.length, H, I.tok _, ⟨_, by rw [e]⟩, q⟩
end
section
variable {X : Cx} {elt tg iter : Expr} {ifs : List Expr} {scope : Scope} {pos : Pos} {own : List (PySem.Str × Nat)} {wi : TI} {g : TG} {tt : TT} {te : TE}
def rAddT (P : Program) (w : World) (te : TE) : TailR := fun D σ H Nx => te σ H fun y H4 => ∃ (b : Addr) (k : List Key) (L : Mem Key), y = .ref b ∧ H4 b = some (.tup (k.map kV)) ∧ H4 D = some (SetTs P w D L) ∧ Tups H4 L ∧ L.length + 1 < 64 ∧
  ∀ L', MoreT b k L L' → Nx (upd H4 D (SetTs P w D L'))
/-- {e for .. in ..}, the elements tuples -/
theorem pe_scT (hu : X.A.in1.units < cLine) (hc : X.calm = true) (hN : X.N.Nodup) (hi : PI X tg iter wi) (ok : BlkOk X.N X.env.scope scope own)
    (hg : ∀ (s : Shared) (H : Hp) (C : Addr) (cl : List (PySem.Str × Addr)) (fp : List Addr), PG (X.blk s H scope (compEnvC scope cl C X.env) fp) tg g)
    (ht : ∀ (s : Shared) (H : Hp) (C : Addr) (cl : List (PySem.Str × Addr)) (fp : List Addr), PTs (X.blk s H scope (compEnvC scope cl C X.env) fp) ifs tt)
    (he : ∀ (s : Shared) (H : Hp) (C : Addr) (cl : List (PySem.Str × Addr)) (fp : List Addr), PE (X.blk s H scope (compEnvC scope cl C X.env) fp) elt te)
    (hs : ∀ x, foldedSetIterable iter X.env x = pure x := by intro _; rfl) :
    PE X (.SetComp elt [⟨tg, iter, ifs, 0⟩] scope pos) (tColl (fun D => SetTs X.prog X.w D []) wi g tt (rAddT X.prog X.w te) (own.map (·.2))) := by
  refine pe_coll kind_set hc hN hi ok (fun H h _ => setTs_ok (tobj_of (tset_fresh (led := !X.w.params.followText "set-order") (Heap.get?_push_size (o := emptySet X.w) h rfl)))) hg ht ?_ ?_ hs
  · intro s H C cl fp pins s1 σ1 H1 D Nx E I h
    refine thnF ((he s H C cl fp).run pins s1 σ1 H1 _ I h) fun u s2 ⟨y, H2, I2, r2, b, k, L, ey, eb, hD, tp, room, nx⟩ => ?_
    subst ey
    cases r2
    exact add_ts (X := X.blk s H scope (compEnvC scope cl C X.env) fp) hu I2 hD tp eb room fun s' L' mo I3 => ⟨_, I3, nx L' mo⟩
  · intro env acc E Q Q' s h m
    exact thn h fun x s4 h4 => thn h4 fun _ s5 q => m s5 q
end
end Q9
namespace Q9
open PySem L2
/-- what a walk over tgt has gathered behind i turns -/
structure CollT (tgt : List (List Key)) (i : Nat) (L : Mem Key) : Prop where
  nd : (L.map (·.2)).Nodup
  mem : ∀ k, k ∈ L.map (·.2) ↔ k ∈ tgt.take i
theorem CollT.zero (tgt : List (List Key)) : CollT tgt 0 [] := ⟨List.nodup_nil, fun k => by simp⟩
theorem CollT.next {tgt : List (List Key)} {i : Nat} {L L' : Mem Key} {k : List Key} {b : Addr} (c : CollT tgt i L) (h : tgt[i]? = some k) (m : MoreT b k L L') : CollT tgt (i + 1) L' := by
  have e : tgt.take (i + 1) = tgt.take i ++ [k] := take_one_more h
  rcases m with ⟨hm, rfl⟩ | ⟨hm, p⟩
  · refine ⟨c.nd, fun j => ?_⟩
    rw [e, List.mem_append, List.mem_singleton, c.mem j]
    exact ⟨.inl, fun z => z.elim id fun z => z ▸ (c.mem k).1 hm⟩
  · have pm := p.map (·.2)
    refine ⟨pm.nodup_iff.mpr (List.nodup_cons.mpr ⟨hm, c.nd⟩), fun j => ?_⟩
    rw [pm.mem_iff, e, List.mem_append, List.mem_singleton, List.map_cons, List.mem_cons, c.mem j]
    exact Or.comm
theorem CollT.len_le {tgt : List (List Key)} {i : Nat} {L : Mem Key} (c : CollT tgt i L) : L.length ≤ i := by
  have h := nodup_le (L.map (·.2)) (tgt.take i) c.nd fun k hk => (c.mem k).1 hk
  rw [List.length_map, List.length_take] at h
  omega
theorem CollT.all {tgt : List (List Key)} {L : Mem Key} (c : CollT tgt tgt.length L) : L.length = tgt.length ↔ tgt.Nodup := by
  have h := unlike_len c.nd (l := tgt) fun k => by rw [c.mem k, List.take_length]
  rwa [List.length_map] at h
end Q9
end
-- QItems
section
set_option maxRecDepth 100000
set_option maxHeartbeats 4000000
namespace Q9
open PySem PySem.Spec PyProof.Rows L2
/-! ### many new things at once -/
/-- the things os at the addresses as -/
def lay : Hp → List Addr → List HO → Hp
  | H, a :: as, o :: os => lay (upd H a o) as os
  | H, _, _ => H
theorem lay_off {b : Addr} : ∀ (as : List Addr) (os : List HO) (H : Hp), b ∉ as → lay H as os b = H b
  | [], os, _, _ => by cases os <;> rfl
  | _ :: _, [], _, _ => rfl
  | a :: as, o :: os, H, n => by
    have n' : b ≠ a ∧ b ∉ as := ⟨fun z => n (z ▸ List.mem_cons_self), fun z => n (List.mem_cons_of_mem _ z)⟩
    show lay (upd H a o) as os b = H b
    rw [lay_off as os _ n'.2, upd_ne n'.1]
theorem lay_at : ∀ (as : List Addr) (os : List HO) (H : Hp) (j : Nat) (a : Addr) (o : HO), as.Nodup → as[j]? = some a → os[j]? = some o → lay H as os a = some o
  | [], _, _, j, _, _, _, h, _ => by cases h
  | _ :: _, [], _, j, _, _, _, _, h => by cases h
  | a :: as, o :: os, H, 0, b, u, nd, h1, h2 => by
    cases Option.some.inj h1
    cases Option.some.inj h2
    show lay (upd H a o) as os a = some o
    rw [lay_off as os _ (List.nodup_cons.mp nd).1, upd_same]
  | a :: as, o :: os, H, j + 1, b, u, nd, h1, h2 => lay_at as os (upd H a o) j b u (List.nodup_cons.mp nd).2 (by simpa using h1) (by simpa using h2)
section
variable {X : Cx} {pins : List (Addr × Obj)} {σ : L2.St} {H : Hp} {s : Shared}
/-- the state behind a call that laid the things os at as, all new, and kept all else -/
theorem inv_lay (I : Inv X pins σ H s) {s' : Shared} {as : List Addr} {os : List HO} (k : Keeps s.heap s'.heap) (g : s'.gens = s.gens) (eo : s'.os = s.os) (len : as.length = os.length) (nd : as.Nodup) (new : ∀ a ∈ as, s.heap.objs.size ≤ a)
    (ok : ∀ (j : Nat) (a : Addr) (o : HO), as[j]? = some a → os[j]? = some o → ObjOk X.prog X.w (lay H as os) s'.heap a o) : Inv X pins σ (lay H as os) s' := by
  have fr : ∀ a ∈ as, H a = none := fun a ha => I.hok.fresh (new a ha)
  have low : ∀ b o, s.heap.get? b = some o → b ∉ as := fun b o e z => Nat.not_lt.mpr (new b z) (Heap.lt_size e)
  have keep : ∀ b u, H b = some u → lay H as os b = some u := fun b u e => by
    rw [lay_off as os H fun z => nomatch (fr b z).symm.trans e]
    exact e
  have un : Un (frs X.stack) [] H (lay H as os) s.heap s'.heap := {
    keep := fun b o q _ _ _ => k b o q
    slot := fun b o q _ _ _ => ⟨o.slots, k b o q⟩
    free := fun b o q n _ => (lay_off as os H (low b o q)).trans n
    there := fun b o q _ => ⟨o, k b o q⟩
    tups := fun b xs q => keep b _ q
    frzs := fun b o u q => keep b _ q
    tbls := fun b ps q => ⟨#[], by rw [Array.append_empty]; exact keep b _ q⟩ }
  refine I.call' (ch := []) eo un (fun b u e => ?_) (by rw [g]; exact I.bare) fun _ z => nomatch z
  by_cases hb : b ∈ as
  · obtain ⟨j, hj⟩ := List.mem_iff_getElem?.mp hb
    have jl : j < os.length := by rw [← len]; exact (List.getElem?_eq_some_iff.mp hj).1
    have e2 := lay_at as os H j b os[j] nd hj (List.getElem?_eq_getElem jl)
    rw [e2] at e
    cases e
    exact ok j b _ hj (List.getElem?_eq_getElem jl)
  · rw [lay_off as os H hb] at e
    exact (I.hok b u e).stay (fun c v _ q => k c v q) (fun c q => keep c _ q) fun c xs q => keep c _ q
/-- at t: the tuple of a key (a tuple of keys) and its value -/
def PairT (H : Hp) (t : Addr) (kv : List Key × V) : Prop := ∃ q, H t = some (.tup [.ref q, kv.2]) ∧ H q = some (.tup (kv.1.map kV))
def rItemsT : V → Hp → VK → Prop := fun x H Q => ∃ (d : Addr) (kvs : List (List Key × V)), x = .ref d ∧ H d = some (.dT kvs) ∧
  ∀ (H' : Hp) (p : Addr) (ts : List Addr), Same H H' → H p = none → (∀ t ∈ ts, H t = none) → p ∉ ts → H' p = some (.lst (ts.map V.ref)) → Paired (PairT H') ts kvs → Q (.ref p) H'
def tListItemsT (te : TE) : TE := fun σ H Q => te σ H fun x H1 => rItemsT x H1 Q
theorem paired_by {α β : Type} {F : α → β → Prop} : ∀ {xs : List α} {ys : List β}, xs.length = ys.length → (∀ (j : Nat) (x : α) (y : β), xs[j]? = some x → ys[j]? = some y → F x y) → Paired F xs ys
  | [], [], _, _ => .nil
  | [], _ :: _, h, _ => by cases h
  | _ :: _, [], h, _ => by cases h
  | x :: xs, y :: ys, h, f => .cons (f 0 x y rfl rfl) (paired_by (Nat.succ.inj h) fun j a b h1 h2 => f (j + 1) a b (by simpa using h1) (by simpa using h2))
variable {e : Expr} {te : TE} {p apos cpos pos : Pos}
/-- list(e.items()), the keys of the dict tuples -/
theorem pe_listItemsT (hc : X.calm = true) (he : PE X e te) (hg : Gl X "list") (hm : X.mg "list" = none) (hv : bootBuiltins "list" = some (.type "list")) (hbase : attributeBase e "items" X.env (eval e X.env) = eval e X.env := by rfl) (hline : (apos.endLine == cpos.line) = true := by rfl)
    (hs : starEach [.Call (.Attribute e "items" apos) [] [] cpos] X.env = (false, eval (.Call (.Attribute e "items" apos) [] [] cpos) X.env) :: starEach [] X.env := by rfl) :
    PE X (.Call (.Name "list" p) [.Call (.Attribute e "items" apos) [] [] cpos] [] pos) (tListItemsT te) := by
  refine ⟨fun pins s σ H Q I hq => wpAny_Call_Name_kw (ld_blt I hg hm hv (PyProof.Rows.callWith_type1 ?_ hs rfl))⟩
  rw [hs]
  show wpAny _ _ (spliced ((false, eval (.Call (.Attribute e "items" apos) [] [] cpos) X.env) :: backTo pos (starEach [] X.env))) _ _ s
  refine Calls.spliced_cons (wpAny_Call_method (T := "dict") (id := "dict.items") hbase rfl hline F.plainAttrs_dict F.slot_dict_items F.type_dict_items (thn (he.run pins s σ H _ I hq) fun u s1 ⟨x, H1, I1, rx, d, kvs, ex, hd, q⟩ => ?_))
  subst ex
  obtain rfl : u = Value.ref d := rx
  obtain ⟨hz, hs0, xs, kt, hdo⟩ := dt_of I1.hok hd
  obtain ⟨es, ep, raw, sz, ents⟩ := hdo.raw
  have lk : kvs.length = xs.length := Paired.length kt
  have I2 : Inv X pins σ H1 { s1 with heap := s1.heap.push { cls := .type "dict_items", data := .fields #[.ref d] } } := I1.kept (t' := s1.toks) fun b ob q => Heap.get?_push_of_some _ q
  refine ⟨raw.typeIs, (fun b e => by cases e; exact let ⟨o, ho, hc, _⟩ := raw; ⟨o, ho, hc.2.1⟩), ?_⟩
  show wpAny _ _ (callWith cpos (.builtin "dict.items") [.ref d] [] []) _ X.xe s1
  refine method_meetsIn F.slot_dict_items F.entry_dict_items rfl (PySem.evalArgs_none ⟨rfl, raw.typeIs, F.args_dict_items_1 _, _, meets_dict_items_raw d hs0, ⟨es, ep, raw⟩, Calls.spliced_nil ?_⟩)
  refine PySem.W.dil_call (I1.ok.hd hc) ⟨_, Heap.get?_push_size _ rfl, rfl, rfl⟩ (raw.push _) (by omega) fun h' tk acc c as hk hS hl hG hacc => ?_
  have size2 : (s1.heap.push { cls := .type "dict_items", data := .fields #[.ref d] }).objs.size = s1.heap.objs.size + 1 := Heap.size_push ..
  generalize eD : (s1.heap.push { cls := .type "dict_items", data := .fields #[.ref d] }).objs.size = D at *
  have nd : (D :: as).Nodup := List.nodup_cons.mpr ⟨fun z => Nat.lt_irrefl _ (hG.above _ z), List.Pairwise.imp (fun {a b} (h : a < b) => Nat.ne_of_lt h) hG.rise⟩
  have new : ∀ a ∈ D :: as, (s1.heap.push { cls := .type "dict_items", data := .fields #[.ref d] }).objs.size ≤ a := fun a ha => by
    rcases List.mem_cons.mp ha with z | z
    · rw [z, eD]; exact Nat.le_refl _
    · rw [eD]; exact Nat.le_of_lt (hG.above a z)
  have los : as.length = ((kvs.zip xs).map fun z => HO.tup [.ref z.2.2.1, z.1.2]).length := by rw [List.length_map, List.length_zip, hl, sz, lk, Nat.min_self]
  have low : ∀ b o, s1.heap.get? b = some o → b ∉ D :: as := fun b o e2 z => by
    have l1 := new b z
    have l2 := Heap.lt_size e2
    rw [eD, size2] at l1
    exact Nat.not_lt.mpr (Nat.le_of_succ_le l1) l2
  have old : ∀ b u, H1 b = some u → lay H1 (D :: as) (.lst (as.map V.ref) :: (kvs.zip xs).map fun z => HO.tup [.ref z.2.2.1, z.1.2]) b = some u := fun b u e2 => by
    rw [lay_off _ _ _ fun z => nomatch (I2.hok.fresh (new b z)).symm.trans e2]
    exact e2
  -- the j-th pair
  have pr : ∀ (j : Nat) (kv : List Key × V), kvs[j]? = some kv → ∃ y, xs[j]? = some y ∧ ((kvs.zip xs).map fun z => HO.tup [.ref z.2.2.1, z.1.2])[j]? = some (.tup [.ref y.2.1, kv.2]) ∧ H1 y.2.1 = some (.tup (kv.1.map kV)) ∧ RelV kv.2 y.2.2 := fun j kv hj => by
    obtain ⟨y, h1, e1, e2, e3⟩ := LiI.paired_get kt hj
    exact ⟨y, h1, by rw [List.getElem?_map, List.getElem?_zip_eq_some (z := (kv, y)) |>.mpr ⟨hj, h1⟩]; rfl, e2, e3⟩
  have J : Inv X pins σ (lay H1 (D :: as) (.lst (as.map V.ref) :: (kvs.zip xs).map fun z => HO.tup [.ref z.2.2.1, z.1.2])) { s1 with heap := h', toks := tk } := by
    refine inv_lay I2 hk rfl rfl (by rw [List.length_cons, List.length_cons, los]) nd new fun j a o h1 h2 => ?_
    cases j with
    | zero =>
      cases Option.some.inj h1
      cases Option.some.inj h2
      refine ⟨by rw [List.length_map]; omega, acc.toList, c, by rw [hacc]; exact LiI.vals_refs as, ?_⟩
      rw [Array.toArray_toList]
      exact hS
    | succ j =>
      have h1' : as[j]? = some a := by simpa using h1
      obtain ⟨hj, at_⟩ := hG.pairs j a h1'
      obtain ⟨y, k1, k2, k3, _⟩ := ents j hj
      have jk : j < kvs.length := by omega
      obtain ⟨y', m1, m2, m3, m4⟩ := pr j _ (List.getElem?_eq_getElem jk)
      rw [k1] at m1
      cases m1
      have h2' : ((kvs.zip xs).map fun z => HO.tup [.ref z.2.2.1, z.1.2])[j]? = some o := by simpa using h2
      rw [m2] at h2'
      cases h2'
      rw [k2, k3] at at_
      exact ⟨by show 2 ≤ sizeLine; decide, [.ref y.2.1, y.2.2], .cons rfl (.cons m4 .nil), _, at_, rfl, _, rfl⟩
  refine ⟨.ref D, _, J, rfl, q _ D as (fun b o e2 => old b o e2) (I2.hok.fresh (new D List.mem_cons_self)) (fun t ht => I2.hok.fresh (new t (List.mem_cons_of_mem _ ht))) (List.nodup_cons.mp nd).1 (lay_at _ _ _ 0 D _ nd rfl rfl) ?_⟩
  refine paired_by (by omega) fun j a kv h1 h2 => ?_
  obtain ⟨y, m1, m2, m3, m4⟩ := pr j kv h2
  exact ⟨y.2.1, lay_at _ _ _ (j + 1) a _ nd (by simpa using h1) (by simpa using m2), old _ _ m3⟩
/-! ### dict(ps), the keys tuples -/
def mergeT (kvs more : List (List Key × V)) : List (List Key × V) := more.foldl (fun acc kv => putK acc kv.1 kv.2) kvs
theorem length_mergeT : ∀ (more kvs : List (List Key × V)), (mergeT kvs more).length ≤ kvs.length + more.length
  | [], kvs => Nat.le_refl _
  | kv :: more, kvs => by
    have h1 := length_mergeT more (putK kvs kv.1 kv.2)
    have h2 := length_putK kvs kv.1 kv.2
    show (mergeT (putK kvs kv.1 kv.2) more).length ≤ _
    rw [List.length_cons]
    omega
theorem kt_merge {H : Hp} {more : List (List Key × V)} {rs : List (List Key × Addr × Value)} (m : KT H more rs) : ∀ {kvs : List (List Key × V)} {xs : List (List Key × Addr × Value)}, KT H kvs xs → KT H (mergeT kvs more) (storedAllH xs rs) := by
  unfold KT at m
  induction m with
  | nil => exact fun r => r
  | @cons p q l m h t ih =>
    intro kvs xs r
    have h' : KT H (putK kvs p.1 p.2) (storedH xs q.1 q.2.1 q.2.2) := by
      rw [← h.1]
      exact KT.put r p.1 h.2.1 h.2.2
    exact ih h' 
theorem rows_of_pairs (I : Inv X pins σ H s) : ∀ {ts : List Addr} {kvs : List (List Key × V)}, Paired (PairT H) ts kvs →
    ∃ rs : List (List Key × Addr × Value), KT H kvs rs ∧ rs.length = ts.length ∧ ∀ (j : Nat) (r : List Key × Addr × Value), rs[j]? = some r → ∃ b, ts[j]? = some b ∧ s.heap.IsTuple b #[.ref r.2.1, r.2.2]
  | _, _, .nil => ⟨[], .nil, rfl, fun j r e => by simp at e⟩
  | _, _, .cons (a := t) (b := kv) ⟨q, h1, h2⟩ rest => by
    obtain ⟨rs, k, l, f⟩ := rows_of_pairs I rest
    obtain ⟨its, rv, ht, _⟩ := I.tuple (.of h1)
    obtain ⟨u, y, ei, ru, ry⟩ := vals2 rv
    subst ei
    cases ru
    refine ⟨(kv.1, q, y) :: rs, .cons ⟨rfl, h2, ry⟩ k, by rw [List.length_cons, List.length_cons, l], fun j r e => ?_⟩
    cases j with
    | zero =>
      cases Option.some.inj e
      exact ⟨t, rfl, ht⟩
    | succ j =>
      obtain ⟨b, e1, e2⟩ := f j r (by simpa using e)
      exact ⟨b, by simpa using e1, e2⟩
def rDictT (K : PySem.W.Frag) : List V → Hp → VK → Prop := fun vs H Q => ∃ (a : Addr) (ts : List Addr) (kvs : List (List Key × V)), vs = [.ref a] ∧ SqL K H a (ts.map V.ref) ∧ Paired (PairT H) ts kvs ∧
  ∀ p, H p = none → Q (.ref p) (upd H p (.dT (mergeT [] kvs)))
theorem cr_dictT (hcalm : X.calm = true) (hu : X.A.in1.in1.units < cLine) : CallR X (.type "dict") (rDictT X.K) := by
  intro pins s σ H vs us Q I r h
  obtain ⟨a, ts, kvs, rfl, hq, hp, q⟩ := h
  rw [Vals.ref1 r]
  obtain ⟨its, rv, pl, hz⟩ := I.list hq
  cases refs_vals rv
  rw [List.length_map] at hz
  obtain ⟨rs, kt, hl, hr⟩ := rows_of_pairs I hp
  obtain ⟨o, n, ho, hc, hd, hdat⟩ := pl
  have len : (rs.map fun r => ((.ref r.2.1, r.2.2) : Value × Value)).length = ts.length := by rw [List.length_map, hl]
  have items : PairItems s.heap (ts.map Value.ref).toArray (fun j => (ts[j]?).getD 0) (rs.map fun r => ((.ref r.2.1, r.2.2) : Value × Value)) := by
    refine ⟨by rw [List.size_toArray, List.length_map, len], fun j k v e => ?_⟩
    rw [List.getElem?_map] at e
    obtain ⟨r, e1, e2⟩ := Option.map_eq_some_iff.mp e
    cases e2
    obtain ⟨b, e3, e4⟩ := hr j r e1
    refine ⟨?_, ?_⟩
    · rw [List.getElem?_toArray, List.getElem?_map, e3]
      show some (Value.ref b) = some (Value.ref ((ts[j]?).getD 0))
      rw [e3]
      rfl
    · show PairAt s.heap ((ts[j]?).getD 0) _ _
      rw [e3]
      exact .inl e4
  refine call_dict_pairsH (knd := tupleKind (mixKind X.prog X.w)) (ps := rs) (PairArg.list a _ _ _) (I.ok.hd hcalm) hu ⟨⟨o, n, ho, hc, hd, hdat⟩, items⟩ ⟨by rw [len, hl], fun i key v e => ?_⟩ (fun h' keep x hx => ?_) (by rw [len]; exact hz) fun h' tk hd' k => ?_
  · have e' : (rs.map fun r => ((.ref r.2.1, r.2.2) : Value × Value))[i]? = some (key, v) := e
    rw [List.getElem?_map] at e'
    obtain ⟨r, e1, e2⟩ := Option.map_eq_some_iff.mp e'
    cases e2
    exact ⟨r.1, r.2.1, e1, rfl⟩
  · obtain ⟨j, hj⟩ := List.mem_iff_getElem?.mp hx
    have jl : j < kvs.length := by rw [Paired.length kt]; exact (List.getElem?_eq_some_iff.mp hj).1
    obtain ⟨y, e1, e2, e3, _⟩ := LiI.paired_get kt (List.getElem?_eq_getElem jl)
    rw [hj] at e1
    cases e1
    rw [e2] at e3
    obtain ⟨o', items', n', g1, g2, g3, g4⟩ := key_of I.hok e3
    exact ⟨o', items', n', keep _ _ (Nat.ne_of_lt (Heap.lt_size g1)) (fun z => nomatch z) g1, g2, g3, g4⟩
  · have k' : Keeps s.heap h' := fun b o e => k b o (fun z => nomatch z) e
    have big : (s.heap.objs.size == sysModules) = false := beq_eq_false_iff_ne.mpr (Nat.ne_of_gt I.big)
    have hn : H s.heap.objs.size = none := I.hok.fresh (Nat.le_refl _)
    have lz : (mergeT [] kvs).length ≤ sizeLine := by
      have := length_mergeT kvs []
      rw [List.length_nil, Nat.zero_add, Paired.length kt, hl] at this
      omega
    obtain ⟨o2, es, ep, g1, g2, g3, g4, _, g5⟩ := hd'
    have J := I.laid (t' := tk) (o := .dT (mergeT [] kvs)) k' (Nat.le_refl _) ⟨lz, big, _, (kt_merge kt .nil).keeps fun b ys e => (by rw [upd_ne (ne_of_none e hn)]; exact e), o2, es, ep, g1, g2, g3, g4, g5⟩
    exact ⟨.ref _, _, J, rfl, q _ hn⟩
end
end Q9
end
-- QNone
section
set_option maxRecDepth 100000
set_option maxHeartbeats 4000000
namespace Q9
open PySem L2
/-! ### what a kind is made of -/
/-- names, words, unlike outcomes -/
structure RightParts (nm st : Str) (es : List Str) (mv : Mv) : Prop where
  name : nameB nm = true
  start : nameB st = true
  ends : ∀ z ∈ es, nameB z = true
  unlike : es.Nodup
  keys : ∀ e ∈ mv, nameB e.1.1 = true ∧ nameB e.1.2 = true
  outs : ∀ e ∈ mv, ∀ o ∈ e.2, wordB o.1 = true ∧ nameB o.2 = true
  outsU : ∀ e ∈ mv, e.2.Nodup
/-- within the bounds -/
def Fits (st : Str) (es : List Str) (mv : Mv) : Prop := (∀ e ∈ mv, e.2.length ≤ 8) ∧ (∀ ys : List Str, ys.Nodup → (∀ z ∈ ys, z ∈ statesIn st es mv) → ys.length ≤ 60) ∧ ∀ zs : List Str, zs.Nodup → (∀ z ∈ zs, z ∈ methodsIn mv) → zs.length ≤ 8
/-- few enough for any set of them -/
structure Small (st : Str) (es : List Str) (mv : Mv) : Prop where
  len : (statesIn st es mv).length ≤ 1000000
  states : FewIn ((statesIn st es mv).map kInr)
  methods : FewIn ((methodsIn mv).map kInr)
  words : FewIn ((wordsIn mv).map kInr)
/-- what __init__ does with parts that are right but for the bounds; KA tells a made kind -/
def spKindI (C CB : Addr) (K : PySem.W.Frag) (KA : Hp → Addr → Str → Str → List Str → Mv → Prop) : Sp := fun vs H Q E => ∃ (x dx m : Addr) (nm st : Str) (ex : V) (es : List Str) (kvs : List (List Key × V)) (mv : Mv), vs = [.ref x, .str nm, .str st, ex, .ref m] ∧
  H x = some (.ins C dx []) ∧ H dx = some (.own x) ∧ Row K H ex (es.map V.str) ∧ H m = some (.dT kvs) ∧ Moves K H kvs mv ∧ RightParts nm st es mv ∧ Small st es mv ∧
  ((Fits st es mv ∧ ∀ H', But x H H' → KA H' x nm st es mv → Q .non H') ∨ (¬ Fits st es mv ∧ ∀ (H' : Hp) (d : Addr), But x H H' → H d = none → H' d = some (.xd [("part", .str "moves")]) → E (.ref CB) (some d) H'))
/-- _law_is_none: whether the bounds are passed -/
abbrev kindPs : List Str := ["self", "name", "start", "ends", "moves"]
section
variable {P : Program} {w : World} {K : PySem.W.Frag} {mg : Str → Option Value} {base : Heap} {C CB fI : Addr} {KA : Hp → Addr → Str → Str → List Str → Mv → Prop} {k : Nat}
end
end Q9
end
-- QMoves
section
set_option maxRecDepth 100000
set_option maxHeartbeats 4000000
namespace Q9
open PySem L2
/-! ### dicts of moves put together -/
def putM (mv : Mv) (k : Str × Str) (os : List (Str × Str)) : Mv := if (mv.any fun e => decide (e.1 = k)) = true then mv.map (fun e => if e.1 = k then (e.1, os) else e) else mv ++ [(k, os)]
def mergeM (mv more : Mv) : Mv := more.foldl (fun acc e => putM acc e.1 e.2) mv
theorem mergeM_cons (mv : Mv) (e : (Str × Str) × List (Str × Str)) (more : Mv) : mergeM mv (e :: more) = mergeM (putM mv e.1 e.2) more := rfl
theorem mem_putM {mv : Mv} {k : Str × Str} {os : List (Str × Str)} {e : (Str × Str) × List (Str × Str)} (h : e ∈ putM mv k os) : e ∈ mv ∨ e = (k, os) := by
  unfold putM at h
  split at h
  · obtain ⟨e', h1, h2⟩ := List.mem_map.mp h
    by_cases c : e'.1 = k
    · rw [if_pos c] at h2
      right
      rw [← h2, c]
    · rw [if_neg c] at h2
      left
      rw [← h2]
      exact h1
  · rcases List.mem_append.mp h with h | h
    · exact .inl h
    · exact .inr (List.mem_singleton.mp h)
theorem mem_mergeM : ∀ {more mv : Mv} {e : (Str × Str) × List (Str × Str)}, e ∈ mergeM mv more → e ∈ mv ∨ e ∈ more
  | [], _, _, h => .inl h
  | x :: more, mv, e, h => by
    rcases mem_mergeM (more := more) (show e ∈ mergeM (putM mv x.1 x.2) more from h) with h | h
    · rcases mem_putM h with h | h
      · exact .inl h
      · exact .inr (h ▸ List.mem_cons_self)
    · exact .inr (List.mem_cons_of_mem _ h)
/-- it stands there -/
theorem at_putM (mv : Mv) (k : Str × Str) (os : List (Str × Str)) : (k, os) ∈ putM mv k os := by
  unfold putM
  split
  · rename_i c
    obtain ⟨e, h1, h2⟩ := List.any_eq_true.mp c
    have h2' : e.1 = k := of_decide_eq_true h2
    exact List.mem_map.mpr ⟨e, h1, by rw [if_pos h2', h2']⟩
  · exact List.mem_append_right _ List.mem_cons_self
theorem keys_putM {mv : Mv} {k : Str × Str} {os : List (Str × Str)} {j : Str × Str} (h : j ∈ mv.map (·.1)) : j ∈ (putM mv k os).map (·.1) := by
  obtain ⟨e, h1, h2⟩ := List.mem_map.mp h
  unfold putM
  split
  · rw [List.map_map]
    exact List.mem_map.mpr ⟨e, h1, by by_cases c : e.1 = k <;> simp [c, ← h2]⟩
  · rw [List.map_append]
    exact List.mem_append_left _ h
theorem keys_mergeM : ∀ {more mv : Mv} {j : Str × Str}, j ∈ mv.map (·.1) ∨ j ∈ more.map (·.1) → j ∈ (mergeM mv more).map (·.1)
  | [], _, _, h => h.elim id fun z => nomatch z
  | x :: more, mv, j, h => by
    refine keys_mergeM (more := more) (mv := putM mv x.1 x.2) ?_
    rcases h with h | h
    · exact .inl (keys_putM h)
    · rcases List.mem_cons.mp (show j ∈ x.1 :: more.map (·.1) from h) with h | h
      · exact .inl (List.mem_map.mpr ⟨_, at_putM mv x.1 x.2, h.symm⟩)
      · exact .inr h
theorem mergeM_append (mv a b : Mv) : mergeM mv (a ++ b) = mergeM (mergeM mv a) b := List.foldl_append ..
theorem last_mergeM (mv more : Mv) (e : (Str × Str) × List (Str × Str)) : e ∈ mergeM mv (more ++ [e]) := by
  rw [mergeM_append]
  exact at_putM _ _ _
theorem length_putM (mv : Mv) (k : Str × Str) (os : List (Str × Str)) : (putM mv k os).length ≤ mv.length + 1 := by
  unfold putM
  split
  · rw [List.length_map]; exact Nat.le_succ _
  · rw [List.length_append, List.length_singleton]; exact Nat.le_refl _
theorem length_mergeM : ∀ (more mv : Mv), (mergeM mv more).length ≤ mv.length + more.length
  | [], mv => Nat.le_refl _
  | x :: more, mv => by
    have h1 := length_mergeM more (putM mv x.1 x.2)
    have h2 := length_putM mv x.1 x.2
    rw [mergeM_cons, List.length_cons]
    omega
theorem paired_append {α β : Type} {F : α → β → Prop} : ∀ {a : List α} {b : List β} {c : List α} {d : List β}, Paired F a b → Paired F c d → Paired F (a ++ c) (b ++ d)
  | _, _, _, _, .nil, q => q
  | _, _, _, _, .cons h t, q => .cons h (paired_append t q)
section
variable {K : PySem.W.Frag} {H : Hp}
theorem ent_any {kvs : List (List Key × V)} {mv : Mv} (p : Paired (EntT K H) kvs mv) (a b : Str) : (kvs.any fun kv => decide (kv.1 = [kInr a, kInr b])) = mv.any fun e => decide (e.1 = (a, b)) := by
  induction p with
  | nil => rfl
  | @cons kv e l m h t ih =>
    rw [List.any_cons, List.any_cons, ih]
    congr 1
    rw [h.1, Bool.eq_iff_iff, decide_eq_true_iff, decide_eq_true_iff]
    constructor
    · intro z
      simp only [List.cons.injEq, Sum.inr.injEq, and_true] at z
      exact Prod.ext z.1 z.2
    · intro z
      rw [z]
theorem moves_put {kvs : List (List Key × V)} {mv : Mv} (M : Moves K H kvs mv) {a b : Str} {v : V} {os : List (Str × Str)} (o : OutsT K H v os) : Moves K H (putK kvs [kInr a, kInr b] v) (putM mv (a, b) os) := by
  have ea := ent_any M.ent a b
  unfold putK putM
  by_cases c : (kvs.any fun kv => decide (kv.1 = [kInr a, kInr b])) = true
  · rw [if_pos c, if_pos (ea ▸ c)]
    refine ⟨?_, ?_⟩
    · have e : (kvs.map fun kv => if kv.1 = [kInr a, kInr b] then (kv.1, v) else kv).map (·.1) = kvs.map (·.1) := by
        rw [List.map_map]
        refine List.map_congr_left fun kv _ => ?_
        show (if kv.1 = _ then (kv.1, v) else kv).1 = kv.1
        split <;> rfl
      rw [e]
      exact M.nd
    · have key : ∀ {l : List (List Key × V)} {m : Mv}, Paired (EntT K H) l m → Paired (EntT K H) (l.map fun kv => if kv.1 = [kInr a, kInr b] then (kv.1, v) else kv) (m.map fun e => if e.1 = (a, b) then (e.1, os) else e) := by
        intro l m p
        induction p with
        | nil => exact .nil
        | @cons kv e l m h t ih =>
          refine .cons ?_ ih
          show EntT K H (if kv.1 = [kInr a, kInr b] then (kv.1, v) else kv) (if e.1 = (a, b) then (e.1, os) else e)
          by_cases z : e.1 = (a, b)
          · have z' : kv.1 = [kInr a, kInr b] := by rw [h.1, z]
            rw [if_pos z', if_pos z]
            exact ⟨h.1, o⟩
          · have z' : ¬ kv.1 = [kInr a, kInr b] := fun y => by
              rw [h.1] at y
              simp only [List.cons.injEq, Sum.inr.injEq, and_true] at y
              exact z (Prod.ext y.1 y.2)
            rw [if_neg z', if_neg z]
            exact h
      exact key M.ent
  · rw [if_neg c, if_neg (ea ▸ c)]
    refine ⟨?_, paired_append M.ent (.cons ⟨rfl, o⟩ .nil)⟩
    rw [List.map_append]
    refine List.nodup_append.mpr ⟨M.nd, List.nodup_cons.mpr ⟨(fun z => nomatch z), List.nodup_nil⟩, fun x hx y hy e => ?_⟩
    obtain ⟨kv, h1, h2⟩ := List.mem_map.mp hx
    have hy' : y = [kInr a, kInr b] := List.mem_singleton.mp hy
    exact c (List.any_eq_true.mpr ⟨kv, h1, decide_eq_true (h2.trans (e.trans hy'))⟩)
theorem moves_merge {moreK : List (List Key × V)} {more : Mv} (p : Paired (EntT K H) moreK more) : ∀ {kvs : List (List Key × V)} {mv : Mv}, Moves K H kvs mv → Moves K H (mergeT kvs moreK) (mergeM mv more) := by
  induction p with
  | nil => exact fun M => M
  | @cons kv e l m h t ih =>
    intro kvs mv M
    have h' : Moves K H (putK kvs kv.1 kv.2) (putM mv e.1 e.2) := by
      rw [h.1]
      exact moves_put M h.2
    exact ih h'
theorem moves_nil : Moves K H [] [] := ⟨List.nodup_nil, .nil⟩
end
/-! ### the states and methods of what is put together -/
theorem few_sub {l l' : List Str} (sub : ∀ z ∈ l, z ∈ l') (n : l'.length + 1 < scanBound) : FewIn (l.map kInr) := fun ks nd h => by
  refine fewIn_of_len (l := l'.map kInr) (by rw [List.length_map]; exact n) ks nd fun k hk => ?_
  obtain ⟨z, h1, h2⟩ := List.mem_map.mp (h k hk)
  exact List.mem_map.mpr ⟨z, sub z h1, h2⟩
/-- too many unlike ones -/
theorem told_more {l m ys : List Str} (t : Told l ys) (nd : m.Nodup) (sub : ∀ z ∈ m, z ∈ l) : m.length ≤ ys.length := nodup_le m ys nd fun z hz => (t.2.2 z).2 (sub z hz)
end Q9
end
-- QPick
section
set_option maxRecDepth 100000
set_option maxHeartbeats 4000000
namespace Q9
open PySem L2
abbrev Eight : Str := "abcdefgh"
/-- the text of a number: its sign of 26, its sign of eight -/
def stateT (n : Nat) : Str := ⟨#[(Letters.cps.toList[n / 8]?).getD 0, (Eight.cps.toList[n % 8]?).getD 0]⟩
def spPickL (K : PySem.W.Frag) : Sp := fun vs H Q _ => ∃ (l m : Addr) (xs : List V), vs = [.ref l, .ref m] ∧ Well H l ∧ SqL K H m xs ∧ m ≠ l ∧ 0 < xs.length ∧ xs.length < 1073741824 ∧
  ∀ (i : Nat) (x : V) (w : HO), xs[i]? = some x → Well (upd H l w) l → Q x (upd H l w)
theorem sqL_upd {K : PySem.W.Frag} {H : Hp} {l m : Addr} {xs : List V} {w : HO} (h : SqL K H m xs) (n : m ≠ l) : SqL K (upd H l w) m xs := by
  rcases h with (h | ⟨o, h⟩) | h
  · exact .inl (.inl (by rw [upd_ne n]; exact h))
  · exact .inl (.inr ⟨o, by rw [upd_ne n]; exact h⟩)
  · exact .inr h
def spStateT : Sp := fun vs H Q _ => ∃ n : Nat, vs = [.int n] ∧ n < 64 ∧ Q (.str (stateT n)) H
section
variable {P : Program} {w : World} {K : PySem.W.Frag} {mg : Str → Option Value} {base : Heap} {fD : Addr}
theorem scP : FnScope ["_law_well", "_law_some"] ["_law_well", "_law_some"] (defScope sPick) := ⟨rfl, rfl, rfl, by decide +kernel, rfl, by decide +kernel, by decide +kernel⟩
theorem ok_pick {f : Addr} {fd fdD : FuncData} (F : Fun K "_law_pick" "_law_pick" sPick f fd) (T : TLaw K mg fD) (G : FnOk P w K mg base CX0 1 fD fdD ["_law_well", "_law_many"] spDraw) (gb : Binds K fdD ["_law_well", "_law_many"] []) :
    FnOk P w K mg base CX0 2 f fd ["_law_well", "_law_some"] (spPickL K) := by
  refine F.ok scP (fun vs H Q E h => ?_) (fun cdv A outer s H vs Q E hr h => ?_)
  · obtain ⟨l, m, xs, rfl, _⟩ := h
    rfl
  · obtain ⟨l, m, xs, rfl, hw, hm, ne, x0, x1, k⟩ := h
    refine ⟨_, pss_one (ps_ret (pe_ix ix_list (pv 1) (pe_call G hr (by rfl) T.gD T.kD gb .nil pass0 (pa_cons (pv 0) (pa_cons (pe_callB call_len (by rfl) T.len (by decide +kernel) (pa_cons (pv 1) pa_nil)) pa_nil))) (fun _ _ => rfl))), ?_⟩
    refine ⟨_, rfl, _, rfl, _, rfl, _, _, rfl, .inl ⟨_, hm, rfl⟩, ?_⟩
    refine ⟨l, _, rfl, hw, (by omega), (by omega), fun r w' r0 r1 hw' => ?_⟩
    have hi : r.toNat < xs.length := by omega
    refine ⟨m, xs, r, xs[r.toNat], rfl, rfl, sqL_upd hm ne, ?_, ?_⟩
    · have e := atI_nat (xs := xs) (j := r.toNat) (List.getElem?_eq_getElem hi)
      rwa [Int.toNat_of_nonneg r0] at e
    · exact k r.toNat _ w' (List.getElem?_eq_getElem hi) hw' 
end
end Q9
end
-- QWell
section
set_option maxRecDepth 100000
set_option maxHeartbeats 4000000
namespace Q9
open PySem L2
section
variable {K : PySem.W.Frag} {H H' : Hp} {D l : Addr}
theorem del_same_of (s : Same H H') : Same (del H D) (del H' D) := fun b o e => by
  by_cases h : b = D
  · rw [h, del_same] at e
    cases e
  · rw [del_ne h] at e ⊢
    exact s b o e
theorem del_less : Same (del H D) H := fun b o e => by
  by_cases h : b = D
  · rw [h, del_same] at e
    cases e
  · rw [del_ne h] at e
    exact e
theorem sqT_del (w : Well H l) {a : Addr} {xs : List V} (h : SqT K H a xs) : SqT K (del H l) a xs := by
  obtain ⟨x, y, z, e, _⟩ := w
  rcases h with (h | ⟨o, h⟩) | h
  · exact .inl (.inl (by rw [del_ne (fun c => by rw [c, e] at h; cases h)]; exact h))
  · exact .inl (.inr ⟨o, by rw [del_ne (fun c => by rw [c, e] at h; cases h)]; exact h⟩)
  · exact .inr h
theorem but_del (b : But l H H') : Same (del H l) (del H' l) := fun c o e => by
  by_cases h : c = l
  · rw [h, del_same] at e
    cases e
  · rw [del_ne h] at e ⊢
    exact b c o h e
end
theorem mem_states {st : Str} {es : List Str} {mv : Mv} {z : Str} : z ∈ statesIn st es mv ↔ z = st ∨ z ∈ es ∨ ∃ e ∈ mv, z = e.1.1 ∨ ∃ o ∈ e.2, z = o.2 := by
  unfold statesIn
  rw [List.mem_append, List.mem_cons, List.mem_flatMap, or_assoc]
  constructor
  · rintro (h | h | ⟨e, h1, h2⟩)
    · exact .inl h
    · exact .inr (.inl h)
    · refine .inr (.inr ⟨e, h1, ?_⟩)
      rcases List.mem_cons.mp h2 with h | h
      · exact .inl h
      · obtain ⟨o, h3, h4⟩ := List.mem_map.mp h
        exact .inr ⟨o, h3, h4.symm⟩
  · rintro (h | h | ⟨e, h1, h2⟩)
    · exact .inl h
    · exact .inr (.inl h)
    · refine .inr (.inr ⟨e, h1, ?_⟩)
      rcases h2 with h | ⟨o, h3, h4⟩
      · exact List.mem_cons.mpr (.inl h)
      · exact List.mem_cons_of_mem _ (List.mem_map.mpr ⟨o, h3, h4.symm⟩)
theorem wordsIn_len {c : Nat} : ∀ {mv : Mv}, (∀ e ∈ mv, e.2.length ≤ c) → (wordsIn mv).length ≤ c * mv.length
  | [], _ => Nat.zero_le _
  | e :: mv, h => by
    have ih := wordsIn_len (mv := mv) fun x hx => h x (List.mem_cons_of_mem _ hx)
    have h1 := h e List.mem_cons_self
    unfold wordsIn at ih ⊢
    rw [List.flatMap_cons, List.length_append, List.length_map, List.length_cons, Nat.mul_succ]
    omega
end Q9
end
-- QChars
section
set_option maxRecDepth 100000
set_option maxHeartbeats 4000000
namespace Q9
open PySem PySem.Spec PyProof.Rows L2
/-! ### sorted of a text: its signs -/
def oneSign (c : Nat) : Str := ⟨#[c]⟩
def signsOf (z : Str) : List Str := z.cps.toList.map oneSign
theorem signs_strs {x : Str} {acc : Array Value} (h : ItemsOf (SignAt x) acc x.cps.size) : StrsAre acc.toList (signsOf x) := by
  obtain ⟨sz, at_⟩ := h
  have key : ∀ (vs : List Value) (cs : List Nat), vs.length = cs.length → (∀ (i : Nat) (v : Value), vs[i]? = some v → ∃ (c : Nat) (t : Tok), cs[i]? = some c ∧ v = Value.str ⟨#[c]⟩ t) → StrsAre vs (cs.map oneSign) := by
    intro vs
    induction vs with
    | nil =>
      intro cs l _
      cases cs with
      | nil => exact .nil
      | cons _ _ => cases l
    | cons v vs ih =>
      intro cs l f
      cases cs with
      | nil => cases l
      | cons c cs =>
        obtain ⟨c', t, e1, e2⟩ := f 0 v rfl
        cases Option.some.inj e1
        subst e2
        exact .cons _ _ (ih cs (Nat.succ.inj l) fun i u h => f (i + 1) u (by simpa using h))
  refine key _ _ (by rw [Array.length_toList, Array.length_toList, sz]) fun i v hv => ?_
  rw [Array.getElem?_toList] at hv
  obtain ⟨c, u, e1, e2⟩ := at_ i v hv
  exact ⟨c, u, by rw [Array.getElem?_toList]; exact e1, e2⟩
/-- what is told stands -/
theorem obj_there {P : Program} {w : World} {H : Hp} {h : Heap} {a : Addr} {o : HO} (x : ObjOk P w H h a o) : ∃ ob, h.get? a = some ob := by
  cases o with
  | lst xs => let ⟨_, _, _, _, e⟩ := x; exact ⟨_, e⟩
  | tup xs => let ⟨_, _, _, ob, e, _⟩ := x; exact ⟨_, e⟩
  | dK kvs => let ⟨_, _, _, _, o, _, _, e, _⟩ := x; exact ⟨_, e⟩
  | dT kvs => let ⟨_, _, _, _, o, _, _, e, _⟩ := x; exact ⟨_, e⟩
  | set S n => let ⟨o, _, _, _, e, _⟩ := x; exact ⟨_, e⟩
  | ins C dx fs => let ⟨_, _, _, e, _⟩ := x; exact ⟨_, e⟩
  | own y => exact x
  | xd fs => let ⟨_, ⟨_, _, _, e, _⟩, _⟩ := x; exact ⟨_, e⟩
  | rng lo hi => let ⟨_, _, _, e⟩ := x; exact ⟨_, e⟩
  | frz ob u => exact ⟨_, x.1⟩
  | tbl ps => exact ⟨_, x⟩
  | met f y => exact ⟨_, x⟩
  | ext φ => exact x.2.1
section
variable {X : Cx} {pins : List (Addr × Obj)} {σ : L2.St} {H : Hp} {s : Shared}
def rSortedChr : List V → Hp → VK → Prop := fun vs H Q => ∃ z : Str, vs = [V.str z] ∧ z.cps.size ≤ sizeLine ∧ ∀ (ys : List Str) (p : Addr), ys.Perm (signsOf z) → Up ys → H p = none → Q (.ref p) (upd H p (.lst (ys.map V.str)))
theorem cr_sortedChr (hc : X.calm = true) : CallR X (.builtin "sorted") rSortedChr := by
  intro pins s σ H vs us Q I r h
  obtain ⟨z, rfl, hz, q⟩ := h
  obtain ⟨u, eu, rx⟩ := vals1 r
  subst eu
  obtain ⟨t, rfl⟩ := rx
  refine Calls.call_function_entry kind_sorted plain_sorted entry_sorted (args_sorted1 _) ?_
  unfold Builtin.«sorted»
  refine wpAny_bind (m := checkCount "sorted" 1 1 _) (wpAny_pure (wpAny_bind (wpAny_collect_str (A := X.A.in1) (I.ok.hd hc) z t (fun s1 acc k1 g1 dr1 o1 items => ?_) hz)))
  have hS := signs_strs items
  have hvl : acc.toList.length ≤ sizeLine := by rw [Array.length_toList, items.1]; exact hz
  refine wpAny_bind (wpAny_newList ?_ hvl)
  have at1 : (s1.heap.push (seqObj "list" acc.toList.toArray 0)).get? s1.heap.objs.size = some (seqObj "list" acc.toList.toArray 0) := Heap.get?_push_size _ rfl
  refine wpAny_bind (wpAny_holding (wpAny_call_entry slot_list_sort ⟨_, at1, rfl⟩ entry_list_sort (list_sort_txts at1 hS hvl fun out ys h1 h2 h3 => ⟨_, rfl, ?_⟩) (args_list_sort _)))
  obtain ⟨c, hc'⟩ := sortedHeap_at (vs := acc.toList) (out := out) at1
  refine wpAny_pure ⟨_, rfl, ?_⟩
  have none1 : s.heap.get? s1.heap.objs.size = none := by
    cases e : s.heap.get? s1.heap.objs.size with
    | none => rfl
    | some o => exact absurd (Heap.lt_size (k1 _ _ e)) (Nat.lt_irrefl _)
  have hn : H s1.heap.objs.size = none := by
    cases e : H s1.heap.objs.size with
    | none => rfl
    | some u =>
      obtain ⟨o, ho⟩ := obj_there (I.hok _ _ e)
      rw [none1] at ho
      cases ho
  have kk : ∀ b u, s.heap.get? b = some u → (sortedHeap (s1.heap.push (seqObj "list" acc.toList.toArray 0)) s1.heap.objs.size acc.toList out).get? b = some u := fun b u e => by
    have q := k1 b u e
    have lt := Heap.lt_size q
    rw [sortedHeap_old (Nat.ne_of_lt lt) (by rw [size_push']; exact Nat.lt_succ_of_lt lt)]
    exact Heap.get?_push_of_some _ q
  have len : (ys.map V.str).length ≤ sizeLine := by rw [List.length_map, h2.length_eq, ← hS.length]; exact hvl
  have J : Inv X pins σ (upd H s1.heap.objs.size (.lst (ys.map V.str))) { s1 with heap := sortedHeap (s1.heap.push (seqObj "list" acc.toList.toArray 0)) s1.heap.objs.size acc.toList out } :=
    I.call' (ch := []) o1 (Un.laidN kk none1 hn) (I.hok.laidN kk hn ⟨len, out.toList, c, vals_of_strs h1, hc'⟩) (by rw [show _ = s.gens from g1]; exact I.bare) fun _ z => nomatch z
  exact ⟨.ref _, _, J, rfl, q ys _ h2 h3 hn⟩
end
end Q9
namespace Q9
open PySem PySem.Spec PyProof.Rows L2
section
variable {X : Cx}
/-- sorted(xs), xs a list of texts -/
def rSortedLs (K : PySem.W.Frag) : List V → Hp → VK → Prop := fun vs H Q => ∃ (a : Addr) (xs : List Str), vs = [V.ref a] ∧ SqL K H a (xs.map V.str) ∧ ∀ (ys : List Str) (p : Addr), ys.Perm xs → Up ys → H p = none → Q (.ref p) (upd H p (.lst (ys.map V.str)))
theorem cr_sortedLs : CallR X (.builtin "sorted") (rSortedLs X.K) := by
  intro pins s σ H vs us Q I r h
  obtain ⟨a, xs, rfl, hs, q⟩ := h
  rw [Vals.ref1 r]
  obtain ⟨its, rv, pl, hz⟩ := I.list hs
  have hS : StrsAre its xs := rv.strs
  have hl : its.length ≤ sizeLine := by rw [← PySem.Paired.length rv]; exact hz
  refine sorted_txts hS hl (fun R E' hR => ?_) fun s' p out c ys k g o z hp h1 h2 h3 => ?_
  · exact collect_list (pl.isList) (hR _ (fun b o e => by rw [Heap.get?_update_other _ _ (Nat.ne_of_gt (Heap.lt_size e))]; exact Heap.get?_push_of_some _ e) (by simp [Heap.size_update, size_push']) rfl rfl)
  · have len : (ys.map V.str).length ≤ sizeLine := by rw [List.length_map, h2.length_eq, ← hS.length]; exact hl
    have J := Inv.new_at I (o := .lst (ys.map V.str)) k g o z ⟨len, out.toList, c, vals_of_strs h1, hp⟩
    exact ⟨.ref p, _, J, rfl, q ys p h2 h3 (I.hok.fresh z)⟩
end
end Q9
end
-- QKindSp
section
set_option maxRecDepth 100000
set_option maxHeartbeats 4000000
namespace Q9
open PySem L2
/-! ### what a kind promises -/
abbrev KAt := Hp → Addr → Str → Str → List Str → Mv → Prop
def spNew (KA : KAt) (l : Str → List Str → Mv → List Str) : Sp := fun vs H Q _ => ∃ (x : Addr) (nm st : Str) (es : List Str) (mv : Mv), vs = [.ref x] ∧ KA H x nm st es mv ∧
  ∀ (H' : Hp) (p : Addr) (ys : List Str), Same H H' → Told (l st es mv) ys → H' p = some (.lst (ys.map V.str)) → Q (.ref p) H'
def spEnds (KA : KAt) : Sp := fun vs H Q _ => ∃ (x : Addr) (nm st : Str) (es : List Str) (mv : Mv), vs = [.ref x] ∧ KA H x nm st es mv ∧
  ∀ (t : Addr) (ys : List Str), ys.Perm es → Up ys → H t = some (.tup (ys.map V.str)) → Q (.ref t) H
/-- the states behind a call that answered so -/
def behind1 (mv : Mv) (S : List Str) (c : Str × Str) : List Str := mv.flatMap fun e => if e.1.1 ∈ S ∧ e.1.2 = c.1 then (e.2.filter fun o => decide (o.1 = c.2)).map (·.2) else []
def behind (mv : Mv) (S : List Str) (hist : List (Str × Str)) : List Str := hist.foldl (behind1 mv) S
/-- a list of pairs of texts -/
def OutsL (K : PySem.W.Frag) (H : Hp) (v : V) (os : List (Str × Str)) : Prop := ∃ (a : Addr) (vs : List V), v = .ref a ∧ SqL K H a vs ∧ Paired (OutT K H) vs os
theorem outsL_up {K : PySem.W.Frag} {H H' : Hp} (s : Same H H') {v : V} {os : List (Str × Str)} (h : OutsL K H v os) : OutsL K H' v os := by
  obtain ⟨a, vs, e, h1, h2⟩ := h
  exact ⟨a, vs, e, sqL_up (Q9.Same.sq s) h1, L2.Paired.mapP h2 fun _ _ ⟨q, e, h⟩ => ⟨q, e, sqT_up (Q9.Same.sq s) h⟩⟩
/-- what a call may lead to, by the first entry of its key -/
def outsOf (mv : Mv) (k : Str × Str) : List (Str × Str) := ((mv.find? fun e => decide (e.1 = k)).map (·.2)).getD []
/-- the same moves in another order, few outcomes each -/
structure EqMv (mvs mv : Mv) : Prop where
  keys : ∀ k, k ∈ mvs.map (·.1) ↔ k ∈ mv.map (·.1)
  outs : ∀ k o, o ∈ outsOf mvs k ↔ o ∈ outsOf mv k
  few : ∀ k, (outsOf mvs k).length ≤ 8
def spMovesD (K : PySem.W.Frag) (KA : KAt) : Sp := fun vs H Q _ => ∃ (x : Addr) (nm st : Str) (es : List Str) (mv : Mv), vs = [.ref x] ∧ KA H x nm st es mv ∧
  ∀ (H' : Hp) (p : Addr) (kvs : List (List Key × V)), Same H H' → H' p = some (.dT kvs) → kvs.length = mv.length → Q (.ref p) H'
def spStart (KA : KAt) : Sp := fun vs H Q _ => ∃ (x : Addr) (nm st : Str) (es : List Str) (mv : Mv), vs = [.ref x] ∧ KA H x nm st es mv ∧ Q (.str st) H
def RightHist (hist : List (Str × Str)) : Prop := ∀ c ∈ hist, nameB c.1 = true ∧ wordB c.2 = true
def spAfter (K : PySem.W.Frag) (KA : KAt) : Sp := fun vs H Q _ => ∃ (x : Addr) (r : V) (nm st : Str) (es : List Str) (mv : Mv) (hist : List (Str × Str)), vs = [.ref x, r] ∧ KA H x nm st es mv ∧ OutsL K H r hist ∧ RightHist hist ∧
  ∀ (H' : Hp) (p : Addr) (ys : List Str), Same H H' → Told (behind mv [st] hist) ys → H' p = some (.lst (ys.map V.str)) → Q (.ref p) H'
def spAllowed (K : PySem.W.Frag) (KA : KAt) : Sp := fun vs H Q _ => ∃ (x : Addr) (r : V) (nm st : Str) (es : List Str) (mv : Mv) (hist : List (Str × Str)), vs = [.ref x, r] ∧ KA H x nm st es mv ∧ OutsL K H r hist ∧ RightHist hist ∧
  ∀ (H' : Hp) (p : Addr) (zs : List Str), Same H H' → Told (methodsIn mv) zs → H' p = some (.lst ((zs.filter fun m => decide (∀ s ∈ behind mv [st] hist, (s, m) ∈ mv.map (·.1))).map V.str)) → Q (.ref p) H'
def spItem (K : PySem.W.Frag) (KA : KAt) : Sp := fun vs H Q _ => ∃ (x q : Addr) (s m : Str) (nm st : Str) (es : List Str) (mv : Mv) (os : List (Str × Str)), vs = [.ref x, .ref q] ∧ KA H x nm st es mv ∧ H q = some (.tup [.str s, .str m]) ∧ ((s, m), os) ∈ mv ∧
  ∀ (H' : Hp) (t : Addr) (ps : List (Addr × Str × Str)), Same H H' → H' t = some (.tup ((ps.map (·.1)).map V.ref)) → (∀ p ∈ ps, SqT K H' p.1 [.str p.2.1, .str p.2.2]) → (ps.map (·.2)).Perm os → UpP (ps.map (·.2)) → Q (.ref t) H'
/-- kind[state, method], of any two texts -/
def spItem2 (K : PySem.W.Frag) (KA : KAt) : Sp := fun vs H Q _ => ∃ (x q : Addr) (s m : Str) (nm st : Str) (es : List Str) (mv : Mv), vs = [.ref x, .ref q] ∧ KA H x nm st es mv ∧ H q = some (.tup [.str s, .str m]) ∧
  (((s, m) ∉ mv.map (·.1) → ∀ H', Same H H' → Q .non H') ∧ ∀ os, ((s, m), os) ∈ mv → ∀ (H' : Hp) (t : Addr) (ps : List (Addr × Str × Str)), Same H H' → H' t = some (.tup ((ps.map (·.1)).map V.ref)) → (∀ p ∈ ps, SqT K H' p.1 [.str p.2.1, .str p.2.2]) → (ps.map (·.2)).Perm os → UpP (ps.map (·.2)) → Q (.ref t) H')
/-- what is told of a made kind -/
structure KAok (C : Addr) (KA : KAt) : Prop where
  up : ∀ {H H' : Hp} {x : Addr} {nm st : Str} {es : List Str} {mv : Mv}, Same H H' → KA H x nm st es mv → KA H' x nm st es mv
  well : ∀ {H H' : Hp} {l x : Addr} {nm st : Str} {es : List Str} {mv : Mv}, Well H l → But l H H' → KA H x nm st es mv → KA H' x nm st es mv
  small : ∀ {H : Hp} {x : Addr} {nm st : Str} {es : List Str} {mv : Mv}, KA H x nm st es mv → Small st es mv ∧ Fits st es mv ∧ (mv.map (·.1)).Nodup
  ins : ∀ {H : Hp} {x : Addr} {nm st : Str} {es : List Str} {mv : Mv}, KA H x nm st es mv → ∃ dx fs, H x = some (.ins C dx fs) ∧ fs.lookup ("states" : Str) = none ∧ fs.lookup ("methods" : Str) = none ∧ fs.lookup ("moves" : Str) = none
/-- nothing is raised where the promise says so -/
theorem pass0X {P : Program} {w : World} {X : Cx} : Passes (L2.CX P w) X E0 := fun _ _ _ _ _ _ _ c => by
  obtain ⟨_, _, _, _, _, _, _, _, _, _, _, _, h⟩ := c
  exact h.elim
end Q9
end
-- QErr
section
set_option maxRecDepth 100000
set_option maxHeartbeats 4000000
namespace Q9
open PySem L2
/-- an error's __init__: its one field -/
def spErrI (C : Addr) (f : Str) : Sp := fun vs H Q _ => ∃ (a : Addr) (v : V), vs = [.ref a, v] ∧ H a = some (exo a C none) ∧ ∀ dx, H dx = none → dx ≠ a → Q .non (upd (upd H dx (exd dx [(f, v)])) a (exo a C (some dx)))
structure TErr (K : PySem.W.Frag) (mg : Str → Option Value) (n f : Str) (C fI : Addr) : Prop where
  gC : mg n = some (.ref C)
  ox : OexC K C
  iC : PySem.W.findIn K (.ref C) "__init__" = some (some (.ref fI))
  tI : PySem.W.typeIn K (.ref fI) = some (.type "function")
  no : PySem.W.findIn K (.ref C) f = some none
section
variable {P : Program} {w : World} {K : PySem.W.Frag} {mg : Str → Option Value} {base : Heap}
theorem scBI : FnScope ["self", "part"] ["self", "part"] (defScope sIBadKind) := ⟨rfl, rfl, rfl, by decide +kernel, rfl, by decide +kernel, by decide +kernel⟩
theorem ok_badI {f C : Addr} {fd : FuncData} (F : Fun K "__init__" "BadKind.__init__" sIBadKind f fd) (T : TErr K mg "BadKind" "part" C f) : FnOk P w K mg base CX0 1 f fd ["self", "part"] (spErrI C "part") := by
  refine F.ok scBI (fun vs H Q E h => ?_) (fun cdv A outer s H vs Q E hr h => ?_)
  · obtain ⟨a, v, rfl, _⟩ := h
    rfl
  · obtain ⟨a, v, rfl, ha, q⟩ := h
    refine ⟨_, pss_one (ps_ost (pv 0) (pv 1)), ?_⟩
    exact ⟨_, rfl, _, rfl, a, C, rfl, T.ox, T.no, .inl ⟨ha, fun dx nd ne => q dx nd ne⟩⟩
theorem name_len8 {z : Str} (h : nameB z = true) : z.length ≤ 8 := by
  unfold nameB at h
  have := of_decide_eq_true (Bool.and_eq_true_iff.mp h).1
  omega
theorem error_len8 {z : Str} (h : errorB z = true) : z.length ≤ 8 := by
  unfold errorB at h
  have := of_decide_eq_true (Bool.and_eq_true_iff.mp h).1
  omega
theorem name_len {z : Str} (h : nameB z = true) : z.length ≤ sizeLine := Nat.le_trans (name_len8 h) (by decide)
theorem word_len {z : Str} (h : wordB z = true) : z.length ≤ sizeLine := by
  unfold wordB at h
  rcases Bool.or_eq_true_iff.mp h with h | h
  · exact Nat.le_trans (error_len8 h) (by decide)
  · rcases Bool.or_eq_true_iff.mp h with h | h
    · rw [of_decide_eq_true h]; decide +kernel
    · rw [of_decide_eq_true h]; decide +kernel
end
end Q9
end
-- QDictW
section
set_option maxRecDepth 100000
set_option maxHeartbeats 4000000
/-! d.values(), d.items(), list(d.values()) of a dict whose keys are tuples -/
namespace Q9
open PySem PySem.Spec PyProof.Rows L2
section
variable {X : Cx} {pins : List (Addr × Obj)} {σ : L2.St} {H : Hp} {s : Shared} {d : Addr} {o : Obj}
theorem frzT2 {kvs : List (List Key × V)} (I : Inv X pins σ H s) (h : H d = some (.frz o (.dT kvs))) :
    (d == sysModules) = false ∧ ∃ (es : Array DictEntry) (ep : Nat), o.data = .dict es ep ∧ s.heap.DictRaw d es ep ∧ es.size = kvs.length ∧
      ∀ (i : Nat) (k : List Key) (v : V), kvs[i]? = some (k, v) → ∃ (en : DictEntry) (q : Addr), es[i]? = some en ∧ en.key = .ref q ∧ H q = some (.tup (k.map kV)) ∧ RelV v en.val := by
  obtain ⟨hd, z, hs, xs, pr, o', es, ep, ho, hx, hdt, he, _⟩ := I.hok d _ h
  rw [hd] at ho
  cases ho
  refine ⟨hs, es, ep, hdt, ⟨o, hd, hx, hdt⟩, ?_, fun i k v e => ?_⟩
  · have l1 : es.size = xs.length := size_of_entries he
    have l2 : kvs.length = xs.length := Paired.length pr
    omega
  · obtain ⟨b, hb, e1, e2, e3⟩ := paired_get pr e
    have q := entry_at he i
    rw [hb] at q
    exact ⟨_, b.2.1, q, rfl, e2, e3⟩
end
/-- the values -/
def Itdt (d : Addr) (o : Obj) (kvs : List (List Key × V)) : It :=
  ⟨fun i H => H d = some (.frz o (.dT kvs)) ∧ i < kvs.length, fun i H x H' => H' = H ∧ ∃ k, kvs[i]? = some (k, x), fun i H => H d = some (.frz o (.dT kvs)) ∧ kvs.length ≤ i⟩
/-- the pairs, each a new tuple of the key's own tuple and the value -/
def Itit (d : Addr) (o : Obj) (kvs : List (List Key × V)) : It :=
  ⟨fun i H => H d = some (.frz o (.dT kvs)) ∧ i < kvs.length, fun i H x H' => ∃ T k v q, kvs[i]? = some (k, v) ∧ x = .ref T ∧ H T = none ∧ H q = some (.tup (k.map kV)) ∧ H' = upd H T (.tup [.ref q, v]), fun i H => H d = some (.frz o (.dT kvs)) ∧ kvs.length ≤ i⟩
section
variable {P : Program} {w : World} {K : PySem.W.Frag} {tg : Expr} {d : Addr} {o : Obj} {es : Array DictEntry} {ep : Nat}
theorem turn_valsT {kvs : List (List Key × V)} (it : Addr) (dat1 : o.data = .dict es ep) : Turn P w K tg (Itdt d o kvs) [it] it (fun i h => h.IsValIter it d i kvs.length ep) where
  mem := by simp
  obj := fun i h at0 b hb => by
    have e : b = it := by simpa using hb
    subst e
    obtain ⟨oi1, e, c, dd⟩ := at0
    exact ⟨oi1, e, fun v z => by rw [dd] at z; cases z⟩
  keep := fun i h h' at0 k => at0.at fun oi1 e => k it (by simp) oi1 e
  item := by
    intro X eP eW eK clm i pn s σ H E I fre at0 now
    subst eP eW eK
    obtain ⟨fz, lti⟩ := now
    obtain ⟨f0, f1, f2, f3, f4, f5⟩ := fre it (by simp)
    obtain ⟨lo, es', ep', dat2, rw1, many, each⟩ := frzT2 I fz
    obtain ⟨rfl, rfl⟩ := dict_ep dat1 dat2
    obtain ⟨⟨k, v⟩, atI⟩ : ∃ p, kvs[i]? = some p := ⟨kvs[i], List.getElem?_eq_getElem lti⟩
    obtain ⟨en, q, atE, hkey, hq, rel⟩ := each i k v atI
    have hi' : i < es'.size := by omega
    have eqE : es'[i] = en := by
      rw [Array.getElem?_eq_getElem hi'] at atE
      exact Option.some.inj atE
    rw [← many] at at0
    refine wpAny_pyNext_values_item_raw at0 rw1 hi' fun h' at1 but => ?_
    have J1 : Inv X pn σ H { s with heap := h' } := I.turned (t' := s.toks) (fun b ob hb e => (but.2 b hb).trans e) f0 f1 f3 f4 f5
    obtain ⟨oi1, e, c, dd⟩ := id at1
    refine ⟨_, rfl, go_of (s := { s with heap := h' }) e c dd (by decide) ⟨v, H, J1, ?_, ⟨rfl, k, atI⟩, ?_, fun b hb => (fre b hb).1⟩⟩
    · rw [eqE]; exact rel
    · show h'.IsValIter it d (i + 1) kvs.length _
      rw [← many]
      exact at1
  done := by
    intro X eP eW eK clm i pn s σ H E I fre at0 now
    subst eP eW eK
    obtain ⟨fz, lti⟩ := now
    obtain ⟨f0, f1, f2, f3, f4, f5⟩ := fre it (by simp)
    obtain ⟨lo, es', ep', dat2, rw1, many, each⟩ := frzT2 I fz
    obtain ⟨rfl, rfl⟩ := dict_ep dat1 dat2
    rw [← many] at at0
    exact wpAny_pyNext_values_end_raw (I.ok.hd clm) at0 rw1 (by omega) fun h' eb => ⟨rfl, I.turned (t' := s.toks) (fun b ob hb e => eb b ob hb e) f0 f1 f3 f4 f5⟩
  self := fun A i s Q E at0 h => wpAny_pyIter_valiter at0 h
theorem turn_itemsT {kvs : List (List Key × V)} {elts : List Expr} {kk : Nat} {tpos : Pos} (it : Addr) (dat1 : o.data = .dict es ep) :
    Turn P w K (.Tuple elts kk tpos) (Itit d o kvs) [it] it (fun i h => ∃ vk vv, IsItemIter h it d i kvs.length ep vk vv) where
  mem := by simp
  obj := fun i h at0 b hb => by
    have e : b = it := by simpa using hb
    subst e
    obtain ⟨vk, vv, e⟩ := at0
    exact ⟨_, e, fun v z => nomatch z⟩
  keep := fun i h h' at0 k => let ⟨vk, vv, e⟩ := at0; ⟨vk, vv, k it (by simp) _ e⟩
  item := by
    intro X eP eW eK clm i pn s σ H E I fre at0 now
    subst eP eW eK
    obtain ⟨fz, lti⟩ := now
    obtain ⟨lo, es', ep', dat2, rw1, many, each⟩ := frzT2 I fz
    obtain ⟨rfl, rfl⟩ := dict_ep dat1 dat2
    obtain ⟨⟨k, v⟩, atI⟩ : ∃ p, kvs[i]? = some p := ⟨kvs[i], List.getElem?_eq_getElem lti⟩
    obtain ⟨en, q, atE, hkey, hq, rel⟩ := each i k v atI
    have hi' : i < es'.size := by omega
    have eqE : es'[i] = en := by
      rw [Array.getElem?_eq_getElem hi'] at atE
      exact Option.some.inj atE
    obtain ⟨vk, vv, inE⟩ := at0
    rw [← many] at inE
    have ltit : it < s.heap.objs.size := Heap.lt_size inE
    refine wpAny_pyNext_items_item_raw inE rw1 hi' fun h' ho hT hz hk => ?_
    rw [eqE] at ho hT
    refine ⟨_, rfl, wpAny_letOwnedTupleGo_items (s := { s with heap := h' }) ho fun h'' inE' but => ?_⟩
    have hT2 : h''.get? s.heap.objs.size = some { cls := .type "tuple", data := .seq #[en.key, en.val] } := (but.2 _ (Nat.ne_of_gt ltit)).trans hT
    have rk : RelV (V.ref q) en.key := by rw [hkey]; exact rfl
    have new : ObjOk X.prog X.w (upd H s.heap.objs.size (.tup [.ref q, v])) h'' s.heap.objs.size (.tup [.ref q, v]) :=
      ⟨by show 2 ≤ sizeLine; decide, [en.key, en.val], .cons rk (.cons rel .nil), ⟨_, hT2, rfl, _, rfl⟩⟩
    have J1 : Inv X pn σ (upd H s.heap.objs.size (.tup [.ref q, v])) { s with heap := h'' } :=
      I.turnedNew (t' := s.toks) (ch := [it]) (fun b ob hb e => (but.2 b (by simpa using hb)).trans (hk b ob (by simpa using hb) e)) fre (Nat.le_refl _) new
    refine ⟨.ref s.heap.objs.size, _, J1, rfl, ⟨_, k, v, q, atI, rfl, I.hok.fresh (Nat.le_refl _), hq, rfl⟩, ⟨en.key, en.val, ?_⟩, fun b hb => ?_⟩
    · rw [← many]; exact inE'
    · have e : b = it := by simpa using hb
      rw [e, upd_ne (Nat.ne_of_lt ltit)]
      exact (fre it (by simp)).1
  done := by
    intro X eP eW eK clm i pn s σ H E I fre at0 now
    subst eP eW eK
    obtain ⟨fz, lti⟩ := now
    obtain ⟨f0, f1, f2, f3, f4, f5⟩ := fre it (by simp)
    obtain ⟨lo, es', ep', dat2, rw1, many, each⟩ := frzT2 I fz
    obtain ⟨rfl, rfl⟩ := dict_ep dat1 dat2
    obtain ⟨vk, vv, inE⟩ := at0
    rw [← many] at inE
    exact wpAny_pyNext_items_end_raw (I.ok.hd clm) inE rw1 (by omega) fun h' eb => ⟨rfl, I.turned (t' := s.toks) (fun b ob hb e => eb b ob hb e) f0 f1 f3 f4 f5⟩
  self := fun A i s Q E at0 h => let ⟨_, _, e⟩ := at0; PySem.W.kcp_self e h
theorem walk_valuesT {kvs : List (List Key × V)} : Walk (Itdt d o kvs) kvs.length (fun H => H d = some (.frz o (.dT kvs))) (fun i H x H' => H' = H ∧ ∃ k, kvs[i]? = some (k, x)) :=
  ⟨fun _ _ lti q => ⟨q, lti⟩, fun _ q => ⟨q, Nat.le_refl _⟩, fun _ _ _ _ _ _ y => y⟩
theorem walk_itemsT {kvs : List (List Key × V)} : Walk (Itit d o kvs) kvs.length (fun H => H d = some (.frz o (.dT kvs))) (fun i H x H' => ∃ T k v q, kvs[i]? = some (k, v) ∧ x = .ref T ∧ H T = none ∧ H q = some (.tup (k.map kV)) ∧ H' = upd H T (.tup [.ref q, v])) :=
  ⟨fun _ _ lti q => ⟨q, lti⟩, fun _ q => ⟨q, Nat.le_refl _⟩, fun _ _ _ _ _ _ y => y⟩
end
def iValsT (td : TE) : TI := fun σ H R => td σ H fun x H1 => ∃ d o kvs, x = .ref d ∧ H1 d = some (.frz o (.dT kvs)) ∧ R (Itdt d o kvs) H1
def iItemsT (td : TE) : TI := fun σ H R => td σ H fun x H1 => ∃ d o kvs, x = .ref d ∧ H1 d = some (.frz o (.dT kvs)) ∧ R (Itit d o kvs) H1
section
variable {X : Cx} {tg e : Expr} {td : TE} {apos cpos : Pos}
theorem pi_valuesT (inE : PE X e td) (hba : attributeBase e "values" X.env (eval e X.env) = eval e X.env := by rfl) (hli : (apos.endLine == cpos.line) = true := by rfl) : PI X tg (.Call (.Attribute e "values" apos) [] [] cpos) (iValsT td) := by
  refine ⟨fun pn s σ H R I h => ?_⟩
  refine wpAny_Call_method (T := "dict") (id := "dict.values") hba rfl hli F.plainAttrs_dict F.slot_dict_values F.type_dict_values (thn (inE.run pn s σ H _ I h) fun u s1 ⟨x, H1, J1, rx, d, o, kvs, ex, fz, q⟩ => ?_)
  subst ex
  obtain rfl : u = Value.ref d := rx
  obtain ⟨lo, es, ep, dat2, rw1, many, each⟩ := frzT2 J1 fz
  refine ⟨rw1.typeIs, (fun b e => by cases e; exact let ⟨o, ho, clm, _⟩ := rw1; ⟨o, ho, clm.2.1⟩), ?_⟩
  have J2 : Inv X pn σ H1 { s1 with heap := s1.heap.push { cls := .type "dict_values", data := .fields #[.ref d] } } := J1.kept (t' := s1.toks) fun b ob q => Heap.get?_push_of_some _ q
  have fin : wpAny (model X.prog X.w) X.A (pyIter (.ref s1.heap.objs.size)) (PIE X pn σ tg R) X.xe { s1 with heap := s1.heap.push { cls := .type "dict_values", data := .fields #[.ref d] } } := by
    refine wpAny_pyIter_values_raw ⟨_, Heap.get?_push_size _ rfl, rfl, rfl⟩ (rw1.push _) (pi_one (tk := s1.toks) J2 _ (turn_valsT _ dat2) ⟨_, Heap.get?_push_size _ rfl, rfl, ?_⟩ q)
    rw [many] <;> rfl
  show wpAny _ _ (callWith cpos (.builtin "dict.values") [.ref d] [] []) _ X.xe s1
  exact method_meetsIn F.slot_dict_values F.entry_dict_values rfl (PySem.evalArgs_none ⟨rfl, rw1.typeIs, F.args_dict_values_1 _, _, meets_dict_values_raw d lo, ⟨es, ep, rw1⟩, fin⟩)
theorem pi_itemsT {elts : List Expr} {kk : Nat} {tpos : Pos} (inE : PE X e td) (hba : attributeBase e "items" X.env (eval e X.env) = eval e X.env := by rfl) (hli : (apos.endLine == cpos.line) = true := by rfl) :
    PI X (.Tuple elts kk tpos) (.Call (.Attribute e "items" apos) [] [] cpos) (iItemsT td) := by
  refine ⟨fun pn s σ H R I h => ?_⟩
  refine wpAny_Call_method (T := "dict") (id := "dict.items") hba rfl hli F.plainAttrs_dict F.slot_dict_items F.type_dict_items (thn (inE.run pn s σ H _ I h) fun u s1 ⟨x, H1, J1, rx, d, o, kvs, ex, fz, q⟩ => ?_)
  subst ex
  obtain rfl : u = Value.ref d := rx
  obtain ⟨lo, es, ep, dat2, rw1, many, each⟩ := frzT2 J1 fz
  refine ⟨rw1.typeIs, (fun b e => by cases e; exact let ⟨o, ho, clm, _⟩ := rw1; ⟨o, ho, clm.2.1⟩), ?_⟩
  have J2 : Inv X pn σ H1 { s1 with heap := s1.heap.push { cls := .type "dict_items", data := .fields #[.ref d] } } := J1.kept (t' := s1.toks) fun b ob q => Heap.get?_push_of_some _ q
  have fin : wpAny (model X.prog X.w) X.A (pyIter (.ref s1.heap.objs.size)) (PIE X pn σ (.Tuple elts kk tpos) R) X.xe { s1 with heap := s1.heap.push { cls := .type "dict_items", data := .fields #[.ref d] } } := by
    refine wpAny_pyIter_items_raw ⟨_, Heap.get?_push_size _ rfl, rfl, rfl⟩ (rw1.push _) (pi_one (tk := s1.toks) J2 _ (turn_itemsT _ dat2) ⟨.none, .none, ?_⟩ q)
    rw [← many]
    exact Heap.get?_push_size _ rfl
  show wpAny _ _ (callWith cpos (.builtin "dict.items") [.ref d] [] []) _ X.xe s1
  exact method_meetsIn F.slot_dict_items F.entry_dict_items rfl (PySem.evalArgs_none ⟨rfl, rw1.typeIs, F.args_dict_items_1 _, _, meets_dict_items_raw d lo, ⟨es, ep, rw1⟩, fin⟩)
end
/-! ### list(d.values()) -/
def rValsT : V → Hp → VK → Prop := fun x H Q => ∃ (d : Addr) (kvs : List (List Key × V)), x = .ref d ∧ H d = some (.dT kvs) ∧ ∀ p, H p = none → Q (.ref p) (upd H p (.lst (kvs.map (·.2))))
def tListValsT (te : TE) : TE := fun σ H Q => te σ H fun x H1 => rValsT x H1 Q
theorem dt_of2 {X : Cx} {pn : List (Addr × Obj)} {σ : L2.St} {H : Hp} {s : Shared} {d : Addr} {kvs : List (List Key × V)} (I : Inv X pn σ H s) (fz : H d = some (.dT kvs)) :
    (d == sysModules) = false ∧ kvs.length ≤ sizeLine ∧ ∃ (es : Array DictEntry) (ep : Nat), s.heap.DictRaw d es ep ∧ es.size = kvs.length ∧ ∀ (i : Nat) (lti : i < es.size), ∃ kv, kvs[i]? = some kv ∧ RelV kv.2 es[i].val := by
  obtain ⟨hz, low, xs, kt, hdo⟩ := dt_of I.hok fz
  obtain ⟨es, ep, rw1, sz, ents⟩ := hdo.raw
  have lk : kvs.length = xs.length := Paired.length kt
  refine ⟨low, hz, es, ep, rw1, by omega, fun i lti => ?_⟩
  obtain ⟨y, k1, k2, k3, _⟩ := ents i lti
  have jk : i < kvs.length := by omega
  obtain ⟨y', m1, m2, m3, m4⟩ := paired_get kt (List.getElem?_eq_getElem jk)
  rw [k1] at m1
  cases m1
  exact ⟨_, List.getElem?_eq_getElem jk, by rw [k3]; exact m4⟩
section
variable {X : Cx} {e : Expr} {te : TE} {p apos cpos pos : Pos}
theorem vals_by {xs : List V} : ∀ {us : List Value}, us.length = xs.length → (∀ (j : Nat) (v : V) (u : Value), xs[j]? = some v → us[j]? = some u → RelV v u) → Vals xs us := by
  induction xs with
  | nil => intro us h _; cases us with
    | nil => exact .nil
    | cons _ _ => cases h
  | cons x xs ih => intro us h f; cases us with
    | nil => cases h
    | cons u us => exact .cons (f 0 x u rfl rfl) (ih (Nat.succ.inj h) fun j v w g1 h2 => f (j + 1) v w (by simpa using g1) (by simpa using h2))
theorem pe_listValsT (clm : X.calm = true) (inE : PE X e te) (now : Gl X "list") (hm : X.mg "list" = none) (hv : bootBuiltins "list" = some (.type "list")) (hba : attributeBase e "values" X.env (eval e X.env) = eval e X.env := by rfl) (hli : (apos.endLine == cpos.line) = true := by rfl)
    (lo : starEach [.Call (.Attribute e "values" apos) [] [] cpos] X.env = (false, eval (.Call (.Attribute e "values" apos) [] [] cpos) X.env) :: starEach [] X.env := by rfl) :
    PE X (.Call (.Name "list" p) [.Call (.Attribute e "values" apos) [] [] cpos] [] pos) (tListValsT te) := by
  refine ⟨fun pn s σ H Q I hq => wpAny_Call_Name_kw (ld_blt I now hm hv (PyProof.Rows.callWith_type1 ?_ lo rfl))⟩
  rw [lo]
  show wpAny _ _ (spliced ((false, eval (.Call (.Attribute e "values" apos) [] [] cpos) X.env) :: backTo pos (starEach [] X.env))) _ _ s
  refine Calls.spliced_cons (wpAny_Call_method (T := "dict") (id := "dict.values") hba rfl hli F.plainAttrs_dict F.slot_dict_values F.type_dict_values (thn (inE.run pn s σ H _ I hq) fun u s1 ⟨x, H1, J1, rx, d, kvs, ex, fz, q⟩ => ?_))
  subst ex
  obtain rfl : u = Value.ref d := rx
  obtain ⟨low, hz, es, ep, rw1, sz, ents⟩ := dt_of2 J1 fz
  have J2 : Inv X pn σ H1 { s1 with heap := s1.heap.push { cls := .type "dict_values", data := .fields #[.ref d] } } := J1.kept (t' := s1.toks) fun b ob q => Heap.get?_push_of_some _ q
  refine ⟨rw1.typeIs, (fun b e => by cases e; exact let ⟨o, ho, clm, _⟩ := rw1; ⟨o, ho, clm.2.1⟩), ?_⟩
  show wpAny _ _ (callWith cpos (.builtin "dict.values") [.ref d] [] []) _ X.xe s1
  refine method_meetsIn F.slot_dict_values F.entry_dict_values rfl (PySem.evalArgs_none ⟨rfl, rw1.typeIs, F.args_dict_values_1 _, _, meets_dict_values_raw d low, ⟨es, ep, rw1⟩, Calls.spliced_nil ?_⟩)
  refine PySem.W.kdl_call PySem.KdlSrc.rawValues (J1.ok.hd clm) ⟨⟨_, Heap.get?_push_size _ rfl, rfl, rfl⟩, rw1.push _⟩ (by omega) fun h' tk acc c hk hS hacc => ?_
  have rel : Vals (kvs.map (·.2)) acc.toList := vals_by (by rw [Array.length_toList, List.length_map, hacc.1, sz]) fun j v u g1 h2 => by
    have h2' : acc[j]? = some u := by rw [← Array.getElem?_toList]; exact h2
    obtain ⟨hj, e1⟩ := hacc.2 j u h2'
    obtain ⟨kv, k1, k2⟩ := ents j hj
    rw [List.getElem?_map, k1] at g1
    rw [e1, ← Option.some.inj g1]
    exact k2
  have J := J2.laid (t' := tk) (h' := h') (a := (s1.heap.push { cls := .type "dict_values", data := .fields #[.ref d] }).objs.size) (o := .lst (kvs.map (·.2))) hk (Nat.le_refl _) ⟨by rw [List.length_map]; omega, acc.toList, c, rel, by rw [Array.toArray_toList]; exact hS⟩
  exact ⟨.ref _, _, J, rfl, q _ (J2.hok.fresh (Nat.le_refl _))⟩
end
end Q9
end
-- QRead1
section
set_option maxRecDepth 100000
set_option maxHeartbeats 4000000
namespace Q9
open PySem L2
/-- are all rows of moves short enough -/
def spAreRows (K : PySem.W.Frag) : Sp := fun vs H Q _ => ∃ (m : Addr) (kvs : List (List Key × V)) (mv : Mv), vs = [.ref m] ∧ H m = some (.dT kvs) ∧ Moves K H kvs mv ∧ kvs.length ≤ 1000000 ∧
  ∀ H', Same H H' → Q (.bl (decide (∀ e ∈ mv, e.2.length ≤ 8))) H'
structure TRead (K : PySem.W.Frag) (mg : Str → Option Value) (fKey : Addr) : Prop where
  isi : mg "isinstance" = none
  dict : mg "dict" = none
  lst : mg "list" = none
  tup : mg "tuple" = none
  str : mg "str" = none
  len : mg "len" = none
  all : mg "all" = none
  sum : mg "sum" = none
  set : mg "set" = none
  sorted : mg "sorted" = none
  outcomes : ∃ t, mg "MOST_OUTCOMES" = some (.int 8 t)
  states : ∃ t, mg "MOST_STATES" = some (.int 60 t)
  methods : ∃ t, mg "MOST_METHODS" = some (.int 8 t)
  gKey : mg "_is_key" = some (.ref fKey)
  kKey : PySem.W.keepIn K (.ref fKey) = true
abbrev arN : List Str := ["moves", "key", "row"]
section
variable {P : Program} {w : World} {K : PySem.W.Frag} {mg : Str → Option Value} {base : Heap} {fKey : Addr}
theorem scAR : FnScope arN ["moves"] (defScope sAreRows) := ⟨rfl, rfl, rfl, by decide +kernel, rfl, by decide +kernel, by decide +kernel⟩
theorem ln6 : ∀ n : Nat, n ≤ 1000000 → n < sizeLine := fun n h => by rw [PySem.sizeLine_eq]; omega
theorem ok_areRows {f : Addr} {fd dK : FuncData} (F : Fun K "_are_rows" "_are_rows" sAreRows f fd) (T : TRead K mg fKey) (GK : FnOk P w K mg base CX0 1 fKey dK ["thing"] (spIsKey K)) (bK : Binds K dK ["thing"] []) : FnOk P w K mg base CX0 2 f fd ["moves"] (spAreRows K) := by
  refine F.ok scAR (fun vs H Q E h => ?_) (fun cdv A outer s H vs Q E hr h => ?_)
  · obtain ⟨m, kvs, mv, rfl, _⟩ := h
    rfl
  · obtain ⟨m, kvs, mv, rfl, hm, M, few, q⟩ := h
    obtain ⟨to, ho⟩ := T.outcomes
    refine ⟨_, pss_cons (ps_if (PW.pt (pw_or (pt_not (pt_val (pe_callB call_isi (by rfl) T.isi (by decide +kernel) (pa_cons (pv 0) (pa_cons (pe_bltn (v := .ty "dict") (by rfl) T.dict (by decide +kernel) rfl) pa_nil)))))
        (pw_or1 (pt_not (pt_val (pe_callB (cr_all rfl) (by rfl) T.all (by decide +kernel) (pa_cons
          (pe_lock (pe_lc (own := [("key", 1)]) (g := gName 1) (tt := tYes) rfl scAR.nd (pi_keys (pv 0)) (blkOk_by (own := [("key", 1)]) (N := arN) (sc := defScope sAreRows) (by decide +kernel))
            (fun _ _ _ _ _ => pg_name (i := 1) scAR.nd rfl (.inl rfl)) (fun _ _ _ _ _ => pts_nil) (fun _ _ _ _ _ => pe_call GK hr (by rfl) T.gKey T.kKey bK .nil pass0 (pa_cons (pv 1) pa_nil)))) pa_nil)))))))
        (pss_one (ps_ret pe_bl)) pss_nil)
      (pss_one (ps_ret (pe_notT (pe_lock (pe_lc (own := [("row", 2)]) (g := gName 2) (te := tVar 2) rfl scAR.nd (pi_valuesT (pv 0)) (blkOk_by (own := [("row", 2)]) (N := arN) (sc := defScope sAreRows) (by decide +kernel))
            (fun _ _ _ _ _ => pg_name (i := 2) scAR.nd rfl (.inl rfl))
            (fun _ _ _ _ _ => pts_one (PW.pt (pw_or (pt_not (pt_val (pe_callB (id := "isinstance") (r := rIsiT K) call_isiT (by rfl) T.isi (by decide +kernel) (pa_cons (pv 2) (pa_cons (pe_tup (pa_cons (pe_bltn (v := .ty "list") (by rfl) T.lst (by decide +kernel) rfl) (pa_cons (pe_bltn (v := .ty "tuple") (by rfl) T.tup (by decide +kernel) rfl) pa_nil))) pa_nil)))))
              (pw_or1 (pt_cmpR op_gt (pe_callB (id := "len") (r := rLenRow K) cr_lenRow (by rfl) T.len (by decide +kernel) (pa_cons (pv 2) pa_nil)) (pe_glob (v := .int 8) (by rfl) ho ⟨_, rfl⟩) (nomark _))))))
            (fun _ _ _ _ _ => pv 2)))))), ?_⟩
    refine ⟨_, rfl, _, _, _, _, true, rfl, .ty _, .base (.dT hm), kit_ty (by decide +kernel), true, rfl, iteF ?_⟩
    refine ⟨m, .dT kvs, hm, trivial, fun od => ?_⟩
    refine ⟨_, rfl, m, od, rfl, .inr ⟨kvs, upd_same, fun D hD => ?_⟩⟩
    have len : kvs.length = mv.length := PySem.Paired.length M.ent
    have nmD : m ≠ D := ne_of_none upd_same hD
    have freeD : H D = none := by rw [upd_ne nmD.symm] at hD; exact hD
    refine lc_it walk_keysT (fun i H' => H' m = some (.frz od (.dT kvs)) ∧ But m H H' ∧ H' D = some (.lst ((List.replicate i true).map V.bl))) ?_ (fun i H' _ p => p.1) ?_ ?_
    · exact ⟨by rw [upd_ne nmD]; exact upd_same, fun b o ne e => by rw [upd_ne (ne_of_none e freeD), upd_ne ne]; exact e, upd_same⟩
    · rintro i y H1 H2 hi ⟨hm1, bt, hd⟩ ⟨rfl, k0, v, qa, hk, rfl, hq⟩
      obtain ⟨e, hev, ek, _⟩ := paired_at M.ent i _ hk
      simp only at ek
      subst ek
      have hq' : H2 qa = some (.tup [.str e.1.1, .str e.1.2]) := hq
      refine ⟨rfl, _, rfl, .ref qa, rfl, .inr (.inr ⟨qa, _, _, true, true, rfl, .of hq', txt_yes _, txt_yes _, _, hd, ?_, ?_, fun b o ne z => ?_, ?_⟩)⟩
      · rw [List.length_map, List.length_replicate]; exact ln6 _ (by omega)
      · rw [upd_ne nmD]; exact hm1
      · rw [upd_ne (ne_of_none z freeD)]; exact bt b o ne z
      · rw [upd_same, List.replicate_succ', List.map_append]; rfl
    · rintro H1 ⟨hm1, bt, hd⟩
      have sb := bt.back hm
      refine ⟨hm1, D, _, rfl, .of (by rw [upd_ne nmD.symm]; exact hd), _, rfl, ?_⟩
      have e1 : (List.replicate kvs.length true).all id = true := by rw [List.all_eq_true]; intro x hx; exact (List.mem_replicate.mp hx).2
      rw [e1]
      refine iteF ?_
      generalize hG : upd H1 m (.dT kvs) = G at sb
      have hmG := sb m _ hm
      have MG := moves_up (Q9.Same.sq sb) M
      refine ⟨m, .dT kvs, hmG, trivial, fun od2 => ?_⟩
      refine ⟨_, rfl, m, od2, kvs, rfl, upd_same, fun D2 hD2 => ?_⟩
      have nmD2 : m ≠ D2 := ne_of_none upd_same hD2
      have freeD2 : G D2 = none := by rw [upd_ne nmD2.symm] at hD2; exact hD2
      refine lc_it walk_valuesT (fun i H' => H' m = some (.frz od2 (.dT kvs)) ∧ But m G H' ∧ ∃ acc, H' D2 = some (.lst acc) ∧ acc.length ≤ i ∧ (acc = [] ↔ ∀ e ∈ mv.take i, e.2.length ≤ 8)) ?_ (fun i H' _ p => p.1) ?_ ?_
      · exact ⟨by rw [upd_ne nmD2]; exact upd_same, fun b o ne e => by rw [upd_ne (ne_of_none e freeD2), upd_ne ne]; exact e, [], upd_same, Nat.le_refl _, by simp⟩
      · rintro i y H2 H3 hi ⟨hm2, bt2, acc, hacc, la, iff⟩ ⟨rfl, k0, hk⟩
        obtain ⟨e, hev, ek, vs, row, each⟩ := paired_at MG.ent i _ hk
        have row2 := row_sq (bt2.sq hmG) row
        have ll : vs.length = e.2.length := PySem.Paired.length each
        refine ⟨rfl, _, rfl, (by show 2 ≤ sizeLine; decide), fun t ht => ?_⟩
        have st := same_upd (o := .tup [.ty "list", .ty "tuple"]) ht
        have row3 := row_up st row2
        have pr : Paired ClsV [V.ty "list", V.ty "tuple"] [Value.type "list", Value.type "tuple"] := .cons (.ty _) (.cons (.ty _) .nil)
        have isrow : ∃ t0, TyX K (upd H3 t (.tup [.ty "list", .ty "tuple"])) y t0 ∧ PySem.W.kitAny K t0 [Value.type "list", Value.type "tuple"] = some true := by
          rcases row_ty row3 with ty | ty
          · exact ⟨_, ty, kitAny_cons (b := true) (kit_ty (by decide +kernel)) (fun z => nomatch z) fun _ => rfl⟩
          · exact ⟨_, ty, kitAny_cons (b := false) (kit_ty (by decide +kernel)) (fun _ => kitAny_cons (b := true) (kit_ty (by decide +kernel)) (fun z => nomatch z) fun _ => rfl) (fun z => nomatch z)⟩
        obtain ⟨t0, ty, kt⟩ := isrow
        refine ⟨y, t, _, _, _, true, rfl, upd_same, pr, ty, kt, true, rfl, iteF ?_⟩
        refine ⟨_, rfl, y, vs, rfl, row3, _, _, rfl, rfl, _, rfl, ?_⟩
        have bt3 : But m G (upd H3 t (.tup [.ty "list", .ty "tuple"])) := bt2.trans (But.of st)
        have tk1 : ∀ P : (Str × Str) × List (Str × Str) → Prop, (∀ x ∈ mv.take (i + 1), P x) ↔ ((∀ x ∈ mv.take i, P x) ∧ P e) := fun P => by
          rw [take_one_more hev]
          constructor
          · intro h
            exact ⟨fun x hx => h x (List.mem_append_left _ hx), h e (List.mem_append_right _ (List.mem_singleton.mpr rfl))⟩
          · rintro ⟨h1, h2⟩ x hx
            rcases List.mem_append.mp hx with hx | hx
            · exact h1 x hx
            · rw [List.mem_singleton.mp hx]; exact h2
        by_cases c : e.2.length ≤ 8
        · have c1 : decide ((8 : Int) < (vs.length : Int)) = false := decide_eq_false (by omega)
          rw [c1]
          refine iteF ⟨st _ _ hm2, bt3, acc, st _ _ hacc, by omega, ?_⟩
          rw [tk1, iff]
          exact ⟨fun h => ⟨h, c⟩, fun h => h.1⟩
        · have c1 : decide ((8 : Int) < (vs.length : Int)) = true := decide_eq_true (by omega)
          rw [c1]
          refine iteT ⟨_, rfl, acc, st _ _ hacc, ln6 _ (by omega), ?_, fun b o ne z => ?_, _, upd_same, ?_, ?_⟩
          · rw [upd_ne nmD2]; exact st _ _ hm2
          · rw [upd_ne (ne_of_none z freeD2)]; exact bt3 b o ne z
          · rw [List.length_append, List.length_singleton]; omega
          · rw [tk1]
            exact ⟨fun h => absurd h (by simp), fun h => absurd h.2 c⟩
      · rintro H2 ⟨hm2, bt2, acc, hacc, la, iff⟩
        rw [len, List.take_length] at iff
        have sb2 := bt2.back hmG
        refine ⟨hm2, _, .inl ⟨acc, .of (by rw [upd_ne nmD2.symm]; exact hacc), rfl⟩, ?_⟩
        have e2 : (!(!acc.isEmpty)) = decide (∀ e ∈ mv, e.2.length ≤ 8) := by
          rw [Bool.not_not, Bool.eq_iff_iff, List.isEmpty_iff, decide_eq_true_iff]
          exact iff
        rw [e2]
        exact q _ fun b o z => sb2 b o (sb b o z)

/-- a walk and what each turn does, whatever that is -/
theorem turns_it {J : It} {n : Nat} {G : Hp → Prop} {Y : Nat → Hp → V → Hp → Prop} (w : Walk J n G Y) {B : V → Hp → (Hp → Prop) → Prop} {H0 : Hp} {Qd : Hp → Prop} (Pv : Nat → Hp → Prop) (h0 : Pv 0 H0) (hG : ∀ i H, i ≤ n → Pv i H → G H)
    (hs : ∀ i x H H', i < n → Pv i H → Y i H x H' → B x H' (Pv (i + 1))) (hd : ∀ H, Pv n H → Qd H) :
    ∃ W : Nat → Nat → Hp → Prop, (∃ m, W 0 m H0) ∧ ∀ i m H, W i m H → (J.stop i H ∧ Qd H) ∨ (J.go i H ∧ ∃ Nx : Hp → Prop, (∀ H', Nx H' → ∃ m', m' < m ∧ W (i + 1) m' H') ∧ ∀ x H', J.yld i H x H' → B x H' Nx) := by
  refine ⟨fun i m H => m + i = n ∧ Pv i H, ⟨n, rfl, h0⟩, ?_⟩
  rintro i m H ⟨e, p⟩
  have q := hG i H (by omega) p
  cases m with
  | zero =>
    obtain rfl : i = n := by omega
    exact .inl ⟨w.stops H q, hd H p⟩
  | succ m =>
    have lt : i < n := by omega
    exact .inr ⟨w.goes i H lt q, Pv (i + 1), fun H' p' => ⟨m, Nat.lt_succ_self _, by omega, p'⟩, fun x H' y => hs i x H H' lt p (w.yields i H x H' lt q y)⟩
/-- a row that stood at some heap ahead and stands still -/
def iRowB (K : PySem.W.Frag) (tl : TE) : TI := fun σ H R => tl σ H fun x H1 => ∃ xs H0, Row K H0 x xs ∧ Same H0 H1 ∧ ∀ (J : It) (G : Hp → Prop), (∀ H', Same H0 H' → G H') → Walk J xs.length G (YAt xs) → R J H1
theorem same_sqT {K : PySem.W.Frag} {H H' : Hp} {a : Addr} {xs : List V} (s : Same H H') (h : SqT K H a xs) : SqT K H' a xs := sqT_up (Q9.Same.sq s) h
theorem pi_rowB {X : Cx} {tg l : Expr} {tl : TE} (hl : PE X l tl) : PI X tg l (iRowB X.K tl) := by
  refine ⟨fun pins s σ H R I h => ?_⟩
  refine thn (hl.run pins s σ H _ I h) fun v s1 ⟨x, H1, I1, r1, xs, H0, ⟨a, e, hq⟩, s0, q⟩ => ?_
  subst e
  cases r1
  have one : ∀ b ∈ [s1.heap.objs.size], FpOk X pins H1 b := fun b hb => by
    obtain rfl : b = s1.heap.objs.size := by simpa using hb
    exact I1.fpOk (Nat.le_refl _) (I1.hok.fresh (Nat.le_refl _))
  rcases hq with hq | hq
  · obtain ⟨its, rv, p, hz⟩ := I1.list (s0.seq hq)
    exact PySem.wpAny_pyIter_list p.isList ⟨s1.heap.objs.size, [s1.heap.objs.size], _, _, H1, rfl, I1.kept (t' := s1.toks) fun b o e => Heap.get?_push_of_some _ e, turn_list a _, ⟨_, Heap.get?_push_size _ rfl, rfl, rfl⟩, one,
      q _ (fun H' => SqL X.K H' a xs) (fun H' s => s.seq hq) walk_list⟩
  · obtain ⟨its, rv, p, hz⟩ := I1.tuple (same_sqT s0 hq)
    exact PySem.wpAny_pyIter_tuple (show s1.heap.IsTuple a its.toArray from p) ⟨s1.heap.objs.size, [s1.heap.objs.size], _, _, H1, rfl, I1.kept (t' := s1.toks) fun b o e => Heap.get?_push_of_some _ e, turn_tuple a _, ⟨_, Heap.get?_push_size _ rfl, rfl, rfl⟩, one,
      q _ (fun H' => SqT X.K H' a xs) (fun H' s => same_sqT s hq) walk_tup⟩
/-- all outcomes in one list -/
def spPairs (K : PySem.W.Frag) : Sp := fun vs H Q _ => ∃ (r : Addr) (rows : List V) (oss : List (List (Str × Str))), vs = [.ref r] ∧ SqL K H r rows ∧ Paired (OutsT K H) rows oss ∧ oss.flatten.length ≤ 1000000 ∧
  ∀ (H' : Hp) (p : Addr), Same H H' → OutsL K H' (.ref p) oss.flatten → Q (.ref p) H'
abbrev paN : List Str := ["rows", "row", "one"]
theorem scPa : FnScope paN ["rows"] (defScope sPairs) := ⟨rfl, rfl, rfl, by decide +kernel, rfl, by decide +kernel, by decide +kernel⟩
theorem ok_pairs {f : Addr} {fd : FuncData} (F : Fun K "_pairs_of_texts" "_pairs_of_texts" sPairs f fd) (T : TRead K mg fKey) : FnOk P w K mg base CX0 1 f fd ["rows"] (spPairs K) := by
  refine F.ok scPa (fun vs H Q E h => ?_) (fun cdv A outer s H vs Q E hr h => ?_)
  · obtain ⟨r, rows, oss, rfl, _⟩ := h
    rfl
  · obtain ⟨r, rows, oss, rfl, hr0, each, few, q⟩ := h
    refine ⟨_, pss_one (ps_ret (pe_lc2 (own := [("row", 1), ("one", 2)]) (vs1 := [2]) (g := gName 1) (tt := tYes) (wi1 := iRowB K (tVar 1)) (g1 := gName 2) (te := tVar 2) rfl scPa.nd (pi_list (pv 0)) (blkOk_by (own := [("row", 1), ("one", 2)]) (N := paN) (sc := defScope sPairs) (by decide +kernel)) (by decide)
      (fun _ _ _ _ _ => pg_name (i := 1) scPa.nd rfl (.inl rfl)) (fun _ _ _ _ _ => pts_nil) (fun _ _ _ _ _ => pi_rowB (pv 1)) (fun _ _ _ _ _ => pg_name (i := 2) scPa.nd rfl (.inl rfl))
      (fun _ _ _ _ _ => pts_one (PW.pt (pw_and (pt_val (pe_callB (id := "isinstance") (r := rIsi K) call_isi (by rfl) T.isi (by decide +kernel) (pa_cons (pv 2) (pa_cons (pe_bltn (v := .ty "tuple") (by rfl) T.tup (by decide +kernel) rfl) pa_nil))))
        (pw_and (pt_cmpR op_eq (pe_callB (id := "len") (r := rLenRow K) cr_lenRow (by rfl) T.len (by decide +kernel) (pa_cons (pv 2) pa_nil)) pe_int (nomark _))
        (pw_and (pt_val (pe_callB (id := "isinstance") (r := rIsi K) call_isi (by rfl) T.isi (by decide +kernel) (pa_cons (pe_ix (r := rIxT K) ix_tup (pv 2) pe_int (fun _ _ => rfl)) (pa_cons (pe_bltn (v := .ty "str") (by rfl) T.str (by decide +kernel) rfl) pa_nil))))
        (pw_and1 (pt_val (pe_callB (id := "isinstance") (r := rIsi K) call_isi (by rfl) T.isi (by decide +kernel) (pa_cons (pe_ix (r := rIxT K) ix_tup (pv 2) pe_int (fun _ _ => rfl)) (pa_cons (pe_bltn (v := .ty "str") (by rfl) T.str (by decide +kernel) rfl) pa_nil))))))))))
      (fun _ _ _ _ _ => pv 2))), ?_⟩
    refine ⟨_, rfl, r, rfl, ⟨_, hr0⟩, fun D hD => ?_⟩
    have lr : rows.length = oss.length := PySem.Paired.length each
    have flat : ∀ i, (oss.take i).flatten.length ≤ 1000000 := fun i => by
      refine Nat.le_trans ?_ few
      conv => rhs; rw [← List.take_append_drop i oss, List.flatten_append, List.length_append]
      exact Nat.le_add_right _ _
    refine turns_it (walk_list (xs := rows)) (fun i H' => Same H H' ∧ ∃ vs, H' D = some (.lst vs) ∧ Paired (OutT K H) vs (oss.take i).flatten) ⟨same_upd hD, [], upd_same, by simp; exact .nil⟩ (fun i H' _ p => sqL_up (Q9.Same.sq p.1) hr0) ?_ ?_
    · rintro i y H1 H2 hi ⟨s1, vs, hvs, pvs⟩ ⟨rfl, hy⟩
      obtain ⟨os, hos, us, row, eo⟩ := paired_at each i _ hy
      have lu : us.length = os.length := PySem.Paired.length eo
      have fl := flat (i + 1)
      have efl : (oss.take (i + 1)).flatten = (oss.take i).flatten ++ os := by rw [take_one_more hos, List.flatten_append]; simp
      rw [efl, List.length_append] at fl
      refine ⟨rfl, _, rfl, us, H, row, s1, fun J G hG wk => ?_⟩
      refine turns_it wk (fun j H' => Same H H' ∧ ∃ acc, H' D = some (.lst acc) ∧ Paired (OutT K H) acc ((oss.take i).flatten ++ os.take j)) ⟨s1, vs, hvs, by simpa using pvs⟩ (fun j H' _ p => hG _ p.1) ?_ ?_
      · rintro j y2 H3 H4 hj ⟨s3, acc, hacc, pacc⟩ ⟨rfl, hy2⟩
        obtain ⟨o, ho, q2, rfl, hq2⟩ := paired_at eo j _ hy2
        have hx := same_sqT s3 hq2
        have la : acc.length = ((oss.take i).flatten ++ os.take j).length := PySem.Paired.length pacc
        rw [List.length_append, List.length_take] at la
        refine ⟨rfl, _, rfl, _, _, _, _, true, rfl, .ty _, sqT_ty hx, kit_ty (by decide +kernel), true, rfl, iteT ?_⟩
        refine ⟨_, rfl, _, _, rfl, ⟨q2, rfl, .inr hx⟩, rfl, true, rfl, iteT ?_⟩
        refine ⟨_, rfl, q2, _, _, _, rfl, rfl, hx, atI_nat (j := 0) rfl, _, _, _, _, true, rfl, .ty _, .base (.str o.1), kit_ty (by decide +kernel), true, rfl, iteT ?_⟩
        refine ⟨_, rfl, q2, _, _, _, rfl, rfl, hx, atI_nat (j := 1) rfl, _, _, _, _, true, rfl, .ty _, .base (.str o.2), kit_ty (by decide +kernel), true, rfl, iteT ?_⟩
        refine ⟨_, rfl, acc, hacc, ln6 _ (by omega), fun b u z => ?_, _, upd_same, ?_⟩
        · rw [upd_ne (ne_of_none z hD)]
          exact s3 b u z
        · rw [take_one_more ho, ← List.append_assoc]
          exact paired_append pacc (.cons ⟨q2, rfl, hq2⟩ .nil)
      · rintro H3 ⟨s3, acc, hacc, pacc⟩
        rw [lu, List.take_length, ← efl] at pacc
        exact ⟨s3, acc, hacc, pacc⟩
    · rintro H1 ⟨s1, vs, hvs, pvs⟩
      rw [lr, List.take_length] at pvs
      exact q H1 D s1 ⟨D, vs, rfl, .of hvs, L2.Paired.mapP pvs fun _ _ ⟨q, e, h⟩ => ⟨q, e, same_sqT s1 h⟩⟩
end
end Q9
end
-- QRead2
section
set_option maxRecDepth 100000
set_option maxHeartbeats 4000000
namespace Q9
open PySem L2
/-- names and words that are right: are they few enough -/
def spRight (K : PySem.W.Frag) : Sp := fun vs H Q _ => ∃ (a b c : Addr) (ws ss ms : List Str), vs = [.ref a, .ref b, .ref c] ∧ SqL K H a (ws.map V.str) ∧ SqL K H b (ss.map V.str) ∧ SqL K H c (ms.map V.str) ∧
  (∀ z ∈ ws, wordB z = true) ∧ (∀ z ∈ ss, nameB z = true) ∧ (∀ z ∈ ms, nameB z = true) ∧ ws.length ≤ 1000000 ∧ ss.length ≤ 1000000 ∧ ms.length ≤ 1000000 ∧ ∀ H', Same H H' → Q (.bl (decide (ss.length ≤ 60) && decide (ms.length ≤ 8))) H'
structure TRight (K : PySem.W.Frag) (mg : Str → Option Value) (fName fWord : Addr) : Prop where
  gN : mg "is_name" = some (.ref fName)
  kN : PySem.W.keepIn K (.ref fName) = true
  gW : mg "is_word" = some (.ref fWord)
  kW : PySem.W.keepIn K (.ref fWord) = true
abbrev riN : List Str := ["words", "states", "methods", "word", "name"]
section
variable {P : Program} {w : World} {K : PySem.W.Frag} {mg : Str → Option Value} {base : Heap} {fKey fName fWord : Addr}
theorem scRi : FnScope riN ["words", "states", "methods"] (defScope sRight) := ⟨rfl, rfl, rfl, by decide +kernel, rfl, by decide +kernel, by decide +kernel⟩
/-- all([f(x) for x in texts]), f a test of texts that all of them pass: the walk -/
theorem all_true {H H1 : Hp} {K : PySem.W.Frag} (n : Nat) : ((List.replicate n true).all id) = true := by rw [List.all_eq_true]; intro x hx; exact (List.mem_replicate.mp hx).2
theorem ok_right {f : Addr} {fd dN dW : FuncData} (F : Fun K "_are_right" "_are_right" sRight f fd) (T : TRead K mg fKey) (TR : TRight K mg fName fWord)
    (GN : FnOk P w K mg base CX0 2 fName dN ["thing"] (spForm K nameB)) (bN : Binds K dN ["thing"] []) (GW : FnOk P w K mg base CX0 3 fWord dW ["thing"] (spForm K wordB)) (bW : Binds K dW ["thing"] []) :
    FnOk P w K mg base CX0 4 f fd ["words", "states", "methods"] (spRight K) := by
  refine F.ok scRi (fun vs H Q E h => ?_) (fun cdv A outer s H vs Q E hr h => ?_)
  · obtain ⟨a, b, c, ws, ss, ms, rfl, _⟩ := h
    rfl
  · obtain ⟨a, b, c, ws, ss, ms, rfl, ha, hb, hc, aw, as_, am, lw, ls, lm, q⟩ := h
    obtain ⟨t1, h1⟩ := T.states
    obtain ⟨t2, h2⟩ := T.methods
    refine ⟨_, pss_cons (ps_if (PW.pt (pw_or (pt_cmpR op_gt (pe_callB cr_lenRow (by rfl) T.len (by decide +kernel) (pa_cons (pv 1) pa_nil)) (pe_glob (v := .int 60) (by rfl) h1 ⟨_, rfl⟩) (nomark _))
        (pw_or (pt_cmpR op_gt (pe_callB cr_lenRow (by rfl) T.len (by decide +kernel) (pa_cons (pv 2) pa_nil)) (pe_glob (v := .int 8) (by rfl) h2 ⟨_, rfl⟩) (nomark _))
        (pw_or1 (pt_not (pt_val (pe_callB (cr_all rfl) (by rfl) T.all (by decide +kernel) (pa_cons
          (pe_lc (own := [("word", 3)]) (g := gName 3) (tt := tYes) rfl scRi.nd (pi_list (pv 0)) (blkOk_by (own := [("word", 3)]) (N := riN) (sc := defScope sRight) (by decide +kernel))
            (fun _ _ _ _ _ => pg_name (i := 3) scRi.nd rfl (.inl rfl)) (fun _ _ _ _ _ => pts_nil) (fun _ _ _ _ _ => pe_call GW (hr.mono (by decide)) (by rfl) TR.gW TR.kW bW .nil pass0 (pa_cons (pv 3) pa_nil))) pa_nil))))))))
        (pss_one (ps_ret pe_bl)) pss_nil)
      (pss_one (ps_ret (pe_and (pe_callB (cr_all rfl) (by rfl) T.all (by decide +kernel) (pa_cons
          (pe_lc (own := [("name", 4)]) (g := gName 4) (tt := tYes) rfl scRi.nd (pi_list (pv 1)) (blkOk_by (own := [("name", 4)]) (N := riN) (sc := defScope sRight) (by decide +kernel))
            (fun _ _ _ _ _ => pg_name (i := 4) scRi.nd rfl (.inl rfl)) (fun _ _ _ _ _ => pts_nil) (fun _ _ _ _ _ => pe_call GN (hr.mono (by decide)) (by rfl) TR.gN TR.kN bN .nil pass0 (pa_cons (pv 4) pa_nil))) pa_nil))
        (pe_one (pe_callB (cr_all rfl) (by rfl) T.all (by decide +kernel) (pa_cons
          (pe_lc (own := [("name", 4)]) (g := gName 4) (tt := tYes) rfl scRi.nd (pi_list (pv 2)) (blkOk_by (own := [("name", 4)]) (N := riN) (sc := defScope sRight) (by decide +kernel))
            (fun _ _ _ _ _ => pg_name (i := 4) scRi.nd rfl (.inl rfl)) (fun _ _ _ _ _ => pts_nil) (fun _ _ _ _ _ => pe_call GN (hr.mono (by decide)) (by rfl) TR.gN TR.kN bN .nil pass0 (pa_cons (pv 4) pa_nil))) pa_nil)))))), ?_⟩
    refine ⟨_, rfl, .ref b, _, rfl, ⟨b, rfl, .inl hb⟩, _, _, rfl, rfl, _, rfl, ?_⟩
    rw [List.length_map]
    by_cases c1 : ss.length ≤ 60
    · rw [show decide ((60 : Int) < (ss.length : Int)) = false from decide_eq_false (by omega)]
      refine iteF ⟨_, rfl, .ref c, _, rfl, ⟨c, rfl, .inl hc⟩, _, _, rfl, rfl, _, rfl, ?_⟩
      rw [List.length_map]
      rw [decide_eq_true c1, Bool.true_and] at q
      by_cases c2 : ms.length ≤ 8
      · rw [show decide ((8 : Int) < (ms.length : Int)) = false from decide_eq_false (by omega)]
        rw [decide_eq_true c2] at q
        refine iteF ⟨_, rfl, a, rfl, ⟨_, ha⟩, fun D hD => ?_⟩
        have stp : ∀ {zs : List Str} {p : Str → Bool} {G : Hp} {D : Addr} {i : Nat} {z : Str} {H1 H4 : Hp}, zs.length ≤ 1000000 → zs[i]? = some z → p z = true → G D = none → Same G H1 → H1 D = some (.lst ((List.replicate i true).map V.bl)) → Same H1 H4 →
            ∃ acc, H4 D = some (.lst acc) ∧ acc.length < sizeLine ∧ Same G (upd H4 D (.lst (acc ++ [.bl (p z)]))) ∧ upd H4 D (.lst (acc ++ [.bl (p z)])) D = some (.lst ((List.replicate (i + 1) true).map V.bl)) := by
          intro zs p G D i z H1 H4 lz hz hp hG s1 hd s4
          have := (List.getElem?_eq_some_iff.mp hz).1
          refine ⟨_, s4 _ _ hd, by rw [List.length_map, List.length_replicate]; exact ln6 _ (by omega), fun b o e => ?_, ?_⟩
          · rw [upd_ne (ne_of_none e hG)]
            exact s4 _ _ (s1 _ _ e)
          · rw [upd_same, hp, List.replicate_succ', List.map_append]
            rfl
        have get : ∀ {zs : List Str} {i : Nat} {y : V}, (zs.map V.str)[i]? = some y → ∃ z, zs[i]? = some z ∧ y = V.str z := by
          intro zs i y hy
          rw [List.getElem?_map] at hy
          obtain ⟨z, h1, h2⟩ := Option.map_eq_some_iff.mp hy
          exact ⟨z, h1, h2.symm⟩
        refine lc_it (walk_list (xs := ws.map V.str)) (fun i H' => Same H H' ∧ H' D = some (.lst ((List.replicate i true).map V.bl))) ⟨same_upd hD, upd_same⟩ (fun i H' _ p => sqL_up (Q9.Same.sq p.1) ha) ?_ ?_
        · rintro i y H1 H2 hi ⟨s1, hd⟩ ⟨rfl, hy⟩
          obtain ⟨z, hz, rfl⟩ := get hy
          have wz := aw z (List.mem_of_getElem? hz)
          refine ⟨rfl, _, rfl, _, rfl, .inl ⟨z, rfl, word_len wz, fun H4 s4 => ?_⟩⟩
          exact stp lw hz wz hD s1 hd s4
        · rintro H1 ⟨s1, hd⟩
          refine ⟨D, _, rfl, .of hd, _, rfl, ?_⟩
          rw [all_true (H := H) (H1 := H) (K := K)]
          refine iteF ⟨_, rfl, b, rfl, ⟨_, s1.seq hb⟩, fun D2 hD2 => ?_⟩
          refine lc_it (walk_list (xs := ss.map V.str)) (fun i H' => Same H1 H' ∧ H' D2 = some (.lst ((List.replicate i true).map V.bl))) ⟨same_upd hD2, upd_same⟩ (fun i H' _ p => sqL_up (Q9.Same.sq p.1) (s1.seq hb)) ?_ ?_
          · rintro i y H3 H2 hi ⟨s3, hd⟩ ⟨rfl, hy⟩
            obtain ⟨z, hz, rfl⟩ := get hy
            have wz := as_ z (List.mem_of_getElem? hz)
            refine ⟨rfl, _, rfl, _, rfl, .inl ⟨z, rfl, name_len wz, fun H4 s4 => ?_⟩⟩
            exact stp ls hz wz hD2 s3 hd s4
          · rintro H2 ⟨s2, hd2⟩
            have s12 : Same H H2 := fun b o z => s2 b o (s1 b o z)
            refine ⟨D2, _, rfl, .of hd2, _, rfl, ?_⟩
            rw [all_true (H := H) (H1 := H) (K := K)]
            refine iteT ⟨_, rfl, c, rfl, ⟨_, s12.seq hc⟩, fun D3 hD3 => ?_⟩
            refine lc_it (walk_list (xs := ms.map V.str)) (fun i H' => Same H2 H' ∧ H' D3 = some (.lst ((List.replicate i true).map V.bl))) ⟨same_upd hD3, upd_same⟩ (fun i H' _ p => sqL_up (Q9.Same.sq p.1) (s12.seq hc)) ?_ ?_
            · rintro i y H3 H5 hi ⟨s3, hd⟩ ⟨rfl, hy⟩
              obtain ⟨z, hz, rfl⟩ := get hy
              have wz := am z (List.mem_of_getElem? hz)
              refine ⟨rfl, _, rfl, _, rfl, .inl ⟨z, rfl, name_len wz, fun H4 s4 => ?_⟩⟩
              exact stp lm hz wz hD3 s3 hd s4
            · rintro H3 ⟨s3, hd3⟩
              refine ⟨D3, _, rfl, .of hd3, ?_⟩
              rw [all_true (H := H) (H1 := H) (K := K)]
              exact q H3 fun b o z => s3 b o (s12 b o z)
      · rw [show decide ((8 : Int) < (ms.length : Int)) = true from decide_eq_true (by omega)]
        rw [decide_eq_false c2] at q
        exact iteT (q H (Same.refl H))
    · rw [show decide ((60 : Int) < (ss.length : Int)) = true from decide_eq_true (by omega)]
      rw [decide_eq_false c1, Bool.false_and] at q
      exact iteT (q H (Same.refl H))
end
end Q9
end
-- QSetTups
section
set_option maxRecDepth 100000
set_option maxHeartbeats 8000000
/-! set(row), the row's elements tuples of ints and texts -/
namespace Q9
open PySem PySem.Spec PyProof.Rows L2
section
variable {P : Program} {w : World} {K : Type} [DecidableEq K] {knd : KeyKind P w K} {A : Around} {E : Value → Shared → Prop} {s : Shared}
/-- what a walk over xs has gathered behind i turns -/
structure CollK (xs : List (List K)) (i : Nat) (L : Mem K) : Prop where
  nd : (L.map (·.2)).Nodup
  mem : ∀ k, k ∈ L.map (·.2) ↔ k ∈ xs.take i
theorem CollK.zero (xs : List (List K)) : CollK xs 0 [] := ⟨List.nodup_nil, fun k => by simp⟩
theorem CollK.next {xs : List (List K)} {i : Nat} {L L' : Mem K} {k : List K} {b : Addr} (c : CollK xs i L) (h : xs[i]? = some k) (m : MoreT b k L L') : CollK xs (i + 1) L' := by
  have e : xs.take (i + 1) = xs.take i ++ [k] := take_one_more h
  rcases m with ⟨hm, rfl⟩ | ⟨hm, p⟩
  · refine ⟨c.nd, fun j => ?_⟩
    rw [e, List.mem_append, List.mem_singleton, c.mem j]
    exact ⟨.inl, fun z => z.elim id fun z => z ▸ (c.mem k).1 hm⟩
  · have pm := p.map (·.2)
    refine ⟨pm.nodup_iff.mpr (List.nodup_cons.mpr ⟨hm, c.nd⟩), fun j => ?_⟩
    rw [pm.mem_iff, e, List.mem_append, List.mem_singleton, List.map_cons, List.mem_cons, c.mem j]
    exact Or.comm
theorem CollK.le {xs : List (List K)} {i : Nat} {L : Mem K} (c : CollK xs i L) : L.length ≤ i := by
  have h := nodup_le (L.map (·.2)) (xs.take i) c.nd fun k hk => (c.mem k).1 hk
  rw [List.length_map, List.length_take] at h
  omega
theorem key_keep {h h' : Heap} {k : List K} {b : Addr} (x : IsTupleKey knd h k b) (e : ∀ o, h.get? b = some o → h'.get? b = some o) : IsTupleKey knd h' k b := by
  obtain ⟨o, items, n, ho, r⟩ := x
  exact ⟨o, items, n, e o ho, r⟩
theorem tset_keep {h h' : Heap} {a : Addr} {L : Mem K} {es : Array (Int × Value)} {ep : Nat} {t : SetTable} (R : TSet knd h a L es ep t) (e : ∀ o, h.get? a = some o → h'.get? a = some o) (f : ∀ p ∈ L, IsTupleKey knd h' p.2 p.1) : TSet knd h' a L es ep t :=
  ⟨let ⟨o, ho, r⟩ := R.ob; ⟨o, e o ho, r⟩, R.rows, R.tab, R.nd, f, R.room, R.few⟩
theorem upd_turnsT {I : Addr} {fp wr : List Addr} {G : Array GenState → Array GenState → Prop} {n : Nat} {Pv : Nat → Value → Prop} {St : Nat → Shared → Prop} {R : Result → Shared → Prop} (fl : Flat8 knd) (hu : A.in1.units < cLine)
    (W : WalksS P w A.in1 I fp wr G n Pv St) (S : Addr) (hSf : S ∉ fp) (xs : List (List K)) (hn : n = xs.length) (few : n + 1 < 64) (h0 : Heap) (new : ∀ b ∈ S :: wr, h0.get? b = none)
    (hval : ∀ i v, Pv i v → ∃ k b, xs[i]? = some k ∧ v = .ref b ∧ IsTupleKey knd h0 k b) :
    ∀ (m i : Nat) (s : Shared), n - i = m → i ≤ n → St i s → (∀ b o, h0.get? b = some o → s.heap.get? b = some o) → (∃ L es ep t, TSet knd s.heap S L es ep t ∧ (∀ p ∈ L, IsTupleKey knd h0 p.2 p.1) ∧ CollK xs i L) →
      (∀ s' L es ep t, Moved (S :: wr) G s s' → TSet knd s'.heap S L es ep t → CollK xs n L → R (.ok (.ret .none)) s') →
      codeAny (model P w) A (.builtin "set.update.loop" ⟨[.ref S, .ref I], []⟩) R s := by
  have away : S ∉ wr := fun h => hSf (W.sub _ h)
  have up : ∀ b ∈ wr, b ∈ S :: wr := fun b hb => List.mem_cons_of_mem _ hb
  have old : ∀ {b : Addr} {o : Obj}, h0.get? b = some o → b ∉ S :: wr := fun {b o} e z => by rw [new b z] at e; cases e
  intro m
  induction m with
  | zero =>
    intro i s hm hi st k0 ⟨L, es, ep, t, RS, inn, c⟩ hR
    obtain rfl : i = n := by omega
    refine codeAny_builtin F.entry_set_update_loop ?_
    rw [Around.under_plainId F.plain_set_update_loop _]
    show wpAny _ A.in1 (pyNext (.ref I) >>= _) _ _ s
    refine wpAny_bind (W.done s _ _ st fun s' mv => ?_)
    have keep : ∀ b o, h0.get? b = some o → s'.heap.get? b = some o := fun b o e => mv.heap b o (fun z => old e (up b z)) (k0 b o e)
    have RS' : TSet knd s'.heap S L es ep t := tset_keep RS (fun o e => mv.heap S o away e) fun p hp => key_keep (inn p hp) fun o e => keep _ o e
    show wpAny _ A.in1 (ret Value.none) _ _ s'
    exact wpAny_pure (hR s' L es ep t (mv.mono up) RS' c)
  | succ m ih =>
    intro i s hm hi st k0 ⟨L, es, ep, t, RS, inn, c⟩ hR
    have lt : i < n := by omega
    refine codeAny_builtin F.entry_set_update_loop ?_
    rw [Around.under_plainId F.plain_set_update_loop _]
    show wpAny _ A.in1 (pyNext (.ref I) >>= _) _ _ s
    refine wpAny_bind (W.item i s _ _ lt st fun v s' pv st' mv => ?_)
    obtain ⟨k, b0, hk, rfl, hb0⟩ := hval i v pv
    have keep : ∀ b o, h0.get? b = some o → s'.heap.get? b = some o := fun b o e => mv.heap b o (fun z => old e (up b z)) (k0 b o e)
    have RS' : TSet knd s'.heap S L es ep t := tset_keep RS (fun o e => mv.heap S o away e) fun p hp => key_keep (inn p hp) fun o e => keep _ o e
    have hkey : IsTupleKey knd s'.heap k b0 := key_keep hb0 fun o e => keep _ o e
    show wpAny _ A.in1 (holding [.ref b0] (setAdd S (.ref b0)) >>= _) _ _ s'
    refine wpAny_bind (wpAny_holding ?_)
    unfold setAdd
    refine wpAny_holding (wpAny_bind (wpAny_pyHash_tuple hu hkey ?_))
    have cl := c.le
    refine tset_add (s := { s' with toks := s'.toks + (k.length + 1) }) fl RS' hkey hu (by omega) fun b h' L' es' ep' t' same RS2 more => ?_
    have inn' : ∀ p ∈ L', IsTupleKey knd h0 p.2 p.1 := by
      rcases more with ⟨_, rfl⟩ | ⟨_, pm⟩
      · exact inn
      · intro p hp
        rcases List.mem_cons.mp (pm.mem_iff.mp hp) with z | z
        · rw [z]; exact hb0
        · exact inn p z
    refine wpAny_pure ⟨plainId_quiet F.plain_set_update_loop _, ih (i + 1) _ (by omega) lt (W.frame _ s' _ _ st' (Nat.le_add_right _ _) fun b hb o e => ?_) (fun b o e => ?_) ⟨L', es', ep', t', RS2, inn', c.next hk more⟩ fun s'' L2 es2 ep2 t2 mv2 RS3 c3 => ?_⟩
    · exact (same.2 b fun z => hSf (z ▸ hb)).trans e
    · exact (same.2 b fun z => old e (z ▸ List.mem_cons_self)).trans (keep b o e)
    · refine hR s'' L2 es2 ep2 t2 (Moved.trans W.gtrans ((mv.mono up).then_heap (Nat.le_add_right _ _) fun b o hb e => ?_) mv2) RS3 c3
      exact (same.2 b fun z => hb (z ▸ List.mem_cons_self)).trans e
theorem call_set_tups {l : Addr} {T : String} {items : Array Value} (fl : Flat8 knd) (hu : A.units + 8 < cLine) (src : Src P w s.heap l T items) (xs : List (List K)) (few : items.size + 1 < 64) (hn : items.size = xs.length) {Q : Value → Shared → Prop} (hh : A.handled = none)
    (hval : ∀ (i : Nat) (v : Value), items[i]? = some v → ∃ k b, xs[i]? = some k ∧ v = .ref b ∧ IsTupleKey knd s.heap k b)
    (hQ : ∀ (h' : Heap) (tk : Nat) L es ep t, TSet knd h' s.heap.objs.size L es ep t → CollK xs xs.length L → (∀ b o, s.heap.get? b = some o → h'.get? b = some o) → Q (.ref s.heap.objs.size) { s with heap := h', toks := tk }) :
    wpAny (model P w) A (call (.type "set") [.ref l]) Q E s := by
  obtain ⟨⟨ol, hol, hcl⟩, hsls, hslf, hne, ob, St, hiter, hwalk, hst⟩ := src
  obtain ⟨c, tl, hmro⟩ := F.called_set.mro
  have hmade := F.called_set.made
  have hsub := F.called_set.sub
  refine wpAny_call (codeAny_of_tree ?_)
  show wpAny _ _ (callAny (.type "set") _) _ _ _
  refine wpAny_pure ⟨Code.quiet_builtin _ (by decide +kernel), codeAny_builtin F.entry_type_call ?_⟩
  rw [Around.under_plain (weight_type_call_type "set" [.ref l] []) rfl]
  have h1 := F.called_set.notType
  have h2 := F.called_set.canCreate
  have hct := F.typeCall_set_1 (.ref l)
  repeat (any_goals (first | assumption | wp_step))
  refine codeAny_mono (code_set_led1 (.ref l) (E := E) (Q₁ := fun obj s₁ => obj = .ref s.heap.objs.size ∧ s₁ = { s with heap := s.heap.push (emptySet w) }) ⟨rfl, rfl⟩) fun r s₁ hr => ?_
  cases r with
  | error e => exact hr
  | ok fl2 =>
    cases fl2 with
    | ret obj =>
      obtain ⟨rfl, rfl⟩ := hr
      have hS : (s.heap.push (emptySet w)).get? s.heap.objs.size = some (emptySet w) := Heap.get?_push_size _ rfl
      have hT : Shared.TypeIs { s with heap := s.heap.push (emptySet w) } (.ref s.heap.objs.size) "set" := ⟨_, hS, rfl⟩
      have hli := F.called_set.init.lookup
      have hbi := F.called_set.init.bind (.ref s.heap.objs.size)
      repeat (any_goals (first | assumption | wp_step))
      refine codeAny_mono (codeAny_call_builtin (R := wants (fun r s₂ => r = .none ∧ ∃ h' tk L es ep t, s₂ = { s with heap := h', toks := tk } ∧ TSet knd h' s.heap.objs.size L es ep t ∧ CollK xs xs.length L ∧
          (∀ b o, s.heap.get? b = some o → h'.get? b = some o)) E) F.called_set.init.plain F.entry_set_init (check_set_init_1 hT ?_)) fun r₂ s₂ hr₂ => ?_
      · have up1 : ∀ b o, s.heap.get? b = some o → (s.heap.push (emptySet w)).get? b = some o := fun b o e => Heap.get?_push_of_some _ e
        have hol' := up1 _ _ hol
        obtain ⟨ocls, odict, odata, oslots⟩ := ol
        simp only at hcl
        subst hcl
        unfold Builtin.«set.__init__» noKeywords Builtin.Frozenset.updateFrom
        generalize hPI : pyIter = PI
        wp_walk
        subst hPI
        refine hiter { s with heap := s.heap.push (emptySet w) } _ _ _ up1 ?_
        refine wpAny_bind (wpAny_runValue ?_)
        have hlS : l < s.heap.objs.size := Heap.lt_size hol
        have hh3 : A.in1.in1.in1.handled = none := by simp [hh]
        have hz1 : (s.heap.push (emptySet w)).objs.size = s.heap.objs.size + 1 := Heap.size_push ..
        have neI : l ≠ (s.heap.push (emptySet w)).objs.size := by rw [hz1]; exact Nat.ne_of_lt (Nat.lt_succ_of_lt hlS)
        have hSf : s.heap.objs.size ∉ [(s.heap.push (emptySet w)).objs.size, l] := by
          rw [hz1]
          simp only [List.mem_cons, List.not_mem_nil, or_false, not_or]
          exact ⟨Nat.ne_of_lt (Nat.lt_succ_self _), Nat.ne_of_gt hlS⟩
        refine upd_turnsT (knd := knd) fl ?hu ((hwalk _ _ hh3 neI).toS) s.heap.objs.size hSf xs hn few s.heap ?new hval (items.size - 0) 0 _ (by omega) (Nat.zero_le _) (hst _ up1) ?keep
          ⟨[], _, _, _, tset_fresh (Heap.get?_push_of_some _ hS), (fun p hp => nomatch hp), CollK.zero xs⟩ fun s' L es ep t mv RS cl => ?_
        case hu => first | (simp only [Around.in1_units]; omega) | (simp; omega)
        case new =>
          intro b hb
          have hb2 : s.heap.objs.size ≤ b := by
            rcases List.mem_cons.mp hb with z | z
            · rw [z]; exact Nat.le_refl _
            · rw [List.mem_singleton.mp z, hz1]; exact Nat.le_succ _
          cases e : s.heap.get? b with
          | none => rfl
          | some o => exact absurd (Heap.lt_size e) (Nat.not_lt.mpr hb2)
        case keep => exact fun b o e => Heap.get?_push_of_some _ (up1 b o e)
        obtain ⟨h', g2, d', tk', os'⟩ := s'
        have eg : g2 = s.gens := mv.gens
        have ed : d' = s.drawn := mv.drawn
        have eo : os' = s.os := mv.os
        subst eg; subst ed; subst eo
        show wpAny _ _ _ _ _ _
        refine wpAny_pure ?_
        show wpAny _ _ (ret Value.none) _ _ _
        rw [hn] at cl
        refine wpAny_pure ⟨rfl, h', tk', L, es, ep, t, rfl, RS, cl, fun b o e => ?_⟩
        have lt := Heap.lt_size e
        refine mv.heap b o (fun z => ?_) (Heap.get?_push_of_some _ (up1 b o e))
        rcases List.mem_cons.mp z with z | z
        · exact absurd lt (by rw [z]; exact Nat.lt_irrefl _)
        · have z2 := List.mem_singleton.mp z
          rw [z2, hz1] at lt
          exact absurd lt (Nat.not_lt_of_le (Nat.le_succ _))
      · cases r₂ with
        | error e => exact hr₂
        | ok fl₂ =>
          cases fl₂ with
          | ret r =>
            obtain ⟨rfl, h', tk, L, es, ep, t, rfl, RS, cl, k2⟩ := hr₂
            repeat (any_goals (first | assumption | wp_step))
            exact hQ _ _ _ _ _ _ RS cl k2
          | _ => exact hr₂.elim
    | _ => exact hr.elim
end
section
variable {X : Cx} {pins : List (Addr × Obj)} {σ : L2.St} {H : Hp} {s : Shared}
/-- v is a tuple of the keys k -/
def TupK (K : PySem.W.Frag) (H : Hp) (v : V) (k : List Key) : Prop := ∃ q, v = .ref q ∧ SqT K H q (k.map kV)
theorem key_sq (I : Inv X pins σ H s) {q : Addr} {k : List Key} (h : SqT X.K H q (k.map kV)) : IsTupleKey (mixKind X.prog X.w) s.heap k q := by
  obtain ⟨its, rv, ⟨o, h1, h2, n, h3⟩, hz⟩ := I.tuple h
  exact ⟨o, its.toArray, n, h1, h2, h3, by simpa using items_are rv⟩
/-- set(row) -/
def rSetOfT (K : PySem.W.Frag) (P : Program) (w : World) : List V → Hp → VK → Prop := fun args H Q => ∃ (x : V) (vs : List V) (ks : List (List Key)), args = [x] ∧ Row K H x vs ∧ Paired (TupK K H) vs ks ∧ vs.length < 63 ∧
  ∀ (p : Addr) (L : Mem Key), H p = none → (L.map (·.2)).Nodup → (∀ k, k ∈ L.map (·.2) ↔ k ∈ ks) → Q (.ref p) (upd H p (SetTs P w p L))
theorem cr_setOfT (hc : X.calm = true) (hu : X.A.units + 8 < cLine) : CallR X (.type "set") (rSetOfT X.K X.prog X.w) := by
  intro pins s σ H vs us Q I r h
  obtain ⟨x, xs, ks, rfl, ⟨l, rfl, hq⟩, each, few, q⟩ := h
  rw [Vals.ref1 r]
  have lk := PySem.Paired.length each
  have fin : ∀ (T : String) (its : List Value), Vals xs its → Src X.prog X.w s.heap l T its.toArray → wpAny (model X.prog X.w) X.A (call (.type "set") [.ref l]) (EP X pins σ Q) X.xe s := fun T its rv src => by
    have li := PySem.Paired.length rv
    refine call_set_tups (knd := mixKind X.prog X.w) flat_mix hu src ks (by rw [List.size_toArray]; omega) (by rw [List.size_toArray]; omega) (I.ok.hd hc) (fun i v hv => ?_) fun h' tk L es ep t RS cl k => ?_
    · have hv' : its[i]? = some v := by simpa using hv
      have hi : i < its.length := (List.getElem?_eq_some_iff.mp hv').1
      have hi2 : i < xs.length := by omega
      obtain ⟨kk, e1, q2, e2, e3⟩ := paired_get each (List.getElem?_eq_getElem hi2)
      obtain ⟨u, e4, e5⟩ := Vals.get (i := i) (x := xs[i]) rv (List.getElem?_eq_getElem hi2)
      rw [hv'] at e4
      cases e4
      rw [e2] at e5
      cases e5
      exact ⟨kk, q2, e1, rfl, key_sq I e3⟩
    · have J : Inv X pins σ (upd H s.heap.objs.size (SetTs X.prog X.w s.heap.objs.size L)) { s with heap := h', toks := tk } := I.laid k (Nat.le_refl _) (setTs_ok (tobj_of RS))
      exact ⟨.ref _, _, J, rfl, q _ L (I.hok.fresh (Nat.le_refl _)) cl.nd fun k => by rw [cl.mem k, List.take_length]⟩
  rcases hq with hq | hq
  · obtain ⟨its, rv, pl, hz⟩ := I.list hq
    exact fin _ its rv (Src.list pl.isList)
  · obtain ⟨its, rv, pl, hz⟩ := I.tuple hq
    exact fin _ its rv (Src.tuple pl)
end
end Q9
end
-- QColl
section
set_option maxRecDepth 100000
set_option maxHeartbeats 4000000
namespace Q9
open PySem PySem.Spec PyProof.Rows L2
section
variable {P : Program} {w : World} {A : Around} {E : Value → Shared → Prop} {s : Shared}
/-- the items of a tuple, gathered -/
theorem collect_tup {t : Addr} {us : List Value} {Q : List Value → Shared → Prop} (ht : s.heap.IsTuple t us.toArray) (sz : us.length ≤ sizeLine)
    (h : ∀ s1, Keeps s.heap s1.heap → s.heap.objs.size ≤ s1.heap.objs.size → s1.gens = s.gens → s1.os = s.os → Q us s1) : wpAny (model P w) A (collect (.ref t)) Q E s := by
  obtain ⟨ob, h1, h2, cc, h3⟩ := id ht
  have h1' : (s.heap.push (seqObj "list" #[] 0)).get? t = some ob := Heap.get?_push_of_some _ h1
  unfold collect
  refine wpAny_bind (wpAny_runValue (codeAny_builtin entry_proto_collect' ?_))
  show wpAny _ _ (do again (.builtin "list.__iadd__" ⟨[← newList [], .ref t], []⟩)) _ _ s
  refine wpAny_bind (wpAny_newList (wpAny_pure ⟨Code.quiet_builtin _ (by decide +kernel), codeAny_builtin entry_list_iadd' ?_⟩))
  show wpAny _ _ (Builtin.List.listExtendWith (.ref s.heap.objs.size) (.ref t) (.ref s.heap.objs.size)) _ _ { s with heap := s.heap.push (seqObj "list" #[] 0) }
  unfold Builtin.List.listExtendWith
  refine wpAny_bind (wpAny_typeOf (T := "tuple") ⟨ob, h1', h2⟩ ?_)
  rw [if_pos (by have e : (Value.type "tuple" == Value.type "tuple") = true := rfl; rw [e]; simp)]
  refine wpAny_bind (listItems_at h1' h3 (wpAny_bind (listItems_at (xs := #[]) (n := 0) (Heap.get?_push_size _ rfl) rfl ?_)))
  rw [if_neg (by simp)]
  refine wpAny_bind (listUpdate_at (xs := #[]) (n := 0) (Heap.get?_push_size _ rfl) rfl ?_ (Nat.zero_le _) (by show (#[] ++ us.toArray).size ≤ sizeLine + 1; simp only [Array.size_append, List.size_toArray, List.length_nil]; omega))
  refine wpAny_pure ?_
  show wpAny (model P w) A (load s.heap.objs.size >>= _) Q E { s with heap := (s.heap.push (seqObj "list" #[] 0)).update s.heap.objs.size (Obj.mapSeq (· ++ us.toArray)) }
  refine wpAny_bind (wpAny_load (get?_update_seq (Heap.get?_push_size _ rfl) _) ?_)
  show wpAny _ _ (pure ((#[] : Array Value) ++ us.toArray).toList) Q E _
  rw [show ((#[] : Array Value) ++ us.toArray).toList = us by simp]
  exact wpAny_pure (h _ (fun b o e => by rw [Heap.get?_update_other _ _ (Nat.ne_of_gt (Heap.lt_size e))]; exact Heap.get?_push_of_some _ e) (by simp [Heap.size_update, size_push']) rfl rfl)
end
section
variable {X : Cx}
theorem row_its {pins : List (Addr × Obj)} {σ : L2.St} {H : Hp} {s : Shared} (I : Inv X pins σ H s) {a : Addr} {xs : List V} (h : SqL X.K H a xs ∨ SqT X.K H a xs) : ∃ its : List Value, Vals xs its ∧ its.length ≤ sizeLine ∧
    ∀ {A : Around} {R : List Value → Shared → Prop} {E : Value → Shared → Prop}, (∀ s1, Keeps s.heap s1.heap → s.heap.objs.size ≤ s1.heap.objs.size → s1.gens = s.gens → s1.os = s.os → R its s1) → wpAny (model X.prog X.w) A (collect (.ref a)) R E s := by
  rcases h with h | h
  · obtain ⟨its, rv, pl, hz⟩ := I.list h
    have hl : its.length ≤ sizeLine := by rw [← PySem.Paired.length rv]; exact hz
    exact ⟨its, rv, hl, fun hR => collect_list pl.isList (hR _ (fun b o e => by rw [Heap.get?_update_other _ _ (Nat.ne_of_gt (Heap.lt_size e))]; exact Heap.get?_push_of_some _ e) (by simp [Heap.size_update, size_push']) rfl rfl)⟩
  · obtain ⟨its, rv, pl, hz⟩ := I.tuple h
    have hl : its.length ≤ sizeLine := by rw [← PySem.Paired.length rv]; exact hz
    exact ⟨its, rv, hl, fun hR => collect_tup pl hl hR⟩
/-- sorted(xs), xs a row of texts -/
def rSortedRs (K : PySem.W.Frag) : List V → Hp → VK → Prop := fun vs H Q => ∃ (x : V) (xs : List Str), vs = [x] ∧ Row K H x (xs.map V.str) ∧ ∀ (ys : List Str) (p : Addr), ys.Perm xs → Up ys → H p = none → Q (.ref p) (upd H p (.lst (ys.map V.str)))
theorem cr_sortedRs : CallR X (.builtin "sorted") (rSortedRs X.K) := by
  intro pins s σ H vs us Q I r h
  obtain ⟨x, xs, rfl, ⟨a, rfl, hq⟩, q⟩ := h
  rw [Vals.ref1 r]
  obtain ⟨its, rv, hl, col⟩ := row_its I hq
  have hS : StrsAre its xs := rv.strs
  refine sorted_txts hS hl (fun R E' hR => col hR) fun s' p out c ys k g o z hp h1 h2 h3 => ?_
  have len : (ys.map V.str).length ≤ sizeLine := by rw [List.length_map, h2.length_eq, ← hS.length]; exact hl
  have J := Inv.new_at I (o := .lst (ys.map V.str)) k g o z ⟨len, out.toList, c, vals_of_strs h1, hp⟩
  exact ⟨.ref p, _, J, rfl, q ys p h2 h3 (I.hok.fresh z)⟩
/-- sorted(xs), xs a row of tuples of two texts -/
def rSortedRT (K : PySem.W.Frag) : List V → Hp → VK → Prop := fun vs H Q => ∃ (x : V) (ps : List (Addr × Str × Str)), vs = [x] ∧ Row K H x ((ps.map (·.1)).map V.ref) ∧ (∀ p ∈ ps, SqT K H p.1 [.str p.2.1, .str p.2.2]) ∧
  ∀ (qs : List (Addr × Str × Str)) (p : Addr), qs.Perm ps → UpP (qs.map (·.2)) → H p = none → Q (.ref p) (upd H p (.lst ((qs.map (·.1)).map V.ref)))
theorem cr_sortedRT : CallR X (.builtin "sorted") (rSortedRT X.K) := by
  intro pins s σ H vs us Q I r h
  obtain ⟨x, ps, rfl, ⟨a, rfl, hq⟩, he, q⟩ := h
  rw [Vals.ref1 r]
  obtain ⟨its, rv, hl, col⟩ := row_its I hq
  have e := refs_vals rv
  subst e
  exact sorted_tt I (fun p hp => pair2_at I (he p hp)) (by simpa using hl) (fun R E' hR => col hR) q
end
end Q9
end
-- QKA
section
set_option maxRecDepth 100000
set_option maxHeartbeats 4000000
namespace Q9
open PySem L2
/-! ### a kind as it stands -/
def kflds (nm st : Str) (e s me m : Addr) : List (Str × V) := putF "_moves" (.ref m) (putF "_methods" (.ref me) (putF "_states" (.ref s) (putF "_ends" (.ref e) (putF "_start" (.str st) (putF "_name" (.str nm) [])))))
theorem kf_all (nm st : Str) (e s me m : Addr) : (kflds nm st e s me m).lookup ("_moves" : Str) = some (.ref m) ∧ (kflds nm st e s me m).lookup ("_ends" : Str) = some (.ref e) ∧ (kflds nm st e s me m).lookup ("_start" : Str) = some (.str st) ∧ (kflds nm st e s me m).lookup ("_name" : Str) = some (.str nm) ∧
    (kflds nm st e s me m).lookup ("_states" : Str) = some (.ref s) ∧ (kflds nm st e s me m).lookup ("_methods" : Str) = some (.ref me) ∧
    (kflds nm st e s me m).lookup ("states" : Str) = none ∧ (kflds nm st e s me m).lookup ("methods" : Str) = none ∧ (kflds nm st e s me m).lookup ("moves" : Str) = none := by
  have no : ∀ f : Str, ¬ f = ("_moves" : Str) → ¬ f = ("_methods" : Str) → ¬ f = ("_states" : Str) → ¬ f = ("_ends" : Str) → ¬ f = ("_start" : Str) → ¬ f = ("_name" : Str) → (kflds nm st e s me m).lookup f = none := fun f h1 h2 h3 h4 h5 h6 => by
    unfold kflds
    rw [lookup_putF, if_neg h1, lookup_putF, if_neg h2, lookup_putF, if_neg h3, lookup_putF, if_neg h4, lookup_putF, if_neg h5, lookup_putF, if_neg h6]
    rfl
  refine ⟨?_, ?_, ?_, ?_, ?_, ?_, no _ (by decide +kernel) (by decide +kernel) (by decide +kernel) (by decide +kernel) (by decide +kernel) (by decide +kernel), no _ (by decide +kernel) (by decide +kernel) (by decide +kernel) (by decide +kernel) (by decide +kernel) (by decide +kernel), no _ (by decide +kernel) (by decide +kernel) (by decide +kernel) (by decide +kernel) (by decide +kernel) (by decide +kernel)⟩
  · unfold kflds; rw [lookup_putF, if_pos rfl]
  · unfold kflds; rw [lookup_putF, if_neg (by decide +kernel), lookup_putF, if_neg (by decide +kernel), lookup_putF, if_neg (by decide +kernel), lookup_putF, if_pos rfl]
  · unfold kflds; rw [lookup_putF, if_neg (by decide +kernel), lookup_putF, if_neg (by decide +kernel), lookup_putF, if_neg (by decide +kernel), lookup_putF, if_neg (by decide +kernel), lookup_putF, if_pos rfl]
  · unfold kflds; rw [lookup_putF, if_neg (by decide +kernel), lookup_putF, if_neg (by decide +kernel), lookup_putF, if_neg (by decide +kernel), lookup_putF, if_neg (by decide +kernel), lookup_putF, if_neg (by decide +kernel), lookup_putF, if_pos rfl]
  · unfold kflds; rw [lookup_putF, if_neg (by decide +kernel), lookup_putF, if_neg (by decide +kernel), lookup_putF, if_pos rfl]
  · unfold kflds; rw [lookup_putF, if_neg (by decide +kernel), lookup_putF, if_pos rfl]
/-- its own moves: the keys once, the outcomes in order, in tuples -/
def TupE (K : PySem.W.Frag) (H : Hp) (kv : List Key × V) (e : (Str × Str) × List (Str × Str)) : Prop := kv.1 = [.inr e.1.1, .inr e.1.2] ∧ ∃ t vs, kv.2 = .ref t ∧ H t = some (.tup vs) ∧ Paired (OutT K H) vs e.2
structure OwnMv (K : PySem.W.Frag) (H : Hp) (kvs : List (List Key × V)) (mvs mv : Mv) : Prop where
  nd : (kvs.map (·.1)).Nodup
  tups : Paired (TupE K H) kvs mvs
  eqm : EqMv mvs mv
  outs : ∀ k os, (k, os) ∈ mv → ∃ os', (k, os') ∈ mvs ∧ os'.Perm os
  up : ∀ e ∈ mvs, UpP e.2
  len : mvs.length = mv.length
theorem OwnMv.moves {K : PySem.W.Frag} {H : Hp} {kvs : List (List Key × V)} {mvs mv : Mv} (h : OwnMv K H kvs mvs mv) : Moves K H kvs mvs :=
  ⟨h.nd, L2.Paired.mapP h.tups fun _ _ ⟨e, t, vs, e1, e2, p⟩ => ⟨e, vs, ⟨t, e1, .inr (.of e2)⟩, p⟩⟩
structure KAc (C : Addr) (K : PySem.W.Frag) (H : Hp) (x : Addr) (nm st : Str) (es : List Str) (mv : Mv) : Prop where
  ex : ∃ (dx e s me m : Addr) (ys ss ms : List Str) (kvs : List (List Key × V)) (mvs : Mv), H x = some (.ins C dx (kflds nm st e s me m)) ∧ H e = some (.tup (ys.map V.str)) ∧ ys.Perm es ∧ Up ys ∧ H s = some (.lst (ss.map V.str)) ∧ Told (statesIn st es mv) ss ∧
    H me = some (.lst (ms.map V.str)) ∧ Told (methodsIn mv) ms ∧ H m = some (.dT kvs) ∧ OwnMv K H kvs mvs mv
  small : Small st es mv
  fits : Fits st es mv
  nd : (mv.map (·.1)).Nodup
theorem ownMv_up {K : PySem.W.Frag} {H H' : Hp} (s : Same H H') {kvs : List (List Key × V)} {mvs mv : Mv} (h : OwnMv K H kvs mvs mv) : OwnMv K H' kvs mvs mv :=
  ⟨h.nd, L2.Paired.mapP h.tups fun _ _ ⟨e, t, vs, e1, e2, p⟩ => ⟨e, t, vs, e1, s _ _ e2, L2.Paired.mapP p fun _ _ ⟨q, e, g⟩ => ⟨q, e, sqT_up (Q9.Same.sq s) g⟩⟩, h.eqm, h.outs, h.up, h.len⟩
theorem ownMv_well {K : PySem.W.Frag} {H H' : Hp} {l : Addr} (w : Well H l) (b : But l H H') {kvs : List (List Key × V)} {mvs mv : Mv} (h : OwnMv K H kvs mvs mv) : OwnMv K H' kvs mvs mv := by
  obtain ⟨x, y, z, e, r⟩ := id w
  have keep : ∀ t vs, H t = some (.tup vs) → H' t = some (.tup vs) := fun t vs g => b t _ (fun c => by rw [c, e] at g; cases g) g
  have sq : ∀ {a : Addr} {xs : List V}, SqT K H a xs → SqT K H' a xs := fun {a xs} g => sqT_up (Q9.Same.sq del_less) (sqT_up (Q9.Same.sq (but_del b)) (sqT_del w g))
  exact ⟨h.nd, L2.Paired.mapP h.tups fun _ _ ⟨e, t, vs, e1, e2, p⟩ => ⟨e, t, vs, e1, keep _ _ e2, L2.Paired.mapP p fun _ _ ⟨q, e, g⟩ => ⟨q, e, sq g⟩⟩, h.eqm, h.outs, h.up, h.len⟩
theorem kac_ok (C : Addr) (K : PySem.W.Frag) : KAok C (KAc C K) where
  up := fun z ⟨⟨dx, e, s, me, m, ys, ss, ms, kvs, mvs, h1, h2, h3, h4, h5, t5, h6, t6, h7, h8⟩, a, b, c⟩ => ⟨⟨dx, e, s, me, m, ys, ss, ms, kvs, mvs, z _ _ h1, z _ _ h2, h3, h4, z _ _ h5, t5, z _ _ h6, t6, z _ _ h7, ownMv_up z h8⟩, a, b, c⟩
  well := fun w bt ⟨⟨dx, e, s, me, m, ys, ss, ms, kvs, mvs, h1, h2, h3, h4, h5, t5, h6, t6, h7, h8⟩, a, b, c⟩ => by
    obtain ⟨n1, n2, n3, el, _⟩ := id w
    have txt : ∀ (zs : List Str), (HO.lst (zs.map V.str)) ≠ (HO.lst [.int n1, .int n2, .int n3]) := fun zs h => by
      injection h with h
      cases zs with
      | nil => cases h
      | cons z zs => rw [List.map_cons] at h; injection h with h _; cases h
    exact ⟨⟨dx, e, s, me, m, ys, ss, ms, kvs, mvs, bt _ _ (fun z => by rw [z, el] at h1; cases h1) h1, bt _ _ (fun z => by rw [z, el] at h2; cases h2) h2, h3, h4, bt _ _ (fun z => by rw [z, el] at h5; exact txt _ (Option.some.inj h5).symm) h5, t5, bt _ _ (fun z => by rw [z, el] at h6; exact txt _ (Option.some.inj h6).symm) h6, t6,
      bt _ _ (fun z => by rw [z, el] at h7; cases h7) h7, ownMv_well w bt h8⟩, a, b, c⟩
  small := fun h => ⟨h.small, h.fits, h.nd⟩
  ins := fun ⟨⟨dx, e, s, me, m, ys, ss, ms, kvs, mvs, h1, _⟩, _, _, _⟩ => by
    obtain ⟨_, _, _, _, _, _, l1, l2, l3⟩ := kf_all _ _ e s me m
    exact ⟨dx, _, h1, l1, l2, l3⟩
end Q9
end
-- QRead3a
section
set_option maxRecDepth 100000
set_option maxHeartbeats 4000000
namespace Q9
open PySem L2
/-! ### what the reader of moves needs -/
theorem few_same {l l' : List Str} (h : ∀ z ∈ l, z ∈ l') (f : FewIn (l'.map kInr)) : FewIn (l.map kInr) := fun ks nd hk => f ks nd fun k hks => by
  obtain ⟨z, h1, h2⟩ := List.mem_map.mp (hk k hks)
  exact List.mem_map.mpr ⟨z, h z h1, h2⟩
def rowsO (mv : Mv) : List (List (Str × Str)) := mv.map (·.2)
def flatO (mv : Mv) : List (Str × Str) := (mv.map (·.2)).flatten
theorem sum_lens : ∀ mv : Mv, (mv.map fun e => (e.2.length : Int)).sum = ((flatO mv).length : Int)
  | [] => rfl
  | e :: mv => by
    have ih := sum_lens mv
    unfold flatO at ih ⊢
    rw [List.map_cons, List.sum_cons, ih, List.map_cons, List.flatten_cons, List.length_append]
    omega
theorem lens_states (st : Str) (es : List Str) (mv : Mv) : (statesIn st es mv).length = 1 + es.length + mv.length + (flatO mv).length := by
  unfold statesIn
  rw [List.length_append, List.length_cons]
  have key : ∀ mv : Mv, (mv.flatMap fun e => e.1.1 :: e.2.map (·.2)).length = mv.length + (flatO mv).length := by
    intro mv
    induction mv with
    | nil => rfl
    | cons e mv ih =>
      unfold flatO at ih ⊢
      rw [List.flatMap_cons, List.length_append, ih, List.map_cons, List.flatten_cons, List.length_append, List.length_cons, List.length_cons, List.length_map]
      omega
  rw [key]
  omega
theorem mem_flatO {mv : Mv} {o : Str × Str} : o ∈ flatO mv ↔ ∃ e ∈ mv, o ∈ e.2 := by
  unfold flatO
  rw [List.mem_flatten]
  constructor
  · rintro ⟨l, h1, h2⟩
    obtain ⟨e, h3, rfl⟩ := List.mem_map.mp h1
    exact ⟨e, h3, h2⟩
  · rintro ⟨e, h1, h2⟩
    exact ⟨e.2, List.mem_map.mpr ⟨e, h1, rfl⟩, h2⟩
theorem flat_words {mv : Mv} {z : Str} : z ∈ (flatO mv).map (·.1) ↔ z ∈ wordsIn mv := by
  unfold wordsIn
  rw [List.mem_map, List.mem_flatMap]
  constructor
  · rintro ⟨o, h1, rfl⟩
    obtain ⟨e, h2, h3⟩ := mem_flatO.mp h1
    exact ⟨e, h2, List.mem_map.mpr ⟨o, h3, rfl⟩⟩
  · rintro ⟨e, h2, h3⟩
    obtain ⟨o, h4, rfl⟩ := List.mem_map.mp h3
    exact ⟨o, mem_flatO.mpr ⟨e, h2, h4⟩, rfl⟩
theorem states_told {st : Str} {es : List Str} {mv : Mv} {beh : List Str} (t : Told ((flatO mv).map (·.2)) beh) (z : Str) : z ∈ st :: es ++ mv.map (·.1.1) ++ beh ↔ z ∈ statesIn st es mv := by
  rw [mem_states, List.mem_append, List.mem_append, List.mem_cons, t.2.2 z, or_assoc, or_assoc]
  constructor
  · rintro (h | h | h | h)
    · exact .inl h
    · exact .inr (.inl h)
    · obtain ⟨e, h1, h2⟩ := List.mem_map.mp h
      exact .inr (.inr ⟨e, h1, .inl h2.symm⟩)
    · obtain ⟨o, h1, h2⟩ := List.mem_map.mp h
      obtain ⟨e, h3, h4⟩ := mem_flatO.mp h1
      exact .inr (.inr ⟨e, h3, .inr ⟨o, h4, h2.symm⟩⟩)
  · rintro (h | h | ⟨e, h1, h2 | ⟨o, h3, h4⟩⟩)
    · exact .inl h
    · exact .inr (.inl h)
    · exact .inr (.inr (.inl (List.mem_map.mpr ⟨e, h1, h2.symm⟩)))
    · exact .inr (.inr (.inr (List.mem_map.mpr ⟨o, mem_flatO.mpr ⟨e, h1, h3⟩, h4.symm⟩)))
theorem told_len {l ys : List Str} (t : Told l ys) : ys.length ≤ l.length := nodup_le ys l t.2.1 fun z hz => (t.2.2 z).1 hz
theorem paired_snd {K : PySem.W.Frag} {H : Hp} {kvs : List (List Key × V)} {mv : Mv} (p : Paired (EntT K H) kvs mv) : Paired (OutsT K H) (kvs.map (·.2)) (mv.map (·.2)) := by
  induction p with
  | nil => exact .nil
  | cons h t ih => exact .cons h.2 ih
/-! ### the sorted moves -/
abbrev SortOf (a b : (Str × Str) × List (Str × Str)) : Prop := a.1 = b.1 ∧ a.2.Perm b.2 ∧ UpP a.2
theorem sort_keys : ∀ {mvs mv : Mv}, Paired SortOf mvs mv → mvs.map (·.1) = mv.map (·.1)
  | _, _, .nil => rfl
  | _, _, .cons h t => by rw [List.map_cons, List.map_cons, h.1, sort_keys t]
theorem sort_outs {k : Str × Str} : ∀ {mvs mv : Mv}, Paired SortOf mvs mv → (outsOf mvs k).Perm (outsOf mv k)
  | _, _, .nil => List.Perm.refl _
  | a :: l, b :: m, .cons h t => by
    have ih := sort_outs (k := k) t
    unfold outsOf at ih ⊢
    by_cases c : a.1 = k
    · rw [List.find?_cons_of_pos (by simpa using c), List.find?_cons_of_pos (by simpa using h.1.symm.trans c)]
      exact h.2.1
    · rw [List.find?_cons_of_neg (by simpa using c), List.find?_cons_of_neg (by simpa using fun z => c (h.1.trans z))]
      exact ih
theorem sort_mem : ∀ {mvs mv : Mv}, Paired SortOf mvs mv → ∀ (k : Str × Str) (os : List (Str × Str)), (k, os) ∈ mv → ∃ os', (k, os') ∈ mvs ∧ os'.Perm os
  | _, _, .nil, _, _, h => nomatch h
  | a :: l, b :: m, .cons h t, k, os, hm => by
    rcases List.mem_cons.mp hm with z | z
    · refine ⟨a.2, List.mem_cons.mpr (.inl ?_), ?_⟩
      · exact Prod.ext (by rw [h.1, ← z]) rfl
      · have := h.2.1; rw [← z] at this; exact this
    · obtain ⟨os', h1, h2⟩ := sort_mem t k os z
      exact ⟨os', List.mem_cons_of_mem _ h1, h2⟩
theorem sort_up : ∀ {mvs mv : Mv}, Paired SortOf mvs mv → ∀ e ∈ mvs, UpP e.2
  | _, _, .nil, _, h => nomatch h
  | _, _, .cons h t, e, hm => by
    rcases List.mem_cons.mp hm with z | z
    · rw [z]; exact h.2.2
    · exact sort_up t e z
theorem outsOf_few {mv : Mv} (h : ∀ e ∈ mv, e.2.length ≤ 8) (k : Str × Str) : (outsOf mv k).length ≤ 8 := by
  unfold outsOf
  cases c : mv.find? fun e => decide (e.1 = k) with
  | none => exact Nat.zero_le _
  | some e => exact h e (List.mem_of_find?_eq_some c)
theorem own_of {K : PySem.W.Frag} {H : Hp} {kvs : List (List Key × V)} {mvs mv : Mv} (nd : (kvs.map (·.1)).Nodup) (tups : Paired (TupE K H) kvs mvs) (so : Paired SortOf mvs mv) (few : ∀ e ∈ mv, e.2.length ≤ 8) : OwnMv K H kvs mvs mv where
  nd := nd
  tups := tups
  eqm := ⟨fun k => by rw [sort_keys so], fun k o => (sort_outs so).mem_iff, fun k => by rw [(sort_outs so).length_eq]; exact outsOf_few few k⟩
  outs := sort_mem so
  up := sort_up so
  len := PySem.Paired.length so
theorem tupE_but {K : PySem.W.Frag} {H H' : Hp} {D : Addr} {ks : List (List Key × V)} (b : But D H H') (hD : H D = some (.dT ks)) {kv : List Key × V} {e : (Str × Str) × List (Str × Str)} (h : TupE K H kv e) : TupE K H' kv e := by
  obtain ⟨e1, t, vs, e2, e3, p⟩ := h
  refine ⟨e1, t, vs, e2, b t _ (fun z => by rw [z, hD] at e3; cases e3) e3, L2.Paired.mapP p fun _ _ ⟨q, e, g⟩ => ⟨q, e, sqT_up (b.sq hD) g⟩⟩
/-- the outcomes of a row as tuples of two texts -/
theorem outs_ps2 {K : PySem.W.Frag} {H : Hp} : ∀ {vs : List V} {os : List (Str × Str)}, Paired (OutT K H) vs os → ∃ ps : List (Addr × Str × Str), vs = (ps.map (·.1)).map V.ref ∧ ps.map (·.2) = os ∧ ∀ p ∈ ps, SqT K H p.1 [.str p.2.1, .str p.2.2]
  | _, _, .nil => ⟨[], rfl, rfl, fun _ h => nomatch h⟩
  | v :: vs, o :: os, .cons ⟨q, e, h⟩ t => by
    obtain ⟨ps, h1, h2, h3⟩ := outs_ps2 t
    refine ⟨(q, o) :: ps, by rw [e, h1]; rfl, by rw [List.map_cons, h2], fun p hp => ?_⟩
    rcases List.mem_cons.mp hp with z | z
    · rw [z]; exact h
    · exact h3 p z
theorem paired_outs {K : PySem.W.Frag} {H : Hp} : ∀ {ps : List (Addr × Str × Str)}, (∀ p ∈ ps, SqT K H p.1 [.str p.2.1, .str p.2.2]) → Paired (OutT K H) ((ps.map (·.1)).map V.ref) (ps.map (·.2))
  | [], _ => .nil
  | p :: ps, h => .cons ⟨p.1, rfl, h p List.mem_cons_self⟩ (paired_outs fun x hx => h x (List.mem_cons_of_mem _ hx))
def keyOf (o : Str × Str) : List Key := [kInr o.1, kInr o.2]
theorem keyOf_inj {a b : Str × Str} (h : keyOf a = keyOf b) : a = b := by
  unfold keyOf at h
  simp only [List.cons.injEq, Sum.inr.injEq, and_true] at h
  exact Prod.ext h.1 h.2
theorem keys_nodup {os : List (Str × Str)} (nd : os.Nodup) : (os.map keyOf).Nodup := List.Pairwise.map _ (fun _ _ ne e => ne (keyOf_inj e)) nd
theorem paired_keys {K : PySem.W.Frag} {H : Hp} : ∀ {vs : List V} {os : List (Str × Str)}, Paired (OutT K H) vs os → Paired (TupK K H) vs (os.map keyOf)
  | _, _, .nil => .nil
  | _, _, .cons ⟨q, e, h⟩ t => .cons ⟨q, e, h⟩ (paired_keys t)
/-- an error raised: what stood stands, and its own dict is new -/
theorem raised {H H1 : Hp} {a dx C : Addr} {fs : List (Str × V)} (s : Same H H1) (na : H1 a = none) (nd : (upd H1 a (exo a C none)) dx = none) (ne : dx ≠ a) :
    (upd (upd (upd H1 a (exo a C none)) dx (exd dx fs)) a (exo a C (some dx))) a = some (exo a C (some dx)) ∧ (upd (upd (upd H1 a (exo a C none)) dx (exd dx fs)) a (exo a C (some dx))) dx = some (exd dx fs) ∧ H1 dx = none ∧
    Same H (upd (del (upd (upd (upd H1 a (exo a C none)) dx (exd dx fs)) a (exo a C (some dx))) a) dx (.xd fs)) ∧ H dx = none := by
  have n1 : H1 dx = none := by rw [upd_ne ne] at nd; exact nd
  refine ⟨upd_same, by rw [upd_ne ne]; exact upd_same, n1, fun b o e => ?_, ?_⟩
  · have h1 := s b o e
    have ba : b ≠ a := ne_of_none h1 na
    have bd : b ≠ dx := ne_of_none h1 n1
    rw [upd_ne bd, del_ne ba, upd_ne ba, upd_ne bd, upd_ne ba]
    exact h1
  · cases h : H dx with
    | none => rfl
    | some o => rw [s _ _ h] at n1; cases n1
end Q9
end
-- QRead3
section
set_option maxRecDepth 100000
set_option maxHeartbeats 4000000
namespace Q9
open PySem L2
/-- tuple(xs), xs a list or a tuple -/
def rTupOf (K : PySem.W.Frag) : List V → Hp → VK → Prop := fun vs H Q => ∃ p ys, vs = [.ref p] ∧ ((SqL K H p ys ∧ ∀ l, H l = none → Q (.ref l) (upd H l (.tup ys))) ∨ (SqT K H p ys ∧ Q (.ref p) H))
theorem cr_tupOf {X : Cx} : CallR X (.type "tuple") (rTupOf X.K) := call_tuple_of
structure TRd (K : PySem.W.Frag) (mg : Str → Option Value) (fA fP fR : Addr) : Prop where
  gA : mg "_are_rows" = some (.ref fA)
  kA : PySem.W.keepIn K (.ref fA) = true
  gP : mg "_pairs_of_texts" = some (.ref fP)
  kP : PySem.W.keepIn K (.ref fP) = true
  gR : mg "_are_right" = some (.ref fR)
  kR : PySem.W.keepIn K (.ref fR) = true
abbrev rdN : List Str := ["moves", "start", "ends", "many", "pairs", "behind", "states", "methods", "row", "_", "state", "method", "word", "key"]
/-- the states, the methods, the own moves; or the error -/
def spRead (CB : Addr) (K : PySem.W.Frag) : Sp := fun vs H Q E => ∃ (m : Addr) (nm st : Str) (ex : V) (es : List Str) (kvs : List (List Key × V)) (mv : Mv), vs = [.ref m, .str st, ex] ∧
  Row K H ex (es.map V.str) ∧ H m = some (.dT kvs) ∧ Moves K H kvs mv ∧ RightParts nm st es mv ∧ Small st es mv ∧
  ((Fits st es mv ∧ ∀ (H' : Hp) (t s me d : Addr) (ss ms : List Str) (kvs' : List (List Key × V)) (mvs : Mv), Same H H' → H' t = some (.tup [.ref s, .ref me, .ref d]) → H' s = some (.lst (ss.map V.str)) → Told (statesIn st es mv) ss → H' me = some (.lst (ms.map V.str)) → Told (methodsIn mv) ms →
      H' d = some (.dT kvs') → OwnMv K H' kvs' mvs mv → H s = none → H me = none → H d = none → Q (.ref t) H') ∨
    (¬ Fits st es mv ∧ ∀ (H' : Hp) (d : Addr), Same H H' → H d = none → H' d = some (.xd [("part", .str "moves")]) → E (.ref CB) (some d) H'))
section
variable {P : Program} {w : World} {K : PySem.W.Frag} {mg : Str → Option Value} {base : Heap} {C CB fKey fA fP fR fI : Addr}
theorem scRd : FnScope rdN ["moves", "start", "ends"] (defScope sRead) := ⟨rfl, rfl, rfl, by decide +kernel, rfl, by decide +kernel, by decide +kernel⟩
theorem ok_read {f : Addr} {fd dA dP dR dI : FuncData} (F : Fun K "_read_moves" "_read_moves" sRead f fd) (T : TRead K mg fKey) (TD : TRd K mg fA fP fR) (TE : TErr K mg "BadKind" "part" CB fI)
    (GI : FnOk P w K mg base CX0 1 fI dI ["self", "part"] (spErrI CB "part")) (bI : Binds K dI ["self", "part"] [])
    (GA : FnOk P w K mg base CX0 2 fA dA ["moves"] (spAreRows K)) (bA : Binds K dA ["moves"] []) (GP : FnOk P w K mg base CX0 1 fP dP ["rows"] (spPairs K)) (bP : Binds K dP ["rows"] [])
    (GR : FnOk P w K mg base CX0 4 fR dR ["words", "states", "methods"] (spRight K)) (bR : Binds K dR ["words", "states", "methods"] []) :
    FnOk P w K mg base (L2.CX P w) 5 f fd ["moves", "start", "ends"] (spRead CB K) := by
  refine F.okX scRd (fun vs H Q E h => ?_) (fun cdv A outer s H vs Q E hr h => ?_)
  · obtain ⟨m, nm, st, ex, es, kvs, mv, rfl, _⟩ := h
    rfl
  · obtain ⟨m, nm, st, ex, es, kvs, mv, rfl, he, hm, M, R, S, way⟩ := h
    have hu := hu_of hr
    have hu8 : (A.deeper (PyProof.Rows.envOfC (Str.ofString "_read_moves") (defScope sRead) s.heap.objs.size f cdv)).units + 8 < cLine := Nat.lt_of_le_of_lt (Nat.add_le_add_left (by decide : 8 ≤ 64) _) hr.units
    refine ⟨_, pss_cons (ps_if (pt_not (pt_val (pe_call GA (hr.mono (by decide)) (by rfl) TD.gA TD.kA bA .nil pass0 (pa_cons (pv 0) pa_nil))))
        (pss_one (ps_raise rfl (takes_of rfl rfl rfl rfl) (pmk_oex TE.ox TE.iC TE.tI GI (hr.mono (by omega)) bI .nil pass0 (by rfl) TE.gC (pa_cons pe_str pa_nil)))) pss_nil)
      (pss_cons (ps_set (i := 3) scRd.nd rfl (.inl rfl) (pe_callB (cr_sum rfl) (by rfl) T.sum (by decide +kernel) (pa_cons
        (pe_lock (pe_lc (te := tCB (rLenRow K) (tCons (tVar 8) tNil)) (own := [("row", 8)]) (g := gName 8) (tt := tYes) rfl scRd.nd (pi_valuesT (pv 0)) (blkOk_by (own := [("row", 8)]) (N := rdN) (sc := defScope sRead) (by decide +kernel))
          (fun _ _ _ _ _ => pg_name (i := 8) scRd.nd rfl (.inl rfl)) (fun _ _ _ _ _ => pts_nil) (fun _ _ _ _ _ => pe_callB (id := "len") (r := rLenRow K) cr_lenRow (by rfl) T.len (by decide +kernel) (pa_cons (pv 8) pa_nil)))) pa_nil)))
      (pss_cons (ps_set (i := 4) scRd.nd rfl (.inl rfl) (pe_call GP (hr.mono (by decide)) (by rfl) TD.gP TD.kP bP .nil pass0 (pa_cons (pe_listValsT rfl (pv 0) (by rfl) T.lst (by decide +kernel)) pa_nil)))
      (pss_cons (ps_if (pt_cmpR op_ne (pe_callB cr_lenRow (by rfl) T.len (by decide +kernel) (pa_cons (pv 4) pa_nil)) (pv 3) (nomark _)) pss_never pss_nil)
      (pss_cons (ps_if (pt_cmpR op_ne (pe_callB cr_lenRow (by rfl) T.len (by decide +kernel) (pa_cons (pv 4) pa_nil)) (pv 3) (nomark _)) pss_never pss_nil)
      (pss_cons (ps_set (i := 5) scRd.nd rfl (.inl rfl) (pe_callB (cr_sortedKs rfl) (by rfl) T.sorted (by decide +kernel) (pa_cons
        (pe_scK (own := [("_", 9), ("state", 10)]) (g := gTup K 2 (gCons (gName 9) (gCons (gName 10) gNil))) (tt := tYes) rfl scRd.nd (pi_list (pv 4)) (blkOk_by (own := [("_", 9), ("state", 10)]) (N := rdN) (sc := defScope sRead) (by decide +kernel))
          (fun _ _ _ _ _ => pg_tup rfl (pgs_cons (pg_name (i := 9) scRd.nd rfl (.inl rfl)) (pgs_cons (pg_name (i := 10) scRd.nd rfl (.inl rfl)) pgs_nil))) (fun _ _ _ _ _ => pts_nil) (fun _ _ _ _ _ => pv 10)) pa_nil)))
      (pss_cons (ps_set (i := 6) scRd.nd rfl (.inl rfl) (pe_callB (cr_sortedKs rfl) (by rfl) T.sorted (by decide +kernel) (pa_cons (pe_callTy (cr_setOf rfl) (by rfl) T.set (by decide +kernel) (pa_cons
        (pe_op op_cat (pe_op op_cat (pe_op op_cat (pe_lst (pa_cons (pv 1) pa_nil)) (pe_callTy cr_listRow (by rfl) T.lst (by decide +kernel) (pa_cons (pv 2) pa_nil)))
          (pe_lock (pe_lc (te := tVar 10) (own := [("state", 10), ("_", 9)]) (g := gTup K 2 (gCons (gName 10) (gCons (gName 9) gNil))) (tt := tYes) rfl scRd.nd (pi_keys (pv 0)) (blkOk_by (own := [("state", 10), ("_", 9)]) (N := rdN) (sc := defScope sRead) (by decide +kernel))
            (fun _ _ _ _ _ => pg_tup rfl (pgs_cons (pg_name (i := 10) scRd.nd rfl (.inl rfl)) (pgs_cons (pg_name (i := 9) scRd.nd rfl (.inl rfl)) pgs_nil))) (fun _ _ _ _ _ => pts_nil) (fun _ _ _ _ _ => pv 10)))) (pv 5)) pa_nil)) pa_nil)))
      (pss_cons (ps_set (i := 7) scRd.nd rfl (.inl rfl) (pe_callB (cr_sortedKs rfl) (by rfl) T.sorted (by decide +kernel) (pa_cons
        (pe_lock (pe_scK (own := [("_", 9), ("method", 11)]) (g := gTup K 2 (gCons (gName 9) (gCons (gName 11) gNil))) (tt := tYes) rfl scRd.nd (pi_keys (pv 0)) (blkOk_by (own := [("_", 9), ("method", 11)]) (N := rdN) (sc := defScope sRead) (by decide +kernel))
          (fun _ _ _ _ _ => pg_tup rfl (pgs_cons (pg_name (i := 9) scRd.nd rfl (.inl rfl)) (pgs_cons (pg_name (i := 11) scRd.nd rfl (.inl rfl)) pgs_nil))) (fun _ _ _ _ _ => pts_nil) (fun _ _ _ _ _ => pv 11))) pa_nil)))
      (pss_cons (ps_if (pt_not (pt_val (pe_call GR (hr.mono (by decide)) (by rfl) TD.gR TD.kR bR .nil pass0 (pa_cons (pe_callB (cr_sortedKs rfl) (by rfl) T.sorted (by decide +kernel) (pa_cons
          (pe_scK (own := [("word", 12), ("_", 9)]) (g := gTup K 2 (gCons (gName 12) (gCons (gName 9) gNil))) (tt := tYes) rfl scRd.nd (pi_list (pv 4)) (blkOk_by (own := [("word", 12), ("_", 9)]) (N := rdN) (sc := defScope sRead) (by decide +kernel))
            (fun _ _ _ _ _ => pg_tup rfl (pgs_cons (pg_name (i := 12) scRd.nd rfl (.inl rfl)) (pgs_cons (pg_name (i := 9) scRd.nd rfl (.inl rfl)) pgs_nil))) (fun _ _ _ _ _ => pts_nil) (fun _ _ _ _ _ => pv 12)) pa_nil)) (pa_cons (pv 6) (pa_cons (pv 7) pa_nil))))))
        (pss_one (ps_raise rfl (takes_of rfl rfl rfl rfl) (pmk_oex TE.ox TE.iC TE.tI GI (hr.mono (by omega)) bI .nil pass0 (by rfl) TE.gC (pa_cons pe_str pa_nil)))) pss_nil)
      (pss_cons (ps_if (pt_truth (pe_lock (pe_lc (te := tVar 8) (own := [("row", 8)]) (g := gName 8) rfl scRd.nd (pi_valuesT (pv 0)) (blkOk_by (own := [("row", 8)]) (N := rdN) (sc := defScope sRead) (by decide +kernel))
          (fun _ _ _ _ _ => pg_name (i := 8) scRd.nd rfl (.inl rfl))
          (fun _ _ _ _ _ => pts_one (pt_cmpR op_ne (pe_callB (id := "len") (r := rLenTs P w) cr_lenTs (by rfl) T.len (by decide +kernel) (pa_cons (pe_callTy (r := rSetOfT K P w) (cr_setOfT rfl hu8) (by rfl) T.set (by decide +kernel) (pa_cons (pv 8) pa_nil)) pa_nil)) (pe_callB (id := "len") (r := rLenRow K) cr_lenRow (by rfl) T.len (by decide +kernel) (pa_cons (pv 8) pa_nil)) (nomark _)))
          (fun _ _ _ _ _ => pv 8))) (by intro _; rfl)) pss_never pss_nil)
      (pss_one (ps_ret (pe_tup (pa_cons (pv 6) (pa_cons (pv 7) (pa_cons
        (pe_lock (pe_dcT (tk := tVar 13) (tv := tCB (rTupOf K) (tCons (tCB (rSortedRT K) (tCons (tVar 8) tNil)) tNil)) (tt := tYes) (own := [("key", 13), ("row", 8)]) (g := gTup K 2 (gCons (gName 13) (gCons (gName 8) gNil))) (Nat.lt_of_succ_lt hu) rfl scRd.nd (pi_itemsT (pv 0)) (blkOk_by (own := [("key", 13), ("row", 8)]) (N := rdN) (sc := defScope sRead) (by decide +kernel))
          (fun _ _ _ _ _ => pg_tup rfl (pgs_cons (pg_name (i := 13) scRd.nd rfl (.inl rfl)) (pgs_cons (pg_name (i := 8) scRd.nd rfl (.inl rfl)) pgs_nil))) (fun _ _ _ _ _ => pts_nil) (fun _ _ _ _ _ => pv 13)
          (fun _ _ _ _ _ => pe_callTy (r := rTupOf K) cr_tupOf (by rfl) T.tup (by decide +kernel) (pa_cons (pe_callB (id := "sorted") (r := rSortedRT K) cr_sortedRT (by rfl) T.sorted (by decide +kernel) (pa_cons (pv 8) pa_nil)) pa_nil)))) pa_nil))))))))))))))), ?_⟩
    have len : kvs.length = mv.length := PySem.Paired.length M.ent
    have ls := lens_states st es mv
    have big := S.len
    have lf : (flatO mv).length ≤ 1000000 := by omega
    have le : es.length ≤ 1000000 := by omega
    have few : kvs.length ≤ 1000000 := by omega
    have sz : ∀ n : Nat, n ≤ 4000010 → n < sizeLine := fun n h => by rw [PySem.sizeLine_eq]; omega
    refine ⟨_, rfl, m, kvs, mv, rfl, hm, M, few, fun H1 s1 => ⟨_, rfl, ?_⟩⟩
    by_cases c8 : ∀ e ∈ mv, e.2.length ≤ 8
    case neg =>
      rw [decide_eq_false c8]
      rcases way with ⟨ft, _⟩ | ⟨_, wrong⟩
      · exact (c8 ft.1).elim
      refine iteT ⟨(by show 1 ≤ 1000; decide), fun a na => ⟨a, _, rfl, upd_same, fun dx nd ne => ?_⟩⟩
      obtain ⟨r1, r2, r3, r4, r5⟩ := raised (C := CB) (fs := [("part", .str "moves")]) s1 na nd ne
      exact ⟨rfl, dx, _, r1, r2, r3, wrong _ dx r4 r5 upd_same⟩
    rw [decide_eq_true c8]
    refine iteF ?_
    have hm1 := s1 m _ hm
    have M1 := moves_up (Q9.Same.sq s1) M
    -- how many outcomes
    refine ⟨m, .dT kvs, hm1, trivial, fun od => ⟨_, rfl, m, od, kvs, rfl, upd_same, fun D hD => ?_⟩⟩
    have nmD : m ≠ D := ne_of_none upd_same hD
    have freeD : H1 D = none := by rw [upd_ne nmD.symm] at hD; exact hD
    refine lc_it walk_valuesT (fun i H' => H' m = some (.frz od (.dT kvs)) ∧ But m H1 H' ∧ H' D = some (.lst (((mv.take i).map fun e => (e.2.length : Int)).map V.int))) ?_ (fun i H' _ p => p.1) ?_ ?_
    · exact ⟨by rw [upd_ne nmD]; exact upd_same, fun b o ne e => by rw [upd_ne (ne_of_none e freeD), upd_ne ne]; exact e, upd_same⟩
    · rintro i y H2 H3 hi ⟨hm2, bt, hd⟩ ⟨rfl, k0, hk⟩
      obtain ⟨e, hev, ek, vs, row, each⟩ := paired_at M1.ent i _ hk
      have row2 := row_sq (bt.sq hm1) row
      have ll : vs.length = e.2.length := PySem.Paired.length each
      refine ⟨rfl, _, rfl, y, vs, rfl, row2, _, hd, ?_, ?_, fun b o ne z => ?_, ?_⟩
      · rw [List.length_map, List.length_map, List.length_take]; exact sz _ (by omega)
      · rw [upd_ne nmD]; exact hm2
      · rw [upd_ne (ne_of_none z freeD)]; exact bt b o ne z
      · rw [upd_same, take_one_more hev, List.map_append, List.map_append, ll]
        rfl
    rintro H2' ⟨hm2, bt, hd⟩
    rw [len, List.take_length] at hd
    have sb := bt.back hm1
    refine ⟨hm2, D, _, rfl, .of (by rw [upd_ne nmD.symm]; exact hd), ?_⟩
    rw [sum_lens]
    have s2 : Same H (upd H2' m (.dT kvs)) := fun b o z => sb b o (s1 b o z)
    generalize upd H2' m (.dT kvs) = H2 at s2
    clear sb hd bt hm2 freeD nmD hD
    have M2 := moves_up (Q9.Same.sq s2) M
    -- the outcomes
    refine ⟨_, rfl, m, kvs, rfl, s2 _ _ hm, fun rp nrp => ?_⟩
    have s3 : Same H (upd H2 rp (.lst (kvs.map (·.2)))) := fun b o z => same_upd nrp b o (s2 b o z)
    refine ⟨rp, kvs.map (fun e => e.2), rowsO mv, rfl, .of upd_same, paired_snd (moves_up (Q9.Same.sq s3) M).ent, lf, fun H4 pp s34 ⟨pp', vs, epp, hvs, pvs⟩ => ?_⟩
    cases epp
    have s4 : Same H H4 := fun b o z => s34 b o (s3 b o z)
    clear s34 s3 nrp s2 M2
    have pvs : Paired (OutT K H4) vs (flatO mv) := pvs
    have lv : vs.length = (flatO mv).length := PySem.Paired.length pvs
    refine ⟨_, rfl, .ref pp, vs, rfl, ⟨pp, rfl, .inl hvs⟩, _, rfl, rfl, _, rfl, ?_⟩
    refine iteNS (by rw [lv]) ⟨_, rfl, .ref pp, vs, rfl, ⟨pp, rfl, .inl hvs⟩, _, rfl, rfl, _, rfl, iteNS (by rw [lv]) ?_⟩
    -- the states behind
    have subB : ∀ z ∈ (flatO mv).map (·.2), z ∈ statesIn st es mv := fun z hz => by
      obtain ⟨o, h1, h2⟩ := List.mem_map.mp hz
      obtain ⟨e, h3, h4⟩ := mem_flatO.mp h1
      exact mem_states.mpr (.inr (.inr ⟨e, h3, .inr ⟨o, h4, h2.symm⟩⟩))
    have fewB := few_same subB S.states
    refine ⟨_, rfl, pp, rfl, ⟨_, hvs⟩, fun D hD => ?_⟩
    refine coll_it (walk_list (xs := vs)) (fun i H' => Same H4 H' ∧ ∃ ks, H' D = some (SetKs P w D ks) ∧ Coll (((flatO mv).map (·.2)).map kInr) i ks) ⟨same_upd hD, [], upd_same, Coll.zero _⟩ (fun i H' _ p => sqL_up (Q9.Same.sq p.1) hvs) ?_ ?_
    · rintro i y H5 H6 hi ⟨s5, ks, hks, cl⟩ ⟨rfl, hy⟩
      obtain ⟨o, ho, q5, rfl, hq5⟩ := paired_at pvs i _ hy
      have at_ : (((flatO mv).map (·.2)).map kInr)[i]? = some (kInr o.2) := by rw [List.getElem?_map, List.getElem?_map, ho]; rfl
      refine ⟨q5, _, rfl, same_sqT s5 hq5, rfl, _, _, rfl, _, _, rfl, rfl, rfl, ?_⟩
      exact ⟨_, rfl, kInr o.2, ks, rfl, hks, fewB ks cl.nd cl.sub, fun ks' ad => ⟨fun b u z => by rw [upd_ne (ne_of_none z hD)]; exact s5 b u z, ks', upd_same, cl.next at_ ad⟩⟩
    rintro H5 ⟨s5, ks, hks, cl⟩
    have el : (((flatO mv).map (·.2)).map kInr).take vs.length = ((flatO mv).map (·.2)).map kInr := List.take_of_length_le (by rw [List.length_map, List.length_map, lv]; exact Nat.le_refl _)
    have memB : ∀ j, j ∈ ks ↔ j ∈ ((flatO mv).map (·.2)).map kInr := fun j => by rw [cl.mem j, el]
    obtain ⟨ss0, e0⟩ := texts_of memB
    refine ⟨D, ss0, rfl, (by rw [hks, e0]; rfl), fun beh bp pmB upB nbp => ?_⟩
    have tB : Told ((flatO mv).map (·.2)) beh := told_of e0 cl.nd memB pmB upB
    have s46 : Same H4 (upd H5 bp (.lst (beh.map V.str))) := fun b o z => same_upd nbp b o (s5 b o z)
    have hbp : (upd H5 bp (.lst (beh.map V.str))) bp = some (.lst (beh.map V.str)) := upd_same
    have lb := told_len tB
    rw [List.length_map] at lb
    generalize upd H5 bp (.lst (beh.map V.str)) = H6 at s46 hbp
    clear nbp upB pmB e0 memB el cl hks s5 hD
    have s6 : Same H H6 := fun b o z => s46 b o (s4 b o z)
    -- all states
    refine ⟨_, rfl, (by show 1 ≤ sizeLine; decide), fun f1 hf1 => ?_⟩
    have a1 := same_upd (o := .lst [V.str st]) hf1
    refine ⟨_, rfl, ex, _, rfl, row_up (fun b o z => a1 b o (s6 b o z)) he, fun f2 hf2 => ?_⟩
    have a2 := same_upd (o := .lst (es.map V.str)) hf2
    refine ⟨f1, f2, _, _, rfl, rfl, a2 _ _ upd_same, upd_same, ?_, fun f3 hf3 => ?_⟩
    · rw [List.length_map]; show 1 + es.length ≤ sizeLine; exact Nat.le_of_lt (sz _ (by omega))
    have a3 := same_upd (o := .lst ([V.str st] ++ es.map V.str)) hf3
    have a13 : Same H6 (upd (upd (upd H6 f1 (.lst [V.str st])) f2 (.lst (es.map V.str))) f3 (.lst ([V.str st] ++ es.map V.str))) := fun b o z => a3 b o (a2 b o (a1 b o z))
    have hf3' : (upd (upd (upd H6 f1 (.lst [V.str st])) f2 (.lst (es.map V.str))) f3 (.lst ([V.str st] ++ es.map V.str))) f3 = some (.lst ([V.str st] ++ es.map V.str)) := upd_same
    generalize upd (upd (upd H6 f1 (.lst [V.str st])) f2 (.lst (es.map V.str))) f3 (.lst ([V.str st] ++ es.map V.str)) = H7 at a13 hf3'
    clear a1 a2 a3 hf1 hf2 hf3
    have s7 : Same H H7 := fun b o z => a13 b o (s6 b o z)
    have hm7 := s7 m _ hm
    have M7 := moves_up (Q9.Same.sq s7) M
    refine ⟨m, .dT kvs, hm7, trivial, fun od3 => ⟨_, rfl, m, od3, rfl, .inr ⟨kvs, upd_same, fun D3 hD3 => ?_⟩⟩⟩
    have nm3 : m ≠ D3 := ne_of_none upd_same hD3
    have free3 : H7 D3 = none := by rw [upd_ne nm3.symm] at hD3; exact hD3
    refine lc_it walk_keysT (fun i H' => H' m = some (.frz od3 (.dT kvs)) ∧ But m H7 H' ∧ H' D3 = some (.lst (((mv.take i).map (·.1.1)).map V.str))) ?_ (fun i H' _ p => p.1) ?_ ?_
    · exact ⟨by rw [upd_ne nm3]; exact upd_same, fun b o ne e => by rw [upd_ne (ne_of_none e free3), upd_ne ne]; exact e, upd_same⟩
    · rintro i y H8 H9 hi ⟨hm8, bt, hd⟩ ⟨rfl, k0, v, qa, hk, rfl, hq⟩
      obtain ⟨e, hev, ek, _⟩ := paired_at M7.ent i _ hk
      simp only at ek
      subst ek
      have hq' : H9 qa = some (.tup [.str e.1.1, .str e.1.2]) := hq
      refine ⟨qa, _, rfl, .of hq', rfl, _, _, rfl, _, _, rfl, rfl, rfl, _, rfl, _, hd, ?_, ?_, fun b o ne z => ?_, ?_⟩
      · rw [List.length_map, List.length_map, List.length_take]; exact sz _ (by omega)
      · rw [upd_ne nm3]; exact hm8
      · rw [upd_ne (ne_of_none z free3)]; exact bt b o ne z
      · rw [upd_same, take_one_more hev, List.map_append, List.map_append]; rfl
    rintro H8 ⟨hm8, bt, hd⟩
    rw [len, List.take_length] at hd
    have sb3 := bt.back hm7
    refine ⟨hm8, f3, D3, _, _, rfl, rfl, sb3 _ _ hf3', (by rw [upd_ne nm3.symm]; exact hd), ?_, fun f4 hf4 => ?_⟩
    · rw [List.length_append, List.length_map, List.length_map, List.length_map]; exact Nat.le_of_lt (sz _ (by simp only [List.length_cons, List.length_nil]; omega))
    have a4 := same_upd (o := .lst ([V.str st] ++ es.map V.str ++ (mv.map (·.1.1)).map V.str)) hf4
    refine ⟨_, rfl, f4, bp, _, _, rfl, rfl, upd_same, a4 _ _ (sb3 _ _ (a13 _ _ hbp)), ?_, fun f5 hf5 => ?_⟩
    · rw [List.length_append, List.length_append, List.length_map, List.length_map, List.length_map, List.length_map]; exact Nat.le_of_lt (sz _ (by simp only [List.length_cons, List.length_nil]; omega))
    have tot : ∀ z, z ∈ st :: es ++ mv.map (·.1.1) ++ beh ↔ z ∈ statesIn st es mv := states_told tB
    have etot : ((st :: es ++ mv.map (·.1.1) ++ beh).map kInr).map kV = [V.str st] ++ es.map V.str ++ (mv.map (·.1.1)).map V.str ++ beh.map V.str := by rw [kInr_kV]; simp
    refine ⟨f5, (st :: es ++ mv.map (·.1.1) ++ beh).map kInr, rfl, .inl (.of (by rw [etot]; exact upd_same)), few_same (fun z hz => (tot z).1 hz) S.states, fun p6 ks6 hp6 nd6 mem6 => ?_⟩
    obtain ⟨ss6, e6⟩ := texts_of mem6
    refine ⟨p6, ss6, rfl, by rw [upd_same, e6], fun ss sp pmS upS nsp => ?_⟩
    have tS : Told (statesIn st es mv) ss := by
      have t0 := told_of e6 nd6 mem6 pmS upS
      exact ⟨t0.1, t0.2.1, fun z => (t0.2.2 z).trans (tot z)⟩
    generalize hH9 : upd (upd (upd (upd (upd H8 m (.dT kvs)) f4 _) f5 _) p6 (SetKs _ _ p6 ks6)) sp _ = H9
    have s9 : Same H6 H9 := by rw [← hH9]; exact fun b o z => same_upd nsp b o (same_upd hp6 b o (same_upd hf5 b o (a4 b o (sb3 b o (a13 b o z)))))
    have hsp : H9 sp = some (.lst (ss.map V.str)) := by rw [← hH9]; exact upd_same
    have s9H : Same H H9 := fun b o z => s9 b o (s6 b o z)
    have nsH : H sp = none := by
      cases z : H sp with
      | none => rfl
      | some o => exact absurd (same_upd hp6 _ _ (same_upd hf5 _ _ (a4 _ _ (sb3 _ _ (a13 _ _ (s6 _ _ z)))))) (by rw [nsp]; exact fun h => nomatch h)
    clear hH9 nsp hp6 hf5 a4 sb3 hf4 hd bt hm8 free3 nm3 hD3 M7 hm7 s7 hf3' a13 pmS upS e6 mem6 nd6
    have hm9 := s9H m _ hm
    have M9 := moves_up (Q9.Same.sq s9H) M
    -- the methods
    refine ⟨m, .dT kvs, hm9, trivial, fun od4 => ⟨_, rfl, m, od4, rfl, .inr ⟨kvs, upd_same, fun D4 hD4 => ?_⟩⟩⟩
    have nm4 : m ≠ D4 := ne_of_none upd_same hD4
    have free4 : H9 D4 = none := by rw [upd_ne nm4.symm] at hD4; exact hD4
    refine coll_it walk_keysT (fun i H' => H' m = some (.frz od4 (.dT kvs)) ∧ But m H9 H' ∧ ∃ ks, H' D4 = some (SetKs P w D4 ks) ∧ Coll ((methodsIn mv).map kInr) i ks) ?_ (fun i H' _ p => p.1) ?_ ?_
    · exact ⟨by rw [upd_ne nm4]; exact upd_same, fun b o ne e => by rw [upd_ne (ne_of_none e free4), upd_ne ne]; exact e, [], upd_same, Coll.zero _⟩
    · rintro i y Ha Hb hi ⟨hm1', bt, ks, hks, cl⟩ ⟨rfl, k0, v, q0, hk, rfl, hq⟩
      obtain ⟨e, hev, ek, _⟩ := paired_at M9.ent i _ hk
      simp only at ek
      subst ek
      have hq' : Hb q0 = some (.tup [.str e.1.1, .str e.1.2]) := hq
      have at_ : ((methodsIn mv).map kInr)[i]? = some (kInr e.1.2) := by
        unfold methodsIn
        rw [List.getElem?_map, List.getElem?_map, hev]
        rfl
      refine ⟨q0, _, rfl, .of hq', rfl, _, _, rfl, _, _, rfl, rfl, rfl, ?_⟩
      refine ⟨_, rfl, kInr e.1.2, ks, rfl, hks, S.methods ks cl.nd cl.sub, fun ks' ad => ?_⟩
      refine ⟨by rw [upd_ne nm4]; exact hm1', fun b o ne z => ?_, ks', upd_same, cl.next at_ ad⟩
      rw [upd_ne (ne_of_none z free4)]
      exact bt b o ne z
    rintro Ha ⟨hma, bt, ks, hks, cl⟩
    have el4 : ((methodsIn mv).map kInr).take kvs.length = (methodsIn mv).map kInr := List.take_of_length_le (by unfold methodsIn; rw [List.length_map, List.length_map, len]; exact Nat.le_refl _)
    have mem4 : ∀ j, j ∈ ks ↔ j ∈ (methodsIn mv).map kInr := fun j => by rw [cl.mem j, el4]
    obtain ⟨ss4, e4⟩ := texts_of mem4
    refine ⟨hma, D4, ss4, rfl, (by rw [upd_ne nm4.symm, hks, e4]; rfl), fun ms mp pmM upM nmp => ?_⟩
    have tM : Told (methodsIn mv) ms := told_of e4 cl.nd mem4 pmM upM
    have sb4 := bt.back hm9
    generalize hH10 : upd (upd Ha m (.dT kvs)) mp _ = H10
    have s10 : Same H9 H10 := by rw [← hH10]; exact fun b o z => same_upd nmp b o (sb4 b o z)
    have hmp : H10 mp = some (.lst (ms.map V.str)) := by rw [← hH10]; exact upd_same
    have nmH : H mp = none := by
      cases z : H mp with
      | none => rfl
      | some o => exact absurd (sb4 _ _ (s9H _ _ z)) (by rw [nmp]; exact fun h => nomatch h)
    clear hH10 sb4 nmp pmM upM e4 mem4 el4 cl hks bt hma free4 nm4 hD4
    have s10_4 : Same H4 H10 := fun b o z => s10 b o (s9 b o (s46 b o z))
    -- the words
    have fewW : FewIn (((flatO mv).map (·.1)).map kInr) := few_same (fun z hz => flat_words.mp hz) S.words
    refine ⟨_, rfl, pp, rfl, ⟨_, s10_4.seq hvs⟩, fun D5 hD5 => ?_⟩
    refine coll_it (walk_list (xs := vs)) (fun i H' => Same H10 H' ∧ ∃ ks, H' D5 = some (SetKs P w D5 ks) ∧ Coll (((flatO mv).map (·.1)).map kInr) i ks) ⟨same_upd hD5, [], upd_same, Coll.zero _⟩ (fun i H' _ p => sqL_up (Q9.Same.sq p.1) (s10_4.seq hvs)) ?_ ?_
    · rintro i y Ha Hb hi ⟨s5, ks, hks, cl⟩ ⟨rfl, hy⟩
      obtain ⟨o, ho, q5, rfl, hq5⟩ := paired_at pvs i _ hy
      have at_ : (((flatO mv).map (·.1)).map kInr)[i]? = some (kInr o.1) := by rw [List.getElem?_map, List.getElem?_map, ho]; rfl
      refine ⟨q5, _, rfl, same_sqT s5 (same_sqT s10_4 hq5), rfl, _, _, rfl, _, _, rfl, rfl, rfl, ?_⟩
      exact ⟨_, rfl, kInr o.1, ks, rfl, hks, fewW ks cl.nd cl.sub, fun ks' ad => ⟨fun b u z => by rw [upd_ne (ne_of_none z hD5)]; exact s5 b u z, ks', upd_same, cl.next at_ ad⟩⟩
    rintro Ha ⟨s5, ks, hks, cl⟩
    have el5 : (((flatO mv).map (·.1)).map kInr).take vs.length = ((flatO mv).map (·.1)).map kInr := List.take_of_length_le (by rw [List.length_map, List.length_map, lv]; exact Nat.le_refl _)
    have mem5 : ∀ j, j ∈ ks ↔ j ∈ ((flatO mv).map (·.1)).map kInr := fun j => by rw [cl.mem j, el5]
    obtain ⟨ss5, e5⟩ := texts_of mem5
    refine ⟨D5, ss5, rfl, (by rw [hks, e5]; rfl), fun ws wp pmW upW nwp => ?_⟩
    have tW : Told ((flatO mv).map (·.1)) ws := told_of e5 cl.nd mem5 pmW upW
    generalize hH11 : upd Ha wp _ = H11
    have s11 : Same H10 H11 := by rw [← hH11]; exact fun b o z => same_upd nwp b o (s5 b o z)
    have hwp : H11 wp = some (.lst (ws.map V.str)) := by rw [← hH11]; exact upd_same
    clear hH11 nwp pmW upW e5 mem5 el5 cl hks s5 hD5
    have s11H : Same H H11 := fun b o z => s11 b o (s10 b o (s9H b o z))
    -- are they right
    have rightS : ∀ z ∈ ss, nameB z = true := fun z hz => by
      rcases mem_states.mp ((tS.2.2 z).1 hz) with h | h | ⟨e, h1, h2 | ⟨o, h3, h4⟩⟩
      · rw [h]; exact R.start
      · exact R.ends z h
      · rw [h2]; exact (R.keys e h1).1
      · rw [h4]; exact (R.outs e h1 o h3).2
    have rightM : ∀ z ∈ ms, nameB z = true := fun z hz => by
      obtain ⟨e, h1, h2⟩ := List.mem_map.mp ((tM.2.2 z).1 hz)
      rw [← h2]
      exact (R.keys e h1).2
    have rightW : ∀ z ∈ ws, wordB z = true := fun z hz => by
      obtain ⟨o, h1, h2⟩ := List.mem_map.mp ((tW.2.2 z).1 hz)
      obtain ⟨e, h3, h4⟩ := mem_flatO.mp h1
      rw [← h2]
      exact (R.outs e h3 o h4).1
    have lW := told_len tW
    have lS := told_len tS
    have lM := told_len tM
    rw [List.length_map] at lW
    have lMm : (methodsIn mv).length = mv.length := by unfold methodsIn; rw [List.length_map]
    refine ⟨_, rfl, _, rfl, wp, sp, mp, ws, ss, ms, rfl, .of hwp, .of (s11 _ _ (s10 _ _ hsp)), .of (s11 _ _ hmp), rightW, rightS, rightM, by omega, by omega, by omega, fun H12 s12 => ⟨_, rfl, ?_⟩⟩
    have s12H : Same H H12 := fun b o z => s12 b o (s11H b o z)
    by_cases cb : ss.length ≤ 60 ∧ ms.length ≤ 8
    case neg =>
      have e1 : (decide (ss.length ≤ 60) && decide (ms.length ≤ 8)) = false := by rw [Bool.and_eq_false_iff, decide_eq_false_iff_not, decide_eq_false_iff_not]; omega
      rw [e1]
      rcases way with ⟨ft, _⟩ | ⟨_, wrong⟩
      · exact (cb ⟨ft.2.1 ss tS.2.1 fun z hz => (tS.2.2 z).1 hz, ft.2.2 ms tM.2.1 fun z hz => (tM.2.2 z).1 hz⟩).elim
      refine iteT ⟨(by show 1 ≤ 1000; decide), fun a na => ⟨a, _, rfl, upd_same, fun dx nd ne => ?_⟩⟩
      obtain ⟨r1, r2, r3, r4, r5⟩ := raised (C := CB) (fs := [("part", .str "moves")]) s12H na nd ne
      exact ⟨rfl, dx, _, r1, r2, r3, wrong _ dx r4 r5 upd_same⟩
    have e1 : (decide (ss.length ≤ 60) && decide (ms.length ≤ 8)) = true := by rw [decide_eq_true cb.1, decide_eq_true cb.2]; rfl
    rw [e1]
    refine iteF ?_
    have hm12 := s12H m _ hm
    have M12 := moves_up (Q9.Same.sq s12H) M
    -- no outcome twice
    refine ⟨m, .dT kvs, hm12, trivial, fun od6 => ⟨_, rfl, m, od6, kvs, rfl, upd_same, fun D6 hD6 => ?_⟩⟩
    have nm6 : m ≠ D6 := ne_of_none upd_same hD6
    have free6 : H12 D6 = none := by rw [upd_ne nm6.symm] at hD6; exact hD6
    refine lc_it walk_valuesT (fun i H' => H' m = some (.frz od6 (.dT kvs)) ∧ But m H12 H' ∧ H' D6 = some (.lst [])) ?_ (fun i H' _ p => p.1) ?_ ?_
    · exact ⟨by rw [upd_ne nm6]; exact upd_same, fun b o ne e => by rw [upd_ne (ne_of_none e free6), upd_ne ne]; exact e, upd_same⟩
    · rintro i y Ha Hb hi ⟨hma, bt, hd⟩ ⟨rfl, k0, hk⟩
      obtain ⟨e, hev, ek, us, row, each⟩ := paired_at M12.ent i _ hk
      have he_mv := List.mem_of_getElem? hev
      have row2 := row_sq (bt.sq hm12) row
      have each2 : Paired (OutT K Hb) us e.2 := L2.Paired.mapP each fun _ _ ⟨q, e, h⟩ => ⟨q, e, sqT_up (bt.sq hm12) h⟩
      have lu : us.length = e.2.length := PySem.Paired.length each
      have l8 := c8 e he_mv
      refine ⟨rfl, _, rfl, y, us, e.2.map keyOf, rfl, row2, paired_keys each2, by omega, fun p L hp nd mem => ⟨p, L, rfl, upd_same, ?_⟩⟩
      have sp1 := same_upd (o := SetTs P w p L) hp
      have ll : L.length = e.2.length := by
        have h := (unlike_len (l := e.2.map keyOf) nd fun k => mem k).2 (keys_nodup (R.outsU e he_mv))
        rw [List.length_map, List.length_map] at h
        exact h
      refine ⟨_, rfl, y, us, rfl, row_up sp1 row2, rfl, _, rfl, iteNS (by rw [ll, lu]) ?_⟩
      exact ⟨sp1 _ _ hma, bt.trans (But.of sp1), sp1 _ _ hd⟩
    rintro Ha ⟨hma, bt, hd⟩
    have sb6 := bt.back hm12
    refine ⟨hma, false, .inl ⟨[], .of (by rw [upd_ne nm6.symm]; exact hd), rfl⟩, iteF ?_⟩
    generalize hH13 : upd Ha m _ = H13
    have s13 : Same H12 H13 := by rw [← hH13]; exact sb6
    have s13H : Same H H13 := fun b o z => s13 b o (s12H b o z)
    clear hH13 sb6 hd bt hma free6 nm6 hD6
    have hm13 := s13H m _ hm
    have M13 := moves_up (Q9.Same.sq s13H) M
    -- the own moves
    refine ⟨_, rfl, _, rfl, m, .dT kvs, hm13, trivial, fun od7 => ⟨_, rfl, m, od7, kvs, rfl, upd_same, fun D7 hD7 => ?_⟩⟩
    have nm7 : m ≠ D7 := ne_of_none upd_same hD7
    have free7 : H13 D7 = none := by rw [upd_ne nm7.symm] at hD7; exact hD7
    refine coll_it walk_itemsT (fun i H' => H' m = some (.frz od7 (.dT kvs)) ∧ But m H13 H' ∧ ∃ (kvs' : List (List Key × V)) (mvs : Mv), H' D7 = some (.dT kvs') ∧ kvs'.map (·.1) = (kvs.take i).map (·.1) ∧ Paired (TupE K H') kvs' mvs ∧ Paired SortOf mvs (mv.take i)) ?_ (fun i H' _ p => p.1) ?_ ?_
    · exact ⟨by rw [upd_ne nm7]; exact upd_same, fun b o ne e => by rw [upd_ne (ne_of_none e free7), upd_ne ne]; exact e, [], [], upd_same, by simp, .nil, by simp; exact .nil⟩
    · rintro i y Ha Hb hi ⟨hma, bt, kvs', mvs, hd, ekeys, tups, so⟩ ⟨Tq, k0, v, q0, hk, rfl, hT, hq, rfl⟩
      obtain ⟨e, hev, ek, us, row, each⟩ := paired_at M13.ent i _ hk
      simp only at ek
      subst ek
      have he_mv := List.mem_of_getElem? hev
      have sT := same_upd (o := .tup [.ref q0, v]) hT
      have row2 := row_up sT (row_sq (bt.sq hm13) row)
      obtain ⟨ps, eps, eos, hps⟩ := outs_ps2 each
      have hps2 : ∀ p ∈ ps, SqT K (upd Ha Tq (.tup [.ref q0, v])) p.1 [.str p.2.1, .str p.2.2] := fun p hp => same_sqT sT (sqT_up (bt.sq hm13) (hps p hp))
      rw [eps] at row2
      refine ⟨Tq, _, rfl, .of upd_same, rfl, _, _, rfl, _, _, rfl, rfl, rfl, ?_⟩
      refine ⟨_, rfl, _, rfl, v, ps, rfl, row2, hps2, fun qs p pm up hp => ⟨p, _, rfl, .inl ⟨.of upd_same, fun l hl => ?_⟩⟩⟩
      have sp1 := same_upd (o := .lst ((qs.map (·.1)).map V.ref)) hp
      have sl := same_upd (o := .tup ((qs.map (·.1)).map V.ref)) hl
      generalize hHc : upd (upd (upd Ha Tq (.tup [.ref q0, v])) p _) l _ = Hc
      have sc : Same Ha Hc := by rw [← hHc]; exact fun b o z => sl b o (sp1 b o (sT b o z))
      have hlc : Hc l = some (.tup ((qs.map (·.1)).map V.ref)) := by rw [← hHc]; exact upd_same
      have hqs : ∀ x ∈ qs, SqT K Hc x.1 [.str x.2.1, .str x.2.2] := fun x hx => by
        rw [← hHc]
        exact same_sqT sl (same_sqT sp1 (hps2 x (pm.mem_iff.mp hx)))
      have lk : kvs'.length ≤ 1000000 := by
        have h := congrArg List.length ekeys
        rw [List.length_map, List.length_map, List.length_take] at h
        omega
      refine ⟨q0, [.inr e.1.1, .inr e.1.2], kvs', rfl, sc _ _ hq, sc _ _ hd, sz _ (by omega), ?_⟩
      have nk : valV kvs' [kInr e.1.1, kInr e.1.2] = none := by
        cases c : valV kvs' [kInr e.1.1, kInr e.1.2] with
        | none => rfl
        | some u =>
          unfold valV at c
          obtain ⟨kv, g1, g2⟩ := Option.map_eq_some_iff.mp c
          have g3 := List.mem_of_find?_eq_some g1
          have g4 : kv.1 = [kInr e.1.1, kInr e.1.2] := by simpa using List.find?_some g1
          have g5 : [kInr e.1.1, kInr e.1.2] ∈ (kvs.take i).map (·.1) := by rw [← ekeys, ← g4]; exact List.mem_map.mpr ⟨kv, g3, rfl⟩
          have nd := M.nd
          have e1 : kvs.take (i + 1) = kvs.take i ++ [([kInr e.1.1, kInr e.1.2], v)] := take_one_more hk
          have nd1 : ((kvs.take (i + 1)).map (·.1)).Nodup := by rw [List.map_take]; exact List.Sublist.nodup (List.take_sublist _ _) nd
          rw [e1, List.map_append, List.nodup_append] at nd1
          exact (nd1.2.2 _ g5 _ (List.mem_singleton.mpr rfl) rfl).elim
      have upE : ∀ x ∈ kvs', True := fun _ _ => trivial
      have ne7 : ∀ {b : Addr} {xs : List V}, Hc b = some (.tup xs) → b ≠ D7 := fun {b xs} h z => by rw [z, sc _ _ hd] at h; cases h
      have butD : ∀ u, But D7 Hc (upd Hc D7 u) := fun u => But.upd
      have tupsC : Paired (TupE K Hc) kvs' mvs := L2.Paired.mapP tups fun _ _ h => tupE_but (D := D7) (But.of sc) hd h
      refine ⟨by rw [upd_ne nm7]; exact sc _ _ hma, fun b o ne z => ?_, _, mvs ++ [(e.1, qs.map (·.2))], upd_same, ?_, ?_, ?_⟩
      · rw [upd_ne (ne_of_none z free7)]
        exact sc _ _ (bt b o ne z)
      · rw [putK_new _ nk, List.map_append, ekeys, take_one_more hk, List.map_append]
        rfl
      · rw [putK_new _ nk]
        refine paired_append (L2.Paired.mapP tupsC fun _ _ h => tupE_but (butD _) (sc _ _ hd) h) (.cons ?_ .nil)
        exact tupE_but (butD _) (sc _ _ hd) (show TupE K Hc ([kInr e.1.1, kInr e.1.2], .ref l) (e.1, qs.map (·.2)) from ⟨rfl, l, _, rfl, hlc, paired_outs hqs⟩)
      · rw [take_one_more hev]
        refine paired_append so (.cons ⟨rfl, ?_, up⟩ .nil)
        rw [← eos]
        exact pm.map _
    rintro Ha ⟨hma, bt, kvs', mvs, hd, ekeys, tups, so⟩
    rw [List.take_length] at ekeys
    rw [len, List.take_length] at so
    have sb7 := bt.back hm13
    have nd' : (kvs'.map (·.1)).Nodup := by rw [ekeys]; exact M.nd
    refine ⟨hma, (by show 3 ≤ sizeLine; decide), fun t nt => ?_⟩
    rcases way with ⟨_, right⟩ | ⟨nf, _⟩
    case inr =>
      exact (nf ⟨c8, fun ys nd sub => Nat.le_trans (nodup_le ys ss nd fun z hz => (tS.2.2 z).2 (sub z hz)) cb.1, fun zs nd sub => Nat.le_trans (nodup_le zs ms nd fun z hz => (tM.2.2 z).2 (sub z hz)) cb.2⟩).elim
    have st := same_upd (o := .tup [.ref sp, .ref mp, .ref D7]) nt
    have s14 : ∀ b o, H13 b = some o → (upd (upd Ha m (.dT kvs)) t (.tup [.ref sp, .ref mp, .ref D7])) b = some o := fun b o z => st b o (sb7 b o z)
    have hsp14 : H13 sp = some (.lst (ss.map V.str)) := s13 _ _ (s12 _ _ (s11 _ _ (s10 _ _ hsp)))
    have hmp14 : H13 mp = some (.lst (ms.map V.str)) := s13 _ _ (s12 _ _ (s11 _ _ hmp))
    refine right _ t sp mp D7 ss ms kvs' mvs (fun b o z => s14 b o (s13H b o z)) upd_same (s14 _ _ hsp14) tS (s14 _ _ hmp14) tM (st _ _ (by rw [upd_ne nm7.symm]; exact hd)) ?_ nsH nmH (by
      cases z : H D7 with
      | none => rfl
      | some o => rw [s13H _ _ z] at free7; cases free7)
    refine own_of nd' ?_ so c8
    have hmT : Ha m = some (.frz od7 (.dT kvs)) := hma
    refine L2.Paired.mapP tups fun kv e h => ?_
    obtain ⟨e1, t1, us, e2, e3, p⟩ := h
    have n1 : t1 ≠ m := fun z => by rw [z, hma] at e3; cases e3
    refine ⟨e1, t1, us, e2, st _ _ (by rw [upd_ne n1]; exact e3), L2.Paired.mapP p fun _ _ ⟨q, e, g⟩ => ⟨q, e, same_sqT st ?_⟩⟩
    rcases g with (g | ⟨o, g⟩) | g
    · exact .inl (.inl (by rw [upd_ne (fun z => by rw [z, hma] at g; cases g)]; exact g))
    · exact .inl (.inr ⟨o, by rw [upd_ne (fun z => by rw [z, hma] at g; cases g)]; exact g⟩)
    · exact .inr g
end
end Q9
end
-- QFldT
section
set_option maxRecDepth 100000
set_option maxHeartbeats 4000000
/-! o.f as a target among others -/
namespace Q9
open PySem L2
section
variable {X : Cx}
def gFld (K : PySem.W.Frag) (ta : TE) (f : Str) : TG := fun v σ H Q => ta σ H fun x H2 => ∃ a C dx fs, x = .ref a ∧ H2 a = some (.ins C dx fs) ∧ Cls K C ∧ NoAttr K C f ∧ fs.length < 1000 ∧ Q σ (upd H2 a (.ins C dx (putF f v fs)))
theorem pg_fld {o : Expr} {f : Str} {ta : TE} {pos : Pos} (ha : PE X o ta) : PG X (.Attribute o f pos) (gFld X.K ta f) := by
  refine ⟨fun pins s σ H v u Q I r h => ?_⟩
  rw [assign_Attribute]
  refine wpAny_bind (wpAny_holding (thn (ha.run pins s σ H _ I h) fun ov s2 ⟨x, H2, I2, rx, a, C, dx, fs, ex, ea, c, n, l, q2⟩ => ?_))
  subst ex
  obtain rfl : ov = Value.ref a := rx
  refine wpAny_bind (wpAny_standAt (wpAny_bind (wpAny_holding (setattr_ok I2 ea c n l r fun s3 I3 => ?_))))
  exact wpAny_release ⟨σ, _, I3, q2⟩
end
end Q9
end
-- QInit
section
set_option maxRecDepth 100000
set_option maxHeartbeats 4000000
namespace Q9
open PySem L2
/-- right parts are let by -/
def spCheckP (K : PySem.W.Frag) : Sp := fun vs H Q _ => ∃ (nm st : Str) (ex : V) (es : List Str), vs = [.str nm, .str st, ex] ∧ Row K H ex (es.map V.str) ∧ nameB nm = true ∧ nameB st = true ∧ (∀ z ∈ es, nameB z = true) ∧ es.Nodup ∧ es.length + 1 < scanBound ∧ ∀ H', Same H H' → Q .non H'
structure TCheckP (K : PySem.W.Frag) (mg : Str → Option Value) (fName fUn : Addr) : Prop where
  gN : mg "is_name" = some (.ref fName)
  kN : PySem.W.keepIn K (.ref fName) = true
  gU : mg "are_unlike_names" = some (.ref fUn)
  kU : PySem.W.keepIn K (.ref fUn) = true
structure TInit (K : PySem.W.Frag) (mg : Str → Option Value) (C fC fRd : Addr) : Prop where
  gC : mg "_check_parts" = some (.ref fC)
  kC : PySem.W.keepIn K (.ref fC) = true
  gR : mg "_read_moves" = some (.ref fRd)
  kR : PySem.W.keepIn K (.ref fRd) = true
  tup : mg "tuple" = none
  sorted : mg "sorted" = none
  cl : Cls K C
  nN : NoAttr K C "_name"
  nS : NoAttr K C "_start"
  nE : NoAttr K C "_ends"
  nSt : NoAttr K C "_states"
  nMe : NoAttr K C "_methods"
  nM : NoAttr K C "_moves"
abbrev initN : List Str := ["self", "name", "start", "ends", "moves"]
/-- a kind with the places of what is its own -/
structure KAf (C : Addr) (K : PySem.W.Frag) (s me m : Addr) (H : Hp) (x : Addr) (nm st : Str) (es : List Str) (mv : Mv) : Prop where
  ex : ∃ (dx e : Addr) (ys ss ms : List Str) (kvs : List (List Key × V)) (mvs : Mv), H x = some (.ins C dx (kflds nm st e s me m)) ∧ H e = some (.tup (ys.map V.str)) ∧ ys.Perm es ∧ Up ys ∧ H s = some (.lst (ss.map V.str)) ∧ Told (statesIn st es mv) ss ∧
    H me = some (.lst (ms.map V.str)) ∧ Told (methodsIn mv) ms ∧ H m = some (.dT kvs) ∧ OwnMv K H kvs mvs mv
  small : Small st es mv
  fits : Fits st es mv
  nd : (mv.map (·.1)).Nodup
theorem KAf.kac {C : Addr} {K : PySem.W.Frag} {s me m : Addr} {H : Hp} {x : Addr} {nm st : Str} {es : List Str} {mv : Mv} (h : KAf C K s me m H x nm st es mv) : KAc C K H x nm st es mv := by
  obtain ⟨⟨dx, e, ys, ss, ms, kvs, mvs, r⟩, a, b, c⟩ := h
  exact ⟨⟨dx, e, s, me, m, ys, ss, ms, kvs, mvs, r⟩, a, b, c⟩
/-- what is no list and no dict stands -/
def SameN (H H' : Hp) : Prop := ∀ b o, H b = some o → (∀ xs, o ≠ .lst xs) → (∀ kvs, o ≠ .dT kvs) → H' b = some o
theorem sqT_n {K : PySem.W.Frag} {H H' : Hp} (s : SameN H H') {q : Addr} {xs : List V} (h : SqT K H q xs) : SqT K H' q xs := by
  rcases h with (h | ⟨o', h⟩) | h
  · exact .inl (.inl (s _ _ h (fun _ z => nomatch z) (fun _ z => nomatch z)))
  · exact .inl (.inr ⟨o', s _ _ h (fun _ z => nomatch z) (fun _ z => nomatch z)⟩)
  · exact .inr h
theorem KAf.up {C : Addr} {K : PySem.W.Frag} {s me m : Addr} {H H' : Hp} {x : Addr} {nm st : Str} {es : List Str} {mv : Mv} (n : SameN H H') (a : ∀ b, (b = s ∨ b = me ∨ b = m) → ∀ o, H b = some o → H' b = some o) (h : KAf C K s me m H x nm st es mv) : KAf C K s me m H' x nm st es mv := by
  obtain ⟨⟨dx, e, ys, ss, ms, kvs, mvs, h1, h2, h3, h4, h5, t5, h6, t6, h7, O⟩, p, q, r⟩ := h
  refine ⟨⟨dx, e, ys, ss, ms, kvs, mvs, n _ _ h1 (fun _ z => nomatch z) (fun _ z => nomatch z), n _ _ h2 (fun _ z => nomatch z) (fun _ z => nomatch z), h3, h4, a _ (.inl rfl) _ h5, t5, a _ (.inr (.inl rfl)) _ h6, t6, a _ (.inr (.inr rfl)) _ h7, O.nd, ?_, O.eqm, O.outs, O.up, O.len⟩, p, q, r⟩
  exact L2.Paired.mapP O.tups fun _ _ ⟨e, t, vs, e1, e2, p⟩ => ⟨e, t, vs, e1, n _ _ e2 (fun _ z => nomatch z) (fun _ z => nomatch z), L2.Paired.mapP p fun _ _ ⟨q, e, g⟩ => ⟨q, e, sqT_n n g⟩⟩
def spKindF (C CB : Addr) (K : PySem.W.Frag) : Sp := fun vs H Q E => ∃ (x dx m : Addr) (nm st : Str) (ex : V) (es : List Str) (kvs : List (List Key × V)) (mv : Mv), vs = [.ref x, .str nm, .str st, ex, .ref m] ∧
  H x = some (.ins C dx []) ∧ H dx = some (.own x) ∧ Row K H ex (es.map V.str) ∧ H m = some (.dT kvs) ∧ Moves K H kvs mv ∧ RightParts nm st es mv ∧ Small st es mv ∧
  ((Fits st es mv ∧ ∀ (H' : Hp) (s me d : Addr), But x H H' → KAf C K s me d H' x nm st es mv → H s = none → H me = none → H d = none → Q .non H') ∨ (¬ Fits st es mv ∧ ∀ (H' : Hp) (d : Addr), But x H H' → H d = none → H' d = some (.xd [("part", .str "moves")]) → E (.ref CB) (some d) H'))
section
variable {P : Program} {w : World} {K : PySem.W.Frag} {mg : Str → Option Value} {base : Heap} {C CB fC fRd fName fUn fI : Addr}
theorem scCP : FnScope ["name", "start", "ends"] ["name", "start", "ends"] (defScope sCheckP) := ⟨rfl, rfl, rfl, by decide +kernel, rfl, by decide +kernel, by decide +kernel⟩
theorem ok_checkP {f : Addr} {fd dN dU dI : FuncData} (F : Fun K "_check_parts" "_check_parts" sCheckP f fd) (T : TCheckP K mg fName fUn) (TE : TErr K mg "BadKind" "part" CB fI)
    (GI : FnOk P w K mg base CX0 1 fI dI ["self", "part"] (spErrI CB "part")) (bI : Binds K dI ["self", "part"] [])
    (GN : FnOk P w K mg base CX0 2 fName dN ["thing"] (spForm K nameB)) (bN : Binds K dN ["thing"] []) (GU : FnOk P w K mg base CX0 3 fUn dU ["thing"] (spUnlike K nameB)) (bU : Binds K dU ["thing"] []) :
    FnOk P w K mg base (L2.CX P w) 4 f fd ["name", "start", "ends"] (spCheckP K) := by
  refine F.okX scCP (fun vs H Q E h => ?_) (fun cdv A outer s H vs Q E hr h => ?_)
  · obtain ⟨nm, st, ex, es, rfl, _⟩ := h
    rfl
  · obtain ⟨nm, st, ex, es, rfl, row, n1, n2, n3, un, few, q⟩ := h
    refine ⟨_, pss_cons (ps_if (pt_not (pt_val (pe_call GN (hr.mono (by decide)) (by rfl) T.gN T.kN bN .nil pass0 (pa_cons (pv 0) pa_nil)))) (pss_one (ps_raise rfl (takes_of rfl rfl rfl rfl) (pmk_oex TE.ox TE.iC TE.tI GI (hr.mono (by omega)) bI .nil pass0 (by rfl) TE.gC (pa_cons pe_str pa_nil)))) pss_nil)
      (pss_cons (ps_if (pt_not (pt_val (pe_call GN (hr.mono (by decide)) (by rfl) T.gN T.kN bN .nil pass0 (pa_cons (pv 1) pa_nil)))) (pss_one (ps_raise rfl (takes_of rfl rfl rfl rfl) (pmk_oex TE.ox TE.iC TE.tI GI (hr.mono (by omega)) bI .nil pass0 (by rfl) TE.gC (pa_cons pe_str pa_nil)))) pss_nil)
      (pss_one (ps_if (pt_not (pt_val (pe_call GU (hr.mono (by decide)) (by rfl) T.gU T.kU bU .nil pass0 (pa_cons (pv 2) pa_nil)))) (pss_one (ps_raise rfl (takes_of rfl rfl rfl rfl) (pmk_oex TE.ox TE.iC TE.tI GI (hr.mono (by omega)) bI .nil pass0 (by rfl) TE.gC (pa_cons pe_str pa_nil)))) pss_nil))), ?_⟩
    refine ⟨_, rfl, .str nm, rfl, .inl ⟨nm, rfl, name_len n1, fun H1 s1 => ⟨_, rfl, ?_⟩⟩⟩
    rw [n1]
    refine iteF ⟨_, rfl, .str st, rfl, .inl ⟨st, rfl, name_len n2, fun H2 s2 => ⟨_, rfl, ?_⟩⟩⟩
    rw [n2]
    have s12 : Same H H2 := fun b o z => s2 b o (s1 b o z)
    refine iteF ⟨_, rfl, ex, es, rfl, row_up s12 row, fun z hz => name_len (n3 z hz), few, fun H3 s3 => ⟨_, rfl, ?_⟩⟩
    have e : (es.all nameB && decide es.Nodup) = true := by rw [decide_eq_true un, Bool.and_true, List.all_eq_true]; exact n3
    rw [e]
    exact iteF (q H3 fun b o z => s3 b o (s12 b o z))
theorem butIns {H H' : Hp} {x dx C : Addr} {fs : List (Str × V)} (b : But x H H') (hx : H x = some (.ins C dx fs)) : SameSq H H' := by
  have ne : ∀ c o, H c = some o → o ≠ .ins C dx fs → c ≠ x := fun c o e n z => by
    rw [z, hx] at e
    exact n (Option.some.inj e).symm
  exact ⟨fun c xs e => b c _ (ne c _ e fun z => nomatch z) e, fun c xs e => b c _ (ne c _ e fun z => nomatch z) e, fun c o u e => b c _ (ne c _ e fun z => nomatch z) e⟩
theorem ownMv_sq {K : PySem.W.Frag} {H H' : Hp} (keep : ∀ t vs, H t = some (.tup vs) → H' t = some (.tup vs)) (s : SameSq H H') {kvs : List (List Key × V)} {mvs mv : Mv} (h : OwnMv K H kvs mvs mv) : OwnMv K H' kvs mvs mv :=
  ⟨h.nd, L2.Paired.mapP h.tups fun _ _ ⟨e, t, vs, e1, e2, p⟩ => ⟨e, t, vs, e1, keep _ _ e2, L2.Paired.mapP p fun _ _ ⟨q, e, g⟩ => ⟨q, e, sqT_up s g⟩⟩, h.eqm, h.outs, h.up, h.len⟩
theorem keys_nodup_of {K : PySem.W.Frag} {H : Hp} {kvs : List (List Key × V)} {mvs : Mv} (M : Moves K H kvs mvs) : (mvs.map (·.1)).Nodup := by
  have e : kvs.map (·.1) = mvs.map fun e => keyOf e.1 := by
    have key : ∀ {kvs : List (List Key × V)} {mvs : Mv}, Paired (EntT K H) kvs mvs → kvs.map (·.1) = mvs.map fun e => keyOf e.1 := by
      intro kvs mvs p
      induction p with
      | nil => rfl
      | @cons kv e a b h t ih => rw [List.map_cons, List.map_cons, ih, h.1]; rfl
    exact key M.ent
  have nd := M.nd
  rw [e] at nd
  refine List.pairwise_map.mpr (List.Pairwise.imp (fun {a b} ne e => ne ?_) (List.pairwise_map.mp nd))
  rw [e]
theorem putF_le {f : Str} {v : V} {fs : List (Str × V)} {n : Nat} (h : fs.length ≤ n) : (putF f v fs).length ≤ n + 1 := Nat.le_trans (length_putF f v fs) (Nat.succ_le_succ h)
theorem scK0 : FnScope initN kindPs (defScope (kMeth 0)) := ⟨rfl, rfl, rfl, by decide +kernel, rfl, by decide +kernel, by decide +kernel⟩
theorem ok_initF {f : Addr} {fd dC dR : FuncData} (F : Fun K "__init__" "Kind.__init__" (kMeth 0) f fd) (T : TInit K mg C fC fRd) (G : FnOk P w K mg base (L2.CX P w) 4 fC dC ["name", "start", "ends"] (spCheckP K)) (b : Binds K dC ["name", "start", "ends"] [])
    (GR : FnOk P w K mg base (L2.CX P w) 5 fRd dR ["moves", "start", "ends"] (spRead CB K)) (bR : Binds K dR ["moves", "start", "ends"] []) :
    FnOk P w K mg base (L2.CX P w) 6 f fd kindPs (spKindF C CB K) := by
  refine F.okX scK0 (fun vs H Q E h => ?_) (fun cdv A outer s H vs Q E hr h => ?_)
  · obtain ⟨x, dx, m, nm, st, ex, es, kvs, mv, rfl, _⟩ := h
    rfl
  · obtain ⟨x, dx, m, nm, st, ex, es, kvs, mv, rfl, hx, hd, he, hm, M, R, S, way⟩ := h
    refine ⟨_, pss_cons (ps_expr (pe_call G (hr.mono (by decide)) (by rfl) T.gC T.kC b .nil pass0X (pa_cons (pv 1) (pa_cons (pv 2) (pa_cons (pv 3) pa_nil)))))
      (pss_cons (ps_fld (pv 0) (pv 1) rfl)
      (pss_cons (ps_fld (pv 0) (pv 2) rfl)
      (pss_cons (ps_fld (pv 0) (pe_callTy cr_tupOf (by rfl) T.tup (by decide +kernel) (pa_cons (pe_callB cr_sortedRs (by rfl) T.sorted (by decide +kernel) (pa_cons (pv 3) pa_nil)) pa_nil)) rfl)
      (pss_one (ps_asg (pe_callS GR hr (by rfl) T.gR T.kR bR (fun σ => passAt (takes_of rfl rfl rfl rfl) σ) (pa_cons (pv 4) (pa_cons (pv 2) (pa_cons (pv 3) pa_nil))))
        (pg_tup rfl (pgs_cons (pg_fld (pv 0)) (pgs_cons (pg_fld (pv 0)) (pgs_cons (pg_fld (pv 0)) pgs_nil))))))))), ?_⟩
    have fewE : es.length + 1 < scanBound := by
      have h := S.states (es.map kInr) ((nodup_map_inr es).2 R.unlike) fun k hk => by
        obtain ⟨z, h1, h2⟩ := List.mem_map.mp hk
        exact List.mem_map.mpr ⟨z, mem_states.mpr (.inr (.inl h1)), h2⟩
      rwa [List.length_map] at h
    refine ⟨_, rfl, _, rfl, _, rfl, nm, st, ex, es, rfl, he, R.name, R.start, R.ends, R.unlike, fewE, fun H1 s1 => ?_⟩
    refine ⟨_, rfl, _, rfl, x, C, dx, _, rfl, s1 _ _ hx, T.cl, T.nN, by decide, ?_⟩
    refine ⟨_, rfl, _, rfl, x, C, dx, _, rfl, upd_same, T.cl, T.nS, Nat.lt_of_le_of_lt (putF_le (Nat.le_refl _)) (by decide), ?_⟩
    generalize hH2 : upd (upd H1 x _) x _ = H2
    have b2 : But x H H2 := by rw [← hH2]; exact fun b o ne z => by rw [upd_ne ne, upd_ne ne]; exact s1 b o z
    have hx2 : H2 x = some (.ins C dx (putF "_start" (.str st) (putF "_name" (.str nm) []))) := by rw [← hH2]; exact upd_same
    clear hH2
    refine ⟨_, rfl, ex, es, rfl, row_sq (butIns b2 hx) he, fun ys p pm up hp => ⟨p, _, rfl, .inl ⟨.of upd_same, fun l hl => ?_⟩⟩⟩
    have sp := same_upd (o := .lst (ys.map V.str)) hp
    have sl := same_upd (o := .tup (ys.map V.str)) hl
    have hx3 : upd (upd H2 p (.lst (ys.map V.str))) l (.tup (ys.map V.str)) x = some (.ins C dx (putF "_start" (.str st) (putF "_name" (.str nm) []))) := sl _ _ (sp _ _ hx2)
    refine ⟨_, rfl, x, C, dx, _, rfl, hx3, T.cl, T.nE, Nat.lt_of_le_of_lt (putF_le (putF_le (Nat.le_refl _))) (by decide), ?_⟩
    have nlx : l ≠ x := fun z => by rw [← z] at hx2; rw [sp _ _ hx2] at hl; cases hl
    generalize hH4 : upd (upd (upd H2 p (.lst (ys.map V.str))) l (.tup (ys.map V.str))) x _ = H4
    have b4 : But x H H4 := by rw [← hH4]; exact fun b o ne z => by rw [upd_ne ne]; exact sl _ _ (sp _ _ (b2 b o ne z))
    have hx4 : H4 x = some (.ins C dx (putF "_ends" (.ref l) (putF "_start" (.str st) (putF "_name" (.str nm) [])))) := by rw [← hH4]; exact upd_same
    have hl4 : H4 l = some (.tup (ys.map V.str)) := by rw [← hH4, upd_ne nlx]; exact upd_same
    clear hH4 hx3 sp sl hl hp
    have nmx : m ≠ x := fun z => by rw [z, hx] at hm; cases hm
    have sq4 := butIns b4 hx
    refine ⟨_, rfl, _, rfl, _, rfl, m, nm, st, ex, es, kvs, mv, rfl, row_sq sq4 he, b4 _ _ nmx hm, moves_up sq4 M, R, S, ?_⟩
    rcases way with ⟨ft, right⟩ | ⟨nf, wrong⟩
    · refine .inl ⟨ft, fun H5 t s5 me d ss ms kvs' mvs sm ht hs tS hme tM hd5 own f1 f2 f3 => ?_⟩
      have hx5 := sm _ _ hx4
      have hl5 := sm _ _ hl4
      refine ⟨t, _, rfl, .of ht, rfl, _, _, rfl, ⟨_, rfl, x, C, dx, _, rfl, hx5, T.cl, T.nSt, Nat.lt_of_le_of_lt (putF_le (putF_le (putF_le (Nat.le_refl _)))) (by decide), _, _, rfl, ⟨_, rfl, x, C, dx, _, rfl, upd_same, T.cl, T.nMe, Nat.lt_of_le_of_lt (putF_le (putF_le (putF_le (putF_le (Nat.le_refl _))))) (by decide), _, _, rfl, ⟨_, rfl, x, C, dx, _, rfl, upd_same, T.cl, T.nM, Nat.lt_of_le_of_lt (putF_le (putF_le (putF_le (putF_le (putF_le (Nat.le_refl _)))))) (by decide), rfl, ?_⟩⟩⟩⟩
      have old : ∀ {b : Addr}, H4 b = none → H b = none := fun {b} h => by
        cases z : H b with
        | none => rfl
        | some o =>
          by_cases c : b = x
          · rw [c, hx4] at h; cases h
          · rw [b4 _ _ c z] at h; cases h
      have far : ∀ {b : Addr} {o : HO}, H5 b = some o → (∀ cx fs, o ≠ .ins C cx fs) → b ≠ x := fun {b o} h n z => by
        rw [z, hx5] at h
        exact n _ _ (Option.some.inj h).symm
      have keep : ∀ {b : Addr} {o : HO} (u1 u2 u3 : HO), H5 b = some o → (∀ cx fs, o ≠ .ins C cx fs) → upd (upd (upd H5 x u1) x u2) x u3 b = some o := fun {b o} u1 u2 u3 h n => by
        have ne := far h n
        rw [upd_ne ne, upd_ne ne, upd_ne ne]
        exact h
      refine right _ s5 me d (fun b o ne z => by rw [upd_ne ne, upd_ne ne, upd_ne ne]; exact sm b o (b4 b o ne z)) ⟨⟨dx, l, ys, ss, ms, kvs', mvs, upd_same, keep _ _ _ hl5 (fun _ _ z => nomatch z), pm, up, keep _ _ _ hs (fun _ _ z => nomatch z), tS, keep _ _ _ hme (fun _ _ z => nomatch z), tM, keep _ _ _ hd5 (fun _ _ z => nomatch z), ?_⟩, S, ft, keys_nodup_of M⟩ (old f1) (old f2) (old f3)
      have b5 : ∀ u1 u2 u3 : HO, But x H5 (upd (upd (upd H5 x u1) x u2) x u3) := fun u1 u2 u3 b o ne z => by rw [upd_ne ne, upd_ne ne, upd_ne ne]; exact z
      exact ownMv_sq (fun t vs h => keep _ _ _ h (fun _ _ z => nomatch z)) (butIns (b5 _ _ _) hx5) own
    · refine .inr ⟨nf, fun H5 d sm hn at_ => ?_⟩
      refine wrong H5 d (fun b o ne z => sm b o (b4 b o ne z)) ?_ at_
      cases h : H d with
      | none => rfl
      | some o =>
        by_cases c : d = x
        · rw [c, hx4] at hn; cases hn
        · rw [b4 _ _ c h] at hn; cases hn
theorem ok_init {f : Addr} {fd dC dR : FuncData} (F : Fun K "__init__" "Kind.__init__" (kMeth 0) f fd) (T : TInit K mg C fC fRd) (G : FnOk P w K mg base (L2.CX P w) 4 fC dC ["name", "start", "ends"] (spCheckP K)) (b : Binds K dC ["name", "start", "ends"] [])
    (GR : FnOk P w K mg base (L2.CX P w) 5 fRd dR ["moves", "start", "ends"] (spRead CB K)) (bR : Binds K dR ["moves", "start", "ends"] []) :
    FnOk P w K mg base (L2.CX P w) 6 f fd kindPs (spKindI C CB K (KAc C K)) := by
  refine (ok_initF F T G b GR bR).imp ?_
  rintro vs H Q E ⟨x, dx, m, nm, st, ex, es, kvs, mv, a, b, c, d, e, g, h, i, way⟩
  refine ⟨x, dx, m, nm, st, ex, es, kvs, mv, a, b, c, d, e, g, h, i, way.imp (fun ⟨ft, r⟩ => ⟨ft, fun H' s me d bt kf _ _ _ => r H' bt kf.kac⟩) id⟩
end
end Q9
end
-- QRdG
section
set_option maxRecDepth 100000
set_option maxHeartbeats 4000000
namespace Q9
open PySem L2
/-! moves whose outcomes are tuples or lists -/
def OutG (K : PySem.W.Frag) (H : Hp) (v : V) (o : Str × Str) : Prop := ∃ q, v = .ref q ∧ (SqL K H q [.str o.1, .str o.2] ∨ SqT K H q [.str o.1, .str o.2])
def OutsG (K : PySem.W.Frag) (H : Hp) (v : V) (os : List (Str × Str)) : Prop := ∃ vs, Row K H v vs ∧ Paired (OutG K H) vs os
def EntG (K : PySem.W.Frag) (H : Hp) (kv : List Key × V) (e : (Str × Str) × List (Str × Str)) : Prop := kv.1 = [.inr e.1.1, .inr e.1.2] ∧ OutsG K H kv.2 e.2
structure MovesG (K : PySem.W.Frag) (H : Hp) (kvs : List (List Key × V)) (mv : Mv) : Prop where
  nd : (kvs.map (·.1)).Nodup
  ent : Paired (EntG K H) kvs mv
theorem Moves.g {K : PySem.W.Frag} {H : Hp} {kvs : List (List Key × V)} {mv : Mv} (M : Moves K H kvs mv) : MovesG K H kvs mv :=
  ⟨M.nd, L2.Paired.mapP M.ent fun _ _ ⟨e, vs, r, p⟩ => ⟨e, vs, r, L2.Paired.mapP p fun _ _ ⟨q, e, h⟩ => ⟨q, e, .inr h⟩⟩⟩
theorem outG_up {K : PySem.W.Frag} {H H' : Hp} (s : Same H H') {v : V} {o : Str × Str} (h : OutG K H v o) : OutG K H' v o := by
  obtain ⟨q, e, h⟩ := h
  exact ⟨q, e, h.imp (sqL_up (Q9.Same.sq s)) (sqT_up (Q9.Same.sq s))⟩
theorem outsG_up {K : PySem.W.Frag} {H H' : Hp} (s : Same H H') {v : V} {os : List (Str × Str)} (h : OutsG K H v os) : OutsG K H' v os := by
  obtain ⟨vs, r, p⟩ := h
  exact ⟨vs, row_up s r, L2.Paired.mapP p fun _ _ h => outG_up s h⟩
theorem movesG_up {K : PySem.W.Frag} {H H' : Hp} (s : Same H H') {kvs : List (List Key × V)} {mv : Mv} (M : MovesG K H kvs mv) : MovesG K H' kvs mv :=
  ⟨M.nd, L2.Paired.mapP M.ent fun _ _ ⟨e, h⟩ => ⟨e, outsG_up s h⟩⟩
def spAreRowsG (K : PySem.W.Frag) : Sp := fun vs H Q _ => ∃ (m : Addr) (kvs : List (List Key × V)) (mv : Mv), vs = [.ref m] ∧ H m = some (.dT kvs) ∧ MovesG K H kvs mv ∧ kvs.length ≤ 1000000 ∧
  ∀ H', Same H H' → Q (.bl (decide (∀ e ∈ mv, e.2.length ≤ 8))) H'
/-- those that are tuples, in one list -/
def spPairsG (K : PySem.W.Frag) : Sp := fun vs H Q _ => ∃ (r : Addr) (rows : List V) (oss : List (List (Str × Str))), vs = [.ref r] ∧ SqL K H r rows ∧ Paired (OutsG K H) rows oss ∧ oss.flatten.length ≤ 1000000 ∧
  ∀ (H' : Hp) (p : Addr) (vs : List V), Same H H' → H' p = some (.lst vs) → vs.length ≤ oss.flatten.length → (vs.length = oss.flatten.length → Paired (OutT K H') vs oss.flatten ∧ Paired (OutsT K H') rows oss) → Q (.ref p) H'
theorem sqL_ty {K : PySem.W.Frag} {H : Hp} {a : Addr} {xs : List V} (h : SqL K H a xs) : TyX K H (.ref a) (.type "list") := by
  rcases h with (h | ⟨o, h⟩) | ⟨o, its, n, h1, h2, _⟩
  · exact .base (.lst h)
  · exact .base (.frz h)
  · exact .kList h1 h2
section
variable {P : Program} {w : World} {K : PySem.W.Frag} {mg : Str → Option Value} {base : Heap} {fKey : Addr}
theorem ok_areRowsG {f : Addr} {fd dK : FuncData} (F : Fun K "_are_rows" "_are_rows" sAreRows f fd) (T : TRead K mg fKey) (GK : FnOk P w K mg base CX0 1 fKey dK ["thing"] (spIsKey K)) (bK : Binds K dK ["thing"] []) : FnOk P w K mg base CX0 2 f fd ["moves"] (spAreRowsG K) := by
  refine F.ok scAR (fun vs H Q E h => ?_) (fun cdv A outer s H vs Q E hr h => ?_)
  · obtain ⟨m, kvs, mv, rfl, _⟩ := h
    rfl
  · obtain ⟨m, kvs, mv, rfl, hm, M, few, q⟩ := h
    obtain ⟨to, ho⟩ := T.outcomes
    refine ⟨_, pss_cons (ps_if (PW.pt (pw_or (pt_not (pt_val (pe_callB call_isi (by rfl) T.isi (by decide +kernel) (pa_cons (pv 0) (pa_cons (pe_bltn (v := .ty "dict") (by rfl) T.dict (by decide +kernel) rfl) pa_nil)))))
        (pw_or1 (pt_not (pt_val (pe_callB (cr_all rfl) (by rfl) T.all (by decide +kernel) (pa_cons
          (pe_lock (pe_lc (own := [("key", 1)]) (g := gName 1) (tt := tYes) rfl scAR.nd (pi_keys (pv 0)) (blkOk_by (own := [("key", 1)]) (N := arN) (sc := defScope sAreRows) (by decide +kernel))
            (fun _ _ _ _ _ => pg_name (i := 1) scAR.nd rfl (.inl rfl)) (fun _ _ _ _ _ => pts_nil) (fun _ _ _ _ _ => pe_call GK hr (by rfl) T.gKey T.kKey bK .nil pass0 (pa_cons (pv 1) pa_nil)))) pa_nil)))))))
        (pss_one (ps_ret pe_bl)) pss_nil)
      (pss_one (ps_ret (pe_notT (pe_lock (pe_lc (own := [("row", 2)]) (g := gName 2) (te := tVar 2) rfl scAR.nd (pi_valuesT (pv 0)) (blkOk_by (own := [("row", 2)]) (N := arN) (sc := defScope sAreRows) (by decide +kernel))
            (fun _ _ _ _ _ => pg_name (i := 2) scAR.nd rfl (.inl rfl))
            (fun _ _ _ _ _ => pts_one (PW.pt (pw_or (pt_not (pt_val (pe_callB (id := "isinstance") (r := rIsiT K) call_isiT (by rfl) T.isi (by decide +kernel) (pa_cons (pv 2) (pa_cons (pe_tup (pa_cons (pe_bltn (v := .ty "list") (by rfl) T.lst (by decide +kernel) rfl) (pa_cons (pe_bltn (v := .ty "tuple") (by rfl) T.tup (by decide +kernel) rfl) pa_nil))) pa_nil)))))
              (pw_or1 (pt_cmpR op_gt (pe_callB (id := "len") (r := rLenRow K) cr_lenRow (by rfl) T.len (by decide +kernel) (pa_cons (pv 2) pa_nil)) (pe_glob (v := .int 8) (by rfl) ho ⟨_, rfl⟩) (nomark _))))))
            (fun _ _ _ _ _ => pv 2)))))), ?_⟩
    refine ⟨_, rfl, _, _, _, _, true, rfl, .ty _, .base (.dT hm), kit_ty (by decide +kernel), true, rfl, iteF ?_⟩
    refine ⟨m, .dT kvs, hm, trivial, fun od => ?_⟩
    refine ⟨_, rfl, m, od, rfl, .inr ⟨kvs, upd_same, fun D hD => ?_⟩⟩
    have len : kvs.length = mv.length := PySem.Paired.length M.ent
    have nmD : m ≠ D := ne_of_none upd_same hD
    have freeD : H D = none := by rw [upd_ne nmD.symm] at hD; exact hD
    refine lc_it walk_keysT (fun i H' => H' m = some (.frz od (.dT kvs)) ∧ But m H H' ∧ H' D = some (.lst ((List.replicate i true).map V.bl))) ?_ (fun i H' _ p => p.1) ?_ ?_
    · exact ⟨by rw [upd_ne nmD]; exact upd_same, fun b o ne e => by rw [upd_ne (ne_of_none e freeD), upd_ne ne]; exact e, upd_same⟩
    · rintro i y H1 H2 hi ⟨hm1, bt, hd⟩ ⟨rfl, k0, v, qa, hk, rfl, hq⟩
      obtain ⟨e, hev, ek, _⟩ := paired_at M.ent i _ hk
      simp only at ek
      subst ek
      have hq' : H2 qa = some (.tup [.str e.1.1, .str e.1.2]) := hq
      refine ⟨rfl, _, rfl, .ref qa, rfl, .inr (.inr ⟨qa, _, _, true, true, rfl, .of hq', txt_yes _, txt_yes _, _, hd, ?_, ?_, fun b o ne z => ?_, ?_⟩)⟩
      · rw [List.length_map, List.length_replicate]; exact ln6 _ (by omega)
      · rw [upd_ne nmD]; exact hm1
      · rw [upd_ne (ne_of_none z freeD)]; exact bt b o ne z
      · rw [upd_same, List.replicate_succ', List.map_append]; rfl
    · rintro H1 ⟨hm1, bt, hd⟩
      have sb := bt.back hm
      refine ⟨hm1, D, _, rfl, .of (by rw [upd_ne nmD.symm]; exact hd), _, rfl, ?_⟩
      have e1 : (List.replicate kvs.length true).all id = true := by rw [List.all_eq_true]; intro x hx; exact (List.mem_replicate.mp hx).2
      rw [e1]
      refine iteF ?_
      generalize hG : upd H1 m (.dT kvs) = G at sb
      have hmG := sb m _ hm
      have MG := movesG_up sb M
      refine ⟨m, .dT kvs, hmG, trivial, fun od2 => ?_⟩
      refine ⟨_, rfl, m, od2, kvs, rfl, upd_same, fun D2 hD2 => ?_⟩
      have nmD2 : m ≠ D2 := ne_of_none upd_same hD2
      have freeD2 : G D2 = none := by rw [upd_ne nmD2.symm] at hD2; exact hD2
      refine lc_it walk_valuesT (fun i H' => H' m = some (.frz od2 (.dT kvs)) ∧ But m G H' ∧ ∃ acc, H' D2 = some (.lst acc) ∧ acc.length ≤ i ∧ (acc = [] ↔ ∀ e ∈ mv.take i, e.2.length ≤ 8)) ?_ (fun i H' _ p => p.1) ?_ ?_
      · exact ⟨by rw [upd_ne nmD2]; exact upd_same, fun b o ne e => by rw [upd_ne (ne_of_none e freeD2), upd_ne ne]; exact e, [], upd_same, Nat.le_refl _, by simp⟩
      · rintro i y H2 H3 hi ⟨hm2, bt2, acc, hacc, la, iff⟩ ⟨rfl, k0, hk⟩
        obtain ⟨e, hev, ek, vs, row, each⟩ := paired_at MG.ent i _ hk
        have row2 := row_sq (bt2.sq hmG) row
        have ll : vs.length = e.2.length := PySem.Paired.length each
        refine ⟨rfl, _, rfl, (by show 2 ≤ sizeLine; decide), fun t ht => ?_⟩
        have st := same_upd (o := .tup [.ty "list", .ty "tuple"]) ht
        have row3 := row_up st row2
        have pr : Paired ClsV [V.ty "list", V.ty "tuple"] [Value.type "list", Value.type "tuple"] := .cons (.ty _) (.cons (.ty _) .nil)
        have isrow : ∃ t0, TyX K (upd H3 t (.tup [.ty "list", .ty "tuple"])) y t0 ∧ PySem.W.kitAny K t0 [Value.type "list", Value.type "tuple"] = some true := by
          rcases row_ty row3 with ty | ty
          · exact ⟨_, ty, kitAny_cons (b := true) (kit_ty (by decide +kernel)) (fun z => nomatch z) fun _ => rfl⟩
          · exact ⟨_, ty, kitAny_cons (b := false) (kit_ty (by decide +kernel)) (fun _ => kitAny_cons (b := true) (kit_ty (by decide +kernel)) (fun z => nomatch z) fun _ => rfl) (fun z => nomatch z)⟩
        obtain ⟨t0, ty, kt⟩ := isrow
        refine ⟨y, t, _, _, _, true, rfl, upd_same, pr, ty, kt, true, rfl, iteF ?_⟩
        refine ⟨_, rfl, y, vs, rfl, row3, _, _, rfl, rfl, _, rfl, ?_⟩
        have bt3 : But m G (upd H3 t (.tup [.ty "list", .ty "tuple"])) := bt2.trans (But.of st)
        have tk1 : ∀ P : (Str × Str) × List (Str × Str) → Prop, (∀ x ∈ mv.take (i + 1), P x) ↔ ((∀ x ∈ mv.take i, P x) ∧ P e) := fun P => by
          rw [take_one_more hev]
          constructor
          · intro h
            exact ⟨fun x hx => h x (List.mem_append_left _ hx), h e (List.mem_append_right _ (List.mem_singleton.mpr rfl))⟩
          · rintro ⟨h1, h2⟩ x hx
            rcases List.mem_append.mp hx with hx | hx
            · exact h1 x hx
            · rw [List.mem_singleton.mp hx]; exact h2
        by_cases c : e.2.length ≤ 8
        · have c1 : decide ((8 : Int) < (vs.length : Int)) = false := decide_eq_false (by omega)
          rw [c1]
          refine iteF ⟨st _ _ hm2, bt3, acc, st _ _ hacc, by omega, ?_⟩
          rw [tk1, iff]
          exact ⟨fun h => ⟨h, c⟩, fun h => h.1⟩
        · have c1 : decide ((8 : Int) < (vs.length : Int)) = true := decide_eq_true (by omega)
          rw [c1]
          refine iteT ⟨_, rfl, acc, st _ _ hacc, ln6 _ (by omega), ?_, fun b o ne z => ?_, _, upd_same, ?_, ?_⟩
          · rw [upd_ne nmD2]; exact st _ _ hm2
          · rw [upd_ne (ne_of_none z freeD2)]; exact bt3 b o ne z
          · rw [List.length_append, List.length_singleton]; omega
          · rw [tk1]
            exact ⟨fun h => absurd h (by simp), fun h => absurd h.2 c⟩
      · rintro H2 ⟨hm2, bt2, acc, hacc, la, iff⟩
        rw [len, List.take_length] at iff
        have sb2 := bt2.back hmG
        refine ⟨hm2, _, .inl ⟨acc, .of (by rw [upd_ne nmD2.symm]; exact hacc), rfl⟩, ?_⟩
        have e2 : (!(!acc.isEmpty)) = decide (∀ e ∈ mv, e.2.length ≤ 8) := by
          rw [Bool.not_not, Bool.eq_iff_iff, List.isEmpty_iff, decide_eq_true_iff]
          exact iff
        rw [e2]
        exact q _ fun b o z => sb2 b o (sb b o z)
theorem ok_pairsG {f : Addr} {fd : FuncData} (F : Fun K "_pairs_of_texts" "_pairs_of_texts" sPairs f fd) (T : TRead K mg fKey) : FnOk P w K mg base CX0 1 f fd ["rows"] (spPairsG K) := by
  refine F.ok scPa (fun vs H Q E h => ?_) (fun cdv A outer s H vs Q E hr h => ?_)
  · obtain ⟨r, rows, oss, rfl, _⟩ := h
    rfl
  · obtain ⟨r, rows, oss, rfl, hr0, each, few, q⟩ := h
    refine ⟨_, pss_one (ps_ret (pe_lc2 (own := [("row", 1), ("one", 2)]) (vs1 := [2]) (g := gName 1) (tt := tYes) (wi1 := iRowB K (tVar 1)) (g1 := gName 2) (te := tVar 2) rfl scPa.nd (pi_list (pv 0)) (blkOk_by (own := [("row", 1), ("one", 2)]) (N := paN) (sc := defScope sPairs) (by decide +kernel)) (by decide)
      (fun _ _ _ _ _ => pg_name (i := 1) scPa.nd rfl (.inl rfl)) (fun _ _ _ _ _ => pts_nil) (fun _ _ _ _ _ => pi_rowB (pv 1)) (fun _ _ _ _ _ => pg_name (i := 2) scPa.nd rfl (.inl rfl))
      (fun _ _ _ _ _ => pts_one (PW.pt (pw_and (pt_val (pe_callB (id := "isinstance") (r := rIsi K) call_isi (by rfl) T.isi (by decide +kernel) (pa_cons (pv 2) (pa_cons (pe_bltn (v := .ty "tuple") (by rfl) T.tup (by decide +kernel) rfl) pa_nil))))
        (pw_and (pt_cmpR op_eq (pe_callB (id := "len") (r := rLenRow K) cr_lenRow (by rfl) T.len (by decide +kernel) (pa_cons (pv 2) pa_nil)) pe_int (nomark _))
        (pw_and (pt_val (pe_callB (id := "isinstance") (r := rIsi K) call_isi (by rfl) T.isi (by decide +kernel) (pa_cons (pe_ix (r := rIxT K) ix_tup (pv 2) pe_int (fun _ _ => rfl)) (pa_cons (pe_bltn (v := .ty "str") (by rfl) T.str (by decide +kernel) rfl) pa_nil))))
        (pw_and1 (pt_val (pe_callB (id := "isinstance") (r := rIsi K) call_isi (by rfl) T.isi (by decide +kernel) (pa_cons (pe_ix (r := rIxT K) ix_tup (pv 2) pe_int (fun _ _ => rfl)) (pa_cons (pe_bltn (v := .ty "str") (by rfl) T.str (by decide +kernel) rfl) pa_nil))))))))))
      (fun _ _ _ _ _ => pv 2))), ?_⟩
    refine ⟨_, rfl, r, rfl, ⟨_, hr0⟩, fun D hD => ?_⟩
    have lr : rows.length = oss.length := PySem.Paired.length each
    have flat : ∀ i, (oss.take i).flatten.length ≤ 1000000 := fun i => by
      refine Nat.le_trans ?_ few
      conv => rhs; rw [← List.take_append_drop i oss, List.flatten_append, List.length_append]
      exact Nat.le_add_right _ _
    refine turns_it (walk_list (xs := rows)) (fun i H' => Same H H' ∧ ∃ vs, H' D = some (.lst vs) ∧ vs.length ≤ (oss.take i).flatten.length ∧ (vs.length = (oss.take i).flatten.length → Paired (OutT K H) vs (oss.take i).flatten ∧ Paired (OutsT K H) (rows.take i) (oss.take i))) ⟨same_upd hD, [], upd_same, by simp, fun _ => ⟨by simp; exact .nil, by simp; exact .nil⟩⟩ (fun i H' _ p => sqL_up (Q9.Same.sq p.1) hr0) ?_ ?_
    · rintro i y H1 H2 hi ⟨s1, vs, hvs, lv, pvs⟩ ⟨rfl, hy⟩
      obtain ⟨os, hos, us, row, eo⟩ := paired_at each i _ hy
      have lu : us.length = os.length := PySem.Paired.length eo
      have fl := flat (i + 1)
      have efl : (oss.take (i + 1)).flatten = (oss.take i).flatten ++ os := by rw [take_one_more hos, List.flatten_append]; simp
      rw [efl, List.length_append] at fl
      refine ⟨rfl, _, rfl, us, H, row, s1, fun J G hG wk => ?_⟩
      refine turns_it wk (fun j H' => Same H H' ∧ ∃ acc, H' D = some (.lst acc) ∧ acc.length ≤ (oss.take i).flatten.length + (os.take j).length ∧ (acc.length = (oss.take i).flatten.length + (os.take j).length → Paired (OutT K H) acc ((oss.take i).flatten ++ os.take j) ∧ Paired (OutsT K H) (rows.take i) (oss.take i) ∧ Paired (OutT K H) (us.take j) (os.take j)))
        ⟨s1, vs, hvs, by simpa using lv, fun h => by
          obtain ⟨a, b⟩ := pvs (by simpa using h)
          exact ⟨by simpa using a, b, by simp; exact .nil⟩⟩ (fun j H' _ p => hG _ p.1) ?_ ?_
      · rintro j y2 H3 H4 hj ⟨s3, acc, hacc, lacc, pacc⟩ ⟨rfl, hy2⟩
        obtain ⟨o, ho, q2, rfl, hq2⟩ := paired_at eo j _ hy2
        have l1 : (os.take (j + 1)).length = (os.take j).length + 1 := by rw [take_one_more ho, List.length_append]; rfl
        have l2 : (os.take j).length ≤ os.length := (List.take_sublist j os).length_le
        rcases hq2 with hq2 | hq2
        · have hx : SqL K H4 q2 [.str o.1, .str o.2] := sqL_up (Q9.Same.sq s3) hq2
          exact ⟨rfl, _, rfl, _, _, _, _, false, rfl, .ty _, sqL_ty hx, kit_ty (by decide +kernel), false, rfl, iteF ⟨s3, acc, hacc, by omega, fun h => by omega⟩⟩
        · have hx := same_sqT s3 hq2
          refine ⟨rfl, _, rfl, _, _, _, _, true, rfl, .ty _, sqT_ty hx, kit_ty (by decide +kernel), true, rfl, iteT ?_⟩
          refine ⟨_, rfl, _, _, rfl, ⟨q2, rfl, .inr hx⟩, rfl, true, rfl, iteT ?_⟩
          refine ⟨_, rfl, q2, _, _, _, rfl, rfl, hx, atI_nat (j := 0) rfl, _, _, _, _, true, rfl, .ty _, .base (.str o.1), kit_ty (by decide +kernel), true, rfl, iteT ?_⟩
          refine ⟨_, rfl, q2, _, _, _, rfl, rfl, hx, atI_nat (j := 1) rfl, _, _, _, _, true, rfl, .ty _, .base (.str o.2), kit_ty (by decide +kernel), true, rfl, iteT ?_⟩
          refine ⟨_, rfl, acc, hacc, ln6 _ (by omega), fun b u z => ?_, _, upd_same, ?_, fun h => ?_⟩
          · rw [upd_ne (ne_of_none z hD)]
            exact s3 b u z
          · rw [List.length_append, l1]
            exact Nat.succ_le_succ lacc
          · rw [List.length_append, l1] at h
            obtain ⟨a, b, c⟩ := pacc (by simp only [List.length_singleton] at h; omega)
            rw [take_one_more ho, take_one_more hy2, ← List.append_assoc]
            exact ⟨paired_append a (.cons ⟨q2, rfl, hq2⟩ .nil), b, paired_append c (.cons ⟨q2, rfl, hq2⟩ .nil)⟩
      · rintro H3 ⟨s3, acc, hacc, lacc, pacc⟩
        rw [lu, List.take_length] at lacc pacc
        refine ⟨s3, acc, hacc, by rw [efl, List.length_append]; exact lacc, fun h => ?_⟩
        rw [efl, List.length_append] at h
        obtain ⟨a, b, c⟩ := pacc h
        rw [List.take_of_length_le (by omega)] at c
        rw [efl, take_one_more hy, take_one_more hos]
        exact ⟨a, paired_append b (.cons ⟨us, row, c⟩ .nil)⟩
    · rintro H1 ⟨s1, vs, hvs, lv, pvs⟩
      rw [lr, List.take_length] at lv pvs
      refine q H1 D vs s1 hvs lv fun h => ?_
      obtain ⟨a, b⟩ := pvs h
      rw [List.take_of_length_le (by omega)] at b
      exact ⟨L2.Paired.mapP a fun _ _ ⟨q, e, h⟩ => ⟨q, e, same_sqT s1 h⟩, L2.Paired.mapP b fun _ _ ⟨vs, r, p⟩ => ⟨vs, row_up s1 r, L2.Paired.mapP p fun _ _ ⟨q, e, h⟩ => ⟨q, e, same_sqT s1 h⟩⟩⟩
end
end Q9
end
-- QWith
section
set_option maxRecDepth 100000
set_option maxHeartbeats 4000000
namespace Q9
open PySem L2
/-! the outcomes as tuples -/
abbrev sWith : Stmt := top 30
def spWithT (K : PySem.W.Frag) : Sp := fun vs H Q _ => ∃ (m : Addr) (kvs : List (List Key × V)) (mv : Mv), vs = [.ref m] ∧ H m = some (.dT kvs) ∧ MovesG K H kvs mv ∧ kvs.length ≤ 1000000 ∧ (∀ e ∈ mv, e.2.length ≤ 1000000) ∧
  ∀ (H' : Hp) (p : Addr) (kvs' : List (List Key × V)), Same H H' → H' p = some (.dT kvs') → Moves K H' kvs' mv → Q (.ref p) H'
abbrev wiN : List Str := ["moves", "key", "one"]
abbrev wiSc : Scope := { kind := .function, names := [(".0", .local), ("key", .local), ("moves", .cell)], isGenerator := false, isCoroutine := false }
abbrev wiSc2 : Scope := { kind := .function, names := [(".0", .local), ("one", .local), ("isinstance", .globalImplicit), ("list", .globalImplicit), ("tuple", .globalImplicit)], isGenerator := false, isCoroutine := false }
theorem sqT_farL {K : PySem.W.Frag} {H H' : Hp} {o q : Addr} {l xs : List V} (ho : H o = some (.lst l)) (b : But o H H') (h : SqT K H q xs) : SqT K H' q xs := by
  rcases h with (h | ⟨o', h⟩) | h
  · exact .inl (.inl (b _ _ (fun z => by rw [z, ho] at h; cases h) h))
  · exact .inl (.inr ⟨o', b _ _ (fun z => by rw [z, ho] at h; cases h) h⟩)
  · exact .inr h
theorem sqT_frz {K : PySem.W.Frag} {H : Hp} {m q : Addr} {od : Obj} {u : HO} {kvs : List (List Key × V)} {xs : List V} (hm : H m = some (.frz od (.dT kvs))) (h : SqT K H q xs) : SqT K (upd H m u) q xs := by
  rcases h with (h | ⟨o', h⟩) | h
  · exact .inl (.inl (by rw [upd_ne (fun z => by rw [z, hm] at h; cases h)]; exact h))
  · exact .inl (.inr ⟨o', by rw [upd_ne (fun z => by rw [z, hm] at h; cases h)]; exact h⟩)
  · exact .inr h
theorem sqL_frz {K : PySem.W.Frag} {H : Hp} {m q : Addr} {od : Obj} {u : HO} {kvs : List (List Key × V)} {xs : List V} (hm : H m = some (.frz od (.dT kvs))) (h : SqL K H q xs) : SqL K (upd H m u) q xs := by
  rcases h with (h | ⟨o', h⟩) | h
  · exact .inl (.inl (by rw [upd_ne (fun z => by rw [z, hm] at h; cases h)]; exact h))
  · exact .inl (.inr ⟨o', by rw [upd_ne (fun z => by rw [z, hm] at h; cases h)]; exact h⟩)
  · exact .inr h
theorem dT_sq {H H' : Hp} {D : Addr} {kvs : List (List Key × V)} (h : H D = some (.dT kvs)) (b : But D H H') : SameSq H H' := b.sq h
section
variable {P : Program} {w : World} {K : PySem.W.Frag} {mg : Str → Option Value} {base : Heap} {fKey : Addr}
theorem scWi : FnScope wiN ["moves"] (defScope sWith) := ⟨rfl, rfl, rfl, by decide +kernel, rfl, by decide +kernel, by decide +kernel⟩
theorem ok_with {f : Addr} {fd : FuncData} (F : Fun K "_with_tuples" "_with_tuples" sWith f fd) (T : TRead K mg fKey) : FnOk P w K mg base CX0 1 f fd ["moves"] (spWithT K) := by
  refine F.ok scWi (fun vs H Q E h => ?_) (fun cdv A outer s H vs Q E hr h => ?_)
  · obtain ⟨m, kvs, mv, rfl, _⟩ := h
    rfl
  · obtain ⟨m, kvs, mv, rfl, hm, M, few, fewE, q⟩ := h
    have hu := hu_of hr
    refine ⟨_, pss_one (ps_ret (pe_lock (pe_dcT (tk := tVar 1)
        (tv := tLc (iRowB K (tDGet (tVar 0) (tVar 1))) (gName 2) tYes (tIf (tB (tCB (rIsi K) (tCons (tVar 2) (tCons (tC (.ty "list")) tNil)))) (tCB (rTupOf K) (tCons (tVar 2) tNil)) (tVar 2)) [2])
        (tt := tYes) (own := [("key", 1)]) (g := gName 1) (Nat.lt_of_succ_lt hu) rfl scWi.nd (pi_keys (pv 0)) (blkOk_by (own := [("key", 1)]) (N := wiN) (sc := defScope sWith) (by decide +kernel))
      (fun _ _ _ _ _ => pg_name (i := 1) scWi.nd rfl (.inl rfl)) (fun _ _ _ _ _ => pts_nil) (fun _ _ _ _ _ => pv 1)
      (fun _ _ _ _ _ => pe_lc (wi := iRowB K (tDGet (tVar 0) (tVar 1))) (own := [("one", 2)]) (g := gName 2) (tt := tYes) rfl scWi.nd (pi_rowB (pe_dget hu (pv 0) (pv 1) (fun _ _ => rfl))) (show BlkOk wiN wiSc wiSc2 _ from blkOk_by (own := [("one", 2)]) (N := wiN) (sc := wiSc) (by decide +kernel))
        (fun _ _ _ _ _ => pg_name (i := 2) scWi.nd rfl (.inl rfl)) (fun _ _ _ _ _ => pts_nil)
        (fun _ _ _ _ _ => pe_ifExp (pt_val (pe_callB (id := "isinstance") (r := rIsi K) call_isi (by rfl) T.isi (by decide +kernel) (pa_cons (pv 2) (pa_cons (pe_bltn (v := .ty "list") (by rfl) T.lst (by decide +kernel) rfl) pa_nil))))
          (pe_callTy (r := rTupOf K) cr_tupOf (by rfl) T.tup (by decide +kernel) (pa_cons (pv 2) pa_nil)) (pv 2)))))), ?_⟩
    have len : kvs.length = mv.length := PySem.Paired.length M.ent
    refine ⟨m, .dT kvs, hm, trivial, fun od => ⟨_, rfl, m, od, rfl, .inr ⟨kvs, upd_same, fun D hD => ?_⟩⟩⟩
    have nmD : m ≠ D := ne_of_none upd_same hD
    have freeD : H D = none := by rw [upd_ne nmD.symm] at hD; exact hD
    refine coll_it walk_keysT (fun i H' => H' m = some (.frz od (.dT kvs)) ∧ But m H H' ∧ ∃ kvs' : List (List Key × V), H' D = some (.dT kvs') ∧ kvs'.map (·.1) = (kvs.take i).map (·.1) ∧ Paired (EntT K H') kvs' (mv.take i)) ?_ (fun i H' _ p => p.1) ?_ ?_
    · exact ⟨by rw [upd_ne nmD]; exact upd_same, fun b o ne e => by rw [upd_ne (ne_of_none e freeD), upd_ne ne]; exact e, [], upd_same, by simp, by simp; exact .nil⟩
    · rintro i y Ha Hb hi ⟨hma, bt, kvs', hd, ekeys, ents⟩ ⟨rfl, k0, v, qa, hk, rfl, hq⟩
      obtain ⟨e, hev, ek, us, row, each⟩ := paired_at M.ent i _ hk
      simp only at ek
      subst ek
      have emem := List.mem_of_getElem? hev
      have hq' : Hb qa = some (.tup [.str e.1.1, .str e.1.2]) := hq
      have hv : valV kvs [kInr e.1.1, kInr e.1.2] = some v := val_at M.nd hk
      have row2 := row_sq (bt.sq hm) row
      have each2 : Paired (OutG K Hb) us e.2 := L2.Paired.mapP each fun _ _ ⟨q, e, h⟩ => ⟨q, e, h.imp (sqL_up (bt.sq hm)) (sqT_up (bt.sq hm))⟩
      have lu : us.length = e.2.length := PySem.Paired.length each
      refine ⟨rfl, _, rfl, _, rfl, _, rfl, m, v, rfl, .inr ⟨kvs, [kInr e.1.1, kInr e.1.2], qa, .inr ⟨od, hma⟩, rfl, hq', hv.symm⟩, us, Hb, row2, Same.refl _, fun J G hG wk => fun D2 hD2 => ?_⟩
      refine lc_it wk (fun j H' => Same Hb H' ∧ ∃ acc, H' D2 = some (.lst acc) ∧ Paired (OutT K H') acc (e.2.take j)) ⟨same_upd hD2, [], upd_same, by simp; exact .nil⟩ (fun j H' _ h => hG _ h.1) ?_ ?_
      · rintro j y2 H3 H4 hj ⟨s3, acc, hacc, pacc⟩ ⟨rfl, hy2⟩
        obtain ⟨o, ho, q2, rfl, hq2⟩ := paired_at each2 j _ hy2
        have la : acc.length = (e.2.take j).length := PySem.Paired.length pacc
        have l2 : (e.2.take j).length ≤ e.2.length := (List.take_sublist j e.2).length_le
        have lz : acc.length < sizeLine := ln6 _ (by have := fewE e emem; omega)
        rcases hq2 with hq2 | hq2
        · have hx : SqL K H4 q2 [.str o.1, .str o.2] := sqL_up (Q9.Same.sq s3) hq2
          refine ⟨rfl, _, rfl, _, _, _, _, true, rfl, .ty _, sqL_ty hx, kit_ty (by decide +kernel), true, rfl, iteT ⟨_, rfl, q2, _, rfl, .inl ⟨hx, fun l hl => ?_⟩⟩⟩
          have sl := same_upd (o := .tup [.str o.1, .str o.2]) hl
          have hl' : upd H4 l (.tup [.str o.1, .str o.2]) l = some (.tup [.str o.1, .str o.2]) := upd_same
          generalize upd H4 l (.tup [.str o.1, .str o.2]) = H5 at sl hl' ⊢
          refine ⟨_, sl _ _ hacc, lz, fun b u z => ?_, _, upd_same, ?_⟩
          · rw [upd_ne (ne_of_none z hD2)]; exact sl _ _ (s3 _ _ z)
          · rw [take_one_more ho]
            exact paired_append (L2.Paired.mapP pacc fun _ _ ⟨q, e, h⟩ => ⟨q, e, sqT_farL (sl _ _ hacc) But.upd (same_sqT sl h)⟩) (.cons ⟨l, rfl, sqT_farL (sl _ _ hacc) But.upd (.of hl')⟩ .nil)
        · have hx := same_sqT s3 hq2
          refine ⟨rfl, _, rfl, _, _, _, _, false, rfl, .ty _, sqT_ty hx, kit_ty (by decide +kernel), false, rfl, iteF ⟨_, rfl, _, hacc, lz, fun b u z => ?_, _, upd_same, ?_⟩⟩
          · rw [upd_ne (ne_of_none z hD2)]; exact s3 _ _ z
          · rw [take_one_more ho]
            exact paired_append (L2.Paired.mapP pacc fun _ _ ⟨q, e, h⟩ => ⟨q, e, sqT_farL hacc But.upd h⟩) (.cons ⟨q2, rfl, sqT_farL hacc But.upd hx⟩ .nil)
      · rintro H3 ⟨s3, acc, hacc, pacc⟩
        rw [lu, List.take_length] at pacc
        have lk : kvs'.length ≤ 1000000 := by
          have h := congrArg List.length ekeys
          rw [List.length_map, List.length_map, List.length_take] at h
          omega
        refine ⟨qa, [.inr e.1.1, .inr e.1.2], kvs', rfl, s3 _ _ hq', s3 _ _ hd, ln6 _ lk, ?_⟩
        have nk : valV kvs' [kInr e.1.1, kInr e.1.2] = none := by
          cases c : valV kvs' [kInr e.1.1, kInr e.1.2] with
          | none => rfl
          | some u =>
            unfold valV at c
            obtain ⟨kv, g1, g2⟩ := Option.map_eq_some_iff.mp c
            have g3 := List.mem_of_find?_eq_some g1
            have g4 : kv.1 = [kInr e.1.1, kInr e.1.2] := by simpa using List.find?_some g1
            have g5 : [kInr e.1.1, kInr e.1.2] ∈ (kvs.take i).map (·.1) := by rw [← ekeys, ← g4]; exact List.mem_map.mpr ⟨kv, g3, rfl⟩
            have nd := M.nd
            have e1 : kvs.take (i + 1) = kvs.take i ++ [([kInr e.1.1, kInr e.1.2], v)] := take_one_more hk
            have nd1 : ((kvs.take (i + 1)).map (·.1)).Nodup := by rw [List.map_take]; exact List.Sublist.nodup (List.take_sublist _ _) nd
            rw [e1, List.map_append, List.nodup_append] at nd1
            exact (nd1.2.2 _ g5 _ (List.mem_singleton.mpr rfl) rfl).elim
        have sD : ∀ u, SameSq H3 (upd H3 D u) := fun u => dT_sq (s3 _ _ hd) But.upd
        refine ⟨by rw [upd_ne nmD]; exact s3 _ _ hma, fun b o ne z => ?_, _, upd_same, ?_, ?_⟩
        · rw [upd_ne (ne_of_none z freeD)]; exact s3 _ _ (bt b o ne z)
        · rw [putK_new _ nk, List.map_append, ekeys, take_one_more hk, List.map_append]
          rfl
        · rw [putK_new _ nk, take_one_more hev]
          refine paired_append (L2.Paired.mapP ents fun _ _ ⟨e1, h⟩ => ⟨e1, outsT_up (sD _) (outsT_up (Q9.Same.sq s3) h)⟩) (.cons ⟨rfl, outsT_up (sD _) ⟨acc, ⟨D2, rfl, .inl (.of hacc)⟩, pacc⟩⟩ .nil)
    · rintro Ha ⟨hma, bt, kvs', hd, ekeys, ents⟩
      rw [List.take_length] at ekeys
      rw [len, List.take_length] at ents
      have sb := bt.back hm
      exact ⟨hma, q _ D kvs' sb (by rw [upd_ne nmD.symm]; exact hd) ⟨by rw [ekeys]; exact M.nd, L2.Paired.mapP ents fun _ _ ⟨e1, vs, ⟨a, ea, r⟩, p⟩ => ⟨e1, vs, ⟨a, ea, r.imp (sqL_frz hma) (sqT_frz hma)⟩, L2.Paired.mapP p fun _ _ ⟨q, e, h⟩ => ⟨q, e, sqT_frz hma h⟩⟩⟩⟩
end
end Q9
end
-- QRead4
section
set_option maxRecDepth 100000
set_option maxHeartbeats 8000000
namespace Q9
open PySem L2
def spReadG (CB : Addr) (K : PySem.W.Frag) : Sp := fun vs H Q E => ∃ (m : Addr) (nm st : Str) (ex : V) (es : List Str) (kvs : List (List Key × V)) (mv : Mv), vs = [.ref m, .str st, ex] ∧
  Row K H ex (es.map V.str) ∧ H m = some (.dT kvs) ∧ MovesG K H kvs mv ∧ RightParts nm st es mv ∧ Small st es mv ∧
  ((Fits st es mv ∧ ∀ (H' : Hp) (t s me d : Addr) (ss ms : List Str) (kvs' : List (List Key × V)) (mvs : Mv), Same H H' → H' t = some (.tup [.ref s, .ref me, .ref d]) → H' s = some (.lst (ss.map V.str)) → Told (statesIn st es mv) ss → H' me = some (.lst (ms.map V.str)) → Told (methodsIn mv) ms →
      H' d = some (.dT kvs') → OwnMv K H' kvs' mvs mv → H s = none → H me = none → H d = none → Q (.ref t) H') ∨
    (¬ Fits st es mv ∧ ∀ (H' : Hp) (d : Addr), Same H H' → H d = none → H' d = some (.xd [("part", .str "moves")]) → E (.ref CB) (some d) H'))
structure TWi (K : PySem.W.Frag) (mg : Str → Option Value) (fW : Addr) : Prop where
  gW : mg "_with_tuples" = some (.ref fW)
  kW : PySem.W.keepIn K (.ref fW) = true
theorem movesG_t {K : PySem.W.Frag} {H : Hp} {kvs : List (List Key × V)} {mv : Mv} (M : MovesG K H kvs mv) (p : Paired (OutsT K H) (kvs.map (·.2)) (rowsO mv)) : Moves K H kvs mv := by
  refine ⟨M.nd, ?_⟩
  have key : ∀ {kvs : List (List Key × V)} {mv : Mv}, Paired (EntG K H) kvs mv → Paired (OutsT K H) (kvs.map (·.2)) (rowsO mv) → Paired (EntT K H) kvs mv := by
    intro kvs mv p
    induction p with
    | nil => exact fun _ => .nil
    | cons h t ih =>
      intro q
      unfold rowsO at q
      rw [List.map_cons, List.map_cons] at q
      cases q with
      | cons a b => exact .cons ⟨h.1, a⟩ (ih b)
  exact key M.ent p
theorem paired_sndG {K : PySem.W.Frag} {H : Hp} {kvs : List (List Key × V)} {mv : Mv} (p : Paired (EntG K H) kvs mv) : Paired (OutsG K H) (kvs.map (·.2)) (rowsO mv) := by
  induction p with
  | nil => exact .nil
  | cons h t ih => exact .cons h.2 ih
section
variable {P : Program} {w : World} {K : PySem.W.Frag} {mg : Str → Option Value} {base : Heap} {C CB fKey fA fP fR fI fW : Addr}
theorem ok_readG {f : Addr} {fd dW dA dP dR dI : FuncData} (F : Fun K "_read_moves" "_read_moves" sRead f fd) (T : TRead K mg fKey) (TD : TRd K mg fA fP fR) (TE : TErr K mg "BadKind" "part" CB fI)
    (GI : FnOk P w K mg base CX0 1 fI dI ["self", "part"] (spErrI CB "part")) (bI : Binds K dI ["self", "part"] [])
    (GA : FnOk P w K mg base CX0 2 fA dA ["moves"] (spAreRowsG K)) (bA : Binds K dA ["moves"] []) (GPG : FnOk P w K mg base CX0 1 fP dP ["rows"] (spPairsG K)) (GP : FnOk P w K mg base CX0 1 fP dP ["rows"] (spPairs K)) (bP : Binds K dP ["rows"] [])
    (TW : TWi K mg fW) (GW : FnOk P w K mg base CX0 1 fW dW ["moves"] (spWithT K)) (bW : Binds K dW ["moves"] [])
    (GR : FnOk P w K mg base CX0 4 fR dR ["words", "states", "methods"] (spRight K)) (bR : Binds K dR ["words", "states", "methods"] []) :
    FnOk P w K mg base (L2.CX P w) 5 f fd ["moves", "start", "ends"] (spReadG CB K) := by
  refine F.okX scRd (fun vs H Q E h => ?_) (fun cdv A outer s H vs Q E hr h => ?_)
  · obtain ⟨m, nm, st, ex, es, kvs, mv, rfl, _⟩ := h
    rfl
  · obtain ⟨m, nm, st, ex, es, kvs, mv, rfl, he, hm, M, R, S, way⟩ := h
    have hu := hu_of hr
    have hu8 : (A.deeper (PyProof.Rows.envOfC (Str.ofString "_read_moves") (defScope sRead) s.heap.objs.size f cdv)).units + 8 < cLine := Nat.lt_of_le_of_lt (Nat.add_le_add_left (by decide : 8 ≤ 64) _) hr.units
    refine ⟨_, pss_cons (ps_if (pt_not (pt_val (pe_call GA (hr.mono (by decide)) (by rfl) TD.gA TD.kA bA .nil pass0 (pa_cons (pv 0) pa_nil))))
        (pss_one (ps_raise rfl (takes_of rfl rfl rfl rfl) (pmk_oex TE.ox TE.iC TE.tI GI (hr.mono (by omega)) bI .nil pass0 (by rfl) TE.gC (pa_cons pe_str pa_nil)))) pss_nil)
      (pss_cons (ps_set (i := 3) scRd.nd rfl (.inl rfl) (pe_callB (cr_sum rfl) (by rfl) T.sum (by decide +kernel) (pa_cons
        (pe_lock (pe_lc (te := tCB (rLenRow K) (tCons (tVar 8) tNil)) (own := [("row", 8)]) (g := gName 8) (tt := tYes) rfl scRd.nd (pi_valuesT (pv 0)) (blkOk_by (own := [("row", 8)]) (N := rdN) (sc := defScope sRead) (by decide +kernel))
          (fun _ _ _ _ _ => pg_name (i := 8) scRd.nd rfl (.inl rfl)) (fun _ _ _ _ _ => pts_nil) (fun _ _ _ _ _ => pe_callB (id := "len") (r := rLenRow K) cr_lenRow (by rfl) T.len (by decide +kernel) (pa_cons (pv 8) pa_nil)))) pa_nil)))
      (C8.pss_cut (ps_set (i := 4) scRd.nd rfl (.inl rfl) (pe_call GPG (hr.mono (by decide)) (by rfl) TD.gP TD.kP bP .nil pass0 (pa_cons (pe_listValsT rfl (pv 0) (by rfl) T.lst (by decide +kernel)) pa_nil)))
      (C8.pss_cut (ps_if (pt_cmpR op_ne (pe_callB cr_lenRow (by rfl) T.len (by decide +kernel) (pa_cons (pv 4) pa_nil)) (pv 3) (nomark _))
          (pss_cons (ps_set (i := 0) scRd.nd rfl (.inl rfl) (pe_call GW (hr.mono (by decide)) (by rfl) TW.gW TW.kW bW .nil pass0 (pa_cons (pv 0) pa_nil)))
          (pss_one (ps_set (i := 4) scRd.nd rfl (.inl rfl) (pe_call GP (hr.mono (by decide)) (by rfl) TD.gP TD.kP bP .nil pass0 (pa_cons (pe_listValsT rfl (pv 0) (by rfl) T.lst (by decide +kernel)) pa_nil))))) pss_nil)
      (pss_cons (ps_if (pt_cmpR op_ne (pe_callB cr_lenRow (by rfl) T.len (by decide +kernel) (pa_cons (pv 4) pa_nil)) (pv 3) (nomark _)) pss_never pss_nil)
      (pss_cons (ps_set (i := 5) scRd.nd rfl (.inl rfl) (pe_callB (cr_sortedKs rfl) (by rfl) T.sorted (by decide +kernel) (pa_cons
        (pe_scK (own := [("_", 9), ("state", 10)]) (g := gTup K 2 (gCons (gName 9) (gCons (gName 10) gNil))) (tt := tYes) rfl scRd.nd (pi_list (pv 4)) (blkOk_by (own := [("_", 9), ("state", 10)]) (N := rdN) (sc := defScope sRead) (by decide +kernel))
          (fun _ _ _ _ _ => pg_tup rfl (pgs_cons (pg_name (i := 9) scRd.nd rfl (.inl rfl)) (pgs_cons (pg_name (i := 10) scRd.nd rfl (.inl rfl)) pgs_nil))) (fun _ _ _ _ _ => pts_nil) (fun _ _ _ _ _ => pv 10)) pa_nil)))
      (pss_cons (ps_set (i := 6) scRd.nd rfl (.inl rfl) (pe_callB (cr_sortedKs rfl) (by rfl) T.sorted (by decide +kernel) (pa_cons (pe_callTy (cr_setOf rfl) (by rfl) T.set (by decide +kernel) (pa_cons
        (pe_op op_cat (pe_op op_cat (pe_op op_cat (pe_lst (pa_cons (pv 1) pa_nil)) (pe_callTy cr_listRow (by rfl) T.lst (by decide +kernel) (pa_cons (pv 2) pa_nil)))
          (pe_lock (pe_lc (te := tVar 10) (own := [("state", 10), ("_", 9)]) (g := gTup K 2 (gCons (gName 10) (gCons (gName 9) gNil))) (tt := tYes) rfl scRd.nd (pi_keys (pv 0)) (blkOk_by (own := [("state", 10), ("_", 9)]) (N := rdN) (sc := defScope sRead) (by decide +kernel))
            (fun _ _ _ _ _ => pg_tup rfl (pgs_cons (pg_name (i := 10) scRd.nd rfl (.inl rfl)) (pgs_cons (pg_name (i := 9) scRd.nd rfl (.inl rfl)) pgs_nil))) (fun _ _ _ _ _ => pts_nil) (fun _ _ _ _ _ => pv 10)))) (pv 5)) pa_nil)) pa_nil)))
      (pss_cons (ps_set (i := 7) scRd.nd rfl (.inl rfl) (pe_callB (cr_sortedKs rfl) (by rfl) T.sorted (by decide +kernel) (pa_cons
        (pe_lock (pe_scK (own := [("_", 9), ("method", 11)]) (g := gTup K 2 (gCons (gName 9) (gCons (gName 11) gNil))) (tt := tYes) rfl scRd.nd (pi_keys (pv 0)) (blkOk_by (own := [("_", 9), ("method", 11)]) (N := rdN) (sc := defScope sRead) (by decide +kernel))
          (fun _ _ _ _ _ => pg_tup rfl (pgs_cons (pg_name (i := 9) scRd.nd rfl (.inl rfl)) (pgs_cons (pg_name (i := 11) scRd.nd rfl (.inl rfl)) pgs_nil))) (fun _ _ _ _ _ => pts_nil) (fun _ _ _ _ _ => pv 11))) pa_nil)))
      (pss_cons (ps_if (pt_not (pt_val (pe_call GR (hr.mono (by decide)) (by rfl) TD.gR TD.kR bR .nil pass0 (pa_cons (pe_callB (cr_sortedKs rfl) (by rfl) T.sorted (by decide +kernel) (pa_cons
          (pe_scK (own := [("word", 12), ("_", 9)]) (g := gTup K 2 (gCons (gName 12) (gCons (gName 9) gNil))) (tt := tYes) rfl scRd.nd (pi_list (pv 4)) (blkOk_by (own := [("word", 12), ("_", 9)]) (N := rdN) (sc := defScope sRead) (by decide +kernel))
            (fun _ _ _ _ _ => pg_tup rfl (pgs_cons (pg_name (i := 12) scRd.nd rfl (.inl rfl)) (pgs_cons (pg_name (i := 9) scRd.nd rfl (.inl rfl)) pgs_nil))) (fun _ _ _ _ _ => pts_nil) (fun _ _ _ _ _ => pv 12)) pa_nil)) (pa_cons (pv 6) (pa_cons (pv 7) pa_nil))))))
        (pss_one (ps_raise rfl (takes_of rfl rfl rfl rfl) (pmk_oex TE.ox TE.iC TE.tI GI (hr.mono (by omega)) bI .nil pass0 (by rfl) TE.gC (pa_cons pe_str pa_nil)))) pss_nil)
      (pss_cons (ps_if (pt_truth (pe_lock (pe_lc (te := tVar 8) (own := [("row", 8)]) (g := gName 8) rfl scRd.nd (pi_valuesT (pv 0)) (blkOk_by (own := [("row", 8)]) (N := rdN) (sc := defScope sRead) (by decide +kernel))
          (fun _ _ _ _ _ => pg_name (i := 8) scRd.nd rfl (.inl rfl))
          (fun _ _ _ _ _ => pts_one (pt_cmpR op_ne (pe_callB (id := "len") (r := rLenTs P w) cr_lenTs (by rfl) T.len (by decide +kernel) (pa_cons (pe_callTy (r := rSetOfT K P w) (cr_setOfT rfl hu8) (by rfl) T.set (by decide +kernel) (pa_cons (pv 8) pa_nil)) pa_nil)) (pe_callB (id := "len") (r := rLenRow K) cr_lenRow (by rfl) T.len (by decide +kernel) (pa_cons (pv 8) pa_nil)) (nomark _)))
          (fun _ _ _ _ _ => pv 8))) (by intro _; rfl)) pss_never pss_nil)
      (pss_one (ps_ret (pe_tup (pa_cons (pv 6) (pa_cons (pv 7) (pa_cons
        (pe_lock (pe_dcT (tk := tVar 13) (tv := tCB (rTupOf K) (tCons (tCB (rSortedRT K) (tCons (tVar 8) tNil)) tNil)) (tt := tYes) (own := [("key", 13), ("row", 8)]) (g := gTup K 2 (gCons (gName 13) (gCons (gName 8) gNil))) (Nat.lt_of_succ_lt hu) rfl scRd.nd (pi_itemsT (pv 0)) (blkOk_by (own := [("key", 13), ("row", 8)]) (N := rdN) (sc := defScope sRead) (by decide +kernel))
          (fun _ _ _ _ _ => pg_tup rfl (pgs_cons (pg_name (i := 13) scRd.nd rfl (.inl rfl)) (pgs_cons (pg_name (i := 8) scRd.nd rfl (.inl rfl)) pgs_nil))) (fun _ _ _ _ _ => pts_nil) (fun _ _ _ _ _ => pv 13)
          (fun _ _ _ _ _ => pe_callTy (r := rTupOf K) cr_tupOf (by rfl) T.tup (by decide +kernel) (pa_cons (pe_callB (id := "sorted") (r := rSortedRT K) cr_sortedRT (by rfl) T.sorted (by decide +kernel) (pa_cons (pv 8) pa_nil)) pa_nil)))) pa_nil))))))))))))))), ?_⟩
    have len : kvs.length = mv.length := PySem.Paired.length M.ent
    have ls := lens_states st es mv
    have big := S.len
    have lf : (flatO mv).length ≤ 1000000 := by omega
    have le : es.length ≤ 1000000 := by omega
    have few : kvs.length ≤ 1000000 := by omega
    have sz : ∀ n : Nat, n ≤ 4000010 → n < sizeLine := fun n h => by rw [PySem.sizeLine_eq]; omega
    refine ⟨_, rfl, m, kvs, mv, rfl, hm, M, few, fun H1 s1 => ⟨_, rfl, ?_⟩⟩
    by_cases c8 : ∀ e ∈ mv, e.2.length ≤ 8
    case neg =>
      rw [decide_eq_false c8]
      rcases way with ⟨ft, _⟩ | ⟨_, wrong⟩
      · exact (c8 ft.1).elim
      refine iteT ⟨(by show 1 ≤ 1000; decide), fun a na => ⟨a, _, rfl, upd_same, fun dx nd ne => ?_⟩⟩
      obtain ⟨r1, r2, r3, r4, r5⟩ := raised (C := CB) (fs := [("part", .str "moves")]) s1 na nd ne
      exact ⟨rfl, dx, _, r1, r2, r3, wrong _ dx r4 r5 upd_same⟩
    rw [decide_eq_true c8]
    refine iteF ?_
    have hm1 := s1 m _ hm
    have M1 := movesG_up s1 M
    -- how many outcomes
    refine ⟨m, .dT kvs, hm1, trivial, fun od => ⟨_, rfl, m, od, kvs, rfl, upd_same, fun D hD => ?_⟩⟩
    have nmD : m ≠ D := ne_of_none upd_same hD
    have freeD : H1 D = none := by rw [upd_ne nmD.symm] at hD; exact hD
    refine lc_it walk_valuesT (fun i H' => H' m = some (.frz od (.dT kvs)) ∧ But m H1 H' ∧ H' D = some (.lst (((mv.take i).map fun e => (e.2.length : Int)).map V.int))) ?_ (fun i H' _ p => p.1) ?_ ?_
    · exact ⟨by rw [upd_ne nmD]; exact upd_same, fun b o ne e => by rw [upd_ne (ne_of_none e freeD), upd_ne ne]; exact e, upd_same⟩
    · rintro i y H2 H3 hi ⟨hm2, bt, hd⟩ ⟨rfl, k0, hk⟩
      obtain ⟨e, hev, ek, vs, row, each⟩ := paired_at M1.ent i _ hk
      have row2 := row_sq (bt.sq hm1) row
      have ll : vs.length = e.2.length := PySem.Paired.length each
      refine ⟨rfl, _, rfl, y, vs, rfl, row2, _, hd, ?_, ?_, fun b o ne z => ?_, ?_⟩
      · rw [List.length_map, List.length_map, List.length_take]; exact sz _ (by omega)
      · rw [upd_ne nmD]; exact hm2
      · rw [upd_ne (ne_of_none z freeD)]; exact bt b o ne z
      · rw [upd_same, take_one_more hev, List.map_append, List.map_append, ll]
        rfl
    rintro H2' ⟨hm2, bt, hd⟩
    rw [len, List.take_length] at hd
    have sb := bt.back hm1
    refine ⟨hm2, D, _, rfl, .of (by rw [upd_ne nmD.symm]; exact hd), ?_⟩
    rw [sum_lens]
    have s2 : Same H (upd H2' m (.dT kvs)) := fun b o z => sb b o (s1 b o z)
    generalize upd H2' m (.dT kvs) = H2 at s2
    clear sb hd bt hm2 freeD nmD hD
    have M2 := movesG_up s2 M
    -- the outcomes that are tuples
    refine ⟨fun σ H4 => ∃ (pp : Addr) (vs : List V), σ = [some (.ref m), some (.str st), some ex, some (.int ((flatO mv).length : Nat)), some (.ref pp), none, none, none, none, none, none, none, none, none] ∧ Same H H4 ∧ H4 pp = some (.lst vs) ∧ vs.length ≤ (flatO mv).length ∧ (vs.length = (flatO mv).length → Paired (OutT K H4) vs (flatO mv) ∧ Paired (OutsT K H4) (kvs.map (·.2)) (rowsO mv)), ?_, ?_⟩
    · refine ⟨_, rfl, m, kvs, rfl, s2 _ _ hm, fun rp nrp => ?_⟩
      have s3 : Same H (upd H2 rp (.lst (kvs.map (·.2)))) := fun b o z => same_upd nrp b o (s2 b o z)
      refine ⟨rp, kvs.map (fun e => e.2), rowsO mv, rfl, .of upd_same, paired_sndG (movesG_up s3 M).ent, lf, fun H4 pp vs s34 hpp lv pvs => ?_⟩
      exact ⟨pp, vs, rfl, fun b o z => s34 b o (s3 b o z), hpp, lv, pvs⟩
    rintro σ H4 ⟨pp, vs, rfl, s4, hpp, lv, pvs⟩
    -- all as tuples
    refine ⟨fun σ Hn => ∃ (m' : Addr) (kvs' : List (List Key × V)) (pp : Addr) (vs : List V), σ = [some (.ref m'), some (.str st), some ex, some (.int ((flatO mv).length : Nat)), some (.ref pp), none, none, none, none, none, none, none, none, none] ∧ Same H Hn ∧ Hn m' = some (.dT kvs') ∧ Moves K Hn kvs' mv ∧ SqL K Hn pp vs ∧ Paired (OutT K Hn) vs (flatO mv), ?_, ?_⟩
    · refine ⟨_, rfl, .ref pp, vs, rfl, ⟨pp, rfl, .inl (.of hpp)⟩, _, rfl, rfl, _, rfl, ?_⟩
      by_cases c : vs.length = (flatO mv).length
      · obtain ⟨a, b⟩ := pvs c
        refine iteNS (by rw [c]) ?_
        exact ⟨m, kvs, pp, vs, rfl, s4, s4 _ _ hm, movesG_t (movesG_up s4 M) b, .of hpp, a⟩
      · have en : (!decide (V.int ((vs.length : Nat) : Int) = V.int (((flatO mv).length : Nat) : Int))) = true := by
          rw [decide_eq_false (fun z => c (by injection z with z; omega))]
          rfl
        rw [en]
        refine iteT ?_
        have lenE : ∀ e ∈ mv, e.2.length ≤ 1000000 := fun e he => Nat.le_trans (c8 e he) (by decide)
        refine ⟨_, rfl, m, kvs, mv, rfl, s4 _ _ hm, movesG_up s4 M, few, lenE, fun H5 m' kvs' s45 hm' M' => ?_⟩
        refine ⟨_, rfl, m', kvs', rfl, hm', fun rp nrp => ?_⟩
        have s56 := same_upd (o := .lst (kvs'.map (·.2))) nrp
        refine ⟨rp, kvs'.map (fun e => e.2), rowsO mv, rfl, .of upd_same, paired_snd (moves_up (Q9.Same.sq s56) M').ent, lf, fun H6 pp2 s67 ⟨pp', vs2, epp, hvs, pvs2⟩ => ?_⟩
        cases epp
        exact ⟨m', kvs', pp2, vs2, rfl, fun b o z => s67 _ _ (s56 _ _ (s45 _ _ (s4 _ _ z))), s67 _ _ (s56 _ _ hm'), moves_up (Q9.Same.sq s67) (moves_up (Q9.Same.sq s56) M'), hvs, pvs2⟩
    clear pvs lv hpp s4 M2 s2 M hm len few hm1 M1 s1
    rintro σ Hn ⟨m, kvs, pp, vs, rfl, sn, hm, M, hvs, pvs⟩
    have old : ∀ {b : Addr}, Hn b = none → H b = none := fun {b} h => by
      cases z : H b with
      | none => rfl
      | some o => rw [sn _ _ z] at h; cases h
    have way2 : (Fits st es mv ∧ ∀ (H' : Hp) (t s me d : Addr) (ss ms : List Str) (kvs' : List (List Key × V)) (mvs : Mv), Same Hn H' → H' t = some (.tup [.ref s, .ref me, .ref d]) → H' s = some (.lst (ss.map V.str)) → Told (statesIn st es mv) ss → H' me = some (.lst (ms.map V.str)) → Told (methodsIn mv) ms →
        H' d = some (.dT kvs') → OwnMv K H' kvs' mvs mv → Hn s = none → Hn me = none → Hn d = none → Q (.ref t) H') ∨
      (¬ Fits st es mv ∧ ∀ (H' : Hp) (d : Addr), Same Hn H' → Hn d = none → H' d = some (.xd [("part", .str "moves")]) → E (.ref CB) (some d) H') :=
      way.imp (fun ⟨ft, r⟩ => ⟨ft, fun H' t s me d ss ms kvs' mvs sm a1 a2 a3 a4 a5 a6 a7 o1 o2 o3 => r H' t s me d ss ms kvs' mvs (fun b o z => sm _ _ (sn _ _ z)) a1 a2 a3 a4 a5 a6 a7 (old o1) (old o2) (old o3)⟩) (fun ⟨nf, r⟩ => ⟨nf, fun H' d sm n a1 => r H' d (fun b o z => sm _ _ (sn _ _ z)) (old n) a1⟩)
    have he := row_up sn he
    clear way old sn
    have way := way2
    clear way2
    have s4 : Same Hn Hn := Same.refl _
    have len : kvs.length = mv.length := PySem.Paired.length M.ent
    have few : kvs.length ≤ 1000000 := by omega
    have lv : vs.length = (flatO mv).length := PySem.Paired.length pvs
    refine ⟨_, rfl, .ref pp, vs, rfl, ⟨pp, rfl, .inl hvs⟩, _, rfl, rfl, _, rfl, iteNS (by rw [lv]) ?_⟩
    -- the states behind
    have subB : ∀ z ∈ (flatO mv).map (·.2), z ∈ statesIn st es mv := fun z hz => by
      obtain ⟨o, h1, h2⟩ := List.mem_map.mp hz
      obtain ⟨e, h3, h4⟩ := mem_flatO.mp h1
      exact mem_states.mpr (.inr (.inr ⟨e, h3, .inr ⟨o, h4, h2.symm⟩⟩))
    have fewB := few_same subB S.states
    refine ⟨_, rfl, pp, rfl, ⟨_, hvs⟩, fun D hD => ?_⟩
    refine coll_it (walk_list (xs := vs)) (fun i Hn' => Same Hn Hn' ∧ ∃ ks, Hn' D = some (SetKs P w D ks) ∧ Coll (((flatO mv).map (·.2)).map kInr) i ks) ⟨same_upd hD, [], upd_same, Coll.zero _⟩ (fun i Hn' _ p => sqL_up (Q9.Same.sq p.1) hvs) ?_ ?_
    · rintro i y H5 H6 hi ⟨s5, ks, hks, cl⟩ ⟨rfl, hy⟩
      obtain ⟨o, ho, q5, rfl, hq5⟩ := paired_at pvs i _ hy
      have at_ : (((flatO mv).map (·.2)).map kInr)[i]? = some (kInr o.2) := by rw [List.getElem?_map, List.getElem?_map, ho]; rfl
      refine ⟨q5, _, rfl, same_sqT s5 hq5, rfl, _, _, rfl, _, _, rfl, rfl, rfl, ?_⟩
      exact ⟨_, rfl, kInr o.2, ks, rfl, hks, fewB ks cl.nd cl.sub, fun ks' ad => ⟨fun b u z => by rw [upd_ne (ne_of_none z hD)]; exact s5 b u z, ks', upd_same, cl.next at_ ad⟩⟩
    rintro H5 ⟨s5, ks, hks, cl⟩
    have el : (((flatO mv).map (·.2)).map kInr).take vs.length = ((flatO mv).map (·.2)).map kInr := List.take_of_length_le (by rw [List.length_map, List.length_map, lv]; exact Nat.le_refl _)
    have memB : ∀ j, j ∈ ks ↔ j ∈ ((flatO mv).map (·.2)).map kInr := fun j => by rw [cl.mem j, el]
    obtain ⟨ss0, e0⟩ := texts_of memB
    refine ⟨D, ss0, rfl, (by rw [hks, e0]; rfl), fun beh bp pmB upB nbp => ?_⟩
    have tB : Told ((flatO mv).map (·.2)) beh := told_of e0 cl.nd memB pmB upB
    have s46 : Same Hn (upd H5 bp (.lst (beh.map V.str))) := fun b o z => same_upd nbp b o (s5 b o z)
    have hbp : (upd H5 bp (.lst (beh.map V.str))) bp = some (.lst (beh.map V.str)) := upd_same
    have lb := told_len tB
    rw [List.length_map] at lb
    generalize upd H5 bp (.lst (beh.map V.str)) = H6 at s46 hbp
    clear nbp upB pmB e0 memB el cl hks s5 hD
    have s6 : Same Hn H6 := fun b o z => s46 b o (s4 b o z)
    -- all states
    refine ⟨_, rfl, (by show 1 ≤ sizeLine; decide), fun f1 hf1 => ?_⟩
    have a1 := same_upd (o := .lst [V.str st]) hf1
    refine ⟨_, rfl, ex, _, rfl, row_up (fun b o z => a1 b o (s6 b o z)) he, fun f2 hf2 => ?_⟩
    have a2 := same_upd (o := .lst (es.map V.str)) hf2
    refine ⟨f1, f2, _, _, rfl, rfl, a2 _ _ upd_same, upd_same, ?_, fun f3 hf3 => ?_⟩
    · rw [List.length_map]; show 1 + es.length ≤ sizeLine; exact Nat.le_of_lt (sz _ (by omega))
    have a3 := same_upd (o := .lst ([V.str st] ++ es.map V.str)) hf3
    have a13 : Same H6 (upd (upd (upd H6 f1 (.lst [V.str st])) f2 (.lst (es.map V.str))) f3 (.lst ([V.str st] ++ es.map V.str))) := fun b o z => a3 b o (a2 b o (a1 b o z))
    have hf3' : (upd (upd (upd H6 f1 (.lst [V.str st])) f2 (.lst (es.map V.str))) f3 (.lst ([V.str st] ++ es.map V.str))) f3 = some (.lst ([V.str st] ++ es.map V.str)) := upd_same
    generalize upd (upd (upd H6 f1 (.lst [V.str st])) f2 (.lst (es.map V.str))) f3 (.lst ([V.str st] ++ es.map V.str)) = H7 at a13 hf3'
    clear a1 a2 a3 hf1 hf2 hf3
    have s7 : Same Hn H7 := fun b o z => a13 b o (s6 b o z)
    have hm7 := s7 m _ hm
    have M7 := moves_up (Q9.Same.sq s7) M
    refine ⟨m, .dT kvs, hm7, trivial, fun od3 => ⟨_, rfl, m, od3, rfl, .inr ⟨kvs, upd_same, fun D3 hD3 => ?_⟩⟩⟩
    have nm3 : m ≠ D3 := ne_of_none upd_same hD3
    have free3 : H7 D3 = none := by rw [upd_ne nm3.symm] at hD3; exact hD3
    refine lc_it walk_keysT (fun i Hn' => Hn' m = some (.frz od3 (.dT kvs)) ∧ But m H7 Hn' ∧ Hn' D3 = some (.lst (((mv.take i).map (·.1.1)).map V.str))) ?_ (fun i Hn' _ p => p.1) ?_ ?_
    · exact ⟨by rw [upd_ne nm3]; exact upd_same, fun b o ne e => by rw [upd_ne (ne_of_none e free3), upd_ne ne]; exact e, upd_same⟩
    · rintro i y H8 H9 hi ⟨hm8, bt, hd⟩ ⟨rfl, k0, v, qa, hk, rfl, hq⟩
      obtain ⟨e, hev, ek, _⟩ := paired_at M7.ent i _ hk
      simp only at ek
      subst ek
      have hq' : H9 qa = some (.tup [.str e.1.1, .str e.1.2]) := hq
      refine ⟨qa, _, rfl, .of hq', rfl, _, _, rfl, _, _, rfl, rfl, rfl, _, rfl, _, hd, ?_, ?_, fun b o ne z => ?_, ?_⟩
      · rw [List.length_map, List.length_map, List.length_take]; exact sz _ (by omega)
      · rw [upd_ne nm3]; exact hm8
      · rw [upd_ne (ne_of_none z free3)]; exact bt b o ne z
      · rw [upd_same, take_one_more hev, List.map_append, List.map_append]; rfl
    rintro H8 ⟨hm8, bt, hd⟩
    rw [len, List.take_length] at hd
    have sb3 := bt.back hm7
    refine ⟨hm8, f3, D3, _, _, rfl, rfl, sb3 _ _ hf3', (by rw [upd_ne nm3.symm]; exact hd), ?_, fun f4 hf4 => ?_⟩
    · rw [List.length_append, List.length_map, List.length_map, List.length_map]; exact Nat.le_of_lt (sz _ (by simp only [List.length_cons, List.length_nil]; omega))
    have a4 := same_upd (o := .lst ([V.str st] ++ es.map V.str ++ (mv.map (·.1.1)).map V.str)) hf4
    refine ⟨_, rfl, f4, bp, _, _, rfl, rfl, upd_same, a4 _ _ (sb3 _ _ (a13 _ _ hbp)), ?_, fun f5 hf5 => ?_⟩
    · rw [List.length_append, List.length_append, List.length_map, List.length_map, List.length_map, List.length_map]; exact Nat.le_of_lt (sz _ (by simp only [List.length_cons, List.length_nil]; omega))
    have tot : ∀ z, z ∈ st :: es ++ mv.map (·.1.1) ++ beh ↔ z ∈ statesIn st es mv := states_told tB
    have etot : ((st :: es ++ mv.map (·.1.1) ++ beh).map kInr).map kV = [V.str st] ++ es.map V.str ++ (mv.map (·.1.1)).map V.str ++ beh.map V.str := by rw [kInr_kV]; simp
    refine ⟨f5, (st :: es ++ mv.map (·.1.1) ++ beh).map kInr, rfl, .inl (.of (by rw [etot]; exact upd_same)), few_same (fun z hz => (tot z).1 hz) S.states, fun p6 ks6 hp6 nd6 mem6 => ?_⟩
    obtain ⟨ss6, e6⟩ := texts_of mem6
    refine ⟨p6, ss6, rfl, by rw [upd_same, e6], fun ss sp pmS upS nsp => ?_⟩
    have tS : Told (statesIn st es mv) ss := by
      have t0 := told_of e6 nd6 mem6 pmS upS
      exact ⟨t0.1, t0.2.1, fun z => (t0.2.2 z).trans (tot z)⟩
    generalize hH9 : upd (upd (upd (upd (upd H8 m (.dT kvs)) f4 _) f5 _) p6 (SetKs _ _ p6 ks6)) sp _ = H9
    have s9 : Same H6 H9 := by rw [← hH9]; exact fun b o z => same_upd nsp b o (same_upd hp6 b o (same_upd hf5 b o (a4 b o (sb3 b o (a13 b o z)))))
    have hsp : H9 sp = some (.lst (ss.map V.str)) := by rw [← hH9]; exact upd_same
    have s9H : Same Hn H9 := fun b o z => s9 b o (s6 b o z)
    have nsH : Hn sp = none := by
      cases z : Hn sp with
      | none => rfl
      | some o => exact absurd (same_upd hp6 _ _ (same_upd hf5 _ _ (a4 _ _ (sb3 _ _ (a13 _ _ (s6 _ _ z)))))) (by rw [nsp]; exact fun h => nomatch h)
    clear hH9 nsp hp6 hf5 a4 sb3 hf4 hd bt hm8 free3 nm3 hD3 M7 hm7 s7 hf3' a13 pmS upS e6 mem6 nd6
    have hm9 := s9H m _ hm
    have M9 := moves_up (Q9.Same.sq s9H) M
    -- the methods
    refine ⟨m, .dT kvs, hm9, trivial, fun od4 => ⟨_, rfl, m, od4, rfl, .inr ⟨kvs, upd_same, fun D4 hD4 => ?_⟩⟩⟩
    have nm4 : m ≠ D4 := ne_of_none upd_same hD4
    have free4 : H9 D4 = none := by rw [upd_ne nm4.symm] at hD4; exact hD4
    refine coll_it walk_keysT (fun i Hn' => Hn' m = some (.frz od4 (.dT kvs)) ∧ But m H9 Hn' ∧ ∃ ks, Hn' D4 = some (SetKs P w D4 ks) ∧ Coll ((methodsIn mv).map kInr) i ks) ?_ (fun i Hn' _ p => p.1) ?_ ?_
    · exact ⟨by rw [upd_ne nm4]; exact upd_same, fun b o ne e => by rw [upd_ne (ne_of_none e free4), upd_ne ne]; exact e, [], upd_same, Coll.zero _⟩
    · rintro i y Ha Hb hi ⟨hm1', bt, ks, hks, cl⟩ ⟨rfl, k0, v, q0, hk, rfl, hq⟩
      obtain ⟨e, hev, ek, _⟩ := paired_at M9.ent i _ hk
      simp only at ek
      subst ek
      have hq' : Hb q0 = some (.tup [.str e.1.1, .str e.1.2]) := hq
      have at_ : ((methodsIn mv).map kInr)[i]? = some (kInr e.1.2) := by
        unfold methodsIn
        rw [List.getElem?_map, List.getElem?_map, hev]
        rfl
      refine ⟨q0, _, rfl, .of hq', rfl, _, _, rfl, _, _, rfl, rfl, rfl, ?_⟩
      refine ⟨_, rfl, kInr e.1.2, ks, rfl, hks, S.methods ks cl.nd cl.sub, fun ks' ad => ?_⟩
      refine ⟨by rw [upd_ne nm4]; exact hm1', fun b o ne z => ?_, ks', upd_same, cl.next at_ ad⟩
      rw [upd_ne (ne_of_none z free4)]
      exact bt b o ne z
    rintro Ha ⟨hma, bt, ks, hks, cl⟩
    have el4 : ((methodsIn mv).map kInr).take kvs.length = (methodsIn mv).map kInr := List.take_of_length_le (by unfold methodsIn; rw [List.length_map, List.length_map, len]; exact Nat.le_refl _)
    have mem4 : ∀ j, j ∈ ks ↔ j ∈ (methodsIn mv).map kInr := fun j => by rw [cl.mem j, el4]
    obtain ⟨ss4, e4⟩ := texts_of mem4
    refine ⟨hma, D4, ss4, rfl, (by rw [upd_ne nm4.symm, hks, e4]; rfl), fun ms mp pmM upM nmp => ?_⟩
    have tM : Told (methodsIn mv) ms := told_of e4 cl.nd mem4 pmM upM
    have sb4 := bt.back hm9
    generalize hH10 : upd (upd Ha m (.dT kvs)) mp _ = H10
    have s10 : Same H9 H10 := by rw [← hH10]; exact fun b o z => same_upd nmp b o (sb4 b o z)
    have hmp : H10 mp = some (.lst (ms.map V.str)) := by rw [← hH10]; exact upd_same
    have nmH : Hn mp = none := by
      cases z : Hn mp with
      | none => rfl
      | some o => exact absurd (sb4 _ _ (s9H _ _ z)) (by rw [nmp]; exact fun h => nomatch h)
    clear hH10 sb4 nmp pmM upM e4 mem4 el4 cl hks bt hma free4 nm4 hD4
    have s10_4 : Same Hn H10 := fun b o z => s10 b o (s9 b o (s46 b o z))
    -- the words
    have fewW : FewIn (((flatO mv).map (·.1)).map kInr) := few_same (fun z hz => flat_words.mp hz) S.words
    refine ⟨_, rfl, pp, rfl, ⟨_, s10_4.seq hvs⟩, fun D5 hD5 => ?_⟩
    refine coll_it (walk_list (xs := vs)) (fun i Hn' => Same H10 Hn' ∧ ∃ ks, Hn' D5 = some (SetKs P w D5 ks) ∧ Coll (((flatO mv).map (·.1)).map kInr) i ks) ⟨same_upd hD5, [], upd_same, Coll.zero _⟩ (fun i Hn' _ p => sqL_up (Q9.Same.sq p.1) (s10_4.seq hvs)) ?_ ?_
    · rintro i y Ha Hb hi ⟨s5, ks, hks, cl⟩ ⟨rfl, hy⟩
      obtain ⟨o, ho, q5, rfl, hq5⟩ := paired_at pvs i _ hy
      have at_ : (((flatO mv).map (·.1)).map kInr)[i]? = some (kInr o.1) := by rw [List.getElem?_map, List.getElem?_map, ho]; rfl
      refine ⟨q5, _, rfl, same_sqT s5 (same_sqT s10_4 hq5), rfl, _, _, rfl, _, _, rfl, rfl, rfl, ?_⟩
      exact ⟨_, rfl, kInr o.1, ks, rfl, hks, fewW ks cl.nd cl.sub, fun ks' ad => ⟨fun b u z => by rw [upd_ne (ne_of_none z hD5)]; exact s5 b u z, ks', upd_same, cl.next at_ ad⟩⟩
    rintro Ha ⟨s5, ks, hks, cl⟩
    have el5 : (((flatO mv).map (·.1)).map kInr).take vs.length = ((flatO mv).map (·.1)).map kInr := List.take_of_length_le (by rw [List.length_map, List.length_map, lv]; exact Nat.le_refl _)
    have mem5 : ∀ j, j ∈ ks ↔ j ∈ ((flatO mv).map (·.1)).map kInr := fun j => by rw [cl.mem j, el5]
    obtain ⟨ss5, e5⟩ := texts_of mem5
    refine ⟨D5, ss5, rfl, (by rw [hks, e5]; rfl), fun ws wp pmW upW nwp => ?_⟩
    have tW : Told ((flatO mv).map (·.1)) ws := told_of e5 cl.nd mem5 pmW upW
    generalize hH11 : upd Ha wp _ = H11
    have s11 : Same H10 H11 := by rw [← hH11]; exact fun b o z => same_upd nwp b o (s5 b o z)
    have hwp : H11 wp = some (.lst (ws.map V.str)) := by rw [← hH11]; exact upd_same
    clear hH11 nwp pmW upW e5 mem5 el5 cl hks s5 hD5
    have s11H : Same Hn H11 := fun b o z => s11 b o (s10 b o (s9H b o z))
    -- are they right
    have rightS : ∀ z ∈ ss, nameB z = true := fun z hz => by
      rcases mem_states.mp ((tS.2.2 z).1 hz) with h | h | ⟨e, h1, h2 | ⟨o, h3, h4⟩⟩
      · rw [h]; exact R.start
      · exact R.ends z h
      · rw [h2]; exact (R.keys e h1).1
      · rw [h4]; exact (R.outs e h1 o h3).2
    have rightM : ∀ z ∈ ms, nameB z = true := fun z hz => by
      obtain ⟨e, h1, h2⟩ := List.mem_map.mp ((tM.2.2 z).1 hz)
      rw [← h2]
      exact (R.keys e h1).2
    have rightW : ∀ z ∈ ws, wordB z = true := fun z hz => by
      obtain ⟨o, h1, h2⟩ := List.mem_map.mp ((tW.2.2 z).1 hz)
      obtain ⟨e, h3, h4⟩ := mem_flatO.mp h1
      rw [← h2]
      exact (R.outs e h3 o h4).1
    have lW := told_len tW
    have lS := told_len tS
    have lM := told_len tM
    rw [List.length_map] at lW
    have lMm : (methodsIn mv).length = mv.length := by unfold methodsIn; rw [List.length_map]
    refine ⟨_, rfl, _, rfl, wp, sp, mp, ws, ss, ms, rfl, .of hwp, .of (s11 _ _ (s10 _ _ hsp)), .of (s11 _ _ hmp), rightW, rightS, rightM, by omega, by omega, by omega, fun H12 s12 => ⟨_, rfl, ?_⟩⟩
    have s12H : Same Hn H12 := fun b o z => s12 b o (s11H b o z)
    by_cases cb : ss.length ≤ 60 ∧ ms.length ≤ 8
    case neg =>
      have e1 : (decide (ss.length ≤ 60) && decide (ms.length ≤ 8)) = false := by rw [Bool.and_eq_false_iff, decide_eq_false_iff_not, decide_eq_false_iff_not]; omega
      rw [e1]
      rcases way with ⟨ft, _⟩ | ⟨_, wrong⟩
      · exact (cb ⟨ft.2.1 ss tS.2.1 fun z hz => (tS.2.2 z).1 hz, ft.2.2 ms tM.2.1 fun z hz => (tM.2.2 z).1 hz⟩).elim
      refine iteT ⟨(by show 1 ≤ 1000; decide), fun a na => ⟨a, _, rfl, upd_same, fun dx nd ne => ?_⟩⟩
      obtain ⟨r1, r2, r3, r4, r5⟩ := raised (C := CB) (fs := [("part", .str "moves")]) s12H na nd ne
      exact ⟨rfl, dx, _, r1, r2, r3, wrong _ dx r4 r5 upd_same⟩
    have e1 : (decide (ss.length ≤ 60) && decide (ms.length ≤ 8)) = true := by rw [decide_eq_true cb.1, decide_eq_true cb.2]; rfl
    rw [e1]
    refine iteF ?_
    have hm12 := s12H m _ hm
    have M12 := moves_up (Q9.Same.sq s12H) M
    -- no outcome twice
    refine ⟨m, .dT kvs, hm12, trivial, fun od6 => ⟨_, rfl, m, od6, kvs, rfl, upd_same, fun D6 hD6 => ?_⟩⟩
    have nm6 : m ≠ D6 := ne_of_none upd_same hD6
    have free6 : H12 D6 = none := by rw [upd_ne nm6.symm] at hD6; exact hD6
    refine lc_it walk_valuesT (fun i Hn' => Hn' m = some (.frz od6 (.dT kvs)) ∧ But m H12 Hn' ∧ Hn' D6 = some (.lst [])) ?_ (fun i Hn' _ p => p.1) ?_ ?_
    · exact ⟨by rw [upd_ne nm6]; exact upd_same, fun b o ne e => by rw [upd_ne (ne_of_none e free6), upd_ne ne]; exact e, upd_same⟩
    · rintro i y Ha Hb hi ⟨hma, bt, hd⟩ ⟨rfl, k0, hk⟩
      obtain ⟨e, hev, ek, us, row, each⟩ := paired_at M12.ent i _ hk
      have he_mv := List.mem_of_getElem? hev
      have row2 := row_sq (bt.sq hm12) row
      have each2 : Paired (OutT K Hb) us e.2 := L2.Paired.mapP each fun _ _ ⟨q, e, h⟩ => ⟨q, e, sqT_up (bt.sq hm12) h⟩
      have lu : us.length = e.2.length := PySem.Paired.length each
      have l8 := c8 e he_mv
      refine ⟨rfl, _, rfl, y, us, e.2.map keyOf, rfl, row2, paired_keys each2, by omega, fun p L hp nd mem => ⟨p, L, rfl, upd_same, ?_⟩⟩
      have sp1 := same_upd (o := SetTs P w p L) hp
      have ll : L.length = e.2.length := by
        have h := (unlike_len (l := e.2.map keyOf) nd fun k => mem k).2 (keys_nodup (R.outsU e he_mv))
        rw [List.length_map, List.length_map] at h
        exact h
      refine ⟨_, rfl, y, us, rfl, row_up sp1 row2, rfl, _, rfl, iteNS (by rw [ll, lu]) ?_⟩
      exact ⟨sp1 _ _ hma, bt.trans (But.of sp1), sp1 _ _ hd⟩
    rintro Ha ⟨hma, bt, hd⟩
    have sb6 := bt.back hm12
    refine ⟨hma, false, .inl ⟨[], .of (by rw [upd_ne nm6.symm]; exact hd), rfl⟩, iteF ?_⟩
    generalize hH13 : upd Ha m _ = H13
    have s13 : Same H12 H13 := by rw [← hH13]; exact sb6
    have s13H : Same Hn H13 := fun b o z => s13 b o (s12H b o z)
    clear hH13 sb6 hd bt hma free6 nm6 hD6
    have hm13 := s13H m _ hm
    have M13 := moves_up (Q9.Same.sq s13H) M
    -- the own moves
    refine ⟨_, rfl, _, rfl, m, .dT kvs, hm13, trivial, fun od7 => ⟨_, rfl, m, od7, kvs, rfl, upd_same, fun D7 hD7 => ?_⟩⟩
    have nm7 : m ≠ D7 := ne_of_none upd_same hD7
    have free7 : H13 D7 = none := by rw [upd_ne nm7.symm] at hD7; exact hD7
    refine coll_it walk_itemsT (fun i Hn' => Hn' m = some (.frz od7 (.dT kvs)) ∧ But m H13 Hn' ∧ ∃ (kvs' : List (List Key × V)) (mvs : Mv), Hn' D7 = some (.dT kvs') ∧ kvs'.map (·.1) = (kvs.take i).map (·.1) ∧ Paired (TupE K Hn') kvs' mvs ∧ Paired SortOf mvs (mv.take i)) ?_ (fun i Hn' _ p => p.1) ?_ ?_
    · exact ⟨by rw [upd_ne nm7]; exact upd_same, fun b o ne e => by rw [upd_ne (ne_of_none e free7), upd_ne ne]; exact e, [], [], upd_same, by simp, .nil, by simp; exact .nil⟩
    · rintro i y Ha Hb hi ⟨hma, bt, kvs', mvs, hd, ekeys, tups, so⟩ ⟨Tq, k0, v, q0, hk, rfl, hT, hq, rfl⟩
      obtain ⟨e, hev, ek, us, row, each⟩ := paired_at M13.ent i _ hk
      simp only at ek
      subst ek
      have he_mv := List.mem_of_getElem? hev
      have sT := same_upd (o := .tup [.ref q0, v]) hT
      have row2 := row_up sT (row_sq (bt.sq hm13) row)
      obtain ⟨ps, eps, eos, hps⟩ := outs_ps2 each
      have hps2 : ∀ p ∈ ps, SqT K (upd Ha Tq (.tup [.ref q0, v])) p.1 [.str p.2.1, .str p.2.2] := fun p hp => same_sqT sT (sqT_up (bt.sq hm13) (hps p hp))
      rw [eps] at row2
      refine ⟨Tq, _, rfl, .of upd_same, rfl, _, _, rfl, _, _, rfl, rfl, rfl, ?_⟩
      refine ⟨_, rfl, _, rfl, v, ps, rfl, row2, hps2, fun qs p pm up hp => ⟨p, _, rfl, .inl ⟨.of upd_same, fun l hl => ?_⟩⟩⟩
      have sp1 := same_upd (o := .lst ((qs.map (·.1)).map V.ref)) hp
      have sl := same_upd (o := .tup ((qs.map (·.1)).map V.ref)) hl
      generalize hHc : upd (upd (upd Ha Tq (.tup [.ref q0, v])) p _) l _ = Hc
      have sc : Same Ha Hc := by rw [← hHc]; exact fun b o z => sl b o (sp1 b o (sT b o z))
      have hlc : Hc l = some (.tup ((qs.map (·.1)).map V.ref)) := by rw [← hHc]; exact upd_same
      have hqs : ∀ x ∈ qs, SqT K Hc x.1 [.str x.2.1, .str x.2.2] := fun x hx => by
        rw [← hHc]
        exact same_sqT sl (same_sqT sp1 (hps2 x (pm.mem_iff.mp hx)))
      have lk : kvs'.length ≤ 1000000 := by
        have h := congrArg List.length ekeys
        rw [List.length_map, List.length_map, List.length_take] at h
        omega
      refine ⟨q0, [.inr e.1.1, .inr e.1.2], kvs', rfl, sc _ _ hq, sc _ _ hd, sz _ (by omega), ?_⟩
      have nk : valV kvs' [kInr e.1.1, kInr e.1.2] = none := by
        cases c : valV kvs' [kInr e.1.1, kInr e.1.2] with
        | none => rfl
        | some u =>
          unfold valV at c
          obtain ⟨kv, g1, g2⟩ := Option.map_eq_some_iff.mp c
          have g3 := List.mem_of_find?_eq_some g1
          have g4 : kv.1 = [kInr e.1.1, kInr e.1.2] := by simpa using List.find?_some g1
          have g5 : [kInr e.1.1, kInr e.1.2] ∈ (kvs.take i).map (·.1) := by rw [← ekeys, ← g4]; exact List.mem_map.mpr ⟨kv, g3, rfl⟩
          have nd := M.nd
          have e1 : kvs.take (i + 1) = kvs.take i ++ [([kInr e.1.1, kInr e.1.2], v)] := take_one_more hk
          have nd1 : ((kvs.take (i + 1)).map (·.1)).Nodup := by rw [List.map_take]; exact List.Sublist.nodup (List.take_sublist _ _) nd
          rw [e1, List.map_append, List.nodup_append] at nd1
          exact (nd1.2.2 _ g5 _ (List.mem_singleton.mpr rfl) rfl).elim
      have upE : ∀ x ∈ kvs', True := fun _ _ => trivial
      have ne7 : ∀ {b : Addr} {xs : List V}, Hc b = some (.tup xs) → b ≠ D7 := fun {b xs} h z => by rw [z, sc _ _ hd] at h; cases h
      have butD : ∀ u, But D7 Hc (upd Hc D7 u) := fun u => But.upd
      have tupsC : Paired (TupE K Hc) kvs' mvs := L2.Paired.mapP tups fun _ _ h => tupE_but (D := D7) (But.of sc) hd h
      refine ⟨by rw [upd_ne nm7]; exact sc _ _ hma, fun b o ne z => ?_, _, mvs ++ [(e.1, qs.map (·.2))], upd_same, ?_, ?_, ?_⟩
      · rw [upd_ne (ne_of_none z free7)]
        exact sc _ _ (bt b o ne z)
      · rw [putK_new _ nk, List.map_append, ekeys, take_one_more hk, List.map_append]
        rfl
      · rw [putK_new _ nk]
        refine paired_append (L2.Paired.mapP tupsC fun _ _ h => tupE_but (butD _) (sc _ _ hd) h) (.cons ?_ .nil)
        exact tupE_but (butD _) (sc _ _ hd) (show TupE K Hc ([kInr e.1.1, kInr e.1.2], .ref l) (e.1, qs.map (·.2)) from ⟨rfl, l, _, rfl, hlc, paired_outs hqs⟩)
      · rw [take_one_more hev]
        refine paired_append so (.cons ⟨rfl, ?_, up⟩ .nil)
        rw [← eos]
        exact pm.map _
    rintro Ha ⟨hma, bt, kvs', mvs, hd, ekeys, tups, so⟩
    rw [List.take_length] at ekeys
    rw [len, List.take_length] at so
    have sb7 := bt.back hm13
    have nd' : (kvs'.map (·.1)).Nodup := by rw [ekeys]; exact M.nd
    refine ⟨hma, (by show 3 ≤ sizeLine; decide), fun t nt => ?_⟩
    rcases way with ⟨_, right⟩ | ⟨nf, _⟩
    case inr =>
      exact (nf ⟨c8, fun ys nd sub => Nat.le_trans (nodup_le ys ss nd fun z hz => (tS.2.2 z).2 (sub z hz)) cb.1, fun zs nd sub => Nat.le_trans (nodup_le zs ms nd fun z hz => (tM.2.2 z).2 (sub z hz)) cb.2⟩).elim
    have st := same_upd (o := .tup [.ref sp, .ref mp, .ref D7]) nt
    have s14 : ∀ b o, H13 b = some o → (upd (upd Ha m (.dT kvs)) t (.tup [.ref sp, .ref mp, .ref D7])) b = some o := fun b o z => st b o (sb7 b o z)
    have hsp14 : H13 sp = some (.lst (ss.map V.str)) := s13 _ _ (s12 _ _ (s11 _ _ (s10 _ _ hsp)))
    have hmp14 : H13 mp = some (.lst (ms.map V.str)) := s13 _ _ (s12 _ _ (s11 _ _ hmp))
    refine right _ t sp mp D7 ss ms kvs' mvs (fun b o z => s14 b o (s13H b o z)) upd_same (s14 _ _ hsp14) tS (s14 _ _ hmp14) tM (st _ _ (by rw [upd_ne nm7.symm]; exact hd)) ?_ nsH nmH (by
      cases z : Hn D7 with
      | none => rfl
      | some o => rw [s13H _ _ z] at free7; cases free7)
    refine own_of nd' ?_ so c8
    have hmT : Ha m = some (.frz od7 (.dT kvs)) := hma
    refine L2.Paired.mapP tups fun kv e h => ?_
    obtain ⟨e1, t1, us, e2, e3, p⟩ := h
    have n1 : t1 ≠ m := fun z => by rw [z, hma] at e3; cases e3
    refine ⟨e1, t1, us, e2, st _ _ (by rw [upd_ne n1]; exact e3), L2.Paired.mapP p fun _ _ ⟨q, e, g⟩ => ⟨q, e, same_sqT st ?_⟩⟩
    rcases g with (g | ⟨o, g⟩) | g
    · exact .inl (.inl (by rw [upd_ne (fun z => by rw [z, hma] at g; cases g)]; exact g))
    · exact .inl (.inr ⟨o, by rw [upd_ne (fun z => by rw [z, hma] at g; cases g)]; exact g⟩)
    · exact .inr g
theorem ok_readT {f : Addr} {fd : FuncData} (G : FnOk P w K mg base (L2.CX P w) 5 f fd ["moves", "start", "ends"] (spReadG CB K)) : FnOk P w K mg base (L2.CX P w) 5 f fd ["moves", "start", "ends"] (spRead CB K) :=
  G.imp fun vs H Q E ⟨m, nm, st, ex, es, kvs, mv, a, b, c, M, d, e, way⟩ => ⟨m, nm, st, ex, es, kvs, mv, a, b, c, M.g, d, e, way⟩
end
end Q9
end
-- QInit2
section
set_option maxRecDepth 100000
set_option maxHeartbeats 4000000
namespace Q9
open PySem L2
/-! a kind made of moves whose outcomes are tuples or lists -/
theorem movesG_sq {K : PySem.W.Frag} {H H' : Hp} (s : SameSq H H') {kvs : List (List Key × V)} {mv : Mv} (M : MovesG K H kvs mv) : MovesG K H' kvs mv :=
  ⟨M.nd, L2.Paired.mapP M.ent fun _ _ ⟨e, vs, r, p⟩ => ⟨e, vs, row_sq s r, L2.Paired.mapP p fun _ _ ⟨q, e, h⟩ => ⟨q, e, h.imp (sqL_up s) (sqT_up s)⟩⟩⟩
theorem keys_nodup_ofG {K : PySem.W.Frag} {H : Hp} {kvs : List (List Key × V)} {mv : Mv} (M : MovesG K H kvs mv) : (mv.map (·.1)).Nodup := by
  have e : kvs.map (·.1) = mv.map fun e => keyOf e.1 := by
    have key : ∀ {kvs : List (List Key × V)} {mv : Mv}, Paired (EntG K H) kvs mv → kvs.map (·.1) = mv.map fun e => keyOf e.1 := by
      intro kvs mv p
      induction p with
      | nil => rfl
      | @cons kv e a b h t ih => rw [List.map_cons, List.map_cons, ih, h.1]; rfl
    exact key M.ent
  have nd := M.nd
  rw [e] at nd
  refine List.pairwise_map.mpr (List.Pairwise.imp (fun {a b} ne e => ne ?_) (List.pairwise_map.mp nd))
  rw [e]
def spKindG (C CB : Addr) (K : PySem.W.Frag) : Sp := fun vs H Q E => ∃ (x dx m : Addr) (nm st : Str) (ex : V) (es : List Str) (kvs : List (List Key × V)) (mv : Mv), vs = [.ref x, .str nm, .str st, ex, .ref m] ∧
  H x = some (.ins C dx []) ∧ H dx = some (.own x) ∧ Row K H ex (es.map V.str) ∧ H m = some (.dT kvs) ∧ MovesG K H kvs mv ∧ RightParts nm st es mv ∧ Small st es mv ∧
  ((Fits st es mv ∧ ∀ (H' : Hp) (s me d : Addr), But x H H' → KAf C K s me d H' x nm st es mv → H s = none → H me = none → H d = none → Q .non H') ∨ (¬ Fits st es mv ∧ ∀ (H' : Hp) (d : Addr), But x H H' → H d = none → H' d = some (.xd [("part", .str "moves")]) → E (.ref CB) (some d) H'))
section
variable {P : Program} {w : World} {K : PySem.W.Frag} {mg : Str → Option Value} {base : Heap} {C CB fC fRd fName fUn fI : Addr}
theorem ok_initG {f : Addr} {fd dC dR : FuncData} (F : Fun K "__init__" "Kind.__init__" (kMeth 0) f fd) (T : TInit K mg C fC fRd) (G : FnOk P w K mg base (L2.CX P w) 4 fC dC ["name", "start", "ends"] (spCheckP K)) (b : Binds K dC ["name", "start", "ends"] [])
    (GR : FnOk P w K mg base (L2.CX P w) 5 fRd dR ["moves", "start", "ends"] (spReadG CB K)) (bR : Binds K dR ["moves", "start", "ends"] []) :
    FnOk P w K mg base (L2.CX P w) 6 f fd kindPs (spKindG C CB K) := by
  refine F.okX scK0 (fun vs H Q E h => ?_) (fun cdv A outer s H vs Q E hr h => ?_)
  · obtain ⟨x, dx, m, nm, st, ex, es, kvs, mv, rfl, _⟩ := h
    rfl
  · obtain ⟨x, dx, m, nm, st, ex, es, kvs, mv, rfl, hx, hd, he, hm, M, R, S, way⟩ := h
    refine ⟨_, pss_cons (ps_expr (pe_call G (hr.mono (by decide)) (by rfl) T.gC T.kC b .nil pass0X (pa_cons (pv 1) (pa_cons (pv 2) (pa_cons (pv 3) pa_nil)))))
      (pss_cons (ps_fld (pv 0) (pv 1) rfl)
      (pss_cons (ps_fld (pv 0) (pv 2) rfl)
      (pss_cons (ps_fld (pv 0) (pe_callTy cr_tupOf (by rfl) T.tup (by decide +kernel) (pa_cons (pe_callB cr_sortedRs (by rfl) T.sorted (by decide +kernel) (pa_cons (pv 3) pa_nil)) pa_nil)) rfl)
      (pss_one (ps_asg (pe_callS GR hr (by rfl) T.gR T.kR bR (fun σ => passAt (takes_of rfl rfl rfl rfl) σ) (pa_cons (pv 4) (pa_cons (pv 2) (pa_cons (pv 3) pa_nil))))
        (pg_tup rfl (pgs_cons (pg_fld (pv 0)) (pgs_cons (pg_fld (pv 0)) (pgs_cons (pg_fld (pv 0)) pgs_nil))))))))), ?_⟩
    have fewE : es.length + 1 < scanBound := by
      have h := S.states (es.map kInr) ((nodup_map_inr es).2 R.unlike) fun k hk => by
        obtain ⟨z, h1, h2⟩ := List.mem_map.mp hk
        exact List.mem_map.mpr ⟨z, mem_states.mpr (.inr (.inl h1)), h2⟩
      rwa [List.length_map] at h
    refine ⟨_, rfl, _, rfl, _, rfl, nm, st, ex, es, rfl, he, R.name, R.start, R.ends, R.unlike, fewE, fun H1 s1 => ?_⟩
    refine ⟨_, rfl, _, rfl, x, C, dx, _, rfl, s1 _ _ hx, T.cl, T.nN, by decide, ?_⟩
    refine ⟨_, rfl, _, rfl, x, C, dx, _, rfl, upd_same, T.cl, T.nS, Nat.lt_of_le_of_lt (putF_le (Nat.le_refl _)) (by decide), ?_⟩
    generalize hH2 : upd (upd H1 x _) x _ = H2
    have b2 : But x H H2 := by rw [← hH2]; exact fun b o ne z => by rw [upd_ne ne, upd_ne ne]; exact s1 b o z
    have hx2 : H2 x = some (.ins C dx (putF "_start" (.str st) (putF "_name" (.str nm) []))) := by rw [← hH2]; exact upd_same
    clear hH2
    refine ⟨_, rfl, ex, es, rfl, row_sq (butIns b2 hx) he, fun ys p pm up hp => ⟨p, _, rfl, .inl ⟨.of upd_same, fun l hl => ?_⟩⟩⟩
    have sp := same_upd (o := .lst (ys.map V.str)) hp
    have sl := same_upd (o := .tup (ys.map V.str)) hl
    have hx3 : upd (upd H2 p (.lst (ys.map V.str))) l (.tup (ys.map V.str)) x = some (.ins C dx (putF "_start" (.str st) (putF "_name" (.str nm) []))) := sl _ _ (sp _ _ hx2)
    refine ⟨_, rfl, x, C, dx, _, rfl, hx3, T.cl, T.nE, Nat.lt_of_le_of_lt (putF_le (putF_le (Nat.le_refl _))) (by decide), ?_⟩
    have nlx : l ≠ x := fun z => by rw [← z] at hx2; rw [sp _ _ hx2] at hl; cases hl
    generalize hH4 : upd (upd (upd H2 p (.lst (ys.map V.str))) l (.tup (ys.map V.str))) x _ = H4
    have b4 : But x H H4 := by rw [← hH4]; exact fun b o ne z => by rw [upd_ne ne]; exact sl _ _ (sp _ _ (b2 b o ne z))
    have hx4 : H4 x = some (.ins C dx (putF "_ends" (.ref l) (putF "_start" (.str st) (putF "_name" (.str nm) [])))) := by rw [← hH4]; exact upd_same
    have hl4 : H4 l = some (.tup (ys.map V.str)) := by rw [← hH4, upd_ne nlx]; exact upd_same
    clear hH4 hx3 sp sl hl hp
    have nmx : m ≠ x := fun z => by rw [z, hx] at hm; cases hm
    have sq4 := butIns b4 hx
    refine ⟨_, rfl, _, rfl, _, rfl, m, nm, st, ex, es, kvs, mv, rfl, row_sq sq4 he, b4 _ _ nmx hm, movesG_sq sq4 M, R, S, ?_⟩
    rcases way with ⟨ft, right⟩ | ⟨nf, wrong⟩
    · refine .inl ⟨ft, fun H5 t s5 me d ss ms kvs' mvs sm ht hs tS hme tM hd5 own f1 f2 f3 => ?_⟩
      have hx5 := sm _ _ hx4
      have hl5 := sm _ _ hl4
      refine ⟨t, _, rfl, .of ht, rfl, _, _, rfl, ⟨_, rfl, x, C, dx, _, rfl, hx5, T.cl, T.nSt, Nat.lt_of_le_of_lt (putF_le (putF_le (putF_le (Nat.le_refl _)))) (by decide), _, _, rfl, ⟨_, rfl, x, C, dx, _, rfl, upd_same, T.cl, T.nMe, Nat.lt_of_le_of_lt (putF_le (putF_le (putF_le (putF_le (Nat.le_refl _))))) (by decide), _, _, rfl, ⟨_, rfl, x, C, dx, _, rfl, upd_same, T.cl, T.nM, Nat.lt_of_le_of_lt (putF_le (putF_le (putF_le (putF_le (putF_le (Nat.le_refl _)))))) (by decide), rfl, ?_⟩⟩⟩⟩
      have old : ∀ {b : Addr}, H4 b = none → H b = none := fun {b} h => by
        cases z : H b with
        | none => rfl
        | some o =>
          by_cases c : b = x
          · rw [c, hx4] at h; cases h
          · rw [b4 _ _ c z] at h; cases h
      have far : ∀ {b : Addr} {o : HO}, H5 b = some o → (∀ cx fs, o ≠ .ins C cx fs) → b ≠ x := fun {b o} h n z => by
        rw [z, hx5] at h
        exact n _ _ (Option.some.inj h).symm
      have keep : ∀ {b : Addr} {o : HO} (u1 u2 u3 : HO), H5 b = some o → (∀ cx fs, o ≠ .ins C cx fs) → upd (upd (upd H5 x u1) x u2) x u3 b = some o := fun {b o} u1 u2 u3 h n => by
        have ne := far h n
        rw [upd_ne ne, upd_ne ne, upd_ne ne]
        exact h
      refine right _ s5 me d (fun b o ne z => by rw [upd_ne ne, upd_ne ne, upd_ne ne]; exact sm b o (b4 b o ne z)) ⟨⟨dx, l, ys, ss, ms, kvs', mvs, upd_same, keep _ _ _ hl5 (fun _ _ z => nomatch z), pm, up, keep _ _ _ hs (fun _ _ z => nomatch z), tS, keep _ _ _ hme (fun _ _ z => nomatch z), tM, keep _ _ _ hd5 (fun _ _ z => nomatch z), ?_⟩, S, ft, keys_nodup_ofG M⟩ (old f1) (old f2) (old f3)
      have b5 : ∀ u1 u2 u3 : HO, But x H5 (upd (upd (upd H5 x u1) x u2) x u3) := fun u1 u2 u3 b o ne z => by rw [upd_ne ne, upd_ne ne, upd_ne ne]; exact z
      exact ownMv_sq (fun t vs h => keep _ _ _ h (fun _ _ z => nomatch z)) (butIns (b5 _ _ _) hx5) own
    · refine .inr ⟨nf, fun H5 d sm hn at_ => ?_⟩
      refine wrong H5 d (fun b o ne z => sm b o (b4 b o ne z)) ?_ at_
      cases h : H d with
      | none => rfl
      | some o =>
        by_cases c : d = x
        · rw [c, hx4] at hn; cases hn
        · rw [b4 _ _ c h] at hn; cases hn
theorem ok_initT {f : Addr} {fd : FuncData} (G : FnOk P w K mg base (L2.CX P w) 6 f fd kindPs (spKindG C CB K)) : FnOk P w K mg base (L2.CX P w) 6 f fd kindPs (spKindI C CB K (KAc C K)) :=
  G.imp fun vs H Q E ⟨x, dx, m, nm, st, ex, es, kvs, mv, a, b, c, d, e, M, h, i, way⟩ => ⟨x, dx, m, nm, st, ex, es, kvs, mv, a, b, c, d, e, M.g, h, i, way.imp (fun ⟨ft, r⟩ => ⟨ft, fun H' s me d bt kf _ _ _ => r H' bt kf.kac⟩) id⟩
end
end Q9
end
-- QKM
section
set_option maxRecDepth 100000
set_option maxHeartbeats 4000000
namespace Q9
open PySem L2
theorem outsOf_at {mv : Mv} (nd : (mv.map (·.1)).Nodup) {e : (Str × Str) × List (Str × Str)} (h : e ∈ mv) : outsOf mv e.1 = e.2 := by
  induction mv with
  | nil => cases h
  | cons x mv ih =>
    rw [List.map_cons] at nd
    obtain ⟨n1, n2⟩ := List.nodup_cons.mp nd
    rcases List.mem_cons.mp h with z | z
    · rw [z]
      unfold outsOf
      rw [List.find?_cons_of_pos (by simp)]
      rfl
    · have ne : ¬ x.1 = e.1 := fun c => n1 (c ▸ List.mem_map.mpr ⟨e, z, rfl⟩)
      have e1 : outsOf (x :: mv) e.1 = outsOf mv e.1 := by
        unfold outsOf
        rw [List.find?_cons_of_neg (by simpa using ne)]
      rw [e1]
      exact ih n2 z
theorem outsOf_mem {mv : Mv} {k : Str × Str} {o : Str × Str} (h : o ∈ outsOf mv k) : ∃ e ∈ mv, e.1 = k ∧ o ∈ e.2 := by
  unfold outsOf at h
  cases c : mv.find? fun e => decide (e.1 = k) with
  | none =>
    rw [c] at h
    cases h
  | some e =>
    rw [c] at h
    exact ⟨e, List.mem_of_find?_eq_some c, by simpa using List.find?_some c, h⟩
structure TKM (K : PySem.W.Frag) (mg : Str → Option Value) (C fKey : Addr) : Prop where
  cl : Cls K C
  lst : mg "list" = none
  sorted : mg "sorted" = none
  nS : NoAttr K C "_start"
  nE : NoAttr K C "_ends"
  nSt : NoAttr K C "_states"
  nMe : NoAttr K C "_methods"
  nM : NoAttr K C "_moves"
  gKey : mg "_is_key" = some (.ref fKey)
  kKey : PySem.W.keepIn K (.ref fKey) = true
section
variable {P : Program} {w : World} {K : PySem.W.Frag} {mg : Str → Option Value} {base : Heap} {C fKey : Addr}
theorem scK2 : FnScope ["self"] ["self"] (defScope (kMeth 2)) := ⟨rfl, rfl, rfl, by decide +kernel, rfl, by decide +kernel, by decide +kernel⟩
theorem ok_startM {f : Addr} {fd : FuncData} (F : Fun K "start" "Kind.start" (kMeth 2) f fd) (T : TKM K mg C fKey) : FnOk P w K mg base CX0 1 f fd ["self"] (spStart (KAc C K)) := by
  refine F.ok scK2 (fun vs H Q E h => ?_) (fun cdv A outer s H vs Q E hr h => ?_)
  · obtain ⟨x, nm, st, es, mv, rfl, _⟩ := h
    rfl
  · obtain ⟨x, nm, st, es, mv, rfl, ⟨⟨dx, e, s1, me, m, ys, ss, ms, kvs, mvs, h1, _⟩, _, _, _⟩, q⟩ := h
    exact ⟨_, pss_one (ps_ret (pe_fld (pv 0) rfl)), _, rfl, x, C, dx, _, _, rfl, h1, T.cl, T.nS, (kf_all nm st e s1 me m).2.2.1, q⟩
theorem scK3 : FnScope ["self"] ["self"] (defScope (kMeth 3)) := ⟨rfl, rfl, rfl, by decide +kernel, rfl, by decide +kernel, by decide +kernel⟩
theorem ok_endsM {f : Addr} {fd : FuncData} (F : Fun K "ends" "Kind.ends" (kMeth 3) f fd) (T : TKM K mg C fKey) : FnOk P w K mg base CX0 1 f fd ["self"] (spEnds (KAc C K)) := by
  refine F.ok scK3 (fun vs H Q E h => ?_) (fun cdv A outer s H vs Q E hr h => ?_)
  · obtain ⟨x, nm, st, es, mv, rfl, _⟩ := h
    rfl
  · obtain ⟨x, nm, st, es, mv, rfl, ⟨⟨dx, e, s1, me, m, ys, ss, ms, kvs, mvs, h1, h2, h3, h4, _⟩, _, _, _⟩, q⟩ := h
    exact ⟨_, pss_one (ps_ret (pe_fld (pv 0) rfl)), _, rfl, x, C, dx, _, _, rfl, h1, T.cl, T.nE, (kf_all nm st e s1 me m).2.1, q e ys h3 h4 h2⟩
theorem scK4 : FnScope ["self"] ["self"] (defScope (kMeth 4)) := ⟨rfl, rfl, rfl, by decide +kernel, rfl, by decide +kernel, by decide +kernel⟩
theorem ok_statesM {f : Addr} {fd : FuncData} (F : Fun K "states" "Kind.states" (kMeth 4) f fd) (T : TKM K mg C fKey) : FnOk P w K mg base CX0 1 f fd ["self"] (spNew (KAc C K) statesIn) := by
  refine F.ok scK4 (fun vs H Q E h => ?_) (fun cdv A outer s H vs Q E hr h => ?_)
  · obtain ⟨x, nm, st, es, mv, rfl, _⟩ := h
    rfl
  · obtain ⟨x, nm, st, es, mv, rfl, ⟨⟨dx, e, s1, me, m, ys, ss, ms, kvs, mvs, h1, h2, h3, h4, h5, t5, h6, t6, h7, O⟩, _, _, _⟩, q⟩ := h
    refine ⟨_, pss_one (ps_ret (pe_callTy cr_listRow (by rfl) T.lst (by decide +kernel) (pa_cons (pe_fld (pv 0) rfl) pa_nil))), ?_⟩
    exact ⟨_, rfl, x, C, dx, _, _, rfl, h1, T.cl, T.nSt, (kf_all nm st e s1 me m).2.2.2.2.1, _, _, rfl, ⟨s1, rfl, .inl (.of h5)⟩, fun l hl => q _ l ss (same_upd hl) t5 upd_same⟩
theorem scK5 : FnScope ["self"] ["self"] (defScope (kMeth 5)) := ⟨rfl, rfl, rfl, by decide +kernel, rfl, by decide +kernel, by decide +kernel⟩
theorem ok_methodsM {f : Addr} {fd : FuncData} (F : Fun K "methods" "Kind.methods" (kMeth 5) f fd) (T : TKM K mg C fKey) : FnOk P w K mg base CX0 1 f fd ["self"] (spNew (KAc C K) fun _ _ mv => methodsIn mv) := by
  refine F.ok scK5 (fun vs H Q E h => ?_) (fun cdv A outer s H vs Q E hr h => ?_)
  · obtain ⟨x, nm, st, es, mv, rfl, _⟩ := h
    rfl
  · obtain ⟨x, nm, st, es, mv, rfl, ⟨⟨dx, e, s1, me, m, ys, ss, ms, kvs, mvs, h1, h2, h3, h4, h5, t5, h6, t6, h7, O⟩, _, _, _⟩, q⟩ := h
    refine ⟨_, pss_one (ps_ret (pe_callTy cr_listRow (by rfl) T.lst (by decide +kernel) (pa_cons (pe_fld (pv 0) rfl) pa_nil))), ?_⟩
    exact ⟨_, rfl, x, C, dx, _, _, rfl, h1, T.cl, T.nMe, (kf_all nm st e s1 me m).2.2.2.2.2.1, _, _, rfl, ⟨me, rfl, .inl (.of h6)⟩, fun l hl => q _ l ms (same_upd hl) t6 upd_same⟩
theorem key_in {K : PySem.W.Frag} {H : Hp} {kvs : List (List Key × V)} {mvs : Mv} (M : Moves K H kvs mvs) (a b : Str) : (valV kvs [kInr a, kInr b]).isSome = decide ((a, b) ∈ mvs.map (·.1)) := by
  have e := ent_any M.ent a b
  rw [Bool.eq_iff_iff, decide_eq_true_iff]
  have h1 : (valV kvs [kInr a, kInr b]).isSome = kvs.any fun kv => decide (kv.1 = [kInr a, kInr b]) := by
    unfold valV
    rw [Option.isSome_map, List.isSome_find?]
  rw [h1, e, List.any_eq_true]
  constructor
  · rintro ⟨x, g1, g2⟩
    exact List.mem_map.mpr ⟨x, g1, of_decide_eq_true g2⟩
  · intro h
    obtain ⟨x, g1, g2⟩ := List.mem_map.mp h
    exact ⟨x, g1, decide_eq_true g2⟩
theorem scK9 : FnScope ["self", "x"] ["self", "x"] (defScope (kMeth 9)) := ⟨rfl, rfl, rfl, by decide +kernel, rfl, by decide +kernel, by decide +kernel⟩
def spCont (KA : KAt) : Sp := fun vs H Q _ => ∃ (x q : Addr) (s m : Str) (nm st : Str) (es : List Str) (mv : Mv), vs = [.ref x, .ref q] ∧ KA H x nm st es mv ∧ H q = some (.tup [.str s, .str m]) ∧
  ∀ H', Same H H' → Q (.bl (decide ((s, m) ∈ mv.map (·.1)))) H'
theorem ok_contM {f : Addr} {fd dK : FuncData} (F : Fun K "__contains__" "Kind.__contains__" (kMeth 9) f fd) (T : TKM K mg C fKey) (G : FnOk P w K mg base CX0 1 fKey dK ["thing"] (spIsKey K)) (b : Binds K dK ["thing"] []) :
    FnOk P w K mg base CX0 2 f fd ["self", "x"] (spCont (KAc C K)) := by
  refine F.ok scK9 (fun vs H Q E h => ?_) (fun cdv A outer s H vs Q E hr h => ?_)
  · obtain ⟨x, q, s, m, nm, st, es, mv, rfl, _⟩ := h
    rfl
  · obtain ⟨x, qa, s0, me0, nm, st, es, mv, rfl, ⟨⟨dx, e, s1, me, m, ys, ss, ms, kvs, mvs, h1, h2, h3, h4, h5, t5, h6, t6, h7, O⟩, _, _, _⟩, hq, q⟩ := h
    have hu := hu_of hr
    refine ⟨_, pss_one (ps_ret (pe_and (pe_call G hr (by rfl) T.gKey T.kKey b .nil pass0 (pa_cons (pv 1) pa_nil)) (pe_one (pe_cmp (pc_din hu (pv 1) (pe_fld (pv 0) rfl)))))), ?_⟩
    refine ⟨_, rfl, .ref qa, rfl, .inr (.inr ⟨qa, _, _, true, true, rfl, .of hq, txt_yes _, txt_yes _, true, rfl, iteT ?_⟩)⟩
    refine ⟨_, rfl, _, rfl, x, C, dx, _, _, rfl, h1, T.cl, T.nM, (kf_all nm st e s1 me m).1, m, _, rfl, DGet.t (k := [kInr s0, kInr me0]) h7 hq, ?_⟩
    have e1 : decide ((s0, me0) ∈ mvs.map (·.1)) = decide ((s0, me0) ∈ mv.map (·.1)) := decide_eq_decide.mpr (O.eqm.keys _)
    rw [key_in O.moves, e1]
    exact q H (Same.refl H)
theorem scK8 : FnScope ["self", "at"] ["self", "at"] (defScope (kMeth 8)) := ⟨rfl, rfl, rfl, by decide +kernel, rfl, by decide +kernel, by decide +kernel⟩
theorem ok_item2 {f : Addr} {fd dK : FuncData} (F : Fun K "__getitem__" "Kind.__getitem__" (kMeth 8) f fd) (T : TKM K mg C fKey) (G : FnOk P w K mg base CX0 1 fKey dK ["thing"] (spIsKey K)) (b : Binds K dK ["thing"] []) :
    FnOk P w K mg base CX0 2 f fd ["self", "at"] (spItem2 K (KAc C K)) := by
  refine F.ok scK8 (fun vs H Q E h => ?_) (fun cdv A outer s H vs Q E hr h => ?_)
  · obtain ⟨x, q, s, m, nm, st, es, mv, rfl, _⟩ := h
    rfl
  · obtain ⟨x, qa, s0, me0, nm, st, es, mv, rfl, ⟨⟨dx, e, s1, me, m, ys, ss, ms, kvs, mvs, h1, h2, h3, h4, h5, t5, h6, t6, h7, O⟩, _, _, nd⟩, hq, q0, q⟩ := h
    have hu := hu_of hr
    refine ⟨_, pss_cons (ps_if (pt_val (pe_call G hr (by rfl) T.gKey T.kKey b .nil pass0 (pa_cons (pv 1) pa_nil))) (pss_one (ps_ret (pe_dget1 hu (pe_fld (pv 0) rfl) (pv 1) ⟨rfl, rfl, rfl, rfl⟩))) pss_nil) (pss_one (ps_ret pe_non)), ?_⟩
    refine ⟨_, rfl, .ref qa, rfl, .inr (.inr ⟨qa, _, _, true, true, rfl, .of hq, txt_yes _, txt_yes _, true, rfl, iteT ?_⟩)⟩
    refine ⟨_, rfl, x, C, dx, _, _, rfl, h1, T.cl, T.nM, (kf_all nm st e s1 me m).1, m, rfl, .inr ⟨kvs, .inl h7⟩, _, rfl, _, DGet.t (k := [kInr s0, kInr me0]) h7 hq, ?_⟩
    by_cases inn : (s0, me0) ∈ mv.map (·.1)
    · obtain ⟨en0, mem0, e0⟩ := List.mem_map.mp inn
      obtain ⟨k00, os⟩ := en0
      simp only at e0
      subst e0
      obtain ⟨os', mem', pm⟩ := O.outs _ _ mem0
      obtain ⟨j, hj⟩ := List.mem_iff_getElem?.mp mem'
      have jl : j < kvs.length := by rw [PySem.Paired.length O.tups]; exact (List.getElem?_eq_some_iff.mp hj).1
      obtain ⟨en, e1, ek, t, vs, e2, e3, each⟩ := paired_at O.tups j _ (List.getElem?_eq_getElem jl)
      rw [hj] at e1
      cases e1
      have hval : valV kvs [kInr s0, kInr me0] = some (.ref t) := val_at O.nd (i := j) (by rw [List.getElem?_eq_getElem jl]; exact congrArg some (Prod.ext ek e2))
      rw [hval]
      obtain ⟨ps, e5, e6, e7⟩ := outs_ps2 each
      subst e5
      have e6' : ps.map (·.2) = os' := e6
      exact q os mem0 H t ps (Same.refl H) e3 e7 (by rw [e6']; exact pm) (by rw [e6']; exact O.up _ mem')
    · have hn : valV kvs [kInr s0, kInr me0] = none := by
        have h := key_in O.moves s0 me0
        rw [decide_eq_false (fun z => inn ((O.eqm.keys _).1 z))] at h
        exact Option.not_isSome_iff_eq_none.mp (by rw [h]; exact Bool.false_ne_true)
      rw [hn]
      exact q0 inn H (Same.refl H)
theorem ok_itemM {f : Addr} {fd dK : FuncData} (F : Fun K "__getitem__" "Kind.__getitem__" (kMeth 8) f fd) (T : TKM K mg C fKey) (G : FnOk P w K mg base CX0 1 fKey dK ["thing"] (spIsKey K)) (b : Binds K dK ["thing"] []) :
    FnOk P w K mg base CX0 2 f fd ["self", "at"] (spItem K (KAc C K)) := by
  refine (ok_item2 (P := P) (w := w) (base := base) F T G b).imp ?_
  rintro vs H Q E ⟨x, q, s, m, nm, st, es, mv, os, rfl, ka, hq, mem, k⟩
  refine ⟨x, q, s, m, nm, st, es, mv, rfl, ka, hq, fun n => (n (List.mem_map.mpr ⟨_, mem, rfl⟩)).elim, fun os' mem' H' t ps sm ht hps pm up => k H' t ps sm ht hps ?_ up⟩
  have e1 : outsOf mv (s, m) = os := outsOf_at ka.nd mem
  have e2 : outsOf mv (s, m) = os' := outsOf_at ka.nd mem'
  rw [← e1, e2]
  exact pm
theorem scK6 : FnScope ["self", "key"] ["self"] (defScope (kMeth 6)) := ⟨rfl, rfl, rfl, by decide +kernel, rfl, by decide +kernel, by decide +kernel⟩
theorem ok_movesM {f : Addr} {fd : FuncData} (F : Fun K "moves" "Kind.moves" (kMeth 6) f fd) (T : TKM K mg C fKey) : FnOk P w K mg base CX0 1 f fd ["self"] (spMovesD K (KAc C K)) := by
  refine F.ok scK6 (fun vs H Q E h => ?_) (fun cdv A outer s H vs Q E hr h => ?_)
  · obtain ⟨x, nm, st, es, mv, rfl, _⟩ := h
    rfl
  · obtain ⟨x, nm, st, es, mv, rfl, ⟨⟨dx, e, s1, me, m, ys, ss, ms, kvs, mvs, h1, h2, h3, h4, h5, t5, h6, t6, h7, O⟩, sm, ft, nd⟩, q⟩ := h
    have hu := hu_of hr
    refine ⟨_, pss_one (ps_ret (pe_dcT (tk := tVar 1) (tv := tDGet (tFld K (tVar 0) "_moves") (tVar 1)) (tt := tYes) (own := [("key", 1)]) (g := gName 1) (Nat.lt_of_succ_lt hu) rfl scK6.nd (pi_list (pe_callB (cr_sortedDT rfl) (by rfl) T.sorted (by decide +kernel) (pa_cons (pe_fld (pv 0) rfl) pa_nil))) (blkOk_by (own := [("key", 1)]) (N := ["self", "key"]) (sc := defScope (kMeth 6)) (by decide +kernel))
      (fun _ _ _ _ _ => pg_name (i := 1) scK6.nd rfl (.inl rfl)) (fun _ _ _ _ _ => pts_nil) (fun _ _ _ _ _ => pv 1) (fun _ _ _ _ _ => pe_dget hu (pe_fld (pv 0) rfl) (pv 1) (fun _ _ => rfl)))), ?_⟩
    have l1 := (kf_all nm st e s1 me m).1
    have ek : kvs.map (·.1) = (mvs.map (·.1)).map (fun p => [.inr p.1, .inr p.2]) := by
      have key : ∀ {kvs : List (List Key × V)} {mvs : Mv}, Paired (EntT K H) kvs mvs → kvs.map (·.1) = (mvs.map (·.1)).map (fun p => [.inr p.1, .inr p.2]) := by
        intro kvs mvs p
        induction p with
        | nil => rfl
        | @cons kv e a b h t ih => rw [List.map_cons, List.map_cons, List.map_cons, ih, h.1]
      exact key O.moves.ent
    refine ⟨_, rfl, x, C, dx, _, _, rfl, h1, T.cl, T.nM, l1, m, kvs, mvs.map (·.1), rfl, .inl h7, ek, fun qs p pm up hq hp => ⟨p, rfl, ⟨_, .of upd_same⟩, fun D hD => ?_⟩⟩
    have sp := same_upd (o := .lst ((qs.map (·.1)).map V.ref)) hp
    have lq : qs.length = mv.length := by
      have := pm.length_eq
      rw [List.length_map, List.length_map, O.len] at this
      exact this
    have lm : mv.length ≤ 1000000 := by
      have := lens_states st es mv
      have := sm.len
      omega
    have ndq : (qs.map (·.2)).Nodup := pm.nodup_iff.mpr (keys_nodup_of O.moves)
    refine coll_it (walk_list (xs := (qs.map (·.1)).map V.ref)) (fun i H' => Same (upd H p (.lst ((qs.map (·.1)).map V.ref))) H' ∧ ∃ kvs' : List (List Key × V), H' D = some (.dT kvs') ∧ kvs'.map (·.1) = ((qs.take i).map (·.2)).map keyOf) ⟨same_upd hD, [], upd_same, rfl⟩ (fun i H' _ h => .of (h.1 _ _ upd_same)) ?_ ?_
    · rintro i y H1 H2 hi ⟨s2, kvs', hd, ekeys⟩ ⟨rfl, hy⟩
      rw [List.getElem?_map, List.getElem?_map] at hy
      obtain ⟨a0, h8, rfl⟩ := Option.map_eq_some_iff.mp hy
      obtain ⟨x0, h9, rfl⟩ := Option.map_eq_some_iff.mp h8
      have x0m := List.mem_of_getElem? h9
      have hx0 := hq x0 x0m
      have inn : x0.2 ∈ mvs.map (·.1) := pm.mem_iff.mp (List.mem_map.mpr ⟨x0, x0m, rfl⟩)
      have isS := key_in O.moves x0.2.1 x0.2.2
      rw [decide_eq_true inn] at isS
      obtain ⟨v, hv⟩ := Option.isSome_iff_exists.mp isS
      have sAll : Same H H2 := fun b o z => s2 b o (sp b o z)
      refine ⟨rfl, _, rfl, _, rfl, x, C, dx, _, _, rfl, sAll _ _ h1, T.cl, T.nM, l1, _, rfl, m, v, rfl, .inr ⟨kvs, [kInr x0.2.1, kInr x0.2.2], x0.1, .inl (sAll _ _ h7), rfl, sAll _ _ hx0, hv.symm⟩, ?_⟩
      have nk : valV kvs' [kInr x0.2.1, kInr x0.2.2] = none := by
        cases c : valV kvs' [kInr x0.2.1, kInr x0.2.2] with
        | none => rfl
        | some u =>
          unfold valV at c
          obtain ⟨kv, g1, g2⟩ := Option.map_eq_some_iff.mp c
          have g3 := List.mem_of_find?_eq_some g1
          have g4 : kv.1 = [kInr x0.2.1, kInr x0.2.2] := by simpa using List.find?_some g1
          have g4 : kv.1 = keyOf x0.2 := g4
          have g5 : keyOf x0.2 ∈ ((qs.take i).map (·.2)).map keyOf := by rw [← ekeys, ← g4]; exact List.mem_map.mpr ⟨kv, g3, rfl⟩
          obtain ⟨k1, g6, g7⟩ := List.mem_map.mp g5
          have g8 := keyOf_inj g7
          subst g8
          have nd1 : ((qs.take (i + 1)).map (·.2)).Nodup := by rw [List.map_take]; exact List.Sublist.nodup (List.take_sublist _ _) ndq
          rw [take_one_more h9, List.map_append, List.nodup_append] at nd1
          exact (nd1.2.2 _ g6 _ (List.mem_singleton.mpr rfl) rfl).elim
      have lk : kvs'.length ≤ 1000000 := by
        have h := congrArg List.length ekeys
        rw [List.length_map, List.length_map, List.length_map, List.length_take] at h
        omega
      refine ⟨x0.1, [kInr x0.2.1, kInr x0.2.2], kvs', rfl, sAll _ _ hx0, hd, ln6 _ lk, fun b o z => ?_, _, upd_same, ?_⟩
      · rw [upd_ne (ne_of_none z hD)]
        exact s2 b o z
      · rw [putK_new _ nk, List.map_append, ekeys, take_one_more h9, List.map_append, List.map_append]
        rfl
    · rintro H1 ⟨s2, kvs', hd, ekeys⟩
      rw [List.length_map, List.length_map, List.take_length] at ekeys
      have h := congrArg List.length ekeys
      rw [List.length_map, List.length_map, List.length_map] at h
      exact q H1 D kvs' (fun b o z => s2 b o (sp b o z)) hd (h.trans lq)
end
end Q9
end
-- QKName
section
set_option maxRecDepth 100000
set_option maxHeartbeats 4000000
namespace Q9
open PySem L2
/-! a kind's name -/
def spNameM (KA : KAt) : Sp := fun vs H Q _ => ∃ (x : Addr) (nm st : Str) (es : List Str) (mv : Mv), vs = [.ref x] ∧ KA H x nm st es mv ∧ Q (.str nm) H
def spOr (a b : Sp) : Sp := fun vs H Q E => a vs H Q E ∨ b vs H Q E
theorem FnOk.or {P : Program} {w : World} {K : PySem.W.Frag} {mg : Str → Option Value} {base : Heap} {CX : CXT} {k : Nat} {f : Addr} {fd : FuncData} {ps : List Str} {a b : Sp} (F : FnOk P w K mg base CX k f fd ps a) (G : FnOk P w K mg base CX k f fd ps b) : FnOk P w K mg base CX k f fd ps (spOr a b) :=
  ⟨fun vs H Q E q => q.elim (F.len vs H Q E) (G.len vs H Q E), fun A outer s H args us vs Q E hr he hb hv hs => hs.elim (F.run A outer s H args us vs Q E hr he hb hv) (G.run A outer s H args us vs Q E hr he hb hv)⟩
structure TKE (K : PySem.W.Frag) (mg : Str → Option Value) (C : Addr) : Prop where
  isi : mg "isinstance" = none
  gC : mg "Kind" = some (.ref C)
  ha : PySem.W.findIn K (.ref C) "__class__" = some (some (.builtin "object.__class__"))
  hn : PySem.W.specialIn K (.builtin "object.__class__") "__get__" = some (some (.builtin "getset_descriptor.__get__"))
  htk : PySem.W.takesIn K (.builtin "object.__class__") = some true
  hm : PySem.W.mroIn K C (.type "object") = some true
  me : PySem.W.kitOne K (.ref C) (.ref C) = some true
  nN : NoAttr K C "_name"
section
variable {P : Program} {w : World} {K : PySem.W.Frag} {mg : Str → Option Value} {base : Heap} {C fKey : Addr}
theorem scK1 : FnScope ["self"] ["self"] (defScope (kMeth 1)) := ⟨rfl, rfl, rfl, by decide +kernel, rfl, by decide +kernel, by decide +kernel⟩
theorem ok_nameM {f : Addr} {fd : FuncData} (F : Fun K "name" "Kind.name" (kMeth 1) f fd) (T : TKM K mg C fKey) (TE : TKE K mg C) : FnOk P w K mg base CX0 1 f fd ["self"] (spNameM (KAc C K)) := by
  refine F.ok scK1 (fun vs H Q E h => ?_) (fun cdv A outer s H vs Q E hr h => ?_)
  · obtain ⟨x, nm, st, es, mv, rfl, _⟩ := h
    rfl
  · obtain ⟨x, nm, st, es, mv, rfl, ⟨⟨dx, e, s1, me, m, ys, ss, ms, kvs, mvs, h1, _⟩, _, _, _⟩, q⟩ := h
    exact ⟨_, pss_one (ps_ret (pe_fld (pv 0) rfl)), _, rfl, x, C, dx, _, _, rfl, h1, T.cl, TE.nN, (kf_all nm st e s1 me m).2.2.2.1, q⟩
end
end Q9
end
-- QEnumT
section
set_option maxRecDepth 100000
set_option maxHeartbeats 4000000
/-! enumerate(t), t a tuple -/
namespace PySem
open Sem (wp)
section
variable {prog : Program} {w : World} {A : Around} {E : Value → Shared → Prop} {s : Shared}
theorem q9_nextOf_tup {it t : Addr} {i : Nat} {its : Array Value} {x : Value} {Q : Value → Shared → Prop} (atI : s.heap.IsTupleIter it t i) (atT : s.heap.IsTuple t its) (hx : its[i]? = some x)
    (go : ∀ h', h'.IsTupleIter it t (i + 1) → Heap.SameBut it s.heap h' → Q x { s with heap := h' }) : wpAny (model prog w) A (Builtin.SmallTypes.nextOf (.ref it)) Q E s := by
  obtain ⟨ob, lo, lc, ld⟩ := id atI
  obtain ⟨ot, to, _, nt, td⟩ := atT
  unfold Builtin.SmallTypes.nextOf
  refine wpAny_bind (wpAny_callSpecial?_slot (name := Str.ofString "__next__") atI.typeIs F.slot_tuple_iterator_next (wpAny_call_entry F.slot_tuple_iterator_next atI.typeIs F.entry_tuple_iterator_next ?_ (F.args_tuple_iterator_next_1 _)))
  show wpAny _ _ (field (.ref it) 0 >>= _) _ _ s
  refine wpAny_bind (wpAny_field lo ld (x := .ref t) rfl ?_)
  show wpAny _ _ (if (Value.ref t == Value.none) = true then _ else _) _ _ s
  rw [if_neg (show ¬ ((Value.ref t == Value.none) = true) from Bool.false_ne_true)]
  show wpAny _ _ (field (.ref it) 1 >>= _) _ _ s
  refine wpAny_bind (wpAny_field lo ld (x := .int i 0) rfl ?_)
  show wpAny _ _ (seqItems? (.ref t) >>= _) _ _ s
  refine wpAny_bind (wpAny_seqItems to td ?_)
  simp only [Int.toNat_natCast, hx]
  refine wpAny_bind (wpAny_setField lo ld (by simp) (wpAny_pure ⟨x, rfl, wpAny_pure (go _ ?_ (Heap.SameBut.update ..))⟩))
  exact ⟨_, Heap.get?_update_self _ lo (Obj.isFreed_of_fields (Obj.data_mapFields ld _)), (Obj.cls_mapFields ..).trans lc, by rw [Obj.data_mapFields ld]; simp [rawInt]⟩
theorem q9_nextOf_tupEnd {it t : Addr} {i : Nat} {its : Array Value} {Q : Value → Shared → Prop} (calm : A.handled = none) (atI : s.heap.IsTupleIter it t i) (atT : s.heap.IsTuple t its) (hx : its[i]? = none)
    (out : ∀ h' e, Heap.ExtBut it s.heap h' → (∃ o, h'.get? e = some o ∧ o.cls = .type "StopIteration") → E (.ref e) { s with heap := h' }) : wpAny (model prog w) A (Builtin.SmallTypes.nextOf (.ref it)) Q E s := by
  obtain ⟨ob, lo, lc, ld⟩ := id atI
  obtain ⟨ot, to, _, nt, td⟩ := atT
  unfold Builtin.SmallTypes.nextOf
  refine wpAny_bind (wpAny_callSpecial?_slot (name := Str.ofString "__next__") atI.typeIs F.slot_tuple_iterator_next (wpAny_call_entry F.slot_tuple_iterator_next atI.typeIs F.entry_tuple_iterator_next ?_ (F.args_tuple_iterator_next_1 _)))
  show wpAny _ _ (field (.ref it) 0 >>= _) _ _ s
  refine wpAny_bind (wpAny_field lo ld (x := .ref t) rfl ?_)
  show wpAny _ _ (if (Value.ref t == Value.none) = true then _ else _) _ _ s
  rw [if_neg (show ¬ ((Value.ref t == Value.none) = true) from Bool.false_ne_true)]
  show wpAny _ _ (field (.ref it) 1 >>= _) _ _ s
  refine wpAny_bind (wpAny_field lo ld (x := .int i 0) rfl ?_)
  show wpAny _ _ (seqItems? (.ref t) >>= _) _ _ s
  refine wpAny_bind (wpAny_seqItems to td ?_)
  simp only [Int.toNat_natCast, hx]
  refine wpAny_bind (wpAny_rule (wpAny_bind (wpAny_setField lo ld (by simp) ?_)))
  show wpAny _ _ (newExc (.type "StopIteration") [] >>= _) _ _ _
  refine wpAny_bind ?_
  simp only [newExc, newTuple]
  refine wpAny_bind (wpAny_newObj_type ?_ (by size_fits))
  refine wpAny_bind (m := firstArgMember _ _) (wpAny_of_eq (a := Value.none) (by first | rfl | (simp only [firstArgMember]; rfl)) ?_)
  refine wpAny_newObj_type ?_ (by size_fits)
  simp only [raiseNew]
  refine wpAny_bind (wpAny_handled ?_)
  first | rw [show A.in1.handled = none from calm] | rw [calm]
  refine wpAny_bind (wpAny_pure (wpAny_throw ?_))
  exact out _ _ (((Heap.SameBut.update ..).extBut.push _).push _) ⟨_, Heap.get?_push_size _ rfl, rfl⟩
end
theorem q9_draws_tup {prog : Program} {w : World} {A : Around} (calm : A.handled = none) (it t : Addr) (ne : t ≠ it) (its : Array Value) :
    Draws prog w A it [it, t] its.size (fun i v => its[i]? = some v) (fun i h => h.IsTupleIter it t i ∧ h.IsTuple t its) where
  live := fun _ _ z => let ⟨o, e, _⟩ := z.1; ⟨o, e⟩
  frame := fun _ _ _ z k => ⟨z.1.at fun o e => k it (by simp) o e, let ⟨o, e, r⟩ := z.2; ⟨o, k t (by simp) o e, r⟩⟩
  item := fun i s Q E lt z go => by
    refine q9_nextOf_tup z.1 z.2 (x := its[i]) (by simp [lt]) fun h' a b => ?_
    exact go _ h' s.toks (by simp [lt]) ⟨a, z.2.extBut b.extBut ne⟩ b
  done := fun s Q E z out => q9_nextOf_tupEnd calm z.1 z.2 (by simp) out
theorem q9_enum_newT (l : Addr) (its : Array Value) (n : Nat) (dct : Option Addr) (sl : Array (Option Value)) :
    Meets (Builtin.«enumerate.__new__» ⟨[.type "enumerate", .ref l], []⟩) (fun _ R s => s.heap.get? l = some { cls := .type "tuple", dict := dct, data := .seq its n, slots := sl } ∧
      R (.ok (.ret (.ref (s.heap.push { cls := .type "tuple_iterator", data := .fields #[.ref l, .int 0 0] }).objs.size)))
        { s with heap := (s.heap.push { cls := .type "tuple_iterator", data := .fields #[.ref l, .int 0 0] }).push { cls := .type "enumerate", data := .fields #[.none, .bool false, .ref s.heap.objs.size, rawInt 0, .none, .none] } }) :=
  .of_wp fun prog w A R s h => by
    obtain ⟨hp, g, d, tk, os⟩ := s
    obtain ⟨hl, h⟩ := h
    have hsub := sub_enumerate
    have hT : Heap.IsTuple (Shared.heap ⟨hp, g, d, tk, os⟩) l its := ⟨_, hl, rfl, n, rfl⟩
    wp_walk using AutoSeq1.wpAny_loadPart' hl
    refine wpAny_stack_any fun st => wpAny_pure ?_
    split
    · rename_i c _ _ _ _ _
      cases (c == Value.type "enumerate")
      · wp_walk using AutoSeq1.wpAny_loadPart' hl, wpAny_pyIter_tuple hT
        exact ⟨_, rfl, h⟩
      · wp_walk using AutoSeq1.wpAny_loadPart' hl, wpAny_pyIter_tuple hT
        exact ⟨_, rfl, h⟩
    · wp_walk using AutoSeq1.wpAny_loadPart' hl, wpAny_pyIter_tuple hT
      exact ⟨_, rfl, h⟩
theorem q9_call_enumT {prog : Program} {w : World} {A : Around} {E : Value → Shared → Prop} {s : Shared} {l : Addr} {its : Array Value} {Q : Value → Shared → Prop} (hL : s.heap.IsTuple l its)
    (go : ∀ h', IsEnum h' (s.heap.objs.size + 1) s.heap.objs.size 0 .none → h'.IsTupleIter s.heap.objs.size l 0 → h'.objs.size = s.heap.objs.size + 2 → (∀ b o, s.heap.get? b = some o → h'.get? b = some o) → Q (.ref (s.heap.objs.size + 1)) { s with heap := h' }) :
    wpAny (model prog w) A (call (.type "enumerate") [.ref l]) Q E s := by
  obtain ⟨⟨c, dct, dt, sl⟩, hl, hc, n, hd⟩ := hL
  replace hc : c = .type "tuple" := hc
  replace hd : dt = .seq its n := hd
  subst hc hd
  refine callType_new F.called_enumerate (by decide) (F.typeCall_enumerate_1 _) (F.newCall_enumerate_1 _) (fun obj => F.args_object_init_2 obj _) F.entry_enumerate_new (q9_enum_newT l its n dct sl) ⟨hl, ?_⟩
  have hz : (s.heap.push { cls := .type "tuple_iterator", data := .fields #[.ref l, .int 0 0] }).objs.size = s.heap.objs.size + 1 := Heap.size_push ..
  show _ ∧ _
  rw [hz]
  have he : IsEnum ((s.heap.push { cls := .type "tuple_iterator", data := .fields #[.ref l, .int 0 0] }).push
      { cls := .type "enumerate", data := .fields #[.none, .bool false, .ref s.heap.objs.size, rawInt 0, .none, .none] }) (s.heap.objs.size + 1) s.heap.objs.size 0 .none := by
    have := Heap.get?_push_size (s.heap.push { cls := .type "tuple_iterator", data := .fields #[.ref l, .int 0 0] }) (o := { cls := .type "enumerate", data := .fields #[.none, .bool false, .ref s.heap.objs.size, rawInt 0, .none, .none] }) rfl
    rw [hz] at this
    exact this
  refine ⟨⟨_, he, rfl⟩, go _ he ⟨_, Heap.get?_push_of_some _ (Heap.get?_push_size _ rfl), rfl, rfl⟩ (by rw [Heap.size_push, hz]) fun b o x => Heap.get?_push_of_some _ (Heap.get?_push_of_some _ x)⟩
end PySem
namespace Q9
open PySem PySem.Spec PyProof.Rows L2
/-- the tuple at a as it stands at each turn, each item in a new pair -/
def IteT (K : PySem.W.Frag) (a : Addr) : It :=
  ⟨fun i H => ∃ (xs : List V) (x : V), SqT K H a xs ∧ xs[i]? = some x, fun i H v H' => ∃ (T : Addr) (x : V), v = .ref T ∧ H T = none ∧ H' = upd H T (.tup [.int (i : Nat), x]) ∧ ∀ xs, SqT K H a xs → xs[i]? = some x, fun i H => ∃ xs : List V, SqT K H a xs ∧ xs.length = i⟩
theorem turn_enumT {P : Program} {w : World} {K : PySem.W.Frag} {elts : List Expr} {kk : Nat} {tpos : Pos} (a e it : Addr) (apart : a ≠ it ∧ a ≠ e) :
    Turn P w K (.Tuple elts kk tpos) (IteT K a) [e, it] e (fun i h => (∃ old, IsEnum h e it ((i : Nat) : Int) old) ∧ h.IsTupleIter it a i ∧ e ≠ it) where
  mem := by simp
  obj := fun i h z b hb => by
    obtain ⟨⟨old, he⟩, ⟨o, ho, hc, hd⟩, _⟩ := z
    rcases (by simpa using hb : b = e ∨ b = it) with z | z
    · rw [z]; exact ⟨_, he, fun v q => nomatch q⟩
    · rw [z]; exact ⟨o, ho, fun v q => by rw [hd] at q; cases q⟩
  keep := fun i h h' z k => let ⟨⟨old, he⟩, hi, hne⟩ := z; ⟨⟨old, k e (by simp) _ he⟩, hi.at fun o q => k it (by simp) o q, hne⟩
  item := by
    intro X eP eW eK clm i pn s σ H E I fre z now
    subst eP eW eK
    obtain ⟨⟨old, he⟩, hit, hne⟩ := z
    obtain ⟨xs, x, hq, hx⟩ := now
    obtain ⟨its, rv, p, hz⟩ := I.tuple hq
    have p' : s.heap.IsTuple a its.toArray := p
    obtain ⟨u, hu, ru⟩ := rv.get hx
    have hel : e < s.heap.objs.size := Heap.lt_size he
    have hil : it < s.heap.objs.size := by obtain ⟨_, q, _⟩ := hit; exact Heap.lt_size q
    have lt : i < its.toArray.size := by
      have := (List.getElem?_eq_some_iff.mp hu).1
      simpa using this
    refine wpAny_pyNext_enum_itemD (q9_draws_tup (A := X.A.in1) (show X.A.in1.handled = none from I.ok.hd clm) it a apart.1 its.toArray) he ⟨hit, p'⟩ lt hne (by simp only [List.mem_cons, List.not_mem_nil, or_false, not_or]; exact ⟨hne, fun z => apart.2 z.symm⟩) fun y h' tk hy ho hSt hT hsz hk => ?_
    have ey : y = u := by
      have h2 : its.toArray[i]? = some u := by simpa using hu
      rw [hy] at h2
      exact Option.some.inj h2
    subst ey
    refine ⟨_, rfl, wpAny_letOwnedTupleGo_enum (s := { s with heap := h', toks := tk + 1 }) ho fun h'' he' sb => ?_⟩
    have hT2 : h''.get? s.heap.objs.size = some { cls := .type "tuple", data := .seq #[.int i tk, y] } := (sb.2 _ (Nat.ne_of_gt hel)).trans hT
    have new : ObjOk X.prog X.w (upd H s.heap.objs.size (.tup [.int (i : Nat), x])) h'' s.heap.objs.size (.tup [.int (i : Nat), x]) :=
      ⟨by show 2 ≤ sizeLine; decide, [.int i tk, y], .cons ⟨_, rfl⟩ (.cons ru .nil), ⟨_, hT2, rfl, _, rfl⟩⟩
    have J1 : Inv X pn σ (upd H s.heap.objs.size (.tup [.int (i : Nat), x])) { s with heap := h'', toks := tk + 1 } :=
      I.turnedNew (ch := [e, it]) (fun b ob hb q => (sb.2 b (fun z => hb (by simp [z]))).trans (hk b ob (fun z => hb (by simp [z])) (fun z => hb (by simp [z])) q)) fre (Nat.le_refl _) new
    refine ⟨.ref s.heap.objs.size, _, J1, rfl, ⟨_, x, rfl, I.hok.fresh (Nat.le_refl _), rfl, fun ys hy2 => ?_⟩, ⟨⟨y, ?_⟩, hSt.1.at fun o q => (sb.2 it (Ne.symm hne)).trans q, hne⟩, fun b hb => ?_⟩
    · rw [I.tuple_inj hy2 hq]; exact hx
    · have e1 : ((i + 1 : Nat) : Int) = (i : Int) + 1 := by omega
      rw [e1]; exact he'
    · have hb' : b < s.heap.objs.size := by
        rcases (by simpa using hb : b = e ∨ b = it) with z | z
        · rw [z]; exact hel
        · rw [z]; exact hil
      rw [upd_ne (Nat.ne_of_lt hb')]
      exact (fre b hb).1
  done := by
    intro X eP eW eK clm i pn s σ H E I fre z now
    subst eP eW eK
    obtain ⟨⟨old, he⟩, hit, hne⟩ := z
    obtain ⟨xs, hq, hx⟩ := now
    obtain ⟨its, rv, p, hz⟩ := I.tuple hq
    obtain ⟨f0, f1, f2, f3, f4, f5⟩ := fre it (by simp)
    have hl := rv.length
    have p' : s.heap.IsTuple a its.toArray := p
    have st0 : s.heap.IsTupleIter it a its.toArray.size ∧ s.heap.IsTuple a its.toArray := by
      refine ⟨?_, p'⟩
      have e1 : its.toArray.size = i := by rw [List.size_toArray]; omega
      rw [e1]
      exact hit
    exact wpAny_pyNext_enum_endD (q9_draws_tup (A := X.A.in1) (show X.A.in1.handled = none from I.ok.hd clm) it a apart.1 its.toArray) he st0 fun h' eb => ⟨rfl, I.turned (t' := s.toks) (fun b o hb q => eb b o hb q) f0 f1 f3 f4 f5⟩
  self := fun A i s Q E z h => let ⟨⟨_, he⟩, _⟩ := z; wpAny_pyIter_enum he h
theorem walk_enumT {K : PySem.W.Frag} {a : Addr} {xs : List V} : Walk (IteT K a) xs.length (fun H => SqT K H a xs) (YPair (fun i => some (.int (i : Nat))) (fun i => xs[i]?)) := by
  refine ⟨fun i _ hi q => ⟨xs, xs[i], q, by simp [hi]⟩, fun _ q => ⟨xs, q, rfl⟩, fun i H v H' _ q y => ?_⟩
  obtain ⟨T, x, h1, h2, h3, h4⟩ := y
  exact ⟨T, .int (i : Nat), x, h1, h2, h3, rfl, h4 xs q⟩
/-- x is a list or a tuple of xs -/
abbrev Row0 (K : PySem.W.Frag) (H : Hp) (x : V) (xs : List V) : Prop := ∃ a, x = .ref a ∧ (SqL K H a xs ∨ SqT K H a xs)
/-- enumerate(row), the row as it stood at some heap ahead -/
def iEnumB (K : PySem.W.Frag) (ta : TA) : TI := fun σ H R => ta σ H fun vs H1 => ∃ (x : V) (xs : List V) (H0 : Hp), vs = [x] ∧ Row0 K H0 x xs ∧ L2.Same H0 H1 ∧
  ∀ (J : It) (G : Hp → Prop), (∀ H', L2.Same H0 H' → G H') → Walk J xs.length G (YPair (fun i => some (.int (i : Nat))) (fun i => xs[i]?)) → R J H1
theorem sqT_same0 {K : PySem.W.Frag} {H H' : Hp} {a : Addr} {xs : List V} (s : L2.Same H H') (h : SqT K H a xs) : SqT K H' a xs := by
  rcases h with (h | ⟨o, h⟩) | h
  · exact .inl (.inl (s _ _ h))
  · exact .inl (.inr ⟨o, s _ _ h⟩)
  · exact .inr h
theorem pi_enumB {X : Cx} {e : Expr} {ta : TA} {p pos tpos : Pos} {elts : List Expr} {kk : Nat} (hg : Gl X "enumerate") (hm : X.mg "enumerate" = none) (ha : PA X [e] ta) (hs : starEach [e] X.env = [(false, eval e X.env)] := by rfl) :
    PI X (.Tuple elts kk tpos) (.Call (.Name "enumerate" p) [e] [] pos) (iEnumB X.K ta) := by
  refine ⟨fun pn s σ H R I h => ?_⟩
  refine Call_ (ld_blt I hg hm boot_enumerate (PyProof.Rows.callWith_type1 (thn (ha.run pos pn s σ H _ I h) fun us s1 ⟨vs, H1, I1, r1, q1⟩ => ?_) hs rfl))
  obtain ⟨x, xs, H0, ex, ⟨a, rfl, hq⟩, s0, q⟩ := q1
  subst ex
  cases r1 with
  | cons r rr =>
    cases rr
    cases r
    have far : ∀ b, b ∈ [s1.heap.objs.size + 1, s1.heap.objs.size] → s1.heap.objs.size ≤ b := fun b hb => by
      rcases (by simpa using hb : b = s1.heap.objs.size + 1 ∨ b = s1.heap.objs.size) with z | z
      · rw [z]; exact Nat.le_add_right _ _
      · rw [z]; exact Nat.le_refl _
    rcases hq with hq | hq
    · obtain ⟨its, rv, p', hz⟩ := I1.list (s0.seq hq)
      refine call_enumerate_list p'.isList fun h' he hit hsz hk => wpAny_pyIter_enum he ?_
      have I2 : Inv X pn σ H1 { s1 with heap := h' } := I1.kept (t' := s1.toks) hk
      exact ⟨s1.heap.objs.size + 1, [s1.heap.objs.size + 1, s1.heap.objs.size], _, _, H1, rfl, I2, turn_enum a (s1.heap.objs.size + 1) s1.heap.objs.size, ⟨⟨.none, he⟩, hit, Nat.succ_ne_self _⟩, fun b hb => I1.fpOk (far b hb) (I1.hok.fresh (far b hb)),
        q _ (fun H' => SqL X.K H' a xs) (fun H' s => s.seq hq) walk_enum⟩
    · obtain ⟨its, rv, p', hz⟩ := I1.tuple (sqT_same0 s0 hq)
      have pt : s1.heap.IsTuple a its.toArray := p'
      have al : a < s1.heap.objs.size := by obtain ⟨o, e, _⟩ := pt; exact Heap.lt_size e
      refine q9_call_enumT pt fun h' he hit hsz hk => wpAny_pyIter_enum he ?_
      have I2 : Inv X pn σ H1 { s1 with heap := h' } := I1.kept (t' := s1.toks) hk
      exact ⟨s1.heap.objs.size + 1, [s1.heap.objs.size + 1, s1.heap.objs.size], _, _, H1, rfl, I2, turn_enumT a (s1.heap.objs.size + 1) s1.heap.objs.size ⟨Nat.ne_of_lt al, Nat.ne_of_lt (Nat.lt_succ_of_lt al)⟩, ⟨⟨.none, he⟩, hit, Nat.succ_ne_self _⟩, fun b hb => I1.fpOk (far b hb) (I1.hok.fresh (far b hb)),
        q _ (fun H' => SqT X.K H' a xs) (fun H' s => sqT_same0 s hq) walk_enumT⟩
/-- a, b, .. = a list or a tuple of that length -/
def gRowT (K : PySem.W.Frag) (n : Nat) (t : TGs) : TG := fun v σ H Q => ∃ xs, Row0 K H v xs ∧ xs.length = n ∧ t xs σ H Q
theorem pg_rowT {X : Cx} {pos : Pos} {es : List Expr} {k : Nat} {t : TGs} {n : Nat} (hc : X.calm = true) (h : PGs X es t) (hn : (assignEach es X.env).length = n := by rfl) (hst : (assignEach es X.env).findIdx? (·.1) = none := by rfl) : PG X (.Tuple es k pos) (gRowT X.K n t) := by
  refine ⟨fun pn s σ H v u Q I r ⟨xs, ⟨a, e, hq⟩, l, w⟩ => ?_⟩
  rcases hq with hq | hq
  · exact (pg_lst hc h hn hst).run pn s σ H v u Q I r ⟨a, xs, e, hq, l, w⟩
  · exact (pg_tup hc h hn hst).run pn s σ H v u Q I r ⟨a, xs, e, hq, l, w⟩
end Q9
end
-- QFun
section
set_option maxRecDepth 100000
set_option maxHeartbeats 4000000
namespace Q9
open PySem L2
/-! what is a function of a program, by its form -/
def NotRow (K : PySem.W.Frag) (H : Hp) (x : V) : Prop := ∃ t, TyX K H x t ∧ PySem.W.kitOne K t (.type "list") = some false ∧ PySem.W.kitOne K t (.type "tuple") = some false
/-- a thing: is it a name -/
def ItemB (K : PySem.W.Frag) (H : Hp) (v : V) (b : Bool) : Prop := (∃ z, v = .str z ∧ z.length ≤ sizeLine ∧ b = nameB z) ∨ (OfTy K H v "str" false ∧ b = false)
theorem notRow_up {K : PySem.W.Frag} {H H' : Hp} (s : Same H H') {x : V} (h : NotRow K H x) : NotRow K H' x := by
  obtain ⟨t, ty, e⟩ := h
  exact ⟨t, same_ty s ty, e⟩
theorem itemB_up {K : PySem.W.Frag} {H H' : Hp} (s : Same H H') {x : V} {b : Bool} (h : ItemB K H x b) : ItemB K H' x b := by
  rcases h with h | ⟨⟨t, ty, e⟩, h⟩
  · exact .inl h
  · exact .inr ⟨⟨t, same_ty s ty, e⟩, h⟩
theorem itemB_name {K : PySem.W.Frag} {H : Hp} {z : Str} (h : nameB z = true) : ItemB K H (.str z) true := .inl ⟨z, rfl, name_len h, h.symm⟩
/-- no row of names -/
def NoNames (K : PySem.W.Frag) (H : Hp) (x : V) : Prop := NotRow K H x ∨ ∃ xs bs, Row K H x xs ∧ Paired (ItemB K H) xs bs ∧ xs.length + 1 < scanBound ∧ bs.all id = false
theorem noNames_up {K : PySem.W.Frag} {H H' : Hp} (s : Same H H') {x : V} (h : NoNames K H x) : NoNames K H' x := by
  rcases h with h | ⟨xs, bs, r, p, l, b⟩
  · exact .inl (notRow_up s h)
  · exact .inr ⟨xs, bs, row_up s r, L2.Paired.mapP p fun _ _ => itemB_up s, l, b⟩
def spUnlikeN (K : PySem.W.Frag) : Sp := fun vs H Q _ => ∃ x, vs = [x] ∧ NoNames K H x ∧ ∀ H', Same H H' → Q (.bl false) H'
section
variable {P : Program} {w : World} {K : PySem.W.Frag} {mg : Str → Option Value} {base : Heap} {fRow fName fUn : Addr}
theorem isName_at {H : Hp} {v : V} {b : Bool} {Q : VK} {E : XK} (h : ItemB K H v b) (q : ∀ H', Same H H' → Q (.bl b) H') : spForm K nameB [v] H Q E := by
  rcases h with ⟨z, rfl, l, rfl⟩ | ⟨o, rfl⟩
  · exact ⟨_, rfl, .inl ⟨z, rfl, l, q⟩⟩
  · exact ⟨_, rfl, .inr ⟨o, q⟩⟩
theorem isRow_not {H : Hp} {v : V} {Q : VK} {E : XK} (h : NotRow K H v) (q : ∀ H', Same H H' → Q (.bl false) H') : spIsRow K [v] H Q E := by
  obtain ⟨t, ty, e1, e2⟩ := h
  exact ⟨_, rfl, .inr ⟨t, ty, e1, e2, q⟩⟩
theorem ok_unlikeN {f : Addr} {fd fdR fdN : FuncData} (F : Fun K "are_unlike_names" "are_unlike_names" sUnlike f fd) (T : TForm K mg fRow) (gN : mg "is_name" = some (.ref fName)) (kN : PySem.W.keepIn K (.ref fName) = true)
    (GR : FnOk P w K mg base CX0 1 fRow fdR ["thing"] (spIsRow K)) (bR : Binds K fdR ["thing"] []) (GN : FnOk P w K mg base CX0 2 fName fdN ["thing"] (spForm K nameB)) (bN : Binds K fdN ["thing"] []) : FnOk P w K mg base CX0 3 f fd ["thing"] (spUnlikeN K) := by
  refine F.ok scUn (fun vs H Q E h => ?_) (fun cdv A outer s H vs Q E hr h => ?_)
  · obtain ⟨x, rfl, _⟩ := h
    rfl
  · obtain ⟨x, rfl, no, q⟩ := h
    refine ⟨_, pss_one (ps_ret (pe_and (pe_call GR (hr.mono (by decide)) (by rfl) T.gRow T.kRow bR .nil pass0 (pa_cons (pv 0) pa_nil))
      (pe_and (pe_callB (cr_all rfl) (by rfl) T.all (by decide +kernel) (pa_cons
        (pe_lc (own := [("one", 1)]) (g := gName 1) (tt := tYes) rfl scUn.nd (pi_row (pv 0)) (blkOk_by (own := [("one", 1)]) (N := ["thing", "one"]) (sc := defScope sUnlike) (by decide +kernel))
          (fun _ _ _ _ _ => pg_name (i := 1) scUn.nd rfl (.inl rfl)) (fun _ _ _ _ _ => pts_nil) (fun _ _ _ _ _ => pe_call GN hr (by rfl) gN kN bN .nil pass0 (pa_cons (pv 1) pa_nil))) pa_nil))
      (pe_one (pe_cmpR op_eq (pe_callB cr_lenKs (by rfl) T.len (by decide +kernel) (pa_cons (pe_callTy (cr_setOf rfl) (by rfl) T.set (by decide +kernel) (pa_cons (pv 0) pa_nil)) pa_nil)) (pe_callB cr_lenRow (by rfl) T.len (by decide +kernel) (pa_cons (pv 0) pa_nil)) (nomark _)))))), ?_⟩
    rcases no with nr | ⟨xs, bs, r, pb, sl, ab⟩
    · obtain ⟨t, ty, e1, e2⟩ := nr
      exact ⟨_, rfl, x, rfl, .inr ⟨t, ty, e1, e2, fun H1 s1 => ⟨false, rfl, iteF (q H1 s1)⟩⟩⟩
    refine ⟨_, rfl, x, rfl, .inl ⟨_, r, fun H1 s1 => ⟨true, rfl, iteT ?_⟩⟩⟩
    refine ⟨_, rfl, _, row_up s1 r, fun J G hG wk D hD => ?_⟩
    refine lc_it wk (fun i H' => Same H1 H' ∧ H' D = some (.lst ((bs.take i).map V.bl))) ⟨same_upd hD, upd_same⟩ (fun _ _ _ p => hG _ p.1) ?_ ?_
    · rintro i v H2 H3 hi ⟨sm, hl'⟩ ⟨rfl, hv⟩
      obtain ⟨b, hb, ib⟩ := paired_at pb i _ hv
      refine ⟨rfl, _, rfl, ?_⟩
      dsimp only [tNil, List.append_nil]
      refine isName_at (itemB_up (fun _ _ z => sm _ _ (s1 _ _ z)) ib) fun H4 s4 => ⟨_, s4 _ _ hl', ?_, ?_⟩
      · have : scanBound = 4096 := rfl
        rw [List.length_map, List.length_take, PySem.sizeLine_eq]
        have := PySem.Paired.length pb
        omega
      · refine ⟨fun b o e => ?_, ?_⟩
        · rw [upd_ne (ne_of_none e hD)]
          exact s4 _ _ (sm _ _ e)
        · rw [upd_same, take_one_more hb, List.map_append]
          rfl
    · rintro H2 ⟨s2, hl'⟩
      rw [PySem.Paired.length pb, List.take_length] at hl'
      refine ⟨_, _, rfl, .of hl', _, rfl, ?_⟩
      rw [ab]
      exact iteF (q H2 fun _ _ z => s2 _ _ (s1 _ _ z))
end
/-! a function -/
structure FP where
  nm : Str
  ps : List Str
  body : V
def RightF (K : PySem.W.Frag) (H : Hp) (v : V) (f : FP) : Prop := nameB f.nm = true ∧ (∀ z ∈ f.ps, nameB z = true) ∧ f.ps.Nodup ∧ f.ps.length ≤ 3 ∧ ∃ pv bs, Row K H v [.str f.nm, pv, f.body] ∧ Row K H pv (f.ps.map V.str) ∧ Row K H f.body bs
/-- its parameters are none -/
def BadPs (K : PySem.W.Frag) (H : Hp) (p : V) : Prop := NoNames K H p ∨ ∃ ss : List Str, Row K H p (ss.map V.str) ∧ (∀ z ∈ ss, z.length ≤ sizeLine) ∧ ss.length + 1 < scanBound ∧ (ss.all nameB && decide ss.Nodup) = false
def BadF (K : PySem.W.Frag) (H : Hp) (v : V) : Prop := NotRow K H v ∨ (∃ xs, Row K H v xs ∧ xs.length ≠ 3) ∨ (∃ x p b, Row K H v [x, p, b] ∧ ItemB K H x false) ∨ (∃ z p b, Row K H v [.str z, p, b] ∧ nameB z = true ∧ BadPs K H p) ∨
  ∃ z p b, ∃ ss : List Str, Row K H v [.str z, p, b] ∧ nameB z = true ∧ Row K H p (ss.map V.str) ∧ (∀ z ∈ ss, nameB z = true) ∧ ss.Nodup ∧ ss.length + 1 < scanBound ∧ (3 < ss.length ∨ NotRow K H b)
theorem rightF_up {K : PySem.W.Frag} {H H' : Hp} (s : Same H H') {v : V} {f : FP} (h : RightF K H v f) : RightF K H' v f := by
  obtain ⟨a, b, c, d, p, bs, r1, r2, r3⟩ := h
  exact ⟨a, b, c, d, p, bs, row_up s r1, row_up s r2, row_up s r3⟩
theorem badPs_up {K : PySem.W.Frag} {H H' : Hp} (s : Same H H') {v : V} (h : BadPs K H v) : BadPs K H' v := by
  rcases h with h | ⟨ss, r, l⟩
  · exact .inl (noNames_up s h)
  · exact .inr ⟨ss, row_up s r, l⟩
theorem badF_up {K : PySem.W.Frag} {H H' : Hp} (s : Same H H') {v : V} (h : BadF K H v) : BadF K H' v := by
  rcases h with h | ⟨xs, r, n⟩ | ⟨x, p, b, r, i⟩ | ⟨z, p, b, r, n, i⟩ | ⟨z, p, b, ss, r, n, r2, a, nd, l, c⟩
  · exact .inl (notRow_up s h)
  · exact .inr (.inl ⟨xs, row_up s r, n⟩)
  · exact .inr (.inr (.inl ⟨x, p, b, row_up s r, itemB_up s i⟩))
  · exact .inr (.inr (.inr (.inl ⟨z, p, b, row_up s r, n, badPs_up s i⟩)))
  · exact .inr (.inr (.inr (.inr ⟨z, p, b, ss, row_up s r, n, row_up s r2, a, nd, l, c.imp id (notRow_up s)⟩)))
def spIsFun (K : PySem.W.Frag) : Sp := fun vs H Q _ => ∃ x, vs = [x] ∧ ((∃ f, RightF K H x f ∧ ∀ H', Same H H' → Q (.bl true) H') ∨ (BadF K H x ∧ ∀ H', Same H H' → Q (.bl false) H'))
structure TFun (K : PySem.W.Frag) (mg : Str → Option Value) (fRow fName fUn : Addr) : Prop where
  gR : mg "is_row" = some (.ref fRow)
  kR : PySem.W.keepIn K (.ref fRow) = true
  gN : mg "is_name" = some (.ref fName)
  kN : PySem.W.keepIn K (.ref fName) = true
  gU : mg "are_unlike_names" = some (.ref fUn)
  kU : PySem.W.keepIn K (.ref fUn) = true
  len : mg "len" = none
  most : ∃ t, mg "MOST_PARAMS" = some (.int 3 t)
abbrev ifN : List Str := ["thing", "name", "params", "body"]
theorem scIF : FnScope ifN ["thing"] (defScope sIsFun) := ⟨rfl, rfl, rfl, by decide +kernel, rfl, by decide +kernel, by decide +kernel⟩
section
variable {P : Program} {w : World} {K : PySem.W.Frag} {mg : Str → Option Value} {base : Heap} {fRow fName fUn : Addr}
theorem ok_isfun {f : Addr} {fd dR dN dU : FuncData} (F : Fun K "_is_function" "_is_function" sIsFun f fd) (T : TFun K mg fRow fName fUn)
    (GR : FnOk P w K mg base CX0 1 fRow dR ["thing"] (spIsRow K)) (bR : Binds K dR ["thing"] []) (GN : FnOk P w K mg base CX0 2 fName dN ["thing"] (spForm K nameB)) (bN : Binds K dN ["thing"] [])
    (GU : FnOk P w K mg base CX0 3 fUn dU ["thing"] (spOr (spUnlikeN K) (spUnlike K nameB))) (bU : Binds K dU ["thing"] []) : FnOk P w K mg base CX0 4 f fd ["thing"] (spIsFun K) := by
  refine F.ok scIF (fun vs H Q E h => ?_) (fun cdv A outer s H vs Q E hr h => ?_)
  · obtain ⟨x, rfl, _⟩ := h
    rfl
  · obtain ⟨x, rfl, h⟩ := h
    obtain ⟨tm, hm⟩ := T.most
    refine ⟨_, pss_cons (ps_if (PW.pt (pw_or (pt_not (pt_val (pe_call GR (hr.mono (by decide)) (by rfl) T.gR T.kR bR .nil pass0 (pa_cons (pv 0) pa_nil))))
        (pw_or1 (pt_cmpR op_ne (pe_callB cr_lenRow (by rfl) T.len (by decide +kernel) (pa_cons (pv 0) pa_nil)) pe_int (nomark _))))) (pss_one (ps_ret pe_bl)) pss_nil)
      (pss_cons (ps_asg (pv 0) (pg_rowT rfl (pgs_cons (pg_name (i := 1) scIF.nd rfl (.inl rfl)) (pgs_cons (pg_name (i := 2) scIF.nd rfl (.inl rfl)) (pgs_cons (pg_name (i := 3) scIF.nd rfl (.inl rfl)) pgs_nil)))))
      (pss_one (ps_ret (pe_and (pe_call GN (hr.mono (by decide)) (by rfl) T.gN T.kN bN .nil pass0 (pa_cons (pv 1) pa_nil))
        (pe_and (pe_call GU (hr.mono (by decide)) (by rfl) T.gU T.kU bU .nil pass0 (pa_cons (pv 2) pa_nil))
        (pe_and (pe_cmpR op_le (pe_callB cr_lenRow (by rfl) T.len (by decide +kernel) (pa_cons (pv 2) pa_nil)) (pe_glob (v := .int 3) (by rfl) hm ⟨_, rfl⟩) (nomark _))
        (pe_one (pe_call GR (hr.mono (by decide)) (by rfl) T.gR T.kR bR .nil pass0 (pa_cons (pv 3) pa_nil))))))))), ?_⟩
    rcases h with ⟨f, ⟨n1, n2, n3, n4, pv', bs, r1, r2, r3⟩, q⟩ | ⟨bad, q⟩
    · refine ⟨_, rfl, x, rfl, .inl ⟨_, r1, fun H1 s1 => ⟨_, rfl, iteF ?_⟩⟩⟩
      refine ⟨_, rfl, _, _, rfl, row_up s1 r1, rfl, _, rfl, iteF ?_⟩
      refine ⟨_, rfl, _, row_up s1 r1, rfl, _, _, rfl, _, _, rfl, _, _, rfl, rfl, ?_⟩
      have few : f.ps.length + 1 < scanBound := Nat.lt_of_le_of_lt (Nat.succ_le_succ n4) (by decide)
      have e : (f.ps.all nameB && decide f.ps.Nodup) = true := Bool.and_eq_true_iff.mpr ⟨List.all_eq_true.mpr n2, decide_eq_true n3⟩
      refine ⟨_, rfl, _, rfl, .inl ⟨f.nm, rfl, name_len n1, fun H2 s2 => ⟨_, rfl, ?_⟩⟩⟩
      rw [n1]
      refine iteT ⟨_, rfl, .inr ⟨pv', f.ps, rfl, row_up s2 (row_up s1 r2), fun z hz => name_len (n2 z hz), few, fun H3 s3 => ⟨_, rfl, ?_⟩⟩⟩
      rw [e]
      refine iteT ⟨_, rfl, pv', _, rfl, row_up s3 (row_up s2 (row_up s1 r2)), _, _, rfl, rfl, _, rfl, ?_⟩
      rw [List.length_map, decide_eq_true (by omega : ((f.ps.length : Nat) : Int) ≤ 3)]
      exact iteT ⟨_, rfl, f.body, rfl, .inl ⟨_, row_up s3 (row_up s2 (row_up s1 r3)), fun H4 s4 => q H4 fun _ _ z => s4 _ _ (s3 _ _ (s2 _ _ (s1 _ _ z)))⟩⟩
    · rcases bad with ⟨t, ty, e1, e2⟩ | ⟨xs, r, n⟩ | ⟨x1, p, b, r, i⟩ | ⟨z, p, b, r, n, i⟩ | ⟨z, p, b, ss, r, n, r2, a, nd, l, c⟩
      · exact ⟨_, rfl, x, rfl, .inr ⟨t, ty, e1, e2, fun H1 s1 => ⟨_, rfl, iteT (q H1 s1)⟩⟩⟩
      · refine ⟨_, rfl, x, rfl, .inl ⟨_, r, fun H1 s1 => ⟨_, rfl, iteF ⟨_, rfl, _, _, rfl, row_up s1 r, rfl, _, rfl, ?_⟩⟩⟩⟩
        have e : (!decide (V.int ((xs.length : Nat) : Int) = V.int 3)) = true := by
          rw [Bool.not_eq_true', decide_eq_false_iff_not]
          intro z
          injection z with z
          omega
        rw [e]
        exact iteT (q H1 s1)
      all_goals
        refine ⟨_, rfl, x, rfl, .inl ⟨_, r, fun H1 s1 => ⟨_, rfl, iteF ?_⟩⟩⟩
        refine ⟨_, rfl, _, _, rfl, row_up s1 r, rfl, _, rfl, iteF ?_⟩
        refine ⟨_, rfl, _, row_up s1 r, rfl, _, _, rfl, _, _, rfl, _, _, rfl, rfl, ?_⟩
      · rcases i with ⟨z, rfl, l, e⟩ | ⟨⟨t, ty, e⟩, _⟩
        · refine ⟨_, rfl, _, rfl, .inl ⟨z, rfl, l, fun H2 s2 => ⟨_, rfl, ?_⟩⟩⟩
          rw [← e]
          exact iteF (q H2 fun _ _ z => s2 _ _ (s1 _ _ z))
        · exact ⟨_, rfl, _, rfl, .inr ⟨⟨t, same_ty s1 ty, e⟩, fun H2 s2 => ⟨_, rfl, iteF (q H2 fun _ _ z => s2 _ _ (s1 _ _ z))⟩⟩⟩
      · refine ⟨_, rfl, _, rfl, .inl ⟨z, rfl, name_len n, fun H2 s2 => ⟨_, rfl, ?_⟩⟩⟩
        rw [n]
        rcases i with no | ⟨ss, r2, l1, l2, e⟩
        · exact iteT ⟨_, rfl, .inl ⟨p, rfl, noNames_up s2 (noNames_up s1 no), fun H3 s3 => ⟨_, rfl, iteF (q H3 fun _ _ z => s3 _ _ (s2 _ _ (s1 _ _ z)))⟩⟩⟩
        · refine iteT ⟨_, rfl, .inr ⟨p, ss, rfl, row_up s2 (row_up s1 r2), l1, l2, fun H3 s3 => ⟨_, rfl, ?_⟩⟩⟩
          rw [e]
          exact iteF (q H3 fun _ _ z => s3 _ _ (s2 _ _ (s1 _ _ z)))
      · refine ⟨_, rfl, _, rfl, .inl ⟨z, rfl, name_len n, fun H2 s2 => ⟨_, rfl, ?_⟩⟩⟩
        rw [n]
        refine iteT ⟨_, rfl, .inr ⟨p, ss, rfl, row_up s2 (row_up s1 r2), fun z hz => name_len (a z hz), l, fun H3 s3 => ⟨_, rfl, ?_⟩⟩⟩
        rw [show (ss.all nameB && decide ss.Nodup) = true from Bool.and_eq_true_iff.mpr ⟨List.all_eq_true.mpr a, decide_eq_true nd⟩]
        refine iteT ⟨_, rfl, p, _, rfl, row_up s3 (row_up s2 (row_up s1 r2)), _, _, rfl, rfl, _, rfl, ?_⟩
        rw [List.length_map]
        refine ite2 (fun c2 => ?_) fun c2 => q H3 fun _ _ z => s3 _ _ (s2 _ _ (s1 _ _ z))
        rcases c with c | ⟨t, ty, e1, e2⟩
        · have := of_decide_eq_true c2
          omega
        · exact ⟨_, rfl, b, rfl, .inr ⟨t, same_ty s3 (same_ty s2 (same_ty s1 ty)), e1, e2, fun H4 s4 => q H4 fun _ _ z => s4 _ _ (s3 _ _ (s2 _ _ (s1 _ _ z)))⟩⟩
end
end Q9
end
-- QCounts
section
set_option maxRecDepth 100000
set_option maxHeartbeats 4000000
namespace Q9
open PySem L2
/-! the functions of a program: their numbers of parameters, or the first that is none -/
def cntsOf (fs : List FP) : List (Key × V) := fs.map fun f => (kInr f.nm, .int (f.ps.length : Nat))
inductive Funs (K : PySem.W.Frag) (H : Hp) (r : V) : List FP → Option Int → Prop
  | right {vs : List V} {fs : List FP} : Row K H r vs → Paired (RightF K H) vs fs → (fs.map (·.nm)).Nodup → Funs K H r fs none
  | bad {vs : List V} {fs : List FP} {v : V} : Row K H r vs → vs[fs.length]? = some v → Paired (RightF K H) (vs.take fs.length) fs → (fs.map (·.nm)).Nodup → (BadF K H v ∨ ∃ f, RightF K H v f ∧ f.nm ∈ fs.map (·.nm)) → Funs K H r fs (some ((fs.length : Nat) : Int))
theorem val_cnts : ∀ {fs : List FP} {nm : Str}, nm ∉ fs.map (·.nm) → valV (cntsOf fs) (kInr nm) = none := by
  intro fs nm h
  unfold valV cntsOf
  rw [List.find?_eq_none.mpr fun kv hk => ?_]
  · rfl
  · obtain ⟨f, hf, rfl⟩ := List.mem_map.mp hk
    have : ¬ (kInr f.nm = kInr nm) := fun z => h (List.mem_map.mpr ⟨f, hf, Sum.inr.inj z⟩)
    simpa using this
theorem val_cnts_at : ∀ {fs : List FP} {f : FP}, (fs.map (·.nm)).Nodup → f ∈ fs → valV (cntsOf fs) (kInr f.nm) = some (.int (f.ps.length : Nat))
  | g :: fs, f, nd, h => by
    rw [List.map_cons, List.nodup_cons] at nd
    unfold valV cntsOf
    rw [List.map_cons, List.find?_cons]
    by_cases c : kInr g.nm = kInr f.nm
    · rw [decide_eq_true c]
      rcases List.mem_cons.mp h with rfl | h
      · rfl
      · exact (nd.1 (List.mem_map.mpr ⟨f, h, (Sum.inr.inj c).symm⟩)).elim
    · rw [decide_eq_false c]
      rcases List.mem_cons.mp h with rfl | h
      · exact (c rfl).elim
      · exact val_cnts_at nd.2 h
theorem val_cnts_in {fs : List FP} {nm : Str} (h : nm ∈ fs.map (·.nm)) : (valV (cntsOf fs) (kInr nm)).isSome = true := by
  obtain ⟨f, hf, rfl⟩ := List.mem_map.mp h
  unfold valV
  rw [Option.isSome_map, List.find?_isSome]
  exact ⟨_, List.mem_map.mpr ⟨f, hf, rfl⟩, by simp⟩
theorem ix_row {K : PySem.W.Frag} {H : Hp} {v y : V} {xs : List V} {i : Int} {Q : VK} (r : Row K H v xs) (h : atI xs i = some y) (q : Q y H) : rIx K v (.int i) H Q := by
  obtain ⟨a, rfl, r | r⟩ := r
  · exact .inl ⟨a, xs, i, y, rfl, rfl, r, h, q⟩
  · exact .inr (.inl ⟨a, xs, i, y, rfl, rfl, r, h, q⟩)
structure TCnt (K : PySem.W.Frag) (mg : Str → Option Value) (fF : Addr) : Prop where
  gF : mg "_is_function" = some (.ref fF)
  kF : PySem.W.keepIn K (.ref fF) = true
  enum : mg "enumerate" = none
  len : mg "len" = none
def spCounts (CP : Addr) (K : PySem.W.Frag) : Sp := fun vs H Q E => ∃ (r : V) (fs : List FP) (o : Option Int), vs = [r] ∧ Funs K H r fs o ∧ fs.length ≤ 1000 ∧
  (o = none → ∀ (H' : Hp) (p : Addr), Same H H' → H p = none → H' p = some (.dK (cntsOf fs)) → Q (.ref p) H') ∧
  ∀ i, o = some i → ∀ (H' : Hp) (d t : Addr), Same H H' → H d = none → H t = none → H' d = some (.xd [("place", .ref t)]) → H' t = some (.tup [.int i]) → E (.ref CP) (some d) H'
abbrev ctN : List Str := ["functions", "counts", "number", "function"]
theorem scCt : FnScope ctN ["functions"] (defScope sCounts) := ⟨rfl, rfl, rfl, by decide +kernel, rfl, by decide +kernel, by decide +kernel⟩
section
variable {P : Program} {w : World} {K : PySem.W.Frag} {mg : Str → Option Value} {base : Heap} {fF : Addr}
theorem scPI : FnScope ["self", "place"] ["self", "place"] (defScope sIBadProgram) := ⟨rfl, rfl, rfl, by decide +kernel, rfl, by decide +kernel, by decide +kernel⟩
theorem ok_progI {f C : Addr} {fd : FuncData} (F : Fun K "__init__" "BadProgram.__init__" sIBadProgram f fd) (T : TErr K mg "BadProgram" "place" C f) : FnOk P w K mg base CX0 1 f fd ["self", "place"] (spErrI C "place") := by
  refine F.ok scPI (fun vs H Q E h => ?_) (fun cdv A outer s H vs Q E hr h => ?_)
  · obtain ⟨a, v, rfl, _⟩ := h
    rfl
  · obtain ⟨a, v, rfl, ha, q⟩ := h
    refine ⟨_, pss_one (ps_ost (pv 0) (pv 1)), ?_⟩
    exact ⟨_, rfl, _, rfl, a, C, rfl, T.ox, T.no, .inl ⟨ha, fun dx nd ne => q dx nd ne⟩⟩
theorem ok_counts {f CP fI : Addr} {fd dI dF : FuncData} (F : Fun K "_counts_of" "_counts_of" sCounts f fd) (T : TCnt K mg fF) (TE : TErr K mg "BadProgram" "place" CP fI)
    (GI : FnOk P w K mg base CX0 1 fI dI ["self", "place"] (spErrI CP "place")) (bI : Binds K dI ["self", "place"] [])
    (GF : FnOk P w K mg base CX0 4 fF dF ["thing"] (spIsFun K)) (bF : Binds K dF ["thing"] []) : FnOk P w K mg base (L2.CX P w) 5 f fd ["functions"] (spCounts CP K) := by
  refine F.okX scCt (fun vs H Q E h => ?_) (fun cdv A outer s H vs Q E hr h => ?_)
  · obtain ⟨r, fs, o, rfl, _⟩ := h
    rfl
  · obtain ⟨r, fs, o, rfl, hh, few, qn, qe⟩ := h
    have hu := hu_of hr
    refine ⟨_, pss_cons (ps_set (i := 1) scCt.nd rfl (.inl rfl) pe_dnewK)
      (pss_cons (ps_for (passes_of rfl) rfl (pi_enumB (by rfl) T.enum (pa_cons (pv 0) pa_nil)) (pg_tup rfl (pgs_cons (pg_name (i := 2) scCt.nd rfl (.inl rfl)) (pgs_cons (pg_name (i := 3) scCt.nd rfl (.inl rfl)) pgs_nil)))
        (pss_cons (ps_if (PW.pt (pw_or (pt_not (pt_val (pe_call GF (hr.mono (by omega)) (by rfl) T.gF T.kF bF .nil pass0 (pa_cons (pv 3) pa_nil))))
            (pw_or1 (pt_cmp (pc_din hu (pe_ix ix_seq (pv 3) pe_int (fun _ _ => rfl)) (pv 1))))))
          (pss_one (ps_raise rfl (takes_of rfl rfl rfl rfl) (pmk_oex TE.ox TE.iC TE.tI GI (hr.mono (by omega)) bI .nil pass0 (by rfl) TE.gC (pa_cons (pe_tup (pa_cons (pv 2) pa_nil)) pa_nil)))) pss_nil)
        (pss_one (ps_dput hu (pv 1) (pe_ix ix_seq (pv 3) pe_int (fun _ _ => rfl)) (pe_callB cr_lenRow (by rfl) T.len (by decide +kernel) (pa_cons (pe_ix ix_seq (pv 3) pe_int (fun _ _ => rfl)) pa_nil)) rfl))))
      (pss_one (ps_ret (pv 1)))), ?_⟩
    refine fun p hp => ?_
    have main : ∃ vs : List V, Row K H r vs ∧ Paired (RightF K H) (vs.take fs.length) fs ∧ (fs.map (·.nm)).Nodup ∧ (∀ v, vs[fs.length]? = some v → o = some ((fs.length : Nat) : Int) ∧ (BadF K H v ∨ ∃ f, RightF K H v f ∧ f.nm ∈ fs.map (·.nm))) ∧ (vs.length ≤ fs.length → o = none) := by
      cases hh with
      | right a b c =>
        have l := PySem.Paired.length b
        refine ⟨_, a, by rw [← l, List.take_length]; exact b, c, fun v hv => ?_, fun _ => rfl⟩
        rw [← l, List.getElem?_eq_none (Nat.le_refl _)] at hv
        cases hv
      | bad a e b c d =>
        refine ⟨_, a, b, c, fun v hv => ?_, fun hl => ?_⟩
        · rw [e] at hv
          cases hv
          exact ⟨rfl, d⟩
        · rw [List.getElem?_eq_none hl] at e
          cases e
    obtain ⟨vs, row, good, nd, badAt, fin⟩ := main
    have sp0 := same_upd (o := .dK []) hp
    refine ⟨_, rfl, r, vs, H, rfl, row, sp0, fun J G hG wk => ?_⟩
    refine for_it wk (fun i σ H' => ∃ v2 v3, σ = [some r, some (.ref p), v2, v3] ∧ Same H H' ∧ i ≤ fs.length ∧ H' p = some (.dK (cntsOf (fs.take i)))) ⟨none, none, rfl, sp0, Nat.zero_le _, upd_same⟩ (fun i σ H' _ ⟨_, _, _, s, _⟩ => hG _ s) ?_ ?_
    · rintro i x σ H2 H3 hi ⟨v1, v2, rfl, s2, il, h2p⟩ ⟨tt, x1, v, rfl, nt, rfl, ex, ey⟩
      have ex' : x1 = .int (i : Nat) := (Option.some.inj ex).symm
      subst ex'
      have st := same_upd (o := .tup [.int (i : Nat), v]) nt
      have s3 : Same H (upd H2 tt (.tup [.int (i : Nat), v])) := fun b u e => st b u (s2 b u e)
      have h3p := st _ _ h2p
      generalize hH3 : upd H2 tt (.tup [.int (i : Nat), v]) = H3 at s3 h3p ⊢
      refine ⟨tt, _, rfl, .of (by rw [← hH3]; exact upd_same), rfl, _, _, rfl, _, _, rfl, rfl, ?_⟩
      clear hH3 st
      by_cases c : i < fs.length
      · have ev : (vs.take fs.length)[i]? = some v := by rw [List.getElem?_take_of_lt c]; exact ey
        obtain ⟨f1, hf1, rf⟩ := paired_at good i _ ev
        have hn : f1.nm ∉ (fs.take i).map (·.nm) := fun z => by
          have n2 : ((fs.take (i + 1)).map (·.nm)).Nodup := by rw [List.map_take]; exact List.Sublist.nodup (List.take_sublist _ _) nd
          rw [take_one_more hf1, List.map_append, List.nodup_append] at n2
          exact n2.2.2 _ z _ (List.mem_singleton.mpr rfl) rfl
        refine ⟨_, rfl, v, rfl, .inl ⟨f1, rightF_up s3 rf, fun H4 s4 => ⟨_, rfl, iteF ?_⟩⟩⟩
        have s5 : Same H H4 := fun b u e => s4 _ _ (s3 _ _ e)
        obtain ⟨n1, n2, n3, n4, pv', bs, r1, r2, r3⟩ := rightF_up s5 rf
        have h4p := s4 _ _ h3p
        refine ⟨_, rfl, ix_row r1 (atI_nat (j := 0) rfl) ⟨_, rfl, p, _, rfl, DGet.k (k := kInr f1.nm) h4p, ?_⟩⟩
        rw [val_cnts hn]
        refine ⟨_, rfl, iteF ?_⟩
        refine ⟨_, rfl, ix_row r1 (atI_nat (j := 1) rfl) ⟨pv', _, rfl, r2, ?_⟩⟩
        refine ⟨_, rfl, _, rfl, ix_row r1 (atI_nat (j := 0) rfl) ⟨p, _, rfl, DPut.k (k := kInr f1.nm) h4p ?_, ?_⟩⟩
        · unfold cntsOf
          rw [List.length_map, List.length_take]
          exact Nat.lt_of_le_of_lt (Nat.min_le_right _ _) (small1000 few)
        · rw [putK_new _ (val_cnts hn)]
          refine ⟨_, _, rfl, fun b u e => ?_, c, ?_⟩
          · rw [upd_ne (ne_of_none e hp)]
            exact s5 _ _ e
          · rw [upd_same, take_one_more hf1]
            unfold cntsOf
            rw [List.map_append, List.length_map]
            rfl
      · have ei : i = fs.length := by omega
        subst ei
        obtain ⟨ho, bad⟩ := badAt v ey
        have out : ∀ (H4 : Hp), Same H H4 → ∀ t, H4 t = none → ∀ (a : Addr), upd H4 t (.tup [.int (fs.length : Nat)]) a = none → spErrI CP "place" [.ref a, .ref t] (upd (upd H4 t (.tup [.int (fs.length : Nat)])) a (exo a CP none))
            (fun z H5 => z = .non ∧ ∃ (d : Addr) (fs' : List (Str × V)), H5 a = some (exo a CP (some d)) ∧ H5 d = some (exd d fs') ∧ (upd H4 t (.tup [.int (fs.length : Nat)])) d = none ∧ E (.ref CP) (some d) (upd (del H5 a) d (.xd fs'))) (fun _ _ _ => False) := by
          intro H4 s4 t nt a na
          refine ⟨a, _, rfl, upd_same, fun dx nd ne => ?_⟩
          have s5 := same_upd (o := .tup [.int (fs.length : Nat)]) nt
          obtain ⟨r1, r2, r3, r4, r5⟩ := raised (C := CP) (fs := [("place", .ref t)]) s5 na nd ne
          have free : ∀ {b : Addr}, H4 b = none → H b = none := fun {b} h => by
            cases z : H b with
            | none => rfl
            | some u => rw [s4 _ _ z] at h; cases h
          have st : ∀ {b : Addr} {o : HO}, upd H4 t (.tup [.int (fs.length : Nat)]) b = some o → upd (del (upd (upd (upd (upd H4 t (.tup [.int (fs.length : Nat)])) a (exo a CP none)) dx (exd dx [("place", .ref t)])) a (exo a CP (some dx))) a) dx (.xd [("place", .ref t)]) b = some o := fun {b o} e => by
            have nb : b ≠ a := ne_of_none e na
            have nd' : b ≠ dx := ne_of_none e r3
            rw [upd_ne nd', del_ne nb, upd_ne nb, upd_ne nd', upd_ne nb]
            exact e
          exact ⟨rfl, dx, _, r1, r2, r3, qe _ ho _ dx t (fun b u e => r4 _ _ (s4 _ _ e)) (free r5) (free nt) upd_same (st upd_same)⟩
        rcases bad with bad | ⟨f, rf, mem⟩
        · refine ⟨_, rfl, v, rfl, .inr ⟨badF_up s3 bad, fun H4 s4 => ⟨_, rfl, iteT ?_⟩⟩⟩
          refine ⟨_, rfl, (by show 1 ≤ sizeLine; decide), fun t ht => ⟨(by show 1 ≤ 1000; decide), fun a na => ?_⟩⟩
          exact out H4 (fun b u e => s4 _ _ (s3 _ _ e)) t ht a na
        · refine ⟨_, rfl, v, rfl, .inl ⟨f, rightF_up s3 rf, fun H4 s4 => ⟨_, rfl, iteF ?_⟩⟩⟩
          have s5 : Same H H4 := fun b u e => s4 _ _ (s3 _ _ e)
          obtain ⟨n1, n2, n3, n4, pv', bs, r1, r2, r3⟩ := rightF_up s5 rf
          refine ⟨_, rfl, ix_row r1 (atI_nat (j := 0) rfl) ⟨_, rfl, p, _, rfl, DGet.k (k := kInr f.nm) (s4 _ _ h3p), ?_⟩⟩
          rw [List.take_length, val_cnts_in mem]
          refine ⟨_, rfl, iteT ?_⟩
          refine ⟨_, rfl, (by show 1 ≤ sizeLine; decide), fun t ht => ⟨(by show 1 ≤ 1000; decide), fun a na => ?_⟩⟩
          exact out H4 s5 t ht a na
    · rintro σ H2 ⟨v2, v3, rfl, s2, il, h2p⟩
      have l := PySem.Paired.length good
      rw [List.length_take] at l
      have e : vs.length = fs.length := by omega
      rw [e, List.take_length] at h2p
      exact ⟨_, rfl, qn (fin il) H2 p s2 hp h2p⟩
end
end Q9
end
-- QAreK
section
set_option maxRecDepth 100000
set_option maxHeartbeats 4000000
namespace Q9
open PySem L2
/-! rows of kinds -/
/-- a kind with this name -/
def KN (C : Addr) (K : PySem.W.Frag) (H : Hp) (v : V) (nm : Str) : Prop := ∃ (x : Addr) (st : Str) (es : List Str) (mv : Mv), v = .ref x ∧ KAc C K H x nm st es mv
/-- a thing: is it a kind -/
def KindB (C : Addr) (K : PySem.W.Frag) (H : Hp) (v : V) (b : Bool) : Prop := (b = true ∧ ∃ nm, KN C K H v nm) ∨ (b = false ∧ ∃ t, TyX K H v t ∧ PySem.W.kitOne K t (.ref C) = some false)
theorem kn_up {C : Addr} {K : PySem.W.Frag} {H H' : Hp} (s : Same H H') {v : V} {nm : Str} (h : KN C K H v nm) : KN C K H' v nm := by
  obtain ⟨x, st, es, mv, e, ka⟩ := h
  exact ⟨x, st, es, mv, e, (kac_ok C K).up s ka⟩
theorem kindB_up {C : Addr} {K : PySem.W.Frag} {H H' : Hp} (s : Same H H') {v : V} {b : Bool} (h : KindB C K H v b) : KindB C K H' v b := by
  rcases h with ⟨e, nm, h⟩ | ⟨e, t, ty, k⟩
  · exact .inl ⟨e, nm, kn_up s h⟩
  · exact .inr ⟨e, t, same_ty s ty, k⟩
inductive Kinds (C : Addr) (K : PySem.W.Frag) (H : Hp) (r : V) : Option (List Str) → Prop
  | right {vs : List V} {ns : List Str} : Row K H r vs → Paired (KN C K H) vs ns → ns.Nodup → 1 ≤ ns.length → ns.length ≤ 4 → Kinds C K H r (some ns)
  | notRow : NotRow K H r → Kinds C K H r none
  | many {vs : List V} : Row K H r vs → (vs.length = 0 ∨ 4 < vs.length) → Kinds C K H r none
  | odd {vs : List V} {bs : List Bool} : Row K H r vs → Paired (KindB C K H) vs bs → bs.all id = false → 1 ≤ vs.length → vs.length ≤ 4 → Kinds C K H r none
  | twice {vs : List V} {ns : List Str} : Row K H r vs → Paired (KN C K H) vs ns → ¬ ns.Nodup → 1 ≤ vs.length → vs.length ≤ 4 → Kinds C K H r none
theorem kinds_up {C : Addr} {K : PySem.W.Frag} {H H' : Hp} (s : Same H H') {r : V} {o : Option (List Str)} (h : Kinds C K H r o) : Kinds C K H' r o := by
  cases h with
  | right a b c d e => exact .right (row_up s a) (L2.Paired.mapP b fun _ _ => kn_up s) c d e
  | notRow a => exact .notRow (notRow_up s a)
  | many a b => exact .many (row_up s a) b
  | odd a b c d e => exact .odd (row_up s a) (L2.Paired.mapP b fun _ _ => kindB_up s) c d e
  | twice a b c d e => exact .twice (row_up s a) (L2.Paired.mapP b fun _ _ => kn_up s) c d e
structure TAk (K : PySem.W.Frag) (mg : Str → Option Value) (C fRow p1 f1 : Addr) : Prop where
  gR : mg "is_row" = some (.ref fRow)
  kR : PySem.W.keepIn K (.ref fRow) = true
  len : mg "len" = none
  all : mg "all" = none
  cl : Cls K C
  nameP : PropOf K C "name" p1 f1
  most : ∃ t, mg "MOST_KINDS" = some (.int 4 t)
def spAreKinds (C : Addr) (K : PySem.W.Frag) : Sp := fun vs H Q _ => ∃ (r : V) (o : Option (List Str)), vs = [r] ∧ Kinds C K H r o ∧ ∀ H', Same H H' → Q (.bl o.isSome) H'
abbrev akN : List Str := ["thing", "one", "kind"]
theorem scAk : FnScope akN ["thing"] (defScope sAreKinds) := ⟨rfl, rfl, rfl, by decide +kernel, rfl, by decide +kernel, by decide +kernel⟩
section
variable {P : Program} {w : World} {K : PySem.W.Frag} {mg : Str → Option Value} {base : Heap} {C fRow p1 f1 : Addr}
theorem ok_areKinds {f : Addr} {fd dR d1 : FuncData} (F : Fun K "are_kinds" "are_kinds" sAreKinds f fd) (T : TAk K mg C fRow p1 f1) (TE : TKE K mg C)
    (GR : FnOk P w K mg base CX0 1 fRow dR ["thing"] (spIsRow K)) (bR : Binds K dR ["thing"] []) (G1 : FnOk P w K mg base CX0 1 f1 d1 ["self"] (spNameM (KAc C K))) (b1 : Binds K d1 ["self"] []) :
    FnOk P w K mg base CX0 3 f fd ["thing"] (spAreKinds C K) := by
  refine F.ok scAk (fun vs H Q E h => ?_) (fun cdv A outer s H vs Q E hr h => ?_)
  · obtain ⟨r, o, rfl, _⟩ := h
    rfl
  · obtain ⟨r, o, rfl, hk, q⟩ := h
    obtain ⟨tm, hm⟩ := T.most
    refine ⟨_, pss_cons (ps_if (PW.pt (pw_or (pt_not (pt_val (pe_call GR (hr.mono (by decide)) (by rfl) T.gR T.kR bR .nil pass0 (pa_cons (pv 0) pa_nil))))
        (pw_or1 (pt_not (pt_chain op_le op_le pe_int (pe_callB cr_lenRow (by rfl) T.len (by decide +kernel) (pa_cons (pv 0) pa_nil)) (pe_glob (v := .int 4) (by rfl) hm ⟨_, rfl⟩)))))) (pss_one (ps_ret pe_bl)) pss_nil)
      (pss_one (ps_ret (pe_and (pe_callB (cr_all rfl) (by rfl) T.all (by decide +kernel) (pa_cons
          (pe_lc (own := [("one", 1)]) (g := gName 1) (tt := tYes) rfl scAk.nd (pi_row (pv 0)) (blkOk_by (own := [("one", 1)]) (N := akN) (sc := defScope sAreKinds) (by decide +kernel))
            (fun _ _ _ _ _ => pg_name (i := 1) scAk.nd rfl (.inl rfl)) (fun _ _ _ _ _ => pts_nil)
            (fun _ _ _ _ _ => pe_callB (id := "isinstance") (r := rIsi K) call_isi (by rfl) TE.isi (by decide +kernel) (pa_cons (pv 1) (pa_cons (pe_glob (v := .ref C) (by rfl) TE.gC rfl) pa_nil)))) pa_nil))
        (pe_one (pe_cmpR op_eq (pe_callB cr_lenKs (by rfl) T.len (by decide +kernel) (pa_cons
            (pe_scK (te := tProp C (spNameM (KAc C K)) [] E0 (tVar 2)) (own := [("kind", 2)]) (g := gName 2) (tt := tYes) rfl scAk.nd (pi_row (pv 0)) (blkOk_by (own := [("kind", 2)]) (N := akN) (sc := defScope sAreKinds) (by decide +kernel))
              (fun _ _ _ _ _ => pg_name (i := 2) scAk.nd rfl (.inl rfl)) (fun _ _ _ _ _ => pts_nil)
              (fun _ _ _ _ _ => pe_prop (pv 2) T.cl T.nameP G1 (hr.mono (by omega)) b1 .nil pass0 rfl)) pa_nil))
          (pe_callB cr_lenRow (by rfl) T.len (by decide +kernel) (pa_cons (pv 0) pa_nil)) (nomark _)))))), ?_⟩
    have each : ∀ {vs : List V} {ns : List Str} {H : Hp}, Paired (KN C K H) vs ns → Paired (KindB C K H) vs (ns.map fun _ => true) := fun {vs ns H} p => by
      induction p with
      | nil => exact .nil
      | cons h t ih => exact .cons (.inl ⟨rfl, _, h⟩) ih
    have main : NotRow K H r ∧ o = none ∨ ∃ vs, Row K H r vs ∧ ((vs.length = 0 ∨ 4 < vs.length) ∧ o = none ∨ 1 ≤ vs.length ∧ vs.length ≤ 4 ∧ ((∃ bs, Paired (KindB C K H) vs bs ∧ bs.all id = false ∧ o = none) ∨ ∃ ns, Paired (KN C K H) vs ns ∧ o.isSome = decide ns.Nodup)) := by
      cases hk with
      | right a b c d e =>
        have l := PySem.Paired.length b
        exact .inr ⟨_, a, .inr ⟨by omega, by omega, .inr ⟨_, b, (decide_eq_true c).symm⟩⟩⟩
      | notRow a => exact .inl ⟨a, rfl⟩
      | many a b => exact .inr ⟨_, a, .inl ⟨b, rfl⟩⟩
      | odd a b c d e => exact .inr ⟨_, a, .inr ⟨d, e, .inl ⟨_, b, c, rfl⟩⟩⟩
      | twice a b c d e => exact .inr ⟨_, a, .inr ⟨d, e, .inr ⟨_, b, (decide_eq_false c).symm⟩⟩⟩
    rcases main with ⟨⟨t, ty, e1, e2⟩, rfl⟩ | ⟨vs, row, main⟩
    · exact ⟨_, rfl, r, rfl, .inr ⟨t, ty, e1, e2, fun H1 s1 => ⟨_, rfl, iteT (q H1 s1)⟩⟩⟩
    refine ⟨_, rfl, r, rfl, .inl ⟨_, row, fun H1 s1 => ⟨_, rfl, iteF ?_⟩⟩⟩
    have row1 := row_up s1 row
    refine ⟨_, rfl, r, vs, rfl, row1, _, _, rfl, rfl, _, rfl, ?_⟩
    have d1 : ∀ n : Nat, (decide ((1 : Int) ≤ (n : Nat)) = true ↔ 1 ≤ n) := fun n => by rw [decide_eq_true_iff]; omega
    rcases main with ⟨hb, rfl⟩ | ⟨l1, l4, main⟩
    · rcases hb with h0 | h4
      · rw [decide_eq_false (by omega : ¬ (1 : Int) ≤ (vs.length : Nat))]
        exact iteF ⟨_, rfl, iteT (q H1 s1)⟩
      · rw [decide_eq_true (by omega : (1 : Int) ≤ (vs.length : Nat))]
        refine iteT ⟨_, _, rfl, rfl, _, rfl, ?_⟩
        rw [decide_eq_false (by omega : ¬ ((vs.length : Nat) : Int) ≤ 4)]
        exact iteT (q H1 s1)
    rw [decide_eq_true (by omega : (1 : Int) ≤ (vs.length : Nat))]
    refine iteT ⟨_, _, rfl, rfl, _, rfl, ?_⟩
    rw [decide_eq_true (by omega : ((vs.length : Nat) : Int) ≤ 4)]
    refine iteF ?_
    have all : ∃ bs, Paired (KindB C K H1) vs bs ∧ ((bs.all id = false ∧ o = none) ∨ bs.all id = true ∧ ∃ ns, Paired (KN C K H1) vs ns ∧ o.isSome = decide ns.Nodup) := by
      rcases main with ⟨bs, pb, ab, ho⟩ | ⟨ns, pn, ho⟩
      · exact ⟨bs, L2.Paired.mapP pb fun _ _ => kindB_up s1, .inl ⟨ab, ho⟩⟩
      · refine ⟨_, L2.Paired.mapP (each pn) fun _ _ => kindB_up s1, .inr ⟨?_, ns, L2.Paired.mapP pn fun _ _ => kn_up s1, ho⟩⟩
        rw [List.all_map]
        exact List.all_eq_true.mpr fun _ _ => rfl
    obtain ⟨bs, pb, all⟩ := all
    refine ⟨_, rfl, _, row1, fun J G hG wk D hD => ?_⟩
    refine lc_it wk (fun i H' => Same H1 H' ∧ H' D = some (.lst ((bs.take i).map V.bl))) ⟨same_upd hD, upd_same⟩ (fun _ _ _ p => hG _ p.1) ?_ ?_
    · rintro i v H2 H3 hi ⟨sm, hl'⟩ ⟨rfl, hv⟩
      obtain ⟨b, hb, ib⟩ := paired_at pb i _ hv
      have lb : ((bs.take i).map V.bl).length < sizeLine := by
        rw [List.length_map, List.length_take, PySem.sizeLine_eq]
        have := PySem.Paired.length pb
        omega
      have nxt : Same H1 (upd H3 D (.lst ((bs.take i).map V.bl ++ [.bl b]))) ∧ upd H3 D (.lst ((bs.take i).map V.bl ++ [.bl b])) D = some (.lst ((bs.take (i + 1)).map V.bl)) := by
        refine ⟨fun c o e => by rw [upd_ne (ne_of_none e hD)]; exact sm _ _ e, ?_⟩
        rw [upd_same, take_one_more hb, List.map_append]
        rfl
      rcases kindB_up sm ib with ⟨rfl, nm, x, st, es, mv, rfl, ka⟩ | ⟨rfl, t, ty, kt⟩
      · obtain ⟨dx, fs, hx, _⟩ := (kac_ok C K).ins ka
        exact ⟨rfl, _, rfl, _, _, _, _, true, rfl, .own C, .base (TyOf.ins hx T.cl TE.ha TE.hn TE.htk TE.hm), TE.me, _, hl', lb, nxt⟩
      · exact ⟨rfl, _, rfl, _, _, _, _, false, rfl, .own C, ty, kt, _, hl', lb, nxt⟩
    · rintro H2 ⟨s2, hl'⟩
      rw [PySem.Paired.length pb, List.take_length] at hl'
      refine ⟨_, _, rfl, .of hl', _, rfl, ?_⟩
      rcases all with ⟨ab, rfl⟩ | ⟨ab, ns, pn, ho⟩
      · rw [ab]
        exact iteF (q H2 fun _ _ z => s2 _ _ (s1 _ _ z))
      rw [ab]
      refine iteT ?_
      have ln : vs.length = ns.length := PySem.Paired.length pn
      refine ⟨_, rfl, _, row_up s2 row1, fun J G hG wk D2 hD2 => ?_⟩
      refine coll_it wk (fun i H' => Same H2 H' ∧ ∃ ks, H' D2 = some (SetKs P w D2 ks) ∧ Coll (ns.map kInr) i ks) ⟨same_upd hD2, [], upd_same, Coll.zero _⟩ (fun i H' _ p => hG _ p.1) ?_ ?_
      · rintro i v H3 H4 hi ⟨s3, ks, hks, cl⟩ ⟨rfl, hv⟩
        obtain ⟨nm, hn, kn⟩ := paired_at pn i _ hv
        obtain ⟨x, st, es, mv, rfl, ka⟩ := kn_up (fun _ _ z => s3 _ _ (s2 _ _ z)) kn
        obtain ⟨dx, fs, hx, _⟩ := (kac_ok C K).ins ka
        have at_ : (ns.map kInr)[i]? = some (kInr nm) := by rw [List.getElem?_map, hn]; rfl
        refine ⟨rfl, _, rfl, x, dx, fs, rfl, hx, x, nm, st, es, mv, rfl, ka, kInr nm, ks, rfl, hks, ?_, fun ks' ad => ⟨fun b u z => by rw [upd_ne (ne_of_none z hD2)]; exact s3 b u z, ks', upd_same, cl.next at_ ad⟩⟩
        have h1 := nodup_le ks ((ns.map kInr).take i) cl.nd fun k hk => (cl.mem k).1 hk
        rw [List.length_take, List.length_map] at h1
        have : scanBound = 4096 := rfl
        omega
      · rintro H3 ⟨s3, ks, hks, cl⟩
        refine ⟨D2, ks, rfl, hks, ?_⟩
        have el : (ns.map kInr).take vs.length = ns.map kInr := List.take_of_length_le (by rw [List.length_map, ln]; exact Nat.le_refl _)
        have mem : ∀ j, j ∈ ks ↔ j ∈ ns.map kInr := fun j => by rw [cl.mem j, el]
        have e1 : ks.length = ns.length ↔ ns.Nodup := by
          have := unlike_len cl.nd mem
          rw [List.length_map] at this
          exact this.trans (nodup_map_inr ns)
        refine ⟨_, rfl, r, vs, rfl, row_up s3 (row_up s2 row1), rfl, ?_⟩
        have e2 : decide (V.int (ks.length : Nat) = V.int (vs.length : Nat)) = o.isSome := by
          rw [ho, ln]
          refine decide_eq_decide.mpr ⟨fun z => e1.1 (by injection z with z; omega), fun z => by rw [e1.2 z]⟩
        rw [e2]
        exact q H3 fun _ _ z => s3 _ _ (s2 _ _ (s1 _ _ z))
end
end Q9
end
-- QReader
section
set_option maxRecDepth 100000
set_option maxHeartbeats 4000000
namespace Q9
open PySem L2
/-! ### rules -/
def tFls : TE := fun _ _ _ => False
def ttFls : TT := fun _ _ _ => False
theorem pe_never {X : Cx} {e : Expr} : PE X e tFls := ⟨fun _ _ _ _ _ _ h => False.elim h⟩
theorem pt_never {X : Cx} {e : Expr} : PT X e ttFls := ⟨fun _ _ _ _ _ _ h => False.elim h⟩
/-- x in D, D a dict of the module with texts as keys -/
def KIn (K : PySem.W.Frag) (w : World) (a : Addr) (x : Str) (b : Bool) : Prop := ∃ es n r, K.lookup a = some ⟨.type "dict", none, .dict es n, #[]⟩ ∧ PySem.W.KeysLit w.params es.toList ∧ (a == sysModules) = false ∧ PySem.W.nsIn K a x = some r ∧ b = r.isSome
theorem op_in_kdict {X : Cx} : OpR X (compareOp .In) (fun x y H Q => ∃ z p b, x = .str z ∧ y = .ref p ∧ KIn X.K X.w p z b ∧ Q (.bl b) H) := by
  intro pins s σ H x y v u Q I rx ry h
  obtain ⟨z, p, b, rfl, rfl, ⟨es, n, r, hl, hk, lo, e, rfl⟩, q⟩ := h
  obtain rfl : u = Value.ref p := ry
  obtain ⟨t, rfl⟩ := rx
  exact wpAny_in_of (strKind_is X.prog X.w z t) lo (PySem.W.mapOf_K (prog := X.prog) I.kIn hl hk) (by rw [PySem.W.find_K hl e]; exact ⟨.bl _, H, I.tok _, rfl, q⟩)
/-- a dict by texts filled over a walk -/
theorem dc_it {J : It} {n : Nat} {G : Hp → Prop} {Y : Nat → Hp → V → Hp → Prop} (w : Walk J n G Y) {g : TG} {tt : TT} {tk tv : TE} {vs : List Nat} {σ : L2.St} {H1 : Hp} {D : Addr} {Qd : Hp → Prop} (Pv : Nat → Hp → Prop)
    (h0 : Pv 0 (upd H1 D (.dK []))) (hG : ∀ i H, i ≤ n → Pv i H → G H)
    (hs : ∀ i x H H', i < n → Pv i H → Y i H x H' → g x (wipe σ vs) H' fun σ2 H2 => wipe σ2 vs = wipe σ vs ∧ tt σ2 H2 fun b H3 =>
      if b = true then tk σ2 H3 fun y H4 => tv σ2 H4 fun z H5 => ∃ kvs k, y = kV k ∧ H5 D = some (.dK kvs) ∧ kvs.length < sizeLine ∧ Pv (i + 1) (upd H5 D (.dK (putK kvs k z))) else Pv (i + 1) H3) (hd : ∀ H, Pv n H → Qd H) :
    ∃ W : Nat → Nat → Hp → Prop, (∃ m, W 0 m (upd H1 D (.dK []))) ∧ ∀ i m H, W i m H → (J.stop i H ∧ Qd H) ∨
      (J.go i H ∧ ∃ Nx : Hp → Prop, (∀ H', Nx H' → ∃ m', m' < m ∧ W (i + 1) m' H') ∧ ∀ x H', J.yld i H x H' → g x (wipe σ vs) H' fun σ2 H2 => wipe σ2 vs = wipe σ vs ∧ tt σ2 H2 fun b H3 =>
        if b = true then tk σ2 H3 fun y H4 => tv σ2 H4 fun z H5 => ∃ kvs k, y = kV k ∧ H5 D = some (.dK kvs) ∧ kvs.length < sizeLine ∧ Nx (upd H5 D (.dK (putK kvs k z))) else Nx H3) := by
  refine ⟨fun i m H => m + i = n ∧ Pv i H, ⟨n, rfl, h0⟩, ?_⟩
  rintro i m H ⟨e, p⟩
  have q := hG i H (by omega) p
  cases m with
  | zero =>
    obtain rfl : i = n := by omega
    exact .inl ⟨w.stops H q, hd H p⟩
  | succ m =>
    have lt : i < n := by omega
    exact .inr ⟨w.goes i H lt q, Pv (i + 1), fun H' p' => ⟨m, Nat.lt_succ_self _, by omega, p'⟩, fun x H' y => hs i x H H' lt p (w.yields i H x H' lt q y)⟩
theorem walk_zip0 {K : PySem.W.Frag} {a b : Addr} : Walk (RZ.ItzT K a b) 0 (fun H => SqT K H a [] ∧ SqT K H b []) (fun _ _ _ _ => False) :=
  ⟨fun i H hi _ => (Nat.not_lt_zero _ hi).elim, fun H q => ⟨[], [], q.1, q.2, .inl (Nat.le_refl _)⟩, fun i _ _ _ hi => (Nat.not_lt_zero _ hi).elim⟩
/-! ### the reader of bodies -/
def rf (wd kd ct fm er nm mt mn ls : V) : List (Str × V) := [("_words", wd), ("_kinds", kd), ("_counts", ct), ("_forms", fm), ("_errors", er), ("_named", nm), ("_met", mt), ("_many", mn), ("_last", ls)]
/-- what was looked at: nothing, or wait -/
def FormsOk (H : Hp) (fm : Addr) (fl : Option Addr) : Prop := (fl = none ∧ H fm = some (.dT [])) ∨ ∃ l, fl = some l ∧ l ≠ fm ∧ H fm = some (.dT [([kInr "wait"], .ref l)]) ∧ H l = some (.lst [])
/-- the list of what was looked at: it stood, or is new -/
def NewF (H : Hp) (fl fl' : Option Addr) : Prop := ∀ l, fl' = some l → fl = some l ∨ H l = none
structure TRdr (K : PySem.W.Frag) (mg : Str → Option Value) (w : World) (CQ aW aP aS pE : Addr) : Prop where
  cl : Cls K CQ
  no : ∀ f ∈ (["_words", "_kinds", "_counts", "_forms", "_errors", "_named", "_met", "_many", "_last"] : List Str), NoAttr K CQ f
  len : mg "len" = none
  all : mg "all" = none
  zip : mg "zip" = none
  isi : mg "isinstance" = none
  tup : mg "tuple" = none
  str : mg "str" = none
  lst : mg "list" = none
  words : ∃ ws : List Str, (∀ H, SqT K H aW (ws.map V.str)) ∧ ("wait" : Str) ∈ ws
  gP : mg "PARTS" = some (.ref aP)
  parts : KDct K w aP "wait" (.ref pE) ∧ ∀ H, SqT K H pE []
  gS : mg "SHAPES" = some (.ref aS)
  shapes : KIn K w aS "wait" false
  blocks : ∃ t, mg "MOST_BLOCKS" = some (.int 6 t)
  stats : ∃ t, mg "MOST_STATEMENTS" = some (.int 200 t)
  vars : ∃ t, mg "MOST_VARIABLES" = some (.int 5 t)
/-- _variables_in, of wait -/
def spVarsIn (CQ aW : Addr) : Sp := fun vs H Q _ => ∃ (r st dx : Addr) (kd ct fm er nm mt mn ls : V), vs = [.ref r, .ref st] ∧ H r = some (.ins CQ dx (rf (.ref aW) kd ct fm er nm mt mn ls)) ∧ H st = some (.tup [.str "wait"]) ∧
  ∀ (H' : Hp) (l : Addr), Same H H' → H l = none → H' l = some (.lst []) → Q (.ref l) H'
abbrev viN : List Str := ["self", "form", "word", "sorts", "part", "sort"]
theorem scVi : FnScope viN ["self", "form"] (defScope (rMeth 11)) := ⟨rfl, rfl, rfl, by decide +kernel, rfl, by decide +kernel, by decide +kernel⟩
section
variable {P : Program} {w : World} {K : PySem.W.Frag} {mg : Str → Option Value} {base : Heap} {CQ aW aP aS pE : Addr}
theorem ok_varsIn {f : Addr} {fd : FuncData} (F : Fun K "_variables_in" "Reader._variables_in" (rMeth 11) f fd) (T : TRdr K mg w CQ aW aP aS pE) : FnOk P w K mg base CX0 1 f fd ["self", "form"] (spVarsIn CQ aW) := by
  refine F.ok scVi (fun vs H Q E h => ?_) (fun cdv A outer s H vs Q E hr h => ?_)
  · obtain ⟨r, st, dx, kd, ct, fm, er, nm, mt, mn, ls, rfl, _⟩ := h
    rfl
  · obtain ⟨r, st, dx, kd, ct, fm, er, nm, mt, mn, ls, rfl, hR, hst, q⟩ := h
    refine ⟨_, pss_cons (ps_set (i := 2) scVi.nd rfl (.inl rfl) (pe_ix ix_seq (pv 1) pe_int (fun _ _ => rfl)))
      (pss_cons (ps_if (pt_cmpR op_notIn_seq (pv 2) (pe_fld (pv 0) rfl) (by rfl)) pss_never pss_nil)
      (pss_cons (ps_set (i := 3) scVi.nd rfl (.inl rfl) (pe_ix ix_kdict (pe_glob (v := .ref aP) (by rfl) T.gP rfl) (pv 2) (fun _ _ => rfl)))
      (pss_cons (ps_if (PW.pt (pw_or (pt_cmpR op_ne (pe_callB cr_lenRow (by rfl) T.len (by decide +kernel) (pa_cons (pv 1) pa_nil)) (pe_op op_add (pe_callB cr_lenRow (by rfl) T.len (by decide +kernel) (pa_cons (pv 3) pa_nil)) pe_int) (nomark _))
          (pw_or1 (pt_not (pt_val (pe_callB (cr_all rfl) (by rfl) T.all (by decide +kernel) (pa_cons
            (pe_lc (own := [("part", 4), ("sort", 5)]) (g := gTup K 2 (gCons (gName 4) (gCons (gName 5) gNil))) (tt := tYes) rfl scVi.nd (RZ.pi_zipA (by rfl) T.zip (pa_cons (pe_slice sl_tup (pv 1) (po_some pe_int) po_none) (pa_cons (pv 3) pa_nil)))
              (blkOk_by (own := [("part", 4), ("sort", 5)]) (N := viN) (sc := defScope (rMeth 11)) (by decide +kernel))
              (fun _ _ _ _ _ => pg_tup rfl (pgs_cons (pg_name (i := 4) scVi.nd rfl (.inl rfl)) (pgs_cons (pg_name (i := 5) scVi.nd rfl (.inl rfl)) pgs_nil))) (fun _ _ _ _ _ => pts_nil)
              (fun _ _ _ _ _ => pe_never)) pa_nil))))))) pss_never pss_nil)
      (pss_cons (ps_if (PW.pt (pw_and (pt_cmpR op_eq (pv 2) pe_str (nomark _)) (pw_and1 pt_never))) pss_never pss_nil)
      (pss_one (ps_ret (pe_lc (te := tVar 4) (own := [("part", 4), ("sort", 5)]) (g := gTup K 2 (gCons (gName 4) (gCons (gName 5) gNil))) rfl scVi.nd (RZ.pi_zipA (by rfl) T.zip (pa_cons (pe_slice sl_tup (pv 1) (po_some pe_int) po_none) (pa_cons (pv 3) pa_nil)))
              (blkOk_by (own := [("part", 4), ("sort", 5)]) (N := viN) (sc := defScope (rMeth 11)) (by decide +kernel))
              (fun _ _ _ _ _ => pg_tup rfl (pgs_cons (pg_name (i := 4) scVi.nd rfl (.inl rfl)) (pgs_cons (pg_name (i := 5) scVi.nd rfl (.inl rfl)) pgs_nil))) (fun _ _ _ _ _ => pts_one pt_never)
              (fun _ _ _ _ _ => pv 4)))))))), ?_⟩
    have hw : st ≠ r := fun z => by rw [z, hR] at hst; cases hst
    obtain ⟨ws, hW, mem⟩ := T.words
    refine ⟨_, rfl, ix_row ⟨st, rfl, .inr (.of hst)⟩ (atI_nat (j := 0) rfl) ?_⟩
    refine ⟨_, rfl, _, rfl, r, CQ, dx, _, _, rfl, hR, T.cl, T.no _ (by simp), rfl, ?_⟩
    have iw : inV (V.str "wait") (ws.map V.str) = true := by
      unfold inV
      rw [List.any_map]
      refine List.any_eq_true.mpr ⟨"wait", mem, ?_⟩
      show (("wait" : Str) == "wait") = true
      exact beq_self_eq_true _
    have fw : (ws.map V.str).all flatV = true := by
      rw [List.all_map]
      exact List.all_eq_true.mpr fun _ _ => rfl
    refine ⟨aW, _, rfl, .inr (hW _), rfl, fw, ?_⟩
    dsimp only
    rw [iw]
    refine ⟨_, rfl, iteF ?_⟩
    refine ⟨_, rfl, aP, _, _, rfl, rfl, T.parts.1, ?_⟩
    refine ⟨_, rfl, .ref st, _, rfl, ⟨st, rfl, .inr (.of hst)⟩, _, rfl, .ref pE, _, rfl, ⟨pE, rfl, .inr (T.parts.2 _)⟩, _, _, rfl, rfl, ?_⟩
    refine ⟨rfl, _, rfl, iteNS rfl ?_⟩
    have cut0 : cutV [V.str "wait"] (some 1) none = [] := rfl
    refine ⟨_, rfl, 1, rfl, st, _, rfl, .of hst, by decide, fun p hp => ?_⟩
    rw [cut0]
    refine ⟨_, rfl, p, pE, [], [], rfl, .inr ⟨.of upd_same, T.parts.2 _, fun D hD => ?_⟩⟩
    have sp := same_upd (o := .tup []) hp
    refine lc_it walk_zip0 (fun i H' => Same (upd H p (.tup [])) H' ∧ H' D = some (.lst [])) ⟨same_upd hD, upd_same⟩ (fun i H' _ s => ⟨.of (s.1 _ _ upd_same), T.parts.2 _⟩) (fun _ _ _ _ hi => (Nat.not_lt_zero _ hi).elim) ?_
    rintro H2 ⟨s2, hD2⟩
    refine ⟨D, [], rfl, .of hD2, _, rfl, iteF ?_⟩
    refine ⟨_, rfl, rfl, _, rfl, iteF ?_⟩
    have s3 : Same H H2 := fun b o z => s2 _ _ (sp _ _ z)
    refine ⟨_, rfl, 1, rfl, st, _, rfl, .of (s3 _ _ hst), by decide, fun p2 hp2 => ?_⟩
    rw [cut0]
    refine ⟨_, rfl, p2, pE, [], [], rfl, .inr ⟨.of upd_same, T.parts.2 _, fun D2 hD2 => ?_⟩⟩
    have sp2 := same_upd (o := .tup []) hp2
    refine lc_it walk_zip0 (fun i H' => Same (upd H2 p2 (.tup [])) H' ∧ H' D2 = some (.lst [])) ⟨same_upd hD2, upd_same⟩ (fun i H' _ s => ⟨.of (s.1 _ _ upd_same), T.parts.2 _⟩) (fun _ _ _ _ hi => (Nat.not_lt_zero _ hi).elim) ?_
    rintro H3 ⟨s4, hl⟩
    refine q H3 D2 (fun b o z => s4 _ _ (sp2 _ _ (s3 _ _ z))) ?_ hl
    cases z : H D2 with
    | none => rfl
    | some o => rw [sp2 _ _ (s3 _ _ z)] at hD2; cases hD2
end
end Q9
end
-- QMeet
section
set_option maxRecDepth 100000
set_option maxHeartbeats 4000000
namespace Q9
open PySem L2
/-! a statement is met -/
/-- all but two things stay -/
def But2 (a b : Addr) (H H' : Hp) : Prop := ∀ c o, c ≠ a → c ≠ b → H c = some o → H' c = some o
structure RdSt (CQ aW : Addr) (H : Hp) (r dx fm nm mt : Addr) (kd ct er mn ls : V) (kvs : List (Key × V)) (met : List (List Key × V)) (fl : Option Addr) : Prop where
  ins : H r = some (.ins CQ dx (rf (.ref aW) kd ct (.ref fm) er (.ref nm) (.ref mt) mn ls))
  forms : FormsOk H fm fl
  named : H nm = some (.dK kvs)
  few : kvs.length ≤ 5
  met : H mt = some (.dT met)
  ne : fm ≠ mt
def spMeet (CQ aW : Addr) : Sp := fun vs H Q _ => ∃ (r st dx fm nm mt : Addr) (kd ct er mn ls pl : V) (kvs : List (Key × V)) (fl : Option Addr), vs = [.ref r, .ref st, pl] ∧ RdSt CQ aW H r dx fm nm mt kd ct er mn ls kvs [] fl ∧ H st = some (.tup [.str "wait"]) ∧
  ∀ (H' : Hp) (met : List (List Key × V)) (fl' : Option Addr), But2 fm mt H H' → RdSt CQ aW H' r dx fm nm mt kd ct er mn ls kvs met fl' → NewF H fl fl' → Q .non H'
abbrev meN : List Str := ["self", "form", "place", "part", "variable"]
theorem scMe : FnScope meN ["self", "form", "place"] (defScope (rMeth 10)) := ⟨rfl, rfl, rfl, by decide +kernel, rfl, by decide +kernel, by decide +kernel⟩
section
variable {P : Program} {w : World} {K : PySem.W.Frag} {mg : Str → Option Value} {base : Heap} {CQ aW aP aS pE fV : Addr}
theorem ok_meet {f : Addr} {fd dV : FuncData} (F : Fun K "_meet" "Reader._meet" (rMeth 10) f fd) (T : TRdr K mg w CQ aW aP aS pE) (mV : Meth K CQ "_variables_in" fV)
    (GV : FnOk P w K mg base CX0 1 fV dV ["self", "form"] (spVarsIn CQ aW)) (bV : Binds K dV ["self", "form"] []) : FnOk P w K mg base CX0 2 f fd ["self", "form", "place"] (spMeet CQ aW) := by
  refine F.ok scMe (fun vs H Q E h => ?_) (fun cdv A outer s H vs Q E hr h => ?_)
  · obtain ⟨r, st, dx, fm, nm, mt, kd, ct, er, mn, ls, pl, kvs, fl, rfl, _⟩ := h
    rfl
  · obtain ⟨r, st, dx, fm, nm, mt, kd, ct, er, mn, ls, pl, kvs, fl, rfl, ⟨hR, hF, hN, few, hM, ne⟩, hst, q⟩ := h
    have hu := hu_of hr
    obtain ⟨tv, hv⟩ := T.vars
    refine ⟨_, pss_cons (ps_for PassesOwn.never rfl (pi_row (pv 1)) (pg_name (i := 3) scMe.nd rfl (.inl rfl))
        (pss_one (ps_if (PW.pt (pw_and (pt_not (pt_val (pe_callB call_isi (by rfl) T.isi (by decide +kernel) (pa_cons (pv 3) (pa_cons (pe_bltn (v := .ty "str") (by rfl) T.str (by decide +kernel) rfl) pa_nil))))) (pw_and1 pt_never))) pss_never pss_nil)))
      (pss_cons (ps_if (pt_cmp (pc_din hu (pv 1) (pe_fld (pv 0) rfl))) pss_never pss_nil)
      (pss_cons (ps_dput hu (pe_fld (pv 0) rfl) (pv 1) pe_bl rfl)
      (C8.pss_cut (ps_if (pt_cmp (pc_dnotin hu (pv 1) (pe_fld (pv 0) rfl))) (pss_one (ps_dput hu (pe_fld (pv 0) rfl) (pv 1) (pe_meth (pv 0) T.cl mV GV (hr.mono (by omega)) bV .nil pass0 (pa_cons (pv 1) pa_nil)) rfl)) pss_nil)
      (pss_cons (ps_if (pt_cmp (pc_isN (pe_dget hu (pe_fld (pv 0) rfl) (pv 1) (fun _ _ => rfl)))) pss_never pss_nil)
      (pss_cons (ps_for PassesOwn.never rfl (pi_list (pe_dget hu (pe_fld (pv 0) rfl) (pv 1) (fun _ _ => rfl))) (pg_name (i := 4) scMe.nd rfl (.inl rfl)) pss_never)
      (pss_one (ps_if (pt_cmpR op_gt (pe_callB call_lenD (by rfl) T.len (by decide +kernel) (pa_cons (pe_fld (pv 0) rfl) pa_nil)) (pe_glob (v := .int 5) (by rfl) hv ⟨_, rfl⟩) (nomark _)) pss_never pss_nil))))))), ?_⟩
    have key : ([kInr "wait"] : List Key).map kV = [V.str "wait"] := rfl
    have ns : ∀ f ∈ (["_words", "_kinds", "_counts", "_forms", "_errors", "_named", "_met", "_many", "_last"] : List Str), NoAttr K CQ f := T.no
    refine ⟨_, rfl, _, ⟨st, rfl, .inr (.of hst)⟩, fun J G hG wk => ?_⟩
    refine for_it wk (fun i σ H' => ∃ v, σ = [some (.ref r), some (.ref st), some pl, v, none] ∧ H' = H) ⟨none, rfl, rfl⟩ (fun i σ H' _ ⟨_, _, e⟩ => hG _ (e ▸ Same.refl _)) ?_ ?_
    · rintro i x σ H2 H3 hi ⟨v, rfl, rfl⟩ ⟨rfl, hx⟩
      have hx' : x = V.str "wait" := by
        cases i with
        | zero => exact (Option.some.inj hx).symm
        | succ i => exact absurd hi (by simp)
      subst hx'
      exact ⟨_, rfl, _, _, _, _, true, rfl, .ty _, .base (.str "wait"), kit_ty (by decide +kernel), true, rfl, iteF (iteF ⟨_, rfl, rfl⟩)⟩
    rintro σ H2 ⟨v, rfl, rfl⟩
    refine ⟨_, rfl, _, rfl, r, CQ, dx, _, _, rfl, hR, T.cl, T.no _ (by simp), rfl, mt, _, rfl, DGet.t (k := [kInr "wait"]) hM hst, ?_⟩
    refine ⟨_, rfl, iteF ?_⟩
    refine ⟨_, rfl, r, CQ, dx, _, _, rfl, hR, T.cl, T.no _ (by simp), rfl, _, rfl, mt, _, rfl, DPut.t (k := [kInr "wait"]) hM hst (by decide), ?_⟩
    have nMr : r ≠ mt := fun z => by rw [z, hM] at hR; cases hR
    have nMs : st ≠ mt := fun z => by rw [z, hM] at hst; cases hst
    have nMn : nm ≠ mt := fun z => by rw [z, hM] at hN; cases hN
    have hR1 : upd H2 mt (.dT (putK [] [kInr "wait"] (.bl true))) r = some (.ins CQ dx (rf (.ref aW) kd ct (.ref fm) er (.ref nm) (.ref mt) mn ls)) := by rw [upd_ne nMr]; exact hR
    have hs1 : upd H2 mt (.dT (putK [] [kInr "wait"] (.bl true))) st = some (.tup [.str "wait"]) := by rw [upd_ne nMs]; exact hst
    have hN1 : upd H2 mt (.dT (putK [] [kInr "wait"] (.bl true))) nm = some (.dK kvs) := by rw [upd_ne nMn]; exact hN
    have hM1 : upd H2 mt (.dT (putK [] [kInr "wait"] (.bl true))) mt = some (.dT (putK [] [kInr "wait"] (.bl true))) := upd_same
    have hF1 : FormsOk (upd H2 mt (.dT (putK [] [kInr "wait"] (.bl true)))) fm fl := by
      rcases hF with ⟨e, h⟩ | ⟨l, e, n, h1, h2⟩
      · exact .inl ⟨e, by rw [upd_ne ne]; exact h⟩
      · exact .inr ⟨l, e, n, by rw [upd_ne ne]; exact h1, by rw [upd_ne (fun z => by rw [z, hM] at h2; cases h2)]; exact h2⟩
    have b1 : But2 fm mt H2 (upd H2 mt (.dT (putK [] [kInr "wait"] (.bl true)))) := fun c o _ n e => by rw [upd_ne n]; exact e
    have n1 : ∀ l, upd H2 mt (.dT (putK [] [kInr "wait"] (.bl true))) l = none → H2 l = none := fun l e => by
      rw [upd_ne (fun z => by rw [z, upd_same] at e; cases e)] at e
      exact e
    generalize upd H2 mt (.dT (putK [] [kInr "wait"] (.bl true))) = H1 at hR1 hs1 hN1 hM1 hF1 b1 n1 ⊢
    refine ⟨fun σ H' => ∃ v l, σ = [some (.ref r), some (.ref st), some pl, v, none] ∧ (fl = some l ∨ H2 l = none) ∧ But2 fm mt H1 H' ∧ H' fm = some (.dT [([kInr "wait"], .ref l)]) ∧ H' l = some (.lst []) ∧ H' r = H1 r ∧ H' st = H1 st ∧ H' nm = H1 nm ∧ H' mt = H1 mt, ?_, ?_⟩
    · refine ⟨_, rfl, _, rfl, r, CQ, dx, _, _, rfl, hR1, T.cl, T.no _ (by simp), rfl, ?_⟩
      rcases hF1 with ⟨ef, hF1⟩ | ⟨l, ef, nl, hF1, hl1⟩
      · refine ⟨fm, _, rfl, DGet.t (k := [kInr "wait"]) hF1 hs1, ?_⟩
        refine ⟨_, rfl, iteT ?_⟩
        refine ⟨_, rfl, r, dx, _, rfl, hR1, rfl, _, rfl, r, st, dx, kd, ct, .ref fm, er, .ref nm, .ref mt, mn, ls, rfl, hR1, hs1, fun H' l s1 l0 hl => ?_⟩
        refine ⟨_, rfl, r, CQ, dx, _, _, rfl, s1 _ _ hR1, T.cl, T.no _ (by simp), rfl, _, rfl, fm, _, rfl, DPut.t (k := [kInr "wait"]) (s1 _ _ hF1) (s1 _ _ hs1) (by decide), ?_⟩
        have nf : ∀ {c : Addr} {o : HO}, H1 c = some o → c ≠ fm → upd H' fm (.dT (putK [] [kInr "wait"] (.ref l))) c = H1 c := fun {c o} e n => by rw [upd_ne n, e]; exact s1 _ _ e
        refine ⟨v, l, rfl, .inr (n1 _ l0), fun c o n _ e => by rw [upd_ne n]; exact s1 _ _ e, upd_same, ?_, nf hR1 (fun z => by rw [z, hF1] at hR1; cases hR1), nf hs1 (fun z => by rw [z, hF1] at hs1; cases hs1), nf hN1 (fun z => by rw [z, hF1] at hN1; cases hN1), nf hM1 (Ne.symm ne)⟩
        rw [upd_ne (fun z => by rw [z, hF1] at l0; cases l0)]
        exact hl
      · refine ⟨fm, _, rfl, DGet.t (k := [kInr "wait"]) hF1 hs1, ?_⟩
        exact ⟨_, rfl, iteF ⟨v, l, rfl, .inl ef, fun c o _ _ e => e, hF1, hl1, rfl, rfl, rfl, rfl⟩⟩
    · rintro σ H3 ⟨v, l, rfl, ol, b3, hf3, hl3, hR3, hs3, hN3, hM3⟩
      rw [hR1] at hR3
      rw [hs1] at hs3
      rw [hN1] at hN3
      rw [hM1] at hM3
      refine ⟨_, rfl, r, CQ, dx, _, _, rfl, hR3, T.cl, T.no _ (by simp), rfl, _, rfl, fm, .ref l, rfl, DGet.t (k := [kInr "wait"]) hf3 hs3, ?_⟩
      refine ⟨_, rfl, iteF ?_⟩
      refine ⟨_, rfl, r, CQ, dx, _, _, rfl, hR3, T.cl, T.no _ (by simp), rfl, _, rfl, fm, .ref l, rfl, DGet.t (k := [kInr "wait"]) hf3 hs3, ?_⟩
      refine ⟨l, rfl, ⟨_, .of hl3⟩, for_list (K := K) (a := l) (xs := []) (fun i σ H' => σ = [some (.ref r), some (.ref st), some pl, v, none] ∧ H' = H3) ⟨rfl, rfl⟩ (fun i σ H' _ e => .of (by rw [e.2]; exact hl3)) (fun i x σ H' hx => absurd hx (by simp)) ?_⟩
      rintro σ H4 ⟨rfl, rfl⟩
      refine ⟨_, rfl, r, CQ, dx, _, _, rfl, hR3, T.cl, T.no _ (by simp), rfl, nm, kvs, rfl, hN3, _, _, rfl, rfl, _, rfl, ?_⟩
      rw [decide_eq_false (by omega : ¬ (5 : Int) < (kvs.length : Nat))]
      refine iteF (q H4 _ (some l) (fun c o n1 n2 e => b3 _ _ n1 n2 (b1 _ _ n1 n2 e)) ⟨hR3, .inr ⟨l, rfl, (fun z => by rw [z, hf3] at hl3; cases hl3), hf3, hl3⟩, hN3, few, hM3, ne⟩ fun l' e => by cases e; exact ol)
end
end Q9
end
-- QBlock
section
set_option maxRecDepth 100000
set_option maxHeartbeats 4000000
namespace Q9
open PySem L2
/-! a body without blocks: nothing, or wait -/
theorem RdSt.up {CQ aW : Addr} {H H' : Hp} (s : Same H H') {r dx fm nm mt : Addr} {kd ct er mn ls : V} {kvs : List (Key × V)} {met : List (List Key × V)} {fl : Option Addr} (h : RdSt CQ aW H r dx fm nm mt kd ct er mn ls kvs met fl) : RdSt CQ aW H' r dx fm nm mt kd ct er mn ls kvs met fl :=
  ⟨s _ _ h.ins, h.forms.imp (fun ⟨e, a⟩ => ⟨e, s _ _ a⟩) fun ⟨l, e, n, a, b⟩ => ⟨l, e, n, s _ _ a, s _ _ b⟩, s _ _ h.named, h.few, s _ _ h.met, h.ne⟩
/-- a row walked, as it stood at some heap ahead -/
def iRowS (K : PySem.W.Frag) (tl : TE) : TI := fun σ H R => tl σ H fun x H1 => ∃ (xs : List V) (H0 : Hp), Row K H0 x xs ∧ SameSq H0 H1 ∧ ∀ (J : It) (G : Hp → Prop), (∀ H', SameSq H0 H' → G H') → Walk J xs.length G (YAt xs) → R J H1
theorem pi_rowS {X : Cx} {tg l : Expr} {tl : TE} (hl : PE X l tl) : PI X tg l (iRowS X.K tl) := by
  refine ⟨fun pins s σ H R I h => ?_⟩
  refine thn (hl.run pins s σ H _ I h) fun v s1 ⟨x, H1, I1, r1, xs, H0, ⟨a, e, hq⟩, s0, q⟩ => ?_
  subst e
  cases r1
  have one : ∀ b ∈ [s1.heap.objs.size], FpOk X pins H1 b := fun b hb => by
    obtain rfl : b = s1.heap.objs.size := by simpa using hb
    exact I1.fpOk (Nat.le_refl _) (I1.hok.fresh (Nat.le_refl _))
  rcases hq with hq | hq
  · obtain ⟨its, rv, p, hz⟩ := I1.list (sqL_up s0 hq)
    exact PySem.wpAny_pyIter_list p.isList ⟨s1.heap.objs.size, [s1.heap.objs.size], _, _, H1, rfl, I1.kept (t' := s1.toks) fun b o e => Heap.get?_push_of_some _ e, turn_list a _, ⟨_, Heap.get?_push_size _ rfl, rfl, rfl⟩, one,
      q _ (fun H' => SqL X.K H' a xs) (fun H' s => sqL_up s hq) walk_list⟩
  · obtain ⟨its, rv, p, hz⟩ := I1.tuple (sqT_up s0 hq)
    exact PySem.wpAny_pyIter_tuple (show s1.heap.IsTuple a its.toArray from p) ⟨s1.heap.objs.size, [s1.heap.objs.size], _, _, H1, rfl, I1.kept (t' := s1.toks) fun b o e => Heap.get?_push_of_some _ e, turn_tuple a _, ⟨_, Heap.get?_push_size _ rfl, rfl, rfl⟩, one,
      q _ (fun H' => SqT X.K H' a xs) (fun H' s => sqT_up s hq) walk_tup⟩
def spSimple (CQ aW : Addr) : Sp := fun vs H Q _ => ∃ (r st dx fm nm mt : Addr) (kd ct er mn ls pl : V) (kvs : List (Key × V)) (fl : Option Addr), vs = [.ref r, .ref st, pl, .int 0] ∧ RdSt CQ aW H r dx fm nm mt kd ct er mn ls kvs [] fl ∧ H st = some (.tup [.str "wait"]) ∧
  ∀ (H' : Hp) (met : List (List Key × V)) (fl' : Option Addr), But2 fm mt H H' → RdSt CQ aW H' r dx fm nm mt kd ct er mn ls kvs met fl' → NewF H fl fl' → Q (.ref st) H'
abbrev siN : List Str := ["self", "statement", "place", "loops"]
theorem scSi : FnScope siN siN (defScope (rMeth 5)) := ⟨rfl, rfl, rfl, by decide +kernel, rfl, by decide +kernel, by decide +kernel⟩
/-- a body -/
def BodyOk (K : PySem.W.Frag) (H : Hp) (v : V) : Prop := Row K H v [] ∨ ∃ st, Row K H v [.ref st] ∧ H st = some (.tup [.str "wait"])
def spBlock (CQ aW : Addr) (K : PySem.W.Frag) : Sp := fun vs H Q _ => ∃ (r dx fm nm mt : Addr) (kd ct er mn pl body : V) (kvs : List (Key × V)) (fl : Option Addr), vs = [.ref r, body, pl, .int 0, .int 0, .int 0] ∧ RdSt CQ aW H r dx fm nm mt kd ct er (.int 0) .non kvs [] fl ∧ BodyOk K H body ∧
  ∀ (H' : Hp) (t : Addr) (met : List (List Key × V)) (mn ls : V) (fl' : Option Addr), (∀ c o, c ≠ fm → c ≠ mt → c ≠ r → H c = some o → H' c = some o) → RdSt CQ aW H' r dx fm nm mt kd ct er mn ls kvs met fl' → NewF H fl fl' → Q (.ref t) H'
abbrev blN : List Str := ["self", "rows", "place", "blocks", "loops", "withs", "found", "last", "many", "met", "statement"]
theorem scBl : FnScope blN ["self", "rows", "place", "blocks", "loops", "withs"] (defScope (rMeth 4)) := ⟨rfl, rfl, rfl, by decide +kernel, rfl, by decide +kernel, by decide +kernel⟩
section
variable {P : Program} {w : World} {K : PySem.W.Frag} {mg : Str → Option Value} {base : Heap} {CQ aW aP aS pE fM fS : Addr}
theorem ok_simple {f : Addr} {fd dM : FuncData} (F : Fun K "_simple" "Reader._simple" (rMeth 5) f fd) (T : TRdr K mg w CQ aW aP aS pE) (mM : Meth K CQ "_meet" fM)
    (GM : FnOk P w K mg base CX0 2 fM dM ["self", "form", "place"] (spMeet CQ aW)) (bM : Binds K dM ["self", "form", "place"] []) : FnOk P w K mg base CX0 3 f fd siN (spSimple CQ aW) := by
  refine F.ok scSi (fun vs H Q E h => ?_) (fun cdv A outer s H vs Q E hr h => ?_)
  · obtain ⟨r, st, dx, fm, nm, mt, kd, ct, er, mn, ls, pl, kvs, fl, rfl, _⟩ := h
    rfl
  · obtain ⟨r, st, dx, fm, nm, mt, kd, ct, er, mn, ls, pl, kvs, fl, rfl, R, hst, q⟩ := h
    refine ⟨_, pss_cons (ps_if (pt_cmpR op_eq (pe_ix ix_seq (pv 1) pe_int (fun _ _ => rfl)) pe_str (nomark _)) pss_never pss_nil)
      (pss_cons (ps_expr (pe_meth (pv 0) T.cl mM GM (hr.mono (by omega)) bM .nil pass0 (pa_cons (pv 1) (pa_cons (pv 2) pa_nil))))
      (pss_cons (ps_if (PW.pt (pw_and (pt_cmpR op_eq (pv 3) pe_int (nomark _)) (pw_and1 (pt_cmpR op_in_seq (pe_ix ix_seq (pv 1) pe_int (fun _ _ => rfl)) (pe_tup (pa_cons pe_str (pa_cons pe_str pa_nil))) (by rfl))))) pss_never pss_nil)
      (pss_one (ps_ret (pv 1))))), ?_⟩
    refine ⟨_, rfl, ix_row ⟨st, rfl, .inr (.of hst)⟩ (atI_nat (j := 0) rfl) ?_⟩
    refine ⟨rfl, _, rfl, ?_⟩
    rw [show decide (V.str "wait" = V.str "run") = false from by decide +kernel]
    refine iteF ⟨_, rfl, r, dx, _, rfl, R.ins, rfl, _, rfl, _, rfl, r, st, dx, fm, nm, mt, kd, ct, er, mn, ls, pl, kvs, fl, rfl, R, hst, fun H1 met fl1 b1 R1 nf => ?_⟩
    have ns : st ≠ fm ∧ st ≠ mt := ⟨fun z => by rcases R.forms with ⟨_, h⟩ | ⟨l, _, _, h, _⟩ <;> (rw [z, h] at hst; cases hst), fun z => by rw [z, R.met] at hst; cases hst⟩
    have hs1 := b1 _ _ ns.1 ns.2 hst
    refine ⟨_, rfl, rfl, _, rfl, iteT ⟨_, rfl, ix_row ⟨st, rfl, .inr (.of hs1)⟩ (atI_nat (j := 0) rfl) ⟨(by show 2 ≤ sizeLine; decide), fun t ht => ?_⟩⟩⟩
    refine ⟨t, _, rfl, .inr (.of upd_same), rfl, rfl, ?_⟩
    have e : inV (V.str "wait") [V.str "leave", V.str "again"] = false := by decide +kernel
    dsimp only
    rw [e]
    have sm := same_upd (o := .tup [.str "leave", .str "again"]) ht
    exact ⟨_, rfl, iteF ⟨_, rfl, q _ met fl1 (fun c o n1 n2 z => sm _ _ (b1 _ _ n1 n2 z)) (R1.up sm) nf⟩⟩
theorem ok_block {f : Addr} {fd dS : FuncData} (F : Fun K "_block" "Reader._block" (rMeth 4) f fd) (T : TRdr K mg w CQ aW aP aS pE) (mS : Meth K CQ "_simple" fS)
    (GS : FnOk P w K mg base CX0 3 fS dS siN (spSimple CQ aW)) (bS : Binds K dS siN []) : FnOk P w K mg base CX0 4 f fd ["self", "rows", "place", "blocks", "loops", "withs"] (spBlock CQ aW K) := by
  refine F.ok scBl (fun vs H Q E h => ?_) (fun cdv A outer s H vs Q E hr h => ?_)
  · obtain ⟨r, dx, fm, nm, mt, kd, ct, er, mn, pl, body, kvs, fl, rfl, _⟩ := h
    rfl
  · obtain ⟨r, dx, fm, nm, mt, kd, ct, er, mn, pl, body, kvs, fl, rfl, R, hB, q⟩ := h
    have hu := hu_of hr
    have hu64 := hr.units
    obtain ⟨tb, hb⟩ := T.blocks
    obtain ⟨ts, hs⟩ := T.stats
    refine ⟨_, pss_cons (ps_if (pt_cmpR op_eq (pe_callB cr_lenRow (by rfl) T.len (by decide +kernel) (pa_cons (pv 1) pa_nil)) pe_int (nomark _)) (pss_one (ps_ret (pe_tup pa_nil))) pss_nil)
      (pss_cons (ps_if (pt_cmpR op_gt (pv 3) (pe_glob (v := .int 6) (by rfl) hb ⟨_, rfl⟩) (nomark _)) pss_never pss_nil)
      (pss_cons (ps_set (i := 6) scBl.nd rfl (.inl rfl) (pe_lst pa_nil))
      (pss_cons (ps_set (i := 7) scBl.nd rfl (.inl rfl) (pe_fld (pv 0) rfl))
      (pss_cons (ps_set (i := 8) scBl.nd rfl (.inl rfl) (pe_fld (pv 0) rfl))
      (pss_cons (ps_set (i := 9) scBl.nd rfl (.inl rfl) (pe_fld (pv 0) rfl))
      (pss_cons (ps_for PassesOwn.never rfl (pi_rowS (pv 1)) (pg_name (i := 10) scBl.nd rfl (.inl rfl))
        (pss_cons (ps_aug (i := 8) scBl.nd rfl (.inl rfl) pe_int ip_add)
        (pss_cons (ps_if (pt_cmpR op_gt (pv 8) (pe_glob (v := .int 200) (by rfl) hs ⟨_, rfl⟩) (nomark _)) pss_never pss_nil)
        (pss_cons (ps_if (PW.pt (pw_and (pt_cmpR (op_eqD hu64) (pv 10) (pv 7) (nomark _)) (pw_and1 pt_never))) pss_never pss_nil)
        (pss_cons (ps_if (pt_not (pt_val (pe_callB call_isi (by rfl) T.isi (by decide +kernel) (pa_cons (pv 10) (pa_cons (pe_bltn (v := .ty "tuple") (by rfl) T.tup (by decide +kernel) rfl) pa_nil))))) pss_never pss_nil)
        (pss_cons (ps_if (PW.pt (pw_or (pt_cmpR op_eq (pe_callB cr_lenRow (by rfl) T.len (by decide +kernel) (pa_cons (pv 10) pa_nil)) pe_int (nomark _))
            (pw_or1 (pt_not (pt_val (pe_callB call_isi (by rfl) T.isi (by decide +kernel) (pa_cons (pe_ix ix_seq (pv 10) pe_int (fun _ _ => rfl)) (pa_cons (pe_bltn (v := .ty "str") (by rfl) T.str (by decide +kernel) rfl) pa_nil)))))))) pss_never pss_nil)
        (pss_cons (ps_if (pt_cmpR op_in_kdict (pe_ix ix_seq (pv 10) pe_int (fun _ _ => rfl)) (pe_glob (v := .ref aS) (by rfl) T.gS rfl) (by rfl)) pss_never pss_nil)
        (pss_cons (ps_if (pt_not (PW.pt (pw_and (pt_chain op_lt op_lt pe_int (pe_callB cr_lenRow (by rfl) T.len (by decide +kernel) (pa_cons (pv 10) pa_nil)) pe_int) (pw_and pt_never (pw_and pt_never (pw_and1 pt_never))))))
          (pss_one (ps_set (i := 10) scBl.nd rfl (.inl rfl) (pe_meth (pv 0) T.cl mS GS (hr.mono (by omega)) bS .nil pass0 (pa_cons (pv 10) (pa_cons (pe_tup (pa_cons (pv 2) (pa_cons (pe_callB cr_lenRow (by rfl) T.len (by decide +kernel) (pa_cons (pv 6) pa_nil)) pa_nil))) (pa_cons (pv 4) pa_nil)))))) pss_nil)
        (pss_cons (ps_set (i := 7) scBl.nd rfl (.inl rfl) (pv 10))
        (pss_one (ps_expr (pe_bm PySem.F.plainAttrs_list PySem.F.slot_list_append PySem.F.type_list_append mt_append (pv 6) (pa_cons (pv 10) pa_nil)))))))))))))
      (pss_cons (ps_fld (pv 0) (pv 8) rfl)
      (pss_cons (ps_fld (pv 0) (pv 7) rfl)
      (pss_one (ps_ret (pe_callTy cr_tupOf (by rfl) T.tup (by decide +kernel) (pa_cons (pv 6) pa_nil)))))))))))), ?_⟩
    rcases hB with row | ⟨st, row, hst⟩
    · refine ⟨_, rfl, body, _, rfl, row, rfl, _, rfl, iteT ?_⟩
      exact ⟨(by show 0 ≤ sizeLine; decide), fun t ht => q _ t [] _ _ fl (fun c o _ _ _ e => same_upd ht _ _ e) (R.up (same_upd ht)) fun _ e => .inl e⟩
    refine ⟨_, rfl, body, _, rfl, row, rfl, _, rfl, iteF ?_⟩
    refine ⟨_, rfl, _, _, rfl, rfl, _, rfl, iteF ?_⟩
    refine ⟨(by show 0 ≤ sizeLine; decide), fun l hl => ?_⟩
    have s1 := same_upd (o := .lst []) hl
    have R1 := R.up s1
    refine ⟨_, rfl, r, CQ, dx, _, _, rfl, R1.ins, T.cl, T.no _ (by simp), rfl, ?_⟩
    refine ⟨_, rfl, r, CQ, dx, _, _, rfl, R1.ins, T.cl, T.no _ (by simp), rfl, ?_⟩
    refine ⟨_, rfl, r, CQ, dx, _, _, rfl, R1.ins, T.cl, T.no _ (by simp), rfl, ?_⟩
    have hs1 := s1 _ _ hst
    have hl1 : upd H l (.lst []) l = some (.lst []) := upd_same
    generalize hH1 : upd H l (.lst []) = H1 at s1 R1 hs1 hl1 ⊢
    have two : ∀ {b : Addr} {o : HO}, H b = some o → (∀ kv, o ≠ .dT kv) → b ≠ fm ∧ b ≠ mt := fun {b o} e n => ⟨fun z => by
      rcases R.forms with ⟨_, h⟩ | ⟨l', _, _, h, _⟩ <;> (rw [z, h] at e; exact n _ (Option.some.inj e).symm), fun z => by rw [z, R.met] at e; exact n _ (Option.some.inj e).symm⟩
    refine ⟨_, rfl, _, H, row, Q9.Same.sq s1, fun J G hG wk => ?_⟩
    have sq2 : ∀ {H' : Hp}, (∀ c o, c ≠ fm → c ≠ mt → H c = some o → H' c = some o) → SameSq H H' := fun {H'} b =>
      ⟨fun c xs e => b _ _ (two e fun _ z => nomatch z).1 (two e fun _ z => nomatch z).2 e, fun c xs e => b _ _ (two e fun _ z => nomatch z).1 (two e fun _ z => nomatch z).2 e, fun c o u e => b _ _ (two e fun _ z => nomatch z).1 (two e fun _ z => nomatch z).2 e⟩
    refine for_it wk (fun i σ H' => (i = 0 ∧ σ = [some (.ref r), some body, some pl, some (.int 0), some (.int 0), some (.int 0), some (.ref l), some .non, some (.int 0), some (.ref mt), none] ∧ H' = H1) ∨
      (i = 1 ∧ ∃ met fl', NewF H fl fl' ∧ σ = [some (.ref r), some body, some pl, some (.int 0), some (.int 0), some (.int 0), some (.ref l), some (.ref st), some (.int 1), some (.ref mt), some (.ref st)] ∧ (∀ c o, c ≠ fm → c ≠ mt → H c = some o → H' c = some o) ∧ RdSt CQ aW H' r dx fm nm mt kd ct er (.int 0) .non kvs met fl' ∧ H' l = some (.lst [.ref st])))
      (.inl ⟨rfl, rfl, rfl⟩) (fun i σ H' _ p => hG _ (p.elim (fun z => z.2.2 ▸ Q9.Same.sq s1) fun ⟨_, _, _, _, _, b, _⟩ => sq2 b)) ?_ ?_
    · rintro i x σ H2 H3 hi p ⟨rfl, hx⟩
      rcases p with ⟨rfl, rfl, rfl⟩ | ⟨rfl, _⟩
      case inr => exact absurd hi (by simp)
      obtain rfl : x = V.ref st := (Option.some.inj hx).symm
      have rs : Row K _ (.ref st) [.str "wait"] := ⟨st, rfl, .inr (.of hs1)⟩
      refine ⟨_, rfl, _, _, rfl, rfl, ?_⟩
      refine ⟨_, rfl, _, _, rfl, rfl, _, rfl, iteF ?_⟩
      refine ⟨_, rfl, _, rfl, _, _, .tup (.of hs1) (.cons (.str _) .nil), .non, by decide +kernel, by decide +kernel, _, rfl, iteF ?_⟩
      refine ⟨_, rfl, _, _, _, _, true, rfl, .ty _, .base (.tup hs1), kit_ty (by decide +kernel), true, rfl, iteF ?_⟩
      refine ⟨_, rfl, .ref st, _, rfl, rs, rfl, _, rfl, iteF ?_⟩
      refine ⟨_, rfl, ix_row rs (atI_nat (j := 0) rfl) ⟨_, _, _, _, true, rfl, .ty _, .base (.str _), kit_ty (by decide +kernel), true, rfl, iteF ?_⟩⟩
      refine ⟨_, rfl, ix_row rs (atI_nat (j := 0) rfl) ⟨"wait", aS, false, rfl, rfl, T.shapes, _, rfl, iteF ?_⟩⟩
      refine ⟨_, rfl, .ref st, _, rfl, rs, _, _, rfl, rfl, _, rfl, iteF ?_⟩
      refine ⟨_, rfl, iteF (iteT ?_)⟩
      refine ⟨_, rfl, r, dx, _, rfl, R1.ins, rfl, _, rfl, ⟨_, rfl, _, rfl, .ref l, _, rfl, ⟨l, rfl, .inl (.of hl1)⟩, (by show 2 ≤ sizeLine; decide), fun t ht => ⟨_, rfl, ?_⟩⟩⟩
      have s4 := same_upd (o := .tup [pl, .int 0]) ht
      refine ⟨r, st, dx, fm, nm, mt, kd, ct, er, _, _, .ref t, kvs, fl, rfl, R1.up s4, s4 _ _ hs1, fun H4 met fl4 b4 R4 nf4 => ?_⟩
      have nl : l ≠ fm ∧ l ≠ mt := ⟨fun z => by rcases R1.forms with ⟨_, h⟩ | ⟨l', _, _, h, _⟩ <;> (rw [z, h] at hl1; cases hl1), fun z => by rw [z, R1.met] at hl1; cases hl1⟩
      have hl4 := b4 _ _ nl.1 nl.2 (s4 _ _ hl1)
      refine ⟨_, rfl, ?_⟩
      refine ⟨_, rfl, .inl ⟨rfl, _, .of hl4⟩, _, rfl, l, [], _, rfl, rfl, hl4, by decide, ?_⟩
      refine .inr ⟨rfl, met, fl4, fun l' e => ?_, rfl, fun c o n1 n2 e => ?_, ?_, upd_same⟩
      · rcases nf4 l' e with z | z
        · exact .inl z
        · refine .inr ?_
          cases zz : H l' with
          | none => rfl
          | some o =>
            have z2 := (s4 _ _ (s1 _ _ zz)).symm.trans z
            cases z2
      · rw [upd_ne (ne_of_none e hl)]
        exact b4 _ _ n1 n2 (s4 _ _ (s1 _ _ e))
      · have keep : ∀ {c : Addr} {o : HO}, H4 c = some o → c ≠ l → upd H4 l (.lst ([] ++ [V.ref st])) c = some o := fun {c o} e n => by rw [upd_ne n]; exact e
        refine ⟨keep R4.ins (fun z => by have h := R4.ins; rw [z, hl4] at h; cases h), ?_, keep R4.named (fun z => ?_), R4.few, keep R4.met (Ne.symm nl.2), R4.ne⟩
        · rcases R4.forms with ⟨e, h⟩ | ⟨l', e, n, h1, h2⟩
          · exact .inl ⟨e, keep h (Ne.symm nl.1)⟩
          · refine .inr ⟨l', e, n, keep h1 (Ne.symm nl.1), keep h2 fun z => ?_⟩
            rw [z] at e
            rcases nf4 _ e with z2 | z2
            · rcases R.forms with ⟨e1, _⟩ | ⟨l1, e1, _, _, h3⟩
              · rw [e1] at z2; cases z2
              · rw [e1] at z2
                cases z2
                rw [hl] at h3
                cases h3
            · have z3 := (s4 _ _ hl1).symm.trans z2
              cases z3
        · have := R4.named
          rw [z, hl4] at this
          cases this
    · rintro σ H3 p
      rcases p with ⟨z, _⟩ | ⟨_, met, fl3, nf3, rfl, b3, R3, hl3⟩
      · exact absurd z (by simp)
      have nlr : l ≠ r := fun z => by have h := R3.ins; rw [← z, hl3] at h; cases h
      refine ⟨_, rfl, _, rfl, r, CQ, dx, _, rfl, R3.ins, T.cl, T.no _ (by simp), (by show (9 : Nat) < 1000; decide), ?_⟩
      refine ⟨_, rfl, _, rfl, r, CQ, dx, _, rfl, upd_same, T.cl, T.no _ (by simp), (by show (9 : Nat) < 1000; decide), ?_⟩
      refine ⟨_, rfl, l, _, rfl, .inl ⟨.of (by rw [upd_ne nlr, upd_ne nlr]; exact hl3), fun t ht => ?_⟩⟩
      have keep : ∀ {c : Addr} {o : HO} (u1 u2 : HO), H3 c = some o → c ≠ r → upd (upd H3 r u1) r u2 c = some o := fun {c o} u1 u2 e n => by rw [upd_ne n, upd_ne n]; exact e
      have st := same_upd (o := .tup [.ref st]) ht
      have nr : ∀ {c : Addr} {o : HO}, H3 c = some o → (∀ fs, o ≠ .ins CQ dx fs) → c ≠ r := fun {c o} e n z => by rw [z, R3.ins] at e; exact n _ (Option.some.inj e).symm
      refine q _ t met _ _ fl3 (fun c o n1 n2 n3 e => st _ _ (keep _ _ (b3 _ _ n1 n2 e) n3)) ⟨st _ _ upd_same, ?_, st _ _ (keep _ _ R3.named (nr R3.named fun _ z => nomatch z)), R3.few, st _ _ (keep _ _ R3.met (nr R3.met fun _ z => nomatch z)), R3.ne⟩ nf3
      rcases R3.forms with ⟨e, h⟩ | ⟨l', e, n, h1, h2⟩
      · exact .inl ⟨e, st _ _ (keep _ _ h (nr h fun _ z => nomatch z))⟩
      · exact .inr ⟨l', e, n, st _ _ (keep _ _ h1 (nr h1 fun _ z => nomatch z)), st _ _ (keep _ _ h2 (nr h2 fun _ z => nomatch z))⟩
end
end Q9
end
-- QReadB
section
set_option maxRecDepth 100000
set_option maxHeartbeats 4000000
namespace Q9
open PySem L2
/-! a reader made, a body read -/
def spRdrI (CQ aW : Addr) : Sp := fun vs H Q _ => ∃ (x dx : Addr) (kd ct : V), vs = [.ref x, .ref aW, kd, ct] ∧ H x = some (.ins CQ dx []) ∧ H dx = some (.own x) ∧
  ∀ (H' : Hp) (fm nm mt : Addr) (er : V), But x H H' → RdSt CQ aW H' x dx fm nm mt kd ct er (.int 0) .non [] [] none → H fm = none → Q .non H'
abbrev rrN : List Str := ["self", "words", "kinds", "counts"]
theorem scRr : FnScope rrN rrN (defScope (rMeth 0)) := ⟨rfl, rfl, rfl, by decide +kernel, rfl, by decide +kernel, by decide +kernel⟩
def spReadB (CQ aW : Addr) (K : PySem.W.Frag) : Sp := fun vs H Q _ => ∃ (r dx fm nm mt : Addr) (n kd ct er mn ls pv body : V) (kvs : List (Key × V)) (met : List (List Key × V)) (fl : Option Addr) (ps : List Str), vs = [.ref r, n, pv, body] ∧ RdSt CQ aW H r dx fm nm mt kd ct er mn ls kvs met fl ∧
  Row K H pv (ps.map V.str) ∧ ps.Nodup ∧ ps.length ≤ 3 ∧ BodyOk K H body ∧
  ∀ (H' : Hp) (t l tb nm' mt' : Addr) (mn' ls' : V) (kvs' : List (Key × V)) (met' : List (List Key × V)) (fl' : Option Addr), (∀ c o, c ≠ fm → c ≠ r → H c = some o → H' c = some o) → RdSt CQ aW H' r dx fm nm' mt' kd ct er mn' ls' kvs' met' fl' → NewF H fl fl' →
    H' t = some (.tup [.ref l, .ref tb]) → Q (.ref t) H'
abbrev rbN : List Str := ["self", "number", "variables", "body", "told", "variable"]
theorem scRb : FnScope rbN ["self", "number", "variables", "body"] (defScope (rMeth 2)) := ⟨rfl, rfl, rfl, by decide +kernel, rfl, by decide +kernel, by decide +kernel⟩
section
variable {P : Program} {w : World} {K : PySem.W.Frag} {mg : Str → Option Value} {base : Heap} {CQ aW aP aS pE fB : Addr}
theorem ok_rdrI {f : Addr} {fd : FuncData} (F : Fun K "__init__" "Reader.__init__" (rMeth 0) f fd) (T : TRdr K mg w CQ aW aP aS pE) : FnOk P w K mg base CX0 1 f fd rrN (spRdrI CQ aW) := by
  refine F.ok scRr (fun vs H Q E h => ?_) (fun cdv A outer s H vs Q E hr h => ?_)
  · obtain ⟨x, dx, kd, ct, rfl, _⟩ := h
    rfl
  · obtain ⟨x, dx, kd, ct, rfl, hx, hd, q⟩ := h
    refine ⟨_, pss_cons (ps_fld (pv 0) (pv 1) rfl) (pss_cons (ps_fld (pv 0) (pv 2) rfl) (pss_cons (ps_fld (pv 0) (pv 3) rfl) (pss_cons (ps_fld (pv 0) pe_dnewT rfl) (pss_cons (ps_fld (pv 0) pe_dnewT rfl) (pss_cons (ps_fld (pv 0) pe_dnewK rfl)
      (pss_cons (ps_fld (pv 0) pe_dnewT rfl) (pss_cons (ps_fld (pv 0) pe_int rfl) (pss_one (ps_fld (pv 0) pe_non rfl))))))))), ?_⟩
    refine ⟨_, rfl, _, rfl, x, CQ, dx, _, rfl, hx, T.cl, T.no _ (by simp), (by show (0 : Nat) < 1000; decide), ?_⟩
    refine ⟨_, rfl, _, rfl, x, CQ, dx, _, rfl, upd_same, T.cl, T.no _ (by simp), (by show (1 : Nat) < 1000; decide), ?_⟩
    refine ⟨_, rfl, _, rfl, x, CQ, dx, _, rfl, upd_same, T.cl, T.no _ (by simp), (by show (2 : Nat) < 1000; decide), ?_⟩
    have b1 : But x H (upd (upd (upd H x (.ins CQ dx (putF "_words" (.ref aW) []))) x (.ins CQ dx (putF "_kinds" kd (putF "_words" (.ref aW) [])))) x (.ins CQ dx (putF "_counts" ct (putF "_kinds" kd (putF "_words" (.ref aW) []))))) := fun c o n e => by rw [upd_ne n, upd_ne n, upd_ne n]; exact e
    have hx1 : upd (upd (upd H x (.ins CQ dx (putF "_words" (.ref aW) []))) x (.ins CQ dx (putF "_kinds" kd (putF "_words" (.ref aW) [])))) x (.ins CQ dx (putF "_counts" ct (putF "_kinds" kd (putF "_words" (.ref aW) [])))) x = some (.ins CQ dx (putF "_counts" ct (putF "_kinds" kd (putF "_words" (.ref aW) [])))) := upd_same
    generalize upd (upd (upd H x (.ins CQ dx (putF "_words" (.ref aW) []))) x (.ins CQ dx (putF "_kinds" kd (putF "_words" (.ref aW) [])))) x (.ins CQ dx (putF "_counts" ct (putF "_kinds" kd (putF "_words" (.ref aW) [])))) = H1 at b1 hx1 ⊢
    have step : ∀ {H1 : Hp} {fs fs' : List (Str × V)} {d : Addr} {o : HO}, But x H H1 → H1 x = some (.ins CQ dx fs) → H1 d = none → But x H (upd (upd H1 d o) x (.ins CQ dx fs')) ∧ upd (upd H1 d o) x (.ins CQ dx fs') x = some (.ins CQ dx fs') ∧ d ≠ x ∧ H d = none ∧ upd (upd H1 d o) x (.ins CQ dx fs') d = some o ∧ ∀ c u, c ≠ x → H1 c = some u → upd (upd H1 d o) x (.ins CQ dx fs') c = some u := fun {H1 fs fs' d o} b h nd => by
      have ndx : d ≠ x := fun z => by rw [z, h] at nd; cases nd
      refine ⟨fun c u n e => ?_, upd_same, ndx, ?_, by rw [upd_ne ndx]; exact upd_same, fun c u n e => by rw [upd_ne n, upd_ne (ne_of_none e nd)]; exact e⟩
      · have e1 := b _ _ n e
        rw [upd_ne n, upd_ne (ne_of_none e1 nd)]
        exact e1
      · cases z : H d with
        | none => rfl
        | some u => rw [b _ _ ndx z] at nd; cases nd
    refine fun fm hfm => ⟨_, rfl, x, CQ, dx, _, rfl, same_upd hfm _ _ hx1, T.cl, T.no _ (by simp), (by show (3 : Nat) < 1000; decide), ?_⟩
    obtain ⟨b2, hx2, n2, f2, g2, k2⟩ := step (fs' := putF "_forms" (.ref fm) (putF "_counts" ct (putF "_kinds" kd (putF "_words" (.ref aW) [])))) (o := .dT []) b1 hx1 hfm
    generalize upd (upd H1 fm (.dT [])) x _ = H2 at b2 hx2 g2 k2 ⊢
    refine fun er her => ⟨_, rfl, x, CQ, dx, _, rfl, same_upd her _ _ hx2, T.cl, T.no _ (by simp), (by show (4 : Nat) < 1000; decide), ?_⟩
    obtain ⟨b3, hx3, n3, f3, g3, k3⟩ := step (fs' := putF "_errors" (.ref er) (putF "_forms" (.ref fm) (putF "_counts" ct (putF "_kinds" kd (putF "_words" (.ref aW) []))))) (o := .dT []) b2 hx2 her
    have g2 := k3 _ _ n2 g2
    generalize upd (upd H2 er (.dT [])) x _ = H3 at b3 hx3 g2 k3 ⊢
    refine fun nm hnm => ⟨_, rfl, x, CQ, dx, _, rfl, same_upd hnm _ _ hx3, T.cl, T.no _ (by simp), (by show (5 : Nat) < 1000; decide), ?_⟩
    obtain ⟨b4, hx4, n4, f4, g4, k4⟩ := step (fs' := putF "_named" (.ref nm) (putF "_errors" (.ref er) (putF "_forms" (.ref fm) (putF "_counts" ct (putF "_kinds" kd (putF "_words" (.ref aW) [])))))) (o := .dK []) b3 hx3 hnm
    have g2 := k4 _ _ n2 g2
    generalize upd (upd H3 nm (.dK [])) x _ = H4 at b4 hx4 g2 g4 k4 ⊢
    refine fun mt hmt => ⟨_, rfl, x, CQ, dx, _, rfl, same_upd hmt _ _ hx4, T.cl, T.no _ (by simp), (by show (6 : Nat) < 1000; decide), ?_⟩
    obtain ⟨b5, hx5, n5, f5, g5, k5⟩ := step (fs' := putF "_met" (.ref mt) (putF "_named" (.ref nm) (putF "_errors" (.ref er) (putF "_forms" (.ref fm) (putF "_counts" ct (putF "_kinds" kd (putF "_words" (.ref aW) []))))))) (o := .dT []) b4 hx4 hmt
    have ne : fm ≠ mt := fun z => by rw [z, hmt] at g2; cases g2
    have g2 := k5 _ _ n2 g2
    have g4 := k5 _ _ n4 g4
    generalize upd (upd H4 mt (.dT [])) x _ = H5 at b5 hx5 g2 g4 g5 k5 ⊢
    refine ⟨_, rfl, x, CQ, dx, _, rfl, hx5, T.cl, T.no _ (by simp), (by show (7 : Nat) < 1000; decide), ?_⟩
    refine ⟨_, rfl, x, CQ, dx, _, rfl, upd_same, T.cl, T.no _ (by simp), (by show (8 : Nat) < 1000; decide), ?_⟩
    refine q _ fm nm mt (.ref er) (fun c o n e => by rw [upd_ne n, upd_ne n]; exact b5 _ _ n e) ⟨upd_same, .inl ⟨rfl, by rw [upd_ne n2, upd_ne n2]; exact g2⟩, by rw [upd_ne n4, upd_ne n4]; exact g4, by decide, by rw [upd_ne n5, upd_ne n5]; exact g5, ne⟩ f2
theorem ok_readB {f : Addr} {fd dB : FuncData} (F : Fun K "read" "Reader.read" (rMeth 2) f fd) (T : TRdr K mg w CQ aW aP aS pE) (mB : Meth K CQ "_block" fB)
    (GB : FnOk P w K mg base CX0 4 fB dB ["self", "rows", "place", "blocks", "loops", "withs"] (spBlock CQ aW K)) (bB : Binds K dB ["self", "rows", "place", "blocks", "loops", "withs"] []) : FnOk P w K mg base CX0 5 f fd ["self", "number", "variables", "body"] (spReadB CQ aW K) := by
  refine F.ok scRb (fun vs H Q E h => ?_) (fun cdv A outer s H vs Q E hr h => ?_)
  · obtain ⟨r, dx, fm, nm, mt, n, kd, ct, er, mn, ls, pv', body, kvs, met, fl, ps, rfl, _⟩ := h
    rfl
  · obtain ⟨r, dx, fm, nm, mt, n, kd, ct, er, mn, ls, pv', body, kvs, met, fl, ps, rfl, R, rP, nd, few, hB, q⟩ := h
    refine ⟨_, pss_cons (ps_fld (pv 0) (pe_dc (tk := tVar 5) (tv := tC (.bl true)) (own := [("variable", 5)]) (g := gName 5) (tt := tYes) rfl scRb.nd (pi_rowS (pv 2)) (blkOk_by (own := [("variable", 5)]) (N := rbN) (sc := defScope (rMeth 2)) (by decide +kernel))
          (fun _ _ _ _ _ => pg_name (i := 5) scRb.nd rfl (.inl rfl)) (fun _ _ _ _ _ => pts_nil) (fun _ _ _ _ _ => pv 5) (fun _ _ _ _ _ => pe_bl)) rfl)
      (pss_cons (ps_fld (pv 0) pe_dnewT rfl) (pss_cons (ps_fld (pv 0) pe_int rfl) (pss_cons (ps_fld (pv 0) pe_non rfl)
      (pss_cons (ps_set (i := 4) scRb.nd rfl (.inl rfl) (pe_meth (pv 0) T.cl mB GB (hr.mono (by omega)) bB .nil pass0 (pa_cons (pv 3) (pa_cons (pv 1) (pa_cons pe_int (pa_cons pe_int (pa_cons pe_int pa_nil)))))))
      (pss_one (ps_ret (pe_tup (pa_cons (pe_callTy (call_list_dK rfl) (by rfl) T.lst (by decide +kernel) (pa_cons (pe_fld (pv 0) rfl) pa_nil)) (pa_cons (pv 4) pa_nil))))))))), ?_⟩
    refine ⟨_, rfl, _, H, rP, Q9.Same.sq (Same.refl H), fun J G hG wk D hD => ?_⟩
    rw [List.length_map] at wk
    have valN : ∀ {i : Nat} {z : Str}, ps[i]? = some z → valV ((ps.take i).map fun z => (kInr z, V.bl true)) (kInr z) = none := fun {i z} hz => by
      unfold valV
      rw [List.find?_eq_none.mpr fun kv hk => ?_]
      · rfl
      · obtain ⟨y, hy, rfl⟩ := List.mem_map.mp hk
        have n2 : (ps.take (i + 1)).Nodup := List.Sublist.nodup (List.take_sublist _ _) nd
        rw [take_one_more hz, List.nodup_append] at n2
        have : ¬ (kInr y = kInr z) := fun e => n2.2.2 _ hy _ (List.mem_singleton.mpr rfl) (Sum.inr.inj e)
        simpa using this
    refine dc_it wk (fun i H' => Same H H' ∧ H' D = some (.dK ((ps.take i).map fun z => (kInr z, V.bl true)))) ⟨same_upd hD, upd_same⟩ (fun i H' _ p => hG _ (Q9.Same.sq p.1)) ?_ ?_
    · rintro i v H2 H3 hi ⟨s2, h2⟩ ⟨rfl, hv⟩
      rw [List.getElem?_map] at hv
      obtain ⟨z, hz, rfl⟩ := Option.map_eq_some_iff.mp hv
      refine ⟨rfl, _, rfl, _, kInr z, rfl, h2, ?_, fun b o e => by rw [upd_ne (ne_of_none e hD)]; exact s2 _ _ e, ?_⟩
      · rw [List.length_map, List.length_take]
        exact Nat.lt_of_le_of_lt (Nat.min_le_right _ _) (small1000 (by omega))
      · rw [upd_same, putK_new _ (valN hz), take_one_more hz, List.map_append]
        rfl
    rintro H2 ⟨s2, h2⟩
    rw [List.take_length] at h2
    have R2 := R.up s2
    have nDr : D ≠ r := fun z => by have h := R2.ins; rw [← z, h2] at h; cases h
    refine ⟨_, rfl, r, CQ, dx, _, rfl, R2.ins, T.cl, T.no _ (by simp), (by show (9 : Nat) < 1000; decide), ?_⟩
    refine fun m1 hm1 => ?_
    have s3 := same_upd (o := .dT []) hm1
    refine ⟨_, rfl, r, CQ, dx, _, rfl, s3 _ _ upd_same, T.cl, T.no _ (by simp), (by show (9 : Nat) < 1000; decide), ?_⟩
    refine ⟨_, rfl, r, CQ, dx, _, rfl, upd_same, T.cl, T.no _ (by simp), (by show (9 : Nat) < 1000; decide), ?_⟩
    refine ⟨_, rfl, r, CQ, dx, _, rfl, upd_same, T.cl, T.no _ (by simp), (by show (9 : Nat) < 1000; decide), ?_⟩
    have nmr : m1 ≠ r := fun z => by rw [z, upd_same] at hm1; cases hm1
    have m1free : H2 m1 = none := by rw [upd_ne nmr] at hm1; exact hm1
    have nr : ∀ {c : Addr} {o : HO}, H2 c = some o → (∀ fs, o ≠ .ins CQ dx fs) → c ≠ r := fun {c o} e n z => by rw [z, R2.ins] at e; exact n _ (Option.some.inj e).symm
    have keep : ∀ {c : Addr} {o : HO} (u1 u2 u3 u4 : HO), H2 c = some o → c ≠ r → upd (upd (upd (upd (upd H2 r u1) m1 (.dT [])) r u2) r u3) r u4 c = some o := fun {c o} u1 u2 u3 u4 e n => by
      rw [upd_ne n, upd_ne n, upd_ne n, upd_ne (ne_of_none e m1free), upd_ne n]; exact e
    have R5 : ∀ u1 u2 u3 : HO, RdSt CQ aW (upd (upd (upd (upd (upd H2 r u1) m1 (.dT [])) r u2) r u3) r (.ins CQ dx (rf (.ref aW) kd ct (.ref fm) er (.ref D) (.ref m1) (.int 0) .non))) r dx fm D m1 kd ct er (.int 0) .non (ps.map fun z => (kInr z, V.bl true)) [] fl := fun u1 u2 u3 => by
      refine ⟨upd_same, ?_, keep _ _ _ _ h2 nDr, by rw [List.length_map]; omega, by rw [upd_ne nmr, upd_ne nmr, upd_ne nmr]; exact upd_same, fun z => ?_⟩
      · rcases R2.forms with ⟨e, h⟩ | ⟨l', e, n, h1, h2'⟩
        · exact .inl ⟨e, keep _ _ _ _ h (nr h fun _ z => nomatch z)⟩
        · exact .inr ⟨l', e, n, keep _ _ _ _ h1 (nr h1 fun _ z => nomatch z), keep _ _ _ _ h2' (nr h2' fun _ z => nomatch z)⟩
      · rcases R2.forms with ⟨_, h⟩ | ⟨_, _, _, h, _⟩ <;> (rw [z, m1free] at h; cases h)
    have sq5 : ∀ u1 u2 u3 u4 : HO, ∀ c o, c ≠ r → H c = some o → upd (upd (upd (upd (upd H2 r u1) m1 (.dT [])) r u2) r u3) r u4 c = some o := fun u1 u2 u3 u4 c o n e => keep _ _ _ _ (s2 _ _ e) n
    have nrH : ∀ {c : Addr} {o : HO}, H c = some o → (∀ fs, o ≠ .ins CQ dx fs) → c ≠ r := fun {c o} e n => nr (s2 _ _ e) n
    refine ⟨_, rfl, r, dx, _, rfl, upd_same, rfl, _, rfl, _, rfl, ?_⟩
    generalize hH5 : upd (upd (upd (upd (upd H2 r _) m1 (.dT [])) r _) r _) r _ = H5
    have R5' : RdSt CQ aW H5 r dx fm D m1 kd ct er (.int 0) .non (ps.map fun z => (kInr z, V.bl true)) [] fl := by rw [← hH5]; exact R5 _ _ _
    have far5 : ∀ c o, c ≠ r → H c = some o → H5 c = some o := by rw [← hH5]; exact sq5 _ _ _ _
    have free5 : ∀ c, H5 c = none → H c = none := fun c e => by
      cases z : H c with
      | none => rfl
      | some o =>
        by_cases cr : c = r
        · rw [cr, R5'.ins] at e; cases e
        · rw [far5 _ _ cr z] at e; cases e
    clear hH5
    have sqs : SameSq H H5 := ⟨fun c xs e => far5 _ _ (nrH e fun _ z => nomatch z) e, fun c xs e => far5 _ _ (nrH e fun _ z => nomatch z) e, fun c o u e => far5 _ _ (nrH e fun _ z => nomatch z) e⟩
    have hB5 : BodyOk K H5 body := by
      rcases hB with h | ⟨st, h, hs⟩
      · exact .inl (row_sq sqs h)
      · exact .inr ⟨st, row_sq sqs h, sqs.2.1 _ _ hs⟩
    refine ⟨r, dx, fm, D, m1, kd, ct, er, .non, _, body, _, fl, rfl, R5', hB5, fun H6 tb met6 mn6 ls6 fl6 b6 R6 nf6 => ?_⟩
    refine ⟨_, rfl, r, CQ, dx, _, _, rfl, R6.ins, T.cl, T.no _ (by simp), rfl, D, _, rfl, R6.named, fun l hl => ⟨_, rfl, (by show 2 ≤ sizeLine; decide), fun t ht => ?_⟩⟩
    have s7 := same_upd (o := .lst ((ps.map fun z => (kInr z, V.bl true)).map fun kv => kV kv.1)) hl
    have s8 := same_upd (o := .tup [.ref l, .ref tb]) ht
    refine q _ t l tb D m1 mn6 ls6 _ met6 fl6 (fun c o n1 n2 e => ?_) ((R6.up s7).up s8) (fun l' e => (nf6 l' e).imp id (free5 _)) upd_same
    refine s8 _ _ (s7 _ _ (b6 _ _ n1 (fun z => ?_) n2 (far5 _ _ n2 e)))
    rw [z] at e
    rw [s2 _ _ e] at m1free
    cases m1free
end
end Q9
end
-- QSetDc
section
set_option maxRecDepth 100000
set_option maxHeartbeats 4000000
namespace Q9
open PySem PySem.Spec PyProof.Rows L2
/-! name = {k: v for ..} on one line -/
theorem ps_setDc {X : Cx} {i : Nat} {y : Str} {py : Pos} {kx vx tg iter : Expr} {ifs : List Expr} {scope : Scope} {own : List (Str × Nat)} {pos spos : Pos} {wi : TI} {g : TG} {tt : TT} {tk tv : TE} (calm : X.calm = true) (nd : X.N.Nodup) (yN : X.N[i]? = some y)
    (yl : X.env.scope.names.lookup y = some .local) (sw : swapsWith (.DictComp kx vx [⟨tg, iter, ifs, 0⟩] scope pos) (some (.Name y py)) spos.line X.env = pure true) (hi : PI X tg iter wi) (ok : BlkOk X.N X.env.scope scope own)
    (hg : ∀ (s : Shared) (H : Hp) (C : Addr) (cl : List (Str × Addr)) (fp : List Addr), PG (X.blk s H scope (compEnvC scope cl C X.env) fp) tg g)
    (ht : ∀ (s : Shared) (H : Hp) (C : Addr) (cl : List (Str × Addr)) (fp : List Addr), PTs (X.blk s H scope (compEnvC scope cl C X.env) fp) ifs tt)
    (hk : ∀ (s : Shared) (H : Hp) (C : Addr) (cl : List (Str × Addr)) (fp : List Addr), PE (X.blk s H scope (compEnvC scope cl C X.env) fp) kx tk)
    (he : ∀ (s : Shared) (H : Hp) (C : Addr) (cl : List (Str × Addr)) (fp : List Addr), PE (X.blk s H scope (compEnvC scope cl C X.env) fp) vx tv)
    (hs : ∀ x, foldedSetIterable iter X.env x = pure x := by intro _; rfl) :
    PS X (.Assign [.Name y py] (.DictComp kx vx [⟨tg, iter, ifs, 0⟩] scope pos) spos) (tAsg (tDc wi g tt tk tv (own.map (·.2))) (gName i)) := by
  refine ⟨fun pins s σ H D I want => ?_⟩
  rw [exec_Assign_Name_used _ _ _ _ sw]
  refine wpAny_bind (wpAny_standAt (wpAny_bind ?_))
  show wpAny _ X.A (do let _ ← comprehension (.DictComp kx vx [⟨tg, iter, ifs, 0⟩] scope pos) scope X.env (firstIterPos [⟨tg, iter, ifs, 0⟩] pos) newDict false (eval iter X.env) (some (assign (.Name y py) X.env))) _ _ s
  have w2 : tDc wi g tt tk tv (own.map (·.2)) σ H (fun x H1 => gName i x σ H1 D.nx) := want
  refine wpAny_bind (thn (dc_core (Qf := fun _ s' => SP X pins D .next s') calm nd I hi ok hg ht hk he hs w2 ?_) fun _ s' hq => wpAny_pure (wpAny_pure hq))
  intro L C s' m H' J q cn free
  show wpAny _ _ (assign (.Name y py) X.env (.ref L)) _ _ _
  refine wpAny_assign_Name (store_ok2 (v := V.ref L) J nd yN (.inl yl) rfl (fun s2 J2 ⟨a, sb, at_⟩ => ?_) (.inr yl))
  obtain ⟨g0, g1, g2, g3, g4, g5⟩ := free
  have apart : C ≠ a := at_.elim (fun z => z ▸ g1) fun z e => g4 y a z e.symm
  exact ⟨m, cn.sameBut sb apart, fun h3 sb3 => ⟨_, H', J2.turned (t' := s2.toks) (fun b o hb e => (sb3.2 b hb).trans e) g0 g1 g3 g4 g5, q⟩⟩
theorem swD_true {kx vx : Expr} {gs : List Comprehension} {scope : Scope} {pos py : Pos} {y : Str} {l : Nat} {env : Env} (hk : env.scope.kind = .function) (hy : env.scope.names.lookup y = some .local) (hl : (py.line == pos.line) = true)
    (ha : (scope.names.any fun (n, k) => n == y && (k == .local || k == .cell)) = false) : swapsWith (.DictComp kx vx gs scope pos) (some (.Name y py)) l env = pure true := by
  have loc : env.kindOf y = some .local := hy
  have blk : env.blockKind = .function := by
    unfold Env.blockKind
    rw [hk]
    rfl
  unfold swapsWith
  simp only [blk, loc, ha, Expr.pos, hl]
  rfl
end Q9
end
-- QReadP
section
set_option maxRecDepth 100000
set_option maxHeartbeats 4000000
namespace Q9
open PySem L2
/-! the parts of a program, read -/
theorem funs_up {K : PySem.W.Frag} {H H' : Hp} (s : Same H H') {r : V} {fs : List FP} {o : Option Int} (h : Funs K H r fs o) : Funs K H' r fs o := by
  cases h with
  | right a b c => exact .right (row_up s a) (L2.Paired.mapP b fun _ _ => rightF_up s) c
  | bad a e b c d => exact .bad (row_up s a) e (L2.Paired.mapP b fun _ _ => rightF_up s) c (d.imp (badF_up s) fun ⟨f, r, m⟩ => ⟨f, rightF_up s r, m⟩)
theorem bodyOk_up {K : PySem.W.Frag} {H H' : Hp} (s : Same H H') {v : V} (h : BodyOk K H v) : BodyOk K H' v := h.imp (row_up s) fun ⟨st, r, e⟩ => ⟨st, row_up s r, s _ _ e⟩
/-- what stands as kinds and functions: all right, or the place that is told -/
inductive ProgR (C : Addr) (K : PySem.W.Frag) (H : Hp) (k f : V) : Option (List Int) → Prop
  | kinds : Kinds C K H k none → ProgR C K H k f (some [])
  | notRow {ns : List Str} : Kinds C K H k (some ns) → NotRow K H f → ProgR C K H k f (some [])
  | many {ns : List Str} {vs : List V} : Kinds C K H k (some ns) → Row K H f vs → (vs.length = 0 ∨ 6 < vs.length) → ProgR C K H k f (some [])
  | funs {ns : List Str} {vs : List V} {fs : List FP} {i : Int} : Kinds C K H k (some ns) → Row K H f vs → 1 ≤ vs.length → vs.length ≤ 6 → Funs K H f fs (some i) → fs.length ≤ 6 → ProgR C K H k f (some [i])
  | main {ns : List Str} {vs : List V} {fs : List FP} : Kinds C K H k (some ns) → Row K H f vs → 1 ≤ vs.length → vs.length ≤ 6 → Paired (RightF K H) vs fs → (fs.map (·.nm)).Nodup → (∀ g ∈ fs, g.nm = "main" → g.ps ≠ []) → ProgR C K H k f (some [])
  | right {ns : List Str} {vs : List V} {fs : List FP} {g : FP} : Kinds C K H k (some ns) → Row K H f vs → vs.length ≤ 6 → Paired (RightF K H) vs fs → (fs.map (·.nm)).Nodup → g ∈ fs → g.nm = "main" → g.ps = [] → (∀ g ∈ fs, BodyOk K H g.body) → ProgR C K H k f none
theorem progR_up {C : Addr} {K : PySem.W.Frag} {H H' : Hp} (s : Same H H') {k f : V} {r : Option (List Int)} (h : ProgR C K H k f r) : ProgR C K H' k f r := by
  cases h with
  | kinds a => exact .kinds (kinds_up s a)
  | notRow a b => exact .notRow (kinds_up s a) (notRow_up s b)
  | many a b c => exact .many (kinds_up s a) (row_up s b) c
  | funs a b c d e f => exact .funs (kinds_up s a) (row_up s b) c d (funs_up s e) f
  | main a b c d e f g => exact .main (kinds_up s a) (row_up s b) c d (L2.Paired.mapP e fun _ _ => rightF_up s) f g
  | right a b d e f g h i j => exact .right (kinds_up s a) (row_up s b) d (L2.Paired.mapP e fun _ _ => rightF_up s) f g h i fun g hg => bodyOk_up s (j g hg)
structure TRp (K : PySem.W.Frag) (mg : Str → Option Value) (C CQ aW fAk fRow fCt fRI p1 f1 fRd : Addr) : Prop where
  gK : mg "are_kinds" = some (.ref fAk)
  kK : PySem.W.keepIn K (.ref fAk) = true
  gR : mg "is_row" = some (.ref fRow)
  kR : PySem.W.keepIn K (.ref fRow) = true
  gC : mg "_counts_of" = some (.ref fCt)
  kC : PySem.W.keepIn K (.ref fCt) = true
  gQ : mg "ProgramReader" = some (.ref CQ)
  mkQ : Mk K CQ fRI
  gW : mg "WORDS" = some (.ref aW)
  enum : mg "enumerate" = none
  tup : mg "tuple" = none
  len : mg "len" = none
  most : ∃ t, mg "MOST_FUNCTIONS" = some (.int 6 t)
  clK : Cls K C
  nameP : PropOf K C "name" p1 f1
  mRd : Meth K CQ "read" fRd
def spReadP (C CP : Addr) (K : PySem.W.Frag) : Sp := fun vs H Q E => ∃ (k f : V) (r : Option (List Int)), vs = [k, f] ∧ ProgR C K H k f r ∧ (r = none → ∀ (H' : Hp) (t : Addr) (a b : V), Same H H' → H' t = some (.tup [a, b]) → Q (.ref t) H') ∧
  ∀ pl, r = some pl → ∀ (H' : Hp) (d t : Addr), Same H H' → H d = none → H t = none → H' d = some (.xd [("place", .ref t)]) → H' t = some (.tup (pl.map V.int)) → E (.ref CP) (some d) H'
abbrev rpN : List Str := ["kinds", "functions", "counts", "name", "others", "reader", "told", "variable_rows", "number", "params", "body", "variables", "block", "kind"]
theorem scRp : FnScope rpN ["kinds", "functions"] (defScope sReadP) := ⟨rfl, rfl, rfl, by decide +kernel, rfl, by decide +kernel, by decide +kernel⟩
section
variable {P : Program} {w : World} {K : PySem.W.Frag} {mg : Str → Option Value} {base : Heap} {C CQ aW aP aS pE fAk fRow fCt fRI p1 f1 fRd : Addr}
theorem val_main {fs : List FP} {nm : Str} {v : V} (h : valV (cntsOf fs) (kInr nm) = some v) : ∃ g ∈ fs, g.nm = nm ∧ v = .int (g.ps.length : Nat) := by
  unfold valV at h
  obtain ⟨kv, h1, h2⟩ := Option.map_eq_some_iff.mp h
  have h3 := List.mem_of_find?_eq_some h1
  have h4 : kv.1 = kInr nm := by simpa using List.find?_some h1
  obtain ⟨g, hg, rfl⟩ := List.mem_map.mp h3
  exact ⟨g, hg, Sum.inr.inj h4, h2.symm⟩
theorem scal_main {fs : List FP} {nm : Str} : scal ((valV (cntsOf fs) (kInr nm)).getD .non) (V.int 0) = true := by
  cases h : valV (cntsOf fs) (kInr nm) with
  | none => rfl
  | some v =>
    obtain ⟨g, hg, gn, rfl⟩ := val_main h
    rfl
theorem made_up {H0 : Hp} {x2 d2 C : Addr} (n1 : H0 x2 = none) (n2 : H0 d2 = none) : Same H0 (upd (upd H0 d2 (.own x2)) x2 (.ins C d2 [])) := fun b o z => by
  rw [upd_ne (ne_of_none z n1), upd_ne (ne_of_none z n2)]
  exact z
/-- a place told by an error that is raised -/
theorem out_place {H H4 : Hp} {CP : Addr} {xs : List V} {E : XK} (s4 : Same H H4) (qe : ∀ (H' : Hp) (d t : Addr), Same H H' → H d = none → H t = none → H' d = some (.xd [("place", .ref t)]) → H' t = some (.tup xs) → E (.ref CP) (some d) H') :
    ∀ t, H4 t = none → ∀ (a : Addr), upd H4 t (.tup xs) a = none → spErrI CP "place" [.ref a, .ref t] (upd (upd H4 t (.tup xs)) a (exo a CP none))
      (fun z H5 => z = .non ∧ ∃ (d : Addr) (fs' : List (Str × V)), H5 a = some (exo a CP (some d)) ∧ H5 d = some (exd d fs') ∧ (upd H4 t (.tup xs)) d = none ∧ E (.ref CP) (some d) (upd (del H5 a) d (.xd fs'))) (fun _ _ _ => False) := by
  intro t nt a na
  refine ⟨a, _, rfl, upd_same, fun dx nd ne => ?_⟩
  have s5 := same_upd (o := .tup xs) nt
  obtain ⟨r1, r2, r3, r4, r5⟩ := raised (C := CP) (fs := [("place", .ref t)]) s5 na nd ne
  have free : ∀ {b : Addr}, H4 b = none → H b = none := fun {b} h => by
    cases z : H b with
    | none => rfl
    | some u => rw [s4 _ _ z] at h; cases h
  have st : ∀ {b : Addr} {o : HO}, upd H4 t (.tup xs) b = some o → upd (del (upd (upd (upd (upd H4 t (.tup xs)) a (exo a CP none)) dx (exd dx [("place", .ref t)])) a (exo a CP (some dx))) a) dx (.xd [("place", .ref t)]) b = some o := fun {b o} e => by
    have nb : b ≠ a := ne_of_none e na
    have nd' : b ≠ dx := ne_of_none e r3
    rw [upd_ne nd', del_ne nb, upd_ne nb, upd_ne nd', upd_ne nb]
    exact e
  exact ⟨rfl, dx, _, r1, r2, r3, qe _ dx t (fun b u e => r4 _ _ (s4 _ _ e)) (free r5) (free nt) upd_same (st upd_same)⟩
theorem ok_readP {f CP fI : Addr} {fd dI dK dR dC dRI dN dRd : FuncData} (F : Fun K "_read_program" "_read_program" sReadP f fd) (T : TRp K mg C CQ aW fAk fRow fCt fRI p1 f1 fRd) (TR : TRdr K mg w CQ aW aP aS pE) (TE : TErr K mg "BadProgram" "place" CP fI)
    (GI : FnOk P w K mg base CX0 1 fI dI ["self", "place"] (spErrI CP "place")) (bI : Binds K dI ["self", "place"] [])
    (GK : FnOk P w K mg base CX0 3 fAk dK ["thing"] (spAreKinds C K)) (bK : Binds K dK ["thing"] []) (GR : FnOk P w K mg base CX0 1 fRow dR ["thing"] (spIsRow K)) (bR : Binds K dR ["thing"] [])
    (GC : FnOk P w K mg base (L2.CX P w) 5 fCt dC ["functions"] (spCounts CP K)) (bC : Binds K dC ["functions"] [])
    (GRI : FnOk P w K mg base CX0 1 fRI dRI rrN (spRdrI CQ aW)) (bRI : Binds K dRI rrN []) (GN : FnOk P w K mg base CX0 1 f1 dN ["self"] (spNameM (KAc C K))) (bN : Binds K dN ["self"] [])
    (GRd : FnOk P w K mg base CX0 5 fRd dRd ["self", "number", "variables", "body"] (spReadB CQ aW K)) (bRd : Binds K dRd ["self", "number", "variables", "body"] []) :
    FnOk P w K mg base (L2.CX P w) 6 f fd ["kinds", "functions"] (spReadP C CP K) := by
  refine F.okX scRp (fun vs H Q E h => ?_) (fun cdv A outer s H vs Q E hr h => ?_)
  · obtain ⟨k, f, r, rfl, _⟩ := h
    rfl
  · obtain ⟨k, f, r, rfl, hP, qn, qe⟩ := h
    have hu := hu_of hr
    obtain ⟨tm, hm⟩ := T.most
    refine ⟨_, pss_cons (ps_if (PW.pt (pw_or (pt_not (pt_val (pe_call GK (hr.mono (by omega)) (by rfl) T.gK T.kK bK .nil pass0 (pa_cons (pv 0) pa_nil))))
        (pw_or (pt_not (pt_val (pe_call GR (hr.mono (by omega)) (by rfl) T.gR T.kR bR .nil pass0 (pa_cons (pv 1) pa_nil))))
        (pw_or1 (pt_not (pt_chain op_le op_le pe_int (pe_callB cr_lenRow (by rfl) T.len (by decide +kernel) (pa_cons (pv 1) pa_nil)) (pe_glob (v := .int 6) (by rfl) hm ⟨_, rfl⟩)))))))
        (pss_one (ps_raise rfl (takes_of rfl rfl rfl rfl) (pmk_oex TE.ox TE.iC TE.tI GI (hr.mono (by omega)) bI .nil pass0 (by rfl) TE.gC (pa_cons (pe_tup pa_nil) pa_nil)))) pss_nil)
      (pss_cons (ps_set (i := 2) scRp.nd rfl (.inr rfl) (pe_callS GC (hr.mono (by omega)) (by rfl) T.gC T.kC bC (fun σ => passAt (takes_of rfl rfl rfl rfl) σ) (pa_cons (pv 1) pa_nil)))
      (pss_cons (ps_if (pt_cmpR op_ne (pe_dget1 hu (pv 2) pe_str ⟨rfl, rfl, rfl, rfl⟩) pe_int (nomark _))
        (pss_one (ps_raise rfl (takes_of rfl rfl rfl rfl) (pmk_oex TE.ox TE.iC TE.tI GI (hr.mono (by omega)) bI .nil pass0 (by rfl) TE.gC (pa_cons (pe_tup pa_nil) pa_nil)))) pss_nil)
      (C8.pss_cut (ps_lock (ps_setDc (i := 4) (tk := tVar 3) (tv := tDGet (tVar 2) (tVar 3)) (own := [("name", 3)]) (g := gName 3) rfl scRp.nd rfl rfl (swD_true rfl rfl rfl (by decide +kernel)) (pi_keys (pv 2)) (blkOk_by (own := [("name", 3)]) (N := rpN) (sc := defScope sReadP) (by decide +kernel))
          (fun _ _ _ _ _ => pg_name (i := 3) scRp.nd rfl (.inl rfl)) (fun _ _ _ _ _ => pts_one (pt_cmpR op_ne (pv 3) pe_str (nomark _))) (fun _ _ _ _ _ => pv 3) (fun _ _ _ _ _ => pe_dget hu (pv 2) (pv 3) (fun _ _ => rfl))))
      (C8.pss_cut (ps_set (i := 5) scRp.nd rfl (.inl rfl) (pe_make T.mkQ GRI (hr.mono (by omega)) (by rfl) T.gQ bRI .nil pass0 (pa_cons (pe_glob (v := .ref aW) (by rfl) T.gW rfl) (pa_cons
          (pe_dc (tk := tProp C (spNameM (KAc C K)) [] E0 (tVar 13)) (tv := tC (.bl true)) (own := [("kind", 13)]) (g := gName 13) (tt := tYes) rfl scRp.nd (pi_rowS (pv 0)) (blkOk_by (own := [("kind", 13)]) (N := rpN) (sc := defScope sReadP) (by decide +kernel))
            (fun _ _ _ _ _ => pg_name (i := 13) scRp.nd rfl (.inl rfl)) (fun _ _ _ _ _ => pts_nil) (fun _ _ _ _ _ => pe_prop (pv 13) T.clK T.nameP GN (hr.mono (by omega)) bN .nil pass0 rfl) (fun _ _ _ _ _ => pe_bl)) (pa_cons (pv 4) pa_nil)))))
      (pss_cons (ps_set (i := 6) scRp.nd rfl (.inl rfl) (pe_lst pa_nil))
      (pss_cons (ps_set (i := 7) scRp.nd rfl (.inl rfl) (pe_lst pa_nil))
      (pss_cons (ps_for (passes_of rfl) rfl (pi_enumB (by rfl) T.enum (pa_cons (pv 1) pa_nil)) (pg_tup rfl (pgs_cons (pg_name (i := 8) scRp.nd rfl (.inl rfl)) (pgs_cons
          (pg_rowT rfl (pgs_cons (pg_name (i := 3) scRp.nd rfl (.inl rfl)) (pgs_cons (pg_name (i := 9) scRp.nd rfl (.inl rfl)) (pgs_cons (pg_name (i := 10) scRp.nd rfl (.inl rfl)) pgs_nil)))) pgs_nil)))
        (pss_cons (ps_asg (pe_meth (pv 5) TR.cl T.mRd GRd (hr.mono (by omega)) bRd .nil pass0 (pa_cons (pv 8) (pa_cons (pv 9) (pa_cons (pv 10) pa_nil))))
          (pg_tup rfl (pgs_cons (pg_name (i := 11) scRp.nd rfl (.inl rfl)) (pgs_cons (pg_name (i := 12) scRp.nd rfl (.inl rfl)) pgs_nil))))
        (pss_cons (ps_expr (pe_bm PySem.F.plainAttrs_list PySem.F.slot_list_append PySem.F.type_list_append mt_append (pv 6) (pa_cons (pe_tup (pa_cons (pv 3) (pa_cons (pe_callTy cr_tupOf (by rfl) T.tup (by decide +kernel) (pa_cons (pv 9) pa_nil)) (pa_cons (pv 12) pa_nil)))) pa_nil)))
        (pss_one (ps_expr (pe_bm PySem.F.plainAttrs_list PySem.F.slot_list_append PySem.F.type_list_append mt_append (pv 7) (pa_cons (pv 11) pa_nil)))))))
      (pss_one (ps_ret (pe_tup (pa_cons (pe_callTy cr_tupOf (by rfl) T.tup (by decide +kernel) (pa_cons (pv 6) pa_nil)) (pa_cons (pv 7) pa_nil)))))))))))), ?_⟩
    -- what is told without the functions
    cases hP with
    | kinds hK =>
      refine ⟨_, rfl, k, none, rfl, hK, fun H1 s1 => ⟨_, rfl, iteT ?_⟩⟩
      exact ⟨(by show 0 ≤ sizeLine; decide), fun t ht => ⟨(by show 1 ≤ 1000; decide), fun a na => out_place s1 (qe _ rfl) t ht a na⟩⟩
    | @notRow ns hK hF =>
      obtain ⟨t, ty, e1, e2⟩ := hF
      refine ⟨_, rfl, k, some ns, rfl, hK, fun H1 s1 => ⟨_, rfl, iteF ?_⟩⟩
      refine ⟨_, rfl, f, rfl, .inr ⟨t, same_ty s1 ty, e1, e2, fun H2 s2 => ⟨_, rfl, iteT ?_⟩⟩⟩
      exact ⟨(by show 0 ≤ sizeLine; decide), fun t ht => ⟨(by show 1 ≤ 1000; decide), fun a na => out_place (s1.trans s2) (qe _ rfl) t ht a na⟩⟩
    | @many ns vs hK row hb =>
      refine ⟨_, rfl, k, some ns, rfl, hK, fun H1 s1 => ⟨_, rfl, iteF ?_⟩⟩
      refine ⟨_, rfl, f, rfl, .inl ⟨vs, row_up s1 row, fun H2 s2 => ⟨_, rfl, iteF ?_⟩⟩⟩
      refine ⟨_, rfl, f, vs, rfl, row_up s2 (row_up s1 row), _, _, rfl, rfl, _, rfl, ?_⟩
      rcases hb with h0 | h6
      · rw [decide_eq_false (by omega : ¬ (1 : Int) ≤ (vs.length : Nat))]
        exact iteF ⟨_, rfl, iteT ⟨(by show 0 ≤ sizeLine; decide), fun t ht => ⟨(by show 1 ≤ 1000; decide), fun a na => out_place (s1.trans s2) (qe _ rfl) t ht a na⟩⟩⟩
      · rw [decide_eq_true (by omega : (1 : Int) ≤ (vs.length : Nat))]
        refine iteT ⟨_, _, rfl, rfl, _, rfl, ?_⟩
        rw [decide_eq_false (by omega : ¬ ((vs.length : Nat) : Int) ≤ 6)]
        exact iteT ⟨(by show 0 ≤ sizeLine; decide), fun t ht => ⟨(by show 1 ≤ 1000; decide), fun a na => out_place (s1.trans s2) (qe _ rfl) t ht a na⟩⟩
    | @funs ns vs fs i hK row l1 l6 hF few =>
      refine ⟨_, rfl, k, some ns, rfl, hK, fun H1 s1 => ⟨_, rfl, iteF ?_⟩⟩
      refine ⟨_, rfl, f, rfl, .inl ⟨vs, row_up s1 row, fun H2 s2 => ⟨_, rfl, iteF ?_⟩⟩⟩
      refine ⟨_, rfl, f, vs, rfl, row_up s2 (row_up s1 row), _, _, rfl, rfl, _, rfl, ?_⟩
      rw [decide_eq_true (by omega : (1 : Int) ≤ (vs.length : Nat))]
      refine iteT ⟨_, _, rfl, rfl, _, rfl, ?_⟩
      rw [decide_eq_true (by omega : ((vs.length : Nat) : Int) ≤ 6)]
      refine iteF ?_
      refine ⟨_, rfl, f, fs, some i, rfl, funs_up s2 (funs_up s1 hF), by omega, (fun z => nomatch z), fun j hj H' d t s3 nd nt at_ pl => ?_⟩
      cases hj
      have free : ∀ {b : Addr}, H2 b = none → H b = none := fun {b} h => by
        cases z : H b with
        | none => rfl
        | some u => rw [s2 _ _ (s1 _ _ z)] at h; cases h
      exact qe _ rfl H' d t (fun _ _ z => s3 _ _ (s2 _ _ (s1 _ _ z))) (free nd) (free nt) at_ pl
    | @main ns vs fs hK row l1 l6 good nd no =>
      refine ⟨_, rfl, k, some ns, rfl, hK, fun H1 s1 => ⟨_, rfl, iteF ?_⟩⟩
      refine ⟨_, rfl, f, rfl, .inl ⟨vs, row_up s1 row, fun H2 s2 => ⟨_, rfl, iteF ?_⟩⟩⟩
      refine ⟨_, rfl, f, vs, rfl, row_up s2 (row_up s1 row), _, _, rfl, rfl, _, rfl, ?_⟩
      rw [decide_eq_true (by omega : (1 : Int) ≤ (vs.length : Nat))]
      refine iteT ⟨_, _, rfl, rfl, _, rfl, ?_⟩
      rw [decide_eq_true (by omega : ((vs.length : Nat) : Int) ≤ 6)]
      refine iteF ?_
      have lf := PySem.Paired.length good
      have hF : Funs K H f fs none := .right row good nd
      refine ⟨_, rfl, f, fs, none, rfl, funs_up s2 (funs_up s1 hF), by omega, (fun _ H3 p s3 hp at_ => ?_), fun i z => nomatch z⟩
      refine ⟨_, rfl, p, rfl, .inl ⟨_, .inl at_⟩, _, DGet.k (k := kInr "main") at_, ?_⟩
      refine ⟨scal_main, _, rfl, ?_⟩
      have e : (!decide ((valV (cntsOf fs) (kInr "main")).getD .non = V.int 0)) = true := by
        rw [Bool.not_eq_true', decide_eq_false_iff_not]
        cases h : valV (cntsOf fs) (kInr "main") with
        | none => exact fun z => nomatch z
        | some v =>
          obtain ⟨g, hg, gn, rfl⟩ := val_main h
          have := no g hg gn
          intro z
          injection z with z
          exact this (List.length_eq_zero_iff.mp (by omega))
      rw [e]
      exact iteT ⟨(by show 0 ≤ sizeLine; decide), fun t ht => ⟨(by show 1 ≤ 1000; decide), fun a na => out_place (fun _ _ z => s3 _ _ (s2 _ _ (s1 _ _ z))) (qe _ rfl) t ht a na⟩⟩
    | @right ns vs fs g hK row l6 good nd mem gn gp bodies =>
      have lf := PySem.Paired.length good
      have l1 : 1 ≤ vs.length := by have := List.length_pos_of_mem mem; omega
      refine ⟨_, rfl, k, some ns, rfl, hK, fun H1 s1 => ⟨_, rfl, iteF ?_⟩⟩
      refine ⟨_, rfl, f, rfl, .inl ⟨vs, row_up s1 row, fun H2 s2 => ⟨_, rfl, iteF ?_⟩⟩⟩
      refine ⟨_, rfl, f, vs, rfl, row_up s2 (row_up s1 row), _, _, rfl, rfl, _, rfl, ?_⟩
      rw [decide_eq_true (by omega : (1 : Int) ≤ (vs.length : Nat))]
      refine iteT ⟨_, _, rfl, rfl, _, rfl, ?_⟩
      rw [decide_eq_true (by omega : ((vs.length : Nat) : Int) ≤ 6)]
      refine iteF ?_
      have hF : Funs K H f fs none := .right row good nd
      refine ⟨_, rfl, f, fs, none, rfl, funs_up s2 (funs_up s1 hF), by omega, (fun _ H3 p s3 hp at_ => ?_), fun i z => nomatch z⟩
      refine ⟨_, rfl, p, rfl, .inl ⟨_, .inl at_⟩, _, DGet.k (k := kInr "main") at_, ?_⟩
      refine ⟨scal_main, _, rfl, ?_⟩
      have e : (!decide ((valV (cntsOf fs) (kInr "main")).getD .non = V.int 0)) = false := by
        have h := val_cnts_at nd mem
        rw [gn, gp] at h
        rw [h]
        rfl
      rw [e]
      refine iteF ?_
      have s123 : Same H H3 := fun _ _ z => s3 _ _ (s2 _ _ (s1 _ _ z))
      have hpH : H p = none := by
        cases z : H p with
        | none => rfl
        | some u => rw [s2 _ _ (s1 _ _ z)] at hp; cases hp
      clear s1 s2 s3
      -- the other functions
      refine ⟨fun σ H' => ∃ D, σ = [some k, some f, some (.ref p), none, some (.ref D), none, none, none, none, none, none, none, none, none] ∧ Same H3 H', ?_, ?_⟩
      · refine ⟨p, .dK (cntsOf fs), at_, trivial, fun od => ?_⟩
        refine ⟨_, rfl, p, od, rfl, .inl ⟨cntsOf fs, upd_same, fun D hD => ?_⟩⟩
        have npD : p ≠ D := ne_of_none upd_same hD
        have freeD : H3 D = none := by rw [upd_ne npD.symm] at hD; exact hD
        refine dc_it walk_keys (fun i H' => H' p = some (.frz od (.dK (cntsOf fs))) ∧ But p H3 H' ∧ ∃ kv, H' D = some (.dK kv) ∧ kv.length ≤ i) ?_ (fun i H' _ q => q.1) ?_ ?_
        · exact ⟨by rw [upd_ne npD]; exact upd_same, fun b o ne z => by rw [upd_ne (ne_of_none z freeD), upd_ne ne]; exact z, [], upd_same, Nat.le_refl _⟩
        · rintro i x H5 H6 hi ⟨hp5, bt, kv, hd, lk⟩ ⟨rfl, k0, v0, hk0, rfl⟩
          obtain ⟨g0, hg0, e0⟩ : ∃ g0, fs[i]? = some g0 ∧ (k0, v0) = (kInr g0.nm, V.int (g0.ps.length : Nat)) := by
            unfold cntsOf at hk0
            rw [List.getElem?_map] at hk0
            obtain ⟨g0, h1, h2⟩ := Option.map_eq_some_iff.mp hk0
            exact ⟨g0, h1, h2.symm⟩
          injection e0 with e1 e2
          subst e1 e2
          have lenc : (cntsOf fs).length = fs.length := by unfold cntsOf; rw [List.length_map]
          refine ⟨rfl, _, rfl, rfl, _, rfl, ?_⟩
          refine ite2 (fun c => ?_) fun c => ⟨hp5, bt, kv, hd, by omega⟩
          refine ⟨_, rfl, _, rfl, _, rfl, p, _, rfl, .inl ⟨_, kInr g0.nm, .inr ⟨od, hp5⟩, rfl, (val_cnts_at nd (List.mem_of_getElem? hg0)).symm⟩, kv, kInr g0.nm, rfl, hd, Nat.lt_of_le_of_lt lk (by rw [PySem.sizeLine_eq]; omega), ?_⟩
          refine ⟨by rw [upd_ne npD]; exact hp5, fun b o ne z => by rw [upd_ne (ne_of_none z freeD)]; exact bt b o ne z, _, upd_same, ?_⟩
          have := length_putK kv (kInr g0.nm) (V.int (g0.ps.length : Nat))
          omega
        · rintro H5 ⟨hp5, bt, kv, hd, lk⟩
          refine ⟨hp5, D, rfl, fun b o z => ?_⟩
          by_cases c : b = p
          · rw [c, at_] at z
            rw [c, upd_same]
            exact z
          · rw [upd_ne c]
            exact bt b o c z
      rintro σ H4 ⟨D, rfl, s4⟩
      have sH4 : Same H H4 := fun _ _ z => s4 _ _ (s123 _ _ z)
      refine ⟨fun σ H' => ∃ (r dx fm nm mt : Addr) (kd ct er : V), σ = [some k, some f, some (.ref p), none, some (.ref D), some (.ref r), none, none, none, none, none, none, none, none] ∧ Same H4 H' ∧ RdSt CQ aW H' r dx fm nm mt kd ct er (.int 0) .non [] [] none ∧ H4 r = none ∧ H4 fm = none, ?_, ?_⟩
      · cases hK with
        | right rk pk ndk k1 k4 =>
          rename_i ks
          refine ⟨_, rfl, _, H, rk, Q9.Same.sq sH4, fun J G hG wk D2 hD2 => ?_⟩
          refine dc_it wk (fun i H' => Same H4 H' ∧ ∃ kv, H' D2 = some (.dK kv) ∧ kv.length ≤ i) ⟨same_upd hD2, [], upd_same, Nat.le_refl _⟩ (fun i H' _ p => hG _ (Q9.Same.sq fun _ _ z => p.1 _ _ (sH4 _ _ z))) ?_ ?_
          · rintro i v H5 H6 hi ⟨s5, kv, hd, lk⟩ ⟨rfl, hv⟩
            obtain ⟨nm, hn, kn⟩ := paired_at pk i _ hv
            obtain ⟨x, st, es, mv, rfl, ka⟩ := kn_up (fun _ _ z => s5 _ _ (sH4 _ _ z)) kn
            obtain ⟨dx, fs', hx, _⟩ := (kac_ok C K).ins ka
            have lks := PySem.Paired.length pk
            refine ⟨rfl, _, rfl, x, dx, fs', rfl, hx, x, nm, st, es, mv, rfl, ka, kv, kInr nm, rfl, hd, Nat.lt_of_le_of_lt lk (by rw [PySem.sizeLine_eq]; omega), fun b o z => by rw [upd_ne (ne_of_none z hD2)]; exact s5 _ _ z, _, upd_same, ?_⟩
            have := length_putK kv (kInr nm) (V.bl true)
            omega
          · rintro H5 ⟨s5, kv, hd, lk⟩
            refine ⟨_, rfl, fun x dx n1 n2 ne => ?_⟩
            have u := made_up (C := CQ) n1 n2
            refine ⟨x, dx, .ref D2, .ref D, rfl, upd_same, by rw [upd_ne ne, upd_same], fun H6 fm nm mt er bt R nfm => ⟨rfl, ?_⟩⟩
            have free : ∀ {b : Addr}, upd (upd H5 dx (.own x)) x (.ins CQ dx []) b = none → H4 b = none := fun {b} h => by
              cases z : H4 b with
              | none => rfl
              | some o => rw [u _ _ (s5 _ _ z)] at h; cases h
            have nx4 : H4 x = none := by
              cases z : H4 x with
              | none => rfl
              | some o => rw [s5 _ _ z] at n1; cases n1
            exact ⟨x, dx, fm, nm, mt, _, _, er, rfl, fun b o z => bt _ _ (fun c => by rw [c, nx4] at z; cases z) (u _ _ (s5 _ _ z)), R, nx4, free nfm⟩
      rintro σ H5 ⟨r, dx, fm, nm, mt, kd, ct, er, rfl, s5, R5, r4, fm4⟩
      have rH : H r = none := by
        cases z : H r with
        | none => rfl
        | some o => rw [sH4 _ _ z] at r4; cases r4
      have fmH : H fm = none := by
        cases z : H fm with
        | none => rfl
        | some o => rw [sH4 _ _ z] at fm4; cases fm4
      have sH5 : Same H H5 := fun _ _ z => s5 _ _ (sH4 _ _ z)
      clear s4 s5 sH4 r4 fm4
      refine ⟨(by show 0 ≤ sizeLine; decide), fun l6 hl6 => ⟨(by show 0 ≤ sizeLine; decide), fun l7 hl7 => ?_⟩⟩
      have s6 := same_upd (o := .lst []) hl6
      have s7 := same_upd (o := .lst []) hl7
      have sH7 : Same H (upd (upd H5 l6 (.lst [])) l7 (.lst [])) := fun _ _ z => s7 _ _ (s6 _ _ (sH5 _ _ z))
      have R7 := (R5.up s6).up s7
      have h6 : upd (upd H5 l6 (.lst [])) l7 (.lst []) l6 = some (.lst []) := s7 _ _ upd_same
      have h7 : upd (upd H5 l6 (.lst [])) l7 (.lst []) l7 = some (.lst []) := upd_same
      have n67 : l6 ≠ l7 := ne_of_none (show upd H5 l6 (.lst []) l6 = some _ from upd_same) hl7
      have h6H : H l6 = none := by
        cases z : H l6 with
        | none => rfl
        | some o => rw [sH5 _ _ z] at hl6; cases hl6
      have h7H : H l7 = none := by
        cases z : H l7 with
        | none => rfl
        | some o => rw [s6 _ _ (sH5 _ _ z)] at hl7; cases hl7
      generalize upd (upd H5 l6 (.lst [])) l7 (.lst []) = H7 at sH7 R7 h6 h7 ⊢
      clear R5 s6 s7 hl6 hl7 sH5
      refine ⟨_, rfl, f, vs, H, rfl, row, sH7, fun J G hG wk => ?_⟩
      refine for_it wk (fun i σ H' => ∃ (nm mt : Addr) (mn ls : V) (kvs : List (Key × V)) (met : List (List Key × V)) (fl : Option Addr) (xs6 xs7 : List V) (v3 v8 v9 v10 v11 v12 : Option V),
          σ = [some k, some f, some (.ref p), v3, some (.ref D), some (.ref r), some (.ref l6), some (.ref l7), v8, v9, v10, v11, v12, none] ∧ Same H H' ∧ RdSt CQ aW H' r dx fm nm mt kd ct er mn ls kvs met fl ∧ (∀ l', fl = some l' → l' ≠ l6 ∧ l' ≠ l7) ∧ H' l6 = some (.lst xs6) ∧ H' l7 = some (.lst xs7) ∧ xs6.length = i ∧ xs7.length = i)
        ⟨_, _, _, _, _, _, _, [], [], _, _, _, _, _, _, rfl, sH7, R7, (fun l' e => nomatch e), h6, h7, rfl, rfl⟩ (fun i σ H' _ ⟨_, _, _, _, _, _, _, _, _, _, _, _, _, _, _, _, s, _⟩ => hG _ s) ?_ ?_
      · rintro i x σ H8 H9 hi ⟨nm, mt, mn, ls, kvs, met, fl, xs6, xs7, v3, v8, v9, v10, v11, v12, rfl, s8, R8, nfl, h86, h87, x6, x7⟩ ⟨tt, x1, v, rfl, nt, rfl, ex, ey⟩
        have ex' : x1 = .int (i : Nat) := (Option.some.inj ex).symm
        subst ex'
        have st := same_upd (o := .tup [.int (i : Nat), v]) nt
        have s9 : Same H (upd H8 tt (.tup [.int (i : Nat), v])) := fun _ _ z => st _ _ (s8 _ _ z)
        have R9 := R8.up st
        have h96 := st _ _ h86
        have h97 := st _ _ h87
        have htt : upd H8 tt (.tup [.int (i : Nat), v]) tt = some (.tup [.int (i : Nat), v]) := upd_same
        generalize upd H8 tt (.tup [.int (i : Nat), v]) = H9 at s9 R9 h96 h97 htt ⊢
        obtain ⟨f1, hf1, rf⟩ := paired_at good i _ ey
        have hb := bodyOk_up s9 (bodies f1 (List.mem_of_getElem? hf1))
        obtain ⟨n1, n2, n3, n4, pv', bs, q1, q2, q3⟩ := rf
        have r1 := row_up s9 q1
        have r2 := row_up s9 q2
        refine ⟨tt, _, rfl, .of htt, rfl, _, _, rfl, _, _, rfl, _, r1, rfl, _, _, rfl, _, _, rfl, _, _, rfl, rfl, rfl, ?_⟩
        refine ⟨_, rfl, r, dx, _, rfl, R9.ins, rfl, _, rfl, _, rfl, _, rfl, ?_⟩
        refine ⟨r, dx, fm, nm, mt, _, kd, ct, er, mn, ls, pv', f1.body, kvs, met, fl, f1.ps, rfl, R9, r2, n3, n4, hb, fun HA t l tb nm' mt' mn' ls' kvs' met' fl' bA RA nfA ht => ?_⟩
        refine ⟨t, _, rfl, .of ht, rfl, _, _, rfl, _, _, rfl, rfl, ?_⟩
        have n6 : l6 ≠ fm ∧ l6 ≠ r := ⟨fun z => by rcases R9.forms with ⟨_, h⟩ | ⟨_, _, _, h, _⟩ <;> (rw [← z, h96] at h; cases h), fun z => by have h := R9.ins; rw [← z, h96] at h; cases h⟩
        have n7 : l7 ≠ fm ∧ l7 ≠ r := ⟨fun z => by rcases R9.forms with ⟨_, h⟩ | ⟨_, _, _, h, _⟩ <;> (rw [← z, h97] at h; cases h), fun z => by have h := R9.ins; rw [← z, h97] at h; cases h⟩
        have sA : Same H HA := fun c o z => bA _ _ (ne_of_none z fmH) (ne_of_none z rH) (s9 _ _ z)
        have hA6 := bA _ _ n6.1 n6.2 h96
        have hA7 := bA _ _ n7.1 n7.2 h97
        have nflA : ∀ l', fl' = some l' → l' ≠ l6 ∧ l' ≠ l7 := fun l' e => (nfA l' e).elim (nfl l') fun z => ⟨(ne_of_none h96 z).symm, (ne_of_none h97 z).symm⟩
        clear bA nfA
        have len6 : xs6.length < sizeLine := by rw [PySem.sizeLine_eq]; omega
        have len7 : xs7.length < sizeLine := by rw [PySem.sizeLine_eq]; omega
        have fin : ∀ (HB : Hp) (q : Addr) (tt2 : V), Same HA HB → HB q = some (.tup [.str f1.nm, tt2, .ref tb]) → ∃ (nm mt : Addr) (mn ls : V) (kvs : List (Key × V)) (met : List (List Key × V)) (fl : Option Addr) (xs6' xs7' : List V),
            Same H (upd (upd HB l6 (.lst (xs6 ++ [.ref q]))) l7 (.lst (xs7 ++ [.ref l]))) ∧ RdSt CQ aW (upd (upd HB l6 (.lst (xs6 ++ [.ref q]))) l7 (.lst (xs7 ++ [.ref l]))) r dx fm nm mt kd ct er mn ls kvs met fl ∧ (∀ l', fl = some l' → l' ≠ l6 ∧ l' ≠ l7) ∧
            upd (upd HB l6 (.lst (xs6 ++ [.ref q]))) l7 (.lst (xs7 ++ [.ref l])) l6 = some (.lst xs6') ∧ upd (upd HB l6 (.lst (xs6 ++ [.ref q]))) l7 (.lst (xs7 ++ [.ref l])) l7 = some (.lst xs7') ∧ xs6'.length = i + 1 ∧ xs7'.length = i + 1 := by
          intro HB q tt2 sB hq
          have keep : ∀ {c : Addr} {o : HO}, HA c = some o → c ≠ l6 → c ≠ l7 → upd (upd HB l6 (.lst (xs6 ++ [.ref q]))) l7 (.lst (xs7 ++ [.ref l])) c = some o := fun {c o} e a b => by rw [upd_ne b, upd_ne a]; exact sB _ _ e
          have far : ∀ {c : Addr} {o : HO}, HA c = some o → (∀ xs, o ≠ .lst xs) → c ≠ l6 ∧ c ≠ l7 := fun {c o} e n => ⟨fun z => by rw [z, hA6] at e; exact n _ (Option.some.inj e).symm, fun z => by rw [z, hA7] at e; exact n _ (Option.some.inj e).symm⟩
          have kf : ∀ {c : Addr} {o : HO}, HA c = some o → (∀ xs, o ≠ .lst xs) → upd (upd HB l6 (.lst (xs6 ++ [.ref q]))) l7 (.lst (xs7 ++ [.ref l])) c = some o := fun e n => keep e (far e n).1 (far e n).2
          refine ⟨nm', mt', mn', ls', kvs', met', fl', xs6 ++ [.ref q], xs7 ++ [.ref l], fun c o z => keep (sA _ _ z) (ne_of_none z h6H) (ne_of_none z h7H), ⟨kf RA.ins (fun _ z => nomatch z), ?_, kf RA.named (fun _ z => nomatch z), RA.few, kf RA.met (fun _ z => nomatch z), RA.ne⟩, nflA, by rw [upd_ne n67]; exact upd_same, upd_same, by rw [List.length_append, x6]; rfl, by rw [List.length_append, x7]; rfl⟩
          rcases RA.forms with ⟨e, h⟩ | ⟨l', e, n, h1, h2⟩
          · exact .inl ⟨e, kf h (fun _ z => nomatch z)⟩
          · exact .inr ⟨l', e, n, kf h1 (fun _ z => nomatch z), keep h2 (nflA l' e).1 (nflA l' e).2⟩
        obtain ⟨ap, rfl, rp⟩ := row_up sA q2
        refine ⟨_, rfl, .inl ⟨rfl, _, .of hA6⟩, ?_⟩
        rcases rp with rp | rp
        · refine ⟨_, rfl, _, rfl, ap, _, rfl, .inl ⟨rp, fun t2 ht2 => ⟨_, rfl, (by show 3 ≤ sizeLine; decide), fun t3 ht3 => ?_⟩⟩⟩
          have sB1 := same_upd (o := .tup (f1.ps.map V.str)) ht2
          have sB2 := same_upd (o := .tup [.str f1.nm, .ref t2, .ref tb]) ht3
          refine ⟨l6, xs6, _, rfl, rfl, sB2 _ _ (sB1 _ _ hA6), len6, ?_⟩
          refine ⟨_, rfl, .inl ⟨rfl, _, .of (by rw [upd_ne n67.symm]; exact sB2 _ _ (sB1 _ _ hA7))⟩, _, rfl, l7, xs7, _, rfl, rfl, by rw [upd_ne n67.symm]; exact sB2 _ _ (sB1 _ _ hA7), len7, ?_⟩
          obtain ⟨a1, a2, a3, a4, a5, a6, a7, a8, a9, b⟩ := fin _ t3 (.ref t2) (fun _ _ z => sB2 _ _ (sB1 _ _ z)) upd_same
          exact ⟨a1, a2, a3, a4, a5, a6, a7, a8, a9, _, _, _, _, _, _, rfl, b⟩
        · refine ⟨_, rfl, _, rfl, ap, _, rfl, .inr ⟨rp, _, rfl, (by show 3 ≤ sizeLine; decide), fun t3 ht3 => ?_⟩⟩
          have sB2 := same_upd (o := .tup [.str f1.nm, .ref ap, .ref tb]) ht3
          refine ⟨l6, xs6, _, rfl, rfl, sB2 _ _ hA6, len6, ?_⟩
          refine ⟨_, rfl, .inl ⟨rfl, _, .of (by rw [upd_ne n67.symm]; exact sB2 _ _ hA7)⟩, _, rfl, l7, xs7, _, rfl, rfl, by rw [upd_ne n67.symm]; exact sB2 _ _ hA7, len7, ?_⟩
          obtain ⟨a1, a2, a3, a4, a5, a6, a7, a8, a9, b⟩ := fin _ t3 (.ref ap) sB2 upd_same
          exact ⟨a1, a2, a3, a4, a5, a6, a7, a8, a9, _, _, _, _, _, _, rfl, b⟩
      · rintro σ H8 ⟨nm, mt, mn, ls, kvs, met, fl, xs6, xs7, v3, v8, v9, v10, v11, v12, rfl, s8, R8, nfl, h86, h87, x6, x7⟩
        refine ⟨_, rfl, l6, _, rfl, .inl ⟨.of h86, fun t1 ht1 => ⟨_, rfl, (by show 2 ≤ sizeLine; decide), fun t ht => ?_⟩⟩⟩
        exact qn rfl _ t _ _ (fun _ _ z => same_upd ht _ _ (same_upd ht1 _ _ (s8 _ _ z))) upd_same
end
end Q9
end
-- QProg
section
set_option maxRecDepth 100000
set_option maxHeartbeats 4000000
namespace Q9
open PySem L2
/-! a program made -/
structure TPr (K : PySem.W.Frag) (mg : Str → Option Value) (CPr fRp : Addr) : Prop where
  cl : Cls K CPr
  no : ∀ f ∈ (["_functions", "_variable_rows", "_kinds", "_flow"] : List Str), NoAttr K CPr f
  gR : mg "_read_program" = some (.ref fRp)
  kR : PySem.W.keepIn K (.ref fRp) = true
  tup : mg "tuple" = none
def spProgI (CPr C CP : Addr) (K : PySem.W.Frag) : Sp := fun vs H Q E => ∃ (x dx : Addr) (k f : V) (r : Option (List Int)), vs = [.ref x, k, f] ∧ H x = some (.ins CPr dx []) ∧ H dx = some (.own x) ∧ ProgR C K H k f r ∧ (r = none → ∀ H', But x H H' → Q .non H') ∧
  ∀ pl, r = some pl → ∀ (H' : Hp) (d t : Addr), Same H H' → H d = none → H t = none → H' d = some (.xd [("place", .ref t)]) → H' t = some (.tup (pl.map V.int)) → E (.ref CP) (some d) H'
abbrev prPs : List Str := ["self", "kinds", "functions"]
theorem scPr : FnScope prPs prPs (defScope (pMeth 0)) := ⟨rfl, rfl, rfl, by decide +kernel, rfl, by decide +kernel, by decide +kernel⟩
section
variable {P : Program} {w : World} {K : PySem.W.Frag} {mg : Str → Option Value} {base : Heap} {C CPr CP fRp : Addr}
theorem ok_progI2 {f : Addr} {fd dR : FuncData} (F : Fun K "__init__" "Program.__init__" (pMeth 0) f fd) (T : TPr K mg CPr fRp)
    (GR : FnOk P w K mg base (L2.CX P w) 6 fRp dR ["kinds", "functions"] (spReadP C CP K)) (bR : Binds K dR ["kinds", "functions"] []) : FnOk P w K mg base (L2.CX P w) 7 f fd prPs (spProgI CPr C CP K) := by
  refine F.okX scPr (fun vs H Q E h => ?_) (fun cdv A outer s H vs Q E hr h => ?_)
  · obtain ⟨x, dx, k, f, r, rfl, _⟩ := h
    rfl
  · obtain ⟨x, dx, k, f, r, rfl, hx, hd, hP, qn, qe⟩ := h
    refine ⟨_, pss_cons (ps_asg (pe_callS GR (hr.mono (by omega)) (by rfl) T.gR T.kR bR (fun σ => passAt (takes_of rfl rfl rfl rfl) σ) (pa_cons (pv 1) (pa_cons (pv 2) pa_nil)))
        (pg_tup rfl (pgs_cons (pg_fld (pv 0)) (pgs_cons (pg_fld (pv 0)) pgs_nil))))
      (pss_cons (ps_fld (pv 0) (pe_callTy cr_tupOf (by rfl) T.tup (by decide +kernel) (pa_cons (pv 1) pa_nil)) rfl)
      (pss_one (ps_fld (pv 0) pe_non rfl))), ?_⟩
    refine ⟨_, rfl, _, rfl, k, f, r, rfl, hP, fun hr0 H1 t a b s1 ht => ?_, qe⟩
    subst hr0
    have hx1 := s1 _ _ hx
    refine ⟨t, _, rfl, .of ht, rfl, _, _, rfl, ⟨_, rfl, x, CPr, dx, _, rfl, hx1, T.cl, T.no _ (by simp), (by show (0 : Nat) < 1000; decide), _, _, rfl, ⟨_, rfl, x, CPr, dx, _, rfl, upd_same, T.cl, T.no _ (by simp), (by show (1 : Nat) < 1000; decide), rfl, ?_⟩⟩⟩
    cases hP with
    | right hK row l6 good nd mem gn gp bodies =>
      cases hK with
      | right rk pk ndk k1 k4 =>
        rename_i ks
        have b1 : ∀ u1 u2 : HO, But x H (upd (upd H1 x u1) x u2) := fun u1 u2 c o n e => by rw [upd_ne n, upd_ne n]; exact s1 _ _ e
        have rk2 : ∀ u1 u2 : HO, Row K (upd (upd H1 x u1) x u2) k ks := fun u1 u2 => row_sq (butIns (b1 u1 u2) hx) rk
        generalize hH2 : upd (upd H1 x _) x _ = H2
        have hx2 : ∃ fs : List (Str × V), fs.length = 2 ∧ H2 x = some (.ins CPr dx fs) := by
          refine ⟨_, ?_, (by rw [← hH2]; exact upd_same)⟩
          rfl
        have b2 : But x H H2 := by rw [← hH2]; exact b1 _ _
        obtain ⟨fs2, lf, hx2⟩ := hx2
        obtain ⟨ak, rfl, rq⟩ := row_sq (butIns b2 hx) rk
        clear hH2 rk2 b1
        rcases rq with rq | rq
        · refine ⟨_, rfl, ak, _, rfl, .inl ⟨rq, fun l hl => ?_⟩⟩
          have s3 := same_upd (o := .tup ks) hl
          refine ⟨_, rfl, x, CPr, dx, _, rfl, s3 _ _ hx2, T.cl, T.no _ (by simp), by omega, ?_⟩
          refine ⟨_, rfl, x, CPr, dx, _, rfl, upd_same, T.cl, T.no _ (by simp), (by have := length_putF "_kinds" (.ref l) fs2; omega), ?_⟩
          exact qn rfl _ fun c o n e => by rw [upd_ne n, upd_ne n]; exact s3 _ _ (b2 _ _ n e)
        · refine ⟨_, rfl, ak, _, rfl, .inr ⟨rq, ?_⟩⟩
          refine ⟨_, rfl, x, CPr, dx, _, rfl, hx2, T.cl, T.no _ (by simp), by omega, ?_⟩
          refine ⟨_, rfl, x, CPr, dx, _, rfl, upd_same, T.cl, T.no _ (by simp), (by have := length_putF "_kinds" (.ref ak) fs2; omega), ?_⟩
          exact qn rfl _ fun c o n e => by rw [upd_ne n, upd_ne n]; exact b2 _ _ n e
/-! isinstance of a caught error that has fields -/
structure ExcX (K : PySem.W.Frag) (D : Addr) : Prop where
  cl : (PySem.W.clsIn K D).isSome = true
  ga : PySem.W.findIn K (.ref D) "__getattribute__" = some (some (.builtin "BaseException.__getattribute__"))
  gt : PySem.W.findIn K (.ref D) "__getattr__" = some none
  sub : PySem.W.subIn K (.ref D) (.type "BaseException") = some true
  ha : PySem.W.findIn K (.ref D) "__class__" = some (some (.builtin "object.__class__"))
  hn : PySem.W.specialIn K (.builtin "object.__class__") "__get__" = some (some (.builtin "getset_descriptor.__get__"))
  ht : PySem.W.takesIn K (.builtin "object.__class__") = some true
  hm : PySem.W.mroIn K D (.type "object") = some true
/-- of a class that t stands for -/
theorem call_isX {X : Cx} {a D : Addr} {oe : Obj} {cls : Value} {d : Option Addr} {pn : List (Addr × Obj)} {y : V} {t : Value} (hy : ∀ u, RelV y u → u = t) (C : ExcX X.K D) (hz : Zc cls d oe) (hf : ∃ vs, oe.data = .fields vs) : CallR (X.suite a ((a, oe) :: pn)) (.builtin "isinstance")
    (fun xs H Q => cls = .ref D ∧ ∃ (b : Bool), xs = [.ref a, y] ∧ PySem.W.kitOne X.K (.ref D) t = some b ∧ (∃ dd fs, d = some dd ∧ H dd = some (.xd fs)) ∧ Q (.bl b) H) := by
  rintro pins s σ H xs us Q I r ⟨ec, b, rfl, e, ⟨dd, fs, ed, ea⟩, q⟩
  subst ec ed
  cases r with
  | @cons v u vs us r1 r2 =>
  cases r2 with
  | @cons v2 u2 vs2 us2 r3 r4 =>
  cases r4
  obtain rfl : u = Value.ref a := r1
  obtain rfl : u2 = t := hy _ r3
  have at_ : s.heap.get? a = some oe := (I.pin (a, oe) (by simp)).1
  obtain ⟨mA, hns, hr⟩ := (show ObjOk X.prog X.w H s.heap dd (.xd fs) from I.hok dd _ ea)
  obtain ⟨od, ho, hl⟩ := lookIn_ns hns
  obtain ⟨ws, hd⟩ := hf
  have J : PySem.W.InstAt s.heap a oe D (some od) := ⟨at_, hz.1, by unfold PySem.W.notCls; rw [hd] <;> rfl, by rw [hz.2]; exact ho⟩
  refine PySem.W.kia_one (PySem.W.kitx_exc C.cl C.ga C.gt C.sub C.ha C.hn C.ht C.hm) I.kIn J e ?_ fun tk => ⟨.bl b, H, I.kept (t' := tk) fun _ _ z => z, rfl, q⟩
  exact fun z => nomatch z
end
/-! ### _law_said -/
def spSaid7 (C : Addr) (K : PySem.W.Frag) : Sp := fun vs H Q _ => ∃ (k f : V) (r : Option (List Int)), vs = [k, f] ∧ ProgR C K H k f r ∧ (r = none → ∀ H', Same H H' → Q .non H') ∧
  ∀ pl, r = some pl → ∀ (H' : Hp) (t : Addr), Same H H' → H t = none → H' t = some (.tup (pl.map V.int)) → Q (.ref t) H'
abbrev sdN : List Str := ["_law_kinds", "_law_functions", "e"]
theorem scSd : FnScope sdN ["_law_kinds", "_law_functions"] (defScope sSaid) := ⟨rfl, rfl, rfl, by decide +kernel, rfl, by decide +kernel, by decide +kernel⟩
structure TSd (K : PySem.W.Frag) (mg : Str → Option Value) (CR CP CPr fI : Addr) : Prop where
  gR : mg "RightError" = some (.ref CR)
  gB : mg "BadProgram" = some (.ref CP)
  gP : mg "Program" = some (.ref CPr)
  mkP : Mk K CPr fI
  isi : mg "isinstance" = none
  ve : mg "ValueError" = none
  ex : ExcX K CP
  xf : XfC K CP
  noPl : PySem.W.findIn K (.ref CP) "place" = some none
  te : PySem.W.exmOne K (.ref CP) (.ref CR) = some true
  kB : PySem.W.kitOne K (.ref CP) (.ref CP) = some true
  kV : PySem.W.kitOne K (.ref CP) (.type "ValueError") = some true
section
variable {P : Program} {w : World} {K : PySem.W.Frag} {mg : Str → Option Value} {base : Heap} {C CR CP CPr fI : Addr}
theorem ok_said7 {f : Addr} {fd dI : FuncData} (F : Fun K "_law_said" "_law_said" sSaid f fd) (T : TSd K mg CR CP CPr fI)
    (GI : FnOk P w K mg base (L2.CX P w) 7 fI dI prPs (spProgI CPr C CP K)) (bI : Binds K dI prPs []) : FnOk P w K mg base CX0 9 f fd ["_law_kinds", "_law_functions"] (spSaid7 C K) := by
  refine F.ok scSd (fun vs H Q E h => ?_) (fun cdv A outer s H vs Q E hr h => ?_)
  · obtain ⟨k, f, r, rfl, _⟩ := h
    rfl
  · obtain ⟨k, f, r, rfl, hP, qn, qe⟩ := h
    refine ⟨_, pss_cons (ps_try_as (i := 2) rfl rfl scSd.nd rfl rfl ⟨rfl, by decide, .inl T.gR⟩ takes0
        (fun W pn xe tk _ => pss_one (ps_expr (pe_makeS T.mkP GI (hr.mono (by omega)) (by rfl) T.gP bI (fun σ => passAt tk σ) (pa_cons (pv 0) (pa_cons (pv 1) pa_nil)))))
        (fun a oe cls d pn hz hf => pss_one (ps_ret (pe_ifExp (PW.pt (pw_and (pt_val (pe_callB (call_isX (y := .ref CP) (t := .ref CP) (fun _ e => e) T.ex hz hf) (by rfl) T.isi (by decide +kernel) (pa_cons (pv 2) (pa_cons (pe_glob (v := .ref CP) (by rfl) T.gB rfl) pa_nil))))
            (pw_and1 (pt_val (pe_callB (call_isX (y := .ty "ValueError") (t := .type "ValueError") (fun _ e => e) T.ex hz hf) (by rfl) T.isi (by decide +kernel) (pa_cons (pv 2) (pa_cons (pe_bltn (v := .ty "ValueError") (by rfl) T.ve (by decide +kernel) rfl) pa_nil)))))))
          (pe_xf T.xf T.noPl hz hf (pv 2)) pe_str))))
      (pss_one (ps_ret pe_non)), ?_⟩
    refine ⟨_, rfl, _, rfl, fun x dx nx ndx ne => ?_⟩
    have s1 := made_up (C := CPr) nx ndx
    have free : ∀ {b : Addr}, upd (upd H dx (.own x)) x (.ins CPr dx []) b = none → H b = none := fun {b} h => by
      cases z : H b with
      | none => rfl
      | some o => rw [s1 _ _ z] at h; cases h
    refine ⟨x, dx, k, f, r, rfl, upd_same, by rw [upd_ne ne, upd_same], progR_up s1 hP, fun e H' b => ?_, fun pl e H' d t sm nd nt at_ pt => ?_⟩
    · exact ⟨rfl, qn e H' fun c o z => b _ _ (ne_of_none z nx) (s1 _ _ z)⟩
    · refine ⟨true, T.te, fun _ a na => ?_, fun z => Bool.noConfusion z⟩
      refine ⟨_, rfl, rfl, true, rfl, T.kB, ⟨d, _, rfl, at_⟩, _, rfl, iteT ?_⟩
      refine ⟨_, rfl, rfl, true, rfl, T.kV, ⟨d, _, rfl, at_⟩, _, rfl, iteT ?_⟩
      exact ⟨_, rfl, rfl, rfl, d, _, .ref t, rfl, at_, rfl, qe pl e H' t (fun _ _ z => sm _ _ (s1 _ _ z)) (free nt) pt⟩
end
end Q9
end
-- QWalkG
section
set_option maxRecDepth 100000
set_option maxHeartbeats 4000000
namespace Q9
open PySem L2 PyProof.Rows
/-! A law that asks for repr: its def is called with no repr under way, and the table of modules is known to the base. -/
/-- a def's promise, kept where no repr is under way -/
structure FnOkG (P : Program) (w : World) (K : PySem.W.Frag) (mg : Str → Option Value) (base : Heap) (k : Nat) (f : Addr) (fd : FuncData) (ps : List Str) (sp : Sp) : Prop where
  goes : ∀ (A : Around) (out : List Env) (s : Shared) (H : Hp) (args : Args) (us : List Value) (vs : List V) (Q : VK) (E : XK), A.guards = some [] → Room k A → Env0 P w K mg base A out s H →
    BindsTo s fd args (ps.zip us) → Vals vs us → sp vs H Q E → codeAny (model P w) A (.call (.ref f) args) (CR CX0 out P w H s Q E) s
section
variable {P : Program} {w : World} {K : PySem.W.Frag} {mg : Str → Option Value} {base : Heap}
theorem _root_.L2.Fun.okG {x qual : Str} {st : Stmt} {f : Addr} {fd : FuncData} {N ps : List Str} {k : Nat} {sp : Sp} (F : Fun K x qual st f fd) (S : FnScope N ps (defScope st))
    (len : ∀ vs H Q E, sp vs H Q E → vs.length = ps.length)
    (body : ∀ (cdv : Value) (A : Around) (out : List Env) (s : Shared) (H : Hp) (vs : List V) (Q : VK) (E : XK), A.guards = some [] → Room k (A.deeper (envOfC qual (defScope st) s.heap.objs.size f cdv)) → sp vs H Q E →
      ∃ t, PSs (cxOf CX0 P w K mg base N qual (defScope st) f cdv A out s H E).nox (defBody st) t ∧ t { nx := fun _ H' => Q .non H', rt := Q } (start N vs) H) : FnOkG P w K mg base (k + 1) f fd ps sp := by
  obtain ⟨oc, od, kV, doc, pm, an, cdv, ct, osl, rfl, lk, hcd⟩ := F.ex
  refine ⟨fun A out s H args us vs Q E hg hr e0 hb rv want => ?_⟩
  have n := len _ _ _ _ want
  have inK : K.In s.heap := e0.mod.kin.keeps fun b o e => (e0.bs b o e).1
  have noLim : s.heap.NoLimit := e0.mod.nolimit.keeps fun b o e => (e0.bs b o e).1
  have kinds : ∀ y ∈ ps.zip us, (defScope st).names.lookup y.1 = some .local ∨ ((defScope st).names.lookup y.1 = some .cell ∧ ((cellsFrom (s.heap.objs.size + 1) (defScope st).names []).lookup y.1).isSome = true) := by
    rintro ⟨z, v⟩ hz
    exact (S.par z (List.of_mem_zip hz).1).imp id fun q => ⟨q, PySem.W.cellsFrom_some _ _ _ (.inl q)⟩
  refine codeAny_call_function hr.depth (inK _ _ lk) rfl S.co S.gen rfl (PySem.W.codeRec_of inK hcd) (hb _ _ _ _ ?_)
  refine wpAny_newFunctionEnv_cells S.kind kinds fun env he s1 z => ?_
  subst he
  refine ⟨noLim.keeps z.toInCall.keep, codeAny_func ?_⟩
  obtain ⟨t, ht, hq⟩ := body cdv A out s H vs Q E hg (hr.deeper _) want
  have J : Inv (cxOf CX0 P w K mg base N qual (defScope st) f cdv A out s H E) [] (start N vs) H s1 := inv_start S hr.hd e0 n rv z
  refine wpAny_mono (ht.nox.run [] s1 (start N vs) H _ J hq) ?_ fun e s' h => h
  intro fl s' hs
  cases fl with
  | next => exact let ⟨_, H', J', q⟩ := hs; ⟨V.non, H', J'.os, J'.bare, J'.base, J'.hok, rfl, q⟩
  | ret u => exact let ⟨v, _, H', J', r', q⟩ := hs; ⟨v, H', J'.os, J'.bare, J'.base, J'.hok, r', q⟩
  | brk => exact let ⟨_, _, _, q⟩ := hs; False.elim q
  | cont => exact let ⟨_, _, _, q⟩ := hs; False.elim q
/-- the law's call -/
theorem law_callG {mb : Str → Option Value} {k : Nat} {fa a : Addr} {fd : FuncData} {x : Str} {sp : Sp} {s₁ : Shared} {vs : List Value} {ns : List Int} (inK : K.In s₁.heap) (hns : s₁.heap.Ns mainGlobals mg) (hb : s₁.heap.Ns builtinsNs mb)
    (hbb : ∀ x : Str, x ≠ "__name__" → mb x = bootBuiltins x) (noLim : s₁.heap.NoLimit) (hg : s₁.gens = #[]) (ha : s₁.heap.get? a = some { cls := .type "list", data := .seq vs.toArray }) (hi : IntsAre vs ns) (hl : ns.length ≤ sizeLine)
    (low : ∃ o, s₁.heap.get? sysModules = some o) (na : a ≠ sysModules) (hr : Room k callerA)
    (F : ∀ base : Heap, K.In base → base.Ns mainGlobals mg → (∃ o, base.get? sysModules = some o) → FnOkG P w K mg base k fa fd [x] sp) (bind : ∀ (s : Shared) (u : Value), BindsTo s fd ⟨[u], []⟩ [(x, u)])
    (hsp : ∀ H : Hp, Only H → SqL K H a (ns.map V.int) → sp [.ref a] H (fun v _ => v = .bl true) fun _ _ _ => False) :
    codeAny (model P w) callerA (.call (.ref fa) ⟨[.ref a], []⟩) (fun r s' => r = .ok (.ret (.bool true)) ∧ OldK s₁.heap s'.heap ∧ s'.os = s₁.os ∧ AllBare s'.gens) s₁ := by
  have rv := vals_ints hi
  have run : ∀ H : Hp, Only H → SqL K H a (ns.map V.int) → HOk P w H s₁.heap → (∀ b, H b ≠ none → b = a) → (H a ≠ none → K.lookup a = none) →
      codeAny (model P w) callerA (.call (.ref fa) ⟨[.ref a], []⟩) (fun r s' => r = .ok (.ret (.bool true)) ∧ OldK s₁.heap s'.heap ∧ s'.os = s₁.os ∧ AllBare s'.gens) s₁ := by
    intro H only sq ok at_a notK
    have stays : ∀ {b : Addr} {o : Obj}, s₁.heap.get? b = some o → (o.cls ≠ .type "list" ∨ H b = none) → (hidT s₁.heap H).get? b = some o := fun {b o} e c => by
      refine hidT_get e ?_
      rcases c with c | c
      · cases q : H b with
        | none => rfl
        | some u =>
          obtain rfl := at_a b (by rw [q]; exact fun z => nomatch z)
          rw [ha] at e
          cases e
          exact (c rfl).elim
      · exact c
    have dicts : ∀ {b : Addr} {o : Obj} {es : Array DictEntry} {ep : Nat}, s₁.heap.get? b = some o → o.data = .dict es ep → H b = none := fun {b o es ep} e d => by
      cases q : H b with
      | none => rfl
      | some u =>
        obtain rfl := at_a b (by rw [q]; exact fun z => nomatch z)
        rw [ha] at e
        cases e
        have z : Data.seq vs.toArray _ = Data.dict es ep := d
        cases z
    have nsB : ∀ {b : Addr} {m : Str → Option Value}, s₁.heap.Ns b m → (hidT s₁.heap H).Ns b m := fun {b m} ⟨o, es, ep, e, d, r⟩ => ⟨o, es, ep, stays e (.inr (dicts e d)), d, r⟩
    have inB : K.In (hidT s₁.heap H) := fun b o e => stays (inK b o e) (.inr (by
      cases q : H b with
      | none => rfl
      | some u =>
        obtain rfl := at_a b (by rw [q]; exact fun z => nomatch z)
        rw [notK (by rw [q]; exact fun z => nomatch z)] at e
        cases e))
    have lowB : ∃ o, (hidT s₁.heap H).get? sysModules = some o := by
      obtain ⟨o, e⟩ := low
      refine ⟨o, stays e (.inr ?_)⟩
      cases q : H sysModules with
      | none => rfl
      | some u => exact (na (at_a _ (by rw [q]; exact fun z => nomatch z)).symm).elim
    have M : Mod K mg (hidT s₁.heap H) := ⟨inB, nsB hns, ⟨mb, nsB hb, hbb⟩, let ⟨mc, h1, h2⟩ := noLim; ⟨mc, nsB h1, h2⟩⟩
    have e0 : Env0 P w K mg (hidT s₁.heap H) callerA [] s₁ H := ⟨rfl, M, fun b o e => of_hidT e, Nat.le_of_eq (hidT_size _ _), trivial, fun b hb => (nomatch (show b ∈ ([] : List Addr) from hb)), ok, .of_eq hg⟩
    refine codeAny_mono ((F _ inB (nsB hns) lowB).goes callerA [] s₁ H ⟨[.ref a], []⟩ [.ref a] [.ref a] _ _ rfl hr e0 (bind s₁ (.ref a)) (.cons rfl .nil) (hsp H only sq)) ?_
    intro r s' h
    cases r with
    | error e => exact False.elim h
    | ok fl =>
      cases fl with
      | next => exact False.elim h
      | brk => exact False.elim h
      | cont => exact False.elim h
      | ret u =>
        obtain ⟨v, H', os, bare, un, ok', r', q⟩ := h
        have q : v = .bl true := q
        subst q
        obtain rfl : u = Value.bool true := r'
        refine ⟨rfl, OldK.of_keep fun b o e => ?_, os, bare⟩
        cases z : H b with
        | none => exact un.keep b o e z (fun c => nomatch (show b ∈ ([] : List Addr) from c)) (fun c => nomatch c)
        | some u =>
          rcases only b with c | ⟨ob, xs, c⟩
          · rw [z] at c; cases c
          · obtain ⟨e1, _⟩ := ok b _ c
            obtain ⟨e2, _⟩ := ok' b _ (un.frzs b ob _ c)
            rw [e] at e1
            cases e1
            exact e2
  cases hk : K.lookup a with
  | some o =>
    have e := inK a o hk
    rw [ha] at e
    cases e
    exact run (fun _ => none) (fun _ => .inl rfl) (.inr ⟨_, vs.toArray, _, hk, rfl, rfl, rfl, by rw [List.size_toArray, hi.length]; exact hl, by simpa using rv⟩) (fun b u z => nomatch (show (none : Option HO) = some u from z)) (fun b z => (z rfl).elim) fun z => (z rfl).elim
  | none =>
    have one : ∀ {b : Addr} {u : HO}, (if b = a then some (HO.frz { cls := .type "list", data := .seq vs.toArray } (.lst (ns.map V.int))) else none) = some u → b = a ∧ u = .frz { cls := .type "list", data := .seq vs.toArray } (.lst (ns.map V.int)) := fun {b u} z => by
      split at z
      · exact ⟨by assumption, (Option.some.inj z).symm⟩
      · cases z
    refine run (fun b => if b = a then some (.frz { cls := .type "list", data := .seq vs.toArray } (.lst (ns.map V.int))) else none) (fun b => ?_) (.inl (.inr ⟨_, if_pos rfl⟩)) (fun b u z => ?_) (fun b z => ?_) fun _ => hk
    · by_cases c : b = a
      · exact .inr ⟨_, _, if_pos c⟩
      · exact .inl (if_neg c)
    · obtain ⟨rfl, rfl⟩ := one z
      exact ⟨ha, by rw [List.length_map]; exact hl, vs, _, rv, ha⟩
    · cases q : (if b = a then some (HO.frz { cls := .type "list", data := .seq vs.toArray } (.lst (ns.map V.int))) else none) with
      | none => exact (z q).elim
      | some u => exact (one q).1
end
theorem walkG {l : PySem.W.OpenLaw} {n k : Nat} {q : Program} {loose : List Str} {XP : (Str → Option Value) → Heap → Prop} {YP : World → Heap → Prop} {d : DefRec} {K : Params → PySem.W.Frag} {sp : World → Sp} {x : Str}
    (hn : l.most = some n) (hn2 : n ≤ sizeLine) (hdf : d.params.defaults = []) (hr : Room k callerA) (hi : importsNone q = true) (hY : ∀ (w : World) (h : Heap), YP w h → (K w.params).In h)
    (F : ∀ (w : World) (mg : Str → Option Value) (fa : Addr) (h : Heap), (K w.params).In h → h.Ns mainGlobals mg → mg d.name = some (.ref fa) → ∃ fd : FuncData, (∀ (s : Shared) (u : Value), BindsTo s fd ⟨[u], []⟩ [(x, u)]) ∧
      ∀ base : Heap, (K w.params).In base → base.Ns mainGlobals mg → (∃ o, base.get? sysModules = some o) → FnOkG l.prog w (K w.params) mg base k fa fd [x] (sp w))
    (hsp : ∀ (w : World) (H : Hp) (a : Addr) (ns : List Int), ns.length ≤ n → Only H → SqL (K w.params) H a (ns.map V.int) → sp w [.ref a] H (fun v _ => v = .bl true) fun _ _ _ => False) :
    PySem.W.WalkO q loose XP YP l.row.toRowW d [] (fun f vs => PySem.call f vs) := by
  intro w s₀ s₁ mg mb G Y fa o pm cd doc dV kV ho hd hcd hD hmg hg args vals as hpre hlay hrd hwl hlo
  have inK := hY w _ Y
  obtain ⟨fd, bind, hF⟩ := F w mg fa _ inK G.T.g hmg
  obtain ⟨a, vs, ns, rfl, rfl, hobj, hints, hlen⟩ := Att.script_of hn hpre hwl
  have na : a ≠ sysModules := by
    have : a ∈ as := by
      cases hrd with
      | cons h1 h2 => cases h1; simp
    intro z
    have := hlo a this
    rw [z] at this
    exact absurd this (by decide)
  have low : ∃ o, s₁.heap.get? sysModules = some o := by
    obtain ⟨mm, ⟨o, _, _, e, _⟩, _⟩ := (G.T.seer hi).mods
    exact ⟨o, e⟩
  refine PySem.W.enter_call (codeAny_mono (law_callG inK G.T.g G.T.b G.T.builtins G.T.nolimit hg hobj hints (Nat.le_trans hlen hn2) low na hr hF bind fun H hO hS => hsp w H a ns hlen hO hS) fun r s' hq => ?_)
  obtain ⟨rfl, h2, h3, h4⟩ := hq
  exact ⟨.inl ⟨.bool true, .bool true, [], rfl, fun _ => rfl, .bool true, Att.post_true l _, fun _ => ⟨List.Pairwise.nil, fun _ hm => (nomatch hm)⟩⟩, h2, h3, h4⟩
end Q9
end
-- QRepr
section
set_option maxRecDepth 100000
set_option maxHeartbeats 4000000
namespace Q9
open PySem L2 PyProof.Rows
/-! repr of data that is tracked: None, bools, ints, texts, lists, tuples, empty dicts -/
mutual
inductive Dz (H : Hp) : V → PyData → Prop
  | non : Dz H .non .none
  | bl (b : Bool) : Dz H (.bl b) (.bool b)
  | int (i : Int) : Dz H (.int i) (.int i)
  | str (x : Str) : Dz H (.str x) (.str x)
  | lst {a : Addr} {xs : List V} {ds : List PyData} : H a = some (.lst xs) → DzAll H xs ds → Dz H (.ref a) (.list ds)
  | tup {a : Addr} {xs : List V} {ds : List PyData} : H a = some (.tup xs) → DzAll H xs ds → Dz H (.ref a) (.tuple ds)
  | dic {a : Addr} : H a = some (.dT []) → Dz H (.ref a) (.dict [])
inductive DzAll (H : Hp) : List V → List PyData → Prop
  | nil : DzAll H [] []
  | cons {v : V} {vs : List V} {d : PyData} {ds : List PyData} : Dz H v d → DzAll H vs ds → DzAll H (v :: vs) (d :: ds)
end
mutual
theorem dz_up {H H' : Hp} (s : ∀ a o, (∀ C dx fs, o ≠ .ins C dx fs) → H a = some o → H' a = some o) : ∀ (d : PyData) (v : V), Dz H v d → Dz H' v d
  | .none, _, h => by cases h; exact .non
  | .bool b, _, h => by cases h; exact .bl b
  | .int i, _, h => by cases h; exact .int i
  | .str x, _, h => by cases h; exact .str x
  | .list ds, _, h => by
    cases h with
    | lst e a => exact .lst (s _ _ (fun _ _ _ z => nomatch z) e) (dzAll_up s ds _ a)
  | .tuple ds, _, h => by
    cases h with
    | tup e a => exact .tup (s _ _ (fun _ _ _ z => nomatch z) e) (dzAll_up s ds _ a)
  | .dict ds, _, h => by
    cases h with
    | dic e => exact .dic (s _ _ (fun _ _ _ z => nomatch z) e)
theorem dzAll_up {H H' : Hp} (s : ∀ a o, (∀ C dx fs, o ≠ .ins C dx fs) → H a = some o → H' a = some o) : ∀ (ds : List PyData) (vs : List V), DzAll H vs ds → DzAll H' vs ds
  | [], _, h => by cases h; exact .nil
  | d :: ds, _, h => by
    cases h with
    | cons h1 h2 => exact .cons (dz_up s d _ h1) (dzAll_up s ds _ h2)
end
section
variable {X : Cx} {pins : List (Addr × Obj)} {σ : L2.St} {H : Hp} {s : Shared}
mutual
theorem dz_reads (I : Inv X pins σ H s) (lo : H sysModules = none) : ∀ (d : PyData) (v : V) (u : Value), Dz H v d → RelV v u → ∃ as, Reads s.heap u d as ∧ sysModules ∉ as
  | .none, _, _, h, r => by
    cases h; cases r
    exact ⟨_, .none, fun z => nomatch z⟩
  | .bool b, _, _, h, r => by
    cases h; cases r
    exact ⟨_, .bool b, fun z => nomatch z⟩
  | .int i, _, _, h, r => by
    cases h
    obtain ⟨t, rfl⟩ := r
    exact ⟨_, .int i t, fun z => nomatch z⟩
  | .str x, _, _, h, r => by
    cases h
    obtain ⟨t, rfl⟩ := r
    exact ⟨_, .str x t, fun z => nomatch z⟩
  | .list ds, _, _, h, r => by
    cases h with
    | lst e ha =>
      cases r
      obtain ⟨its, rv, ⟨o, n, ho, hc, _, hd⟩, _⟩ := I.list (.of e)
      obtain ⟨as, hr, na⟩ := dzAll_reads I lo ds _ its ha rv
      refine ⟨_, .list ho hc hd hr, fun z => ?_⟩
      rcases List.mem_cons.mp z with z | z
      · rw [← z, lo] at e; cases e
      · exact na z
  | .tuple ds, _, _, h, r => by
    cases h with
    | tup e ha =>
      cases r
      obtain ⟨its, rv, ⟨o, ho, hc, n, hd⟩, _⟩ := I.tuple (.of e)
      obtain ⟨as, hr, na⟩ := dzAll_reads I lo ds _ its ha rv
      exact ⟨_, .tuple ho hc hd hr, na⟩
  | .dict ds, _, _, h, r => by
    cases h with
    | dic e =>
      cases r
      obtain ⟨_, ne, xs, p, o, es, ep, ho, hx, hd, he, _⟩ := (show ObjOk X.prog X.w H s.heap _ (.dT []) from I.hok _ _ e)
      cases p
      have he' : es.toList = [] := he
      refine ⟨_, .dict (as := []) (bs := []) ho hx.1 hd (by rw [he']; exact .nil) (by rw [he']; exact .nil), fun z => ?_⟩
      rcases List.mem_cons.mp z with z | z
      · rw [← z] at ne
        exact absurd ne (by decide)
      · exact nomatch z
theorem dzAll_reads (I : Inv X pins σ H s) (lo : H sysModules = none) : ∀ (ds : List PyData) (vs : List V) (us : List Value), DzAll H vs ds → Vals vs us → ∃ as, ReadsAll s.heap us ds as ∧ sysModules ∉ as
  | [], _, _, h, r => by
    cases h; cases r
    exact ⟨_, .nil, fun z => nomatch z⟩
  | d :: ds, _, _, h, r => by
    cases h with
    | cons h1 h2 =>
      cases r with
      | cons r1 r2 =>
        obtain ⟨as, q1, n1⟩ := dz_reads I lo d _ _ h1 r1
        obtain ⟨bs, q2, n2⟩ := dzAll_reads I lo ds _ _ h2 r2
        exact ⟨_, .cons q1 q2, fun z => (List.mem_append.mp z).elim n1 n2⟩
end
end
/-- data that is shown within the bounds -/
structure Shows (d : PyData) : Prop where
  shw : d.showable = true
  leaves : d.leavesShort 10 = true
  deep : d.depth ≤ 40
  few : d.weight ≤ 2 ^ 20
def rRepr : List V → Hp → VK → Prop := fun xs H Q => ∃ (a : Addr) (d : PyData), xs = [.ref a] ∧ Dz H (.ref a) d ∧ Shows d ∧ Q (.str d.shown) H
theorem call_reprD {X : Cx} (hg : X.A.guards = some []) (hu : X.A.units + 64 < cLine) (lo : ∃ o, X.base.get? sysModules = some o) : CallR X (.builtin "repr") rRepr := by
  rintro pins s σ H xs us Q I r ⟨a, d, rfl, hd, sh, q⟩
  obtain ⟨u, rfl, ru⟩ := vals1 r
  obtain rfl : u = Value.ref a := ru
  obtain ⟨o, ho⟩ := lo
  obtain ⟨as, rd, na⟩ := dz_reads I (I.bs _ _ ho).2 d _ _ hd rfl
  refine repr_of_reads' rd sh.shw (fun _ => na) hg (by have := sh.deep; omega) (fun _ _ e => e) (fun h' u tk hk => ?_) (PyData.shown_fits (B := 10) (by decide) (by decide) sh.leaves sh.few)
  exact ⟨.str d.shown, H, I.kept hk, ⟨_, rfl⟩, q⟩
end Q9
end
-- QDp
section
set_option maxRecDepth 100000
set_option maxHeartbeats 4000000
namespace Q9
open PySem L2
theorem inV_strs (z : Str) (l : List Str) : inV (.str z) (l.map V.str) = decide (z ∈ l) := by
  unfold inV
  induction l with
  | nil => rfl
  | cons y l ih =>
    rw [List.map_cons, List.any_cons, ih]
    have e : eqV (.str y) (.str z) = decide (z = y) := by
      show (y == z) = _
      rw [Bool.eq_iff_iff, beq_iff_eq, decide_eq_true_iff]
      exact eq_comm
    rw [e, Bool.eq_iff_iff]
    simp [List.mem_cons]
theorem flat_strs (l : List Str) : (l.map V.str).all flatV = true := by
  rw [List.all_eq_true]
  intro x hx
  obtain ⟨y, _, rfl⟩ := List.mem_map.mp hx
  rfl
section
variable {K : PySem.W.Frag} {H : Hp}
def dStrs (l : List Str) : List PyData := l.map PyData.str
theorem dp_strs : ∀ l : List Str, DpAll K H (l.map V.str) (dStrs l)
  | [] => .nil
  | x :: l => .cons (.str x) (dp_strs l)
theorem dp_lst {a : Addr} {l : List Str} (h : H a = some (.lst (l.map V.str))) : Dp K H (.ref a) (.list (dStrs l)) := .lst (.of h) (dp_strs l)
theorem dp_tup {a : Addr} {l : List Str} (h : H a = some (.tup (l.map V.str))) : Dp K H (.ref a) (.tuple (dStrs l)) := .tup (.of h) (dp_strs l)
end
def Oks (l : List Str) : Prop := ∀ z ∈ l, PyData.canLay0 (.str z) = true
theorem lay_strs : ∀ {l : List Str}, Oks l → PyData.canLayAll0 (dStrs l) = true ∧ PyData.depthAll (dStrs l) = 0
  | [], _ => ⟨by simp [dStrs, PyData.canLayAll0], by simp [dStrs, PyData.depthAll]⟩
  | x :: l, h => by
    obtain ⟨h1, h2⟩ := lay_strs (l := l) fun z hz => h z (List.mem_cons_of_mem _ hz)
    have h0 := h x List.mem_cons_self
    constructor
    · show PyData.canLayAll0 (.str x :: dStrs l) = true
      rw [PyData.canLayAll0, h0, h1]
      rfl
    · show PyData.depthAll (.str x :: dStrs l) = 0
      rw [PyData.depthAll, h2]
      rfl
theorem shaped_lst {l : List Str} (h : Oks l) : SeqAt.shaped (.list (dStrs l)) = true := by
  obtain ⟨h1, h2⟩ := lay_strs h
  unfold SeqAt.shaped
  rw [PyData.canLay0, h1, PyData.depth, h2]
  rfl
theorem shaped_tup {l : List Str} (h : Oks l) : SeqAt.shaped (.tuple (dStrs l)) = true := by
  obtain ⟨h1, h2⟩ := lay_strs h
  unfold SeqAt.shaped
  rw [PyData.canLay0, h1, PyData.depth, h2]
  rfl
def dPair (o : Str × Str) : PyData := .tuple [.str o.1, .str o.2]
theorem lay_pairs : ∀ {l : List (Str × Str)}, (∀ o ∈ l, PyData.canLay0 (.str o.1) = true ∧ PyData.canLay0 (.str o.2) = true) → PyData.canLayAll0 (l.map dPair) = true ∧ PyData.depthAll (l.map dPair) ≤ 1
  | [], _ => ⟨by simp [PyData.canLayAll0], by simp [PyData.depthAll]⟩
  | x :: l, h => by
    obtain ⟨h1, h2⟩ := lay_pairs (l := l) fun z hz => h z (List.mem_cons_of_mem _ hz)
    obtain ⟨h3, h4⟩ := h x List.mem_cons_self
    constructor
    · show PyData.canLayAll0 (.tuple [.str x.1, .str x.2] :: l.map dPair) = true
      rw [PyData.canLayAll0, h1, PyData.canLay0, PyData.canLayAll0, h3, PyData.canLayAll0, h4]
      simp [PyData.canLayAll0]
    · show PyData.depthAll (.tuple [.str x.1, .str x.2] :: l.map dPair) ≤ 1
      rw [PyData.depthAll]
      have e : PyData.depth (.tuple [.str x.1, .str x.2]) = 1 := by simp [PyData.depth, PyData.depthAll]
      rw [e]
      exact Nat.max_le.mpr ⟨Nat.le_refl _, h2⟩
theorem shaped_pairs {l : List (Str × Str)} (h : ∀ o ∈ l, PyData.canLay0 (.str o.1) = true ∧ PyData.canLay0 (.str o.2) = true) : SeqAt.shaped (.tuple (l.map dPair)) = true := by
  obtain ⟨h1, h2⟩ := lay_pairs h
  unfold SeqAt.shaped
  rw [PyData.canLay0, h1, PyData.depth, Bool.true_and, decide_eq_true_iff]
  omega
theorem same_data {d : PyData} (h : SeqAt.shaped d = true) : (!PyData.eqv d d) = false := by
  rw [SeqAt.eqv_refl d (SeqAt.canLay_of_shaped h)]
  rfl
section
variable {K : PySem.W.Frag} {H : Hp}
theorem dp_refs : ∀ {ps : List (Addr × Str × Str)}, (∀ p ∈ ps, SqT K H p.1 [.str p.2.1, .str p.2.2]) → DpAll K H ((ps.map (·.1)).map V.ref) ((ps.map (·.2)).map dPair)
  | [], _ => .nil
  | p :: ps, h => .cons (.tup (h p List.mem_cons_self) (.cons (.str _) (.cons (.str _) .nil))) (dp_refs fun q hq => h q (List.mem_cons_of_mem _ hq))
theorem dp_pairs {a : Addr} {ps : List (Addr × Str × Str)} (h : H a = some (.tup ((ps.map (·.1)).map V.ref))) (f : ∀ p ∈ ps, SqT K H p.1 [.str p.2.1, .str p.2.2]) : Dp K H (.ref a) (.tuple ((ps.map (·.2)).map dPair)) := .tup (.of h) (dp_refs f)
end
theorem cut_sub (l : List Str) (lo hi : Option Int) : ∃ es : List Str, cutV (l.map V.str) lo hi = es.map V.str ∧ es.Sublist l := by
  unfold cutV
  rw [← List.map_drop, ← List.map_take]
  exact ⟨_, rfl, (List.take_sublist _ _).trans (List.drop_sublist _ _)⟩
section
variable {K : PySem.W.Frag} {H H' : Hp} {l : Addr}
theorem sqL_del (w : Well H l) {a : Addr} {v : Addr} {xs : List V} (h : SqL K H a (.ref v :: xs)) : SqL K (del H l) a (.ref v :: xs) := by
  obtain ⟨x, y, z, e, _⟩ := w
  rcases h with (h | ⟨o, h⟩) | h
  · exact .inl (.inl (by rw [del_ne (fun c => by rw [c, e] at h; cases h)]; exact h))
  · exact .inl (.inr ⟨o, by rw [del_ne (fun c => by rw [c, e] at h; cases h)]; exact h⟩)
  · exact .inr h
theorem outsT_del (w : Well H l) {v : V} {os : List (Str × Str)} (ne : os ≠ []) (h : OutsT K H v os) : OutsT K (del H l) v os := by
  obtain ⟨vs, ⟨a, e, r⟩, p⟩ := h
  refine ⟨vs, ⟨a, e, ?_⟩, L2.Paired.mapP p fun _ _ ⟨q, e, h⟩ => ⟨q, e, sqT_del w h⟩⟩
  cases p with
  | nil => exact (ne rfl).elim
  | cons h1 t =>
    obtain ⟨q, rfl, _⟩ := h1
    exact r.imp (sqL_del w) (sqT_del w)
theorem moves_del (w : Well H l) {kvs : List (List Key × V)} {mv : Mv} (M : Moves K H kvs mv) (ne : ∀ e ∈ mv, e.2 ≠ []) : Moves K (del H l) kvs mv := by
  refine ⟨M.nd, ?_⟩
  have key : ∀ {kvs : List (List Key × V)} {mv : Mv}, Paired (EntT K H) kvs mv → (∀ e ∈ mv, e.2 ≠ []) → Paired (EntT K (del H l)) kvs mv := by
    intro kvs mv p
    induction p with
    | nil => intro _; exact .nil
    | @cons kv e a b h t ih => exact fun ne => .cons ⟨h.1, outsT_del w (ne e List.mem_cons_self) h.2⟩ (ih fun x hx => ne x (List.mem_cons_of_mem _ hx))
  exact key M.ent ne
end
end Q9
end
-- QLet
section
set_option maxRecDepth 100000
set_option maxHeartbeats 4000000
namespace Q9
open PySem L2
/-! ### words of small letters -/
/-- up to n small letters -/
def LP (n : Nat) (z : Str) : Prop := z.length ≤ n ∧ ∀ c ∈ z.cps.toList, 97 ≤ c ∧ c < 123
def LW (z : Str) : Prop := 1 ≤ z.length ∧ LP 8 z
theorem letters_tab : ∀ c < 123, 97 ≤ c → Unicode.isAlpha c = true ∧ Unicode.isLower c = true ∧ (Unicode.isUpper c || Unicode.isTitle c) = false := by decide +kernel
theorem name_of {z : Str} (h : LW z) : nameB z = true := by
  obtain ⟨h1, h2, h3⟩ := h
  have hm : ∀ i (hi : i < z.cps.size), 97 ≤ z.cps[i] ∧ z.cps[i] < 123 := fun i hi => h3 _ (by rw [Array.mem_toList_iff]; exact Array.getElem_mem hi)
  unfold nameB
  have e1 : decide ((z.length : Int) ≤ 8) = true := by rw [decide_eq_true_iff]; omega
  have e2 : Txt.isascii z = true := by
    unfold Txt.isascii
    rw [Array.all_eq_true]
    intro i hi
    have := hm i hi
    rw [decide_eq_true_iff]
    omega
  have e3 : Txt.isalpha z = true := by
    unfold Txt.isalpha
    rw [Bool.and_eq_true]
    refine ⟨by rw [decide_eq_true_iff]; omega, ?_⟩
    rw [Array.all_eq_true]
    intro i hi
    exact (letters_tab _ (hm i hi).2 (hm i hi).1).1
  have e4 : Txt.islower z = true := by
    unfold Txt.islower
    rw [Bool.and_eq_true]
    constructor
    · rw [Array.any_eq_true]
      have h0 : 0 < z.cps.size := h1
      exact ⟨0, h0, (letters_tab _ (hm 0 h0).2 (hm 0 h0).1).2.1⟩
    · rw [Bool.not_eq_true', Array.any_eq_false]
      intro i hi
      rw [(letters_tab _ (hm i hi).2 (hm i hi).1).2.2]
      decide
  rw [e1, e2, e3, e4]
  rfl
theorem lw_len {z : Str} (h : LW z) : z.length ≤ sizeLine := Nat.le_trans h.2.1 (by decide)
theorem lp_le {n m : Nat} {z : Str} (h : LP n z) (l : n ≤ m) : LP m z := ⟨Nat.le_trans h.1 l, h.2⟩
theorem lp_line {n : Nat} {z : Str} (h : LP n z) (l : n ≤ 8) : z.length ≤ sizeLine := Nat.le_trans h.1 (Nat.le_trans l (by decide))
/-- a letter -/
def ltr (t : Nat) : Str := ⟨#[97 + t]⟩
theorem letter_at : ∀ t < 26, Letters.cps.toList[t]? = some (97 + t) := by decide +kernel
theorem app_cps (a b : Str) : (a ++ b).cps.toList = a.cps.toList ++ b.cps.toList := by
  show (a.cps ++ b.cps).toList = _
  rw [Array.toList_append]
theorem app_len (a b : Str) : (a ++ b).length = a.length + b.length := by
  show (a.cps ++ b.cps).size = _
  rw [Array.size_append]
  rfl
theorem lp_snoc {n t : Nat} {z : Str} (h : LP n z) (ht : t < 26) : LP (n + 1) (z ++ ltr t) := by
  constructor
  · rw [app_len]
    exact Nat.add_le_add_right h.1 1
  · intro c hc
    rw [app_cps] at hc
    rcases List.mem_append.mp hc with hc | hc
    · exact h.2 c hc
    · have : c = 97 + t := by simpa [ltr] using hc
      omega
theorem snoc_inj {z : Str} {t u : Nat} (h : z ++ ltr t = z ++ ltr u) : t = u := by
  have e : (z ++ ltr t).cps.toList = (z ++ ltr u).cps.toList := by rw [h]
  rw [app_cps, app_cps] at e
  have := List.append_cancel_left e
  simpa [ltr] using this
theorem cut_lp {n m : Nat} {z : Str} (h : LP n z) : LP m (cutS z none (some (m : Int))) ∧ (1 ≤ z.length → 1 ≤ m → 1 ≤ (cutS z none (some (m : Int))).length) := by
  have e : (cutS z none (some (m : Int))).cps.toList = z.cps.toList.take m := by
    unfold cutS
    show (List.take (min ((m : Int).toNat) z.length - 0) (List.drop 0 z.cps.toList)) = _
    rw [List.drop_zero, Nat.sub_zero, Int.toNat_natCast]
    by_cases c : m ≤ z.length
    · rw [Nat.min_eq_left c]
    · have h1 : z.cps.toList.length = z.length := rfl
      rw [Nat.min_eq_right (by omega), List.take_of_length_le (by omega), List.take_of_length_le (by omega)]
  have el : (cutS z none (some (m : Int))).length = min m z.length := by
    show (cutS z none (some (m : Int))).cps.size = _
    rw [← Array.length_toList, e, List.length_take]
    rfl
  refine ⟨⟨by rw [el]; exact Nat.min_le_left _ _, fun c hc => ?_⟩, fun h1 h2 => by rw [el]; omega⟩
  rw [e] at hc
  exact h.2 c (List.mem_of_mem_take hc)
theorem lay_of {n : Nat} {z : Str} (h : LP n z) : PyData.canLay0 (.str z) = true := by
  rw [PyData.canLay0]
  unfold PyData.strOk
  rw [Array.all_eq_true]
  intro i hi
  have := h.2 z.cps[i] (by rw [Array.mem_toList_iff]; exact Array.getElem_mem hi)
  rw [decide_eq_true_iff]
  omega
/-- 25 letters behind one stem are not all among few words -/
theorem not_all {z : Str} {ws : List Str} (l : ws.length < 25) (h : ∀ t < 25, z ++ ltr t ∈ ws) : False := by
  have nd : ((List.range 25).map fun t => z ++ ltr t).Nodup := by
    refine List.pairwise_map.mpr (List.Pairwise.imp (fun {a b} ne e => ne (snoc_inj e)) List.nodup_range)
  have := nodup_le _ ws nd fun k hk => by
    obtain ⟨t, h1, rfl⟩ := List.mem_map.mp hk
    exact h t (List.mem_range.mp h1)
  rw [List.length_map, List.length_range] at this
  omega
end Q9
end
-- QData
section
set_option maxRecDepth 100000
set_option maxHeartbeats 4000000
namespace Q9
open PySem L2
/-! functions as data -/
def rowD : PyData → Option (List PyData)
  | .list xs => some xs
  | .tuple xs => some xs
  | _ => none
def textD : PyData → Option Str
  | .str z => some z
  | _ => none
/-- all texts -/
def textsD : List PyData → Option (List Str)
  | [] => some []
  | d :: ds => match textD d, textsD ds with
    | some z, some zs => some (z :: zs)
    | _, _ => none
/-- is it a name -/
def nmD (d : PyData) : Bool := match textD d with | some z => nameB z | none => false
def fnOk (nm : Str) (zs : List Str) : Bool := nameB nm && zs.all nameB && decide zs.Nodup && decide (zs.length ≤ 3)
/-- the function that data tell -/
def fn3 (n p b : PyData) : Option (Str × List Str × List PyData) := match textD n, rowD p, rowD b with
  | some nm, some ps, some bs => match textsD ps with
    | some zs => if fnOk nm zs = true then some (nm, zs, bs) else none
    | none => none
  | _, _, _ => none
def fnD (d : PyData) : Option (Str × List Str × List PyData) := match rowD d with
  | some [n, p, b] => fn3 n p b
  | _ => none
/-- a thing that is small -/
def smD : PyData → Bool
  | .str z => decide (z.length ≤ 1000)
  | .list xs => decide (xs.length ≤ 1000)
  | .tuple xs => decide (xs.length ≤ 1000)
  | _ => true
def sm1 (d : PyData) : Bool := smD d && (match rowD d with | some xs => xs.all smD | none => true)
def sm2 (d : PyData) : Bool := smD d && (match rowD d with | some xs => xs.all sm1 | none => true)
section
variable {K : PySem.W.Frag} {H : Hp}
theorem row_dz {v : V} {d : PyData} {xs : List PyData} (h : Dz H v d) (e : rowD d = some xs) : ∃ vs, Row K H v vs ∧ DzAll H vs xs := by
  cases h with
  | lst a b => cases e; exact ⟨_, ⟨_, rfl, .inl (.of a)⟩, b⟩
  | tup a b => cases e; exact ⟨_, ⟨_, rfl, .inr (.of a)⟩, b⟩
  | _ => cases e
theorem notRow_dz {v : V} {d : PyData} (h : Dz H v d) (e : rowD d = none) : NotRow K H v := by
  cases h with
  | non => exact ⟨_, .base .non, kit_ty (by decide +kernel), kit_ty (by decide +kernel)⟩
  | bl b => exact ⟨_, .base (.bl b), kit_ty (by decide +kernel), kit_ty (by decide +kernel)⟩
  | int i => exact ⟨_, .base (.int i), kit_ty (by decide +kernel), kit_ty (by decide +kernel)⟩
  | str z => exact ⟨_, .base (.str z), kit_ty (by decide +kernel), kit_ty (by decide +kernel)⟩
  | lst a b => cases e
  | tup a b => cases e
  | dic a => exact ⟨_, .base (.dT a), kit_ty (by decide +kernel), kit_ty (by decide +kernel)⟩
theorem notStr_dz {v : V} {d : PyData} (h : Dz H v d) (e : textD d = none) : OfTy K H v "str" false := by
  cases h with
  | non => exact ⟨_, .base .non, kit_ty (by decide +kernel)⟩
  | bl b => exact ⟨_, .base (.bl b), kit_ty (by decide +kernel)⟩
  | int i => exact ⟨_, .base (.int i), kit_ty (by decide +kernel)⟩
  | str z => cases e
  | lst a b => exact ⟨_, .base (.lst a), kit_ty (by decide +kernel)⟩
  | tup a b => exact ⟨_, .base (.tup a), kit_ty (by decide +kernel)⟩
  | dic a => exact ⟨_, .base (.dT a), kit_ty (by decide +kernel)⟩
theorem str_dz {v : V} {d : PyData} {z : Str} (h : Dz H v d) (e : textD d = some z) : v = .str z := by
  cases h with
  | str y => cases e; rfl
  | _ => cases e
theorem texts_dz : ∀ {vs : List V} {ds : List PyData} {zs : List Str}, DzAll H vs ds → textsD ds = some zs → vs = zs.map V.str
  | _, [], zs, h, e => by
    cases h
    cases e
    rfl
  | _, d :: ds, zs, h, e => by
    cases h with
    | cons h1 h2 =>
      unfold textsD at e
      cases e1 : textD d with
      | none => rw [e1] at e; cases e
      | some z =>
        cases e2 : textsD ds with
        | none => rw [e1, e2] at e; cases e
        | some zs' =>
          rw [e1, e2] at e
          cases e
          rw [str_dz h1 e1, texts_dz h2 e2]
          rfl
/-- is each a name -/
theorem itemsB : ∀ {vs : List V} {ds : List PyData}, DzAll H vs ds → ds.all smD = true → Paired (ItemB K H) vs (ds.map nmD)
  | _, [], h, _ => by cases h; exact .nil
  | _, d :: ds, h, e => by
    cases h with
    | cons h1 h2 =>
      rw [List.all_cons, Bool.and_eq_true] at e
      refine .cons ?_ (itemsB h2 e.2)
      cases e1 : textD d with
      | none => exact .inr ⟨notStr_dz h1 e1, by unfold nmD; rw [e1]⟩
      | some z =>
        obtain rfl := str_dz h1 e1
        refine .inl ⟨z, rfl, ?_, by unfold nmD; rw [e1]⟩
        cases d with
        | str y =>
          cases e1
          have := of_decide_eq_true e.1
          exact Nat.le_trans this (by decide)
        | _ => cases e1
theorem texts_none : ∀ {ds : List PyData}, textsD ds = none → ((ds.map nmD).all id) = false
  | [], e => by cases e
  | d :: ds, e => by
    unfold textsD at e
    rw [List.map_cons, List.all_cons]
    cases e1 : textD d with
    | none =>
      have : nmD d = false := by unfold nmD; rw [e1]
      rw [this]
      rfl
    | some z =>
      cases e2 : textsD ds with
      | none =>
        have := texts_none e2
        rw [this, Bool.and_false]
      | some zs => rw [e1, e2] at e; cases e
theorem texts_len : ∀ {ds : List PyData} {zs : List Str}, textsD ds = some zs → ds = zs.map PyData.str
  | [], zs, e => by cases e; rfl
  | d :: ds, zs, e => by
    unfold textsD at e
    cases e1 : textD d with
    | none => rw [e1] at e; cases e
    | some z =>
      cases e2 : textsD ds with
      | none => rw [e1, e2] at e; cases e
      | some zs' =>
        rw [e1, e2] at e
        cases e
        rw [List.map_cons, ← texts_len e2]
        cases d with
        | str y => cases e1; rfl
        | _ => cases e1
theorem three {α : Type} {xs : List α} (h : ¬ xs.length = 3 → False) : ∃ a b c, xs = [a, b, c] := by
  match xs, h with
  | [a, b, c], _ => exact ⟨a, b, c, rfl⟩
  | [], h => exact (h (by simp)).elim
  | [_], h => exact (h (by simp)).elim
  | [_, _], h => exact (h (by simp)).elim
  | _ :: _ :: _ :: _ :: _, h => exact (h (by simp)).elim
/-- data that tell a function -/
theorem right_of {v : V} {d : PyData} {t : Str × List Str × List PyData} (h : Dz H v d) (e : fnD d = some t) : ∃ f, RightF K H v f ∧ f.nm = t.1 ∧ f.ps = t.2.1 ∧ ∃ vs, Row K H f.body vs ∧ DzAll H vs t.2.2 := by
  unfold fnD at e
  split at e
  · rename_i n p b er
    obtain ⟨vs, rv, dv⟩ := row_dz (K := K) h er
    cases dv with
    | cons h1 dv => cases dv with
      | cons h2 dv => cases dv with
        | cons h3 dv =>
          cases dv
          unfold fn3 at e
          split at e
          · rename_i nm ps bs e1 e2 e3
            split at e
            · rename_i zs e4
              split at e
              · rename_i ok
                cases e
                obtain rfl := str_dz h1 e1
                obtain ⟨v2, r2, d2⟩ := row_dz (K := K) h2 e2
                obtain ⟨v3, r3, d3⟩ := row_dz (K := K) h3 e3
                obtain rfl := texts_dz d2 e4
                unfold fnOk at ok
                simp only [Bool.and_eq_true, decide_eq_true_eq] at ok
                exact ⟨⟨nm, zs, _⟩, ⟨ok.1.1.1, List.all_eq_true.mp ok.1.1.2, ok.1.2, ok.2, _, _, rv, r2, r3⟩, rfl, rfl, _, r3, d3⟩
              · cases e
            · cases e
          · cases e
  · cases e
/-- data that tell none -/
theorem bad_of {v : V} {d : PyData} (h : Dz H v d) (sm : sm2 d = true) (e : fnD d = none) : BadF K H v := by
  cases er : rowD d with
  | none => exact .inl (notRow_dz h er)
  | some xs =>
    obtain ⟨vs, rv, dv⟩ := row_dz (K := K) h er
    have ln : ∀ {vs : List V} {xs : List PyData}, DzAll H vs xs → vs.length = xs.length := fun {vs xs} h => by
      have key : ∀ (xs : List PyData) (vs : List V), DzAll H vs xs → vs.length = xs.length := by
        intro xs
        induction xs with
        | nil => intro vs h; cases h; rfl
        | cons d ds ih => intro vs h; cases h with | cons _ h2 => rw [List.length_cons, List.length_cons, ih _ h2]
      exact key xs vs h
    by_cases c3 : xs.length = 3
    case neg => exact .inr (.inl ⟨vs, rv, by rw [ln dv]; exact c3⟩)
    obtain ⟨n, p, b, rfl⟩ := three fun z => z c3
    cases dv with
    | cons h1 dv => cases dv with
      | cons h2 dv => cases dv with
        | cons h3 dv =>
          cases dv
          unfold sm2 at sm
          rw [er] at sm
          simp only [List.all_cons, List.all_nil, Bool.and_true, Bool.and_eq_true] at sm
          obtain ⟨_, sn, sp, sb⟩ := sm
          cases e1 : textD n with
          | none => exact .inr (.inr (.inl ⟨_, _, _, rv, .inr ⟨notStr_dz h1 e1, rfl⟩⟩))
          | some nm =>
            obtain rfl := str_dz h1 e1
            by_cases cn : nameB nm = true
            case neg =>
              refine .inr (.inr (.inl ⟨_, _, _, rv, .inl ⟨nm, rfl, ?_, (Bool.eq_false_iff.mpr cn).symm⟩⟩))
              cases n with
              | str y =>
                cases e1
                unfold sm1 at sn
                rw [Bool.and_eq_true] at sn
                have := of_decide_eq_true sn.1
                exact Nat.le_trans this (by decide)
              | _ => cases e1
            cases e2 : rowD p with
            | none => exact .inr (.inr (.inr (.inl ⟨nm, _, _, rv, cn, .inl (.inl (notRow_dz h2 e2))⟩)))
            | some ps =>
              obtain ⟨v2, r2, d2⟩ := row_dz (K := K) h2 e2
              unfold sm1 at sp
              rw [e2, Bool.and_eq_true] at sp
              have lp : ps.length ≤ 1000 := by
                cases p with
                | list ys => cases e2; exact of_decide_eq_true sp.1
                | tuple ys => cases e2; exact of_decide_eq_true sp.1
                | _ => cases e2
              have lb : ∀ {n : Nat}, n ≤ 1000 → n + 1 < scanBound := fun h => by
                have : scanBound = 4096 := rfl
                omega
              cases e4 : textsD ps with
              | none => exact .inr (.inr (.inr (.inl ⟨nm, _, _, rv, cn, .inl (.inr ⟨v2, _, r2, itemsB d2 sp.2, by rw [ln d2]; exact lb lp, texts_none e4⟩)⟩)))
              | some zs =>
                obtain rfl := texts_dz d2 e4
                have ez := texts_len e4
                subst ez
                rw [List.length_map] at lp
                have lz : ∀ z ∈ zs, z.length ≤ sizeLine := fun z hz => by
                  have h := List.all_eq_true.mp sp.2 _ (List.mem_map.mpr ⟨z, hz, rfl⟩)
                  exact Nat.le_trans (of_decide_eq_true h) (by decide)
                cases c4 : (zs.all nameB && decide zs.Nodup) with
                | false => exact .inr (.inr (.inr (.inl ⟨nm, _, _, rv, cn, .inr ⟨zs, r2, lz, lb lp, c4⟩⟩)))
                | true =>
                  rw [Bool.and_eq_true] at c4
                  refine .inr (.inr (.inr (.inr ⟨nm, _, _, zs, rv, cn, r2, List.all_eq_true.mp c4.1, of_decide_eq_true c4.2, lb lp, ?_⟩)))
                  by_cases c5 : zs.length ≤ 3
                  case neg => exact .inl (by omega)
                  refine .inr ?_
                  cases e3 : rowD b with
                  | none => exact notRow_dz h3 e3
                  | some bs =>
                    have ok : fnOk nm zs = true := by
                      unfold fnOk
                      rw [cn, c4.1, c4.2, decide_eq_true c5]
                      rfl
                    unfold fnD at e
                    rw [er] at e
                    dsimp only at e
                    unfold fn3 at e
                    rw [e1, e2, e3] at e
                    dsimp only at e
                    rw [e4] at e
                    dsimp only at e
                    rw [if_pos ok] at e
                    cases e
end
end Q9
end
-- QLit
section
set_option maxRecDepth 100000
set_option maxHeartbeats 4000000
namespace Q9
open PySem L2
/-! data that are written: read at once -/
/-- what is left aside of a heap -/
structure Aside (H0 : Hp) (f : Hp → Hp) : Prop where
  mono : ∀ {H H'}, Same H H' → Same (f H) (f H')
  less : ∀ {H}, Same (f H) H
  new : ∀ {H p o}, Same H0 H → H p = none → f (upd H p o) p = some o
/-- t tells data d, in a heap above H0 -/
def Lit (f : Hp → Hp) (t : TE) (σ : L2.St) (H0 : Hp) (d : PyData) : Prop := ∀ (H : Hp) (Q : VK), Same H0 H → (∀ v H', Same H H' → Dz (f H') v d → Q v H') → t σ H Q
def LitA (f : Hp → Hp) (t : TA) (σ : L2.St) (H0 : Hp) (ds : List PyData) : Prop := ∀ (H : Hp) (Q : List V → Hp → Prop), Same H0 H → (∀ vs H', Same H H' → DzAll (f H') vs ds → Q vs H') → t σ H Q
theorem dz_same {H H' : Hp} (s : Same H H') {d : PyData} {v : V} (h : Dz H v d) : Dz H' v d := dz_up (fun a o _ e => s a o e) d v h
theorem dzAll_same {H H' : Hp} (s : Same H H') {ds : List PyData} {vs : List V} (h : DzAll H vs ds) : DzAll H' vs ds := dzAll_up (fun a o _ e => s a o e) ds vs h
theorem dzAll_len : ∀ {ds : List PyData} {vs : List V} {H : Hp}, DzAll H vs ds → vs.length = ds.length
  | [], _, _, h => by cases h; rfl
  | d :: ds, _, _, h => by cases h with | cons _ h2 => rw [List.length_cons, List.length_cons, dzAll_len h2]
theorem dzAll_append : ∀ {ds es : List PyData} {vs ws : List V} {H : Hp}, DzAll H vs ds → DzAll H ws es → DzAll H (vs ++ ws) (ds ++ es)
  | [], _, _, _, _, h, k => by cases h; exact k
  | d :: ds, _, _, _, _, h, k => by cases h with | cons h1 h2 => exact .cons h1 (dzAll_append h2 k)
theorem dzAll_mem : ∀ {ds : List PyData} {vs : List V} {H : Hp} {v : V}, DzAll H vs ds → v ∈ vs → ∃ d ∈ ds, Dz H v d
  | [], _, _, _, h, m => by cases h; cases m
  | d :: ds, _, _, _, h, m => by
    cases h with
    | cons h1 h2 =>
      rcases List.mem_cons.mp m with rfl | m
      · exact ⟨d, List.mem_cons_self, h1⟩
      · obtain ⟨e, he, k⟩ := dzAll_mem h2 m
        exact ⟨e, List.mem_cons_of_mem _ he, k⟩
theorem dzAll_at : ∀ {ds : List PyData} {vs : List V} {H : Hp} {i : Nat} {v : V}, DzAll H vs ds → vs[i]? = some v → ∃ d, ds[i]? = some d ∧ Dz H v d
  | [], _, _, _, _, h, m => by cases h; cases m
  | d :: ds, _, _, i, _, h, m => by
    cases h with
    | cons h1 h2 =>
      cases i with
      | zero =>
        cases m
        exact ⟨d, rfl, h1⟩
      | succ i => exact dzAll_at (i := i) h2 (by simpa using m)
theorem dzAll_take : ∀ {ds : List PyData} {vs : List V} {H : Hp} (n : Nat), DzAll H vs ds → DzAll H (vs.take n) (ds.take n)
  | [], _, _, n, h => by cases h; simp; exact .nil
  | d :: ds, _, _, n, h => by
    cases h with
    | cons h1 h2 =>
      cases n with
      | zero => exact .nil
      | succ n => exact .cons h1 (dzAll_take n h2)
theorem dzAll_drop : ∀ {ds : List PyData} {vs : List V} {H : Hp} (n : Nat), DzAll H vs ds → DzAll H (vs.drop n) (ds.drop n)
  | [], _, _, n, h => by cases h; simp; exact .nil
  | d :: ds, _, _, n, h => by
    cases h with
    | cons h1 h2 =>
      cases n with
      | zero => exact .cons h1 h2
      | succ n => exact dzAll_drop n h2
theorem dzAll_strs : ∀ {zs : List Str} {H : Hp}, DzAll H (zs.map V.str) (zs.map PyData.str)
  | [], _ => .nil
  | z :: zs, _ => .cons (.str z) dzAll_strs
theorem same_del {H H' : Hp} {l : Addr} (s : Same H H') : Same (del H l) (del H' l) := del_same_of s
theorem aside1 {H0 : Hp} {l : Addr} {u : HO} (hl : H0 l = some u) : Aside H0 (fun H => del H l) :=
  ⟨fun s => same_del s, del_less, fun {H p o} s hp => by
    have n : p ≠ l := fun z => by
      rw [z, s _ _ hl] at hp
      cases hp
    show del (upd H p o) l p = some o
    rw [del_ne n]
    exact upd_same⟩
theorem aside2 {H0 : Hp} {l D : Addr} {u w : HO} (hl : H0 l = some u) (hD : H0 D = some w) : Aside H0 (fun H => del (del H D) l) :=
  ⟨fun s => same_del (same_del s), fun b o e => del_less _ _ (del_less _ _ e), fun {H p o} s hp => by
    have n : p ≠ l := fun z => by
      rw [z, s _ _ hl] at hp
      cases hp
    have n2 : p ≠ D := fun z => by
      rw [z, s _ _ hD] at hp
      cases hp
    show del (del (upd H p o) D) l p = some o
    rw [del_ne n, del_ne n2]
    exact upd_same⟩
section
variable {f : Hp → Hp} {σ : L2.St} {H0 : Hp}
theorem lit_c {v : V} {d : PyData} (h : ∀ H, Dz H v d) : Lit f (tC v) σ H0 d := fun H Q _ q => q v H (Same.refl H) (h _)
theorem lit_var (A : Aside H0 f) {i : Nat} {v : V} {d : PyData} (e : σ[i]? = some (some v)) (h : Dz (f H0) v d) : Lit f (tVar i) σ H0 d := fun H Q s q => ⟨v, e, q v H (Same.refl H) (dz_same (A.mono s) h)⟩
theorem litA_nil : LitA f tNil σ H0 [] := fun H Q _ q => q [] H (Same.refl H) .nil
theorem litA_cons (A : Aside H0 f) {ta : TE} {tr : TA} {d : PyData} {ds : List PyData} (a : Lit f ta σ H0 d) (r : LitA f tr σ H0 ds) : LitA f (tCons ta tr) σ H0 (d :: ds) := fun H Q s q =>
  a H _ s fun v H1 s1 h1 => r H1 _ (s.trans s1) fun vs H2 s2 h2 => q (v :: vs) H2 (s1.trans s2) (.cons (dz_same (A.mono s2) h1) h2)
theorem lit_tup (A : Aside H0 f) {t : TA} {ds : List PyData} (a : LitA f t σ H0 ds) (n : ds.length ≤ 1000) : Lit f (tTup t) σ H0 (.tuple ds) := fun H Q s q =>
  a H _ s fun vs H1 s1 h1 => ⟨by rw [dzAll_len h1]; exact Nat.le_of_lt (small1000 n), fun p hp =>
    q _ _ (s1.trans (same_upd hp)) (.tup (A.new (s.trans s1) hp) (dzAll_same (A.mono (same_upd hp)) h1))⟩
theorem lit_lst (A : Aside H0 f) {t : TA} {ds : List PyData} (a : LitA f t σ H0 ds) (n : ds.length ≤ 1000) : Lit f (tLst t) σ H0 (.list ds) := fun H Q s q =>
  a H _ s fun vs H1 s1 h1 => ⟨by rw [dzAll_len h1]; exact Nat.le_of_lt (small1000 n), fun p hp =>
    q _ _ (s1.trans (same_upd hp)) (.lst (A.new (s.trans s1) hp) (dzAll_same (A.mono (same_upd hp)) h1))⟩
theorem lit_dic (A : Aside H0 f) : Lit f tDNewT σ H0 (.dict []) := fun H Q s q p hp => q _ _ (same_upd hp) (.dic (A.new s hp))
theorem lit_cat (A : Aside H0 f) {ta tb : TE} {ds es : List PyData} (a : Lit f ta σ H0 (.list ds)) (b : Lit f tb σ H0 (.list es)) (n : ds.length + es.length ≤ 1000) : Lit f (tOp rCat ta tb) σ H0 (.list (ds ++ es)) := fun H Q s q =>
  a H _ s fun v H1 s1 h1 => b H1 _ (s.trans s1) fun w H2 s2 h2 => by
    have h1 := dz_same (A.mono s2) h1
    cases h1 with
    | @lst a1' xs1 _ e1 a1 =>
      cases h2 with
      | @lst a2' xs2 _ e2 a2 =>
        refine ⟨_, _, _, _, rfl, rfl, A.less _ _ e1, A.less _ _ e2, by rw [dzAll_len a1, dzAll_len a2]; exact Nat.le_of_lt (small1000 n), fun p hp => ?_⟩
        have sp := same_upd (o := .lst (xs1 ++ xs2)) hp
        exact q _ _ (fun c o z => sp _ _ (s2 _ _ (s1 _ _ z))) (.lst (A.new (fun c o z => s2 _ _ (s1 _ _ (s _ _ z))) hp) (dzAll_same (A.mono sp) (dzAll_append a1 a2)))
end
/-- a name set to what is written -/
theorem seq_lit {f : Hp → Hp} {t : TE} {g : TG} {rest : TS} {D : Ends} {σ : L2.St} {H : Hp} (d : PyData) (a : Lit f t σ H d) (q : ∀ v H', Same H H' → Dz (f H') v d → g v σ H' fun σ' H1 => rest D σ' H1) : tSeq (tAsg t g) rest D σ H := a H _ (Same.refl H) q
theorem lit_run {f : Hp → Hp} {t : TE} {σ : L2.St} {H : Hp} {Q : VK} (d : PyData) (a : Lit f t σ H d) (q : ∀ v H', Same H H' → Dz (f H') v d → Q v H') : t σ H Q := a H _ (Same.refl H) q
theorem del_upd {H : Hp} {l : Addr} {u : HO} : Same (del H l) (del (upd H l u) l) := fun b o e => by
  have n : b ≠ l := fun z => by rw [z, del_same] at e; cases e
  rw [del_ne n] at e ⊢
  rw [upd_ne n]
  exact e
/-- small enough to be shown -/
structure Sh (n k : Nat) (d : PyData) : Prop where
  i : d.showable = true
  l : d.leavesShort 10 = true
  dp : d.depth ≤ k
  w : d.weight ≤ n
structure ShA (n k : Nat) (ds : List PyData) : Prop where
  i : PyData.showableAll ds = true
  l : PyData.leavesShortAll 10 ds = true
  dp : PyData.depthAll ds ≤ k
  w : PyData.weightAll ds ≤ n
theorem shA_nil {n k : Nat} : ShA n k [] := ⟨by rw [PyData.showableAll], by rw [PyData.leavesShortAll], by rw [PyData.depthAll]; exact Nat.zero_le _, by rw [PyData.weightAll]; exact Nat.zero_le _⟩
theorem shA_cons {n m k : Nat} {d : PyData} {ds : List PyData} (a : Sh n k d) (b : ShA m k ds) : ShA (n + 1 + m) k (d :: ds) :=
  ⟨by rw [PyData.showableAll, a.i, b.i]; rfl, by rw [PyData.leavesShortAll, a.l, b.l]; rfl, by rw [PyData.depthAll]; exact Nat.max_le.mpr ⟨a.dp, b.dp⟩, by rw [PyData.weightAll]; have := a.w; have := b.w; omega⟩
theorem sh_tup {n k : Nat} {ds : List PyData} (a : ShA n k ds) : Sh n (k + 1) (.tuple ds) := ⟨by rw [PyData.showable]; exact a.i, by rw [PyData.leavesShort]; exact a.l, by rw [PyData.depth]; exact Nat.succ_le_succ a.dp, by rw [PyData.weight]; exact a.w⟩
theorem sh_lst {n k : Nat} {ds : List PyData} (a : ShA n k ds) : Sh n (k + 1) (.list ds) := ⟨by rw [PyData.showable]; exact a.i, by rw [PyData.leavesShort]; exact a.l, by rw [PyData.depth]; exact Nat.succ_le_succ a.dp, by rw [PyData.weight]; exact a.w⟩
theorem Sh.le {n m k j : Nat} {d : PyData} (a : Sh n k d) (h : n ≤ m) (h2 : k ≤ j) : Sh m j d := ⟨a.i, a.l, Nat.le_trans a.dp h2, Nat.le_trans a.w h⟩
theorem ShA.le {n m k j : Nat} {ds : List PyData} (a : ShA n k ds) (h : n ≤ m) (h2 : k ≤ j) : ShA m j ds := ⟨a.i, a.l, Nat.le_trans a.dp h2, Nat.le_trans a.w h⟩
theorem shA_all {n k : Nat} : ∀ {ds : List PyData}, (∀ d ∈ ds, Sh n k d) → ShA (ds.length * (n + 1)) k ds
  | [], _ => shA_nil
  | d :: ds, h => (shA_cons (h d List.mem_cons_self) (shA_all fun e he => h e (List.mem_cons_of_mem _ he))).le (by rw [List.length_cons, Nat.succ_mul]; omega) (Nat.le_refl _)
theorem lw_fit {z : Str} (h : LW z) : (z.cps.toList.all fun c => decide (c < 16 ^ 8)) = true := List.all_eq_true.mpr fun c hc => decide_eq_true (by have := (h.2.2 c hc).2; omega)
theorem lw_size {z : Str} (h : LW z) : z.cps.size ≤ 8 := h.2.1
theorem sh_lw {z : Str} {k : Nat} (h : LW z) : Sh 8 k (.str z) := ⟨by rw [PyData.showable], by rw [PyData.leavesShort]; exact lw_fit h, by rw [PyData.depth]; exact Nat.zero_le _, by rw [PyData.weight]; exact lw_size h⟩
theorem Sh.shows {n k : Nat} {d : PyData} (a : Sh n k d) (h : n ≤ 1000000) (h2 : k ≤ 40) : Shows d := ⟨a.i, a.l, Nat.le_trans a.dp h2, Nat.le_trans a.w (Nat.le_trans h (by decide))⟩
/-- the forms of what is no function, by a name -/
def odd0 : List PyData := [.none, .int 5, .str "main", .tuple [], .tuple [.str "Main", .tuple [], .tuple []], .tuple [.str "", .tuple [], .tuple []], .dict [], .list [.list [], .list [], .list []], .tuple [.none, .tuple [], .tuple []]]
/-- parameters and body that are none -/
def oddPB : List (PyData × PyData) := [(.none, .tuple []), (.str "x", .tuple []), (.tuple [.str "x", .str "x"], .tuple []), (.tuple [.str "X"], .tuple []), (.tuple [.int 5], .tuple []), (.tuple [.str "a", .str "b", .str "c", .str "d"], .tuple []), (.tuple [], .none), (.tuple [], .str "wait"), (.tuple [], .dict [])]
def OddD (others : List Str) (d : PyData) : Prop := Sh 100 5 d ∧ sm2 d = true ∧ (fnD d = none ∨ ∃ z ∈ others, fnD d = some (z, [], []))
theorem fn3_name {nm : Str} {p b : PyData} (h : LW nm) (e : fn3 (.str "a") p b = none) : fn3 (.str nm) p b = none := by
  have hn := name_of h
  unfold fn3 at e ⊢
  cases e1 : rowD p with
  | none => rfl
  | some ps =>
    cases e2 : rowD b with
    | none => rfl
    | some bs =>
      rw [e1, e2] at e
      dsimp only [textD] at e ⊢
      cases e3 : textsD ps with
      | none => rfl
      | some zs =>
        rw [e3] at e
        dsimp only at e ⊢
        have ea : fnOk nm zs = fnOk "a" zs := by
          unfold fnOk
          rw [hn, show nameB "a" = true by decide +kernel]
        rw [ea]
        split at e
        · cases e
        · rename_i h; rw [if_neg h]
theorem odd0_ok : ∀ d ∈ odd0, ∀ others, OddD others d := by
  intro d hd others
  unfold odd0 at hd
  simp only [List.mem_cons, List.not_mem_nil, or_false] at hd
  rcases hd with rfl | rfl | rfl | rfl | rfl | rfl | rfl | rfl | rfl
  all_goals exact ⟨⟨by decide +kernel, by decide +kernel, by decide +kernel, by decide +kernel⟩, by decide +kernel, .inl (by decide +kernel)⟩
theorem oddPB_ok : ∀ pb ∈ oddPB, Sh 40 2 pb.1 ∧ Sh 40 2 pb.2 ∧ sm1 pb.1 = true ∧ sm1 pb.2 = true ∧ fn3 (.str "a") pb.1 pb.2 = none := by
  intro pb hd
  unfold oddPB at hd
  simp only [List.mem_cons, List.not_mem_nil, or_false] at hd
  rcases hd with rfl | rfl | rfl | rfl | rfl | rfl | rfl | rfl | rfl
  all_goals exact ⟨⟨by decide +kernel, by decide +kernel, by decide +kernel, by decide +kernel⟩, ⟨by decide +kernel, by decide +kernel, by decide +kernel, by decide +kernel⟩, by decide +kernel, by decide +kernel, by decide +kernel⟩
theorem lw_sm {z : Str} (h : LW z) : sm1 (.str z) = true := by
  have : smD (.str z) = true := decide_eq_true (Nat.le_trans h.2.1 (by decide))
  unfold sm1
  rw [this]
  rfl
theorem oddPB_name {nm : Str} {others : List Str} (h : LW nm) : ∀ pb ∈ oddPB, OddD others (.tuple [.str nm, pb.1, pb.2]) := fun pb hp => by
  obtain ⟨a, b, c, d, e⟩ := oddPB_ok pb hp
  refine ⟨(sh_tup (shA_cons (sh_lw h) (shA_cons a (shA_cons b (shA_nil (n := 0)))))).le (by omega) (by omega), ?_, .inl (fn3_name h e)⟩
  unfold sm2
  show (smD _ && (sm1 (.str nm) && (sm1 pb.1 && (sm1 pb.2 && true)))) = true
  rw [lw_sm h, c, d]
  rfl
theorem odd_few {nm : Str} {others : List Str} (h : LW nm) : OddD others (.tuple [.str nm]) ∧ OddD others (.tuple [.str nm, .tuple []]) ∧ OddD others (.tuple [.str nm, .tuple [], .tuple [], .tuple []]) := by
  have t0 : Sh 0 1 (.tuple []) := sh_tup shA_nil
  refine ⟨⟨(sh_tup (shA_cons (sh_lw h) (shA_nil (n := 0)))).le (by omega) (by omega : 0 + 1 ≤ 5), ?_, .inl rfl⟩, ⟨(sh_tup (shA_cons (sh_lw h) (shA_cons t0 (shA_nil (n := 0))))).le (by omega) (by omega), ?_, .inl rfl⟩, ⟨(sh_tup (shA_cons (sh_lw h) (shA_cons t0 (shA_cons t0 (shA_cons t0 (shA_nil (n := 0))))))).le (by omega) (by omega), ?_, .inl rfl⟩⟩
  · show (smD _ && (sm1 (.str nm) && true)) = true
    rw [lw_sm h]
    rfl
  · show (smD _ && (sm1 (.str nm) && (sm1 (.tuple []) && true))) = true
    rw [lw_sm h]
    rfl
  · show (smD _ && (sm1 (.str nm) && (sm1 (.tuple []) && (sm1 (.tuple []) && (sm1 (.tuple []) && true))))) = true
    rw [lw_sm h]
    rfl
theorem odd_other {z : Str} {others : List Str} (h : LW z) (hz : z ∈ others) : OddD others (.tuple [.str z, .tuple [], .tuple []]) := by
  have t0 : Sh 0 1 (.tuple []) := sh_tup shA_nil
  refine ⟨(sh_tup (shA_cons (sh_lw h) (shA_cons t0 (shA_cons t0 (shA_nil (n := 0)))))).le (by omega) (by omega), ?_, .inr ⟨z, hz, ?_⟩⟩
  · show (smD _ && (sm1 (.str z) && (sm1 (.tuple []) && (sm1 (.tuple []) && true)))) = true
    rw [lw_sm h]
    rfl
  · show (if fnOk z [] = true then some (z, [], []) else none) = some (z, [], [])
    refine if_pos ?_
    unfold fnOk
    rw [name_of h]
    rfl
end Q9
end
-- QOddF
section
set_option maxRecDepth 100000
set_option maxHeartbeats 4000000
namespace Q9
open PySem L2
/-! what is no function, drawn -/
def spOddF (K : PySem.W.Frag) : Sp := fun vs H Q _ => ∃ (l o : Addr) (nm : Str) (others : List Str), vs = [.ref l, .str nm, .ref o] ∧ Well H l ∧ LW nm ∧ H o = some (.lst (others.map V.str)) ∧ o ≠ l ∧ others.length ≤ 10 ∧ (∀ z ∈ others, LW z) ∧
  ∀ (H' : Hp) (v : V) (d : PyData), But l H H' → Well H' l → Dz (del H' l) v d → OddD others d → Q v H'
abbrev ofN : List Str := ["_law_well", "_law_name", "_law_others", "_law_some", "_law_other"]
theorem scOf : FnScope ofN ["_law_well", "_law_name", "_law_others"] (defScope sOddF) := ⟨rfl, rfl, rfl, by decide +kernel, rfl, by decide +kernel, by decide +kernel⟩
structure TOdd (K : PySem.W.Frag) (mg : Str → Option Value) (fP : Addr) : Prop where
  gP : mg "_law_pick" = some (.ref fP)
  kP : PySem.W.keepIn K (.ref fP) = true
def dOther (z : Str) : PyData := .tuple [.str z, .tuple [], .tuple []]
section
variable {P : Program} {w : World} {K : PySem.W.Frag} {mg : Str → Option Value} {base : Heap} {fP : Addr}
theorem ok_oddF {f : Addr} {fd dP : FuncData} (F : Fun K "_law_odd_function" "_law_odd_function" sOddF f fd) (T : TOdd K mg fP)
    (GP : FnOk P w K mg base CX0 2 fP dP ["_law_well", "_law_some"] (spPickL K)) (bP : Binds K dP ["_law_well", "_law_some"] []) : FnOk P w K mg base CX0 3 f fd ["_law_well", "_law_name", "_law_others"] (spOddF K) := by
  refine F.ok scOf (fun vs H Q E h => ?_) (fun cdv A0 outer s H vs Q E hr h => ?_)
  · obtain ⟨l, o, nm, others, rfl, _⟩ := h
    rfl
  · obtain ⟨l, o, nm, others, rfl, wl, hn, ho, nol, few, hoth, q⟩ := h
    refine ⟨_, pss_cons (ps_set (i := 3) scOf.nd rfl (.inl rfl) (pe_lst (pa_cons pe_non (pa_cons pe_int (pa_cons pe_str (pa_cons (pe_tup pa_nil) (pa_cons (pe_tup (pa_cons (pv 1) pa_nil)) (pa_cons (pe_tup (pa_cons (pv 1) (pa_cons (pe_tup pa_nil) pa_nil))) (pa_cons (pe_tup (pa_cons (pv 1) (pa_cons (pe_tup pa_nil) (pa_cons (pe_tup pa_nil) (pa_cons (pe_tup pa_nil) pa_nil))))) (pa_cons (pe_tup (pa_cons pe_str (pa_cons (pe_tup pa_nil) (pa_cons (pe_tup pa_nil) pa_nil)))) (pa_cons (pe_tup (pa_cons pe_str (pa_cons (pe_tup pa_nil) (pa_cons (pe_tup pa_nil) pa_nil)))) pa_nil)))))))))))
      (pss_cons (ps_set (i := 3) scOf.nd rfl (.inl rfl) (pe_op op_cat (pv 3) (pe_lst (pa_cons (pe_tup (pa_cons (pv 1) (pa_cons pe_non (pa_cons (pe_tup pa_nil) pa_nil)))) (pa_cons (pe_tup (pa_cons (pv 1) (pa_cons pe_str (pa_cons (pe_tup pa_nil) pa_nil)))) (pa_cons (pe_tup (pa_cons (pv 1) (pa_cons (pe_tup (pa_cons pe_str (pa_cons pe_str pa_nil))) (pa_cons (pe_tup pa_nil) pa_nil)))) (pa_cons (pe_tup (pa_cons (pv 1) (pa_cons (pe_tup (pa_cons pe_str pa_nil)) (pa_cons (pe_tup pa_nil) pa_nil)))) (pa_cons (pe_tup (pa_cons (pv 1) (pa_cons (pe_tup (pa_cons pe_int pa_nil)) (pa_cons (pe_tup pa_nil) pa_nil)))) pa_nil))))))))
      (pss_cons (ps_set (i := 3) scOf.nd rfl (.inl rfl) (pe_op op_cat (pv 3) (pe_lst (pa_cons (pe_tup (pa_cons (pv 1) (pa_cons (pe_tup (pa_cons pe_str (pa_cons pe_str (pa_cons pe_str (pa_cons pe_str pa_nil))))) (pa_cons (pe_tup pa_nil) pa_nil)))) (pa_cons (pe_tup (pa_cons (pv 1) (pa_cons (pe_tup pa_nil) (pa_cons pe_non pa_nil)))) (pa_cons (pe_tup (pa_cons (pv 1) (pa_cons (pe_tup pa_nil) (pa_cons pe_str pa_nil)))) (pa_cons (pe_tup (pa_cons (pv 1) (pa_cons (pe_tup pa_nil) (pa_cons pe_dnewT pa_nil)))) (pa_cons pe_dnewT pa_nil))))))))
      (pss_cons (ps_set (i := 3) scOf.nd rfl (.inl rfl) (pe_op op_cat (pv 3) (pe_lc (te := tTup (tCons (tVar 4) (tCons (tTup tNil) (tCons (tTup tNil) tNil)))) (own := [("_law_other", 4)]) (g := gName 4) (tt := tYes) rfl scOf.nd (pi_list (pv 2)) (blkOk_by (own := [("_law_other", 4)]) (N := ofN) (sc := defScope sOddF) (by decide +kernel))
          (fun _ _ _ _ _ => pg_name (i := 4) scOf.nd rfl (.inl rfl)) (fun _ _ _ _ _ => pts_nil) (fun _ _ _ _ _ => pe_tup (pa_cons (pv 4) (pa_cons (pe_tup pa_nil) (pa_cons (pe_tup pa_nil) pa_nil)))))))
      (pss_one (ps_ret (pe_call GP (hr.mono (by omega)) (by rfl) T.gP T.kP bP .nil pass0 (pa_cons (pv 0) (pa_cons (pe_op op_cat (pv 3) (pe_lst (pa_cons (pe_lst (pa_cons (pe_lst pa_nil) (pa_cons (pe_lst pa_nil) (pa_cons (pe_lst pa_nil) pa_nil)))) (pa_cons (pe_tup (pa_cons pe_non (pa_cons (pe_tup pa_nil) (pa_cons (pe_tup pa_nil) pa_nil)))) pa_nil)))) pa_nil)))))))), ?_⟩
    obtain ⟨w1, w2, w3, el, _⟩ := id wl
    have A : Aside H (fun H => del H l) := aside1 el
    have D1 : ∀ d ∈ ([.none, .int 5, .str "main", .tuple [], .tuple [.str nm], .tuple [.str nm, .tuple []], .tuple [.str nm, .tuple [], .tuple [], .tuple []], .tuple [.str "Main", .tuple [], .tuple []], .tuple [.str "", .tuple [], .tuple []]] : List PyData), OddD others d := by
      obtain ⟨f1, f2, f3⟩ := odd_few (others := others) hn
      intro d hd
      simp only [List.mem_cons, List.not_mem_nil, or_false] at hd
      rcases hd with rfl | rfl | rfl | rfl | rfl | rfl | rfl | rfl | rfl
      all_goals first | exact f1 | exact f2 | exact f3 | exact odd0_ok _ (by simp [odd0]) others
    have D2 : ∀ d ∈ ([.tuple [.str nm, .none, .tuple []], .tuple [.str nm, .str "x", .tuple []], .tuple [.str nm, .tuple [.str "x", .str "x"], .tuple []], .tuple [.str nm, .tuple [.str "X"], .tuple []], .tuple [.str nm, .tuple [.int 5], .tuple []]] : List PyData), OddD others d := by
      intro d hd
      simp only [List.mem_cons, List.not_mem_nil, or_false] at hd
      rcases hd with rfl | rfl | rfl | rfl | rfl
      · exact oddPB_name hn (.none, .tuple []) (by simp [oddPB])
      · exact oddPB_name hn (.str "x", .tuple []) (by simp [oddPB])
      · exact oddPB_name hn (.tuple [.str "x", .str "x"], .tuple []) (by simp [oddPB])
      · exact oddPB_name hn (.tuple [.str "X"], .tuple []) (by simp [oddPB])
      · exact oddPB_name hn (.tuple [.int 5], .tuple []) (by simp [oddPB])
    have D3 : ∀ d ∈ ([.tuple [.str nm, .tuple [.str "a", .str "b", .str "c", .str "d"], .tuple []], .tuple [.str nm, .tuple [], .none], .tuple [.str nm, .tuple [], .str "wait"], .tuple [.str nm, .tuple [], .dict []], .dict []] : List PyData), OddD others d := by
      intro d hd
      simp only [List.mem_cons, List.not_mem_nil, or_false] at hd
      rcases hd with rfl | rfl | rfl | rfl | rfl
      · exact oddPB_name hn (.tuple [.str "a", .str "b", .str "c", .str "d"], .tuple []) (by simp [oddPB])
      · exact oddPB_name hn (.tuple [], .none) (by simp [oddPB])
      · exact oddPB_name hn (.tuple [], .str "wait") (by simp [oddPB])
      · exact oddPB_name hn (.tuple [], .dict []) (by simp [oddPB])
      · exact odd0_ok _ (by simp [odd0]) others
    have D4 : ∀ d ∈ others.map dOther, OddD others d := by
      intro d hd
      obtain ⟨z, hz, rfl⟩ := List.mem_map.mp hd
      exact odd_other (hoth z hz) hz
    have D5 : ∀ d ∈ ([.list [.list [], .list [], .list []], .tuple [.none, .tuple [], .tuple []]] : List PyData), OddD others d := by
      intro d hd
      simp only [List.mem_cons, List.not_mem_nil, or_false] at hd
      rcases hd with rfl | rfl
      all_goals exact odd0_ok _ (by simp [odd0]) others
    have l1 : (([.none, .int 5, .str "main", .tuple [], .tuple [.str nm], .tuple [.str nm, .tuple []], .tuple [.str nm, .tuple [], .tuple [], .tuple []], .tuple [.str "Main", .tuple [], .tuple []], .tuple [.str "", .tuple [], .tuple []]] : List PyData)).length = 9 := rfl
    have l2 : (([.tuple [.str nm, .none, .tuple []], .tuple [.str nm, .str "x", .tuple []], .tuple [.str nm, .tuple [.str "x", .str "x"], .tuple []], .tuple [.str nm, .tuple [.str "X"], .tuple []], .tuple [.str nm, .tuple [.int 5], .tuple []]] : List PyData)).length = 5 := rfl
    have l3 : (([.tuple [.str nm, .tuple [.str "a", .str "b", .str "c", .str "d"], .tuple []], .tuple [.str nm, .tuple [], .none], .tuple [.str nm, .tuple [], .str "wait"], .tuple [.str nm, .tuple [], .dict []], .dict []] : List PyData)).length = 5 := rfl
    have l5 : (([.list [.list [], .list [], .list []], .tuple [.none, .tuple [], .tuple []]] : List PyData)).length = 2 := rfl
    refine seq_lit (f := fun H => del H l) (.list ([.none, .int 5, .str "main", .tuple [], .tuple [.str nm], .tuple [.str nm, .tuple []], .tuple [.str nm, .tuple [], .tuple [], .tuple []], .tuple [.str "Main", .tuple [], .tuple []], .tuple [.str "", .tuple [], .tuple []]] : List PyData)) ?_ fun v1 H1 s1 z1 => ?_
    · exact (lit_lst A (litA_cons A (lit_c fun _ => .non) (litA_cons A (lit_c fun _ => .int 5) (litA_cons A (lit_c fun _ => .str _) (litA_cons A (lit_tup A litA_nil (Nat.le_of_ble_eq_true rfl)) (litA_cons A (lit_tup A (litA_cons A (lit_var A rfl (.str nm)) litA_nil) (Nat.le_of_ble_eq_true rfl)) (litA_cons A (lit_tup A (litA_cons A (lit_var A rfl (.str nm)) (litA_cons A (lit_tup A litA_nil (Nat.le_of_ble_eq_true rfl)) litA_nil)) (Nat.le_of_ble_eq_true rfl)) (litA_cons A (lit_tup A (litA_cons A (lit_var A rfl (.str nm)) (litA_cons A (lit_tup A litA_nil (Nat.le_of_ble_eq_true rfl)) (litA_cons A (lit_tup A litA_nil (Nat.le_of_ble_eq_true rfl)) (litA_cons A (lit_tup A litA_nil (Nat.le_of_ble_eq_true rfl)) litA_nil)))) (Nat.le_of_ble_eq_true rfl)) (litA_cons A (lit_tup A (litA_cons A (lit_c fun _ => .str _) (litA_cons A (lit_tup A litA_nil (Nat.le_of_ble_eq_true rfl)) (litA_cons A (lit_tup A litA_nil (Nat.le_of_ble_eq_true rfl)) litA_nil))) (Nat.le_of_ble_eq_true rfl)) (litA_cons A (lit_tup A (litA_cons A (lit_c fun _ => .str _) (litA_cons A (lit_tup A litA_nil (Nat.le_of_ble_eq_true rfl)) (litA_cons A (lit_tup A litA_nil (Nat.le_of_ble_eq_true rfl)) litA_nil))) (Nat.le_of_ble_eq_true rfl)) litA_nil))))))))) (Nat.le_of_ble_eq_true rfl))
    have A1 : Aside H1 (fun H => del H l) := aside1 (s1 _ _ el)
    generalize hE1 : ([.none, .int 5, .str "main", .tuple [], .tuple [.str nm], .tuple [.str nm, .tuple []], .tuple [.str nm, .tuple [], .tuple [], .tuple []], .tuple [.str "Main", .tuple [], .tuple []], .tuple [.str "", .tuple [], .tuple []]] : List PyData) = E1 at z1 l1 D1
    dsimp only [gName]
    refine seq_lit (f := fun H => del H l) (.list (E1 ++ ([.tuple [.str nm, .none, .tuple []], .tuple [.str nm, .str "x", .tuple []], .tuple [.str nm, .tuple [.str "x", .str "x"], .tuple []], .tuple [.str nm, .tuple [.str "X"], .tuple []], .tuple [.str nm, .tuple [.int 5], .tuple []]] : List PyData))) ?_ fun v2 H2 s2 z2 => ?_
    · exact lit_cat A1 (lit_var A1 rfl z1) (lit_lst A1 (litA_cons A1 (lit_tup A1 (litA_cons A1 (lit_var A1 rfl (.str nm)) (litA_cons A1 (lit_c fun _ => .non) (litA_cons A1 (lit_tup A1 litA_nil (Nat.le_of_ble_eq_true rfl)) litA_nil))) (Nat.le_of_ble_eq_true rfl)) (litA_cons A1 (lit_tup A1 (litA_cons A1 (lit_var A1 rfl (.str nm)) (litA_cons A1 (lit_c fun _ => .str _) (litA_cons A1 (lit_tup A1 litA_nil (Nat.le_of_ble_eq_true rfl)) litA_nil))) (Nat.le_of_ble_eq_true rfl)) (litA_cons A1 (lit_tup A1 (litA_cons A1 (lit_var A1 rfl (.str nm)) (litA_cons A1 (lit_tup A1 (litA_cons A1 (lit_c fun _ => .str _) (litA_cons A1 (lit_c fun _ => .str _) litA_nil)) (Nat.le_of_ble_eq_true rfl)) (litA_cons A1 (lit_tup A1 litA_nil (Nat.le_of_ble_eq_true rfl)) litA_nil))) (Nat.le_of_ble_eq_true rfl)) (litA_cons A1 (lit_tup A1 (litA_cons A1 (lit_var A1 rfl (.str nm)) (litA_cons A1 (lit_tup A1 (litA_cons A1 (lit_c fun _ => .str _) litA_nil) (Nat.le_of_ble_eq_true rfl)) (litA_cons A1 (lit_tup A1 litA_nil (Nat.le_of_ble_eq_true rfl)) litA_nil))) (Nat.le_of_ble_eq_true rfl)) (litA_cons A1 (lit_tup A1 (litA_cons A1 (lit_var A1 rfl (.str nm)) (litA_cons A1 (lit_tup A1 (litA_cons A1 (lit_c fun _ => .int 5) litA_nil) (Nat.le_of_ble_eq_true rfl)) (litA_cons A1 (lit_tup A1 litA_nil (Nat.le_of_ble_eq_true rfl)) litA_nil))) (Nat.le_of_ble_eq_true rfl)) litA_nil))))) (Nat.le_of_ble_eq_true rfl)) (by rw [l1, l2]; decide)
    have A2 : Aside H2 (fun H => del H l) := aside1 (s2 _ _ (s1 _ _ el))
    generalize hE2 : ([.tuple [.str nm, .none, .tuple []], .tuple [.str nm, .str "x", .tuple []], .tuple [.str nm, .tuple [.str "x", .str "x"], .tuple []], .tuple [.str nm, .tuple [.str "X"], .tuple []], .tuple [.str nm, .tuple [.int 5], .tuple []]] : List PyData) = E2 at z2 l2 D2
    dsimp only [gName]
    refine seq_lit (f := fun H => del H l) (.list (E1 ++ E2 ++ ([.tuple [.str nm, .tuple [.str "a", .str "b", .str "c", .str "d"], .tuple []], .tuple [.str nm, .tuple [], .none], .tuple [.str nm, .tuple [], .str "wait"], .tuple [.str nm, .tuple [], .dict []], .dict []] : List PyData))) ?_ fun v3 H3 s3 z3 => ?_
    · exact lit_cat A2 (lit_var A2 rfl z2) (lit_lst A2 (litA_cons A2 (lit_tup A2 (litA_cons A2 (lit_var A2 rfl (.str nm)) (litA_cons A2 (lit_tup A2 (litA_cons A2 (lit_c fun _ => .str _) (litA_cons A2 (lit_c fun _ => .str _) (litA_cons A2 (lit_c fun _ => .str _) (litA_cons A2 (lit_c fun _ => .str _) litA_nil)))) (Nat.le_of_ble_eq_true rfl)) (litA_cons A2 (lit_tup A2 litA_nil (Nat.le_of_ble_eq_true rfl)) litA_nil))) (Nat.le_of_ble_eq_true rfl)) (litA_cons A2 (lit_tup A2 (litA_cons A2 (lit_var A2 rfl (.str nm)) (litA_cons A2 (lit_tup A2 litA_nil (Nat.le_of_ble_eq_true rfl)) (litA_cons A2 (lit_c fun _ => .non) litA_nil))) (Nat.le_of_ble_eq_true rfl)) (litA_cons A2 (lit_tup A2 (litA_cons A2 (lit_var A2 rfl (.str nm)) (litA_cons A2 (lit_tup A2 litA_nil (Nat.le_of_ble_eq_true rfl)) (litA_cons A2 (lit_c fun _ => .str _) litA_nil))) (Nat.le_of_ble_eq_true rfl)) (litA_cons A2 (lit_tup A2 (litA_cons A2 (lit_var A2 rfl (.str nm)) (litA_cons A2 (lit_tup A2 litA_nil (Nat.le_of_ble_eq_true rfl)) (litA_cons A2 (lit_dic A2) litA_nil))) (Nat.le_of_ble_eq_true rfl)) (litA_cons A2 (lit_dic A2) litA_nil))))) (Nat.le_of_ble_eq_true rfl)) (by rw [List.length_append, l1, l2, l3]; decide)
    have sH3 : Same H H3 := fun b u z => s3 _ _ (s2 _ _ (s1 _ _ z))
    have A3 : Aside H3 (fun H => del H l) := aside1 (sH3 _ _ el)
    generalize hE3 : ([.tuple [.str nm, .tuple [.str "a", .str "b", .str "c", .str "d"], .tuple []], .tuple [.str nm, .tuple [], .none], .tuple [.str nm, .tuple [], .str "wait"], .tuple [.str nm, .tuple [], .dict []], .dict []] : List PyData) = E3 at z3 l3 D3
    clear A1 A2 z1 z2 s1 s2 s3
    dsimp only [gName]
    refine seq_lit (f := fun H => del H l) (.list (E1 ++ E2 ++ E3 ++ others.map dOther)) ?_ fun v4 H4 s4 z4 => ?_
    · refine lit_cat A3 (lit_var A3 rfl z3) ?_ (by rw [List.length_append, List.length_append, List.length_map, l1, l2, l3]; omega)
      intro Hc Qc sc qc
      have hoc := sc _ _ (sH3 _ _ ho)
      have hlc := sc _ _ (sH3 _ _ el)
      refine ⟨_, rfl, o, rfl, ⟨_, .of hoc⟩, fun D hD => ?_⟩
      have nDl : D ≠ l := fun z => by rw [z, hlc] at hD; cases hD
      refine lc_list (K := K) (a := o) (xs := others.map V.str) (fun j H' => Same Hc H' ∧ ∃ ws, H' D = some (.lst ws) ∧ DzAll (del (del H' D) l) ws ((others.take j).map dOther)) ⟨same_upd hD, [], upd_same, .nil⟩ (fun j H' _ p => .of (p.1 _ _ hoc)) ?_ ?_
      · rintro j x H' hx ⟨sj, ws, hw, dj⟩
        rw [List.getElem?_map] at hx
        obtain ⟨z, hz, rfl⟩ := Option.map_eq_some_iff.mp hx
        have AD : Aside H' (fun H => del (del H D) l) := aside2 (sj _ _ hlc) hw
        refine ⟨rfl, ?_⟩
        dsimp only [tYes]
        rw [if_pos rfl]
        refine lit_run (f := fun H => del (del H D) l) (dOther z) ?_ fun v H2 s2 d2 => ?_
        · exact lit_tup AD (litA_cons AD (lit_var AD rfl (.str z)) (litA_cons AD (lit_tup AD litA_nil (Nat.zero_le _)) (litA_cons AD (lit_tup AD litA_nil (Nat.zero_le _)) litA_nil))) (Nat.le_of_ble_eq_true rfl)
        have lw := dzAll_len dj
        rw [List.length_map, List.length_take] at lw
        refine ⟨ws, s2 _ _ hw, by rw [PySem.sizeLine_eq]; omega, fun b u e => by rw [upd_ne (ne_of_none e hD)]; exact s2 _ _ (sj _ _ e), _, upd_same, ?_⟩
        rw [take_one_more hz, List.map_append]
        have kp : Same (del (del H2 D) l) (del (del (upd H2 D (.lst (ws ++ [v]))) D) l) := same_del del_upd
        exact dzAll_append (dzAll_same kp (dzAll_same (same_del (same_del s2)) dj)) (.cons (dz_same kp d2) .nil)
      · rintro H' ⟨sj, ws, hw, dj⟩
        rw [List.length_map, List.take_length] at dj
        refine qc (.ref D) H' sj (.lst (by show del H' l D = _; rw [del_ne nDl]; exact hw) (dzAll_same (same_del del_less) dj))
    have A4 : Aside H4 (fun H => del H l) := aside1 (s4 _ _ (sH3 _ _ el))
    dsimp only [gName]
    refine ⟨_, rfl, ?_⟩
    refine lit_run (f := fun H => del H l) (.list (E1 ++ E2 ++ E3 ++ others.map dOther ++ ([.list [.list [], .list [], .list []], .tuple [.none, .tuple [], .tuple []]] : List PyData))) ?_ fun v5 H5 s5 z5 => ?_
    · exact lit_cat A4 (lit_var A4 rfl z4) (lit_lst A4 (litA_cons A4 (lit_lst A4 (litA_cons A4 (lit_lst A4 litA_nil (Nat.le_of_ble_eq_true rfl)) (litA_cons A4 (lit_lst A4 litA_nil (Nat.le_of_ble_eq_true rfl)) (litA_cons A4 (lit_lst A4 litA_nil (Nat.le_of_ble_eq_true rfl)) litA_nil))) (Nat.le_of_ble_eq_true rfl)) (litA_cons A4 (lit_tup A4 (litA_cons A4 (lit_c fun _ => .non) (litA_cons A4 (lit_tup A4 litA_nil (Nat.le_of_ble_eq_true rfl)) (litA_cons A4 (lit_tup A4 litA_nil (Nat.le_of_ble_eq_true rfl)) litA_nil))) (Nat.le_of_ble_eq_true rfl)) litA_nil)) (Nat.le_of_ble_eq_true rfl)) (by rw [List.length_append, List.length_append, List.length_append, List.length_map, l1, l2, l3, l5]; omega)
    generalize hE5 : ([.list [.list [], .list [], .list []], .tuple [.none, .tuple [], .tuple []]] : List PyData) = E5 at z5 l5 D5
    cases z5 with
    | @lst m xs _ e5 a5 =>
      have sH5 : Same H H5 := fun b u z => s5 _ _ (s4 _ _ (sH3 _ _ z))
      have lx := dzAll_len a5
      simp only [List.length_append, List.length_map] at lx
      have wl5 : Well H5 l := by
        obtain ⟨x1, x2, x3, e, k⟩ := wl
        exact ⟨x1, x2, x3, sH5 _ _ e, k⟩
      refine ⟨l, m, xs, rfl, wl5, .of (del_less _ _ e5), (fun z => by rw [z, del_same] at e5; cases e5), by omega, by omega, fun i x u hx wu => ?_⟩
      obtain ⟨d, hd, dx⟩ := dzAll_mem a5 (List.mem_of_getElem? hx)
      refine q _ x d (fun b o n z => by rw [upd_ne n]; exact sH5 _ _ z) wu (dz_same del_upd dx) ?_
      simp only [List.mem_append] at hd
      rcases hd with (((hd | hd) | hd) | hd) | hd
      · exact D1 d hd
      · exact D2 d hd
      · exact D3 d hd
      · exact D4 d hd
      · exact D5 d hd
end
end Q9
end
-- QKinds7
section
set_option maxRecDepth 100000
set_option maxHeartbeats 8000000
namespace Q9
open PySem L2
/-! kinds without moves, made by their names -/
abbrev tKind (C CB : Addr) (K : PySem.W.Frag) : TE := tMake C (spKindG C CB K) [] E0 (tCons (tVar 17) (tCons (tC (.str "new")) (tCons (tLst tNil) (tCons tDNewT tNil))))
theorem plain_right {z : Str} (h : LW z) : RightParts z "new" [] [] ∧ Small "new" [] [] ∧ Fits "new" [] [] := by
  have one : statesIn "new" [] [] = [("new" : Str)] := rfl
  have no : methodsIn [] = [] := rfl
  have nw : wordsIn [] = [] := rfl
  refine ⟨⟨name_of h, by decide +kernel, fun z hz => (nomatch hz), List.nodup_nil, fun e he => (nomatch he), fun e he => (nomatch he), fun e he => (nomatch he)⟩, ⟨by rw [one]; decide, ?_, ?_, ?_⟩, fun e he => (nomatch he), fun ys nd sub => ?_, fun zs nd sub => ?_⟩
  · rw [one]; exact fewIn_of_len (by decide)
  · rw [no]; exact fewIn_of_len (by decide)
  · rw [nw]; exact fewIn_of_len (by decide)
  · rw [one] at sub
    exact Nat.le_trans (nodup_le ys [("new" : Str)] nd sub) (by decide)
  · rw [no] at sub
    exact Nat.le_trans (nodup_le zs [] nd sub) (by decide)
theorem kinds_it {C CB : Addr} {K : PySem.W.Frag} {J : It} {G : Hp → Prop} {ws : List Str} (wk : Walk J ws.length G (YAt (ws.map V.str))) {σ : L2.St} {H1 : Hp} {l D : Addr} {ls : List V} {Qd : Hp → Prop} (hl : H1 l = some (.lst ls)) (hD : H1 D = none)
    (hG : ∀ H', Same H1 H' → G H') (hσ : ∀ v, ((wipe σ [17]).set 17 (some v))[17]? = some (some v)) (hw : ∀ v : V, wipe ((wipe σ [17]).set 17 (some v)) [17] = wipe σ [17]) (lw : ∀ z ∈ ws, LW z) (len : ws.length ≤ 1000)
    (hd : ∀ H' vs, Same H1 H' → H' D = some (.lst vs) → Paired (KN C K (del H' l)) vs ws → Qd H') :
    ∃ W : Nat → Nat → Hp → Prop, (∃ m, W 0 m (upd H1 D (.lst []))) ∧ ∀ i m H, W i m H →
      (J.stop i H ∧ Qd H) ∨ (J.go i H ∧ ∃ Nx : Hp → Prop, (∀ H', Nx H' → ∃ m', m' < m ∧ W (i + 1) m' H') ∧ ∀ x H', J.yld i H x H' → gName 17 x (wipe σ [17]) H' fun σ2 H2 => wipe σ2 [17] = wipe σ [17] ∧ tYes σ2 H2 fun b H3 =>
        if b = true then tKind C CB K σ2 H3 fun y H4 => ∃ acc, H4 D = some (.lst acc) ∧ acc.length < sizeLine ∧ Nx (upd H4 D (.lst (acc ++ [y]))) else Nx H3) := by
  refine lc_it wk (fun i H' => Same H1 H' ∧ ∃ vs, H' D = some (.lst vs) ∧ Paired (KN C K (del (del H' D) l)) vs (ws.take i)) ⟨same_upd hD, [], upd_same, .nil⟩ (fun i H' _ p => hG _ p.1) ?_ ?_
  · rintro i x H2 H3 hi ⟨s2, vs, h2, pk⟩ ⟨rfl, hx⟩
    rw [List.getElem?_map] at hx
    obtain ⟨z, hz, rfl⟩ := Option.map_eq_some_iff.mp hx
    have lz := lw z (List.mem_of_getElem? hz)
    refine ⟨hw _, ?_⟩
    dsimp only [tYes]
    rw [if_pos rfl]
    refine ⟨_, hσ _, (by show 0 ≤ sizeLine; decide), fun e he m hm x dx n1 n2 ne => ?_⟩
    have se := same_upd (o := .lst []) he
    have sm := same_upd (o := .dT []) hm
    have u := made_up (C := C) n1 n2
    have hm' : upd (upd H3 e (.lst [])) m (.dT []) m = some (.dT []) := upd_same
    have he' := sm _ _ (show upd H3 e (.lst []) e = some (.lst []) from upd_same)
    have s3 : Same H3 (upd (upd (upd (upd H3 e (.lst [])) m (.dT [])) dx (.own x)) x (.ins C dx [])) := fun b o q => u _ _ (sm _ _ (se _ _ q))
    have free : ∀ {b : Addr} {o : HO}, upd (upd (upd (upd H3 e (.lst [])) m (.dT [])) dx (.own x)) x (.ins C dx []) b = none → H3 b = some o → False := fun {b o} h k => by rw [s3 _ _ k] at h; cases h
    obtain ⟨R, S, Ft⟩ := plain_right lz
    have M : MovesG K (upd (upd (upd (upd H3 e (.lst [])) m (.dT [])) dx (.own x)) x (.ins C dx [])) [] [] := ⟨List.nodup_nil, .nil⟩
    refine ⟨x, dx, m, z, "new", .ref e, [], [], [], rfl, upd_same, by rw [upd_ne ne, upd_same], ⟨e, rfl, .inl (.of (u _ _ he'))⟩, u _ _ hm', M, R, S, .inl ⟨Ft, fun H4 s me d bt kf f1 f2 f3 => ⟨rfl, ?_⟩⟩⟩
    have s4 : Same H3 H4 := fun b o q => bt _ _ (fun c => by
      have k := sm _ _ (se _ _ q)
      rw [c, n1] at k
      cases k) (s3 _ _ q)
    have hl3 := s2 _ _ hl
    have hD4 := s4 _ _ h2
    have hl4 := s4 _ _ hl3
    have lv : vs.length = (ws.take i).length := PySem.Paired.length pk
    rw [List.length_take] at lv
    refine ⟨vs, hD4, by rw [PySem.sizeLine_eq]; omega, fun b o q => by rw [upd_ne (ne_of_none q hD)]; exact s4 _ _ (s2 _ _ q), _, upd_same, ?_⟩
    rw [take_one_more hz]
    have kp : Same (del (del H4 D) l) (del (del (upd H4 D (.lst (vs ++ [.ref x]))) D) l) := same_del del_upd
    refine paired_append (L2.Paired.mapP pk fun _ _ h => kn_up kp (kn_up (same_del (same_del s4)) h)) (.cons (kn_up kp ?_) .nil)
    refine ⟨x, "new", [], [], rfl, KAf.kac (KAf.up (fun b o h a1 a2 => ?_) (fun b hb o h => ?_) kf)⟩
    · have b1 : b ≠ l := fun c => by rw [c, hl4] at h; exact a1 _ (Option.some.inj h).symm
      have b2 : b ≠ D := fun c => by rw [c, hD4] at h; exact a1 _ (Option.some.inj h).symm
      rw [del_ne b1, del_ne b2]
      exact h
    · have nb : ∀ {c : Addr} {u : HO}, H3 c = some u → b ≠ c := fun {c u} k e => by
        rcases hb with hb | hb | hb
        · rw [← e, hb] at k; exact free f1 k
        · rw [← e, hb] at k; exact free f2 k
        · rw [← e, hb] at k; exact free f3 k
      have b1 : b ≠ l := nb hl3
      have b2 : b ≠ D := nb h2
      rw [del_ne b1, del_ne b2]
      exact h
  · rintro H2 ⟨s2, vs, h2, pk⟩
    rw [List.take_length] at pk
    exact hd H2 vs s2 h2 (L2.Paired.mapP pk fun _ _ h => kn_up (same_del del_less) h)
end Q9
end
-- QFacts7
section
set_option maxRecDepth 100000
set_option maxHeartbeats 8000000
namespace Q9
open PySem L2
theorem new_ne {H : Hp} {l p : Addr} (h : Well H l) (n : H p = none) : p ≠ l := fun e => by
  obtain ⟨_, _, _, hl, _⟩ := h
  rw [e, hl] at n
  cases n
theorem well_same {H H' : Hp} {l : Addr} (s : Same H H') (h : Well H l) : Well H' l := by
  obtain ⟨a, b, c, e, r⟩ := h
  exact ⟨a, b, c, s _ _ e, r⟩
theorem lws_of {ws : List Str} (h : (ws.all fun z => decide (1 ≤ z.length) && (decide (z.length ≤ 8) && z.cps.toList.all fun c => decide (97 ≤ c) && decide (c < 123))) = true) : ∀ z ∈ ws, LW z := fun z hz => by
  have k := List.all_eq_true.mp h z hz
  simp only [Bool.and_eq_true, decide_eq_true_eq, List.all_eq_true] at k
  exact ⟨k.1, k.2.1, k.2.2⟩
theorem cut_take {xs : List V} {r : Int} (h : 0 ≤ r) : cutV xs none (some r) = xs.take r.toNat := by
  obtain ⟨k, rfl⟩ := Int.eq_ofNat_of_zero_le h
  unfold cutV
  rw [HT.sIx_none, show (some (k : Int)) = some ((k : Nat) : Int) from rfl, HT.sIx_nat, Nat.sub_zero, List.drop_zero, Int.toNat_natCast]
  by_cases c : k ≤ xs.length
  · rw [Nat.min_eq_left c]
  · rw [Nat.min_eq_right (by omega), List.take_of_length_le (by omega), List.take_of_length_le (by omega)]
theorem cut_13 {xs : List V} (h : 3 ≤ xs.length) : cutV xs (some 1) (some 3) = (xs.drop 1).take 2 := by
  unfold cutV
  rw [show (some (1 : Int)) = some (((1 : Nat)) : Int) from rfl, show (some (3 : Int)) = some (((3 : Nat)) : Int) from rfl, HT.sIx_nat, HT.sIx_nat, show min 1 xs.length = 1 by omega, show min 3 xs.length = 3 by omega]
/-! what stands through the law -/
structure KF (C : Addr) (K : PySem.W.Frag) (G : Hp) (kp : Addr) (kvs : List V) (ns : List Str) : Prop where
  at_ : G kp = some (.lst kvs)
  kn : Paired (KN C K G) kvs ns
  nd : ns.Nodup
  l1 : 1 ≤ ns.length
  l4 : ns.length ≤ 5
theorem KF.up {C : Addr} {K : PySem.W.Frag} {G G' : Hp} (s : Same G G') {kp : Addr} {kvs : List V} {ns : List Str} (h : KF C K G kp kvs ns) : KF C K G' kp kvs ns := ⟨s _ _ h.at_, L2.Paired.mapP h.kn fun _ _ => kn_up s, h.nd, h.l1, h.l4⟩
structure WF (G : Hp) (wp : Addr) (ws : List Str) : Prop where
  at_ : G wp = some (.lst (ws.map V.str))
  len : ws.length = 8
  nd : ws.Nodup
  lw : ∀ z ∈ ws, LW z
theorem WF.up {G G' : Hp} (s : Same G G') {wp : Addr} {ws : List Str} (h : WF G wp ws) : WF G' wp ws := ⟨s _ _ h.at_, h.len, h.nd, h.lw⟩
/-- a row of the law: a function by its name and its parameters -/
def rowB : PyData := .list [.tuple [.str "wait"]]
def dRow (z : Str) (ps : List Str) : PyData := .tuple [.str z, .list (ps.map .str), rowB]
def dMain : PyData := .tuple [.str "main", .list [], .tuple []]
def dOf (t : Str × List Str) : PyData := if t.1 = "main" then dMain else dRow t.1 t.2
structure RowsOk (ws : List Str) (ts : List (Str × List Str)) : Prop where
  nd : (ts.map (·.1)).Nodup
  mps : ∀ t ∈ ts, t.1 = "main" → t.2 = []
  lw : ∀ t ∈ ts, LW t.1
  mem : ∀ t ∈ ts, t.1 = "main" ∨ t.1 ∈ ws
  ps : ∀ t ∈ ts, t.2.Nodup ∧ t.2.length ≤ 3 ∧ ∀ z ∈ t.2, LW z
  len : ts.length ≤ 6
structure RF3 (G : Hp) (rp : Addr) (rvs : List V) (ws : List Str) (ts : List (Str × List Str)) : Prop where
  at_ : G rp = some (.lst rvs)
  dz : DzAll G rvs (ts.map dOf)
  ok : RowsOk ws ts
theorem RF3.up {G G' : Hp} (s : Same G G') {rp : Addr} {rvs : List V} {ws : List Str} {ts : List (Str × List Str)} (h : RF3 G rp rvs ws ts) : RF3 G' rp rvs ws ts := ⟨s _ _ h.at_, dzAll_same s h.dz, h.ok⟩
theorem lw_main : LW "main" := ⟨by decide +kernel, by decide +kernel, by decide +kernel⟩
theorem texts_strs : ∀ ps : List Str, textsD (ps.map PyData.str) = some ps
  | [] => rfl
  | z :: ps => by
    rw [List.map_cons]
    unfold textsD
    rw [texts_strs ps]
    rfl
/-- what a row tells -/
def trOf (t : Str × List Str) : Str × List Str × List PyData := (t.1, t.2, if t.1 = "main" then [] else [.tuple [.str "wait"]])
theorem fn_of_row {t : Str × List Str} (lw : LW t.1) (mps : t.1 = "main" → t.2 = []) (ps : t.2.Nodup ∧ t.2.length ≤ 3 ∧ ∀ z ∈ t.2, LW z) : fnD (dOf t) = some (trOf t) := by
  have ok : fnOk t.1 t.2 = true := by
    unfold fnOk
    rw [name_of lw, List.all_eq_true.mpr fun z hz => name_of (ps.2.2 z hz), decide_eq_true ps.1, decide_eq_true ps.2.1]
    rfl
  unfold dOf trOf
  by_cases c : t.1 = "main"
  · rw [if_pos c, if_pos c, mps c, c]
    show (if fnOk "main" [] = true then some (("main" : Str), ([] : List Str), ([] : List PyData)) else none) = _
    exact if_pos (by decide +kernel)
  · rw [if_neg c, if_neg c]
    show fn3 (.str t.1) (.list (t.2.map .str)) rowB = _
    unfold fn3
    show (match textsD (t.2.map PyData.str) with | some zs => if fnOk t.1 zs = true then some (t.1, zs, [PyData.tuple [.str "wait"]]) else none | none => none) = _
    rw [texts_strs]
    exact if_pos ok
theorem dOf_row {z : Str} {ps : List Str} (h : z ≠ "main") : dOf (z, ps) = dRow z ps := if_neg h
theorem map_rows {ts : List (Str × List Str)} (h : ∀ t ∈ ts, t.1 ≠ "main") : ts.map dOf = ts.map fun t => dRow t.1 t.2 := List.map_congr_left fun t ht => dOf_row (h t ht)
/-- main put in anywhere -/
theorem rows_ok {ws nms : List Str} {tb : List (Str × List Str)} (k : Nat) (wn : ws.Nodup) (wl : ∀ z ∈ ws, LW z) (sub : nms.Sublist (ws.filter fun z => decide (z ≠ "main"))) (len : nms.length ≤ 5) (e : tb.map (·.1) = nms) (ps : ∀ t ∈ tb, ∃ j ≤ 3, t.2 = ws.take j) :
    RowsOk ws (tb.take k ++ [(("main" : Str), ([] : List Str))] ++ tb.drop k) ∧ (∀ t ∈ tb, t.1 ≠ "main") := by
  have nn : nms.Nodup := sub.nodup (List.Pairwise.filter _ wn)
  have nm : ∀ t ∈ tb, t.1 ∈ ws ∧ t.1 ≠ "main" := fun t ht => by
    have := sub.subset (e ▸ List.mem_map.mpr ⟨t, ht, rfl⟩)
    rw [List.mem_filter] at this
    exact ⟨this.1, by simpa using this.2⟩
  have mem : ∀ t ∈ tb.take k ++ [(("main" : Str), ([] : List Str))] ++ tb.drop k, t = (("main" : Str), ([] : List Str)) ∨ t ∈ tb := fun t ht => by
    rw [List.mem_append, List.mem_append, List.mem_singleton] at ht
    rcases ht with (h | h) | h
    · exact .inr (List.mem_of_mem_take h)
    · exact .inl h
    · exact .inr (List.mem_of_mem_drop h)
  have lw : LW "main" := lw_main
  have pm : (tb.take k ++ [(("main" : Str), ([] : List Str))] ++ tb.drop k).Perm (("main", []) :: tb) := by
    have h1 : (tb.take k ++ [(("main" : Str), ([] : List Str))] ++ tb.drop k).Perm ([(("main" : Str), ([] : List Str))] ++ tb.take k ++ tb.drop k) := List.Perm.append_right _ List.perm_append_comm
    have h2 : [(("main" : Str), ([] : List Str))] ++ tb.take k ++ tb.drop k = (("main" : Str), ([] : List Str)) :: tb := by rw [List.append_assoc, List.take_append_drop]; rfl
    rw [h2] at h1
    exact h1
  have lt : tb.length ≤ 5 := by rw [← e, List.length_map] at len; exact len
  refine ⟨⟨?_, fun t ht c => ?_, fun t ht => ?_, fun t ht => ?_, fun t ht => ?_, ?_⟩, fun t ht => (nm t ht).2⟩
  · rw [(pm.map (·.1)).nodup_iff, List.map_cons, List.nodup_cons, e]
    refine ⟨fun h => ?_, nn⟩
    rw [← e] at h
    obtain ⟨t, ht, c⟩ := List.mem_map.mp h
    exact (nm t ht).2 c
  · rcases mem t ht with rfl | h
    · rfl
    · exact ((nm t h).2 c).elim
  · rcases mem t ht with rfl | h
    · exact lw
    · exact wl _ (nm t h).1
  · rcases mem t ht with rfl | h
    · exact .inl rfl
    · exact .inr (nm t h).1
  · rcases mem t ht with rfl | h
    · exact ⟨List.nodup_nil, Nat.zero_le _, fun z hz => nomatch hz⟩
    · obtain ⟨j, hj, ej⟩ := ps t h
      rw [ej]
      exact ⟨(List.take_sublist _ _).nodup wn, Nat.le_trans (List.length_take_le _ _) hj, fun z hz => wl z (List.mem_of_mem_take hz)⟩
  · rw [pm.length_eq, List.length_cons]
    omega
section
variable {C : Addr} {K : PySem.W.Frag} {H : Hp}
theorem rights : ∀ {ds : List PyData} {vs : List V} {tr : List (Str × List Str × List PyData)}, DzAll H vs ds → Paired (fun d t => fnD d = some t) ds tr →
    ∃ fs, Paired (RightF K H) vs fs ∧ Paired (fun (f : FP) (t : Str × List Str × List PyData) => f.nm = t.1 ∧ f.ps = t.2.1 ∧ ∃ v2, Row K H f.body v2 ∧ DzAll H v2 t.2.2) fs tr
  | _, _, _, h, .nil => by cases h; exact ⟨[], .nil, .nil⟩
  | _, _, _, h, .cons e t => by
    cases h with
    | cons h1 h2 =>
      obtain ⟨f, r, a, b, c⟩ := right_of (K := K) h1 e
      obtain ⟨fs, p, q⟩ := rights h2 t
      exact ⟨f :: fs, .cons r p, .cons ⟨a, b, c⟩ q⟩
theorem names_eq {fs : List FP} {tr : List (Str × List Str × List PyData)} (p : Paired (fun (f : FP) (t : Str × List Str × List PyData) => f.nm = t.1 ∧ f.ps = t.2.1 ∧ ∃ v2, Row K H f.body v2 ∧ DzAll H v2 t.2.2) fs tr) : fs.map (·.nm) = tr.map (·.1) := by
  induction p with
  | nil => rfl
  | cons h t ih => rw [List.map_cons, List.map_cons, ih, h.1]
theorem paired_mem {α β : Type} {R : α → β → Prop} {l : List α} {m : List β} (p : Paired R l m) : ∀ x ∈ l, ∃ y ∈ m, R x y := by
  induction p with
  | nil => exact fun x hx => nomatch hx
  | cons h t ih =>
    intro x hx
    rcases List.mem_cons.mp hx with rfl | hx
    · exact ⟨_, List.mem_cons_self, h⟩
    · obtain ⟨y, hy, r⟩ := ih x hx
      exact ⟨y, List.mem_cons_of_mem _ hy, r⟩
theorem paired_mem2 {α β : Type} {R : α → β → Prop} {l : List α} {m : List β} (p : Paired R l m) : ∀ y ∈ m, ∃ x ∈ l, R x y := by
  induction p with
  | nil => exact fun x hx => nomatch hx
  | cons h t ih =>
    intro x hx
    rcases List.mem_cons.mp hx with rfl | hx
    · exact ⟨_, List.mem_cons_self, h⟩
    · obtain ⟨y, hy, r⟩ := ih x hx
      exact ⟨y, List.mem_cons_of_mem _ hy, r⟩
def bodyD (bs : List PyData) : Prop := bs = [] ∨ bs = [.tuple [.str "wait"]]
theorem body_of {v : V} {v2 : List V} {bs : List PyData} (r : Row K H v v2) (d : DzAll H v2 bs) (b : bodyD bs) : BodyOk K H v := by
  rcases b with rfl | rfl
  · cases d; exact .inl r
  · cases d with
    | cons h1 h2 =>
      cases h2
      cases h1 with
      | tup e a =>
        cases a with
        | cons a1 a2 =>
          cases a1
          cases a2
          exact .inr ⟨_, r, e⟩
theorem prog_right {k f : V} {ns : List Str} {vs : List V} {ds : List PyData} {tr : List (Str × List Str × List PyData)} {b : List PyData} (hK : Kinds C K H k (some ns)) (row : Row K H f vs) (dz : DzAll H vs ds) (p : Paired (fun d t => fnD d = some t) ds tr) (nd : (tr.map (·.1)).Nodup)
    (l6 : ds.length ≤ 6) (m : (("main" : Str), ([] : List Str), b) ∈ tr) (bo : ∀ t ∈ tr, bodyD t.2.2) : ProgR C K H k f none := by
  obtain ⟨fs, p1, p2⟩ := rights (K := K) dz p
  obtain ⟨g, hg, e1, e2, _⟩ := paired_mem2 p2 _ m
  refine .right hK row (by rw [dzAll_len dz]; exact l6) p1 (by rw [names_eq p2]; exact nd) hg e1 e2 fun g hg => ?_
  obtain ⟨t, ht, _, _, v2, r2, d2⟩ := paired_mem p2 g hg
  exact body_of r2 d2 (bo t ht)
theorem prog_main {k f : V} {ns : List Str} {vs : List V} {ds : List PyData} {tr : List (Str × List Str × List PyData)} (hK : Kinds C K H k (some ns)) (row : Row K H f vs) (dz : DzAll H vs ds) (p : Paired (fun d t => fnD d = some t) ds tr) (nd : (tr.map (·.1)).Nodup)
    (l1 : 1 ≤ ds.length) (l6 : ds.length ≤ 6) (m : ∀ t ∈ tr, t.1 = "main" → t.2.1 ≠ []) : ProgR C K H k f (some []) := by
  obtain ⟨fs, p1, p2⟩ := rights (K := K) dz p
  refine .main hK row (by rw [dzAll_len dz]; exact l1) (by rw [dzAll_len dz]; exact l6) p1 (by rw [names_eq p2]; exact nd) fun g hg e => ?_
  obtain ⟨t, ht, e1, e2, _⟩ := paired_mem p2 g hg
  rw [e2]
  exact m t ht (e1.symm.trans e)
theorem prog_bad {k f : V} {ns : List Str} {vs : List V} {ds es : List PyData} {d : PyData} {tr : List (Str × List Str × List PyData)} (hK : Kinds C K H k (some ns)) (row : Row K H f vs) (dz : DzAll H vs (ds ++ d :: es)) (p : Paired (fun d t => fnD d = some t) ds tr) (nd : (tr.map (·.1)).Nodup)
    (l6 : (ds ++ d :: es).length ≤ 6) (bad : sm2 d = true ∧ (fnD d = none ∨ ∃ z y b, z ∈ tr.map (·.1) ∧ fnD d = some (z, y, b))) : ProgR C K H k f (some [((ds.length : Nat) : Int)]) := by
  have lv := dzAll_len dz
  have dp : DzAll H (vs.take ds.length) ds := by
    have := dzAll_take ds.length dz
    rw [List.take_left] at this
    exact this
  obtain ⟨fs, p1, p2⟩ := rights (K := K) dp p
  have lf : fs.length = ds.length := by
    rw [PySem.Paired.length p2, PySem.Paired.length p]
  rw [List.length_append, List.length_cons] at l6 lv
  have lt : ds.length < vs.length := by omega
  obtain ⟨d', hd', zz⟩ := dzAll_at dz (List.getElem?_eq_getElem lt)
  have : (ds ++ d :: es)[ds.length]? = some d := by rw [List.getElem?_append_right (Nat.le_refl _), Nat.sub_self]; rfl
  rw [this] at hd'
  cases hd'
  have key : ProgR C K H k f (some [((fs.length : Nat) : Int)]) := by
    refine .funs hK row (by omega) (by omega) (.bad (v := vs[ds.length]) row (by rw [lf]; exact List.getElem?_eq_getElem lt) (by rw [lf]; exact p1) (by rw [names_eq p2]; exact nd) ?_) (by omega)
    rcases bad with ⟨sm, e | ⟨z, y, b, hz, e⟩⟩
    · exact .inl (bad_of zz sm e)
    · obtain ⟨g, r, e1, _⟩ := right_of (K := K) zz e
      exact .inr ⟨g, r, by rw [names_eq p2, e1]; exact hz⟩
  rw [lf] at key
  exact key
end
end Q9
end
-- QFacts8
section
set_option maxRecDepth 100000
set_option maxHeartbeats 8000000
namespace Q9
open PySem L2
section
variable {C : Addr} {K : PySem.W.Frag}
/-! what is said, compared -/
theorem dp_ints : ∀ {pl : List Int} {H : Hp}, DpAll K H (pl.map V.int) (pl.map PyData.int)
  | [], _ => .nil
  | i :: pl, _ => .cons (.int i) dp_ints
theorem lay_ints : ∀ pl : List Int, PyData.canLayAll0 (pl.map PyData.int) = true ∧ PyData.depthAll (pl.map PyData.int) = 0
  | [] => ⟨by simp [PyData.canLayAll0], by simp [PyData.depthAll]⟩
  | i :: pl => by
    obtain ⟨h1, h2⟩ := lay_ints pl
    refine ⟨?_, ?_⟩
    · rw [List.map_cons, PyData.canLayAll0, h1, PyData.canLay0]; rfl
    · rw [List.map_cons, PyData.depthAll, h2, PyData.depth]; rfl
theorem shaped_ints (pl : List Int) : SeqAt.shaped (.tuple (pl.map PyData.int)) = true := by
  obtain ⟨h1, h2⟩ := lay_ints pl
  unfold SeqAt.shaped
  rw [PyData.canLay0, h1, PyData.depth, h2]
  rfl
theorem ne_said {pl : List Int} {u : TA} {σ : L2.St} {H1 : Hp} {k f : V} {Q : Bool → Hp → Prop} (hu : ∀ H2 (R : List V → Hp → Prop), R (pl.map V.int) H2 → u σ H2 R) (len : pl.length ≤ 5) (p : ProgR C K H1 k f (some pl)) (q : ∀ H4, Same H1 H4 → Q false H4) :
    spSaid7 C K [k, f] H1 (fun x H2 => tTup u σ H2 fun y H3 => rNeD K x y H3 fun z H' => ∃ k, z = .bl k ∧ Q k H') E0 := by
  refine ⟨k, f, some pl, rfl, p, fun z => (nomatch z), fun pl' e H2 t s n ht => ?_⟩
  cases e
  refine hu _ _ ⟨by rw [List.length_map, PySem.sizeLine_eq]; omega, fun p hp => ⟨.tuple (pl.map .int), .tuple (pl.map .int), .tup (.of (same_upd hp _ _ ht)) dp_ints, .tup (.of upd_same) dp_ints, shaped_ints pl, shaped_ints pl, ?_⟩⟩
  rw [same_data (shaped_ints pl)]
  exact ⟨false, rfl, q _ (fun b o z => same_upd hp _ _ (s _ _ z))⟩
theorem nil_tells {σ : L2.St} (H2 : Hp) (R : List V → Hp → Prop) (r : R (([] : List Int).map V.int) H2) : tNil σ H2 R := r
theorem not_said {H1 : Hp} {k f : V} {Q : Bool → Hp → Prop} (p : ProgR C K H1 k f none) (q : ∀ H4, Same H1 H4 → Q false H4) :
    spSaid7 C K [k, f] H1 (fun x H2 => ∃ c, V.bl (!decide (x = .non)) = .bl c ∧ Q c H2) E0 :=
  ⟨k, f, none, rfl, p, fun _ H' s => ⟨false, rfl, q H' s⟩, fun pl e => (nomatch e)⟩
/-! the kinds -/
theorem k_row {H : Hp} {l kp : Addr} {kvs : List V} {ns : List Str} (h : KF C K (del H l) kp kvs ns) : Row K H (.ref kp) kvs := ⟨kp, rfl, .inl (.of (del_less _ _ h.at_))⟩
theorem k_kn {H : Hp} {l kp : Addr} {kvs : List V} {ns : List Str} (h : KF C K (del H l) kp kvs ns) : Paired (KN C K H) kvs ns := L2.Paired.mapP h.kn fun _ _ => kn_up del_less
theorem k_of {H : Hp} {l kp : Addr} {kvs : List V} {ns : List Str} (h : KF C K (del H l) kp kvs ns) (n4 : ns.length ≤ 4) : Kinds C K H (.ref kp) (some ns) := .right (k_row h) (k_kn h) h.nd h.l1 n4
theorem k_first {H : Hp} {kvs : List V} {ns : List Str} (h : Paired (KN C K H) kvs ns) (l1 : 1 ≤ ns.length) : ∃ k0 kr n0 nr, kvs = k0 :: kr ∧ ns = n0 :: nr := by
  cases h with
  | nil => simp at l1
  | cons a b => exact ⟨_, _, _, _, rfl, rfl⟩
theorem k_dup {H : Hp} {r k0 : V} {kr : List V} {n0 : Str} {nr : List Str} (row : Row K H r ((k0 :: kr) ++ [k0])) (p : Paired (KN C K H) (k0 :: kr) (n0 :: nr)) : Kinds C K H r none := by
  by_cases c : (((k0 :: kr) ++ [k0]).length) ≤ 4
  · have k0' : KN C K H k0 n0 := by cases p with | cons a b => exact a
    refine .twice row (paired_append p (.cons k0' .nil)) (fun nd => ?_) (by rw [List.length_append, List.length_cons]; omega) c
    rw [List.cons_append, List.nodup_cons] at nd
    exact nd.1 (by simp)
  · exact .many row (.inr (by omega))
theorem paired_take {α β : Type} {F : α → β → Prop} : ∀ {a : List α} {b : List β} (n : Nat), Paired F a b → Paired F (a.take n) (b.take n)
  | _, _, n, .nil => by simp; exact .nil
  | _, _, 0, .cons _ _ => .nil
  | _, _, n + 1, .cons x y => .cons x (paired_take n y)
theorem paired_true {H : Hp} : ∀ {vs : List V} {ns : List Str}, Paired (KN C K H) vs ns → Paired (KindB C K H) vs (ns.map fun _ => true)
  | _, _, .nil => .nil
  | _, _, .cons x y => .cons (.inl ⟨rfl, _, x⟩) (paired_true y)
theorem k_more {H : Hp} {r x : V} {vs : List V} {ns : List Str} (row : Row K H r (vs.take 3 ++ [x])) (p : Paired (KN C K H) vs ns) (b : KindB C K H x false) : Kinds C K H r none := by
  refine .odd row (paired_append (paired_true (paired_take 3 p)) (.cons b .nil)) (by rw [List.all_append]; simp) (by rw [List.length_append, List.length_singleton]; omega) ?_
  rw [List.length_append, List.length_singleton, List.length_take]
  omega
theorem nr_c {H : Hp} {v : V} {d : PyData} (h : Dz H v d) (e : rowD d = none) : NotRow K H v := notRow_dz h e
/-! the rows -/
structure Fine (t : Str × List Str) : Prop where
  lw : LW t.1
  mps : t.1 = "main" → t.2 = []
  nd : t.2.Nodup
  few : t.2.length ≤ 3
  ps : ∀ z ∈ t.2, LW z
theorem RowsOk.fine {ws : List Str} {ts : List (Str × List Str)} (h : RowsOk ws ts) : ∀ t ∈ ts, Fine t := fun t ht => ⟨h.lw t ht, h.mps t ht, (h.ps t ht).1, (h.ps t ht).2.1, (h.ps t ht).2.2⟩
theorem fn_rows : ∀ {ts : List (Str × List Str)}, (∀ t ∈ ts, Fine t) → Paired (fun d t => fnD d = some t) (ts.map dOf) (ts.map trOf)
  | [], _ => .nil
  | t :: ts, h => by
    have f := h t List.mem_cons_self
    exact .cons (fn_of_row f.lw f.mps ⟨f.nd, f.few, f.ps⟩) (fn_rows fun t ht => h t (List.mem_cons_of_mem _ ht))
theorem names_tr (ts : List (Str × List Str)) : (ts.map trOf).map (·.1) = ts.map (·.1) := by
  rw [List.map_map]
  rfl
theorem row_lst {H : Hp} {p : Addr} {vs : List V} (h : H p = some (.lst vs)) : Row K H (.ref p) vs := ⟨p, rfl, .inl (.of h)⟩
theorem row_tup {H : Hp} {p : Addr} {vs : List V} (h : H p = some (.tup vs)) : Row K H (.ref p) vs := ⟨p, rfl, .inr (.of h)⟩
/-- what stands from the rows on -/
structure L7 (C : Addr) (K : PySem.W.Frag) (G : Hp) (kp wp rp : Addr) (kvs rvs : List V) (ns ws : List Str) (ts : List (Str × List Str)) : Prop where
  kf : KF C K G kp kvs ns
  n4 : ns.length ≤ 4
  wf : WF G wp ws
  rf : RF3 G rp rvs ws ts
  m : (("main" : Str), ([] : List Str)) ∈ ts
theorem L7.up {G G' : Hp} (s : Same G G') {kp wp rp : Addr} {kvs rvs : List V} {ns ws : List Str} {ts : List (Str × List Str)} (h : L7 C K G kp wp rp kvs rvs ns ws ts) : L7 C K G' kp wp rp kvs rvs ns ws ts :=
  ⟨h.kf.up s, h.n4, h.wf.up s, h.rf.up s, h.m⟩
section
variable {H : Hp} {l kp wp rp : Addr} {kvs rvs : List V} {ns ws : List Str} {ts : List (Str × List Str)}
theorem L7.kinds (h : L7 C K (del H l) kp wp rp kvs rvs ns ws ts) : Kinds C K H (.ref kp) (some ns) := k_of h.kf h.n4
theorem L7.dz (h : L7 C K (del H l) kp wp rp kvs rvs ns ws ts) : DzAll H rvs (ts.map dOf) := dzAll_same del_less h.rf.dz
theorem bodies (ts : List (Str × List Str)) : ∀ t ∈ ts.map trOf, bodyD t.2.2 := fun t ht => by
  obtain ⟨u, _, rfl⟩ := List.mem_map.mp ht
  unfold trOf bodyD
  by_cases c : u.1 = "main"
  · exact .inl (if_pos c)
  · exact .inr (if_neg c)
theorem right_rows {k f : V} (h : L7 C K (del H l) kp wp rp kvs rvs ns ws ts) (hK : Kinds C K H k (some ns)) (row : Row K H f rvs) : ProgR C K H k f none := by
  refine prog_right (b := []) hK row h.dz (fn_rows h.rf.ok.fine) (by rw [names_tr]; exact h.rf.ok.nd) (by rw [List.length_map]; exact h.rf.ok.len) ?_ (bodies ts)
  refine List.mem_map.mpr ⟨_, h.m, ?_⟩
  unfold trOf
  rw [if_pos rfl]
end
/-! seven functions -/
def tSeven : List Str := ["main", "a", "b", "c", "d", "e", "f"]
theorem fn_other {z : Str} (h : nameB z = true) : fnD (dOther z) = some (z, [], []) := by
  show fn3 (.str z) (.tuple []) (.tuple []) = _
  unfold fn3
  show (if fnOk z [] = true then some (z, ([] : List Str), ([] : List PyData)) else none) = _
  refine if_pos ?_
  unfold fnOk
  rw [h]
  rfl
theorem others_fn : ∀ {zs : List Str}, (∀ z ∈ zs, nameB z = true) → Paired (fun d (t : Str × List Str × List PyData) => fnD d = some t) (zs.map dOther) (zs.map fun z => (z, [], []))
  | [], _ => .nil
  | z :: zs, h => .cons (fn_other (h z List.mem_cons_self)) (others_fn fun y hy => h y (List.mem_cons_of_mem _ hy))
theorem seven_names : ∀ z ∈ tSeven, nameB z = true := by decide +kernel
theorem right_six {H : Hp} {k f : V} {ns : List Str} {vs : List V} (hK : Kinds C K H k (some ns)) (row : Row K H f vs) (dz : DzAll H vs ((tSeven.take 6).map dOther)) : ProgR C K H k f none := by
  refine prog_right (b := []) hK row dz (others_fn (fun z hz => seven_names z (List.mem_of_mem_take hz))) (by rw [List.map_map]; exact (by decide +kernel : ((tSeven.take 6).map ((fun t : Str × List Str × List PyData => t.1) ∘ fun z => (z, [], []))).Nodup)) (by rw [List.length_map]; exact Nat.le_refl _) ?_ fun t ht => ?_
  · exact List.mem_map.mpr ⟨"main", by decide +kernel, rfl⟩
  · obtain ⟨z, _, rfl⟩ := List.mem_map.mp ht
    exact .inl rfl
end
end Q9
end
-- QFacts9
section
set_option maxRecDepth 100000
set_option maxHeartbeats 8000000
namespace Q9
open PySem L2
theorem del2_but {l D : Addr} {H H' : Hp} (b : But l H H') : Same (del (del H D) l) (del (del H' D) l) := fun c o e => by
  have n1 : c ≠ l := fun z => by rw [z, del_same] at e; cases e
  rw [del_ne n1] at e ⊢
  have n2 : c ≠ D := fun z => by rw [z, del_same] at e; cases e
  rw [del_ne n2] at e ⊢
  exact b _ _ n1 e
theorem del_free {l D : Addr} {H : Hp} (n : H D = none) : Same (del H l) (del (del H D) l) := fun c o e => by
  have n1 : c ≠ l := fun z => by rw [z, del_same] at e; cases e
  rw [del_ne n1] at e ⊢
  have n2 : c ≠ D := fun z => by rw [z, n] at e; cases e
  rw [del_ne n2]
  exact e
theorem asg_lit {f : Hp → Hp} {t : TE} {g : TG} {D : Ends} {σ : L2.St} {H : Hp} (d : PyData) (a : Lit f t σ H d) (q : ∀ v H', Same H H' → Dz (f H') v d → g v σ H' D.nx) : tAsg t g D σ H := a H _ (Same.refl H) q
theorem well_upd {l D : Addr} {u : HO} {H : Hp} (n : D ≠ l) (h : Well H l) : Well (upd H D u) l := by
  obtain ⟨a, b, c, e, r⟩ := h
  exact ⟨a, b, c, by rw [upd_ne (Ne.symm n)]; exact e, r⟩
end Q9
end
-- QFactsA
section
set_option maxRecDepth 100000
set_option maxHeartbeats 8000000
namespace Q9
open PySem L2
theorem aside0 {H0 : Hp} : Aside H0 (fun H => H) := ⟨fun s => s, Same.refl _, fun _ _ => upd_same⟩
section
variable {f : Hp → Hp} {σ : L2.St} {H0 : Hp} {K : PySem.W.Frag}
/-- xs[:k] -/
theorem lit_sl (A : Aside H0 f) {ta tb : TE} {ds : List PyData} {k : Nat} (a : Lit f ta σ H0 (.list ds)) (b : Lit f tb σ H0 (.int (k : Int))) : Lit f (tSl (rSlL K) ta tNoPart (tPart tb)) σ H0 (.list (ds.take k)) := fun H Q s q =>
  a H _ s fun v H1 s1 h1 => b H1 _ (s.trans s1) fun w H2 s2 h2 => by
    have h1 := dz_same (A.mono s2) h1
    cases h1 with
    | @lst a1' xs1 _ e1 a1 =>
      cases h2
      refine ⟨_, rfl, _, _, rfl, .of (A.less _ _ e1), fun p hp => ?_⟩
      rw [cut_take (Int.natCast_nonneg k), Int.toNat_natCast]
      have sp := same_upd (o := .lst (xs1.take k)) hp
      exact q _ _ (fun c o z => sp _ _ (s2 _ _ (s1 _ _ z))) (.lst (A.new (fun c o z => s2 _ _ (s1 _ _ (s _ _ z))) hp) (dzAll_same (A.mono sp) (dzAll_take k a1)))
/-- xs[k], a text -/
theorem lit_ix {i p k : Nat} {xs : List Str} {z : Str} (e : σ[i]? = some (some (.ref p))) (h : H0 p = some (.lst (xs.map V.str))) (n : xs[k]? = some z) : Lit f (tOp (rIxL K) (tVar i) (tC (.int (k : Int)))) σ H0 (.str z) := fun H Q s q =>
  ⟨_, e, p, _, k, .str z, rfl, rfl, .of (s _ _ h), atI_nat (by rw [List.getElem?_map, n]; rfl), q _ H (Same.refl H) (.str z)⟩
end
/-! the texts that are no word -/
def twelve : List Str := ("abcdefghijkl" : Str).cps.toList.map fun c => ("zzzzzzz" : Str) ++ ⟨#[c]⟩
theorem twelve_nd : twelve.Nodup := by decide +kernel
theorem twelve_len : twelve.length = 12 := by decide +kernel
theorem twelve_lw : ∀ z ∈ twelve, LW z := lws_of (by decide +kernel)
theorem twelve_main : ∀ z ∈ twelve, z ≠ "main" := by decide +kernel
structure Fresh (ws fs : List Str) : Prop where
  nd : fs.Nodup
  lw : ∀ z ∈ fs, LW z
  not : ∀ z ∈ fs, z ∉ ws
  main : ∀ z ∈ fs, z ≠ "main"
theorem two_parts {ws : List Str} : ∀ l : List Str, l.length = (l.filter fun z => decide (z ∈ ws)).length + (l.filter fun z => decide (z ∉ ws)).length
  | [] => rfl
  | z :: l => by
    have := two_parts (ws := ws) l
    by_cases c : z ∈ ws
    · rw [List.filter_cons_of_pos (by simpa using c), List.filter_cons_of_neg (by simpa using c), List.length_cons, List.length_cons]
      omega
    · rw [List.filter_cons_of_neg (by simpa using c), List.filter_cons_of_pos (by simpa using c), List.length_cons, List.length_cons]
      omega
theorem fresh_of {ws : List Str} (l8 : ws.length = 8) : ∃ f0 f1 f2 f3 fr, (twelve.filter fun z => decide (z ∉ ws)) = f0 :: f1 :: f2 :: f3 :: fr ∧ Fresh ws (f0 :: f1 :: f2 :: f3 :: fr) := by
  have F : Fresh ws (twelve.filter fun z => decide (z ∉ ws)) := ⟨List.Pairwise.filter _ twelve_nd, fun z hz => twelve_lw z (List.mem_filter.mp hz).1, fun z hz => by simpa using (List.mem_filter.mp hz).2, fun z hz => twelve_main z (List.mem_filter.mp hz).1⟩
  have h1 := two_parts (ws := ws) twelve
  have h2 : (twelve.filter fun z => decide (z ∈ ws)).length ≤ ws.length := nodup_le _ _ (List.Pairwise.filter _ twelve_nd) fun z hz => by simpa using (List.mem_filter.mp hz).2
  rw [twelve_len] at h1
  generalize (twelve.filter fun z => decide (z ∉ ws)) = fs at F h1
  match fs, F, h1 with
  | f0 :: f1 :: f2 :: f3 :: fr, F, _ => exact ⟨_, _, _, _, _, rfl, F⟩
  | [], _, h1 => simp only [List.length_nil] at h1; omega
  | [_], _, h1 => simp only [List.length_nil, List.length_cons] at h1; omega
  | [_, _], _, h1 => simp only [List.length_nil, List.length_cons] at h1; omega
  | [_, _, _], _, h1 => simp only [List.length_nil, List.length_cons] at h1; omega
/-! the rows that are written in the law -/
def dX (z : Str) : PyData := .tuple [.str z, .list [.str "x"], .list [.none]]
def d0 (z : Str) : PyData := .tuple [.str z, .tuple [], .list [.none]]
def dLast (t : Str × List Str) : PyData := .tuple [.str t.1, .list (t.2.map .str), .list [.none]]
theorem sh_leaf {k : Nat} : Sh 8 k (.str "x") ∧ Sh 8 k (.str "main") ∧ Sh 8 k (.str "wait") ∧ Sh 8 k .none :=
  ⟨⟨by decide +kernel, by decide +kernel, by rw [PyData.depth]; exact Nat.zero_le _, by decide +kernel⟩, ⟨by decide +kernel, by decide +kernel, by rw [PyData.depth]; exact Nat.zero_le _, by decide +kernel⟩,
    ⟨by decide +kernel, by decide +kernel, by rw [PyData.depth]; exact Nat.zero_le _, by decide +kernel⟩, ⟨by decide +kernel, by decide +kernel, by rw [PyData.depth]; exact Nat.zero_le _, by decide +kernel⟩⟩
theorem sh_dX {z : Str} (h : LW z) : Sh 100 5 (dX z) :=
  (sh_tup (shA_cons (sh_lw h) (shA_cons (sh_lst (shA_cons (k := 3) sh_leaf.1 (shA_nil (n := 0)))) (shA_cons (sh_lst (shA_cons (k := 3) (sh_leaf.2.2.2) (shA_nil (n := 0)))) (shA_nil (n := 0)))))).le (by decide) (by decide)
theorem sh_strs {k : Nat} {ps : List Str} (h : ∀ z ∈ ps, LW z) : ShA (ps.length * 9) k (ps.map PyData.str) := by
  have := shA_all (n := 8) (k := k) (ds := ps.map PyData.str) fun d hd => by
    obtain ⟨z, hz, rfl⟩ := List.mem_map.mp hd
    exact sh_lw (h z hz)
  rw [List.length_map] at this
  exact this
theorem sh_dOf {t : Str × List Str} (h : Fine t) : Sh 100 5 (dOf t) := by
  unfold dOf
  by_cases c : t.1 = "main"
  · rw [if_pos c]
    exact (sh_tup (shA_cons sh_leaf.2.1 (shA_cons (sh_lst (k := 2) (shA_nil (n := 0))) (shA_cons (sh_tup (k := 2) (shA_nil (n := 0))) (shA_nil (n := 0)))))).le (by decide) (by decide)
  · rw [if_neg c]
    refine (sh_tup (shA_cons (sh_lw h.lw) (shA_cons (sh_lst (k := 3) (sh_strs h.ps)) (shA_cons (sh_lst (sh_tup (k := 2) (shA_cons sh_leaf.2.2.1 (shA_nil (n := 0))) |> fun x => shA_cons x (shA_nil (n := 0)))) (shA_nil (n := 0)))))).le ?_ (by decide)
    have := h.few
    omega
theorem shows_of {ds : List PyData} (h : ∀ d ∈ ds, Sh 100 5 d) (l : ds.length ≤ 10) : Shows (.list ds) := by
  have := sh_lst (shA_all h)
  refine this.shows ?_ (by decide)
  omega
theorem fn_last {t : Str × List Str} (f : Fine t) (b : List PyData) : fn3 (.str t.1) (.list (t.2.map .str)) (.list b) = some (t.1, t.2, b) := by
  unfold fn3
  show (match textsD (t.2.map PyData.str) with | some zs => if fnOk t.1 zs = true then some (t.1, zs, b) else none | none => none) = _
  rw [texts_strs]
  refine if_pos ?_
  unfold fnOk
  rw [name_of f.lw, List.all_eq_true.mpr fun z hz => name_of (f.ps z hz), decide_eq_true f.nd, decide_eq_true f.few]
  rfl
theorem lw_x : LW "x" := ⟨by decide +kernel, by decide +kernel, by decide +kernel⟩
theorem fn_dX {z : Str} (h : LW z) : fnD (dX z) = some (z, [("x" : Str)], [PyData.none]) := by
  have x := lw_x
  show fn3 (.str z) (.list [.str "x"]) (.list [.none]) = _
  unfold fn3
  show (if fnOk z ["x"] = true then some (z, [("x" : Str)], [PyData.none]) else none) = _
  refine if_pos ?_
  unfold fnOk
  rw [name_of h, List.all_cons, name_of x]
  rfl
theorem fn_d0 {z : Str} (h : LW z) : fnD (d0 z) = some (z, [], [PyData.none]) := by
  show fn3 (.str z) (.tuple []) (.list [.none]) = _
  unfold fn3
  show (if fnOk z [] = true then some (z, ([] : List Str), [PyData.none]) else none) = _
  refine if_pos ?_
  unfold fnOk
  rw [name_of h]
  rfl
/-! what they make of a program -/
section
variable {C : Addr} {K : PySem.W.Frag} {H : Hp} {k f : V} {ns ws : List Str} {vs : List V} {ts : List (Str × List Str)}
theorem take_len {n : Nat} (h : n < ts.length) : ((ts.take n).map dOf).length = n := by
  rw [List.length_map, List.length_take]
  omega
theorem bad_prog {n : Nat} {od : PyData} {es : List PyData} (hK : Kinds C K H k (some ns)) (R : RowsOk ws ts) (lt : n < ts.length) (row : Row K H f vs) (dz : DzAll H vs ((ts.take n).map dOf ++ od :: es)) (l5 : n + es.length ≤ 5) (o : OddD ((ts.take n).map (·.1)) od) : ProgR C K H k f (some [(n : Int)]) := by
  have fine : ∀ t ∈ ts.take n, Fine t := fun t ht => R.fine t (List.mem_of_mem_take ht)
  have nm : ((ts.take n).map trOf).map (·.1) = (ts.take n).map (·.1) := names_tr _
  have := prog_bad (C := C) (K := K) (es := es) hK row dz (fn_rows fine) (by rw [nm, List.map_take]; exact (List.take_sublist _ _).nodup R.nd) (by rw [List.length_append, take_len lt, List.length_cons]; omega) ⟨o.2.1, o.2.2.imp id fun ⟨z, hz, e⟩ => ⟨z, [], [], by rw [nm]; exact hz, e⟩⟩
  rw [take_len lt] at this
  exact this
theorem first_prog {n : Nat} {od : PyData} {es : List PyData} {z : Str} (hK : Kinds C K H k (some ns)) (R : RowsOk ws ts) (lt : n < ts.length) (row : Row K H f vs) (dz : DzAll H vs (d0 z :: ((ts.take n).map dOf ++ od :: es))) (l5 : n + es.length ≤ 4) (o : OddD ((ts.take n).map (·.1)) od) (lz : LW z) (nz : z ∉ ws) (nm : z ≠ "main") : ProgR C K H k f (some [((n + 1 : Nat) : Int)]) := by
  have fine : ∀ t ∈ ts.take n, Fine t := fun t ht => R.fine t (List.mem_of_mem_take ht)
  have nt : (((z, ([] : List Str), [PyData.none]) :: (ts.take n).map trOf)).map (·.1) = z :: (ts.take n).map (·.1) := by rw [List.map_cons, names_tr]
  have := prog_bad (C := C) (K := K) (ds := d0 z :: (ts.take n).map dOf) (es := es) hK row dz (.cons (fn_d0 lz) (fn_rows fine)) ?_ (by rw [List.length_append, List.length_cons, take_len lt, List.length_cons]; omega) ⟨o.2.1, o.2.2.imp id fun ⟨y, hy, e⟩ => ⟨y, [], [], by rw [nt]; exact List.mem_cons_of_mem _ hy, e⟩⟩
  · rw [List.length_cons, take_len lt] at this
    exact this
  · rw [nt, List.nodup_cons]
    refine ⟨fun h => ?_, by rw [List.map_take]; exact (List.take_sublist _ _).nodup R.nd⟩
    obtain ⟨t, ht, e⟩ := List.mem_map.mp h
    rcases R.mem t (List.mem_of_mem_take ht) with c | c
    · exact nm (e.symm.trans c)
    · rw [e] at c
      exact nz c
theorem last_rows : ∀ {us : List (Str × List Str)}, (∀ t ∈ us, Fine t) → Paired (fun d t => fnD d = some t) (us.map dLast) (us.map fun t => (t.1, t.2, [PyData.none]))
  | [], _ => .nil
  | t :: us, h => .cons (fn_last (h t List.mem_cons_self) _) (last_rows fun u hu => h u (List.mem_cons_of_mem _ hu))
abbrev noMain (ts : List (Str × List Str)) : List (Str × List Str) := ts.filter fun t => decide (t.1 ≠ ("main" : Str))
theorem last_prog (hK : Kinds C K H k (some ns)) (R : RowsOk ws ts) (row : Row K H f vs) (dz : DzAll H vs ((noMain ts).map dLast)) (ne : noMain ts ≠ []) : ProgR C K H k f (some []) := by
  refine prog_main hK row dz (last_rows fun t ht => R.fine t (List.mem_filter.mp ht).1) ?_ ?_ ?_ ?_
  · rw [List.map_map]
    exact (List.Sublist.map _ List.filter_sublist).nodup R.nd
  · rw [List.length_map]
    exact List.length_pos_iff.mpr ne
  · rw [List.length_map]
    exact Nat.le_trans (List.length_filter_le _ _) R.len
  · intro t ht e
    obtain ⟨u, hu, rfl⟩ := List.mem_map.mp ht
    have := (List.mem_filter.mp hu).2
    simp at this
    exact (this e).elim
theorem main_prog (hK : Kinds C K H k (some ns)) (R : RowsOk ws ts) (row : Row K H f vs) (dz : DzAll H vs (((noMain ts).map dOf).take 4 ++ [dX "main"])) : ProgR C K H k f (some []) := by
  have lm : LW "main" := lw_main
  have fine : ∀ t ∈ (noMain ts).take 4, Fine t := fun t ht => R.fine t (List.mem_filter.mp (List.mem_of_mem_take ht)).1
  have nt : ((((noMain ts).take 4).map trOf) ++ [(("main" : Str), [("x" : Str)], [PyData.none])]).map (·.1) = ((noMain ts).take 4).map (·.1) ++ [("main" : Str)] := by rw [List.map_append, names_tr]; rfl
  rw [← List.map_take] at dz
  refine prog_main hK row dz (paired_append (fn_rows fine) (.cons (fn_dX lm) .nil)) ?_ ?_ ?_ ?_
  · rw [nt, List.nodup_append]
    refine ⟨?_, by decide +kernel, fun a ha b hb e => ?_⟩
    · rw [List.map_take]
      exact (List.take_sublist _ _).nodup ((List.Sublist.map _ List.filter_sublist).nodup R.nd)
    · rw [List.mem_singleton] at hb
      obtain ⟨u, hu, e2⟩ := List.mem_map.mp ha
      have := (List.mem_filter.mp (List.mem_of_mem_take hu)).2
      simp at this
      exact this (e2.trans (e.trans hb))
  · rw [List.length_append, List.length_singleton]
    omega
  · rw [List.length_append, List.length_singleton, List.length_map, List.length_take]
    omega
  · intro t ht e
    rcases List.mem_append.mp ht with h | h
    · obtain ⟨u, hu, rfl⟩ := List.mem_map.mp h
      have := (List.mem_filter.mp (List.mem_of_mem_take hu)).2
      simp at this
      exact (this e).elim
    · rw [List.mem_singleton] at h
      rw [h]
      simp
end
/-! rows compared with none -/
mutual
theorem dz_dp {K : PySem.W.Frag} {H : Hp} : ∀ (d : PyData) (v : V), Dz H v d → PyData.canLay0 d = true → Dp K H v d
  | .none, _, h, _ => by cases h; exact .non
  | .bool b, _, h, _ => by cases h; exact .bl b
  | .int i, _, h, _ => by cases h; exact .int i
  | .str z, _, h, _ => by cases h; exact .str z
  | .list ds, _, h, c => by
    cases h with
    | lst e a => exact .lst (.of e) (dzAll_dp ds _ a (by rw [PyData.canLay0] at c; exact c))
  | .tuple ds, _, h, c => by
    cases h with
    | tup e a => exact .tup (.of e) (dzAll_dp ds _ a (by rw [PyData.canLay0] at c; exact c))
  | .dict ds, _, h, c => by
    rw [PyData.canLay0] at c
    cases c
theorem dzAll_dp {K : PySem.W.Frag} {H : Hp} : ∀ (ds : List PyData) (vs : List V), DzAll H vs ds → PyData.canLayAll0 ds = true → DpAll K H vs ds
  | [], _, h, _ => by cases h; exact .nil
  | d :: ds, _, h, c => by
    cases h with
    | cons h1 h2 =>
      rw [PyData.canLayAll0, Bool.and_eq_true] at c
      exact .cons (dz_dp d _ h1 c.1) (dzAll_dp ds _ h2 c.2)
end
theorem lay_all : ∀ {ds : List PyData}, (∀ d ∈ ds, PyData.canLay0 d = true) → PyData.canLayAll0 ds = true
  | [], _ => by rw [PyData.canLayAll0]
  | d :: ds, h => by rw [PyData.canLayAll0, h d List.mem_cons_self, lay_all fun e he => h e (List.mem_cons_of_mem _ he)]; rfl
theorem deep_all {n : Nat} : ∀ {ds : List PyData}, (∀ d ∈ ds, d.depth ≤ n) → PyData.depthAll ds ≤ n
  | [], _ => by rw [PyData.depthAll]; exact Nat.zero_le _
  | d :: ds, h => by rw [PyData.depthAll]; exact Nat.max_le.mpr ⟨h d List.mem_cons_self, deep_all fun e he => h e (List.mem_cons_of_mem _ he)⟩
theorem lay_dOf {t : Str × List Str} (h : Fine t) : PyData.canLay0 (dOf t) = true := by
  unfold dOf
  by_cases c : t.1 = "main"
  · rw [if_pos c]
    decide +kernel
  · rw [if_neg c]
    show PyData.canLay0 (.tuple [.str t.1, .list (t.2.map .str), rowB]) = true
    have hb : PyData.canLay0 rowB = true := by decide +kernel
    rw [PyData.canLay0, PyData.canLayAll0, lay_of h.lw.2, PyData.canLayAll0, PyData.canLay0, lay_all (fun d hd => by obtain ⟨z, hz, rfl⟩ := List.mem_map.mp hd; exact lay_of (h.ps z hz).2), PyData.canLayAll0, hb, PyData.canLayAll0]
    rfl
theorem shaped_rows {us : List (Str × List Str)} (h : ∀ t ∈ us, Fine t) : SeqAt.shaped (.list (us.map dOf)) = true := by
  unfold SeqAt.shaped
  rw [PyData.canLay0, lay_all (fun d hd => by obtain ⟨t, ht, rfl⟩ := List.mem_map.mp hd; exact lay_dOf (h t ht)), PyData.depth, Bool.true_and, decide_eq_true_iff]
  have := deep_all (n := 5) (ds := us.map dOf) fun d hd => by obtain ⟨t, ht, rfl⟩ := List.mem_map.mp hd; exact (sh_dOf (h t ht)).dp
  omega
theorem head_row {K : PySem.W.Frag} {H : Hp} {v : V} {t : Str × List Str} (h : Dz H v (dOf t)) : ∃ vs, Row K H v vs ∧ vs[0]? = some (.str t.1) := by
  unfold dOf at h
  by_cases c : t.1 = "main"
  · rw [if_pos c] at h
    cases h with
    | tup e a =>
      cases a with
      | cons a1 a2 =>
        cases a1
        exact ⟨_, row_tup e, by rw [c]; rfl⟩
  · rw [if_neg c] at h
    cases h with
    | tup e a =>
      cases a with
      | cons a1 a2 =>
        cases a1
        exact ⟨_, row_tup e, rfl⟩
theorem parts_row {H : Hp} {v : V} {t : Str × List Str} (n : t.1 ≠ "main") (h : Dz H v (dOf t)) : ∃ a y z, v = .ref a ∧ H a = some (.tup [.str t.1, y, z]) ∧ Dz H y (.list (t.2.map .str)) := by
  unfold dOf at h
  rw [if_neg n] at h
  cases h with
  | tup e a =>
    cases a with
    | cons a1 a2 =>
      cases a1
      cases a2 with
      | cons b1 b2 =>
        cases b2 with
        | cons c1 c2 =>
          cases c2
          exact ⟨_, _, _, rfl, e, b1⟩
end Q9
namespace Q9
open PySem L2
theorem filter_more {α : Type} {l : List α} {i : Nat} {z : α} (p : α → Bool) (h : l[i]? = some z) : (l.take (i + 1)).filter p = (l.take i).filter p ++ if p z = true then [z] else [] := by
  rw [take_one_more h, List.filter_append]
  congr 1
  by_cases c : p z = true
  · rw [if_pos c, List.filter_cons_of_pos c, List.filter_nil]
  · rw [if_neg c, List.filter_cons_of_neg c, List.filter_nil]
theorem same_free {D : Addr} {H H' : Hp} (n : H D = none) (s : Same H H') : Same H (del H' D) := fun b o e => by
  rw [del_ne (ne_of_none e n)]
  exact s _ _ e
theorem rows7_at {ts : List (Str × List Str)} {vs : List V} {H : Hp} {i : Nat} {x : V} {g : Str × List Str → PyData} (dz : DzAll H vs (ts.map g)) (hx : vs[i]? = some x) : ∃ t, ts[i]? = some t ∧ Dz H x (g t) := by
  obtain ⟨d, hd, z⟩ := dzAll_at dz hx
  rw [List.getElem?_map] at hd
  obtain ⟨t, ht, rfl⟩ := Option.map_eq_some_iff.mp hd
  exact ⟨t, ht, z⟩
end Q9
end
-- QWords
section
set_option maxRecDepth 100000
set_option maxHeartbeats 4000000
namespace Q9
open PySem L2
abbrev wordsN : List Str := ["_law_well", "_law_many", "_law_some", "_law_signs", "_law_found", "_law_start", "_law_k", "_law_way", "_law_word", "_law_turn", "_law_stem"]
abbrev wordsPs : List Str := ["_law_well", "_law_many", "_law_some"]
theorem scW : FnScope wordsN wordsPs (defScope sWords) := ⟨rfl, rfl, rfl, by decide +kernel, rfl, by decide +kernel, by decide +kernel⟩
/-- unlike words, as many as were asked for -/
def spWords (K : PySem.W.Frag) : Sp := fun vs H Q _ => ∃ (l sm : Addr) (n : Nat) (some_ : List Str), vs = [.ref l, .int (n : Nat), .ref sm] ∧ Well H l ∧ SqL K H sm (some_.map V.str) ∧ sm ≠ l ∧ 1 ≤ some_.length ∧ some_.length ≤ 1000 ∧ n ≤ 20 ∧ (∀ z ∈ some_, LW z) ∧
  ∀ (H' : Hp) (p : Addr) (ws : List Str), But l H H' → Well H' l → H p = none → p ≠ l → H' p = some (.lst (ws.map V.str)) → ws.length = n → ws.Nodup → (∀ z ∈ ws, LW z) → Q (.ref p) H'
structure TWords (K : PySem.W.Frag) (mg : Str → Option Value) (fD fP : Addr) : Prop where
  int : mg "int" = none
  len : mg "len" = none
  range : mg "range" = none
  gD : mg "_law_draw" = some (.ref fD)
  kD : PySem.W.keepIn K (.ref fD) = true
  gP : mg "_law_pick" = some (.ref fP)
  kP : PySem.W.keepIn K (.ref fP) = true
/-- what is wanted behind an expression, told ahead -/
theorem pe_mono {X : Cx} {e : Expr} {te : TE} (he : PE X e te) : PE X e (fun σ H Q => ∃ R : VK, te σ H R ∧ ∀ x H1, R x H1 → Q x H1) :=
  ⟨fun pins s σ H Q I ⟨R, h, imp⟩ => thn (he.run pins s σ H R I h) fun v s1 ⟨x, H1, I1, r1, q1⟩ => ⟨x, H1, I1, r1, imp _ _ q1⟩⟩
/-- what is wanted behind a test, told ahead -/
theorem pt_mono {X : Cx} {e : Expr} {t : TT} (he : PT X e t) : PT X e (fun σ H Q => ∃ R : Bool → Hp → Prop, t σ H R ∧ ∀ b H1, R b H1 → Q b H1) :=
  ⟨fun pins s σ H Q I ⟨R, h, imp⟩ => thn (he.run pins s σ H R I h) fun v s1 ⟨H1, I1, q1⟩ => ⟨H1, I1, imp _ _ q1⟩⟩
theorem ne_nil {ws : List Str} : (!PyData.eqv (.list (dStrs ws)) (.list (dStrs []))) = !ws.isEmpty := by
  cases ws with
  | nil => simp [dStrs, PyData.eqv, PyData.eqvAll]
  | cons a l => simp [dStrs, PyData.eqv, PyData.eqvAll]
/-- what stands while a list of words is made -/
structure WSt (l F : Addr) (ws : List Str) (H H' : Hp) : Prop where
  but : But l H H'
  well : Well H' l
  at_ : H' F = some (.lst (ws.map V.str))
  new : H F = none
  ne : F ≠ l
theorem WSt.draw {l F : Addr} {ws : List Str} {H H' : Hp} {o : HO} (h : WSt l F ws H H') (w : Well (upd H' l o) l) : WSt l F ws H (upd H' l o) :=
  ⟨fun b u ne e => by rw [upd_ne ne]; exact h.but b u ne e, w, by rw [upd_ne h.ne]; exact h.at_, h.new, h.ne⟩
theorem WSt.same {l F : Addr} {ws : List Str} {H H' H2 : Hp} (h : WSt l F ws H H') (s : Same H' H2) : WSt l F ws H H2 :=
  ⟨fun b u ne e => s _ _ (h.but b u ne e), (by obtain ⟨a, b, c, h1, h2⟩ := h.well; exact ⟨a, b, c, s _ _ h1, h2⟩), s _ _ h.at_, h.new, h.ne⟩
theorem WSt.add {l F : Addr} {ws : List Str} {z : Str} {H H' : Hp} (h : WSt l F ws H H') : WSt l F (ws ++ [z]) H (upd H' F (.lst (ws.map V.str ++ [.str z]))) :=
  ⟨fun b u ne e => by rw [upd_ne (ne_of_none e h.new)]; exact h.but b u ne e, (by obtain ⟨a, b, c, h1, h2⟩ := h.well; exact ⟨a, b, c, by rw [upd_ne (fun e => h.ne e.symm)]; exact h1, h2⟩), by rw [upd_same, List.map_append]; rfl, h.new, h.ne⟩
theorem sqL_but {K : PySem.W.Frag} {l m : Addr} {xs : List V} {H H' : Hp} (b : But l H H') (n : m ≠ l) (h : SqL K H m xs) : SqL K H' m xs := by
  rcases h with (h | ⟨o, h⟩) | h
  · exact .inl (.inl (b _ _ n h))
  · exact .inl (.inr ⟨o, b _ _ n h⟩)
  · exact .inr h
section
variable {P : Program} {w : World} {K : PySem.W.Frag} {mg : Str → Option Value} {base : Heap} {fD fP : Addr}
theorem ok_words {f : Addr} {fd dD dP : FuncData} (F : Fun K "_law_words" "_law_words" sWords f fd) (T : TWords K mg fD fP)
    (GD : FnOk P w K mg base CX0 1 fD dD ["_law_well", "_law_many"] spDraw) (bD : Binds K dD ["_law_well", "_law_many"] [])
    (GP : FnOk P w K mg base CX0 2 fP dP ["_law_well", "_law_some"] (spPickL K)) (bP : Binds K dP ["_law_well", "_law_some"] []) : FnOk P w K mg base CX0 3 f fd wordsPs (spWords K) := by
  refine F.ok scW (fun vs H Q E h => ?_) (fun cdv A outer s H vs Q E hr h => ?_)
  · obtain ⟨l, sm, n, some_, rfl, _⟩ := h
    rfl
  · obtain ⟨l, sm, n, some_, rfl, hw, hs, ne, l1, l2, n20, lw, q⟩ := h
    have hu64 := hr.units
    refine ⟨_, pss_cons (ps_par3 (i := 3) (j := 4) (l := 5) (by rfl) scW.nd rfl rfl rfl (by decide) (by decide) (by decide) rfl rfl rfl (pa_cons pe_str (pa_cons (pe_lst pa_nil) (pa_cons (pe_call GD (hr.mono (by omega)) (by rfl) T.gD T.kD bD .nil pass0 (pa_cons (pv 0) (pa_cons (pe_callB call_len (by rfl) T.len (by decide +kernel) (pa_cons (pv 2) pa_nil)) pa_nil))) pa_nil))) (by rfl))
      (pss_cons (ps_for PassesOwn.never rfl (pi_range1 (by rfl) T.range (pa_cons (pv 1) pa_nil)) (pg_name (i := 6) scW.nd rfl (.inl rfl))
        (pss_cons (ps_par (i := 7) (j := 8) (by rfl) scW.nd rfl rfl (by decide) rfl rfl (pa_cons (pe_call GD (hr.mono (by omega)) (by rfl) T.gD T.kD bD .nil pass0 (pa_cons (pv 0) (pa_cons pe_int pa_nil)))
            (pa_cons (pe_ix ix_list (pv 2) (pe_op op_mod (pe_callTy call_int1 (by rfl) T.int (by decide +kernel) (pa_cons (pe_op op_add (pv 5) (pv 6)) pa_nil)) (pe_callB call_len (by rfl) T.len (by decide +kernel) (pa_cons (pv 2) pa_nil))) (fun _ _ => rfl)) pa_nil)) (by rfl))
        (C8.pss_cut (ps_if (pt_mono (PW.pt (pw_or (pt_cmpR op_lt (pv 7) pe_int (nomark _)) (pw_or1 (pt_cmpR op_in_seq (pv 8) (pv 4) rfl)))))
          (pss_cons (ps_set (i := 8) scW.nd rfl (.inl rfl) (pe_mono (pe_ifExp (PW.pt (pw_and (pt_cmpR op_eq (pv 7) pe_int (nomark _)) (pw_and1 (pt_cmpR (op_neD hu64) (pv 4) (pe_lst pa_nil) (nomark _)))))
              (pe_slice sl_str (pe_ix ix_list (pv 4) (pe_un un_neg pe_int) (fun _ _ => rfl)) po_none (po_some pe_int)) pe_str)))
          (pss_one (ps_for PassesOwn.never rfl (pi_range1 (by rfl) T.range (pa_cons (pe_op op_add pe_int (pe_call GD (hr.mono (by omega)) (by rfl) T.gD T.kD bD .nil pass0 (pa_cons (pv 0)
              (pa_cons (pe_call GP (hr.mono (by omega)) (by rfl) T.gP T.kP bP .nil pass0 (pa_cons (pv 0) (pa_cons (pe_lst (pa_cons pe_int (pa_cons pe_int (pa_cons (pe_op op_sub pe_int (pe_callB call_len_str (by rfl) T.len (by decide +kernel) (pa_cons (pv 8) pa_nil))) pa_nil)))) pa_nil))) pa_nil)))) pa_nil))
            (pg_name (i := 9) scW.nd rfl (.inl rfl))
            (pss_one (ps_set (i := 8) scW.nd rfl (.inl rfl) (pe_op op_add_str (pv 8) (pe_ix ix_str (pv 3) (pe_call GD (hr.mono (by omega)) (by rfl) T.gD T.kD bD .nil pass0 (pa_cons (pv 0) (pa_cons pe_int pa_nil))) (fun _ _ => rfl)))))))) pss_nil)
        (pss_cons (ps_set (i := 10) scW.nd rfl (.inl rfl) (pe_slice sl_str (pv 8) po_none (po_some pe_int)))
        (pss_cons (ps_for PassesOwn.never rfl (pi_range1 (by rfl) T.range (pa_cons pe_int pa_nil)) (pg_name (i := 9) scW.nd rfl (.inl rfl))
          (pss_one (ps_if (pt_cmpR op_in_seq (pv 8) (pv 4) rfl) (pss_one (ps_set (i := 8) scW.nd rfl (.inl rfl) (pe_op op_add_str (pv 10) (pe_ix ix_str (pv 3) (pv 9) (fun _ _ => rfl))))) pss_nil)))
        (pss_one (ps_expr (pe_bm PySem.F.plainAttrs_list PySem.F.slot_list_append PySem.F.type_list_append mt_append (pv 4) (pa_cons (pv 8) pa_nil)))))))))
      (pss_one (ps_ret (pv 4)))), ?_⟩
    refine ⟨(by show 0 ≤ sizeLine; decide), fun F0 hF0 => ?_⟩
    have nF : F0 ≠ l := fun e => by obtain ⟨_, _, _, h1, _⟩ := hw; rw [e, h1] at hF0; cases hF0
    have st0 : WSt l F0 [] H (upd H F0 (.lst [])) := ⟨fun b u ne e => by rw [upd_ne (ne_of_none e hF0)]; exact e, (by obtain ⟨a, b, c, h1, h2⟩ := hw; exact ⟨a, b, c, by rw [upd_ne (fun e => nF e.symm)]; exact h1, h2⟩), upd_same, hF0, nF⟩
    generalize upd H F0 (.lst []) = H0 at st0 ⊢
    have slen : (some_.map V.str).length = some_.length := List.length_map ..
    refine ⟨_, rfl, _, rfl, _, _, rfl, .inl ⟨_, sqL_but st0.but ne hs, rfl⟩, ?_⟩
    refine ⟨l, _, rfl, st0.well, by omega, by omega, fun r0 o0 g1 g2 w0 => ?_⟩
    have st1 := st0.draw w0
    generalize upd H0 l o0 = H1 at st1 ⊢
    refine ⟨_, _, _, rfl, ?_⟩
    refine ⟨_, rfl, n, rfl, by omega, by omega, ?_⟩
    refine for_range (n := n) (fun i σ H' => ∃ (v6 v7 v8 v9 v10 : Option V) (ws : List Str), σ = [some (.ref l), some (.int (n : Nat)), some (.ref sm), some (.str Letters), some (.ref F0), some (.int r0), v6, v7, v8, v9, v10] ∧ WSt l F0 ws H H' ∧ ws.length = i ∧ ws.Nodup ∧ ∀ z ∈ ws, LW z)
      ⟨none, none, none, none, none, [], rfl, st1, rfl, List.nodup_nil, fun _ h => nomatch h⟩ ?_ ?_
    · rintro i σ H2 hi ⟨v6, v7, v8, v9, v10, ws, rfl, st2, len, nd, lws⟩
      refine ⟨_, rfl, l, _, rfl, st2.well, by decide, by decide, fun r1 o1 g3 g4 w1 => ?_⟩
      have st3 := st2.draw w1
      generalize upd H2 l o1 = H3 at st3 ⊢
      have hs3 := sqL_but st3.but ne hs
      refine ⟨_, rfl, _, rfl, _, rfl, _, _, rfl, rfl, .inl ⟨_, rfl, _, rfl, _, _, rfl, .inl ⟨_, hs3, rfl⟩, _, _, rfl, rfl, by omega, ?_⟩⟩
      have pick : ∃ z0, some_[((r0 + (0 + (i : Int))) % ((some_.map V.str).length : Nat)).toNat]? = some z0 ∧ LW z0 := by
        have h1 := Int.emod_lt_of_pos (r0 + (0 + (i : Int))) (show (0 : Int) < ((some_.map V.str).length : Nat) by omega)
        have h2 := Int.emod_nonneg (r0 + (0 + (i : Int))) (show ((some_.map V.str).length : Int) ≠ 0 by omega)
        have h3 : ((r0 + (0 + (i : Int))) % ((some_.map V.str).length : Nat)).toNat < some_.length := by omega
        exact ⟨_, List.getElem?_eq_getElem h3, lw _ (List.getElem_mem h3)⟩
      obtain ⟨z0, hz0, lz0⟩ := pick
      refine ⟨sm, _, _, .str z0, rfl, rfl, hs3, ?_, ?_⟩
      · have e := atI_nat (xs := some_.map V.str) (j := ((r0 + (0 + (i : Int))) % ((some_.map V.str).length : Nat)).toNat) (by rw [List.getElem?_map, hz0]; rfl)
        rwa [Int.toNat_of_nonneg (Int.emod_nonneg _ (by omega))] at e
      refine ⟨_, _, rfl, ?_⟩
      refine ⟨fun σ' H' => ∃ (v6 v7 v9 v10 : Option V) (z : Str), σ' = [some (.ref l), some (.int (n : Nat)), some (.ref sm), some (.str Letters), some (.ref F0), some (.int r0), v6, v7, some (.str z), v9, v10] ∧ WSt l F0 ws H H' ∧ LW z, ?_, ?_⟩
      · refine ⟨fun b H' => H' = H3, ⟨_, rfl, _, _, rfl, rfl, _, rfl, ?_⟩, ?_⟩
        · refine ite2 (fun c => rfl) (fun c => ?_)
          exact ⟨_, rfl, _, rfl, F0, _, rfl, .inl (.of st3.at_), rfl, flat_strs _, _, rfl, rfl⟩
        rintro b H' rfl
        refine ite2 (fun c => ?_) (fun c => ?_)
        case refine_2 => exact ⟨_, _, _, _, z0, rfl, st3, lz0⟩
        refine ⟨fun v H' => ∃ z, v = .str z ∧ LP 6 z ∧ WSt l F0 ws H H', ?_, ?_⟩
        · have nil : LP 6 "" := ⟨by decide, fun c hc => by cases hc⟩
          refine ⟨_, rfl, rfl, _, rfl, ?_⟩
          refine ite2 (fun c => ?_) (fun c => ⟨_, rfl, nil, st3⟩)
          refine ⟨_, rfl, (by show 0 ≤ sizeLine; decide), fun p hp => ?_⟩
          have st4 := st3.same (same_upd (o := .lst []) hp)
          have oks : Oks ws := fun z hz => lay_of (lws z hz).2
          refine ⟨_, _, dp_lst st4.at_, dp_lst (l := []) upd_same, shaped_lst oks, shaped_lst (l := []) (fun _ h => nomatch h), _, rfl, ?_⟩
          rw [ne_nil]
          generalize upd H' p (.lst []) = H5 at st4 ⊢
          rcases List.eq_nil_or_concat ws with rfl | ⟨us, y, rfl⟩
          · exact iteF ⟨_, rfl, nil, st4⟩
          · rw [List.concat_eq_append] at st4 lws ⊢
            have e : (!(us ++ [y]).isEmpty) = true := by cases us <;> rfl
            rw [e]
            refine iteT ⟨_, rfl, _, rfl, F0, _, _, .str y, rfl, rfl, .of st4.at_, ?_, 6, rfl, y, rfl, lw_len (lws y (by simp)), _, rfl, (cut_lp (lws y (by simp)).2).1, st4⟩
            rw [List.map_append]
            exact atI_last _ _
        · rintro v H4 ⟨z1, rfl, l6, st4⟩
          have l6' := l6.1
          refine ⟨_, rfl, _, rfl, _, rfl, z1, rfl, lp_line l6 (by decide), _, _, rfl, rfl, (by show 3 ≤ sizeLine; decide), fun p hp => ?_⟩
          have st5 := st4.same (same_upd (o := .lst [.int 1, .int 2, .int (8 - (z1.length : Int))]) hp)
          have npl : p ≠ l := fun e => by obtain ⟨_, _, _, h1, _⟩ := st4.well; rw [e, h1] at hp; cases hp
          refine ⟨l, p, _, rfl, st5.well, .of upd_same, npl, (by show 0 < 3; decide), (by show 3 < 1073741824; decide), fun k x o2 hx w2 => ?_⟩
          have st6 := st5.draw w2
          generalize upd (upd H4 p _) l o2 = H6 at st6 ⊢
          obtain ⟨m, rfl, m1, m2⟩ : ∃ m : Int, x = .int m ∧ 1 ≤ m ∧ m ≤ 8 - (z1.length : Int) := by
            match k, hx with
            | 0, hx => exact ⟨1, (Option.some.inj hx).symm, by omega, by omega⟩
            | 1, hx => exact ⟨2, (Option.some.inj hx).symm, by omega, by omega⟩
            | 2, hx => exact ⟨_, (Option.some.inj hx).symm, by omega, by omega⟩
            | k + 3, hx => cases hx
          refine ⟨l, m, rfl, st6.well, by omega, by omega, fun r3 o3 g5 g6 w3 => ?_⟩
          have st7 := st6.draw w3
          generalize upd H6 l o3 = H7 at st7 ⊢
          refine ⟨_, _, rfl, rfl, _, rfl, by omega, by omega, ?_⟩
          refine for_range (n := (1 + r3).toNat) (fun j σ H' => ∃ (v9 : Option V) (y : Str), σ = [some (.ref l), some (.int (n : Nat)), some (.ref sm), some (.str Letters), some (.ref F0), some (.int r0), some (.int (0 + (i : Int))), some (.int r1), some (.str y), v9, v10] ∧ WSt l F0 ws H H' ∧ LP (z1.length + j) y ∧ (1 ≤ j → 1 ≤ y.length))
            ⟨v9, z1, rfl, st7, ⟨Nat.le_refl _, l6.2⟩, fun h => by omega⟩ ?_ ?_
          · rintro j σ H8 hj ⟨w9, y, rfl, st8, ly, _⟩
            refine ⟨_, rfl, _, rfl, _, rfl, l, _, rfl, st8.well, by decide, by decide, fun r4 o4 g7 g8 w4 => ?_⟩
            have st9 := st8.draw w4
            refine ⟨Letters, r4, 97 + r4.toNat, rfl, rfl, by decide, ?_, _, _, rfl, rfl, ?_, ?_⟩
            · have e := atI_nat (letter_at r4.toNat (by omega))
              rwa [Int.toNat_of_nonneg g7] at e
            · have := ly.1
              exact Nat.le_trans (by omega : y.length + 1 ≤ 20) (by decide : 20 ≤ sizeLine)
            · exact ⟨_, _, rfl, st9, lp_snoc (t := r4.toNat) ly (by omega), fun _ => by rw [app_len]; exact Nat.le_add_left _ _⟩
          · rintro σ H8 ⟨w9, y, rfl, st8, ly, y1⟩
            exact ⟨_, _, _, _, y, rfl, st8, y1 (by omega), lp_le ly (by omega)⟩
      · rintro σ' H4 ⟨v6, v7, v9, v10, z, rfl, st4, lz⟩
        refine ⟨_, rfl, 7, rfl, z, rfl, lw_len lz, ?_⟩
        obtain ⟨ls, ls1⟩ := cut_lp (m := 7) lz.2
        have ls1 := ls1 lz.1 (by decide)
        generalize cutS z none (some (7 : Int)) = stem at ls ls1 ⊢
        refine ⟨26, rfl, by decide, by decide, for_range (n := 26) (fun j σ H' => ∃ (v9 : Option V) (y : Str), σ = [some (.ref l), some (.int (n : Nat)), some (.ref sm), some (.str Letters), some (.ref F0), some (.int r0), v6, v7, some (.str y), v9, some (.str stem)] ∧ H' = H4 ∧ LW y ∧
          (y ∉ ws ∨ ((∀ t, t + 1 < j → stem ++ ltr t ∈ ws) ∧ (1 ≤ j → y = stem ++ ltr (j - 1))))) ⟨v9, z, rfl, rfl, lz, .inr ⟨fun t h => by omega, fun h => by omega⟩⟩ ?_ ?_⟩
        · rintro j σ H5 hj ⟨w9, y, rfl, rfl, ly, way⟩
          refine ⟨_, rfl, _, rfl, F0, _, rfl, .inl (.of st4.at_), rfl, flat_strs _, _, rfl, ?_⟩
          rw [inV_strs]
          refine ite2 (fun c => ?_) (fun c => ?_)
          · have c : y ∈ ws := of_decide_eq_true c
            refine ⟨_, rfl, _, rfl, _, rfl, Letters, _, 97 + j, rfl, rfl, by decide, ?_, _, _, rfl, rfl, ?_, ?_⟩
            · rw [Int.zero_add]
              exact atI_nat (letter_at j hj)
            · exact Nat.le_trans (Nat.add_le_add_right ls.1 _) (by decide : 7 + 1 ≤ sizeLine)
            · refine ⟨_, stem ++ ltr j, rfl, rfl, ⟨by rw [app_len]; omega, lp_snoc ls hj⟩, .inr ⟨fun t ht => ?_, fun _ => rfl⟩⟩
              rcases way with h | ⟨h1, h2⟩
              · exact (h c).elim
              · by_cases e : t + 1 < j
                · exact h1 t e
                · have e2 : t = j - 1 := by omega
                  rw [e2, ← h2 (by omega)]
                  exact c
          · have c : y ∉ ws := by simpa using c
            exact ⟨_, y, rfl, rfl, ly, .inl c⟩
        · rintro σ H5 ⟨w9, y, rfl, rfl, ly, way⟩
          have fresh : y ∉ ws := by
            rcases way with h | ⟨h1, h2⟩
            · exact h
            · exact fun _ => not_all (z := stem) (ws := ws) (by omega) fun t ht => h1 t (by omega)
          refine ⟨_, rfl, .inl ⟨rfl, _, .of st4.at_⟩, _, rfl, F0, _, _, rfl, rfl, st4.at_, ?_, ?_⟩
          · rw [List.length_map]
            exact Nat.lt_of_lt_of_le (by omega : ws.length < 20) (by decide)
          · refine ⟨_, _, _, _, _, ws ++ [y], rfl, st4.add, by rw [List.length_append, len]; rfl, ?_, fun u hu => ?_⟩
            · exact List.nodup_append.mpr ⟨nd, List.nodup_cons.mpr ⟨(fun z => nomatch z), List.nodup_nil⟩, fun a ha b hb e => fresh (by rw [← List.mem_singleton.mp hb, ← e]; exact ha)⟩
            · rcases List.mem_append.mp hu with h | h
              · exact lws u h
              · rw [List.mem_singleton.mp h]
                exact ly
    · rintro σ H2 ⟨v6, v7, v8, v9, v10, ws, rfl, st2, len, nd, lws⟩
      exact ⟨_, rfl, q H2 F0 ws st2.but st2.well hF0 nF st2.at_ len nd lws⟩
end
end Q9
end
-- QLaw7
section
set_option maxRecDepth 100000
set_option maxHeartbeats 8000000
namespace Q9
open PySem L2
abbrev lawN : List Str := ["_law_script", "_law_cell", "_law_well", "_law_kinds", "_law_words_here", "_law_names", "_law_rows", "_law_some", "_law_odd", "_law_five", "_law_seven", "_law_at", "_law_fresh", "_law_bad", "_law_first", "_law_kept", "_law_last", "_law_name", "_law_it", "_law_sign", "_law_row", "_law_far", "_law_body"]
theorem scLw : FnScope lawN ["_law_script"] (defScope sLaw) := ⟨rfl, rfl, rfl, by decide +kernel, rfl, by decide +kernel, by decide +kernel⟩
structure TLaw7 (K : PySem.W.Frag) (mg : Str → Option Value) (C fSrc fD fW fSd fOd fI p1 f1 : Addr) : Prop where
  tup : mg "tuple" = none
  len : mg "len" = none
  rep : mg "repr" = none
  gSrc : mg "_law_source" = some (.ref fSrc)
  kSrc : PySem.W.keepIn K (.ref fSrc) = true
  gD : mg "_law_draw" = some (.ref fD)
  kD : PySem.W.keepIn K (.ref fD) = true
  gW : mg "_law_words" = some (.ref fW)
  kW : PySem.W.keepIn K (.ref fW) = true
  gSd : mg "_law_said" = some (.ref fSd)
  kSd : PySem.W.keepIn K (.ref fSd) = true
  gOd : mg "_law_odd_function" = some (.ref fOd)
  kOd : PySem.W.keepIn K (.ref fOd) = true
  gC : mg "Kind" = some (.ref C)
  mkK : Mk K C fI
  cl : Cls K C
  nameP : PropOf K C "name" p1 f1
  kL : PySem.W.kitOne K (.ref C) (.type "list") = some false
  kT : PySem.W.kitOne K (.ref C) (.type "tuple") = some false
  kN : PySem.W.kitOne K (.type "NoneType") (.ref C) = some false
  kS : PySem.W.kitOne K (.type "str") (.ref C) = some false
section
variable {P : Program} {w : World} {K : PySem.W.Frag} {mg : Str → Option Value} {base : Heap} {C CB fSrc fD fW fSd fOd fI p1 f1 : Addr}
theorem ok_law7 {f : Addr} {fd dI dSrc dD dW dSd dOd dN : FuncData} (F : Fun K "law" "law" sLaw f fd) (T : TLaw7 K mg C fSrc fD fW fSd fOd fI p1 f1) (TE : TKE K mg C) (lo : ∃ o, base.get? sysModules = some o)
    (GSrc : FnOk P w K mg base CX0 1 fSrc dSrc ["_law_cell"] spSource) (bSrc : Binds K dSrc ["_law_cell"] [])
    (GD : FnOk P w K mg base CX0 1 fD dD ["_law_well", "_law_many"] spDraw) (bD : Binds K dD ["_law_well", "_law_many"] [])
    (GW : FnOk P w K mg base CX0 3 fW dW wordsPs (spWords K)) (bW : Binds K dW wordsPs [])
    (GSd : FnOk P w K mg base CX0 9 fSd dSd ["_law_kinds", "_law_functions"] (spSaid7 C K)) (bSd : Binds K dSd ["_law_kinds", "_law_functions"] [])
    (GOd : FnOk P w K mg base CX0 3 fOd dOd ["_law_well", "_law_name", "_law_others"] (spOddF K)) (bOd : Binds K dOd ["_law_well", "_law_name", "_law_others"] [])
    (GI : FnOk P w K mg base (L2.CX P w) 6 fI dI kindPs (spKindG C CB K)) (bI : Binds K dI kindPs [])
    (GN : FnOk P w K mg base CX0 1 f1 dN ["self"] (spNameM (KAc C K))) (bN : Binds K dN ["self"] []) :
    FnOkG P w K mg base 10 f fd ["_law_script"] (fun vs H Q _ => ∃ (a : Addr) (xs : List Int), vs = [.ref a] ∧ SqL K H a (xs.map V.int) ∧ xs.length ≤ 1000 ∧ ∀ H', Same H H' → Q (.bl true) H') := by
  refine F.okG scLw (fun vs H Q E h => ?_) (fun cdv A outer s H vs Q E hg hr h => ?_)
  · obtain ⟨a, xs, rfl, _⟩ := h
    rfl
  · obtain ⟨a, xs, rfl, ha, len, q⟩ := h
    have hu := hu_of hr
    have hu64 := hr.units
    refine ⟨_, pss_cons (ps_for PassesOwn.never rfl (pi_list (pe_op op_cat (pe_slice sl_list (pv 0) po_none (po_some pe_int)) (pe_lst (pa_cons pe_int pa_nil)))) (pg_name (i := 1) scLw.nd rfl (.inl rfl))
        (C8.pss_cut (ps_set (i := 2) scLw.nd rfl (.inr rfl) (pe_call GSrc (hr.mono (by omega)) (by rfl) T.gSrc T.kSrc bSrc .nil pass0 (pa_cons (pv 1) pa_nil)))
        (C8.pss_cut (ps_setLc (i := 3) (te := tKind C CB K) (own := [("_law_name", 17)]) (g := gName 17) (tt := tYes) rfl scLw.nd rfl rfl (sw_true rfl rfl rfl (by decide +kernel)) (pi_list (pe_call GW (hr.mono (by omega)) (by rfl) T.gW T.kW bW .nil pass0 (pa_cons (pv 2) (pa_cons (pe_op op_add pe_int (pe_call GD (hr.mono (by omega)) (by rfl) T.gD T.kD bD .nil pass0 (pa_cons (pv 2) (pa_cons pe_int pa_nil)))) (pa_cons (pe_lst (pa_cons pe_str (pa_cons pe_str (pa_cons pe_str pa_nil)))) pa_nil))))) (blkOk_by (own := [("_law_name", 17)]) (N := lawN) (sc := defScope sLaw) (by decide +kernel)) (fun _ _ _ _ _ => pg_name (i := 17) scLw.nd rfl (.inl rfl)) (fun _ _ _ _ _ => pts_nil) (fun _ _ _ _ _ => pe_make T.mkK GI (hr.mono (by omega)) (by rfl) T.gC bI .nil pass0X (pa_cons (pv 17) (pa_cons pe_str (pa_cons (pe_lst pa_nil) (pa_cons pe_dnewT pa_nil))))))
        (C8.pss_cut (ps_set (i := 4) scLw.nd rfl (.inr rfl) (pe_call GW (hr.mono (by omega)) (by rfl) T.gW T.kW bW .nil pass0 (pa_cons (pv 2) (pa_cons pe_int (pa_cons (pe_lst (pa_cons pe_str (pa_cons pe_str (pa_cons pe_str (pa_cons pe_str pa_nil))))) pa_nil)))))
        (C8.pss_cut (ps_set (i := 5) scLw.nd rfl (.inl rfl) (pe_slice sl_list (pe_lc (te := tVar 17) (own := [("_law_name", 17)]) (g := gName 17) rfl scLw.nd (pi_list (pv 4)) (blkOk_by (own := [("_law_name", 17)]) (N := lawN) (sc := defScope sLaw) (by decide +kernel)) (fun _ _ _ _ _ => pg_name (i := 17) scLw.nd rfl (.inl rfl)) (fun _ _ _ _ _ => pts_one (pt_cmpR op_ne (pv 17) pe_str (nomark _))) (fun _ _ _ _ _ => pv 17)) po_none (po_some (pe_call GD (hr.mono (by omega)) (by rfl) T.gD T.kD bD .nil pass0 (pa_cons (pv 2) (pa_cons pe_int pa_nil))))))
        (C8.pss_cut (ps_setLc (i := 6) (te := tTup (tCons (tVar 17) (tCons (tSl (rSlL K) (tVar 4) tNoPart (tPart (tCall spDraw [] E0 (tCons (tVar 2) (tCons (tC (.int 4)) tNil))))) (tCons (tLst (tCons (tTup (tCons (tC (.str "wait")) tNil)) tNil)) tNil)))) (own := [("_law_name", 17)]) (g := gName 17) (tt := tYes) rfl scLw.nd rfl rfl (sw_true rfl rfl rfl (by decide +kernel)) (pi_list (pv 5)) (blkOk_by (own := [("_law_name", 17)]) (N := lawN) (sc := defScope sLaw) (by decide +kernel)) (fun _ _ _ _ _ => pg_name (i := 17) scLw.nd rfl (.inl rfl)) (fun _ _ _ _ _ => pts_nil) (fun _ _ _ _ _ => pe_tup (pa_cons (pv 17) (pa_cons (pe_slice sl_list (pv 4) po_none (po_some (pe_call GD (hr.mono (by omega)) (by rfl) T.gD T.kD bD .nil pass0 (pa_cons (pv 2) (pa_cons pe_int pa_nil))))) (pa_cons (pe_lst (pa_cons (pe_tup (pa_cons pe_str pa_nil)) pa_nil)) pa_nil)))))
        (C8.pss_cut (ps_expr (pe_bm PySem.F.plainAttrs_list PySem.F.slot_list_insert PySem.F.type_list_insert mt_insert (pv 6) (pa_cons (pe_call GD (hr.mono (by omega)) (by rfl) T.gD T.kD bD .nil pass0 (pa_cons (pv 2) (pa_cons (pe_op op_add (pe_callB call_len_seq (by rfl) T.len PySem.boot_len (pa_cons (pv 6) pa_nil)) pe_int) pa_nil))) (pa_cons (pe_tup (pa_cons pe_str (pa_cons (pe_lst pa_nil) (pa_cons (pe_tup pa_nil) pa_nil)))) pa_nil))))
        (C8.pss_cut (ps_if (PW.pt (pw_or (pt_cmp (pc_notN (pe_call GSd (hr.mono (by omega)) (by rfl) T.gSd T.kSd bSd .nil pass0 (pa_cons (pv 3) (pa_cons (pv 6) pa_nil))))) (pw_or1 (pt_cmp (pc_notN (pe_call GSd (hr.mono (by omega)) (by rfl) T.gSd T.kSd bSd .nil pass0 (pa_cons (pe_callTy cr_tupOf (by rfl) T.tup (by decide +kernel) (pa_cons (pv 3) pa_nil)) (pa_cons (pe_callTy cr_tupOf (by rfl) T.tup (by decide +kernel) (pa_cons (pv 6) pa_nil)) pa_nil)))))))) (pss_one (ps_ret pe_bl)) pss_nil)
        (C8.pss_cut (ps_set (i := 7) scLw.nd rfl (.inl rfl) (pe_lst (pa_cons pe_non (pa_cons pe_int (pa_cons pe_str (pa_cons pe_dnewT (pa_cons (pe_lst pa_nil) (pa_cons (pe_tup pa_nil) (pa_cons (pe_op op_cat (pv 3) (pe_slice sl_list (pv 3) po_none (po_some pe_int))) (pa_cons (pe_lst (pa_cons pe_non pa_nil)) (pa_cons (pe_op op_cat (pe_slice sl_list (pv 3) po_none (po_some pe_int)) (pe_lst (pa_cons pe_str pa_nil))) (pa_cons (pe_lst (pa_cons (pe_prop (pe_ix ix_list (pv 3) pe_int (fun _ _ => rfl)) T.cl T.nameP GN (hr.mono (by omega)) bN .nil pass0 rfl) pa_nil)) pa_nil))))))))))))
        (C8.pss_cut (ps_for PassesOwn.never rfl (pi_list (pe_op op_cat (pv 7) (pe_lst (pa_cons (pe_ix ix_list (pv 3) pe_int (fun _ _ => rfl)) pa_nil)))) (pg_name (i := 8) scLw.nd rfl (.inl rfl)) (pss_one (ps_if (PW.pt (pw_or (pt_cmpR (op_neD hu64) (pe_call GSd (hr.mono (by omega)) (by rfl) T.gSd T.kSd bSd .nil pass0 (pa_cons (pv 8) (pa_cons (pv 6) pa_nil))) (pe_tup pa_nil) (nomark _)) (pw_or1 (pt_cmpR (op_neD hu64) (pe_call GSd (hr.mono (by omega)) (by rfl) T.gSd T.kSd bSd .nil pass0 (pa_cons (pv 8) (pa_cons (pe_lst (pa_cons pe_non pa_nil)) pa_nil))) (pe_tup pa_nil) (nomark _))))) (pss_one (ps_ret pe_bl)) pss_nil)))
        (C8.pss_cut (ps_setLc (i := 9) (te := tKind C CB K) (own := [("_law_name", 17)]) (g := gName 17) (tt := tYes) rfl scLw.nd rfl rfl (sw_true rfl rfl rfl (by decide +kernel)) (pi_row (pe_tup (pa_cons pe_str (pa_cons pe_str (pa_cons pe_str (pa_cons pe_str (pa_cons pe_str pa_nil))))))) (blkOk_by (own := [("_law_name", 17)]) (N := lawN) (sc := defScope sLaw) (by decide +kernel)) (fun _ _ _ _ _ => pg_name (i := 17) scLw.nd rfl (.inl rfl)) (fun _ _ _ _ _ => pts_nil) (fun _ _ _ _ _ => pe_make T.mkK GI (hr.mono (by omega)) (by rfl) T.gC bI .nil pass0X (pa_cons (pv 17) (pa_cons pe_str (pa_cons (pe_lst pa_nil) (pa_cons pe_dnewT pa_nil))))))
        (C8.pss_cut (ps_set (i := 10) scLw.nd rfl (.inl rfl) (pe_op op_cat (pe_lst (pa_cons (pe_tup (pa_cons pe_str (pa_cons (pe_tup pa_nil) (pa_cons (pe_tup pa_nil) pa_nil)))) pa_nil)) (pe_lc (te := tTup (tCons (tVar 17) (tCons (tTup tNil) (tCons (tTup tNil) tNil)))) (own := [("_law_name", 17)]) (g := gName 17) (tt := tYes) rfl scLw.nd (pi_row (pe_tup (pa_cons pe_str (pa_cons pe_str (pa_cons pe_str (pa_cons pe_str (pa_cons pe_str (pa_cons pe_str pa_nil)))))))) (blkOk_by (own := [("_law_name", 17)]) (N := lawN) (sc := defScope sLaw) (by decide +kernel)) (fun _ _ _ _ _ => pg_name (i := 17) scLw.nd rfl (.inl rfl)) (fun _ _ _ _ _ => pts_nil) (fun _ _ _ _ _ => pe_tup (pa_cons (pv 17) (pa_cons (pe_tup pa_nil) (pa_cons (pe_tup pa_nil) pa_nil)))))))
        (C8.pss_cut (ps_for PassesOwn.never rfl (pi_row (pe_tup (pa_cons pe_non (pa_cons pe_int (pa_cons pe_str (pa_cons pe_dnewT (pa_cons (pe_lst pa_nil) (pa_cons (pe_tup pa_nil) (pa_cons (pv 10) pa_nil))))))))) (pg_name (i := 8) scLw.nd rfl (.inl rfl)) (pss_one (ps_if (PW.pt (pw_or (pt_cmpR (op_neD hu64) (pe_call GSd (hr.mono (by omega)) (by rfl) T.gSd T.kSd bSd .nil pass0 (pa_cons (pv 3) (pa_cons (pv 8) pa_nil))) (pe_tup pa_nil) (nomark _)) (pw_or1 (pt_cmpR (op_neD hu64) (pe_call GSd (hr.mono (by omega)) (by rfl) T.gSd T.kSd bSd .nil pass0 (pa_cons (pv 9) (pa_cons (pe_slice sl_list (pv 10) po_none (po_some pe_int)) pa_nil))) (pe_tup pa_nil) (nomark _))))) (pss_one (ps_ret pe_bl)) pss_nil)))
        (C8.pss_cut (ps_set (i := 11) scLw.nd rfl (.inl rfl) (pe_call GD (hr.mono (by omega)) (by rfl) T.gD T.kD bD .nil pass0 (pa_cons (pv 2) (pa_cons (pe_callB call_len_seq (by rfl) T.len PySem.boot_len (pa_cons (pv 6) pa_nil)) pa_nil))))
        (C8.pss_cut (ps_setLc (i := 12) (te := tVar 18) (own := [("_law_it", 18)]) (g := gName 18) rfl scLw.nd rfl rfl (sw_true rfl rfl rfl (by decide +kernel)) (pi_list (pe_lc (te := tOp (fun x y H Q => ∃ i j, x = .str i ∧ y = .str j ∧ i.length + j.length ≤ sizeLine ∧ Q (.str (i ++ j)) H) (tC (.str "zzzzzzz")) (tVar 19)) (own := [("_law_sign", 19)]) (g := gName 19) (tt := tYes) rfl scLw.nd (pi_str pe_str) (blkOk_by (own := [("_law_sign", 19)]) (N := lawN) (sc := defScope sLaw) (by decide +kernel)) (fun _ _ _ _ _ => pg_name (i := 19) scLw.nd rfl (.inl rfl)) (fun _ _ _ _ _ => pts_nil) (fun _ _ _ _ _ => pe_op op_add_str pe_str (pv 19)))) (blkOk_by (own := [("_law_it", 18)]) (N := lawN) (sc := defScope sLaw) (by decide +kernel)) (fun _ _ _ _ _ => pg_name (i := 18) scLw.nd rfl (.inl rfl)) (fun _ _ _ _ _ => pts_one (pt_cmpR (r := rIn K true) op_notIn_seq (pv 18) (pv 4) (by rfl))) (fun _ _ _ _ _ => pv 18))
        (C8.pss_cut (ps_set (i := 8) scLw.nd rfl (.inl rfl) (pe_call GOd (hr.mono (by omega)) (by rfl) T.gOd T.kOd bOd .nil pass0 (pa_cons (pv 2) (pa_cons (pe_ix ix_list (pv 12) pe_int (fun _ _ => rfl)) (pa_cons (pe_lc (te := tOp (rIx K) (tVar 20) (tC (.int 0))) (own := [("_law_row", 20)]) (g := gName 20) (tt := tYes) rfl scLw.nd (pi_list (pe_slice sl_list (pv 6) po_none (po_some (pv 11)))) (blkOk_by (own := [("_law_row", 20)]) (N := lawN) (sc := defScope sLaw) (by decide +kernel)) (fun _ _ _ _ _ => pg_name (i := 20) scLw.nd rfl (.inl rfl)) (fun _ _ _ _ _ => pts_nil) (fun _ _ _ _ _ => pe_ix (r := rIx K) ix_seq (pv 20) pe_int (fun _ _ => rfl))) pa_nil)))))
        (C8.pss_cut (ps_set (i := 13) scLw.nd rfl (.inl rfl) (pe_op op_cat (pe_op op_cat (pe_slice sl_list (pv 6) po_none (po_some (pv 11))) (pe_lst (pa_cons (pv 8) pa_nil))) (pe_slice sl_list (pe_lc (te := tTup (tCons (tVar 17) (tCons (tLst (tCons (tC (.str "x")) tNil)) (tCons (tLst (tCons (tC .non) tNil)) tNil)))) (own := [("_law_name", 17)]) (g := gName 17) (tt := tYes) rfl scLw.nd (pi_list (pe_slice sl_list (pv 12) (po_some pe_int) (po_some pe_int))) (blkOk_by (own := [("_law_name", 17)]) (N := lawN) (sc := defScope sLaw) (by decide +kernel)) (fun _ _ _ _ _ => pg_name (i := 17) scLw.nd rfl (.inl rfl)) (fun _ _ _ _ _ => pts_nil) (fun _ _ _ _ _ => pe_tup (pa_cons (pv 17) (pa_cons (pe_lst (pa_cons pe_str pa_nil)) (pa_cons (pe_lst (pa_cons pe_non pa_nil)) pa_nil))))) po_none (po_some (pe_op op_sub pe_int (pv 11))))))
        (C8.pss_cut (ps_set (i := 14) scLw.nd rfl (.inl rfl) (pe_op op_cat (pe_lst (pa_cons (pe_tup (pa_cons (pe_ix ix_list (pv 12) pe_int (fun _ _ => rfl)) (pa_cons (pe_tup pa_nil) (pa_cons (pe_lst (pa_cons pe_non pa_nil)) pa_nil)))) pa_nil)) (pv 13)))
        (C8.pss_cut (ps_set (i := 15) scLw.nd rfl (.inl rfl) (pe_callB (call_reprD hg hu64 lo) (by rfl) T.rep (by decide +kernel) (pa_cons (pv 13) pa_nil)))
        (C8.pss_cut (ps_if (PW.pt (pw_or (pt_cmpR (op_neD hu64) (pe_call GSd (hr.mono (by omega)) (by rfl) T.gSd T.kSd bSd .nil pass0 (pa_cons (pv 3) (pa_cons (pv 13) pa_nil))) (pe_tup (pa_cons (pv 11) pa_nil)) (nomark _)) (pw_or1 (PW.pt (pw_and (pt_cmpR op_lt (pe_callB call_len_seq (by rfl) T.len PySem.boot_len (pa_cons (pv 14) pa_nil)) pe_int (nomark _)) (pw_and1 (pt_cmpR (op_neD hu64) (pe_call GSd (hr.mono (by omega)) (by rfl) T.gSd T.kSd bSd .nil pass0 (pa_cons (pv 3) (pa_cons (pv 14) pa_nil))) (pe_tup (pa_cons (pe_op op_add (pv 11) pe_int) pa_nil)) (nomark _)))))))) (pss_one (ps_ret pe_bl)) pss_nil)
        (C8.pss_cut (ps_setLc (i := 7) (te := tVar 20) (own := [("_law_row", 20)]) (g := gName 20) rfl scLw.nd rfl rfl (sw_true rfl rfl rfl (by decide +kernel)) (pi_list (pv 6)) (blkOk_by (own := [("_law_row", 20)]) (N := lawN) (sc := defScope sLaw) (by decide +kernel)) (fun _ _ _ _ _ => pg_name (i := 20) scLw.nd rfl (.inl rfl)) (fun _ _ _ _ _ => pts_one (pt_cmpR op_ne (pe_ix (r := rIx K) ix_seq (pv 20) pe_int (fun _ _ => rfl)) pe_str (nomark _))) (fun _ _ _ _ _ => pv 20))
        (C8.pss_cut (ps_setLc (i := 16) (te := tTup (tCons (tVar 17) (tCons (tVar 21) (tCons (tLst (tCons (tC .non) tNil)) tNil)))) (own := [("_law_name", 17), ("_law_far", 21), ("_law_body", 22)]) (g := gTup K 3 (gCons (gName 17) (gCons (gName 21) (gCons (gName 22) gNil)))) (tt := tYes) rfl scLw.nd rfl rfl (sw_true rfl rfl rfl (by decide +kernel)) (pi_list (pv 7)) (blkOk_by (own := [("_law_name", 17), ("_law_far", 21), ("_law_body", 22)]) (N := lawN) (sc := defScope sLaw) (by decide +kernel)) (fun _ _ _ _ _ => pg_tup rfl (pgs_cons (pg_name (i := 17) scLw.nd rfl (.inl rfl)) (pgs_cons (pg_name (i := 21) scLw.nd rfl (.inl rfl)) (pgs_cons (pg_name (i := 22) scLw.nd rfl (.inl rfl)) pgs_nil)))) (fun _ _ _ _ _ => pts_nil) (fun _ _ _ _ _ => pe_tup (pa_cons (pv 17) (pa_cons (pv 21) (pa_cons (pe_lst (pa_cons pe_non pa_nil)) pa_nil)))))
        (C8.pss_cut (ps_if (PW.pt (pw_or (pt_cmpR op_ne (pe_callB (call_reprD hg hu64 lo) (by rfl) T.rep (by decide +kernel) (pa_cons (pv 13) pa_nil)) (pv 15) (nomark _)) (pw_or1 (PW.pt (pw_and (pt_cmpR (op_neD hu64) (pv 7) (pe_lst pa_nil) (nomark _)) (pw_and1 (pt_cmpR (op_neD hu64) (pe_call GSd (hr.mono (by omega)) (by rfl) T.gSd T.kSd bSd .nil pass0 (pa_cons (pv 3) (pa_cons (pv 16) pa_nil))) (pe_tup pa_nil) (nomark _)))))))) (pss_one (ps_ret pe_bl)) pss_nil)
        (pss_one (ps_if (PW.pt (pw_or (pt_cmpR (op_neD hu64) (pe_call GSd (hr.mono (by omega)) (by rfl) T.gSd T.kSd bSd .nil pass0 (pa_cons (pv 3) (pa_cons (pe_op op_cat (pe_slice sl_list (pv 7) po_none (po_some pe_int)) (pe_lst (pa_cons (pe_tup (pa_cons pe_str (pa_cons (pe_lst (pa_cons pe_str pa_nil)) (pa_cons (pe_lst (pa_cons pe_non pa_nil)) pa_nil)))) pa_nil))) pa_nil))) (pe_tup pa_nil) (nomark _)) (pw_or1 (pt_cmp (pc_notN (pe_call GSd (hr.mono (by omega)) (by rfl) T.gSd T.kSd bSd .nil pass0 (pa_cons (pv 3) (pa_cons (pe_slice sl_list (pv 10) po_none (po_some pe_int)) pa_nil)))))))) (pss_one (ps_ret pe_bl)) pss_nil)))))))))))))))))))))))))
      (pss_one (ps_ret pe_bl)), ?_⟩
    refine ⟨_, rfl, 5, rfl, a, _, rfl, ha, fun p hp => ?_⟩
    refine ⟨(by show 1 ≤ sizeLine; decide), fun z hz => ⟨p, z, _, _, rfl, rfl, same_upd hz _ _ upd_same, upd_same, ?_, fun c hc => ?_⟩⟩
    · have := cutV_length (xs.map V.int) none (some 5)
      rw [List.length_map] at this
      show _ + 1 ≤ sizeLine
      exact Nat.le_trans (Nat.succ_le_succ (Nat.le_trans this len)) (by decide)
    obtain ⟨ys, ey⟩ : ∃ ys : List Int, cutV (xs.map V.int) none (some 5) ++ [V.int 0] = ys.map V.int := by
      refine ⟨((xs.drop (HT.sIx (xs.map V.int).length 0 none)).take (HT.sIx (xs.map V.int).length (xs.map V.int).length (some 5) - HT.sIx (xs.map V.int).length 0 none)) ++ [0], ?_⟩
      unfold cutV
      rw [List.map_append, List.map_take, List.map_drop]
      rfl
    have s0 : Same H (upd (upd (upd H p (.lst (cutV (xs.map V.int) none (some 5)))) z (.lst [.int 0])) c (.lst (cutV (xs.map V.int) none (some 5) ++ [.int 0]))) := fun b o e => by
      exact same_upd hc b o (same_upd hz b o (same_upd hp b o e))
    have hc0 : (upd (upd (upd H p (.lst (cutV (xs.map V.int) none (some 5)))) z (.lst [.int 0])) c (.lst (cutV (xs.map V.int) none (some 5) ++ [.int 0]))) c = some (.lst (ys.map V.int)) := by rw [upd_same, ey]
    generalize upd (upd (upd H p (.lst (cutV (xs.map V.int) none (some 5)))) z (.lst [.int 0])) c (.lst (cutV (xs.map V.int) none (some 5) ++ [.int 0])) = H0 at s0 hc0 ⊢
    clear hp hz hc
    refine ⟨c, rfl, ⟨_, .of hc0⟩, for_list (K := K) (a := c) (xs := ys.map V.int) (fun i σ H' => ∃ y1 y2 y3 y4 y5 y6 y7 y8 y9 y10 y11 y12 y13 y14 y15 y16 y17 y18 y19 y20 y21 y22 : Option V, σ = [some (.ref a), y1, y2, y3, y4, y5, y6, y7, y8, y9, y10, y11, y12, y13, y14, y15, y16, y17, y18, y19, y20, y21, y22] ∧ Same H0 H')
      ⟨_, _, _, _, _, _, _, _, _, _, _, _, _, _, _, _, _, _, _, _, _, _, rfl, Same.refl _⟩ (fun i σ H' _ ⟨_, _, _, _, _, _, _, _, _, _, _, _, _, _, _, _, _, _, _, _, _, _, _, s⟩ => .of (s _ _ hc0)) ?_ ?_⟩
    case refine_2 =>
      rintro σ H1 ⟨y1, y2, y3, y4, y5, y6, y7, y8, y9, y10, y11, y12, y13, y14, y15, y16, y17, y18, y19, y20, y21, y22, rfl, s1⟩
      exact q H1 (s0.trans s1)
    rintro i x σ H1 hx ⟨y1, y2, y3, y4, y5, y6, y7, y8, y9, y10, y11, y12, y13, y14, y15, y16, y17, y18, y19, y20, y21, y22, rfl, s1⟩
    obtain ⟨n, rfl⟩ : ∃ n : Int, x = V.int n := by
      rw [List.getElem?_map] at hx
      obtain ⟨n, _, h2⟩ := Option.map_eq_some_iff.mp hx
      exact ⟨n, h2.symm⟩
    clear hx
    -- the well
    refine ⟨fun σ H' => ∃ l, σ = [some (.ref a), some (.int n), some (.ref l), y3, y4, y5, y6, y7, y8, y9, y10, y11, y12, y13, y14, y15, y16, y17, y18, y19, y20, y21, y22] ∧ Same H1 H' ∧ H1 l = none ∧ Well H' l, ?_, ?_⟩
    · exact ⟨_, rfl, n, rfl, fun l w nl wB => ⟨l, rfl, same_upd nl, nl, wB⟩⟩
    rintro σ H2 ⟨l, rfl, s2, nl1, w2⟩
    have fin : ∀ {H'}, But l H2 H' → Same H1 H' := fun b c o e => b _ _ (ne_of_none e nl1) (s2 _ _ e)
    -- the kinds
    refine ⟨fun σ H' => ∃ (kp : Addr) (kvs : List V) (ns : List Str), σ = [some (.ref a), some (.int n), some (.ref l), some (.ref kp), y4, y5, y6, y7, y8, y9, y10, y11, y12, y13, y14, y15, y16, y17, y18, y19, y20, y21, y22] ∧ Same H1 H' ∧ Well H' l ∧ KF C K (del H' l) kp kvs ns ∧ ns.length ≤ 4, ?_, ?_⟩
    · refine ⟨_, rfl, _, rfl, l, 4, rfl, w2, by decide, by decide, fun r w r0 r1 w3 => ⟨1, r, rfl, rfl, (by show 3 ≤ sizeLine; decide), fun sm hsm => ?_⟩⟩
      have b3 : But l H2 (upd H2 l w) := But.upd
      have s4 := same_upd (o := .lst [.str "main", .str "file", .str "a"]) hsm
      have b4 : But l H2 (upd (upd H2 l w) sm (.lst [.str "main", .str "file", .str "a"])) := b3.trans (But.of s4)
      have w4 := well_same s4 w3
      have nsl := new_ne w3 hsm
      refine ⟨l, sm, (1 + r).toNat, ["main", "file", "a"], ?_, w4, .of upd_same, nsl, by decide, by decide, by omega, ?_, fun H5 p5 ws b5 w5 np npl hp5 lw5 nd5 lws5 => ?_⟩
      · rw [Int.toNat_of_nonneg (by omega)]
        rfl
      · exact lws_of (by decide +kernel)
      refine ⟨p5, rfl, ⟨_, .of hp5⟩, fun D hD => ?_⟩
      obtain ⟨w1', w2', w3', hl5, _⟩ := id w5
      refine kinds_it (CB := CB) (J := Itl K p5) (G := fun H' => SqL K H' p5 (ws.map V.str)) (by have := walk_list (K := K) (a := p5) (xs := ws.map V.str); rw [List.length_map] at this; exact this) hl5 hD (fun H' s => .of (s _ _ hp5)) (fun v => rfl) (fun v => rfl) lws5 (by omega) fun H6 vs s6 h6 pk => ?_
      have nDl : D ≠ l := fun z => by rw [z, hl5] at hD; cases hD
      refine ⟨D, vs, ws, rfl, fin ((b4.trans b5).trans (But.of s6)), well_same s6 w5, ⟨by rw [del_ne nDl]; exact h6, pk, nd5, by omega, by omega⟩, by omega⟩
    rintro σ H3 ⟨kp, kvs, ns, rfl, s3, w3, kf, n4⟩
    clear w2 s2 fin
    -- the words
    refine ⟨fun σ H' => ∃ (wp : Addr) (ws : List Str), σ = [some (.ref a), some (.int n), some (.ref l), some (.ref kp), some (.ref wp), y5, y6, y7, y8, y9, y10, y11, y12, y13, y14, y15, y16, y17, y18, y19, y20, y21, y22] ∧ Same H1 H' ∧ Well H' l ∧ KF C K (del H' l) kp kvs ns ∧ WF (del H' l) wp ws, ?_, ?_⟩
    · refine ⟨_, rfl, (by show 4 ≤ sizeLine; decide), fun sm hsm => ?_⟩
      have s4 := same_upd (o := .lst [.str "f", .str "g", .str "call", .str "with"]) hsm
      have w4 := well_same s4 w3
      refine ⟨l, sm, 8, ["f", "g", "call", "with"], rfl, w4, .of upd_same, new_ne w3 hsm, by decide, by decide, by decide, lws_of (by decide +kernel), fun H5 p5 ws b5 w5 np npl hp5 lw5 nd5 lws5 => ?_⟩
      have b35 := (But.of (m := l) s4).trans b5
      refine ⟨p5, ws, rfl, fun b o e => b35 _ _ (ne_of_none e nl1) (s3 _ _ e), w5, kf.up (but_del b35), ⟨by rw [del_ne npl]; exact hp5, lw5, nd5, lws5⟩⟩
    rintro σ H4 ⟨wp, ws, rfl, s4, w4, kf4, wf4⟩
    clear kf s3 w3
    -- the names
    refine ⟨fun σ H' => ∃ (np : Addr) (nms : List Str), σ = [some (.ref a), some (.int n), some (.ref l), some (.ref kp), some (.ref wp), some (.ref np), y6, y7, y8, y9, y10, y11, y12, y13, y14, y15, y16, y17, y18, y19, y20, y21, y22] ∧ Same H1 H' ∧ Well H' l ∧ KF C K (del H' l) kp kvs ns ∧ WF (del H' l) wp ws ∧ del H' l np = some (.lst (nms.map V.str)) ∧ nms.Sublist (ws.filter fun (z : Str) => decide (z ≠ ("main" : Str))) ∧ nms.length ≤ 5, ?_, ?_⟩
    · have hwp := del_less _ _ wf4.at_
      refine ⟨_, rfl, wp, rfl, ⟨_, .of hwp⟩, fun D hD => ?_⟩
      refine lc_list (K := K) (a := wp) (xs := ws.map V.str) (fun i H' => Same H4 H' ∧ H' D = some (.lst (((ws.take i).filter fun (z : Str) => decide (z ≠ ("main" : Str))).map V.str))) ⟨same_upd hD, upd_same⟩ (fun i H' _ p => .of (p.1 _ _ hwp)) ?_ ?_
      · rintro i x H' hx ⟨sj, hd⟩
        rw [List.getElem?_map] at hx
        obtain ⟨z, hz, rfl⟩ := Option.map_eq_some_iff.mp hx
        refine ⟨rfl, _, rfl, rfl, _, rfl, ?_⟩
        have ef : (ws.take (i + 1)).filter (fun (z : Str) => decide (z ≠ ("main" : Str))) = (ws.take i).filter (fun (z : Str) => decide (z ≠ ("main" : Str))) ++ if z ≠ ("main" : Str) then [z] else [] := by
          rw [take_one_more hz, List.filter_append]
          congr 1
          by_cases c : z = ("main" : Str)
          · simp [c]
          · simp [c]
        by_cases c : z = ("main" : Str)
        · rw [c]
          refine iteF ⟨sj, ?_⟩
          rw [ef, if_neg (fun h => h c), List.append_nil]
          exact hd
        · have e1 : (!decide (V.str z = V.str "main")) = true := by
            rw [Bool.not_eq_true', decide_eq_false_iff_not]
            exact fun h => c (V.str.inj h)
          rw [e1]
          refine iteT ⟨_, rfl, _, hd, ?_, fun b o e => by rw [upd_ne (ne_of_none e hD)]; exact sj _ _ e, ?_⟩
          · rw [List.length_map]
            have h1 := List.length_filter_le (fun (z : Str) => decide (z ≠ ("main" : Str))) (ws.take i)
            rw [List.length_take] at h1
            have := wf4.len
            rw [PySem.sizeLine_eq]
            omega
          · rw [upd_same, ef, if_pos c, List.map_append]
            rfl
      · rintro H5 ⟨s5, hd⟩
        rw [List.length_map, List.take_length] at hd
        have w5 := well_same s5 w4
        refine ⟨_, rfl, l, 6, rfl, w5, by decide, by decide, fun r u r0 r1 w6 => ⟨r, rfl, ?_⟩⟩
        have nDl : D ≠ l := new_ne w4 hD
        refine ⟨D, _, rfl, .of (by rw [upd_ne nDl]; exact hd), fun p hp => ?_⟩
        rw [cut_take r0, ← List.map_take]
        have s7 := same_upd (o := .lst (((ws.filter fun (z : Str) => decide (z ≠ ("main" : Str))).take r.toNat).map V.str)) hp
        have b7 : But l H4 (upd (upd H5 l u) p (.lst (((ws.filter fun (z : Str) => decide (z ≠ ("main" : Str))).take r.toNat).map V.str))) := ((But.of (m := l) s5).trans But.upd).trans (But.of s7)
        refine ⟨p, _, rfl, fun b o e => b7 _ _ (ne_of_none e nl1) (s4 _ _ e), well_same s7 w6, kf4.up (but_del b7), wf4.up (but_del b7), by rw [del_ne (new_ne w6 hp)]; exact upd_same, List.take_sublist _ _, ?_⟩
        rw [List.length_take]
        omega
    rintro σ H5 ⟨np, nms, rfl, s5, w5, kf5, wf5, hnp, snm, lnm⟩
    clear kf4 wf4 s4 w4
    -- the rows
    refine ⟨fun σ H' => ∃ (rp : Addr) (vs : List V) (ts : List (Str × List Str)), σ = [some (.ref a), some (.int n), some (.ref l), some (.ref kp), some (.ref wp), some (.ref np), some (.ref rp), y7, y8, y9, y10, y11, y12, y13, y14, y15, y16, y17, y18, y19, y20, y21, y22] ∧ Same H1 H' ∧ Well H' l ∧ KF C K (del (del H' rp) l) kp kvs ns ∧ WF (del (del H' rp) l) wp ws ∧ H1 rp = none ∧ rp ≠ l ∧ H' rp = some (.lst vs) ∧ DzAll (del (del H' rp) l) vs (ts.map fun t => dRow t.1 t.2) ∧ ts.map (·.1) = nms ∧ ∀ t ∈ ts, ∃ j ≤ 3, t.2 = ws.take j, ?_, ?_⟩
    · have hnp5 := del_less _ _ hnp
      obtain ⟨_, _, _, hl5, _⟩ := id w5
      refine ⟨_, rfl, np, rfl, ⟨_, .of hnp5⟩, fun D hD => ?_⟩
      have nDl : D ≠ l := fun z => by rw [z, hl5] at hD; cases hD
      have nnl : np ≠ l := fun z => by rw [z, del_same] at hnp; cases hnp
      have nwl : wp ≠ l := fun z => by have := wf5.at_; rw [z, del_same] at this; cases this
      have hwp5 := del_less _ _ wf5.at_
      refine lc_list (K := K) (a := np) (xs := nms.map V.str) (fun i H' => But l H5 H' ∧ Well H' l ∧ ∃ (vs : List V) (ts : List (Str × List Str)), H' D = some (.lst vs) ∧ DzAll (del (del H' D) l) vs (ts.map fun t => dRow t.1 t.2) ∧ ts.map (·.1) = nms.take i ∧ ∀ t ∈ ts, ∃ j ≤ 3, t.2 = ws.take j) ⟨But.of (same_upd hD), well_upd nDl w5, [], [], upd_same, .nil, rfl, fun t ht => (nomatch ht)⟩ (fun i H' _ p => .of (p.1 _ _ nnl hnp5)) ?_ ?_
      · rintro i x H' hx ⟨b', w', vs, ts, hd, dz, en, js⟩
        rw [List.getElem?_map] at hx
        obtain ⟨z, hz, rfl⟩ := Option.map_eq_some_iff.mp hx
        refine ⟨rfl, ?_⟩
        dsimp only [tYes]
        rw [if_pos rfl]
        refine ⟨_, rfl, _, rfl, _, rfl, l, 4, rfl, w', by decide, by decide, fun r u r0 r1 w6 => ⟨r, rfl, wp, _, rfl, .of (by rw [upd_ne nwl]; exact b' _ _ nwl hwp5), fun p hp => ⟨(by show 1 ≤ sizeLine; decide), fun q1 hq1 => ⟨(by show 1 ≤ sizeLine; decide), fun q2 hq2 => ⟨(by show 3 ≤ sizeLine; decide), fun q3 hq3 => ?_⟩⟩⟩⟩⟩
        rw [cut_take r0, ← List.map_take] at hq1 hq2 hq3 ⊢
        obtain ⟨_, _, _, hl6, _⟩ := id w6
        have hd6 : upd H' l u D = some (.lst vs) := by rw [upd_ne nDl]; exact hd
        have A6 : Aside (upd H' l u) (fun H => del (del H D) l) := aside2 hl6 hd6
        have sp := same_upd (o := .lst ((ws.take r.toNat).map V.str)) hp
        have sq1 := same_upd (o := .tup [.str "wait"]) hq1
        have sq2 := same_upd (o := .lst [.ref q1]) hq2
        have sq3 := same_upd (o := .tup [.str z, .ref p, .ref q2]) hq3
        have d1 := A6.new (o := .lst ((ws.take r.toNat).map V.str)) (Same.refl _) hp
        have d2 := A6.new (o := .tup [.str "wait"]) sp hq1
        have d3 := A6.new (o := .lst [.ref q1]) (sp.trans sq1) hq2
        have d4 := A6.new (o := .tup [.str z, .ref p, .ref q2]) ((sp.trans sq1).trans sq2) hq3
        have s6 := ((sp.trans sq1).trans sq2).trans sq3
        generalize upd (upd (upd (upd (upd H' l u) p (.lst ((ws.take r.toNat).map V.str))) q1 (.tup [.str "wait"])) q2 (.lst [.ref q1])) q3 (.tup [.str z, .ref p, .ref q2]) = H10 at s6 d4 sq3 ⊢
        have e1 : DzAll (del (del H10 D) l) [.ref p] [.list ((ws.take r.toNat).map .str)] := .cons (.lst (A6.mono ((sq1.trans sq2).trans sq3) _ _ d1) dzAll_strs) .nil
        have e2 : Dz (del (del H10 D) l) (.ref q2) rowB := .lst (A6.mono sq3 _ _ d3) (.cons (.tup (A6.mono (sq2.trans sq3) _ _ d2) (.cons (.str _) .nil)) .nil)
        have e4 : Dz (del (del H10 D) l) (.ref q3) (dRow z (ws.take r.toNat)) := .tup d4 (.cons (.str z) (by cases e1 with | cons a b => exact .cons a (.cons e2 .nil)))
        have b10 : But l H' H10 := But.upd.trans (But.of s6)
        have lv := dzAll_len dz
        have lt : ts.length ≤ 5 := by
          have := congrArg List.length en
          rw [List.length_map, List.length_take] at this
          omega
        rw [List.length_map] at lv
        refine ⟨vs, s6 _ _ hd6, by rw [PySem.sizeLine_eq]; omega, fun b o n e => by rw [upd_ne (ne_of_none e hD)]; exact b10 _ _ n (b' _ _ n e), well_upd nDl (well_same s6 w6), vs ++ [.ref q3], ts ++ [(z, ws.take r.toNat)], upd_same, ?_, ?_, ?_⟩
        · rw [List.map_append]
          have kp' : Same (del (del H10 D) l) (del (del (upd H10 D (.lst (vs ++ [.ref q3]))) D) l) := same_del del_upd
          exact dzAll_append (dzAll_same kp' (dzAll_same (del2_but b10) dz)) (.cons (dz_same kp' e4) .nil)
        · rw [List.map_append, en, take_one_more hz]
          rfl
        · intro t ht
          rcases List.mem_append.mp ht with h | h
          · exact js t h
          · rw [List.mem_singleton.mp h]
            exact ⟨r.toNat, by omega, rfl⟩
      · rintro H6 ⟨b6, w6, vs, ts, hd, dz, en, js⟩
        rw [List.length_map, List.take_length] at en
        have nD1 : H1 D = none := by
          cases e : H1 D with
          | none => rfl
          | some o => rw [s5 _ _ e] at hD; cases hD
        refine ⟨D, vs, ts, rfl, fun b o e => b6 _ _ (ne_of_none e nl1) (s5 _ _ e), w6, (kf5.up (del_free hD)).up (del2_but b6), (wf5.up (del_free hD)).up (del2_but b6), nD1, nDl, hd, dz, en, js⟩
    rintro σ H6 ⟨rp, vs6, tb, rfl, s6, w6, kf6, wf6, nrp, nrl, hr6, dz6, en6, js6⟩
    clear kf5 wf5 s5 w5 hnp
    -- main
    refine ⟨fun σ H' => ∃ (rvs : List V) (ts : List (Str × List Str)), σ = [some (.ref a), some (.int n), some (.ref l), some (.ref kp), some (.ref wp), some (.ref np), some (.ref rp), y7, y8, y9, y10, y11, y12, y13, y14, y15, y16, y17, y18, y19, y20, y21, y22] ∧ Same H1 H' ∧ Well H' l ∧ L7 C K (del H' l) kp wp rp kvs rvs ns ws ts, ?_, ?_⟩
    · have lv := dzAll_len dz6
      rw [List.length_map] at lv
      have lt : tb.length ≤ 5 := by
        have := congrArg List.length en6
        rw [List.length_map] at this
        omega
      refine ⟨_, rfl, .inl ⟨rfl, _, .of hr6⟩, _, rfl, _, rfl, rp, vs6, rfl, .inl (.of hr6), ⟨_, _, rfl, rfl, l, _, rfl, w6, by omega, by omega, fun r u r0 r1 w7 => ⟨(by show 0 ≤ sizeLine; decide), fun p1 hp1 => ⟨(by show 0 ≤ sizeLine; decide), fun p2 hp2 => ⟨(by show 3 ≤ sizeLine; decide), fun p3 hp3 => ?_⟩⟩⟩⟩⟩
      obtain ⟨_, _, _, hl7, _⟩ := id w7
      have hr7 : upd H6 l u rp = some (.lst vs6) := by rw [upd_ne nrl]; exact hr6
      have A7 : Aside (upd H6 l u) (fun H => del (del H rp) l) := aside2 hl7 hr7
      have sp1 := same_upd (o := .lst []) hp1
      have sp2 := same_upd (o := .tup []) hp2
      have sp3 := same_upd (o := .tup [.str "main", .ref p1, .ref p2]) hp3
      have d1 := A7.new (o := .lst []) (Same.refl _) hp1
      have d2 := A7.new (o := .tup []) sp1 hp2
      have d3 := A7.new (o := .tup [.str "main", .ref p1, .ref p2]) (sp1.trans sp2) hp3
      have s7 := (sp1.trans sp2).trans sp3
      generalize upd (upd (upd (upd H6 l u) p1 (.lst [])) p2 (.tup [])) p3 (.tup [.str "main", .ref p1, .ref p2]) = H7 at s7 d3 sp3 ⊢
      have e3 : Dz (del (del H7 rp) l) (.ref p3) dMain := .tup d3 (.cons (.str _) (.cons (.lst (A7.mono (sp2.trans sp3) _ _ d1) .nil) (.cons (.tup (A7.mono sp3 _ _ d2) .nil) .nil)))
      have b7 : But l H6 H7 := But.upd.trans (But.of s7)
      have dz7 := dzAll_same (del2_but (D := rp) b7) dz6
      have w8 := well_same s7 w7
      refine ⟨rp, vs6, r, .ref p3, rfl, rfl, s7 _ _ hr7, by rw [PySem.sizeLine_eq]; omega, r0, by omega, ?_⟩
      obtain ⟨rok, nmm⟩ := rows_ok r.toNat wf6.nd wf6.lw snm lnm en6 js6
      rw [← map_rows nmm] at dz7
      refine ⟨vs6.take r.toNat ++ [.ref p3] ++ vs6.drop r.toNat, tb.take r.toNat ++ [(("main" : Str), ([] : List Str))] ++ tb.drop r.toNat, rfl, fun b o e => by rw [upd_ne (ne_of_none e nrp)]; exact b7 _ _ (ne_of_none e nl1) (s6 _ _ e), well_upd nrl w8, ?_⟩
      have k8 : Same (del (del H7 rp) l) (del (upd H7 rp (.lst (vs6.take r.toNat ++ [.ref p3] ++ vs6.drop r.toNat))) l) := same_del (fun b o e => del_less _ _ (del_upd _ _ e))
      have up8 := (del2_but (D := rp) b7).trans k8
      refine ⟨kf6.up up8, n4, wf6.up up8, ⟨by rw [del_ne nrl]; exact upd_same, ?_, rok⟩, by simp⟩
      rw [List.map_append, List.map_append, List.map_take, List.map_drop]
      exact dzAll_same k8 (dzAll_append (dzAll_append (dzAll_take _ dz7) (.cons e3 .nil)) (dzAll_drop _ dz7))
    rintro σ H7 ⟨rvs, ts, rfl, s7, w7, L⟩
    clear kf6 wf6 s6 w6 hr6 dz6 en6 js6 snm lnm
    -- the right program, and its tuples
    have hk7 := del_less _ _ L.kf.at_
    have hr7 := del_less _ _ L.rf.at_
    refine ⟨fun σ H' => σ = [some (.ref a), some (.int n), some (.ref l), some (.ref kp), some (.ref wp), some (.ref np), some (.ref rp), y7, y8, y9, y10, y11, y12, y13, y14, y15, y16, y17, y18, y19, y20, y21, y22] ∧ Same H1 H' ∧ Well H' l ∧ L7 C K (del H' l) kp wp rp kvs rvs ns ws ts, ?_, ?_⟩
    · refine ⟨_, rfl, _, rfl, not_said (right_rows L L.kinds (row_lst hr7)) fun H8 s8 => iteF ⟨_, rfl, kp, kvs, rfl, .inl ⟨.of (s8 _ _ hk7), fun t ht => ⟨_, rfl, rp, rvs, rfl, .inl ⟨.of (same_upd ht _ _ (s8 _ _ hr7)), fun t2 ht2 => ?_⟩⟩⟩⟩⟩
      have s9 : Same H7 (upd (upd H8 t (.tup kvs)) t2 (.tup rvs)) := (s8.trans (same_upd ht)).trans (same_upd ht2)
      have L9 := L.up (same_del s9)
      have K9 : Kinds C K (upd (upd H8 t (.tup kvs)) t2 (.tup rvs)) (.ref t) (some ns) := .right (row_tup (same_upd ht2 _ _ upd_same)) (k_kn L9.kf) L9.kf.nd L9.kf.l1 L9.n4
      refine not_said (right_rows L9 K9 (row_tup upd_same)) fun H10 s10 => iteF ⟨rfl, fun b o e => s10 _ _ (s9 _ _ (s7 _ _ e)), well_same (s9.trans s10) w7, L.up (same_del (s9.trans s10))⟩
    rintro σ H8 ⟨rfl, s8, w8, L8⟩
    clear L s7 w7 hk7 hr7
    -- what is no row of kinds
    obtain ⟨k0, kr, n0, nr, rfl, rfl⟩ := k_first L8.kf.kn L8.kf.l1
    have hk8 := del_less _ _ L8.kf.at_
    have kn8 := k_kn L8.kf
    have k08 : KN C K H8 k0 n0 := by cases kn8 with | cons a b => exact a
    refine ⟨fun σ H' => ∃ (r : Addr) (vs : List V), σ = [some (.ref a), some (.int n), some (.ref l), some (.ref kp), some (.ref wp), some (.ref np), some (.ref rp), some (.ref r), y8, y9, y10, y11, y12, y13, y14, y15, y16, y17, y18, y19, y20, y21, y22] ∧ Same H8 H' ∧ H' r = some (.lst vs) ∧ vs.length ≤ 100 ∧ ∀ v ∈ vs, Kinds C K H' v none, ?_, ?_⟩
    · have c1 : cutV (k0 :: kr) none (some 1) = [k0] := by rw [cut_take (by decide)]; rfl
      have c3 : cutV (k0 :: kr) none (some 3) = (k0 :: kr).take 3 := by rw [cut_take (by decide)]; rfl
      have c4 : (k0 :: kr).length ≤ 4 := by rw [PySem.Paired.length kn8]; exact L8.n4
      have c4' : (k0 :: kr).length + 1 ≤ sizeLine := by rw [PySem.sizeLine_eq]; omega
      have len3 : ((k0 :: kr).take 3).length + 1 ≤ sizeLine := by rw [List.length_take, PySem.sizeLine_eq]; omega
      obtain ⟨x0, st0, es0, mv0, ek0, ka0⟩ := id k08
      refine fun m hm => ⟨(by show 0 ≤ sizeLine; decide), fun e he => ⟨(by show 0 ≤ sizeLine; decide), fun u hu => ⟨_, rfl, _, rfl, 1, rfl, kp, _, rfl, .of (same_upd hu _ _ (same_upd he _ _ (same_upd hm _ _ hk8))), fun p hp => ?_⟩⟩⟩
      have sA := ((same_upd (o := .dT []) hm).trans (same_upd (o := .lst []) he)).trans (same_upd (o := .tup []) hu)
      have hmA := same_upd (o := .tup []) hu _ _ (same_upd (o := .lst []) he _ _ (upd_same (H := H8) (a := m) (o := .dT [])))
      have heA := same_upd (o := .tup []) hu _ _ (upd_same (H := upd H8 m (.dT [])) (a := e) (o := .lst []))
      have huA := upd_same (H := upd (upd H8 m (.dT [])) e (.lst [])) (a := u) (o := .tup [])
      rw [c1]
      generalize upd (upd (upd H8 m (.dT [])) e (.lst [])) u (.tup []) = HA at sA hmA heA huA hp ⊢
      refine ⟨kp, p, _, _, rfl, rfl, same_upd hp _ _ (sA _ _ hk8), upd_same, c4', fun q hq => ⟨(by show 1 ≤ sizeLine; decide), fun t1 ht1 => ?_⟩⟩
      have sB := ((same_upd (o := .lst [k0]) hp).trans (same_upd (o := .lst ((k0 :: kr) ++ [k0])) hq)).trans (same_upd (o := .lst [.non]) ht1)
      have hqB := same_upd (o := .lst [.non]) ht1 _ _ (upd_same (H := upd HA p (.lst [k0])) (a := q) (o := .lst ((k0 :: kr) ++ [k0])))
      have ht1B := upd_same (H := upd (upd HA p (.lst [k0])) q (.lst ((k0 :: kr) ++ [k0]))) (a := t1) (o := .lst [.non])
      generalize upd (upd (upd HA p (.lst [k0])) q (.lst ((k0 :: kr) ++ [k0]))) t1 (.lst [.non]) = HB at sB hqB ht1B ⊢
      refine ⟨_, rfl, 3, rfl, kp, _, rfl, .of (sB _ _ (sA _ _ hk8)), fun p2 hp2 => ⟨(by show 1 ≤ sizeLine; decide), fun x hx => ?_⟩⟩
      rw [c3] at hx ⊢
      refine ⟨p2, x, _, _, rfl, rfl, same_upd hx _ _ upd_same, upd_same, len3, fun q2 hq2 => ?_⟩
      have sC := ((same_upd (o := .lst ((k0 :: kr).take 3)) hp2).trans (same_upd (o := .lst [.str "file"]) hx)).trans (same_upd (o := .lst ((k0 :: kr).take 3 ++ [.str "file"])) hq2)
      have hq2C := upd_same (H := upd (upd HB p2 (.lst ((k0 :: kr).take 3))) x (.lst [.str "file"])) (a := q2) (o := .lst ((k0 :: kr).take 3 ++ [.str "file"]))
      generalize upd (upd (upd HB p2 (.lst ((k0 :: kr).take 3))) x (.lst [.str "file"])) q2 (.lst ((k0 :: kr).take 3 ++ [.str "file"])) = HC at sC hq2C ⊢
      have sHC := (sA.trans sB).trans sC
      have kaC := (kac_ok C K).up sHC ka0
      obtain ⟨dx, fs, hxC, _⟩ := (kac_ok C K).ins kaC
      refine ⟨_, rfl, kp, _, 0, k0, rfl, rfl, .of (sHC _ _ hk8), atI_nat (j := 0) rfl, x0, dx, fs, ek0, hxC, x0, n0, st0, es0, mv0, rfl, kaC, ⟨(by show 1 ≤ sizeLine; decide), fun t2 ht2 => ⟨(by show 10 ≤ sizeLine; decide), fun r hr => ?_⟩⟩⟩
      have sD := (same_upd (o := .lst [.str n0]) ht2).trans (same_upd (o := .lst [.non, .int 5, .str "ab", .ref m, .ref e, .ref u, .ref q, .ref t1, .ref q2, .ref t2]) hr)
      have ht2D := same_upd (o := .lst [.non, .int 5, .str "ab", .ref m, .ref e, .ref u, .ref q, .ref t1, .ref q2, .ref t2]) hr _ _ (upd_same (H := HC) (a := t2) (o := .lst [.str n0]))
      refine ⟨r, _, rfl, sHC.trans sD, upd_same, by show 10 ≤ 100; decide, ?_⟩
      have kbN : ∀ {H : Hp}, KindB C K H .non false := fun {H} => .inr ⟨rfl, _, .base .non, T.kN⟩
      have kbS : ∀ {H : Hp} {z : Str}, KindB C K H (.str z) false := fun {H z} => .inr ⟨rfl, _, .base (.str z), T.kS⟩
      have knD := L2.Paired.mapP kn8 fun _ _ => kn_up (sHC.trans sD)
      intro v hv
      simp only [List.mem_cons, List.not_mem_nil, or_false] at hv
      rcases hv with rfl | rfl | rfl | rfl | rfl | rfl | rfl | rfl | rfl | rfl
      · exact .notRow (nr_c .non rfl)
      · exact .notRow (nr_c (.int 5) rfl)
      · exact .notRow (nr_c (.str "ab") rfl)
      · exact .notRow (nr_c (.dic (sD _ _ (sC _ _ (sB _ _ hmA)))) rfl)
      · exact .many (row_lst (sD _ _ (sC _ _ (sB _ _ heA)))) (.inl rfl)
      · exact .many (row_tup (sD _ _ (sC _ _ (sB _ _ huA)))) (.inl rfl)
      · exact k_dup (row_lst (sD _ _ (sC _ _ hqB))) knD
      · exact .odd (row_lst (sD _ _ (sC _ _ ht1B))) (.cons kbN .nil) rfl (by decide) (by decide)
      · exact k_more (row_lst (sD _ _ hq2C)) knD kbS
      · exact .odd (row_lst ht2D) (.cons kbS .nil) rfl (Nat.le_of_ble_eq_true rfl) (Nat.le_of_ble_eq_true rfl)
    rintro σ H9 ⟨r7, vs7, rfl, s89, hr7, len7, odd7⟩
    have s9 : Same H1 H9 := s8.trans s89
    have w9 := well_same s89 w8
    have L9 := L8.up (same_del s89)
    have k09 := kn_up s89 k08
    clear s8 w8 L8 hk8 kn8 k08 s89
    -- each is refused
    have hk9 := del_less _ _ L9.kf.at_
    have hr9 := del_less _ _ L9.rf.at_
    refine ⟨fun σ H' => ∃ y7 y8 : Option V, σ = [some (.ref a), some (.int n), some (.ref l), some (.ref kp), some (.ref wp), some (.ref np), some (.ref rp), y7, y8, y9, y10, y11, y12, y13, y14, y15, y16, y17, y18, y19, y20, y21, y22] ∧ Same H9 H', ?_, ?_⟩
    · refine ⟨_, rfl, _, rfl, kp, _, 0, k0, rfl, rfl, .of hk9, atI_nat (j := 0) rfl, (by show 1 ≤ sizeLine; decide), fun z hz => ⟨r7, z, _, _, rfl, rfl, same_upd hz _ _ hr7, upd_same, by show vs7.length + 1 ≤ sizeLine; rw [PySem.sizeLine_eq]; omega, fun c hc => ?_⟩⟩
      have sA := (same_upd (o := .lst [k0]) hz).trans (same_upd (o := .lst (vs7 ++ [k0])) hc)
      have hcA := upd_same (H := upd H9 z (.lst [k0])) (a := c) (o := .lst (vs7 ++ [k0]))
      generalize upd (upd H9 z (.lst [k0])) c (.lst (vs7 ++ [k0])) = HA at sA hcA ⊢
      have oddA : ∀ v ∈ vs7 ++ [k0], Kinds C K HA v none := fun v hv => by
        rcases List.mem_append.mp hv with h | h
        · exact kinds_up sA (odd7 v h)
        · rw [List.mem_singleton.mp h]
          obtain ⟨x0, st0, es0, mv0, rfl, ka0⟩ := kn_up sA k09
          obtain ⟨dx, fs, hx0, _⟩ := (kac_ok C K).ins ka0
          exact .notRow ⟨_, .base (TyOf.ins hx0 T.cl TE.ha TE.hn TE.htk TE.hm), T.kL, T.kT⟩
      refine ⟨c, rfl, ⟨_, .of hcA⟩, for_list (K := K) (a := c) (xs := vs7 ++ [k0]) (fun i σ H' => ∃ y8 : Option V, σ = [some (.ref a), some (.int n), some (.ref l), some (.ref kp), some (.ref wp), some (.ref np), some (.ref rp), some (.ref r7), y8, y9, y10, y11, y12, y13, y14, y15, y16, y17, y18, y19, y20, y21, y22] ∧ Same HA H') ⟨_, rfl, Same.refl _⟩ (fun i σ H' _ ⟨_, _, s⟩ => .of (s _ _ hcA)) ?_ ?_⟩
      · rintro i x σ H' hx ⟨y8, rfl, s'⟩
        have kx := kinds_up s' (oddA x (List.mem_of_getElem? hx))
        refine ⟨_, rfl, _, rfl, ne_said nil_tells (by decide) (.kinds kx) fun H2 s2 => iteF ⟨_, rfl, (by show 1 ≤ sizeLine; decide), fun p hp => ne_said nil_tells (by decide) (.kinds (kinds_up (s2.trans (same_upd hp)) kx)) fun H3 s3 => iteF ⟨_, rfl, fun b o e => s3 _ _ (same_upd hp _ _ (s2 _ _ (s' _ _ e)))⟩⟩⟩
      · rintro σ H' ⟨y8, rfl, s'⟩
        exact ⟨_, _, rfl, sA.trans s'⟩
    rintro σ H10 ⟨y7, y8, rfl, s910⟩
    have s10 : Same H1 H10 := s9.trans s910
    have w10 := well_same s910 w9
    have L10 := L9.up (same_del s910)
    clear s9 w9 L9 hk9 hr9 s910 k09 odd7 hr7
    -- five kinds
    refine ⟨fun σ H' => ∃ (fp : Addr) (fvs : List V), σ = [some (.ref a), some (.int n), some (.ref l), some (.ref kp), some (.ref wp), some (.ref np), some (.ref rp), y7, y8, some (.ref fp), y10, y11, y12, y13, y14, y15, y16, y17, y18, y19, y20, y21, y22] ∧ Same H1 H' ∧ Well H' l ∧ L7 C K (del H' l) kp wp rp (k0 :: kr) rvs (n0 :: nr) ws ts ∧ KF C K (del H' l) fp fvs ["a", "b", "c", "d", "e"], ?_, ?_⟩
    · obtain ⟨_, _, _, hl10, _⟩ := id w10
      refine ⟨(by show 5 ≤ sizeLine; decide), fun p hp => ⟨_, row_tup upd_same, fun J G hG wk D hD => ?_⟩⟩
      have sp := same_upd (o := .tup [.str "a", .str "b", .str "c", .str "d", .str "e"]) hp
      have hl' := sp _ _ hl10
      refine kinds_it (CB := CB) (ws := ["a", "b", "c", "d", "e"]) wk hl' hD (fun H' s => hG H' s) (fun v => rfl) (fun v => rfl) (by exact lws_of (by decide +kernel)) (by decide) fun H6 vs s6 h6 pk => ?_
      have nDl : D ≠ l := fun z => by rw [z, hl'] at hD; cases hD
      have s' := sp.trans s6
      exact ⟨D, vs, rfl, s10.trans s', well_same s' w10, L10.up (same_del s'), ⟨by rw [del_ne nDl]; exact h6, pk, by decide +kernel, by decide, by decide⟩⟩
    rintro σ H11 ⟨fp, fvs, rfl, s11, w11, L11, kf11⟩
    clear s10 w10 L10
    -- seven functions
    refine ⟨fun σ H' => ∃ (sp : Addr) (svs : List V), σ = [some (.ref a), some (.int n), some (.ref l), some (.ref kp), some (.ref wp), some (.ref np), some (.ref rp), y7, y8, some (.ref fp), some (.ref sp), y11, y12, y13, y14, y15, y16, y17, y18, y19, y20, y21, y22] ∧ Same H1 H' ∧ Well H' l ∧ L7 C K (del H' l) kp wp rp (k0 :: kr) rvs (n0 :: nr) ws ts ∧ KF C K (del H' l) fp fvs ["a", "b", "c", "d", "e"] ∧ del H' l sp = some (.lst svs) ∧ DzAll (del H' l) svs (tSeven.map dOther), ?_, ?_⟩
    · obtain ⟨_, _, _, hl11, _⟩ := id w11
      have A : Aside H11 (fun H => del H l) := aside1 hl11
      refine asg_lit (f := fun H => del H l) (.list ([dOther "main"] ++ (["a", "b", "c", "d", "e", "f"] : List Str).map dOther)) ?_ fun v H2 s2 d2 => ?_
      · refine lit_cat A (lit_lst A (litA_cons A (lit_tup A (litA_cons A (lit_c fun _ => .str _) (litA_cons A (lit_tup A litA_nil (Nat.zero_le _)) (litA_cons A (lit_tup A litA_nil (Nat.zero_le _)) litA_nil))) (Nat.le_of_ble_eq_true rfl)) litA_nil) (Nat.le_of_ble_eq_true rfl)) ?_ (Nat.le_of_ble_eq_true rfl)
        intro Hc Qc sc qc
        refine ⟨(by show 6 ≤ sizeLine; decide), fun p hp => ⟨_, row_tup upd_same, fun J G hG wk D hD => ?_⟩⟩
        have sp := same_upd (o := .tup [.str "a", .str "b", .str "c", .str "d", .str "e", .str "f"]) hp
        have hl' := sp _ _ (sc _ _ hl11)
        have nDl : D ≠ l := fun z => by rw [z, hl'] at hD; cases hD
        refine lc_it wk (fun j H' => Same (upd Hc p (.tup [.str "a", .str "b", .str "c", .str "d", .str "e", .str "f"])) H' ∧ ∃ ws, H' D = some (.lst ws) ∧ DzAll (del (del H' D) l) ws (((["a", "b", "c", "d", "e", "f"] : List Str).take j).map dOther)) ⟨same_upd hD, [], upd_same, .nil⟩ (fun j H' _ p => hG _ p.1) ?_ ?_
        · rintro j x H' H'' hj ⟨sj, ws', hw, dj⟩ ⟨rfl, hx⟩
          have hx : ((["a", "b", "c", "d", "e", "f"] : List Str).map V.str)[j]? = some x := hx
          rw [List.getElem?_map] at hx
          obtain ⟨z, hz, rfl⟩ := Option.map_eq_some_iff.mp hx
          have AD : Aside H'' (fun H => del (del H D) l) := aside2 (sj _ _ hl') hw
          refine ⟨rfl, ?_⟩
          dsimp only [tYes]
          rw [if_pos rfl]
          refine lit_run (f := fun H => del (del H D) l) (dOther z) ?_ fun v H2 s2 d2 => ?_
          · exact lit_tup AD (litA_cons AD (lit_var AD rfl (.str z)) (litA_cons AD (lit_tup AD litA_nil (Nat.zero_le _)) (litA_cons AD (lit_tup AD litA_nil (Nat.zero_le _)) litA_nil))) (Nat.le_of_ble_eq_true rfl)
          have lw := dzAll_len dj
          rw [List.length_map, List.length_take] at lw
          have l6 : (["a", "b", "c", "d", "e", "f"] : List Str).length = 6 := rfl
          refine ⟨ws', s2 _ _ hw, by rw [PySem.sizeLine_eq]; omega, fun b u e => by rw [upd_ne (ne_of_none e hD)]; exact s2 _ _ (sj _ _ e), _, upd_same, ?_⟩
          rw [take_one_more hz, List.map_append]
          have kp : Same (del (del H2 D) l) (del (del (upd H2 D (.lst (ws' ++ [v]))) D) l) := same_del del_upd
          exact dzAll_append (dzAll_same kp (dzAll_same (same_del (same_del s2)) dj)) (.cons (dz_same kp d2) .nil)
        · rintro H' ⟨sj, ws', hw, dj⟩
          exact qc (.ref D) H' (sp.trans sj) (.lst (by show del H' l D = _; rw [del_ne nDl]; exact hw) (dzAll_same (same_del del_less) dj))
      cases d2 with
      | @lst sp svs _ e a => exact ⟨sp, svs, rfl, s11.trans s2, well_same s2 w11, L11.up (same_del s2), kf11.up (same_del s2), e, a⟩
    rintro σ H12 ⟨sp7, svs, rfl, s12, w12, L12, kf12, hs12, ds12⟩
    clear s11 w11 L11 kf11
    -- what is no row of functions
    refine ⟨fun σ H' => ∃ y8 : Option V, σ = [some (.ref a), some (.int n), some (.ref l), some (.ref kp), some (.ref wp), some (.ref np), some (.ref rp), y7, y8, some (.ref fp), some (.ref sp7), y11, y12, y13, y14, y15, y16, y17, y18, y19, y20, y21, y22] ∧ Same H12 H', ?_, ?_⟩
    · have h12 := del_less _ _ hs12
      refine fun m hm => ⟨(by show 0 ≤ sizeLine; decide), fun e he => ⟨(by show 0 ≤ sizeLine; decide), fun u hu => ⟨_, rfl, (by show 7 ≤ sizeLine; decide), fun p hp => ⟨_, row_tup upd_same, fun J G hG wk => ?_⟩⟩⟩⟩
      have sA := (((same_upd (o := .dT []) hm).trans (same_upd (o := .lst []) he)).trans (same_upd (o := .tup []) hu)).trans (same_upd (o := .tup [.non, .int 5, .str "main", .ref m, .ref e, .ref u, .ref sp7]) hp)
      have hmA := same_upd (o := .tup [.non, .int 5, .str "main", .ref m, .ref e, .ref u, .ref sp7]) hp _ _ (same_upd (o := .tup []) hu _ _ (same_upd (o := .lst []) he _ _ (upd_same (H := H12) (a := m) (o := .dT []))))
      have heA := same_upd (o := .tup [.non, .int 5, .str "main", .ref m, .ref e, .ref u, .ref sp7]) hp _ _ (same_upd (o := .tup []) hu _ _ (upd_same (H := upd H12 m (.dT [])) (a := e) (o := .lst [])))
      have huA := same_upd (o := .tup [.non, .int 5, .str "main", .ref m, .ref e, .ref u, .ref sp7]) hp _ _ (upd_same (H := upd (upd H12 m (.dT [])) e (.lst [])) (a := u) (o := .tup []))
      generalize upd (upd (upd (upd H12 m (.dT [])) e (.lst [])) u (.tup [])) p (.tup [.non, .int 5, .str "main", .ref m, .ref e, .ref u, .ref sp7]) = HA at sA hmA heA huA hG ⊢
      have l7 : svs.length = 7 := dzAll_len ds12
      have hsA := sA _ _ h12
      have all : ∀ v ∈ ([.non, .int 5, .str "main", .ref m, .ref e, .ref u, .ref sp7] : List V), NotRow K HA v ∨ ∃ vs, Row K HA v vs ∧ (vs.length = 0 ∨ 6 < vs.length) := by
        intro v hv
        simp only [List.mem_cons, List.not_mem_nil, or_false] at hv
        rcases hv with rfl | rfl | rfl | rfl | rfl | rfl | rfl
        · exact .inl (nr_c .non rfl)
        · exact .inl (nr_c (.int 5) rfl)
        · exact .inl (nr_c (.str "main") rfl)
        · exact .inl (nr_c (.dic hmA) rfl)
        · exact .inr ⟨_, row_lst heA, .inl rfl⟩
        · exact .inr ⟨_, row_tup huA, .inl rfl⟩
        · exact .inr ⟨_, row_lst hsA, .inr (by omega)⟩
      have LA := L12.up (same_del sA)
      have kfA := kf12.up (same_del sA)
      have l5 : fvs.length = 5 := PySem.Paired.length kfA.kn
      refine for_it wk (fun i σ H' => ∃ y8 : Option V, σ = [some (.ref a), some (.int n), some (.ref l), some (.ref kp), some (.ref wp), some (.ref np), some (.ref rp), y7, y8, some (.ref fp), some (.ref sp7), y11, y12, y13, y14, y15, y16, y17, y18, y19, y20, y21, y22] ∧ Same HA H') ⟨_, rfl, Same.refl _⟩ (fun i σ H' _ ⟨_, _, s⟩ => hG _ s) ?_ ?_
      · rintro i x σ H' H'' hi ⟨y8, rfl, s'⟩ ⟨rfl, hx⟩
        have hp' : ProgR C K H'' (.ref kp) x (some []) := by
          rcases all x (List.mem_of_getElem? hx) with h | ⟨vs, h, c⟩
          · exact .notRow (kinds_up s' LA.kinds) (notRow_up s' h)
          · exact .many (kinds_up s' LA.kinds) (row_up s' h) c
        refine ⟨_, rfl, _, rfl, ne_said nil_tells (by decide) hp' fun H2 s2 => iteF ⟨_, rfl, _, rfl, 6, rfl, sp7, _, rfl, .of (s2 _ _ (s' _ _ hsA)), fun p hp => ?_⟩⟩
        have s3 := (s'.trans s2).trans (same_upd (o := .lst (cutV svs none (some 6))) hp)
        exact ne_said nil_tells (by decide) (.kinds (.many (k_row (kfA.up (same_del s3))) (.inr (by omega)))) fun H4 s4 => iteF ⟨_, rfl, s3.trans s4⟩
      · rintro σ H' ⟨y8, rfl, s'⟩
        exact ⟨_, rfl, sA.trans s'⟩
    rintro σ H13 ⟨y8, rfl, s123⟩
    have s13 := s12.trans s123
    have w13 := well_same s123 w12
    have L13 := L12.up (same_del s123)
    have kf13 := kf12.up (same_del s123)
    have hs13 := same_del s123 _ _ hs12
    have ds13 := dzAll_same (same_del (l := l) s123) ds12
    clear s12 w12 L12 kf12 hs12 ds12 s123 kf13
    -- a place
    refine ⟨fun σ H' => ∃ k : Nat, σ = [some (.ref a), some (.int n), some (.ref l), some (.ref kp), some (.ref wp), some (.ref np), some (.ref rp), y7, y8, some (.ref fp), some (.ref sp7), some (.int (k : Int)), y12, y13, y14, y15, y16, y17, y18, y19, y20, y21, y22] ∧ k < ts.length ∧ Same H1 H' ∧ Well H' l ∧ L7 C K (del H' l) kp wp rp (k0 :: kr) rvs (n0 :: nr) ws ts ∧ del H' l sp7 = some (.lst svs) ∧ DzAll (del H' l) svs (tSeven.map dOther), ?_, ?_⟩
    · have hr13 := del_less _ _ L13.rf.at_
      have lr : rvs.length = ts.length := by rw [dzAll_len L13.rf.dz, List.length_map]
      have l6 := L13.rf.ok.len
      have l1 := List.length_pos_of_mem L13.m
      refine ⟨_, rfl, _, rfl, rp, rvs, rfl, .inl (.of hr13), l, _, rfl, w13, by omega, by omega, fun r u r0 r1 w' => ?_⟩
      obtain ⟨k, rfl⟩ := Int.eq_ofNat_of_zero_le r0
      have b := But.upd (m := l) (H := H13) (u := u)
      exact ⟨k, rfl, by omega, fun c o e => b _ _ (ne_of_none e nl1) (s13 _ _ e), w', L13.up (but_del b), (but_del b) _ _ hs13, dzAll_same (but_del b) ds13⟩
    rintro σ H14 ⟨k, rfl, lk, s14, w14, L14, hs14, ds14⟩
    clear s13 w13 L13 hs13 ds13
    -- texts that are no word
    refine ⟨fun σ H' => ∃ (qp : Addr) (f0 f1 f2 f3 : Str) (fr : List Str), σ = [some (.ref a), some (.int n), some (.ref l), some (.ref kp), some (.ref wp), some (.ref np), some (.ref rp), y7, y8, some (.ref fp), some (.ref sp7), some (.int (k : Int)), some (.ref qp), y13, y14, y15, y16, y17, y18, y19, y20, y21, y22] ∧ Fresh ws (f0 :: f1 :: f2 :: f3 :: fr) ∧ del H' l qp = some (.lst ((f0 :: f1 :: f2 :: f3 :: fr).map V.str)) ∧ Same H1 H' ∧ Well H' l ∧ L7 C K (del H' l) kp wp rp (k0 :: kr) rvs (n0 :: nr) ws ts ∧ del H' l sp7 = some (.lst svs) ∧ DzAll (del H' l) svs (tSeven.map dOther), ?_, ?_⟩
    · obtain ⟨_, _, _, hl14, _⟩ := id w14
      have hw14 := del_less _ _ L14.wf.at_
      refine ⟨_, rfl, fun D hD => ?_⟩
      refine lc_it (walk_str (z := "abcdefghijkl")) (fun j H' => Same H14 H' ∧ H' D = some (.lst ((twelve.take j).map V.str))) ⟨same_upd hD, upd_same⟩ (fun _ _ _ _ => True.intro) ?_ ?_
      · rintro j x H' H'' hj ⟨sj, hd⟩ ⟨rfl, c, hc, rfl⟩
        have hz : twelve[j]? = some (("zzzzzzz" : Str) ++ ⟨#[c]⟩) := by
          unfold twelve
          rw [List.getElem?_map, Array.getElem?_toList, hc]
          rfl
        refine ⟨rfl, ?_⟩
        dsimp only [tYes]
        rw [if_pos rfl]
        have l7 : ("zzzzzzz" : Str).length = 7 := by decide +kernel
        have l12 := twelve_len
        refine ⟨_, rfl, _, _, rfl, rfl, by rw [l7]; show 7 + 1 ≤ sizeLine; decide, _, hd, ?_, fun b o e => by rw [upd_ne (ne_of_none e hD)]; exact sj _ _ e, ?_⟩
        · rw [List.length_map, List.length_take, PySem.sizeLine_eq]
          omega
        · rw [upd_same, take_one_more hz, List.map_append]
          rfl
      · rintro H15 ⟨s15, hd⟩
        have e12 : twelve.take ("abcdefghijkl" : Str).cps.size = twelve := List.take_of_length_le (by decide +kernel)
        rw [e12] at hd
        refine ⟨D, rfl, ⟨_, .of hd⟩, fun E hE => ?_⟩
        refine lc_list (K := K) (a := D) (xs := twelve.map V.str) (fun i H' => Same H15 H' ∧ H' E = some (.lst (((twelve.take i).filter fun z => decide (z ∉ ws)).map V.str))) ⟨same_upd hE, upd_same⟩ (fun i H' _ p => .of (p.1 _ _ hd)) ?_ ?_
        · rintro i x H' hx ⟨sj, hE'⟩
          rw [List.getElem?_map] at hx
          obtain ⟨z, hz, rfl⟩ := Option.map_eq_some_iff.mp hx
          have e : (if true = true then !inV (V.str z) (ws.map V.str) else inV (V.str z) (ws.map V.str)) = decide (z ∉ ws) := by
            rw [if_pos rfl, inV_strs]
            simp
          refine ⟨rfl, _, rfl, _, rfl, wp, _, rfl, .inl (.of (sj _ _ (s15 _ _ hw14))), rfl, flat_strs _, decide (z ∉ ws), congrArg V.bl e, ?_⟩
          have fm := filter_more (fun z => decide (z ∉ ws)) hz
          by_cases c : z ∈ ws
          · rw [decide_eq_false (not_not_intro c)] 
            refine iteF ⟨sj, ?_⟩
            rw [fm, if_neg (by simpa using c), List.append_nil]
            exact hE'
          · rw [decide_eq_true c]
            refine iteT ⟨_, rfl, _, hE', ?_, fun b o e => by rw [upd_ne (ne_of_none e hE)]; exact sj _ _ e, ?_⟩
            · have h1 := List.length_filter_le (fun z => decide (z ∉ ws)) (twelve.take i)
              have l12 := twelve_len
              rw [List.length_map, PySem.sizeLine_eq]
              rw [List.length_take] at h1
              omega
            · rw [upd_same, fm, if_pos (by simpa using c), List.map_append]
              rfl
        · rintro H16 ⟨s16, hE'⟩
          rw [List.length_map, List.take_length] at hE'
          obtain ⟨f0, f1, f2, f3, fr, ef, F⟩ := fresh_of L14.wf.len
          rw [ef] at hE'
          have s' : Same H14 H16 := s15.trans s16
          have nEl : E ≠ l := fun z => by rw [z, s15 _ _ hl14] at hE; cases hE
          exact ⟨E, f0, f1, f2, f3, fr, rfl, F, by rw [del_ne nEl]; exact hE', s14.trans s', well_same s' w14, L14.up (same_del s'), same_del s' _ _ hs14, dzAll_same (same_del s') ds14⟩
    rintro σ H15 ⟨qp, f0, f1, f2, f3, fr, rfl, F, hq15, s15, w15, L15, hs15, ds15⟩
    clear s14 w14 L14 hs14 ds14
    -- one that is none
    refine ⟨fun σ H' => ∃ (ov : V) (od : PyData), σ = [some (.ref a), some (.int n), some (.ref l), some (.ref kp), some (.ref wp), some (.ref np), some (.ref rp), y7, some ov, some (.ref fp), some (.ref sp7), some (.int (k : Int)), some (.ref qp), y13, y14, y15, y16, y17, y18, y19, y20, y21, y22] ∧ Dz (del H' l) ov od ∧ OddD ((ts.take k).map (·.1)) od ∧ del H' l qp = some (.lst ((f0 :: f1 :: f2 :: f3 :: fr).map V.str)) ∧ Same H1 H' ∧ Well H' l ∧ L7 C K (del H' l) kp wp rp (k0 :: kr) rvs (n0 :: nr) ws ts ∧ del H' l sp7 = some (.lst svs) ∧ DzAll (del H' l) svs (tSeven.map dOther), ?_, ?_⟩
    · obtain ⟨_, _, _, hl15, _⟩ := id w15
      have hq := del_less _ _ hq15
      have hr := del_less _ _ L15.rf.at_
      have dzr := L15.dz
      refine ⟨_, rfl, _, rfl, qp, _, 0, .str f0, rfl, rfl, .of hq, atI_nat (j := 0) rfl, _, rfl, _, rfl, _, rfl, rp, rvs, rfl, .of hr, fun p hp => ?_⟩
      rw [cut_take (Int.natCast_nonneg k), Int.toNat_natCast]
      have sp := same_upd (o := .lst (rvs.take k)) hp
      have hp' := upd_same (H := H15) (a := p) (o := .lst (rvs.take k))
      generalize upd H15 p (.lst (rvs.take k)) = HA at sp hp' ⊢
      have dzA : DzAll HA (rvs.take k) ((ts.take k).map dOf) := by
        rw [List.map_take]
        exact dzAll_take k (dzAll_same sp dzr)
      refine ⟨p, rfl, ⟨_, .of hp'⟩, fun D hD => ?_⟩
      refine lc_list (K := K) (a := p) (xs := rvs.take k) (fun i H' => Same HA H' ∧ H' D = some (.lst ((((ts.take k).take i).map (·.1)).map V.str))) ⟨same_upd hD, upd_same⟩ (fun i H' _ p => .of (p.1 _ _ hp')) ?_ ?_
      · rintro i x H' hx ⟨sj, hd⟩
        obtain ⟨t, ht, zx⟩ := rows7_at dzA hx
        obtain ⟨xs, row, h0⟩ := head_row (K := K) (dz_same sj zx)
        refine ⟨rfl, ?_⟩
        dsimp only [tYes]
        rw [if_pos rfl]
        refine ⟨_, rfl, ix_row row (atI_nat (j := 0) h0) ⟨_, hd, ?_, fun b o e => by rw [upd_ne (ne_of_none e hD)]; exact sj _ _ e, ?_⟩⟩
        · rw [List.length_map, List.length_map, List.length_take, List.length_take, PySem.sizeLine_eq]
          have := L15.rf.ok.len
          omega
        · rw [upd_same, take_one_more ht, List.map_append, List.map_append]
          rfl
      · rintro H16 ⟨s16, hd⟩
        have lr : (rvs.take k).length = (ts.take k).length := by rw [dzAll_len dzA, List.length_map]
        rw [lr, List.take_length] at hd
        have s' : Same H15 H16 := sp.trans s16
        have nDl : D ≠ l := fun z => by rw [z, sp _ _ hl15] at hD; cases hD
        refine ⟨l, D, f0, (ts.take k).map (·.1), rfl, well_same s' w15, F.lw f0 List.mem_cons_self, hd, nDl, ?_, fun z hz => ?_, fun H17 v d b w' dv od => ?_⟩
        · rw [List.length_map, List.length_take]
          have := L15.rf.ok.len
          omega
        · obtain ⟨t, ht, rfl⟩ := List.mem_map.mp hz
          exact L15.rf.ok.lw t (List.mem_of_mem_take ht)
        · have b' : But l H15 H17 := (But.of s').trans b
          exact ⟨v, d, rfl, dv, od, but_del b' _ _ hq15, fun c o e => b' _ _ (ne_of_none e nl1) (s15 _ _ e), w', L15.up (but_del b'), but_del b' _ _ hs15, dzAll_same (but_del b') ds15⟩
    rintro σ H16 ⟨ov, od, rfl, dov, oddd, hq16, s16, w16, L16, hs16, ds16⟩
    clear s15 w15 L15 hs15 ds15 hq15
    have hK := L16.kinds
    have hr := del_less _ _ L16.rf.at_
    have dzr := L16.dz
    have R := L16.rf.ok
    have l6 := R.len
    replace hq16 := del_less _ _ hq16
    replace hs16 := del_less _ _ hs16
    replace ds16 := dzAll_same del_less ds16
    replace dov := dz_same del_less dov
    clear L16 w16
    -- the functions with it
    obtain ⟨es, ees⟩ : ∃ es, es = (([f1, f2] : List Str).map dX).take (5 - k) := ⟨_, rfl⟩
    have les : k + es.length ≤ 5 := by
      rw [ees, List.length_take]
      omega
    have shes : ∀ d ∈ es, Sh 100 5 d := fun d hd => by
      rw [ees] at hd
      obtain ⟨z, hz, rfl⟩ := List.mem_map.mp (List.mem_of_mem_take hd)
      refine sh_dX (F.lw z ?_)
      rcases List.mem_cons.mp hz with rfl | hz
      · simp
      · rw [List.mem_singleton.mp hz]
        simp
    refine ⟨fun σ H' => ∃ (bp : Addr) (bvs : List V), σ = [some (.ref a), some (.int n), some (.ref l), some (.ref kp), some (.ref wp), some (.ref np), some (.ref rp), y7, some ov, some (.ref fp), some (.ref sp7), some (.int (k : Int)), some (.ref qp), some (.ref bp), y14, y15, y16, y17, y18, y19, y20, y21, y22] ∧ Same H16 H' ∧ H' bp = some (.lst bvs) ∧ DzAll H' bvs ((ts.take k).map dOf ++ od :: es), ?_, ?_⟩
    · refine asg_lit (f := fun H => H) (.list ((ts.map dOf).take k ++ [od] ++ (([f1, f2] : List Str).map dX).take (5 - k))) ?_ fun v H2 s2 d2 => ?_
      · refine lit_cat aside0 (lit_cat aside0 (lit_sl aside0 (lit_var aside0 rfl (.lst hr dzr)) (lit_var aside0 rfl (.int _))) (lit_lst aside0 (litA_cons aside0 (lit_var aside0 rfl dov) litA_nil) (Nat.le_of_ble_eq_true rfl)) ?_) (lit_sl aside0 ?_ ?_) ?_
        · rw [List.length_take, List.length_map, List.length_singleton]
          omega
        · intro Hc Qc sc qc
          have c13 : cutV ((f0 :: f1 :: f2 :: f3 :: fr).map V.str) (some 1) (some 3) = ([f1, f2] : List Str).map V.str := by
            rw [cut_13 (by simp)]
            rfl
          refine ⟨_, rfl, 1, rfl, 3, rfl, qp, _, rfl, .of (sc _ _ hq16), fun p hp => ?_⟩
          rw [c13]
          have sp := same_upd (o := .lst (([f1, f2] : List Str).map V.str)) hp
          have hp' := upd_same (H := Hc) (a := p) (o := .lst (([f1, f2] : List Str).map V.str))
          generalize upd Hc p (.lst (([f1, f2] : List Str).map V.str)) = HA at sp hp' ⊢
          refine ⟨p, rfl, ⟨_, .of hp'⟩, fun D hD => ?_⟩
          refine lc_list (K := K) (a := p) (xs := ([f1, f2] : List Str).map V.str) (fun j H' => Same HA H' ∧ ∃ ws, H' D = some (.lst ws) ∧ DzAll (del H' D) ws ((([f1, f2] : List Str).take j).map dX)) ⟨same_upd hD, [], upd_same, .nil⟩ (fun i H' _ p => .of (p.1 _ _ hp')) ?_ ?_
          · rintro j x H' hx ⟨sj, ws', hw, dj⟩
            rw [List.getElem?_map] at hx
            obtain ⟨z, hz, rfl⟩ := Option.map_eq_some_iff.mp hx
            have AD : Aside H' (fun H => del H D) := aside1 hw
            refine ⟨rfl, ?_⟩
            dsimp only [tYes]
            rw [if_pos rfl]
            refine lit_run (f := fun H => del H D) (dX z) ?_ fun v H2 s2 d2 => ?_
            · exact lit_tup AD (litA_cons AD (lit_var AD rfl (.str z)) (litA_cons AD (lit_lst AD (litA_cons AD (lit_c fun _ => .str _) litA_nil) (Nat.le_of_ble_eq_true rfl)) (litA_cons AD (lit_lst AD (litA_cons AD (lit_c fun _ => .non) litA_nil) (Nat.le_of_ble_eq_true rfl)) litA_nil))) (Nat.le_of_ble_eq_true rfl)
            have lw := dzAll_len dj
            rw [List.length_map, List.length_take] at lw
            have l2 : ([f1, f2] : List Str).length = 2 := rfl
            refine ⟨ws', s2 _ _ hw, by rw [PySem.sizeLine_eq]; omega, fun b u e => by rw [upd_ne (ne_of_none e hD)]; exact s2 _ _ (sj _ _ e), _, upd_same, ?_⟩
            rw [take_one_more hz, List.map_append]
            exact dzAll_append (dzAll_same del_upd (dzAll_same (same_del s2) dj)) (.cons (dz_same del_upd d2) .nil)
          · rintro H' ⟨sj, ws', hw, dj⟩
            exact qc (.ref D) H' (sp.trans sj) (.lst hw (dzAll_same del_less dj))
        · refine fun H Q s q => ⟨_, rfl, 5, (k : Int), rfl, rfl, ?_⟩
          have e5 : (5 : Int) - (k : Int) = ((5 - k : Nat) : Int) := by omega
          show Q (.int ((5 : Int) - (k : Int))) H
          rw [e5]
          exact q _ H (Same.refl H) (.int _)
        · rw [List.length_append, List.length_take, List.length_map, List.length_singleton, List.length_take]
          omega
      cases d2 with
      | @lst bp bvs _ e a =>
        rw [← List.map_take, List.append_assoc, ← ees] at a
        exact ⟨bp, bvs, rfl, s2, e, a⟩
    rintro σ H17 ⟨bp, bvs, rfl, s1617, hb17, db17⟩
    obtain ⟨BAD, eB⟩ : ∃ B, B = (ts.take k).map dOf ++ od :: es := ⟨_, rfl⟩
    have badP : ∀ {H' : Hp}, Same H17 H' → ProgR C K H' (.ref kp) (.ref bp) (some [(k : Int)]) := fun {H'} s => bad_prog (kinds_up (s1617.trans s) hK) R lk (row_lst (s _ _ hb17)) (dzAll_same s db17) les oddd
    have shB : Shows (.list BAD) := by
      rw [eB]
      refine shows_of (fun d hd => ?_) ?_
      · rcases List.mem_append.mp hd with h | h
        · obtain ⟨t, ht, rfl⟩ := List.mem_map.mp h
          exact sh_dOf (R.fine t (List.mem_of_mem_take ht))
        · rcases List.mem_cons.mp h with rfl | h
          · exact oddd.1
          · exact shes d h
      · rw [List.length_append, take_len lk, List.length_cons]
        omega
    rw [← eB] at db17
    -- one more ahead
    refine ⟨fun σ H' => ∃ (gp : Addr) (gvs : List V), σ = [some (.ref a), some (.int n), some (.ref l), some (.ref kp), some (.ref wp), some (.ref np), some (.ref rp), y7, some ov, some (.ref fp), some (.ref sp7), some (.int (k : Int)), some (.ref qp), some (.ref bp), some (.ref gp), y15, y16, y17, y18, y19, y20, y21, y22] ∧ Same H17 H' ∧ H' gp = some (.lst gvs) ∧ DzAll H' gvs (d0 f3 :: BAD), ?_, ?_⟩
    · refine asg_lit (f := fun H => H) (.list ([d0 f3] ++ BAD)) ?_ fun v H2 s2 d2 => ?_
      · refine lit_cat aside0 (lit_lst aside0 (litA_cons aside0 (lit_tup aside0 (litA_cons aside0 (lit_ix (k := 3) rfl (s1617 _ _ hq16) rfl) (litA_cons aside0 (lit_tup aside0 litA_nil (Nat.zero_le _)) (litA_cons aside0 (lit_lst aside0 (litA_cons aside0 (lit_c fun _ => .non) litA_nil) (Nat.le_of_ble_eq_true rfl)) litA_nil))) (Nat.le_of_ble_eq_true rfl)) litA_nil) (Nat.le_of_ble_eq_true rfl)) (lit_var aside0 rfl (.lst hb17 db17)) ?_
        rw [eB, List.length_append, take_len lk]
        show 1 + (k + (es.length + 1)) ≤ 1000
        omega
      cases d2 with
      | @lst gp gvs _ e a => exact ⟨gp, gvs, rfl, s2, e, a⟩
    rintro σ H18 ⟨gp, gvs, rfl, s1718, hg18, dg18⟩
    have hb18 := s1718 _ _ hb17
    have db18 := dzAll_same s1718 db17
    -- how it is shown
    refine ⟨fun σ H' => σ = [some (.ref a), some (.int n), some (.ref l), some (.ref kp), some (.ref wp), some (.ref np), some (.ref rp), y7, some ov, some (.ref fp), some (.ref sp7), some (.int (k : Int)), some (.ref qp), some (.ref bp), some (.ref gp), some (.str (PyData.shown (.list BAD))), y16, y17, y18, y19, y20, y21, y22] ∧ H' = H18, ⟨_, rfl, bp, .list BAD, rfl, .lst hb18 db18, shB, rfl, rfl⟩, ?_⟩
    rintro σ H19 ⟨rfl, rfl⟩
    -- the number of the first that is none
    refine ⟨fun σ H' => σ = [some (.ref a), some (.int n), some (.ref l), some (.ref kp), some (.ref wp), some (.ref np), some (.ref rp), y7, some ov, some (.ref fp), some (.ref sp7), some (.int (k : Int)), some (.ref qp), some (.ref bp), some (.ref gp), some (.str (PyData.shown (.list BAD))), y16, y17, y18, y19, y20, y21, y22] ∧ Same H19 H', ?_, ?_⟩
    · refine ⟨_, rfl, _, rfl, ne_said (pl := [(k : Int)]) (fun H2 R r => ⟨_, rfl, r⟩) (Nat.le_of_ble_eq_true rfl) (badP s1718) fun H2 s2 => iteF ⟨_, rfl, gp, gvs, rfl, .inl (.of (s2 _ _ hg18)), _, _, rfl, rfl, _, rfl, ?_⟩⟩
      have lg : gvs.length = k + es.length + 2 := by rw [dzAll_len dg18, List.length_cons, eB, List.length_append, take_len lk, List.length_cons]; omega
      by_cases c : ((gvs.length : Nat) : Int) < 7
      · rw [decide_eq_true c]
        refine iteT ⟨_, rfl, _, rfl, ne_said (pl := [((k + 1 : Nat) : Int)]) (fun H2 R r => ⟨_, rfl, _, _, rfl, rfl, r⟩) (Nat.le_of_ble_eq_true rfl) (first_prog (kinds_up (s1617.trans (s1718.trans s2)) hK) R lk (row_lst (s2 _ _ hg18)) (dzAll_same s2 (eB ▸ dg18)) (by omega) oddd (F.lw f3 (by simp)) (F.not f3 (by simp)) (F.main f3 (by simp))) fun H3 s3 => iteF ⟨rfl, s2.trans s3⟩⟩
      · rw [decide_eq_false c]
        exact iteF (iteF ⟨rfl, s2⟩)
    rintro σ H20 ⟨rfl, s1920⟩
    have sK : Same H16 H20 := (s1617.trans s1718).trans s1920
    have hb20 := s1920 _ _ hb18
    have db20 := dzAll_same s1920 db18
    clear hb18 db18 hb17 db17 hg18 dg18 badP
    have hr20 := sK _ _ hr
    have dzr20 := dzAll_same sK dzr
    -- those that are not main
    refine ⟨fun σ H' => ∃ (mp : Addr) (mvs : List V), σ = [some (.ref a), some (.int n), some (.ref l), some (.ref kp), some (.ref wp), some (.ref np), some (.ref rp), some (.ref mp), some ov, some (.ref fp), some (.ref sp7), some (.int (k : Int)), some (.ref qp), some (.ref bp), some (.ref gp), some (.str (PyData.shown (.list BAD))), y16, y17, y18, y19, y20, y21, y22] ∧ Same H20 H' ∧ H' mp = some (.lst mvs) ∧ DzAll H' mvs ((noMain ts).map dOf), ?_, ?_⟩
    · refine ⟨_, rfl, rp, rfl, ⟨_, .of hr20⟩, fun D hD => ?_⟩
      refine lc_list (K := K) (a := rp) (xs := rvs) (fun i H' => Same H20 H' ∧ ∃ vs, H' D = some (.lst vs) ∧ DzAll (del H' D) vs ((noMain (ts.take i)).map dOf)) ⟨same_upd hD, [], upd_same, .nil⟩ (fun i H' _ p => .of (p.1 _ _ hr20)) ?_ ?_
      · rintro i x H' hx ⟨sj, vs, hd, dj⟩
        obtain ⟨t, ht, zx⟩ := rows7_at dzr20 hx
        obtain ⟨xs, row, h0⟩ := head_row (K := K) (dz_same sj zx)
        have e : (!decide (V.str t.1 = V.str "main")) = decide (t.1 ≠ ("main" : Str)) := by simp
        refine ⟨rfl, _, rfl, ix_row row (atI_nat (j := 0) h0) ⟨rfl, _, congrArg V.bl e, ?_⟩⟩
        have fm := filter_more (fun t : Str × List Str => decide (t.1 ≠ ("main" : Str))) ht
        by_cases c : t.1 ≠ ("main" : Str)
        · rw [decide_eq_true c]
          have lv := dzAll_len dj
          rw [List.length_map] at lv
          have h1 := List.length_filter_le (fun t : Str × List Str => decide (t.1 ≠ ("main" : Str))) (ts.take i)
          rw [List.length_take] at h1
          refine iteT ⟨_, rfl, vs, hd, by rw [PySem.sizeLine_eq]; unfold noMain at lv; omega, fun b o e => by rw [upd_ne (ne_of_none e hD)]; exact sj _ _ e, _, upd_same, ?_⟩
          unfold noMain
          rw [fm, if_pos (decide_eq_true c), List.map_append]
          exact dzAll_append (dzAll_same del_upd dj) (.cons (dz_same del_upd (dz_same (same_free hD sj) zx)) .nil)
        · rw [decide_eq_false c]
          refine iteF ⟨sj, vs, hd, ?_⟩
          unfold noMain
          rw [fm, if_neg (by rw [decide_eq_false c]; exact Bool.false_ne_true), List.append_nil]
          exact dj
      · rintro H' ⟨sj, vs, hd, dj⟩
        have lr : rvs.length = ts.length := by rw [dzAll_len dzr20, List.length_map]
        rw [lr, List.take_length] at dj
        exact ⟨D, vs, rfl, sj, hd, dzAll_same del_less dj⟩
    rintro σ H21 ⟨mp, mvs, rfl, s2021, hm21, dm21⟩
    -- with bodies that are none
    refine ⟨fun σ H' => ∃ (lp : Addr) (lvs : List V), σ = [some (.ref a), some (.int n), some (.ref l), some (.ref kp), some (.ref wp), some (.ref np), some (.ref rp), some (.ref mp), some ov, some (.ref fp), some (.ref sp7), some (.int (k : Int)), some (.ref qp), some (.ref bp), some (.ref gp), some (.str (PyData.shown (.list BAD))), some (.ref lp), y17, y18, y19, y20, y21, y22] ∧ Same H21 H' ∧ H' lp = some (.lst lvs) ∧ DzAll H' lvs ((noMain ts).map dLast), ?_, ?_⟩
    · refine ⟨_, rfl, mp, rfl, ⟨_, .of hm21⟩, fun D hD => ?_⟩
      refine lc_list (K := K) (a := mp) (xs := mvs) (fun i H' => Same H21 H' ∧ ∃ vs, H' D = some (.lst vs) ∧ DzAll (del H' D) vs (((noMain ts).take i).map dLast)) ⟨same_upd hD, [], upd_same, .nil⟩ (fun i H' _ p => .of (p.1 _ _ hm21)) ?_ ?_
      · rintro i x H' hx ⟨sj, vs, hd, dj⟩
        obtain ⟨t, ht, zx⟩ := rows7_at dm21 hx
        have nm : t.1 ≠ ("main" : Str) := by
          have := (List.mem_filter.mp (List.mem_of_getElem? ht)).2
          simpa using this
        obtain ⟨a2, y, z, rfl, ha2, zy⟩ := parts_row nm (dz_same (same_free hD sj) zx)
        have AD : Aside H' (fun H => del H D) := aside1 hd
        refine ⟨a2, _, rfl, .of (del_less _ _ ha2), rfl, _, _, rfl, _, _, rfl, _, _, rfl, rfl, rfl, ?_⟩
        dsimp only [tYes]
        rw [if_pos rfl]
        refine lit_run (f := fun H => del H D) (dLast t) ?_ fun v H2 s2 d2 => ?_
        · exact lit_tup AD (litA_cons AD (lit_var AD rfl (.str t.1)) (litA_cons AD (lit_var AD rfl zy) (litA_cons AD (lit_lst AD (litA_cons AD (lit_c fun _ => .non) litA_nil) (Nat.le_of_ble_eq_true rfl)) litA_nil))) (Nat.le_of_ble_eq_true rfl)
        have lv := dzAll_len dj
        rw [List.length_map, List.length_take] at lv
        have h1 : (noMain ts).length ≤ ts.length := List.length_filter_le _ _
        refine ⟨vs, s2 _ _ hd, by rw [PySem.sizeLine_eq]; omega, fun b u e => by rw [upd_ne (ne_of_none e hD)]; exact s2 _ _ (sj _ _ e), _, upd_same, ?_⟩
        rw [take_one_more ht, List.map_append]
        exact dzAll_append (dzAll_same del_upd (dzAll_same (same_del s2) dj)) (.cons (dz_same del_upd d2) .nil)
      · rintro H' ⟨sj, vs, hd, dj⟩
        have lr : mvs.length = (noMain ts).length := by rw [dzAll_len dm21, List.length_map]
        rw [lr, List.take_length] at dj
        exact ⟨D, vs, rfl, sj, hd, dzAll_same del_less dj⟩
    rintro σ H22 ⟨lp, lvs, rfl, s2122, hp22, dp22⟩
    have s2022 : Same H20 H22 := s2021.trans s2122
    have hb22 := s2022 _ _ hb20
    have db22 := dzAll_same s2022 db20
    have hm22 := s2122 _ _ hm21
    have dm22 := dzAll_same s2122 dm21
    have hK22 := kinds_up (sK.trans s2022) hK
    have s22 : Same H1 H22 := s16.trans (sK.trans s2022)
    have hs22 := sK.trans s2022 _ _ hs16
    have ds22 := dzAll_same (sK.trans s2022) ds16
    clear hb20 db20 hm21 dm21 hr20 dzr20 s2122 s2021
    -- nothing changed, and the last
    refine ⟨fun σ H' => σ = [some (.ref a), some (.int n), some (.ref l), some (.ref kp), some (.ref wp), some (.ref np), some (.ref rp), some (.ref mp), some ov, some (.ref fp), some (.ref sp7), some (.int (k : Int)), some (.ref qp), some (.ref bp), some (.ref gp), some (.str (PyData.shown (.list BAD))), some (.ref lp), y17, y18, y19, y20, y21, y22] ∧ Same H22 H', ?_, ?_⟩
    · have same0 : (!decide (V.str (PyData.shown (.list BAD)) = V.str (PyData.shown (.list BAD)))) = false := by rw [decide_eq_true rfl]; rfl
      refine ⟨_, rfl, bp, .list BAD, rfl, .lst hb22 db22, shB, _, rfl, rfl, false, congrArg V.bl same0, iteF ⟨_, rfl, (by show 0 ≤ sizeLine; decide), fun p hp => ?_⟩⟩
      have fineM : ∀ t ∈ noMain ts, Fine t := fun t ht => R.fine t (List.mem_filter.mp ht).1
      have sp := same_upd (o := .lst []) hp
      refine ⟨.list ((noMain ts).map dOf), .list [], .lst (.of (sp _ _ hm22)) (dzAll_dp _ _ (dzAll_same sp dm22) (lay_all fun d hd => by obtain ⟨t, ht, rfl⟩ := List.mem_map.mp hd; exact lay_dOf (fineM t ht))), .lst (.of upd_same) .nil, shaped_rows fineM, by decide +kernel, _, rfl, ?_⟩
      by_cases c : (!PyData.eqv (.list ((noMain ts).map dOf)) (.list [])) = true
      · rw [c]
        have ne : noMain ts ≠ [] := fun e => by
          rw [e] at c
          exact absurd c (by decide +kernel)
        refine iteT ⟨_, rfl, _, rfl, ne_said nil_tells (by decide) (last_prog (kinds_up sp hK22) R (row_lst (sp _ _ hp22)) (dzAll_same sp dp22) ne) fun H3 s3 => iteF ⟨rfl, sp.trans s3⟩⟩
      · rw [Bool.eq_false_iff.mpr c]
        exact iteF (iteF ⟨rfl, sp⟩)
    rintro σ H23 ⟨rfl, s2223⟩
    -- main with a parameter; six functions
    have hm23 := s2223 _ _ hm22
    have dm23 := dzAll_same s2223 dm22
    refine ⟨_, rfl, lit_run (f := fun H => H) (.list (((noMain ts).map dOf).take 4 ++ [dX "main"])) ?_ fun v H2 s2 d2 => ?_⟩
    · refine lit_cat aside0 (lit_sl (k := 4) aside0 (lit_var aside0 rfl (.lst hm23 dm23)) (lit_c fun _ => .int _)) (lit_lst aside0 (litA_cons aside0 (lit_tup aside0 (litA_cons aside0 (lit_c fun _ => .str _) (litA_cons aside0 (lit_lst aside0 (litA_cons aside0 (lit_c fun _ => .str _) litA_nil) (Nat.le_of_ble_eq_true rfl)) (litA_cons aside0 (lit_lst aside0 (litA_cons aside0 (lit_c fun _ => .non) litA_nil) (Nat.le_of_ble_eq_true rfl)) litA_nil))) (Nat.le_of_ble_eq_true rfl)) litA_nil) (Nat.le_of_ble_eq_true rfl)) ?_
      rw [List.length_take, List.length_singleton]
      omega
    have sX := s2223.trans s2
    have hK2 := kinds_up sX hK22
    have pm : ProgR C K H2 (.ref kp) v (some []) := by
      cases d2 with
      | lst e a => exact main_prog hK2 R (row_lst e) a
    refine ne_said nil_tells (by decide) pm fun H3 s3 => iteF ⟨_, rfl, _, rfl, 6, rfl, sp7, _, rfl, .of (s3 _ _ (sX _ _ hs22)), fun p hp => ?_⟩
    rw [cut_take (by decide)]
    have s4 := (sX.trans s3).trans (same_upd (o := .lst (svs.take (6 : Int).toNat)) hp)
    refine not_said (right_six (kinds_up s4 hK22) (row_lst upd_same) (by rw [List.map_take]; exact dzAll_take 6 (dzAll_same s4 ds22))) fun H5 s5 => iteF ?_
    exact ⟨_, _, _, _, _, _, _, _, _, _, _, _, _, _, _, _, _, _, _, _, _, _, rfl, s1.trans (s22.trans (s4.trans s5))⟩

end
end Q9
end
-- QAllA
section
set_option maxRecDepth 100000
set_option maxHeartbeats 8000000
namespace Q9
open PySem L2
/-- law's promise as the statement wants it -/
def spLaw4 (K : PySem.W.Frag) : Sp := fun vs H Q _ => ∃ (a : Addr) (xs : List Int), vs = [.ref a] ∧ SqL K H a (xs.map V.int) ∧ xs.length ≤ 1000 ∧ ∀ H', Same H H' → Q (.bl true) H'
theorem walk7 {l : PySem.W.OpenLaw} {q : Program} {loose : List Str} {XP : (Str → Option Value) → Heap → Prop} {YP : World → Heap → Prop} {d : DefRec} {K : Params → PySem.W.Frag} (hn : l.most = some 63) (hdf : d.params.defaults = []) (hi : PyProof.Rows.importsNone q = true)
    (hY : ∀ (w : World) (h : Heap), YP w h → (K w.params).In h)
    (F : ∀ (w : World) (mg : Str → Option Value) (fa : Addr) (h : Heap), (K w.params).In h → h.Ns mainGlobals mg → mg d.name = some (.ref fa) →
      ∃ fd : FuncData, (∀ (s : Shared) (u : Value), BindsTo s fd ⟨[u], []⟩ [("_law_script", u)]) ∧ ∀ base : Heap, (K w.params).In base → base.Ns mainGlobals mg → (∃ o, base.get? sysModules = some o) → FnOkG l.prog w (K w.params) mg base 10 fa fd ["_law_script"] (spLaw4 (K w.params))) :
    PySem.W.WalkO q loose XP YP l.row.toRowW d [] (fun f vs => PySem.call f vs) :=
  Q9.walkG (n := 63) (k := 10) (x := "_law_script") (sp := fun w => spLaw4 (K w.params)) hn (by decide) hdf ⟨rfl, by decide, by decide⟩ hi hY F (fun _ _ a ns hl _ hS => ⟨a, ns, rfl, hS, Nat.le_trans hl (by decide), fun _ _ => rfl⟩)
theorem all_mk {l : PySem.W.OpenLaw} {w : World} {K : PySem.W.Frag} {h : Heap} {mg : Str → Option Value} {fa C CQ CPr CR CB CBp NCB NCBp : Addr} (X : K.In h) (G : h.Ns mainGlobals mg) (hfa : mg "law" = some (.ref fa))
    {fRow fName fErr fWord fUn fKey fAR fWi fPa fRi fRd fCP fFn fCt fAk fRp fSrc fD fP fWd fSd fOd fLaw fBI fPI fI fN1 fQi fQr fQb fQs fQm fQv fPr pN1 adW adP adS adE : Addr}
    {odRow anRow odName anName odErr anErr odWord anWord odUn anUn odKey anKey odAR anAR odWi anWi odPa anPa odRi anRi odRd anRd odCP anCP odFn anFn odCt anCt odAk anAk odRp anRp odSrc anSrc odD anD odP anP odWd anWd odSd anSd odOd anOd odLaw anLaw odBI anBI odPI anPI odI anI odN1 anN1 odQi anQi odQr anQr odQb anQb odQs anQs odQm anQm odQv anQv odPr anPr dWo dPe : Option Addr}
    {slRow slName slErr slWord slUn slKey slAR slWi slPa slRi slRd slCP slFn slCt slAk slRp slSrc slD slP slWd slSd slOd slLaw slBI slPI slI slN1 slQi slQr slQb slQs slQm slQv slPr slWo slPe : Array (Option Value)}
    {ocRow kVRow dcRow pmRow cdRow ctRow ocName kVName dcName pmName cdName ctName ocErr kVErr dcErr pmErr cdErr ctErr ocWord kVWord dcWord pmWord cdWord ctWord ocUn kVUn dcUn pmUn cdUn ctUn ocKey kVKey dcKey pmKey cdKey ctKey ocAR kVAR dcAR pmAR cdAR ctAR ocWi kVWi dcWi pmWi cdWi ctWi ocPa kVPa dcPa pmPa cdPa ctPa ocRi kVRi dcRi pmRi cdRi ctRi ocRd kVRd dcRd pmRd cdRd ctRd ocCP kVCP dcCP pmCP cdCP ctCP ocFn kVFn dcFn pmFn cdFn ctFn ocCt kVCt dcCt pmCt cdCt ctCt ocAk kVAk dcAk pmAk cdAk ctAk ocRp kVRp dcRp pmRp cdRp ctRp ocSrc kVSrc dcSrc pmSrc cdSrc ctSrc ocD kVD dcD pmD cdD ctD ocP kVP dcP pmP cdP ctP ocWd kVWd dcWd pmWd cdWd ctWd ocSd kVSd dcSd pmSd cdSd ctSd ocOd kVOd dcOd pmOd cdOd ctOd ocLaw kVLaw dcLaw pmLaw cdLaw ctLaw ocBI kVBI dcBI pmBI cdBI ctBI ocPI kVPI dcPI pmPI cdPI ctPI ocI kVI dcI pmI cdI ctI ocN1 kVN1 dcN1 pmN1 cdN1 ctN1 ocQi kVQi dcQi pmQi cdQi ctQi ocQr kVQr dcQr pmQr cdQr ctQr ocQb kVQb dcQb pmQb cdQb ctQb ocQs kVQs dcQs pmQs cdQs ctQs ocQm kVQm dcQm pmQm cdQm ctQm ocQv kVQv dcQv pmQv cdQv ctQv ocPr kVPr dcPr pmPr cdPr ctPr cWo cPe : Value}
    {restN1 : List Value} {itsWo itsPe : Array Value} {esP esS : Array DictEntry} {nWo nPe nP nS : Nat} {tt_MOST_SIGNS tt_MOST_STATES tt_MOST_METHODS tt_MOST_OUTCOMES tt_MOST_PARAMS tt_MOST_FUNCTIONS tt_MOST_KINDS tt_MOST_BLOCKS tt_MOST_STATEMENTS tt_MOST_VARIABLES : Tok}
    {nmCB qCB : Str} {bsCB bmCB : List Value} {snCB : List Str} {subCB : List Value} {abCB : Bool} {colCB : Option Bool} {ddCB : Option Addr} {m0CB m1CB m2CB m3CB m5CB : Option Value}
    {nmCBp qCBp : Str} {bsCBp bmCBp : List Value} {snCBp : List Str} {subCBp : List Value} {abCBp : Bool} {colCBp : Option Bool} {ddCBp : Option Addr} {m0CBp m1CBp m2CBp m3CBp m5CBp : Option Value}
    (aRow : PySem.W.nsIn K mainGlobals "is_row" = some (some (.ref fRow)))
    (lRow : K.lookup fRow = some ⟨ocRow, odRow, .func (PySem.W.fnOf "is_row" "is_row" (defArgs sIsRow) (defBody sIsRow) (defScope sIsRow) .none kVRow dcRow pmRow anRow cdRow ctRow), slRow⟩)
    (cRow : PySem.W.codeIn K cdRow "is_row" = true)
    (kRow : PySem.W.keepIn K (.ref fRow) = true)
    (aName : PySem.W.nsIn K mainGlobals "is_name" = some (some (.ref fName)))
    (lName : K.lookup fName = some ⟨ocName, odName, .func (PySem.W.fnOf "is_name" "is_name" (defArgs sIsName) (defBody sIsName) (defScope sIsName) .none kVName dcName pmName anName cdName ctName), slName⟩)
    (cName : PySem.W.codeIn K cdName "is_name" = true)
    (kName : PySem.W.keepIn K (.ref fName) = true)
    (aErr : PySem.W.nsIn K mainGlobals "is_error" = some (some (.ref fErr)))
    (lErr : K.lookup fErr = some ⟨ocErr, odErr, .func (PySem.W.fnOf "is_error" "is_error" (defArgs sIsError) (defBody sIsError) (defScope sIsError) .none kVErr dcErr pmErr anErr cdErr ctErr), slErr⟩)
    (cErr : PySem.W.codeIn K cdErr "is_error" = true)
    (kErr : PySem.W.keepIn K (.ref fErr) = true)
    (aWord : PySem.W.nsIn K mainGlobals "is_word" = some (some (.ref fWord)))
    (lWord : K.lookup fWord = some ⟨ocWord, odWord, .func (PySem.W.fnOf "is_word" "is_word" (defArgs sIsWord) (defBody sIsWord) (defScope sIsWord) .none kVWord dcWord pmWord anWord cdWord ctWord), slWord⟩)
    (cWord : PySem.W.codeIn K cdWord "is_word" = true)
    (kWord : PySem.W.keepIn K (.ref fWord) = true)
    (aUn : PySem.W.nsIn K mainGlobals "are_unlike_names" = some (some (.ref fUn)))
    (lUn : K.lookup fUn = some ⟨ocUn, odUn, .func (PySem.W.fnOf "are_unlike_names" "are_unlike_names" (defArgs sUnlike) (defBody sUnlike) (defScope sUnlike) .none kVUn dcUn pmUn anUn cdUn ctUn), slUn⟩)
    (cUn : PySem.W.codeIn K cdUn "are_unlike_names" = true)
    (kUn : PySem.W.keepIn K (.ref fUn) = true)
    (aKey : PySem.W.nsIn K mainGlobals "_is_key" = some (some (.ref fKey)))
    (lKey : K.lookup fKey = some ⟨ocKey, odKey, .func (PySem.W.fnOf "_is_key" "_is_key" (defArgs sIsKey) (defBody sIsKey) (defScope sIsKey) .none kVKey dcKey pmKey anKey cdKey ctKey), slKey⟩)
    (cKey : PySem.W.codeIn K cdKey "_is_key" = true)
    (kKey : PySem.W.keepIn K (.ref fKey) = true)
    (aAR : PySem.W.nsIn K mainGlobals "_are_rows" = some (some (.ref fAR)))
    (lAR : K.lookup fAR = some ⟨ocAR, odAR, .func (PySem.W.fnOf "_are_rows" "_are_rows" (defArgs sAreRows) (defBody sAreRows) (defScope sAreRows) .none kVAR dcAR pmAR anAR cdAR ctAR), slAR⟩)
    (cAR : PySem.W.codeIn K cdAR "_are_rows" = true)
    (kAR : PySem.W.keepIn K (.ref fAR) = true)
    (aWi : PySem.W.nsIn K mainGlobals "_with_tuples" = some (some (.ref fWi)))
    (lWi : K.lookup fWi = some ⟨ocWi, odWi, .func (PySem.W.fnOf "_with_tuples" "_with_tuples" (defArgs sWith) (defBody sWith) (defScope sWith) .none kVWi dcWi pmWi anWi cdWi ctWi), slWi⟩)
    (cWi : PySem.W.codeIn K cdWi "_with_tuples" = true)
    (kWi : PySem.W.keepIn K (.ref fWi) = true)
    (aPa : PySem.W.nsIn K mainGlobals "_pairs_of_texts" = some (some (.ref fPa)))
    (lPa : K.lookup fPa = some ⟨ocPa, odPa, .func (PySem.W.fnOf "_pairs_of_texts" "_pairs_of_texts" (defArgs sPairs) (defBody sPairs) (defScope sPairs) .none kVPa dcPa pmPa anPa cdPa ctPa), slPa⟩)
    (cPa : PySem.W.codeIn K cdPa "_pairs_of_texts" = true)
    (kPa : PySem.W.keepIn K (.ref fPa) = true)
    (aRi : PySem.W.nsIn K mainGlobals "_are_right" = some (some (.ref fRi)))
    (lRi : K.lookup fRi = some ⟨ocRi, odRi, .func (PySem.W.fnOf "_are_right" "_are_right" (defArgs sRight) (defBody sRight) (defScope sRight) .none kVRi dcRi pmRi anRi cdRi ctRi), slRi⟩)
    (cRi : PySem.W.codeIn K cdRi "_are_right" = true)
    (kRi : PySem.W.keepIn K (.ref fRi) = true)
    (aRd : PySem.W.nsIn K mainGlobals "_read_moves" = some (some (.ref fRd)))
    (lRd : K.lookup fRd = some ⟨ocRd, odRd, .func (PySem.W.fnOf "_read_moves" "_read_moves" (defArgs sRead) (defBody sRead) (defScope sRead) .none kVRd dcRd pmRd anRd cdRd ctRd), slRd⟩)
    (cRd : PySem.W.codeIn K cdRd "_read_moves" = true)
    (kRd : PySem.W.keepIn K (.ref fRd) = true)
    (aCP : PySem.W.nsIn K mainGlobals "_check_parts" = some (some (.ref fCP)))
    (lCP : K.lookup fCP = some ⟨ocCP, odCP, .func (PySem.W.fnOf "_check_parts" "_check_parts" (defArgs sCheckP) (defBody sCheckP) (defScope sCheckP) .none kVCP dcCP pmCP anCP cdCP ctCP), slCP⟩)
    (cCP : PySem.W.codeIn K cdCP "_check_parts" = true)
    (kCP : PySem.W.keepIn K (.ref fCP) = true)
    (aFn : PySem.W.nsIn K mainGlobals "_is_function" = some (some (.ref fFn)))
    (lFn : K.lookup fFn = some ⟨ocFn, odFn, .func (PySem.W.fnOf "_is_function" "_is_function" (defArgs sIsFun) (defBody sIsFun) (defScope sIsFun) .none kVFn dcFn pmFn anFn cdFn ctFn), slFn⟩)
    (cFn : PySem.W.codeIn K cdFn "_is_function" = true)
    (kFn : PySem.W.keepIn K (.ref fFn) = true)
    (aCt : PySem.W.nsIn K mainGlobals "_counts_of" = some (some (.ref fCt)))
    (lCt : K.lookup fCt = some ⟨ocCt, odCt, .func (PySem.W.fnOf "_counts_of" "_counts_of" (defArgs sCounts) (defBody sCounts) (defScope sCounts) .none kVCt dcCt pmCt anCt cdCt ctCt), slCt⟩)
    (cCt : PySem.W.codeIn K cdCt "_counts_of" = true)
    (kCt : PySem.W.keepIn K (.ref fCt) = true)
    (aAk : PySem.W.nsIn K mainGlobals "are_kinds" = some (some (.ref fAk)))
    (lAk : K.lookup fAk = some ⟨ocAk, odAk, .func (PySem.W.fnOf "are_kinds" "are_kinds" (defArgs sAreKinds) (defBody sAreKinds) (defScope sAreKinds) .none kVAk dcAk pmAk anAk cdAk ctAk), slAk⟩)
    (cAk : PySem.W.codeIn K cdAk "are_kinds" = true)
    (kAk : PySem.W.keepIn K (.ref fAk) = true)
    (aRp : PySem.W.nsIn K mainGlobals "_read_program" = some (some (.ref fRp)))
    (lRp : K.lookup fRp = some ⟨ocRp, odRp, .func (PySem.W.fnOf "_read_program" "_read_program" (defArgs sReadP) (defBody sReadP) (defScope sReadP) .none kVRp dcRp pmRp anRp cdRp ctRp), slRp⟩)
    (cRp : PySem.W.codeIn K cdRp "_read_program" = true)
    (kRp : PySem.W.keepIn K (.ref fRp) = true)
    (aSrc : PySem.W.nsIn K mainGlobals "_law_source" = some (some (.ref fSrc)))
    (lSrc : K.lookup fSrc = some ⟨ocSrc, odSrc, .func (PySem.W.fnOf "_law_source" "_law_source" (defArgs sSource) (defBody sSource) (defScope sSource) .none kVSrc dcSrc pmSrc anSrc cdSrc ctSrc), slSrc⟩)
    (cSrc : PySem.W.codeIn K cdSrc "_law_source" = true)
    (kSrc : PySem.W.keepIn K (.ref fSrc) = true)
    (aD : PySem.W.nsIn K mainGlobals "_law_draw" = some (some (.ref fD)))
    (lD : K.lookup fD = some ⟨ocD, odD, .func (PySem.W.fnOf "_law_draw" "_law_draw" (defArgs sDraw) (defBody sDraw) (defScope sDraw) .none kVD dcD pmD anD cdD ctD), slD⟩)
    (cD : PySem.W.codeIn K cdD "_law_draw" = true)
    (kD : PySem.W.keepIn K (.ref fD) = true)
    (aP : PySem.W.nsIn K mainGlobals "_law_pick" = some (some (.ref fP)))
    (lP : K.lookup fP = some ⟨ocP, odP, .func (PySem.W.fnOf "_law_pick" "_law_pick" (defArgs sPick) (defBody sPick) (defScope sPick) .none kVP dcP pmP anP cdP ctP), slP⟩)
    (cP : PySem.W.codeIn K cdP "_law_pick" = true)
    (kP : PySem.W.keepIn K (.ref fP) = true)
    (aWd : PySem.W.nsIn K mainGlobals "_law_words" = some (some (.ref fWd)))
    (lWd : K.lookup fWd = some ⟨ocWd, odWd, .func (PySem.W.fnOf "_law_words" "_law_words" (defArgs sWords) (defBody sWords) (defScope sWords) .none kVWd dcWd pmWd anWd cdWd ctWd), slWd⟩)
    (cWd : PySem.W.codeIn K cdWd "_law_words" = true)
    (kWd : PySem.W.keepIn K (.ref fWd) = true)
    (aSd : PySem.W.nsIn K mainGlobals "_law_said" = some (some (.ref fSd)))
    (lSd : K.lookup fSd = some ⟨ocSd, odSd, .func (PySem.W.fnOf "_law_said" "_law_said" (defArgs sSaid) (defBody sSaid) (defScope sSaid) .none kVSd dcSd pmSd anSd cdSd ctSd), slSd⟩)
    (cSd : PySem.W.codeIn K cdSd "_law_said" = true)
    (kSd : PySem.W.keepIn K (.ref fSd) = true)
    (aOd : PySem.W.nsIn K mainGlobals "_law_odd_function" = some (some (.ref fOd)))
    (lOd : K.lookup fOd = some ⟨ocOd, odOd, .func (PySem.W.fnOf "_law_odd_function" "_law_odd_function" (defArgs sOddF) (defBody sOddF) (defScope sOddF) .none kVOd dcOd pmOd anOd cdOd ctOd), slOd⟩)
    (cOd : PySem.W.codeIn K cdOd "_law_odd_function" = true)
    (kOd : PySem.W.keepIn K (.ref fOd) = true)
    (aLaw : PySem.W.nsIn K mainGlobals "law" = some (some (.ref fLaw)))
    (lLaw : K.lookup fLaw = some ⟨ocLaw, odLaw, .func (PySem.W.fnOf "law" "law" (defArgs sLaw) (defBody sLaw) (defScope sLaw) .none kVLaw dcLaw pmLaw anLaw cdLaw ctLaw), slLaw⟩)
    (cLaw : PySem.W.codeIn K cdLaw "law" = true)
    (kLaw : PySem.W.keepIn K (.ref fLaw) = true)
    (aC : PySem.W.nsIn K mainGlobals "Kind" = some (some (.ref C)))
    (aCQ : PySem.W.nsIn K mainGlobals "ProgramReader" = some (some (.ref CQ)))
    (aCPr : PySem.W.nsIn K mainGlobals "Program" = some (some (.ref CPr)))
    (aCR : PySem.W.nsIn K mainGlobals "RightError" = some (some (.ref CR)))
    (aCB : PySem.W.nsIn K mainGlobals "BadKind" = some (some (.ref CB)))
    (xCB : K.lookup CB = some (excClassObj nmCB qCB CB NCB bsCB bmCB true snCB subCB abCB colCB ddCB m0CB m1CB m2CB m3CB m5CB "ValueError.__new__"))
    (rCB : PySem.HandSPX.refsVE bmCB = true)
    (saCB : PySem.W.findIn K (.ref CB) "__setattr__" = some (some (.builtin "object.__setattr__")))
    (exCB : PySem.W.subIn K (.ref CB) (.type "BaseException") = some true)
    (tyCB : PySem.W.typeIn K (.ref CB) = some (.type "type"))
    (kCB : PySem.W.keepIn K (.ref CB) = true)
    (noCB : PySem.W.findIn K (.ref CB) "part" = some none)
    (aBI : PySem.W.findIn K (.ref CB) "__init__" = some (some (.ref fBI)))
    (tBI : PySem.W.typeIn K (.ref fBI) = some (.type "function"))
    (lBI : K.lookup fBI = some ⟨ocBI, odBI, .func (PySem.W.fnOf "__init__" "BadKind.__init__" (defArgs sIBadKind) (defBody sIBadKind) (defScope sIBadKind) .none kVBI dcBI pmBI anBI cdBI ctBI), slBI⟩)
    (cBI : PySem.W.codeIn K cdBI "BadKind.__init__" = true)
    (kBI : PySem.W.keepIn K (.ref fBI) = true)
    (aCBp : PySem.W.nsIn K mainGlobals "BadProgram" = some (some (.ref CBp)))
    (xCBp : K.lookup CBp = some (excClassObj nmCBp qCBp CBp NCBp bsCBp bmCBp true snCBp subCBp abCBp colCBp ddCBp m0CBp m1CBp m2CBp m3CBp m5CBp "ValueError.__new__"))
    (rCBp : PySem.HandSPX.refsVE bmCBp = true)
    (saCBp : PySem.W.findIn K (.ref CBp) "__setattr__" = some (some (.builtin "object.__setattr__")))
    (exCBp : PySem.W.subIn K (.ref CBp) (.type "BaseException") = some true)
    (tyCBp : PySem.W.typeIn K (.ref CBp) = some (.type "type"))
    (kCBp : PySem.W.keepIn K (.ref CBp) = true)
    (noCBp : PySem.W.findIn K (.ref CBp) "place" = some none)
    (aPI : PySem.W.findIn K (.ref CBp) "__init__" = some (some (.ref fPI)))
    (tPI : PySem.W.typeIn K (.ref fPI) = some (.type "function"))
    (lPI : K.lookup fPI = some ⟨ocPI, odPI, .func (PySem.W.fnOf "__init__" "BadProgram.__init__" (defArgs sIBadProgram) (defBody sIBadProgram) (defScope sIBadProgram) .none kVPI dcPI pmPI anPI cdPI ctPI), slPI⟩)
    (cPI : PySem.W.codeIn K cdPI "BadProgram.__init__" = true)
    (kPI : PySem.W.keepIn K (.ref fPI) = true)
    (gaBp : PySem.W.findIn K (.ref CBp) "__getattribute__" = some (some (.builtin "BaseException.__getattribute__")))
    (ggBp : PySem.W.findIn K (.ref CBp) "__getattr__" = some none)
    (hdBp : PySem.W.hasDictIn K CBp = true)
    (teBp : PySem.W.exmOne K (.ref CBp) (.ref CR) = some true)
    (clBp : (PySem.W.clsIn K CBp).isSome = true)
    (ccBp : PySem.W.findIn K (.ref CBp) "__class__" = some (some (.builtin "object.__class__")))
    (moBp : PySem.W.mroIn K CBp (.type "object") = some true)
    (kiBp : PySem.W.kitOne K (.ref CBp) (.ref CBp) = some true)
    (kvBp : PySem.W.kitOne K (.ref CBp) (.type "ValueError") = some true)
    (aI : PySem.W.findIn K (.ref C) "__init__" = some (some (.ref fI)))
    (iI : PySem.W.isFn K (.ref fI) = true)
    (lI : K.lookup fI = some ⟨ocI, odI, .func (PySem.W.fnOf "__init__" "Kind.__init__" (defArgs (kMeth 0)) (defBody (kMeth 0)) (defScope (kMeth 0)) .none kVI dcI pmI anI cdI ctI), slI⟩)
    (cI : PySem.W.codeIn K cdI "Kind.__init__" = true)
    (kI : PySem.W.keepIn K (.ref fI) = true)
    (aN1 : PySem.W.findIn K (.ref C) "name" = some (some (.ref pN1)))
    (gN1 : PySem.W.specialIn K (.ref pN1) "__get__" = some (some (.builtin "property.__get__")))
    (tkN1 : PySem.W.takesIn K (.ref pN1) = some true)
    (rcN1 : PySem.W.recIn K pN1 "property" = some (.ref fN1 :: restN1))
    (lN1 : K.lookup fN1 = some ⟨ocN1, odN1, .func (PySem.W.fnOf "name" "Kind.name" (defArgs (kMeth 1)) (defBody (kMeth 1)) (defScope (kMeth 1)) .none kVN1 dcN1 pmN1 anN1 cdN1 ctN1), slN1⟩)
    (cN1 : PySem.W.codeIn K cdN1 "Kind.name" = true)
    (kN1 : PySem.W.keepIn K (.ref fN1) = true)
    (aQi : PySem.W.findIn K (.ref CQ) "__init__" = some (some (.ref fQi)))
    (iQi : PySem.W.isFn K (.ref fQi) = true)
    (lQi : K.lookup fQi = some ⟨ocQi, odQi, .func (PySem.W.fnOf "__init__" "Reader.__init__" (defArgs (rMeth 0)) (defBody (rMeth 0)) (defScope (rMeth 0)) .none kVQi dcQi pmQi anQi cdQi ctQi), slQi⟩)
    (cQi : PySem.W.codeIn K cdQi "Reader.__init__" = true)
    (kQi : PySem.W.keepIn K (.ref fQi) = true)
    (aQr : PySem.W.findIn K (.ref CQ) "read" = some (some (.ref fQr)))
    (iQr : PySem.W.isFn K (.ref fQr) = true)
    (lQr : K.lookup fQr = some ⟨ocQr, odQr, .func (PySem.W.fnOf "read" "Reader.read" (defArgs (rMeth 2)) (defBody (rMeth 2)) (defScope (rMeth 2)) .none kVQr dcQr pmQr anQr cdQr ctQr), slQr⟩)
    (cQr : PySem.W.codeIn K cdQr "Reader.read" = true)
    (kQr : PySem.W.keepIn K (.ref fQr) = true)
    (aQb : PySem.W.findIn K (.ref CQ) "_block" = some (some (.ref fQb)))
    (iQb : PySem.W.isFn K (.ref fQb) = true)
    (lQb : K.lookup fQb = some ⟨ocQb, odQb, .func (PySem.W.fnOf "_block" "Reader._block" (defArgs (rMeth 4)) (defBody (rMeth 4)) (defScope (rMeth 4)) .none kVQb dcQb pmQb anQb cdQb ctQb), slQb⟩)
    (cQb : PySem.W.codeIn K cdQb "Reader._block" = true)
    (kQb : PySem.W.keepIn K (.ref fQb) = true)
    (aQs : PySem.W.findIn K (.ref CQ) "_simple" = some (some (.ref fQs)))
    (iQs : PySem.W.isFn K (.ref fQs) = true)
    (lQs : K.lookup fQs = some ⟨ocQs, odQs, .func (PySem.W.fnOf "_simple" "Reader._simple" (defArgs (rMeth 5)) (defBody (rMeth 5)) (defScope (rMeth 5)) .none kVQs dcQs pmQs anQs cdQs ctQs), slQs⟩)
    (cQs : PySem.W.codeIn K cdQs "Reader._simple" = true)
    (kQs : PySem.W.keepIn K (.ref fQs) = true)
    (aQm : PySem.W.findIn K (.ref CQ) "_meet" = some (some (.ref fQm)))
    (iQm : PySem.W.isFn K (.ref fQm) = true)
    (lQm : K.lookup fQm = some ⟨ocQm, odQm, .func (PySem.W.fnOf "_meet" "Reader._meet" (defArgs (rMeth 10)) (defBody (rMeth 10)) (defScope (rMeth 10)) .none kVQm dcQm pmQm anQm cdQm ctQm), slQm⟩)
    (cQm : PySem.W.codeIn K cdQm "Reader._meet" = true)
    (kQm : PySem.W.keepIn K (.ref fQm) = true)
    (aQv : PySem.W.findIn K (.ref CQ) "_variables_in" = some (some (.ref fQv)))
    (iQv : PySem.W.isFn K (.ref fQv) = true)
    (lQv : K.lookup fQv = some ⟨ocQv, odQv, .func (PySem.W.fnOf "_variables_in" "Reader._variables_in" (defArgs (rMeth 11)) (defBody (rMeth 11)) (defScope (rMeth 11)) .none kVQv dcQv pmQv anQv cdQv ctQv), slQv⟩)
    (cQv : PySem.W.codeIn K cdQv "Reader._variables_in" = true)
    (kQv : PySem.W.keepIn K (.ref fQv) = true)
    (aPr : PySem.W.findIn K (.ref CPr) "__init__" = some (some (.ref fPr)))
    (iPr : PySem.W.isFn K (.ref fPr) = true)
    (lPr : K.lookup fPr = some ⟨ocPr, odPr, .func (PySem.W.fnOf "__init__" "Program.__init__" (defArgs (pMeth 0)) (defBody (pMeth 0)) (defScope (pMeth 0)) .none kVPr dcPr pmPr anPr cdPr ctPr), slPr⟩)
    (cPr : PySem.W.codeIn K cdPr "Program.__init__" = true)
    (kPr : PySem.W.keepIn K (.ref fPr) = true)
    (pgC : PySem.W.plainGet K C Str.empty = true)
    (hdC : PySem.W.hasDictIn K C = true)
    (poC : PySem.W.plainOver K C = true)
    (saC : PySem.W.findIn K (.ref C) "__setattr__" = some (some (.builtin "object.__setattr__")))
    (mkC : PySem.W.makesIn K C = true)
    (kcC : PySem.W.keepIn K (.ref C) = true)
    (pgCQ : PySem.W.plainGet K CQ Str.empty = true)
    (hdCQ : PySem.W.hasDictIn K CQ = true)
    (poCQ : PySem.W.plainOver K CQ = true)
    (saCQ : PySem.W.findIn K (.ref CQ) "__setattr__" = some (some (.builtin "object.__setattr__")))
    (mkCQ : PySem.W.makesIn K CQ = true)
    (kcCQ : PySem.W.keepIn K (.ref CQ) = true)
    (pgCPr : PySem.W.plainGet K CPr Str.empty = true)
    (hdCPr : PySem.W.hasDictIn K CPr = true)
    (poCPr : PySem.W.plainOver K CPr = true)
    (saCPr : PySem.W.findIn K (.ref CPr) "__setattr__" = some (some (.builtin "object.__setattr__")))
    (mkCPr : PySem.W.makesIn K CPr = true)
    (kcCPr : PySem.W.keepIn K (.ref CPr) = true)
    (ccK : PySem.W.findIn K (.ref C) "__class__" = some (some (.builtin "object.__class__")))
    (spK : PySem.W.specialIn K (.builtin "object.__class__") "__get__" = some (some (.builtin "getset_descriptor.__get__")))
    (tkK : PySem.W.takesIn K (.builtin "object.__class__") = some true)
    (moK : PySem.W.mroIn K C (.type "object") = some true)
    (meK : PySem.W.kitOne K (.ref C) (.ref C) = some true)
    (kL : PySem.W.kitOne K (.ref C) (.type "list") = some false)
    (kT : PySem.W.kitOne K (.ref C) (.type "tuple") = some false)
    (kN : PySem.W.kitOne K (.type "NoneType") (.ref C) = some false)
    (kS : PySem.W.kitOne K (.type "str") (.ref C) = some false)
    (no_name : PySem.W.findIn K (.ref C) "_name" = some none)
    (no_start : PySem.W.findIn K (.ref C) "_start" = some none)
    (no_ends : PySem.W.findIn K (.ref C) "_ends" = some none)
    (no_states : PySem.W.findIn K (.ref C) "_states" = some none)
    (no_methods : PySem.W.findIn K (.ref C) "_methods" = some none)
    (no_moves : PySem.W.findIn K (.ref C) "_moves" = some none)
    (qn_words : PySem.W.findIn K (.ref CQ) "_words" = some none)
    (qn_kinds : PySem.W.findIn K (.ref CQ) "_kinds" = some none)
    (qn_counts : PySem.W.findIn K (.ref CQ) "_counts" = some none)
    (qn_forms : PySem.W.findIn K (.ref CQ) "_forms" = some none)
    (qn_errors : PySem.W.findIn K (.ref CQ) "_errors" = some none)
    (qn_named : PySem.W.findIn K (.ref CQ) "_named" = some none)
    (qn_met : PySem.W.findIn K (.ref CQ) "_met" = some none)
    (qn_many : PySem.W.findIn K (.ref CQ) "_many" = some none)
    (qn_last : PySem.W.findIn K (.ref CQ) "_last" = some none)
    (pn_functions : PySem.W.findIn K (.ref CPr) "_functions" = some none)
    (pn_variable_rows : PySem.W.findIn K (.ref CPr) "_variable_rows" = some none)
    (pn_kinds : PySem.W.findIn K (.ref CPr) "_kinds" = some none)
    (pn_flow : PySem.W.findIn K (.ref CPr) "_flow" = some none)
    (z_isinstance : PySem.W.nsIn K mainGlobals "isinstance" = some none)
    (z_list : PySem.W.nsIn K mainGlobals "list" = some none)
    (z_tuple : PySem.W.nsIn K mainGlobals "tuple" = some none)
    (z_str : PySem.W.nsIn K mainGlobals "str" = some none)
    (z_len : PySem.W.nsIn K mainGlobals "len" = some none)
    (z_all : PySem.W.nsIn K mainGlobals "all" = some none)
    (z_set : PySem.W.nsIn K mainGlobals "set" = some none)
    (z_dict : PySem.W.nsIn K mainGlobals "dict" = some none)
    (z_sum : PySem.W.nsIn K mainGlobals "sum" = some none)
    (z_sorted : PySem.W.nsIn K mainGlobals "sorted" = some none)
    (z_range : PySem.W.nsIn K mainGlobals "range" = some none)
    (z_int : PySem.W.nsIn K mainGlobals "int" = some none)
    (z_enumerate : PySem.W.nsIn K mainGlobals "enumerate" = some none)
    (z_zip : PySem.W.nsIn K mainGlobals "zip" = some none)
    (z_repr : PySem.W.nsIn K mainGlobals "repr" = some none)
    (z_ValueError : PySem.W.nsIn K mainGlobals "ValueError" = some none)
    (v_MOST_SIGNS : PySem.W.nsIn K mainGlobals "MOST_SIGNS" = some (some (.int 8 tt_MOST_SIGNS)))
    (v_MOST_STATES : PySem.W.nsIn K mainGlobals "MOST_STATES" = some (some (.int 60 tt_MOST_STATES)))
    (v_MOST_METHODS : PySem.W.nsIn K mainGlobals "MOST_METHODS" = some (some (.int 8 tt_MOST_METHODS)))
    (v_MOST_OUTCOMES : PySem.W.nsIn K mainGlobals "MOST_OUTCOMES" = some (some (.int 8 tt_MOST_OUTCOMES)))
    (v_MOST_PARAMS : PySem.W.nsIn K mainGlobals "MOST_PARAMS" = some (some (.int 3 tt_MOST_PARAMS)))
    (v_MOST_FUNCTIONS : PySem.W.nsIn K mainGlobals "MOST_FUNCTIONS" = some (some (.int 6 tt_MOST_FUNCTIONS)))
    (v_MOST_KINDS : PySem.W.nsIn K mainGlobals "MOST_KINDS" = some (some (.int 4 tt_MOST_KINDS)))
    (v_MOST_BLOCKS : PySem.W.nsIn K mainGlobals "MOST_BLOCKS" = some (some (.int 6 tt_MOST_BLOCKS)))
    (v_MOST_STATEMENTS : PySem.W.nsIn K mainGlobals "MOST_STATEMENTS" = some (some (.int 200 tt_MOST_STATEMENTS)))
    (v_MOST_VARIABLES : PySem.W.nsIn K mainGlobals "MOST_VARIABLES" = some (some (.int 5 tt_MOST_VARIABLES)))
    (aWo : PySem.W.nsIn K mainGlobals "WORDS" = some (some (.ref adW)))
    (lWo : K.lookup adW = some ⟨cWo, dWo, .seq itsWo nWo, slWo⟩)
    (tWo : cWo = .type "tuple")
    (wWo : ∃ ws : List Str, Vals (ws.map V.str) itsWo.toList ∧ ("wait" : Str) ∈ ws ∧ ws.length ≤ 100)
    (aPa_ : PySem.W.nsIn K mainGlobals "PARTS" = some (some (.ref adP)))
    (lPa_ : K.lookup adP = some ⟨.type "dict", none, .dict esP nP, #[]⟩)
    (yPa : PySem.W.KeysLit w.params esP.toList)
    (iPa_ : PySem.W.nsIn K adP "wait" = some (some (.ref adE)))
    (lPe : K.lookup adE = some ⟨cPe, dPe, .seq itsPe nPe, slPe⟩)
    (tPe : cPe = .type "tuple")
    (ePe : itsPe.toList = [])
    (aSh : PySem.W.nsIn K mainGlobals "SHAPES" = some (some (.ref adS)))
    (lSh : K.lookup adS = some ⟨.type "dict", none, .dict esS nS, #[]⟩)
    (ySh : PySem.W.KeysLit w.params esS.toList)
    (loSh : (adS == sysModules) = false)
    (iSh : PySem.W.nsIn K adS "wait" = some none)
    : ∃ fd : FuncData, (∀ (s : Shared) (v : Value), BindsTo s fd ⟨[v], []⟩ [("_law_script", v)]) ∧ ∀ base : Heap, K.In base → base.Ns mainGlobals mg → (∃ o, base.get? sysModules = some o) → FnOkG l.prog w K mg base 10 fa fd ["_law_script"] (spLaw4 K) := by
  have e := hfa.symm.trans (PySem.W.mg_of X G aLaw)
  cases e
  have FRow := fun_mk (st := sIsRow) lRow cRow kRow
  have gRow := PySem.W.mg_of X G aRow
  have FName := fun_mk (st := sIsName) lName cName kName
  have gName := PySem.W.mg_of X G aName
  have FErr := fun_mk (st := sIsError) lErr cErr kErr
  have gErr := PySem.W.mg_of X G aErr
  have FWord := fun_mk (st := sIsWord) lWord cWord kWord
  have gWord := PySem.W.mg_of X G aWord
  have FUn := fun_mk (st := sUnlike) lUn cUn kUn
  have gUn := PySem.W.mg_of X G aUn
  have FKey := fun_mk (st := sIsKey) lKey cKey kKey
  have gKey := PySem.W.mg_of X G aKey
  have FAR := fun_mk (st := sAreRows) lAR cAR kAR
  have gAR := PySem.W.mg_of X G aAR
  have FWi := fun_mk (st := sWith) lWi cWi kWi
  have gWi := PySem.W.mg_of X G aWi
  have FPa := fun_mk (st := sPairs) lPa cPa kPa
  have gPa := PySem.W.mg_of X G aPa
  have FRi := fun_mk (st := sRight) lRi cRi kRi
  have gRi := PySem.W.mg_of X G aRi
  have FRd := fun_mk (st := sRead) lRd cRd kRd
  have gRd := PySem.W.mg_of X G aRd
  have FCP := fun_mk (st := sCheckP) lCP cCP kCP
  have gCP := PySem.W.mg_of X G aCP
  have FFn := fun_mk (st := sIsFun) lFn cFn kFn
  have gFn := PySem.W.mg_of X G aFn
  have FCt := fun_mk (st := sCounts) lCt cCt kCt
  have gCt := PySem.W.mg_of X G aCt
  have FAk := fun_mk (st := sAreKinds) lAk cAk kAk
  have gAk := PySem.W.mg_of X G aAk
  have FRp := fun_mk (st := sReadP) lRp cRp kRp
  have gRp := PySem.W.mg_of X G aRp
  have FSrc := fun_mk (st := sSource) lSrc cSrc kSrc
  have gSrc := PySem.W.mg_of X G aSrc
  have FD := fun_mk (st := sDraw) lD cD kD
  have gD := PySem.W.mg_of X G aD
  have FP := fun_mk (st := sPick) lP cP kP
  have gP := PySem.W.mg_of X G aP
  have FWd := fun_mk (st := sWords) lWd cWd kWd
  have gWd := PySem.W.mg_of X G aWd
  have FSd := fun_mk (st := sSaid) lSd cSd kSd
  have gSd := PySem.W.mg_of X G aSd
  have FOd := fun_mk (st := sOddF) lOd cOd kOd
  have gOd := PySem.W.mg_of X G aOd
  have FLaw := fun_mk (st := sLaw) lLaw cLaw kLaw
  have gLaw := PySem.W.mg_of X G aLaw
  have FBI := fun_mk (st := sIBadKind) lBI cBI kBI
  have FPI := fun_mk (st := sIBadProgram) lPI cPI kPI
  have FI := fun_mk (st := (kMeth 0)) lI cI kI
  have FN1 := fun_mk (st := (kMeth 1)) lN1 cN1 kN1
  have FQi := fun_mk (st := (rMeth 0)) lQi cQi kQi
  have FQr := fun_mk (st := (rMeth 2)) lQr cQr kQr
  have FQb := fun_mk (st := (rMeth 4)) lQb cQb kQb
  have FQs := fun_mk (st := (rMeth 5)) lQs cQs kQs
  have FQm := fun_mk (st := (rMeth 10)) lQm cQm kQm
  have FQv := fun_mk (st := (rMeth 11)) lQv cQv kQv
  have FPr := fun_mk (st := (pMeth 0)) lPr cPr kPr
  have bRow := FRow.binds (ps := ["thing"]) fun _ _ _ _ _ _ us hl => match us, hl with | [_], _ => rfl
  have bName := FName.binds (ps := ["thing"]) fun _ _ _ _ _ _ us hl => match us, hl with | [_], _ => rfl
  have bErr := FErr.binds (ps := ["thing"]) fun _ _ _ _ _ _ us hl => match us, hl with | [_], _ => rfl
  have bWord := FWord.binds (ps := ["thing"]) fun _ _ _ _ _ _ us hl => match us, hl with | [_], _ => rfl
  have bUn := FUn.binds (ps := ["thing"]) fun _ _ _ _ _ _ us hl => match us, hl with | [_], _ => rfl
  have bKey := FKey.binds (ps := ["thing"]) fun _ _ _ _ _ _ us hl => match us, hl with | [_], _ => rfl
  have bAR := FAR.binds (ps := ["moves"]) fun _ _ _ _ _ _ us hl => match us, hl with | [_], _ => rfl
  have bWi := FWi.binds (ps := ["moves"]) fun _ _ _ _ _ _ us hl => match us, hl with | [_], _ => rfl
  have bPa := FPa.binds (ps := ["rows"]) fun _ _ _ _ _ _ us hl => match us, hl with | [_], _ => rfl
  have bRi := FRi.binds (ps := ["words", "states", "methods"]) fun _ _ _ _ _ _ us hl => match us, hl with | [_, _, _], _ => rfl
  have bRd := FRd.binds (ps := ["moves", "start", "ends"]) fun _ _ _ _ _ _ us hl => match us, hl with | [_, _, _], _ => rfl
  have bCP := FCP.binds (ps := ["name", "start", "ends"]) fun _ _ _ _ _ _ us hl => match us, hl with | [_, _, _], _ => rfl
  have bFn := FFn.binds (ps := ["thing"]) fun _ _ _ _ _ _ us hl => match us, hl with | [_], _ => rfl
  have bCt := FCt.binds (ps := ["functions"]) fun _ _ _ _ _ _ us hl => match us, hl with | [_], _ => rfl
  have bAk := FAk.binds (ps := ["thing"]) fun _ _ _ _ _ _ us hl => match us, hl with | [_], _ => rfl
  have bRp := FRp.binds (ps := ["kinds", "functions"]) fun _ _ _ _ _ _ us hl => match us, hl with | [_, _], _ => rfl
  have bSrc := FSrc.binds (ps := ["_law_cell"]) fun _ _ _ _ _ _ us hl => match us, hl with | [_], _ => rfl
  have bD := FD.binds (ps := ["_law_well", "_law_many"]) fun _ _ _ _ _ _ us hl => match us, hl with | [_, _], _ => rfl
  have bP := FP.binds (ps := ["_law_well", "_law_some"]) fun _ _ _ _ _ _ us hl => match us, hl with | [_, _], _ => rfl
  have bWd := FWd.binds (ps := ["_law_well", "_law_many", "_law_some"]) fun _ _ _ _ _ _ us hl => match us, hl with | [_, _, _], _ => rfl
  have bSd := FSd.binds (ps := ["_law_kinds", "_law_functions"]) fun _ _ _ _ _ _ us hl => match us, hl with | [_, _], _ => rfl
  have bOd := FOd.binds (ps := ["_law_well", "_law_name", "_law_others"]) fun _ _ _ _ _ _ us hl => match us, hl with | [_, _, _], _ => rfl
  have bLaw := FLaw.binds (ps := ["_law_script"]) fun _ _ _ _ _ _ us hl => match us, hl with | [_], _ => rfl
  have bBI := FBI.binds (ps := ["self", "part"]) fun _ _ _ _ _ _ us hl => match us, hl with | [_, _], _ => rfl
  have bPI := FPI.binds (ps := ["self", "place"]) fun _ _ _ _ _ _ us hl => match us, hl with | [_, _], _ => rfl
  have bI := FI.binds (ps := ["self", "name", "start", "ends", "moves"]) fun _ _ _ _ _ _ us hl => match us, hl with | [_, _, _, _, _], _ => rfl
  have bN1 := FN1.binds (ps := ["self"]) fun _ _ _ _ _ _ us hl => match us, hl with | [_], _ => rfl
  have bQi := FQi.binds (ps := ["self", "words", "kinds", "counts"]) fun _ _ _ _ _ _ us hl => match us, hl with | [_, _, _, _], _ => rfl
  have bQr := FQr.binds (ps := ["self", "number", "variables", "body"]) fun _ _ _ _ _ _ us hl => match us, hl with | [_, _, _, _], _ => rfl
  have bQb := FQb.binds (ps := ["self", "rows", "place", "blocks", "loops", "withs"]) fun _ _ _ _ _ _ us hl => match us, hl with | [_, _, _, _, _, _], _ => rfl
  have bQs := FQs.binds (ps := ["self", "statement", "place", "loops"]) fun _ _ _ _ _ _ us hl => match us, hl with | [_, _, _, _], _ => rfl
  have bQm := FQm.binds (ps := ["self", "form", "place"]) fun _ _ _ _ _ _ us hl => match us, hl with | [_, _, _], _ => rfl
  have bQv := FQv.binds (ps := ["self", "form"]) fun _ _ _ _ _ _ us hl => match us, hl with | [_, _], _ => rfl
  have bPr := FPr.binds (ps := ["self", "kinds", "functions"]) fun _ _ _ _ _ _ us hl => match us, hl with | [_, _, _], _ => rfl
  have y_isinstance := PySem.W.mg_none_of X G z_isinstance
  have y_list := PySem.W.mg_none_of X G z_list
  have y_tuple := PySem.W.mg_none_of X G z_tuple
  have y_str := PySem.W.mg_none_of X G z_str
  have y_len := PySem.W.mg_none_of X G z_len
  have y_all := PySem.W.mg_none_of X G z_all
  have y_set := PySem.W.mg_none_of X G z_set
  have y_dict := PySem.W.mg_none_of X G z_dict
  have y_sum := PySem.W.mg_none_of X G z_sum
  have y_sorted := PySem.W.mg_none_of X G z_sorted
  have y_range := PySem.W.mg_none_of X G z_range
  have y_int := PySem.W.mg_none_of X G z_int
  have y_enumerate := PySem.W.mg_none_of X G z_enumerate
  have y_zip := PySem.W.mg_none_of X G z_zip
  have y_repr := PySem.W.mg_none_of X G z_repr
  have y_ValueError := PySem.W.mg_none_of X G z_ValueError
  have u_MOST_SIGNS := PySem.W.mg_of X G v_MOST_SIGNS
  have u_MOST_STATES := PySem.W.mg_of X G v_MOST_STATES
  have u_MOST_METHODS := PySem.W.mg_of X G v_MOST_METHODS
  have u_MOST_OUTCOMES := PySem.W.mg_of X G v_MOST_OUTCOMES
  have u_MOST_PARAMS := PySem.W.mg_of X G v_MOST_PARAMS
  have u_MOST_FUNCTIONS := PySem.W.mg_of X G v_MOST_FUNCTIONS
  have u_MOST_KINDS := PySem.W.mg_of X G v_MOST_KINDS
  have u_MOST_BLOCKS := PySem.W.mg_of X G v_MOST_BLOCKS
  have u_MOST_STATEMENTS := PySem.W.mg_of X G v_MOST_STATEMENTS
  have u_MOST_VARIABLES := PySem.W.mg_of X G v_MOST_VARIABLES
  have gC := PySem.W.mg_of X G aC
  have gCB := PySem.W.mg_of X G aCB
  have gCBp := PySem.W.mg_of X G aCBp
  have gCQ := PySem.W.mg_of X G aCQ
  have gCPr := PySem.W.mg_of X G aCPr
  have gCR := PySem.W.mg_of X G aCR
  have gW := PySem.W.mg_of X G aWo
  have gP_ := PySem.W.mg_of X G aPa_
  have gS_ := PySem.W.mg_of X G aSh
  have cl : Cls K C := ⟨pgC, hdC, poC, saC⟩
  have clQ : Cls K CQ := ⟨pgCQ, hdCQ, poCQ, saCQ⟩
  have clP : Cls K CPr := ⟨pgCPr, hdCPr, poCPr, saCPr⟩
  have noQ : ∀ f ∈ (["_words", "_kinds", "_counts", "_forms", "_errors", "_named", "_met", "_many", "_last"] : List Str), NoAttr K CQ f := fun f hf => by
    simp only [List.mem_cons, List.not_mem_nil, or_false] at hf
    rcases hf with rfl | rfl | rfl | rfl | rfl | rfl | rfl | rfl | rfl
    · exact qn_words
    · exact qn_kinds
    · exact qn_counts
    · exact qn_forms
    · exact qn_errors
    · exact qn_named
    · exact qn_met
    · exact qn_many
    · exact qn_last
  have noP : ∀ f ∈ (["_functions", "_variable_rows", "_kinds", "_flow"] : List Str), NoAttr K CPr f := fun f hf => by
    simp only [List.mem_cons, List.not_mem_nil, or_false] at hf
    rcases hf with rfl | rfl | rfl | rfl
    · exact pn_functions
    · exact pn_variable_rows
    · exact pn_kinds
    · exact pn_flow
  have TF : TForm K mg fRow := ⟨y_isinstance, y_list, y_tuple, y_str, y_len, y_all, y_set, ⟨_, u_MOST_SIGNS⟩, gRow, kRow⟩
  have TE1 : TErr K mg "BadKind" "part" CB fBI := ⟨gCB, ⟨⟨_, _, _, _, _, _, _, _, _, _, _, _, _, _, _, xCB, rCB⟩, saCB, exCB, tyCB, kCB⟩, aBI, tBI, noCB⟩
  have TEp : TErr K mg "BadProgram" "place" CBp fPI := ⟨gCBp, ⟨⟨_, _, _, _, _, _, _, _, _, _, _, _, _, _, _, xCBp, rCBp⟩, saCBp, exCBp, tyCBp, kCBp⟩, aPI, tPI, noCBp⟩
  have TR : TRead K mg fKey := ⟨y_isinstance, y_dict, y_list, y_tuple, y_str, y_len, y_all, y_sum, y_set, y_sorted, ⟨_, u_MOST_OUTCOMES⟩, ⟨_, u_MOST_STATES⟩, ⟨_, u_MOST_METHODS⟩, gKey, kKey⟩
  have TRi : TRight K mg fName fWord := ⟨gName, kName, gWord, kWord⟩
  have TD : TRd K mg fAR fPa fRi := ⟨gAR, kAR, gPa, kPa, gRi, kRi⟩
  have TW : TWi K mg fWi := ⟨gWi, kWi⟩
  have TCP : TCheckP K mg fName fUn := ⟨gName, kName, gUn, kUn⟩
  have TI : TInit K mg C fCP fRd := ⟨gCP, kCP, gRd, kRd, y_tuple, y_sorted, cl, no_name, no_start, no_ends, no_states, no_methods, no_moves⟩
  have TM : TKM K mg C fKey := ⟨cl, y_list, y_sorted, no_start, no_ends, no_states, no_methods, no_moves, gKey, kKey⟩
  have TKe : TKE K mg C := ⟨y_isinstance, gC, ccK, spK, tkK, moK, meK, no_name⟩
  have MkK : Mk K C fI := ⟨mkC, aI, iI, kcC⟩
  have MkQ : Mk K CQ fQi := ⟨mkCQ, aQi, iQi, kcCQ⟩
  have MkP : Mk K CPr fPr := ⟨mkCPr, aPr, iPr, kcCPr⟩
  have propN : PropOf K C "name" pN1 fN1 := ⟨aN1, gN1, tkN1, ⟨_, rcN1⟩⟩
  have TFn : TFun K mg fRow fName fUn := ⟨gRow, kRow, gName, kName, gUn, kUn, y_len, ⟨_, u_MOST_PARAMS⟩⟩
  have TCt : TCnt K mg fFn := ⟨gFn, kFn, y_enumerate, y_len⟩
  have TAk1 : TAk K mg C fRow pN1 fN1 := ⟨gRow, kRow, y_len, y_all, cl, propN, ⟨_, u_MOST_KINDS⟩⟩
  have wds : ∃ ws : List Str, (∀ H, SqT K H adW (ws.map V.str)) ∧ ("wait" : Str) ∈ ws := by
    obtain ⟨ws, vs, m, len⟩ := wWo
    have le := vs.length
    rw [List.length_map] at le
    exact ⟨ws, fun H => .inr ⟨_, _, _, lWo, tWo, rfl, by rw [← Array.length_toList, ← le, PySem.sizeLine_eq]; omega, vs⟩, m⟩
  have prt : KDct K w adP "wait" (.ref adE) ∧ ∀ H, SqT K H adE [] := ⟨⟨_, _, _, lPa_, yPa, iPa_, rfl⟩, fun H => .inr ⟨_, _, _, lPe, tPe, rfl, by rw [← Array.length_toList, ePe]; exact Nat.zero_le _, by rw [ePe]; exact .nil⟩⟩
  have TQ : TRdr K mg w CQ adW adP adS adE := ⟨clQ, noQ, y_len, y_all, y_zip, y_isinstance, y_tuple, y_str, y_list, wds, gP_, prt, gS_, ⟨_, _, _, lSh, ySh, loSh, iSh, rfl⟩, ⟨_, u_MOST_BLOCKS⟩, ⟨_, u_MOST_STATEMENTS⟩, ⟨_, u_MOST_VARIABLES⟩⟩
  have TP1 : TRp K mg C CQ adW fAk fRow fCt fQi pN1 fN1 fQr := ⟨gAk, kAk, gRow, kRow, gCt, kCt, gCQ, MkQ, gW, y_enumerate, y_tuple, y_len, ⟨_, u_MOST_FUNCTIONS⟩, cl, propN, ⟨aQr, iQr, kQr⟩⟩
  have TP2 : TPr K mg CPr fRp := ⟨clP, noP, gRp, kRp, y_tuple⟩
  have TS1 : TSd K mg CR CBp CPr fPr := ⟨gCR, gCBp, gCPr, MkP, y_isinstance, y_ValueError, ⟨clBp, gaBp, ggBp, exCBp, ccBp, spK, tkK, moBp⟩, ⟨gaBp, ggBp, exCBp, hdBp⟩, noCBp, teBp, kiBp, kvBp⟩
  have TLw : TLaw K mg fD := ⟨y_int, y_len, gD, kD⟩
  have TWd : TWords K mg fD fP := ⟨y_int, y_len, y_range, gD, kD, gP, kP⟩
  have TOd1 : TOdd K mg fP := ⟨gP, kP⟩
  have TL7 : TLaw7 K mg C fSrc fD fWd fSd fOd fI pN1 fN1 := ⟨y_tuple, y_len, y_repr, gSrc, kSrc, gD, kD, gWd, kWd, gSd, kSd, gOd, kOd, gC, MkK, cl, propN, kL, kT, kN, kS⟩
  refine ⟨PySem.W.fnOf "law" "law" (defArgs sLaw) (defBody sLaw) (defScope sLaw) .none kVLaw dcLaw pmLaw anLaw cdLaw ctLaw, fun s v => .of_eq rfl, fun base _ _ lo => ?_⟩
  have hRow := ok_row (P := l.prog) (w := w) (base := base) FRow TF
  have hName := ok_name (P := l.prog) (w := w) (base := base) FName TF
  have hErr := ok_error (P := l.prog) (w := w) (base := base) FErr TF
  have hWord := ok_word (P := l.prog) (w := w) (base := base) FWord TF gErr kErr hErr bErr
  have hUn := ok_unlike (P := l.prog) (w := w) (base := base) FUn TF gName kName hRow bRow hName bName
  have hUnN := ok_unlikeN (P := l.prog) (w := w) (base := base) FUn TF gName kName hRow bRow hName bName
  have hKey := ok_key (P := l.prog) (w := w) (base := base) FKey TF
  have hAR := ok_areRowsG (P := l.prog) (w := w) (base := base) FAR TR hKey bKey
  have hPaG := ok_pairsG (P := l.prog) (w := w) (base := base) FPa TR
  have hPa := ok_pairs (P := l.prog) (w := w) (base := base) FPa TR
  have hWi := ok_with (P := l.prog) (w := w) (base := base) FWi TR
  have hRi := ok_right (P := l.prog) (w := w) (base := base) FRi TR TRi hName bName hWord bWord
  have hBI := ok_badI (P := l.prog) (w := w) (base := base) FBI TE1
  have hRdG := ok_readG (P := l.prog) (w := w) (base := base) FRd TR TD TE1 hBI bBI hAR bAR hPaG hPa bPa TW hWi bWi hRi bRi
  have hCP := ok_checkP (P := l.prog) (w := w) (base := base) FCP TCP TE1 hBI bBI hName bName hUn bUn
  have hIG := ok_initG (P := l.prog) (w := w) (base := base) FI TI hCP bCP hRdG bRd
  have hN1 := ok_nameM (P := l.prog) (w := w) (base := base) FN1 TM TKe
  have hFn := ok_isfun (P := l.prog) (w := w) (base := base) FFn TFn hRow bRow hName bName (FnOk.or hUnN hUn) bUn
  have hPI := ok_progI (P := l.prog) (w := w) (base := base) FPI TEp
  have hCt := ok_counts (P := l.prog) (w := w) (base := base) FCt TCt TEp hPI bPI hFn bFn
  have hAk := ok_areKinds (P := l.prog) (w := w) (base := base) FAk TAk1 TKe hRow bRow hN1 bN1
  have hQv := ok_varsIn (P := l.prog) (w := w) (base := base) FQv TQ
  have hQm := ok_meet (P := l.prog) (w := w) (base := base) FQm TQ ⟨aQv, iQv, kQv⟩ hQv bQv
  have hQs := ok_simple (P := l.prog) (w := w) (base := base) FQs TQ ⟨aQm, iQm, kQm⟩ hQm bQm
  have hQb := ok_block (P := l.prog) (w := w) (base := base) FQb TQ ⟨aQs, iQs, kQs⟩ hQs bQs
  have hQi := ok_rdrI (P := l.prog) (w := w) (base := base) FQi TQ
  have hQr := ok_readB (P := l.prog) (w := w) (base := base) FQr TQ ⟨aQb, iQb, kQb⟩ hQb bQb
  have hRp := ok_readP (P := l.prog) (w := w) (base := base) FRp TP1 TQ TEp hPI bPI hAk bAk hRow bRow hCt bCt hQi bQi hN1 bN1 hQr bQr
  have hPr := ok_progI2 (P := l.prog) (w := w) (base := base) FPr TP2 hRp bRp
  have hSd := ok_said7 (P := l.prog) (w := w) (base := base) FSd TS1 hPr bPr
  have hSrc := ok_source (P := l.prog) (w := w) (base := base) FSrc TLw
  have hD := ok_draw (P := l.prog) (w := w) (base := base) FD TLw
  have hP := ok_pick (P := l.prog) (w := w) (base := base) FP TLw hD bD
  have hWd := ok_words (P := l.prog) (w := w) (base := base) FWd TWd hD bD hP bP
  have hOd := ok_oddF (P := l.prog) (w := w) (base := base) FOd TOd1 hP bP
  exact ok_law7 (P := l.prog) (w := w) (base := base) FLaw TL7 TKe lo hSrc bSrc hD bD hWd bWd hSd bSd hOd bOd hIG bI hN1 bN1
end Q9
end
-- QAll
section
set_option maxRecDepth 100000
open PySem PySem.W PyProof.Rows
set_option maxHeartbeats 0 in
theorem PySem.Challenge.cw_rightstate_k07_programs_refused_holds : PySem.Challenge.rw_rightstate_k07_programs_refused.Holds := by
  w_on; o_law; k_head; (case hw => w_witness2)
  k_fill
  refine Q9.walk7 (l := PySem.Challenge.rw_rightstate_k07_programs_refused) rfl rfl (by decide +kernel) (fun w h Y => PySem.W.kIn_of Y) ?F
  case F =>
    intro w mg fa h KX G hmg
    refine' Q9.all_mk KX G hmg ?aRow ?lRow ?cRow ?kRow ?aName ?lName ?cName ?kName ?aErr ?lErr ?cErr ?kErr ?aWord ?lWord ?cWord ?kWord ?aUn ?lUn ?cUn ?kUn ?aKey ?lKey ?cKey ?kKey ?aAR ?lAR ?cAR ?kAR ?aWi ?lWi ?cWi ?kWi ?aPa ?lPa ?cPa ?kPa ?aRi ?lRi ?cRi ?kRi ?aRd ?lRd ?cRd ?kRd ?aCP ?lCP ?cCP ?kCP ?aFn ?lFn ?cFn ?kFn ?aCt ?lCt ?cCt ?kCt ?aAk ?lAk ?cAk ?kAk ?aRp ?lRp ?cRp ?kRp ?aSrc ?lSrc ?cSrc ?kSrc ?aD ?lD ?cD ?kD ?aP ?lP ?cP ?kP ?aWd ?lWd ?cWd ?kWd ?aSd ?lSd ?cSd ?kSd ?aOd ?lOd ?cOd ?kOd ?aLaw ?lLaw ?cLaw ?kLaw ?aC ?aCQ ?aCPr ?aCR ?aCB ?xCB ?rCB ?saCB ?exCB ?tyCB ?kCB ?noCB ?aBI ?tBI ?lBI ?cBI ?kBI ?aCBp ?xCBp ?rCBp ?saCBp ?exCBp ?tyCBp ?kCBp ?noCBp ?aPI ?tPI ?lPI ?cPI ?kPI ?gaBp ?ggBp ?hdBp ?teBp ?clBp ?ccBp ?moBp ?kiBp ?kvBp ?aI ?iI ?lI ?cI ?kI ?aN1 ?gN1 ?tkN1 ?rcN1 ?lN1 ?cN1 ?kN1 ?aQi ?iQi ?lQi ?cQi ?kQi ?aQr ?iQr ?lQr ?cQr ?kQr ?aQb ?iQb ?lQb ?cQb ?kQb ?aQs ?iQs ?lQs ?cQs ?kQs ?aQm ?iQm ?lQm ?cQm ?kQm ?aQv ?iQv ?lQv ?cQv ?kQv ?aPr ?iPr ?lPr ?cPr ?kPr ?pgC ?hdC ?poC ?saC ?mkC ?kcC ?pgCQ ?hdCQ ?poCQ ?saCQ ?mkCQ ?kcCQ ?pgCPr ?hdCPr ?poCPr ?saCPr ?mkCPr ?kcCPr ?ccK ?spK ?tkK ?moK ?meK ?kL ?kT ?kN ?kS ?no_name ?no_start ?no_ends ?no_states ?no_methods ?no_moves ?qn_words ?qn_kinds ?qn_counts ?qn_forms ?qn_errors ?qn_named ?qn_met ?qn_many ?qn_last ?pn_functions ?pn_variable_rows ?pn_kinds ?pn_flow ?z_isinstance ?z_list ?z_tuple ?z_str ?z_len ?z_all ?z_set ?z_dict ?z_sum ?z_sorted ?z_range ?z_int ?z_enumerate ?z_zip ?z_repr ?z_ValueError ?v_MOST_SIGNS ?v_MOST_STATES ?v_MOST_METHODS ?v_MOST_OUTCOMES ?v_MOST_PARAMS ?v_MOST_FUNCTIONS ?v_MOST_KINDS ?v_MOST_BLOCKS ?v_MOST_STATEMENTS ?v_MOST_VARIABLES ?aWo ?lWo ?tWo ?wWo ?aPa_ ?lPa_ ?yPa ?iPa_ ?lPe ?tPe ?ePe ?aSh ?lSh ?ySh ?loSh ?iSh
    (case aRow => k_is)
    (case lRow => k_is)
    (case cRow => k_is)
    (case kRow => k_is)
    (case aName => k_is)
    (case lName => k_is)
    (case cName => k_is)
    (case kName => k_is)
    (case aErr => k_is)
    (case lErr => k_is)
    (case cErr => k_is)
    (case kErr => k_is)
    (case aWord => k_is)
    (case lWord => k_is)
    (case cWord => k_is)
    (case kWord => k_is)
    (case aUn => k_is)
    (case lUn => k_is)
    (case cUn => k_is)
    (case kUn => k_is)
    (case aKey => k_is)
    (case lKey => k_is)
    (case cKey => k_is)
    (case kKey => k_is)
    (case aAR => k_is)
    (case lAR => k_is)
    (case cAR => k_is)
    (case kAR => k_is)
    (case aWi => k_is)
    (case lWi => k_is)
    (case cWi => k_is)
    (case kWi => k_is)
    (case aPa => k_is)
    (case lPa => k_is)
    (case cPa => k_is)
    (case kPa => k_is)
    (case aRi => k_is)
    (case lRi => k_is)
    (case cRi => k_is)
    (case kRi => k_is)
    (case aRd => k_is)
    (case lRd => k_is)
    (case cRd => k_is)
    (case kRd => k_is)
    (case aCP => k_is)
    (case lCP => k_is)
    (case cCP => k_is)
    (case kCP => k_is)
    (case aFn => k_is)
    (case lFn => k_is)
    (case cFn => k_is)
    (case kFn => k_is)
    (case aCt => k_is)
    (case lCt => k_is)
    (case cCt => k_is)
    (case kCt => k_is)
    (case aAk => k_is)
    (case lAk => k_is)
    (case cAk => k_is)
    (case kAk => k_is)
    (case aRp => k_is)
    (case lRp => k_is)
    (case cRp => k_is)
    (case kRp => k_is)
    (case aSrc => k_is)
    (case lSrc => k_is)
    (case cSrc => k_is)
    (case kSrc => k_is)
    (case aD => k_is)
    (case lD => k_is)
    (case cD => k_is)
    (case kD => k_is)
    (case aP => k_is)
    (case lP => k_is)
    (case cP => k_is)
    (case kP => k_is)
    (case aWd => k_is)
    (case lWd => k_is)
    (case cWd => k_is)
    (case kWd => k_is)
    (case aSd => k_is)
    (case lSd => k_is)
    (case cSd => k_is)
    (case kSd => k_is)
    (case aOd => k_is)
    (case lOd => k_is)
    (case cOd => k_is)
    (case kOd => k_is)
    (case aLaw => k_is)
    (case lLaw => k_is)
    (case cLaw => k_is)
    (case kLaw => k_is)
    (case aC => k_is)
    (case aCQ => k_is)
    (case aCPr => k_is)
    (case aCR => k_is)
    (case aCB => k_is)
    (case xCB => k_is)
    (case rCB => decide +kernel)
    (case saCB => k_is)
    (case exCB => k_is)
    (case tyCB => k_is)
    (case kCB => k_is)
    (case noCB => k_is)
    (case aBI => k_is)
    (case tBI => k_is)
    (case lBI => k_is)
    (case cBI => k_is)
    (case kBI => k_is)
    (case aCBp => k_is)
    (case xCBp => k_is)
    (case rCBp => decide +kernel)
    (case saCBp => k_is)
    (case exCBp => k_is)
    (case tyCBp => k_is)
    (case kCBp => k_is)
    (case noCBp => k_is)
    (case aPI => k_is)
    (case tPI => k_is)
    (case lPI => k_is)
    (case cPI => k_is)
    (case kPI => k_is)
    (case gaBp => k_is)
    (case ggBp => k_is)
    (case hdBp => k_is)
    (case teBp => first | rfl | k_is)
    (case clBp => first | rfl | k_is)
    (case ccBp => k_is)
    (case moBp => k_is)
    (case kiBp => first | rfl | k_is)
    (case kvBp => first | rfl | k_is)
    (case aI => k_is)
    (case iI => k_is)
    (case lI => k_is)
    (case cI => k_is)
    (case kI => k_is)
    (case aN1 => k_is)
    (case gN1 => k_is)
    (case tkN1 => k_is)
    (case rcN1 => k_is)
    (case lN1 => k_is)
    (case cN1 => k_is)
    (case kN1 => k_is)
    (case aQi => k_is)
    (case iQi => k_is)
    (case lQi => k_is)
    (case cQi => k_is)
    (case kQi => k_is)
    (case aQr => k_is)
    (case iQr => k_is)
    (case lQr => k_is)
    (case cQr => k_is)
    (case kQr => k_is)
    (case aQb => k_is)
    (case iQb => k_is)
    (case lQb => k_is)
    (case cQb => k_is)
    (case kQb => k_is)
    (case aQs => k_is)
    (case iQs => k_is)
    (case lQs => k_is)
    (case cQs => k_is)
    (case kQs => k_is)
    (case aQm => k_is)
    (case iQm => k_is)
    (case lQm => k_is)
    (case cQm => k_is)
    (case kQm => k_is)
    (case aQv => k_is)
    (case iQv => k_is)
    (case lQv => k_is)
    (case cQv => k_is)
    (case kQv => k_is)
    (case aPr => k_is)
    (case iPr => k_is)
    (case lPr => k_is)
    (case cPr => k_is)
    (case kPr => k_is)
    (case pgC => k_is)
    (case hdC => k_is)
    (case poC => k_is)
    (case saC => k_is)
    (case mkC => k_is)
    (case kcC => k_is)
    (case pgCQ => k_is)
    (case hdCQ => k_is)
    (case poCQ => k_is)
    (case saCQ => k_is)
    (case mkCQ => k_is)
    (case kcCQ => k_is)
    (case pgCPr => k_is)
    (case hdCPr => k_is)
    (case poCPr => k_is)
    (case saCPr => k_is)
    (case mkCPr => k_is)
    (case kcCPr => k_is)
    (case ccK => k_is)
    (case spK => k_is)
    (case tkK => k_is)
    (case moK => k_is)
    (case meK => first | rfl | k_is)
    (case kL => first | rfl | k_is)
    (case kT => first | rfl | k_is)
    (case kN => first | rfl | k_is)
    (case kS => first | rfl | k_is)
    (case no_name => k_is)
    (case no_start => k_is)
    (case no_ends => k_is)
    (case no_states => k_is)
    (case no_methods => k_is)
    (case no_moves => k_is)
    (case qn_words => k_is)
    (case qn_kinds => k_is)
    (case qn_counts => k_is)
    (case qn_forms => k_is)
    (case qn_errors => k_is)
    (case qn_named => k_is)
    (case qn_met => k_is)
    (case qn_many => k_is)
    (case qn_last => k_is)
    (case pn_functions => k_is)
    (case pn_variable_rows => k_is)
    (case pn_kinds => k_is)
    (case pn_flow => k_is)
    (case z_isinstance => k_is)
    (case z_list => k_is)
    (case z_tuple => k_is)
    (case z_str => k_is)
    (case z_len => k_is)
    (case z_all => k_is)
    (case z_set => k_is)
    (case z_dict => k_is)
    (case z_sum => k_is)
    (case z_sorted => k_is)
    (case z_range => k_is)
    (case z_int => k_is)
    (case z_enumerate => k_is)
    (case z_zip => k_is)
    (case z_repr => k_is)
    (case z_ValueError => k_is)
    (case v_MOST_SIGNS => k_is)
    (case v_MOST_STATES => k_is)
    (case v_MOST_METHODS => k_is)
    (case v_MOST_OUTCOMES => k_is)
    (case v_MOST_PARAMS => k_is)
    (case v_MOST_FUNCTIONS => k_is)
    (case v_MOST_KINDS => k_is)
    (case v_MOST_BLOCKS => k_is)
    (case v_MOST_STATEMENTS => k_is)
    (case v_MOST_VARIABLES => k_is)
    (case aWo => k_is)
    (case lWo => k_is)
    (case tWo => rfl)
    (case wWo => exact ⟨["new", "copy", "none", "call", "test", "same", "has", "maybe", "loop", "leave", "again", "try", "with", "run", "return", "raise", "wait"], (by repeat (first | exact .nil | refine .cons ⟨_, rfl⟩ ?_)), (by decide +kernel), (by decide)⟩)
    (case aPa_ => k_is)
    (case lPa_ => k_is)
    (case yPa => k_keys)
    (case iPa_ => k_is)
    (case lPe => k_is)
    (case tPe => rfl)
    (case ePe => rfl)
    (case aSh => k_is)
    (case lSh => k_is)
    (case ySh => k_keys)
    (case loSh => decide)
    (case iSh => k_is)
end
