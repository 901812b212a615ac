import PyProof.Rows.All
import Wide.All
import OpenK.AllK
import Wide.FinOn
import KE.KDictKeyed
import HandS.ForMost
import HandS.Set
import HandS.TupSets
import HandS.SetFor
import KE.KSortTupG
import KE.KSortRegAny
import KE.KDictSum
import KE.KDictCopyH
import HandS.Strs
import HandS.SetBool
import HandS.DictComp
import HandS.Walk
import HandS.Property
import HandS.Text
import HandS.OwnIter
import HandS.IsInst
import HandS.StrMore
import HandS.ListItems
import KE.KDictItemsList
import KE.KDictPairs
import HandS.SetKeys
import HandS.Exc
import HandS.ExcOwn
import HandS.ExcInit
import HandS.ExcField
import HandS.WordsExc
import HandS.Words
import PyProof.ReprRoads
import PyProof.ReprLen
import PyProof.CollectStr
import HandS.ExcValue
import KE.KDictWalk
import HandS.Flow
import HandS.Call
import HandS.Codes
import PyProof.Draws
import PyProof.EnumMake
import PyProof.WalksMore
import HandS.TryOnly
import KE.KExcIs
import HandS.TryMany
import HandS.Style
import HandS.Deep
import HandS.Iter
import HandS.ForSpec
import PySem.Challenge.RW_rightstate_k02_what_is_no_kind
set_option Elab.async false
set_option linter.all false
set_option maxRecDepth 100000
-- QMixD
section
set_option maxRecDepth 100000
set_option maxHeartbeats 4000000
namespace Q9
open PySem
section
variable {prog : Program} {w : World} {A : Around} {E : Value → Shared → Prop} {s : Shared}
/-- a key among others that it is never equal to -/
def Apart (prog : Program) (w : World) (A : Around) (E : Value → Shared → Prop) (s : Shared) (key : Value) (v : Value) : Prop :=
  ∃ b, v = .ref b ∧ (∀ Q : Bool → Shared → Prop, Q true s → wpAny (model prog w) A (eqIsQuiet 8 v) Q E s) ∧ ∀ Q : Bool → Shared → Prop, Q false s → wpAny (model prog w) A (eqBool v key) Q E s
theorem tells_leaf {key : Value} {vs : List Value} {Q : Bool → Shared → Prop} (hv : carriedByValue key = true) (ap : ∀ v ∈ vs, Apart prog w A E s key v) (q : Q false s) : wpAny (model prog w) A (tableMayTell key vs) Q E s := by
  unfold tableMayTell
  cases vs with
  | nil => exact wpAny_pure q
  | cons v0 vs0 =>
    rw [if_neg (by simp), eqIsQuiet_byValue 8 hv]
    refine wpAny_bind (wpAny_pure ?_)
    rw [if_neg (by simp)]
    refine wpAny_bind (wpAny_forIn_list _ (fun left st s' => (s' = s ∧ st = (none, ())) ∧ ∀ v ∈ left, Apart prog w A E s key v) _ ?_ ?_ _ _ ⟨⟨rfl, rfl⟩, ap⟩)
    · rintro v left st s' ⟨⟨rfl, rfl⟩, hl⟩
      obtain ⟨b, eb, qt, _⟩ := hl v List.mem_cons_self
      refine wpAny_bind (qt _ ?_)
      rw [if_neg (by simp)]
      exact wpAny_pure ⟨⟨rfl, rfl⟩, fun u hu => hl u (List.mem_cons_of_mem _ hu)⟩
    · rintro st s' ⟨⟨rfl, rfl⟩, _⟩
      exact wpAny_pure q
/-- the keys of one hash; their places -/
abbrev hPl (es : Array DictEntry) (hs : Int) : List Nat := placesWithHash es.size (fun i => Option.map (fun x => x.hash) es[i]?) hs
abbrev hKs (es : Array DictEntry) (hs : Int) : List Value := List.filterMap (fun i => Option.map (fun x => x.key) es[i]?) (hPl es hs)
theorem no_places {es : Array DictEntry} {hs : Int} (h : hKs es hs = []) : hPl es hs = [] := by
  refine List.eq_nil_iff_forall_not_mem.mpr fun i hi => ?_
  have g : ((es[i]?.map (·.hash)) == some hs) = true := (List.mem_filter.mp hi).2
  cases e : es[i]? with
  | none => rw [e] at g; cases g
  | some u =>
    have : u.key ∈ hKs es hs := List.mem_filterMap.mpr ⟨i, hi, by rw [e]; rfl⟩
    rw [h] at this
    cases this
theorem find_leaf {d : Addr} {o : Obj} {es : Array DictEntry} {ep : Nat} {key : Value} {hs : Int} {Q : Option Nat → Shared → Prop} (ho : s.heap.get? d = some o) (hd : o.data = .dict es ep) (hv : carriedByValue key = true)
    (ap : ∀ e ∈ es, Apart prog w A E s key e.key) (q : Q none s) : wpAny (model prog w) A (dictFind d key hs) Q E s := by
  have apS : ∀ v ∈ (placesWithHash es.size (fun i => es[i]?.map (·.hash)) hs).filterMap (fun i => es[i]?.map (·.key)), Apart prog w A E s key v := fun v hm => by
    obtain ⟨i, _, hi⟩ := List.mem_filterMap.mp hm
    obtain ⟨e, he, rfl⟩ := Option.map_eq_some_iff.mp hi
    exact ap e (Array.mem_of_getElem? he)
  unfold dictFind
  refine wpAny_holding (wpAny_bind (wpAny_dictEntries ho hd ?_))
  dsimp only
  cases key with
  | ref a => cases hv
  | str x t =>
    dsimp only
    by_cases hf : (es.all fun e => isExactStrKey e.key) = true
    · rw [if_pos hf]
      have e0 : es = #[] := by
        refine Array.eq_empty_of_size_eq_zero (Nat.eq_zero_of_not_pos fun p => ?_)
        obtain ⟨b, e, _⟩ := ap es[0] (Array.getElem_mem p)
        have g := (Array.all_eq_true.mp hf) 0 p
        rw [e] at g
        cases g
      subst e0
      unfold foundByValue
      simp only [Array.findIdx?_empty]
      exact wpAny_pure q
    · rw [if_neg hf]
      by_cases hS : hKs es hs = []
      · rw [show List.filterMap (fun i => Option.map (fun x => x.key) es[i]?) (placesWithHash es.size (fun i => Option.map (fun x => x.hash) es[i]?) hs) = [] from hS, show placesWithHash es.size (fun i => Option.map (fun x => x.hash) es[i]?) hs = [] from no_places hS]
        rw [if_pos (by simp [carriedByValue])]
        exact wpAny_bind (wpAny_pure (wpAny_pure q))
      · obtain ⟨v0, vs0, eS⟩ := List.exists_cons_of_ne_nil hS
        obtain ⟨b0, eb0, _⟩ := apS v0 (by show v0 ∈ hKs es hs; rw [eS]; exact List.mem_cons_self)
        rw [if_neg (by show ¬ (_ :: hKs es hs).all carriedByValue = true; rw [eS, eb0]; simp [carriedByValue])]
        rw [if_neg (by show ¬ (hKs es hs == _) = true; rw [eS, eb0]; simp)]
        refine wpAny_bind (tells_leaf hv apS ?_)
        rw [if_neg (by simp)]
        refine wpAny_bind (wpAny_forIn_list _ (fun left st s' => s' = s ∧ st = (none, none)) _ ?_ ?_ _ _ ⟨rfl, rfl⟩)
        · rintro i left st s' ⟨rfl, rfl⟩
          cases he : es[i]? with
          | none => exact wpAny_pure ⟨rfl, rfl⟩
          | some e =>
            dsimp only
            by_cases hh : (e.hash == hs) = true
            · rw [if_pos hh]
              obtain ⟨b, eb, _, nq⟩ := ap e (Array.mem_of_getElem? he)
              refine wpAny_bind (wpAny_dictEpoch ho hd (wpAny_bind (nq _ (wpAny_bind (wpAny_dictEpoch ho hd ?_)))))
              rw [if_neg (by simp), if_neg Bool.false_ne_true]
              refine wpAny_bind (wpAny_rule ?_)
              rw [if_neg (by simp)]
              exact wpAny_pure ⟨rfl, rfl⟩
            · rw [if_neg hh]
              exact wpAny_pure ⟨rfl, rfl⟩
        · rintro st s' ⟨rfl, rfl⟩
          exact wpAny_pure q
  | _ =>
    dsimp only
    by_cases hS : hKs es hs = []
    · rw [show List.filterMap (fun i => Option.map (fun x => x.key) es[i]?) (placesWithHash es.size (fun i => Option.map (fun x => x.hash) es[i]?) hs) = [] from hS, show placesWithHash es.size (fun i => Option.map (fun x => x.hash) es[i]?) hs = [] from no_places hS]
      rw [if_pos (by simp [carriedByValue])]
      exact wpAny_bind (wpAny_pure (wpAny_pure q))
    · obtain ⟨v0, vs0, eS⟩ := List.exists_cons_of_ne_nil hS
      obtain ⟨b0, eb0, _⟩ := apS v0 (by show v0 ∈ hKs es hs; rw [eS]; exact List.mem_cons_self)
      rw [if_neg (by show ¬ (_ :: hKs es hs).all carriedByValue = true; rw [eS, eb0]; simp [carriedByValue])]
      rw [if_neg (by show ¬ (hKs es hs == _) = true; rw [eS, eb0]; simp)]
      refine wpAny_bind (tells_leaf hv apS ?_)
      rw [if_neg (by simp)]
      refine wpAny_bind (wpAny_forIn_list _ (fun left st s' => s' = s ∧ st = (none, none)) _ ?_ ?_ _ _ ⟨rfl, rfl⟩)
      · rintro i left st s' ⟨rfl, rfl⟩
        cases he : es[i]? with
        | none => exact wpAny_pure ⟨rfl, rfl⟩
        | some e =>
          dsimp only
          by_cases hh : (e.hash == hs) = true
          · rw [if_pos hh]
            obtain ⟨b, eb, _, nq⟩ := ap e (Array.mem_of_getElem? he)
            refine wpAny_bind (wpAny_dictEpoch ho hd (wpAny_bind (nq _ (wpAny_bind (wpAny_dictEpoch ho hd ?_)))))
            rw [if_neg (by simp), if_neg Bool.false_ne_true]
            refine wpAny_bind (wpAny_rule ?_)
            rw [if_neg (by simp)]
            exact wpAny_pure ⟨rfl, rfl⟩
          · rw [if_neg hh]
            exact wpAny_pure ⟨rfl, rfl⟩
      · rintro st s' ⟨rfl, rfl⟩
        exact wpAny_pure q
/-- d[key] = v, the key new and apart from all others -/
theorem set_leaf {d : Addr} {o : Obj} {es : Array DictEntry} {ep : Nat} {key v : Value} {hs : Int} {Q : Unit → Shared → Prop} (ho : s.heap.get? d = some o) (hd : o.data = .dict es ep) (hv : carriedByValue key = true) (sz : es.size ≤ sizeLine)
    (hash : ∀ Q : Int → Shared → Prop, Q hs { s with toks := s.toks + 1 } → wpAny (model prog w) A (pyHash key) Q E s)
    (ap : ∀ tk, ∀ e ∈ es, Apart prog w A E { s with toks := tk } key e.key)
    (q : Q () { s with heap := s.heap.update d (Obj.mapDictKeys (·.push ⟨hs, key, v⟩)), toks := s.toks + 1 }) : wpAny (model prog w) A (dictSet d key v) Q E s := by
  unfold dictSet
  refine wpAny_holding (wpAny_bind (hash _ ?_))
  unfold dictSetHashed
  refine wpAny_holding (wpAny_bind (find_leaf (s := { s with toks := s.toks + 1 }) ho hd hv (ap _) ?_))
  exact wpAny_bind (wpAny_rule (wpAny_updateDictKeys (s := { s with toks := s.toks + 1 }) ho hd q sz))
/-- None and texts beside keys that are tuples -/
theorem apart_tuple {K : Type} [DecidableEq K] {knd : KeyKind prog w K} {ks : List K} {b : Addr} {key : Value} (hu : A.units < cLine) (hk : IsTupleKey knd s.heap ks b) (hl : key = .none ∨ ∃ x t, key = .str x t) : Apart prog w A E s key (.ref b) := by
  have it : ∃ items, s.heap.IsTuple b items := by
    obtain ⟨o, items, n, ho, hc, hd, hi⟩ := hk
    exact ⟨items, o, ho, hc, n, hd⟩
  obtain ⟨items, it⟩ := it
  refine ⟨b, rfl, fun Q q => wpAny_eqIsQuiet_tuple hk q, fun Q q => ?_⟩
  rcases hl with rfl | ⟨x, t, rfl⟩
  · exact PySem.SeqAt.EqAt.tuple_none it hu prog w E Q q
  · exact PySem.SeqAt.EqAt.tuple_str x t it hu prog w E Q q
/-- dict(pairs): the keys tuples, but for the last one -/
theorem dict_mixed {K : Type} [DecidableEq K] {knd : KeyKind prog w K} {T : String} {a : Addr} {fp : List Addr} {n : Nat} {Rel : Nat → Value → Value → Prop} {OK : Heap → Prop} {Q : Value → Shared → Prop} (P : PairArg prog w T a fp [] n Rel OK) (hh : A.handled = none) (hu : A.in1.in1.units < cLine) (ok : OK s.heap)
    (rs : List (List K × Addr × Value)) (key v : Value) (hs : Int) (en : n = rs.length + 1) (sz : n ≤ sizeLine)
    (rel : ∀ i k x, Rel i k x → (∃ r, rs[i]? = some r ∧ k = .ref r.2.1 ∧ x = r.2.2) ∨ (i = rs.length ∧ k = key ∧ x = v)) (nd : (rs.map (·.1)).Nodup) (kt : ∀ r ∈ rs, IsTupleKey knd s.heap r.1 r.2.1) (lk : key = .none ∨ ∃ x t, key = .str x t)
    (hash : ∀ (A : Around) (E : Value → Shared → Prop) (s : Shared) (Q : Int → Shared → Prop), Q hs { s with toks := s.toks + 1 } → wpAny (model prog w) A (pyHash key) Q E s)
    (q : ∀ h' tk, (∃ o es ep, h'.get? s.heap.objs.size = some o ∧ o.ExactDict ∧ o.data = .dict es ep ∧ es.toList = rs.map (entryOfKey (tupleKind knd)) ++ [⟨hs, key, v⟩]) → (∀ b o, s.heap.get? b = some o → h'.get? b = some o) → Q (.ref s.heap.objs.size) { s with heap := h', toks := tk }) :
    wpAny (model prog w) A (call (.type "dict") [.ref a]) Q E s := by
  refine call_dict_arg P ok fun s₁ e1 hdf ok₁ => ?_
  subst e1
  have old : ∀ b o, s.heap.get? b = some o → b ≠ s.heap.objs.size := fun b o e => Nat.ne_of_lt (Heap.lt_size e)
  have keyK : ∀ h : Heap, (∀ b o, s.heap.get? b = some o → h.get? b = some o) → ∀ r ∈ rs, IsTupleKey knd h r.1 r.2.1 := fun h k r hr => by
    obtain ⟨o, items, m, g1, g2⟩ := kt r hr
    exact ⟨o, items, m, k _ _ g1, g2⟩
  refine updateFrom_arg (A := A.in1) (d := s.heap.objs.size) (Tab := fun i h => (∀ b o, s.heap.get? b = some o → h.get? b = some o) ∧ ((i ≤ rs.length ∧ h.DictOfH (tupleKind knd) s.heap.objs.size (rs.take i)) ∨
      (i = rs.length + 1 ∧ ∃ o es ep, h.get? s.heap.objs.size = some o ∧ o.ExactDict ∧ o.data = .dict es ep ∧ es.toList = rs.map (entryOfKey (tupleKind knd)) ++ [⟨hs, key, v⟩]))) P .none hh ok₁ hdf ?_ ?_ ?_ ?_ ?_
  · exact ⟨fun b o e => Heap.get?_push_of_some _ e, .inl ⟨Nat.zero_le _, Heap.DictOfH.new s.heap⟩⟩
  · rintro i h ⟨_, ⟨_, d⟩ | ⟨_, o, es, ep, g, _⟩⟩
    · exact d.lt_size
    · exact Heap.lt_size g
  · rintro i h h' wr' nw wn ⟨k, tb⟩ kp
    have k' : ∀ b o, s.heap.get? b = some o → h'.get? b = some o := fun b o e => by
      refine kp b o (fun hb => ?_) (k b o e)
      rcases wn b hb with z | z
      · cases z
      · rw [Heap.get?_push_of_some _ e] at z
        cases z
    refine ⟨k', tb.imp (fun ⟨l, d⟩ => ⟨l, d.at' (fun o e => kp _ _ nw e) fun y hy => keyK h' k' y (List.mem_of_mem_take hy)⟩) fun ⟨l, o, es, ep, g, r⟩ => ⟨l, o, es, ep, kp _ _ nw g, r⟩⟩
  · rintro i k x s2 Q2 E2 hi hr ⟨kp, tb⟩ _ q2
    rcases tb with ⟨l, d⟩ | ⟨l, _⟩
    · rcases rel i k x hr with ⟨r, hr1, rfl, rfl⟩ | ⟨rfl, rfl, rfl⟩
      · have il : i < rs.length := (List.getElem?_eq_some_iff.mp hr1).1
        have nk : atKey (rs.take i) r.1 = none := by
          refine atKey_none_of_get fun j p hj => ?_
          rw [List.getElem?_take] at hj
          split at hj
          · rename_i lt
            have := idxH_unique nd (k := r.1) (p := p) (q := r.2) hj hr1
            omega
          · cases hj
        refine wpAny_dictSet_heap (knd := tupleKind knd) hu (keyK _ kp r (List.mem_of_getElem? hr1)) d (fun h' d' sb => ?_) (by rw [List.length_take]; omega)
        refine q2 h' _ ⟨fun b o e => sb.extBut b o (old b o e) (kp b o e), .inl ⟨il, ?_⟩⟩ sb
        rw [storedH_new nk] at d'
        rw [List.take_succ, hr1]
        exact d'
      · obtain ⟨o, es, ep, g1, g2, g3, g4, g5, _⟩ := d
        rw [List.take_length] at g4 g5
        have ez : es.size = rs.length := size_of_entries g4
        refine set_leaf (hs := hs) g1 g3 (by rcases lk with rfl | ⟨y, t, rfl⟩ <;> rfl) (by omega) (hash _ _ _) (fun tk e he => ?_) ?_
        · have he' : e ∈ rs.map (entryOfKey (tupleKind knd)) := g4 ▸ Array.mem_toList_iff.mpr he
          obtain ⟨r, hr', rfl⟩ := List.mem_map.mp he'
          exact apart_tuple (s := { s2 with toks := tk }) hu (keyK _ kp r hr') lk
        · have u := Heap.get?_update_self (Obj.mapDictKeys (·.push ⟨hs, k, x⟩)) g1 (Obj.isFreed_of_dict (Obj.data_mapDictKeys g3 _))
          refine q2 _ _ ⟨fun b o e => ?_, .inr ⟨rfl, _, _, _, u, g2.mapDictKeys _, Obj.data_mapDictKeys g3 _, by rw [Array.toList_push, g4]⟩⟩ (Heap.SameBut.update ..)
          exact (Heap.SameBut.update (a := s.heap.objs.size) (h := s2.heap) _).extBut b o (old b o e) (kp b o e)
    · omega
  · rintro h' tk ⟨kp, tb⟩ _
    rcases tb with ⟨l, _⟩ | ⟨_, tb⟩
    · omega
    · exact ⟨rfl, q h' tk tb kp⟩
end
end Q9
end
-- QSet
section
set_option maxRecDepth 100000
set_option maxHeartbeats 2000000
namespace Q9
open PySem PySem.Spec PyProof.Rows L2
theorem Paired.perm {α β : Type} {F : α → β → Prop} {l l' : List β} (p : l'.Perm l) : ∀ {ks : List α}, Paired F ks l → ∃ ks', ks'.Perm ks ∧ Paired F ks' l' := by
  induction p with
  | nil => intro ks h; exact ⟨ks, .refl _, h⟩
  | cons x p ih =>
    intro ks h
    cases h with
    | cons r t =>
      obtain ⟨ks', q1, q2⟩ := ih t
      exact ⟨_ :: ks', q1.cons _, .cons r q2⟩
  | swap x y l =>
    intro ks h
    cases h with
    | cons r t => cases t with
      | cons r' t' => exact ⟨_, List.Perm.swap _ _ _, .cons r' (.cons r t')⟩
  | trans p1 p2 ih1 ih2 =>
    intro ks h
    obtain ⟨k1, q1, q2⟩ := ih2 h
    obtain ⟨k2, q3, q4⟩ := ih1 q2
    exact ⟨k2, q3.trans q1, q4⟩
theorem Paired.mem_r {α β : Type} {F : α → β → Prop} : ∀ {ks : List α} {l : List β}, Paired F ks l → ∀ e ∈ l, ∃ k ∈ ks, F k e
  | _, _, .nil, e, h => by cases h
  | _, _, .cons r t, e, h => by
    rcases List.mem_cons.mp h with z | z
    · exact ⟨_, List.mem_cons_self, z ▸ r⟩
    · obtain ⟨k, h1, h2⟩ := Paired.mem_r t e z
      exact ⟨k, List.mem_cons_of_mem _ h1, h2⟩
theorem Paired.mem_l {α β : Type} {F : α → β → Prop} : ∀ {ks : List α} {l : List β}, Paired F ks l → ∀ k ∈ ks, ∃ e ∈ l, F k e
  | _, _, .nil, e, h => by cases h
  | _, _, .cons r t, e, h => by
    rcases List.mem_cons.mp h with z | z
    · exact ⟨_, List.mem_cons_self, z ▸ r⟩
    · obtain ⟨k, h1, h2⟩ := Paired.mem_l t e z
      exact ⟨k, List.mem_cons_of_mem _ h1, h2⟩
theorem Paired.snoc {α β : Type} {F : α → β → Prop} {k : α} {e : β} (r : F k e) : ∀ {ks : List α} {l : List β}, Paired F ks l → Paired F (ks ++ [k]) (l ++ [e])
  | _, _, .nil => .cons r .nil
  | _, _, .cons q t => .cons q (Paired.snoc r t)
section
variable {P : Program} {w : World} {K : Type} [DecidableEq K] (knd : KeyKind P w K)
/-- what an entry of a set's table is: the key, its hash -/
def Ent (k : K) (e : Int × Value) : Prop := knd.is k e.2 = true ∧ e.1 = knd.hash k ∧ e.2.scannable = true
/-- the set at a has the members ks, each once, in the order of its table; it can be walked -/
def RSet (h : Heap) (a : Addr) (ks : List K) : Prop :=
  ∃ o es ep t, h.get? a = some o ∧ o.ExactSet ∧ o.data = .set es ep t ∧ Paired (Ent knd) ks es.toList ∧ ks.Nodup ∧ es.size < scanBound ∧
    t.fits es.size = true ∧ Ris t.place.toList ∧ (w.params.followText "set-order" = true ∨ t.led = true)
variable {knd}
variable {A : Around} {E : Value → Shared → Prop} {s : Shared} {h h' : Heap} {a : Addr} {ks : List K}
theorem RSet.at (R : RSet knd h a ks) (k : ∀ o, h.get? a = some o → h'.get? a = some o) : RSet knd h' a ks := by
  obtain ⟨o, es, ep, t, ho, r⟩ := R
  exact ⟨o, es, ep, t, k o ho, r⟩
theorem RSet.size (R : RSet knd h a ks) : ks.length < scanBound := by
  obtain ⟨o, es, ep, t, ho, hx, hd, p, nd, hb, r⟩ := R
  have e : ks.length = es.size := (PySem.Paired.length p).trans Array.length_toList
  rw [e]; exact hb
theorem ents_elems {es : List (Int × Value)} (p : Paired (Ent knd) ks es) : ElemsOf knd es := fun e he => by
  obtain ⟨k, _, h1, h2, h3⟩ := Paired.mem_r p e he
  exact ⟨⟨k, h1, h2⟩, h3⟩
theorem ents_has {es : List (Int × Value)} (p : Paired (Ent knd) ks es) (k : K) : (∃ e ∈ es, knd.is k e.2 = true) ↔ k ∈ ks := by
  constructor
  · rintro ⟨e, he, q⟩
    obtain ⟨k', hk', h1, _⟩ := Paired.mem_r p e he
    rw [knd.inj e.2 k k' q h1]; exact hk'
  · intro hk
    obtain ⟨e, he, h1, _⟩ := Paired.mem_l p k hk
    exact ⟨e, he, h1⟩
theorem RSet.setOf (R : RSet knd h a ks) : h.SetOf knd a (fun k => decide (k ∈ ks)) ks.length := by
  obtain ⟨o, es, ep, t, ho, hx, hd, p, nd, hb, hf, _⟩ := R
  have e : ks.length = es.size := (PySem.Paired.length p).trans Array.length_toList
  exact ⟨o, es, ep, t, ho, hx, hd, ents_elems p, fun k => by rw [decide_eq_true_eq]; exact (ents_has p k).symm, hb, hf, e.symm⟩
/-- the table written, and laid anew where it is too full -/
theorem rset_tail {g : Bool → Sem Unit} (hg : ∀ (b : Bool) (s₁ : Shared) (Q' : Unit → Shared → Prop), Q' () s₁ → wpAny (model P w) A (g b) Q' E s₁)
    {o : Obj} {es : Array (Int × Value)} {ep : Nat} {t : SetTable} (ho : s.heap.get? a = some o) (hex : o.ExactSet) (hd : o.data = .set es ep t)
    {es1 : Array (Int × Value)} {t2 : SetTable} {ks1 : List K} (p1 : Paired (Ent knd) ks1 es1.toList) (nd1 : ks1.Nodup) (hb1 : es1.size < scanBound) (hf2 : t2.fits es1.size = true)
    (hr : Ris t2.place.toList) (hl : w.params.followText "set-order" = true ∨ t2.led = true) {wasDummy : Bool} {R : Option Bool → Shared → Prop}
    (hR : ∀ h' ks', Heap.SameBut a s.heap h' → ks'.Perm ks1 → RSet knd h' a ks' → R (some true) { s with heap := h' }) :
    wpAny (model P w) A (do
        storeSet a es1 t2
        if (!wasDummy && t2.tooFull) = true then do
            g (relayAll t2 es1 (SetTable.grown es1.size)).2.2
            storeSet a (relayAll t2 es1 (SetTable.grown es1.size)).1 (relayAll t2 es1 (SetTable.grown es1.size)).2.1
            pure (some true)
          else pure (some true)) R E s := by
  have at1 := store_at (es' := es1) (t' := t2) ho hd
  have same1 := Heap.SameBut.update s.heap a (Obj.putSet es1 t2)
  refine wpAny_bind (wpAny_storeSet_of ho hd ?_ (fits_of_scanBound hb1))
  split
  · have q1 := relayAll_perm t2 es1 (SetTable.grown es1.size)
    have q2 := relayAll_fits t2 es1 (SetTable.grown es1.size)
    have q3 := relayAll_ris t2 es1 (SetTable.grown es1.size)
    have q4 := relayAll_led t2 es1 (SetTable.grown es1.size)
    generalize relayAll t2 es1 (SetTable.grown es1.size) = Z at q1 q2 q3 q4 ⊢
    obtain ⟨es2, t3, gave⟩ := Z
    dsimp only at q1 q2 q3 q4 ⊢
    have sz : es2.size = es1.size := by rw [← Array.length_toList, q1.length_eq, Array.length_toList]
    have hb2 : es2.size < scanBound := by rw [sz]; exact hb1
    obtain ⟨ks2, pk, p2⟩ := Paired.perm q1 p1
    refine wpAny_bind (hg _ _ _ (wpAny_bind (wpAny_storeSet_of at1 rfl ?_ (fits_of_scanBound hb2))))
    have at2 := store_at (es' := es2) (t' := t3) at1 rfl
    refine wpAny_pure (hR _ ks2 (same1.trans (Heap.SameBut.update _ a _)) pk ?_)
    exact ⟨_, es2, _, t3, at2, hex, rfl, p2, pk.nodup_iff.mpr nd1, hb2, q2, q3, hl.imp id fun z => by rw [q4]; exact z⟩
  · exact wpAny_pure (hR _ ks1 same1 (.refl _) ⟨_, es1, _, t2, at1, hex, rfl, p1, nd1, hb1, hf2, hr, hl⟩)
/-- one key more, or none -/
def Added (k : K) (ks ks' : List K) : Prop := (k ∈ ks ∧ ks' = ks) ∨ (k ∉ ks ∧ ks'.Perm (k :: ks))
theorem rset_add {k : K} {x : Value} {Q : Bool → Shared → Prop} (R : RSet knd s.heap a ks) (hk : knd.is k x = true) (hsc : x.scannable = true) (room : ks.length + 1 < scanBound)
    (hQ : ∀ b h' ks', Heap.SameBut a s.heap h' → Added k ks ks' → RSet knd h' a ks' → Q b { s with heap := h' }) :
    wpAny (model P w) A (setAddHashed a x (knd.hash k)) Q E s := by
  have R0 := R
  obtain ⟨o, es, ep, t, ho, hex, hd, pr, nd, hb, hf, hr, hl⟩ := R
  have hel := ents_elems pr
  have hn : es.size = ks.length := by rw [PySem.Paired.length pr, Array.length_toList]
  unfold setAddHashed setAddHashedIn
  refine wpAny_holding (wpAny_bind (wpAny_setState_of ho hd hf ?_))
  dsimp only
  rw [byScan_of hsc hb hel]
  simp only [↓reduceIte]
  unfold setAddByScan
  refine wpAny_bind (wpAny_bind (wpAny_rule (wpAny_bind (wpAny_setScan_of hk ho hd hf hel ?_))))
  cases hfi : List.findIdx? (fun e => knd.is k e.2) es.toList with
  | some j =>
    dsimp only
    obtain ⟨hj, pj, _⟩ := List.findIdx?_eq_some_iff_getElem.mp hfi
    have hin : k ∈ ks := (ents_has pr k).1 ⟨es.toList[j], List.getElem_mem hj, pj⟩
    exact wpAny_pure (wpAny_pure (hQ _ s.heap ks (Heap.SameBut.refl a s.heap) (.inl ⟨hin, rfl⟩) R0))
  | none =>
    dsimp only
    have hout : k ∉ ks := fun z => by
      obtain ⟨e, he, q⟩ := (ents_has pr k).2 z
      have c := List.findIdx?_eq_none_iff.mp hfi e he
      rw [q] at c; cases c
    have gw : ∀ (b : Bool) {s₁ : Shared} {Q' : Unit → Shared → Prop}, Q' () s₁ → wpAny (model P w) A (match b with | true => rule "set.scan.the-table-gave-way" | false => pure ()) Q' E s₁ :=
      fun b s₁ Q' q => by cases b <;> first | exact wpAny_pure q | exact wpAny_rule q
    have m1 := layNew_perm t es (knd.hash k) x
    have m2 := layNew_fits t es (knd.hash k) x
    have m3 := layNew_ris t es (knd.hash k) x hr
    have m4 := layNew_led t es (knd.hash k) x
    generalize layNew t es (knd.hash k) x = Z at m1 m2 m3 m4 ⊢
    obtain ⟨es1, t1, wasDummy, gave⟩ := Z
    dsimp only at m1 m2 m3 m4 ⊢
    rw [Array.toList_push] at m1
    have psn : Paired (Ent knd) (ks ++ [k]) (es.toList ++ [(knd.hash k, x)]) := Paired.snoc (show Ent knd k (knd.hash k, x) from ⟨hk, rfl, hsc⟩) pr
    obtain ⟨ks1, pk, p1⟩ := Paired.perm m1 psn
    have pc : ks1.Perm (k :: ks) := pk.trans (List.perm_append_singleton _ _)
    have nd1 : ks1.Nodup := pc.nodup_iff.mpr (List.nodup_cons.mpr ⟨hout, nd⟩)
    have sz : es1.size = ks.length + 1 := by rw [← Array.length_toList, ← PySem.Paired.length p1, pc.length_eq, List.length_cons]
    have hb1 : es1.size < scanBound := by rw [sz]; exact room
    have led1 : w.params.followText "set-order" = true ∨ t1.led = true := hl.imp id fun z => by rw [m4]; exact z
    have fin : ∀ h' ks', Heap.SameBut a s.heap h' → ks'.Perm ks1 → RSet knd h' a ks' → ∀ b, Q b { s with heap := h' } := fun h' ks' sb pm r b => hQ b h' ks' sb (.inr ⟨hout, pm.trans pc⟩) r
    refine wpAny_bind (gw _ ?_)
    split
    · refine wpAny_bind ?_
      rw [hashByValue_scannable 8 hsc]
      refine wpAny_pure (rset_tail (knd := knd) (fun b s₁ Q' q => by cases b <;> first | exact wpAny_pure q | exact wpAny_rule q) ho hex hd p1 nd1 hb1 ?_ ?_ ?_ fun h' ks' sb pm r => ?_)
      · first | (split <;> first | exact m2 | exact SetTable.fits_plain_off m2) | exact m2
      · first | (split <;> exact m3) | exact m3
      · first | (split <;> exact led1) | exact led1
      · dsimp only; exact wpAny_pure (fin h' ks' sb pm r _)
    · refine wpAny_bind (wpAny_pure ?_)
      simp only [↓reduceIte]
      refine rset_tail (knd := knd) (fun b s₁ Q' q => by cases b <;> first | exact wpAny_pure q | exact wpAny_rule q) ho hex hd p1 nd1 hb1 m2 m3 led1 fun h' ks' sb pm r => ?_
      dsimp only; exact wpAny_pure (fin h' ks' sb pm r _)
end
end Q9
end
-- QSetCall
section
set_option maxRecDepth 100000
set_option maxHeartbeats 4000000
namespace Q9
open PySem PySem.Spec PyProof.Rows L2
section
variable {P : Program} {w : World} {K : Type} [DecidableEq K] {knd : KeyKind P w K} {A : Around} {E : Value → Shared → Prop} {s : Shared}
/-- ks are the first i of xs, each once, in any order -/
structure Coll (xs : List K) (i : Nat) (ks : List K) : Prop where
  nd : ks.Nodup
  mem : ∀ k, k ∈ ks ↔ k ∈ xs.take i
theorem Coll.zero (xs : List K) : Coll xs 0 [] := ⟨List.nodup_nil, fun k => by simp⟩
theorem take_one_more {α : Type} {l : List α} {i : Nat} {x : α} (h : l[i]? = some x) : l.take (i + 1) = l.take i ++ [x] := by
  rw [List.take_add_one, h]; rfl
theorem Coll.next {xs : List K} {i : Nat} {ks ks' : List K} {k : K} (c : Coll xs i ks) (h : xs[i]? = some k) (ad : Added k ks ks') : Coll xs (i + 1) ks' := by
  rcases ad with ⟨hin, rfl⟩ | ⟨hout, pm⟩
  · refine ⟨c.nd, fun j => ?_⟩
    rw [take_one_more h, List.mem_append, ← c.mem j, List.mem_singleton]
    exact ⟨.inl, fun z => z.elim id fun e => e ▸ hin⟩
  · refine ⟨pm.nodup_iff.mpr (List.nodup_cons.mpr ⟨hout, c.nd⟩), fun j => ?_⟩
    rw [pm.mem_iff, take_one_more h, List.mem_append, ← c.mem j, List.mem_singleton, List.mem_cons]
    exact Or.comm
theorem Coll.sub {xs : List K} {i : Nat} {ks : List K} (c : Coll xs i ks) : ∀ k ∈ ks, k ∈ xs := fun k hk => List.mem_of_mem_take ((c.mem k).1 hk)
/-- few enough unlike ones -/
def FewIn (xs : List K) : Prop := ∀ ks : List K, ks.Nodup → (∀ k ∈ ks, k ∈ xs) → ks.length + 1 < scanBound
theorem upd_turns {I : Addr} {fp wr : List Addr} {G : Array GenState → Array GenState → Prop} {n : Nat} {Pv : Nat → Value → Prop} {St : Nat → Shared → Prop} {R : Result → Shared → Prop}
    (W : WalksS P w A.in1 I fp wr G n Pv St) (S : Addr) (hSf : S ∉ fp) (xs : List K) (hn : n = xs.length) (few : FewIn xs)
    (hval : ∀ i v, Pv i v → ∃ k, xs[i]? = some k ∧ knd.is k v = true ∧ v.scannable = true) :
    ∀ (m i : Nat) (s : Shared), n - i = m → i ≤ n → St i s → (∃ ks, RSet knd s.heap S ks ∧ Coll xs i ks) →
      (∀ s' ks, Moved (S :: wr) G s s' → RSet knd s'.heap S ks → Coll xs n ks → R (.ok (.ret .none)) s') →
      codeAny (model P w) A (.builtin "set.update.loop" ⟨[.ref S, .ref I], []⟩) R s := by
  have away : S ∉ wr := fun h => hSf (W.sub _ h)
  have up : ∀ b ∈ wr, b ∈ S :: wr := fun b hb => List.mem_cons_of_mem _ hb
  intro m
  induction m with
  | zero =>
    intro i s hm hi st ⟨ks, RS, c⟩ hR
    obtain rfl : i = n := by omega
    refine codeAny_builtin F.entry_set_update_loop ?_
    rw [Around.under_plainId F.plain_set_update_loop _]
    show wpAny _ A.in1 (pyNext (.ref I) >>= _) _ _ s
    refine wpAny_bind (W.done s _ _ st fun s' mv => ?_)
    show wpAny _ A.in1 (ret Value.none) _ _ s'
    exact wpAny_pure (hR s' ks (mv.mono up) (RS.at fun o e => mv.heap S o away e) c)
  | succ m ih =>
    intro i s hm hi st ⟨ks, RS, c⟩ hR
    have lt : i < n := by omega
    refine codeAny_builtin F.entry_set_update_loop ?_
    rw [Around.under_plainId F.plain_set_update_loop _]
    show wpAny _ A.in1 (pyNext (.ref I) >>= _) _ _ s
    refine wpAny_bind (W.item i s _ _ lt st fun v s' pv st' mv => ?_)
    obtain ⟨k, hk, his, hsc⟩ := hval i v pv
    have RS' : RSet knd s'.heap S ks := RS.at fun o e => mv.heap S o away e
    show wpAny _ A.in1 (holding [v] (setAdd S v) >>= _) _ _ s'
    refine wpAny_bind (wpAny_holding ?_)
    unfold setAdd
    refine wpAny_holding (wpAny_bind (knd.pyHash his ?_))
    refine rset_add (s := { s' with toks := s'.toks + 1 }) RS' his hsc (few ks c.nd c.sub) fun b h' ks' same ad RS2 => ?_
    refine wpAny_pure ⟨plainId_quiet F.plain_set_update_loop _, ih (i + 1) _ (by omega) lt (W.frame _ s' _ _ st' (Nat.le_succ _) fun b hb o e => ?_) ⟨ks', RS2, c.next hk ad⟩ fun s'' ks2 mv2 RS3 c3 => ?_⟩
    · exact (same.2 b fun z => hSf (z ▸ hb)).trans e
    · refine hR s'' ks2 (Moved.trans W.gtrans ((mv.mono up).then_heap (Nat.le_succ _) fun b o hb e => ?_) mv2) RS3 c3
      exact (same.2 b fun z => hb (z ▸ List.mem_cons_self)).trans e
/-- what set(..) reads: a list or a tuple at l -/
structure Src (P : Program) (w : World) (h : Heap) (l : Addr) (T : String) (items : Array Value) : Prop where
  typ : ∃ o, h.get? l = some o ∧ o.cls = .type T
  sub1 : isSubtype (.type T) (.type "set") = pure false
  sub2 : isSubtype (.type T) (.type "frozenset") = pure false
  nod : (Value.type T == Value.type "dict") = false
  walk : ∃ (ob : Obj) (St : Addr → Nat → Heap → Prop),
    (∀ (s₁ : Shared) (A : Around) (E Q : Value → Shared → Prop), (∀ b o, h.get? b = some o → s₁.heap.get? b = some o) → Q (.ref s₁.heap.objs.size) { s₁ with heap := s₁.heap.push ob } → wpAny (model P w) A (pyIter (.ref l)) Q E s₁) ∧
    (∀ (A : Around) (I : Addr), A.handled = none → l ≠ I → Walks P w A I [I, l] [I] items.size (fun i v => items[i]? = some v) (St I)) ∧
    ∀ h₁ : Heap, (∀ b o, h.get? b = some o → h₁.get? b = some o) → St h₁.objs.size 0 (h₁.push ob)
theorem Src.list {h : Heap} {l : Addr} {items : Array Value} (hl : h.IsList l items) : Src P w h l "list" items where
  typ := let ⟨o, ho, hc, _⟩ := hl; ⟨o, ho, hc⟩
  sub1 := F.sub_list_set
  sub2 := F.sub_list_frozenset
  nod := by decide
  walk := by
    have up : ∀ h₁ : Heap, (∀ b o, h.get? b = some o → h₁.get? b = some o) → h₁.IsList l items := fun h₁ k => let ⟨o, ho, r⟩ := hl; ⟨o, k _ _ ho, r⟩
    exact ⟨_, fun I i h => h.IsListIter I l i ∧ h.IsList l items, fun s₁ A E Q k q => wpAny_pyIter_list (up _ k) q, fun A I hh ne => Walks.list hh I l ne items,
      fun h₁ k => ⟨⟨_, Heap.get?_push_size _ rfl, rfl, rfl⟩, (up h₁ k).push _⟩⟩
theorem Src.tuple {h : Heap} {l : Addr} {items : Array Value} (hl : h.IsTuple l items) : Src P w h l "tuple" items where
  typ := let ⟨o, ho, hc, _⟩ := hl; ⟨o, ho, hc⟩
  sub1 := F.sub_tuple_set
  sub2 := F.sub_tuple_frozenset
  nod := by decide
  walk := by
    have up : ∀ h₁ : Heap, (∀ b o, h.get? b = some o → h₁.get? b = some o) → h₁.IsTuple l items := fun h₁ k => let ⟨o, ho, r⟩ := hl; ⟨o, k _ _ ho, r⟩
    exact ⟨_, fun I i h => h.IsTupleIter I l i ∧ h.IsTuple l items, fun s₁ A E Q k q => wpAny_pyIter_tuple (up _ k) q, fun A I hh ne => Walks.tuple hh I l ne items,
      fun h₁ k => ⟨⟨_, Heap.get?_push_size _ rfl, rfl, rfl⟩, (up h₁ k).push _⟩⟩
theorem rset_fresh {h : Heap} {a : Addr} (ho : h.get? a = some { cls := .type "set", dict := none, data := .set #[] 0 (.fresh 0 0 (!w.params.followText "set-order")) }) : RSet knd h a [] :=
  ⟨_, #[], 0, _, ho, ⟨rfl, rfl, rfl⟩, rfl, .nil, List.nodup_nil, by decide, by rfl, List.Pairwise.nil, by
    show _ ∨ (!w.params.followText "set-order") = true
    cases w.params.followText "set-order" with
    | false => exact .inr rfl
    | true => exact .inl rfl⟩
end
end Q9
end
-- QSetNew
section
set_option maxRecDepth 100000
set_option maxHeartbeats 8000000
namespace Q9
open PySem PySem.Spec PyProof.Rows L2
section
variable {P : Program} {w : World} {K : Type} [DecidableEq K] {knd : KeyKind P w K} {A : Around} {E : Value → Shared → Prop} {s : Shared}
abbrev emptySet (w : World) : Obj := { cls := .type "set", dict := none, data := .set #[] 0 (.fresh 0 0 (!w.params.followText "set-order")) }
/-- set(xs), xs a list or a tuple of keys -/
theorem call_set_keys {l : Addr} {T : String} {items : Array Value} (src : Src P w s.heap l T items) (xs : List K) (few : FewIn xs) (hn : items.size = xs.length) {Q : Value → Shared → Prop} (hh : A.handled = none)
    (hval : ∀ (i : Nat) (v : Value), items[i]? = some v → ∃ k, xs[i]? = some k ∧ knd.is k v = true ∧ v.scannable = true)
    (hQ : ∀ (h' : Heap) (tk : Nat) ks, RSet knd h' s.heap.objs.size ks → Coll xs xs.length ks → (∀ b o, s.heap.get? b = some o → h'.get? b = some o) → Q (.ref s.heap.objs.size) { s with heap := h', toks := tk }) :
    wpAny (model P w) A (call (.type "set") [.ref l]) Q E s := by
  obtain ⟨⟨ol, hol, hcl⟩, hsls, hslf, hne, ob, St, hiter, hwalk, hst⟩ := src
  obtain ⟨c, tl, hmro⟩ := F.called_set.mro
  have hmade := F.called_set.made
  have hsub := F.called_set.sub
  refine wpAny_call (codeAny_of_tree ?_)
  show wpAny _ _ (callAny (.type "set") _) _ _ _
  refine wpAny_pure ⟨Code.quiet_builtin _ (by decide +kernel), codeAny_builtin F.entry_type_call ?_⟩
  rw [Around.under_plain (weight_type_call_type "set" [.ref l] []) rfl]
  have h1 := F.called_set.notType
  have h2 := F.called_set.canCreate
  have hct := F.typeCall_set_1 (.ref l)
  repeat (any_goals (first | assumption | wp_step))
  refine codeAny_mono (code_set_led1 (.ref l) (E := E) (Q₁ := fun obj s₁ => obj = .ref s.heap.objs.size ∧ s₁ = { s with heap := s.heap.push (emptySet w) }) ⟨rfl, rfl⟩) fun r s₁ hr => ?_
  cases r with
  | error e => exact hr
  | ok fl =>
    cases fl with
    | ret obj =>
      obtain ⟨rfl, rfl⟩ := hr
      have hS : (s.heap.push (emptySet w)).get? s.heap.objs.size = some (emptySet w) := Heap.get?_push_size _ rfl
      have hT : Shared.TypeIs { s with heap := s.heap.push (emptySet w) } (.ref s.heap.objs.size) "set" := ⟨_, hS, rfl⟩
      have hli := F.called_set.init.lookup
      have hbi := F.called_set.init.bind (.ref s.heap.objs.size)
      repeat (any_goals (first | assumption | wp_step))
      refine codeAny_mono (codeAny_call_builtin (R := wants (fun r s₂ => r = .none ∧ ∃ h' tk ks, s₂ = { s with heap := h', toks := tk } ∧ RSet knd h' s.heap.objs.size ks ∧ Coll xs xs.length ks ∧
          (∀ b o, s.heap.get? b = some o → h'.get? b = some o)) E) F.called_set.init.plain F.entry_set_init (check_set_init_1 hT ?_)) fun r₂ s₂ hr₂ => ?_
      · have up1 : ∀ b o, s.heap.get? b = some o → (s.heap.push (emptySet w)).get? b = some o := fun b o e => Heap.get?_push_of_some _ e
        have hol' := up1 _ _ hol
        obtain ⟨ocls, odict, odata, oslots⟩ := ol
        simp only at hcl
        subst hcl
        unfold Builtin.«set.__init__» noKeywords Builtin.Frozenset.updateFrom
        generalize hPI : pyIter = PI
        wp_walk
        subst hPI
        refine hiter { s with heap := s.heap.push (emptySet w) } _ _ _ up1 ?_
        refine wpAny_bind (wpAny_runValue ?_)
        have hlS : l < s.heap.objs.size := Heap.lt_size hol
        have hh3 : A.in1.in1.in1.handled = none := by simp [hh]
        have hz1 : (s.heap.push (emptySet w)).objs.size = s.heap.objs.size + 1 := Heap.size_push ..
        have neI : l ≠ (s.heap.push (emptySet w)).objs.size := by rw [hz1]; exact Nat.ne_of_lt (Nat.lt_succ_of_lt hlS)
        have hSf : s.heap.objs.size ∉ [(s.heap.push (emptySet w)).objs.size, l] := by
          rw [hz1]
          simp only [List.mem_cons, List.not_mem_nil, or_false, not_or]
          exact ⟨Nat.ne_of_lt (Nat.lt_succ_self _), Nat.ne_of_gt hlS⟩
        refine upd_turns (knd := knd) ((hwalk _ _ hh3 neI).toS) s.heap.objs.size hSf xs hn few hval (items.size - 0) 0 _ (by omega) (Nat.zero_le _) (hst _ up1)
          ⟨[], rset_fresh (Heap.get?_push_of_some _ hS), Coll.zero xs⟩ fun s' ks mv RS cl => ?_
        obtain ⟨h', g2, d', tk', os'⟩ := s'
        have eg : g2 = s.gens := mv.gens
        have ed : d' = s.drawn := mv.drawn
        have eo : os' = s.os := mv.os
        subst eg; subst ed; subst eo
        show wpAny _ _ _ _ _ _
        refine wpAny_pure ?_
        show wpAny _ _ (ret Value.none) _ _ _
        rw [hn] at cl
        refine wpAny_pure ⟨rfl, h', tk', ks, rfl, RS, cl, fun b o e => ?_⟩
        have lt := Heap.lt_size e
        refine mv.heap b o (fun z => ?_) (Heap.get?_push_of_some _ (up1 b o e))
        rcases List.mem_cons.mp z with z | z
        · exact absurd lt (by rw [z]; exact Nat.lt_irrefl _)
        · have z2 := List.mem_singleton.mp z
          rw [z2, hz1] at lt
          exact absurd lt (Nat.not_lt_of_le (Nat.le_succ _))
      · cases r₂ with
        | error e => exact hr₂
        | ok fl₂ =>
          cases fl₂ with
          | ret r =>
            obtain ⟨rfl, h', tk, ks, rfl, RS, cl, k2⟩ := hr₂
            repeat (any_goals (first | assumption | wp_step))
            exact hQ _ _ _ RS cl k2
          | _ => exact hr₂.elim
    | _ => exact hr.elim
end
end Q9
end
-- QSort
section
set_option maxRecDepth 100000
set_option maxHeartbeats 4000000
namespace Q9
open PySem PySem.Spec PyProof.Rows L2
section
variable {P : Program} {w : World} {A : Around} {E : Value → Shared → Prop} {s : Shared}
abbrev Keeps (h h' : Heap) : Prop := ∀ b o, h.get? b = some o → h'.get? b = some o
/-- sorted(..) of what gathers into vs -/
theorem sorted_frame {r : Value} {vs : List Value} {Good : Array Value → Prop} {Q : Value → Shared → Prop} (hL : vs.length ≤ sizeLine)
    (hcol : ∀ (R : List Value → Shared → Prop) (E' : Value → Shared → Prop), (∀ s1, Keeps s.heap s1.heap → s.heap.objs.size ≤ s1.heap.objs.size → s1.gens = s.gens → s1.os = s.os → R vs s1) → wpAny (model P w) A.in1 (collect r) R E' s)
    (hsort : ∀ (s2 : Shared) (a n : Nat) (A' : Around) (E' : Value → Shared → Prop) (Pf : Fin → Shared → Prop), Keeps s.heap s2.heap → s2.heap.get? a = some (seqObj "list" vs.toArray n) →
      (∀ out, Good out → Pf (.done (.ret .none)) { s2 with heap := sortedHeap s2.heap a vs out }) → wpAny (model P w) A' (Builtin.«list.sort» ⟨[.ref a], []⟩) Pf E' s2)
    (hQ : ∀ s' p out c, Keeps s.heap s'.heap → s'.gens = s.gens → s'.os = s.os → s.heap.objs.size ≤ p → s'.heap.get? p = some (seqObj "list" out c) → Good out → Q (.ref p) s') :
    wpAny (model P w) A (call (.builtin "sorted") [r]) Q E s := by
  refine Calls.call_function_entry kind_sorted plain_sorted entry_sorted (args_sorted1 _) ?_
  unfold Builtin.«sorted»
  refine wpAny_bind (m := checkCount "sorted" 1 1 _) (wpAny_pure (wpAny_bind (hcol _ _ fun s1 k1 z1 g1 o1 => wpAny_bind (wpAny_newList ?_ hL))))
  have at1 : (s1.heap.push (seqObj "list" vs.toArray 0)).get? s1.heap.objs.size = some (seqObj "list" vs.toArray 0) := Heap.get?_push_size _ rfl
  have k2 : Keeps s.heap (s1.heap.push (seqObj "list" vs.toArray 0)) := fun b o e => Heap.get?_push_of_some _ (k1 b o e)
  refine wpAny_bind (wpAny_holding (wpAny_call_entry slot_list_sort ⟨_, at1, rfl⟩ entry_list_sort (hsort { s1 with heap := s1.heap.push (seqObj "list" vs.toArray 0) } _ _ _ _ _ k2 at1 fun out g => ⟨_, rfl, ?_⟩) (args_list_sort _)))
  obtain ⟨c, hc⟩ := sortedHeap_at (vs := vs) (out := out) at1
  refine wpAny_pure ⟨_, rfl, hQ _ s1.heap.objs.size out c (fun b u e => ?_) g1 o1 z1 hc g⟩
  have q := k1 b u e
  have lt := Heap.lt_size q
  show (sortedHeap (s1.heap.push (seqObj "list" vs.toArray 0)) s1.heap.objs.size vs out).get? b = some u
  rw [sortedHeap_old (Nat.ne_of_lt lt) (by rw [size_push']; exact Nat.lt_succ_of_lt lt)]
  exact Heap.get?_push_of_some _ q
/-- texts in order -/
def TLe (x y : Str) : Prop := ¬ y.cps.toList < x.cps.toList
def Up (ys : List Str) : Prop := ys.Pairwise TLe
theorem list_sort_txts {a n : Nat} {vs : List Value} {ss : List Str} {Pf : Fin → Shared → Prop} (ho : s.heap.get? a = some (seqObj "list" vs.toArray n)) (hS : StrsAre vs ss) (hL : vs.length ≤ sizeLine)
    (hP : ∀ (out : Array Value) ys, StrsAre out.toList ys → ys.Perm ss → Up ys → Pf (.done (.ret .none)) { s with heap := sortedHeap s.heap a vs out }) :
    wpAny (model P w) A (Builtin.«list.sort» ⟨[.ref a], []⟩) Pf E s := by
  refine list_sort_treeKAny strKind_oneLt ho hS.keysOf (fun v₁ v₂ rest e => keyKind_strs (by rw [← e]; exact hS)) hL fun st' hp hs => ?_
  obtain ⟨ys, h1, h2, h3⟩ := sorted_out_str hS hp hs
  refine hP _ ys h1 h2 ?_
  -- in order, read off the array
  have len : ys.length = (arrOf st').size := by rw [← h1.length, Array.length_toList, Array.size_map]
  refine List.pairwise_iff_getElem.mpr fun i j hi hj hij => ?_
  have hj' : j < (arrOf st').size := len ▸ hj
  have hi' : i < (arrOf st').size := len ▸ hi
  have q := hs i j (Nat.le_of_lt hij) (by rw [← hp.size_eq]; exact hj')
  have hl : (arrOf st').toList.Perm (vs.zip vs) := by rw [← pairsOf_toList]; exact Array.perm_iff_toList_perm.mp hp
  have key : ∀ m (hm : m < (arrOf st').size) (hm2 : m < ys.length), KK strKind (arrOf st') m = (ys[m]).cps.toList := fun m hm hm2 => by
    have e1 := (mem_zip_self (hl.mem_iff.mp (show (arrOf st')[m] ∈ (arrOf st').toList from by simp))).1
    obtain ⟨t, e2⟩ := SS.strs_at h1 m (arrOf st')[m].2 (by rw [Array.getElem?_toList, Array.getElem?_map, Array.getElem?_eq_getElem hm]; rfl)
    have e3 : ys.getD m Str.empty = ys[m] := by rw [List.getD_eq_getElem?_getD, List.getElem?_eq_getElem hm2]; rfl
    rw [e3] at e2
    exact KK_str hm (x := ys[m]) (t := t) (q := (arrOf st')[m].2) (Prod.ext (e1.trans e2) rfl)
  rw [key i hi' hi, key j hj' hj] at q
  intro c
  have q' : decide ((ys[j]).cps.toList < (ys[i]).cps.toList) = false := q
  rw [decide_eq_true c] at q'
  cases q'
theorem sorted_txts {r : Value} {vs : List Value} {ss : List Str} (hS : StrsAre vs ss) {Q : Value → Shared → Prop} (hL : vs.length ≤ sizeLine)
    (hcol : ∀ (R : List Value → Shared → Prop) (E' : Value → Shared → Prop), (∀ s1, Keeps s.heap s1.heap → s.heap.objs.size ≤ s1.heap.objs.size → s1.gens = s.gens → s1.os = s.os → R vs s1) → wpAny (model P w) A.in1 (collect r) R E' s)
    (hQ : ∀ s' p (out : Array Value) c ys, Keeps s.heap s'.heap → s'.gens = s.gens → s'.os = s.os → s.heap.objs.size ≤ p → s'.heap.get? p = some (seqObj "list" out c) → StrsAre out.toList ys → ys.Perm ss → Up ys → Q (.ref p) s') :
    wpAny (model P w) A (call (.builtin "sorted") [r]) Q E s :=
  sorted_frame (Good := fun out => ∃ ys, StrsAre out.toList ys ∧ ys.Perm ss ∧ Up ys) hL hcol (fun s2 a n A' E' Pf k2 ho hP => list_sort_txts ho hS hL fun out ys h1 h2 h3 => hP out ⟨ys, h1, h2, h3⟩)
    fun s' p out c k g o z hp ⟨ys, h1, h2, h3⟩ => hQ s' p out c ys k g o z hp h1 h2 h3
end
end Q9
end
-- QRules
section
set_option maxRecDepth 100000
set_option maxHeartbeats 4000000
namespace Q9
open PySem PySem.Spec PyProof.Rows L2
/-- a set of keys (ints, texts) at a: its members, each once -/
def SetKs (P : Program) (w : World) (a : Addr) (ks : List Key) : HO := .ext fun h => RSet (mixKind P w) h a ks
section
variable {X : Cx} {pins : List (Addr × Obj)} {σ : L2.St} {H : Hp} {s : Shared} {a : Addr} {ks : List Key}
theorem setKs_ok {P : Program} {w : World} {H : Hp} {h : Heap} (R : RSet (mixKind P w) h a ks) : ObjOk P w H h a (SetKs P w a ks) := by
  have ⟨o, _, _, _, ho, _⟩ := R
  exact ⟨R, ⟨o, ho⟩, fun h1 h2 p k => RSet.at p k⟩
theorem setKs_get (I : Inv X pins σ H s) (ha : H a = some (SetKs X.prog X.w a ks)) : RSet (mixKind X.prog X.w) s.heap a ks := (I.hok a _ ha).1
theorem key_scannable {k : Key} {u : Value} (r : RelV (kV k) u) : u.scannable = true := by
  cases k with
  | inl i => obtain ⟨t, rfl⟩ := r; rfl
  | inr x => obtain ⟨t, rfl⟩ := r; rfl
theorem keys_of_vals {xs : List Key} {us : List Value} (r : Vals (xs.map kV) us) (i : Nat) (v : Value) (h : us[i]? = some v) : ∃ k, xs[i]? = some k ∧ RelV (kV k) v := by
  have len := PySem.Paired.length r
  have hi : i < us.length := (List.getElem?_eq_some_iff.mp h).1
  have hi2 : i < xs.length := by rw [List.length_map] at len; omega
  obtain ⟨u, h1, h2⟩ := Vals.get (i := i) (x := kV xs[i]) r (by rw [List.getElem?_map, List.getElem?_eq_getElem hi2]; rfl)
  rw [h] at h1
  cases h1
  exact ⟨xs[i], List.getElem?_eq_getElem hi2, h2⟩
/-- the state behind a call that laid one new object at p and kept all else -/
theorem Inv.new_at (I : Inv X pins σ H s) {s' : Shared} {p : Addr} {o : HO} (k : Keeps s.heap s'.heap) (g : s'.gens = s.gens) (os : s'.os = s.os) (hp : s.heap.objs.size ≤ p)
    (ok : ObjOk X.prog X.w (upd H p o) s'.heap p o) : Inv X pins σ (upd H p o) s' := by
  have hn : H p = none := I.hok.fresh hp
  exact I.call' (ch := []) os (Un.laid k hp hn) (I.hok.laid k hp ok) (by rw [g]; exact I.bare) fun _ z => nomatch z
/-- set(xs), xs a list or a tuple of keys -/
def rSetOf (K : PySem.W.Frag) (P : Program) (w : World) : List V → Hp → VK → Prop := fun vs H Q => ∃ (l : Addr) (xs : List Key), vs = [V.ref l] ∧ (SqL K H l (xs.map kV) ∨ SqT K H l (xs.map kV)) ∧ FewIn xs ∧
  ∀ (p : Addr) (ks : List Key), H p = none → ks.Nodup → (∀ k, k ∈ ks ↔ k ∈ xs) → Q (.ref p) (upd H p (SetKs P w p ks))
theorem cr_setOf (hc : X.calm = true) : CallR X (.type "set") (rSetOf X.K X.prog X.w) := by
  intro pins s σ H vs us Q I r h
  obtain ⟨l, xs, rfl, hq, few, q⟩ := h
  rw [Vals.ref1 r]
  have fin : ∀ (T : String) (its : List Value), Vals (xs.map kV) its → Src X.prog X.w s.heap l T its.toArray → wpAny (model X.prog X.w) X.A (call (.type "set") [.ref l]) (EP X pins σ Q) X.xe s := fun T its rv src => by
    refine call_set_keys (knd := mixKind X.prog X.w) src xs few ?_ (I.ok.hd hc) (fun i v hv => ?_) fun h' tk ks RS cl k => ?_
    · rw [List.size_toArray, ← PySem.Paired.length rv, List.length_map]
    · have hv' : its[i]? = some v := by simpa using hv
      obtain ⟨k, h1, h2⟩ := keys_of_vals rv i v hv'
      exact ⟨k, h1, kV_is h2, key_scannable h2⟩
    · have J : Inv X pins σ (upd H s.heap.objs.size (SetKs X.prog X.w s.heap.objs.size ks)) { s with heap := h', toks := tk } := I.laid k (Nat.le_refl _) (setKs_ok RS)
      exact ⟨.ref _, _, J, rfl, q _ ks (I.hok.fresh (Nat.le_refl _)) cl.nd fun k => by rw [cl.mem k, List.take_length]⟩
  rcases hq with hq | hq
  · obtain ⟨its, rv, pl, hz⟩ := I.list hq
    exact fin _ its rv (Src.list pl.isList)
  · obtain ⟨its, rv, pl, hz⟩ := I.tuple hq
    exact fin _ its rv (Src.tuple pl)
/-- len(s) -/
def rLenKs (P : Program) (w : World) : List V → Hp → VK → Prop := fun vs H Q => ∃ (a : Addr) (ks : List Key), vs = [V.ref a] ∧ H a = some (SetKs P w a ks) ∧ Q (.int ks.length) H
theorem cr_lenKs : CallR X (.builtin "len") (rLenKs X.prog X.w) := by
  intro pins s σ H vs us Q I r h
  obtain ⟨a, ks, rfl, ha, q⟩ := h
  rw [Vals.ref1 r]
  have R := setKs_get I ha
  have sz := R.size
  obtain ⟨o, es, ep, t, ho, hex, hd, pr, nd, hb, hf, hr, hl⟩ := R
  have e : es.size = ks.length := ((PySem.Paired.length pr).trans Array.length_toList).symm
  have b : scanBound = 4096 := rfl
  refine call_len_set ho hex hd hf (by rw [e]; omega) ⟨.int ks.length, H, I.tok _, ⟨_, by rw [e]⟩, q⟩
/-- sorted(s), a set of texts -/
def rSortedKs (P : Program) (w : World) : List V → Hp → VK → Prop := fun vs H Q => ∃ (a : Addr) (ss : List Str), vs = [V.ref a] ∧ H a = some (SetKs P w a (ss.map Sum.inr)) ∧
  ∀ (ys : List Str) (p : Addr), ys.Perm ss → Up ys → H p = none → Q (.ref p) (upd H p (.lst (ys.map V.str)))
theorem strs_of_ents {P : Program} {w : World} : ∀ {ss : List Str} {es : List (Int × Value)}, Paired (Ent (mixKind P w)) (ss.map Sum.inr) es → StrsAre (es.map (·.2)) ss
  | [], es, h => by
    rw [List.map_nil] at h
    cases h
    exact .nil
  | x :: ss, es, h => by
    rw [List.map_cons] at h
    cases h with
    | cons r t =>
      obtain ⟨h1, _, _⟩ := r
      rcases keyIs_shape (show keyIs (Sum.inr x) _ = true from h1) with ⟨i, t', e, _⟩ | ⟨y, t', e, e2⟩
      · cases e
      · cases e
        rw [List.map_cons, e2]
        exact .cons _ _ (strs_of_ents t)
theorem strsAre_perm {l l' : List Value} (p : l'.Perm l) : ∀ {ss : List Str}, StrsAre l ss → ∃ ss', ss'.Perm ss ∧ StrsAre l' ss' := by
  induction p with
  | nil => intro ss h; exact ⟨ss, .refl _, h⟩
  | cons x p ih =>
    intro ss h
    cases h with
    | cons x t r =>
      obtain ⟨ss', q1, q2⟩ := ih r
      exact ⟨_ :: ss', q1.cons _, .cons _ _ q2⟩
  | swap x y l =>
    intro ss h
    cases h with
    | cons x t r => cases r with
      | cons x' t' r' => exact ⟨_, List.Perm.swap _ _ _, .cons _ _ (.cons _ _ r')⟩
  | trans p1 p2 ih1 ih2 =>
    intro ss h
    obtain ⟨k1, q1, q2⟩ := ih2 h
    obtain ⟨k2, q3, q4⟩ := ih1 q2
    exact ⟨k2, q3.trans q1, q4⟩
theorem cr_sortedKs (hc : X.calm = true) : CallR X (.builtin "sorted") (rSortedKs X.prog X.w) := by
  intro pins s σ H vs us Q I r h
  obtain ⟨a, ss, rfl, ha, q⟩ := h
  rw [Vals.ref1 r]
  have R := setKs_get I ha
  have sz := R.size
  obtain ⟨o, es, ep, t, ho, hex, hd, pr, nd, hb, hf, hr, hl⟩ := R
  have e : es.size = ss.length := by
    have := (PySem.Paired.length pr).trans Array.length_toList
    rw [List.length_map] at this
    exact this.symm
  have hS := strs_of_ents pr
  -- the order that the walk of the set takes is not known ahead: the sort is asked for each
  refine Calls.call_function_entry kind_sorted plain_sorted entry_sorted (args_sorted1 _) ?_
  unfold Builtin.«sorted»
  refine wpAny_bind (m := checkCount "sorted" 1 1 _) (wpAny_pure (wpAny_bind (collect_set (A := X.A.in1) (I.ok.hd hc) ⟨o, ho, hex.1, hd⟩ hf hb hr hl fun s1 vs k1 z1 g1 o1 pm => ?_)))
  obtain ⟨ss1, pss, hS1⟩ := strsAre_perm pm hS
  have hvl : vs.length ≤ sizeLine := by
    have := hS1.length
    have := pss.length_eq
    have b : scanBound = 4096 := rfl
    rw [sizeLine_eq]; omega
  refine wpAny_bind (wpAny_newList ?_ hvl)
  have at1 : (s1.heap.push (seqObj "list" vs.toArray 0)).get? s1.heap.objs.size = some (seqObj "list" vs.toArray 0) := Heap.get?_push_size _ rfl
  refine wpAny_bind (wpAny_holding (wpAny_call_entry slot_list_sort ⟨_, at1, rfl⟩ entry_list_sort (list_sort_txts at1 hS1 hvl fun out ys h1 h2 h3 => ⟨_, rfl, ?_⟩) (args_list_sort _)))
  obtain ⟨c, hc'⟩ := sortedHeap_at (vs := vs) (out := out) at1
  refine wpAny_pure ⟨_, rfl, ?_⟩
  have kk : Keeps s.heap (sortedHeap (s1.heap.push (seqObj "list" vs.toArray 0)) s1.heap.objs.size vs out) := fun b u e => by
    have q := k1 b u e
    have lt := Heap.lt_size q
    rw [sortedHeap_old (Nat.ne_of_lt lt) (by rw [size_push']; exact Nat.lt_succ_of_lt lt)]
    exact Heap.get?_push_of_some _ q
  have len : (ys.map V.str).length ≤ sizeLine := by rw [List.length_map, h2.length_eq, ← hS1.length]; exact hvl
  have J := Inv.new_at I (s' := { s1 with heap := sortedHeap (s1.heap.push (seqObj "list" vs.toArray 0)) s1.heap.objs.size vs out }) (o := .lst (ys.map V.str)) kk g1 o1 z1 ⟨len, out.toList, c, vals_of_strs h1, hc'⟩
  exact ⟨.ref _, _, J, rfl, q ys _ (h2.trans pss) h3 (I.hok.fresh z1)⟩
end
end Q9
end
-- QPairs
section
set_option maxRecDepth 100000
set_option maxHeartbeats 4000000
namespace Q9
open PySem PySem.Spec PyProof.Rows L2
/-- a row that maps onto a rearranged one is a rearranged row -/
theorem perm_of_map {α β : Type} {f : α → β} {m : List β} {l : List α} (p : m.Perm (l.map f)) : ∃ l' : List α, m = l'.map f ∧ l'.Perm l := by
  generalize e : l.map f = n at p
  induction p generalizing l with
  | nil => exact ⟨[], rfl, by cases l with | nil => exact .refl _ | cons _ _ => cases e⟩
  | @cons x l1 l2 p ih =>
    cases l with
    | nil => cases e
    | cons y l =>
      injection e with e1 e2
      obtain ⟨l', h1, h2⟩ := ih e2
      exact ⟨y :: l', by rw [List.map_cons, ← h1, e1], h2.cons _⟩
  | swap x y l1 =>
    cases l with
    | nil => cases e
    | cons u l =>
      cases l with
      | nil => injection e with _ e2; cases e2
      | cons v l =>
        injection e with e1 e2
        injection e2 with e3 e4
        exact ⟨v :: u :: l, by rw [List.map_cons, List.map_cons, e1, e3, e4], List.Perm.swap _ _ _⟩
  | trans p1 p2 ih1 ih2 =>
    obtain ⟨l2, h1, h2⟩ := ih2 e
    obtain ⟨l3, h3, h4⟩ := ih1 h1.symm
    exact ⟨l3, h3, h4.trans h2⟩
theorem paired_zip {α β : Type} {F : α → β → Prop} : ∀ {l : List α} {m : List β}, Paired F l m → ∀ q ∈ l.zip m, F q.1 q.2
  | _, _, .nil, q, h => by simp at h
  | _, _, .cons r t, q, h => by
    rw [List.zip_cons_cons] at h
    rcases List.mem_cons.mp h with z | z
    · rw [z]; exact r
    · exact paired_zip t q z
abbrev PKey := List (Int ⊕ List Nat)
def pKey (p : Str × Str) : PKey := [.inr p.1.cps.toList, .inr p.2.cps.toList]
theorem pKey_inj {p q : Str × Str} (h : pKey p = pKey q) : p = q := by
  obtain ⟨x, y⟩ := p
  obtain ⟨x', y'⟩ := q
  simp only [pKey, List.cons.injEq, Sum.inr.injEq, and_true] at h
  obtain ⟨h1, h2⟩ := h
  obtain ⟨x⟩ := x; obtain ⟨y⟩ := y; obtain ⟨x'⟩ := x'; obtain ⟨y'⟩ := y'
  simp only [Array.toList_inj] at h1 h2
  rw [h1, h2]
/-- pairs of texts in order -/
def PLe (p q : Str × Str) : Prop := (listOrd itemOrd).kle (pKey p) (pKey q)
def UpP (ps : List (Str × Str)) : Prop := ps.Pairwise PLe
theorem PLe.anti {p q : Str × Str} (h : PLe p q) (h' : PLe q p) : p = q := pKey_inj ((listOrd itemOrd).total _ _ h' h)
/-- two rising rows of the same pairs are one -/
theorem upP_same {ps qs : List (Str × Str)} (p : ps.Perm qs) (h1 : UpP ps) (h2 : UpP qs) : ps = qs :=
  p.eq_of_pairwise (fun a b _ _ => PLe.anti) h1 h2
theorem tle_anti {x y : Str} (h : TLe x y) (h' : TLe y x) : x = y := by
  unfold TLe at h h'
  have e : x.cps.toList = y.cps.toList := List.le_antisymm h h'
  obtain ⟨x⟩ := x; obtain ⟨y⟩ := y
  simp only [Array.toList_inj] at e
  rw [e]
theorem up_same {ps qs : List Str} (p : ps.Perm qs) (h1 : Up ps) (h2 : Up qs) : ps = qs :=
  p.eq_of_pairwise (fun a b _ _ => tle_anti) h1 h2
section
variable {P : Program} {w : World} {A : Around} {E : Value → Shared → Prop} {s : Shared}
/-- v is a tuple of two texts -/
def Pair2 (h : Heap) (v : Value) (p : Str × Str) : Prop := ∃ a o t u n, v = .ref a ∧ h.get? a = some o ∧ o.cls = .type "tuple" ∧ o.data = .seq #[.str p.1 t, .str p.2 u] n
abbrev yes : Nat → Bool := fun _ => true
theorem Pair2.key {h : Heap} {v : Value} {p : Str × Str} (x : Pair2 h v p) : G.tupKeyC h yes v = some (pKey p) := by
  obtain ⟨a, o, t, u, n, rfl, ho, hc, hd⟩ := x
  have e1 : G.isTupObj h (.ref a) = true := by simp [G.isTupObj, ho, hc]
  unfold G.tupKeyC
  rw [if_pos e1]
  simp only [tupKey, ho, hd]
  simp [tupItems, pKey]
theorem pairs_tups {h : Heap} : ∀ {vs : List Value} {ps : List (Str × Str)}, Paired (Pair2 h) vs ps → ∃ fs, TupsOf h yes vs fs
  | _, _, .nil => ⟨[], .nil⟩
  | _, _, .cons r t => by
    obtain ⟨fs, q⟩ := pairs_tups t
    obtain ⟨a, o, tk, u, n, rfl, ho, hc, hd⟩ := r
    exact ⟨_ :: fs, .cons ⟨a, o, _, n, rfl, ho, hc, hd, rfl, (fun z => by cases z), fun _ => ⟨_, _, rfl⟩⟩ q⟩
theorem list_sort_pairs {a n : Nat} {vs : List Value} {ps : List (Str × Str)} {Pf : Fin → Shared → Prop} (ho : s.heap.get? a = some (seqObj "list" vs.toArray n)) (hS : Paired (Pair2 s.heap) vs ps) (hL : vs.length ≤ sizeLine)
    (hP : ∀ (out : Array Value) (vps : List (Value × Str × Str)), out.toList = vps.map (·.1) → vps.Perm (vs.zip ps) → UpP (vps.map (·.2)) → Pf (.done (.ret .none)) { s with heap := sortedHeap s.heap a vs out }) :
    wpAny (model P w) A (Builtin.«list.sort» ⟨[.ref a], []⟩) Pf E s := by
  obtain ⟨fs, ht⟩ := pairs_tups hS
  have each : ∀ v ∈ vs, ∃ p ∈ ps, Pair2 s.heap v p := fun v hv => Paired.mem_l hS v hv
  refine G.list_sort_tups ho ht (fun v hv => let ⟨p, _, q⟩ := each v hv; ⟨_, q.key⟩) hL fun st' hp hs hst => ?_
  have hl : (arrOf st').toList.Perm (vs.zip vs) := by rw [← pairsOf_toList]; exact Array.perm_iff_toList_perm.mp hp
  have len := PySem.Paired.length hS
  -- the pairs, read off the values' keys
  have e0 : (arrOf st').toList.map (·.2) = (arrOf st').toList.map (·.1) := List.map_congr_left fun q hq => (mem_zip_self (hl.mem_iff.mp hq)).1.symm
  have p1 : ((arrOf st').toList.map (·.2)).Perm vs := by
    have q := hl.map (·.2)
    rwa [List.map_snd_zip (Nat.le_refl _)] at q
  have e1 : vs = (vs.zip ps).map (·.1) := (List.map_fst_zip (Nat.le_of_eq len)).symm
  rw [e1] at p1
  obtain ⟨vps, e2, p2⟩ : ∃ vps : List (Value × Str × Str), (arrOf st').toList.map (·.2) = vps.map (·.1) ∧ vps.Perm (vs.zip ps) := by
    clear e1
    generalize vs.zip ps = l at p1
    generalize (arrOf st').toList.map (·.2) = m at p1
    exact perm_of_map p1
  refine hP _ vps (by rw [Array.toList_map]; exact e2) p2 ?_
  have at_ : ∀ q ∈ vps, Pair2 s.heap q.1 q.2 := fun q hq => paired_zip hS q (p2.mem_iff.mp hq)
  have sz : vps.length = (arrOf st').size := by
    have := congrArg List.length e2
    simpa using this.symm
  refine List.pairwise_iff_getElem.mpr fun i j hi hj hij => ?_
  rw [List.length_map] at hi hj
  have q := hs i j (Nat.le_of_lt hij) (by rw [← hp.size_eq, ← sz]; exact hj)
  have key : ∀ m (hm : m < vps.length), KK (G.tupKindC s.heap yes) (arrOf st') m = pKey vps[m].2 := fun m hm => by
    have hm' : m < (arrOf st').size := sz ▸ hm
    have e3 : (arrOf st')[m].1 = vps[m].1 := by
      have z := congrArg (fun l => l[m]?) (e0.symm.trans e2)
      simp only [List.getElem?_map, Array.getElem?_toList, Array.getElem?_eq_getElem hm', List.getElem?_eq_getElem hm, Option.map_some, Option.some.injEq] at z
      exact z
    unfold KK
    rw [Array.getElem?_eq_getElem hm']
    show ((G.tupKeyC s.heap yes (arrOf st')[m].1).getD []) = _
    rw [e3, (at_ _ (List.getElem_mem hm)).key]
    rfl
  rw [key i hi, key j hj] at q
  rw [List.getElem_map, List.getElem_map]
  exact q
end
end Q9
end
-- QPairRules
section
set_option maxRecDepth 100000
set_option maxHeartbeats 4000000
namespace Q9
open PySem PySem.Spec PyProof.Rows L2
section
variable {P : Program} {w : World} {A : Around} {E : Value → Shared → Prop} {s : Shared} {d : Addr} {es : Array DictEntry} {ep : Nat}
/-- the keys of a dict, gathered; the heap grows -/
theorem collect_dict {R : List Value → Shared → Prop} (lo : (d == sysModules) = false) (hh : A.handled = none) (raw : s.heap.DictRaw d es ep) (hn : es.size ≤ sizeLine)
    (hR : ∀ s1, Keeps s.heap s1.heap → s.heap.objs.size ≤ s1.heap.objs.size → s1.gens = s.gens → s1.os = s.os → R (es.toList.map (·.key)) s1) : wpAny (model P w) A (collect (.ref d)) R E s := by
  have src := KdlSrc.rawDict (prog := P) (w := w) (d := d) (es := es) (ep := ep) lo
  have lt := (src.there _ raw).1
  have ne : s.heap.objs.size ≠ d := Nat.ne_of_gt lt
  have fresh : (s.heap.push (seqObj "list" ([] : List Value).toArray 0)).get? s.heap.objs.size = some (seqObj "list" #[] 0) := Heap.get?_push_size _ rfl
  have told : ∀ (acc' : Array Value), ItemsOf (fun i v => ∃ hi : i < es.size, v = es[i].key) acc' es.size → acc'.toList = es.toList.map (·.key) := fun acc' items => by
    apply List.ext_getElem
    · rw [Array.length_toList, items.1, List.length_map, Array.length_toList]
    · intro i h1 h2
      have hi : i < acc'.size := by rw [Array.length_toList] at h1; exact h1
      obtain ⟨hj, e⟩ := items.2 i _ (Array.getElem?_eq_getElem hi)
      rw [Array.getElem_toList, List.getElem_map, Array.getElem_toList, e]
  unfold collect
  refine wpAny_bind (wpAny_runValue (codeAny_builtin entry_proto_collect' ?_))
  rw [Around.under_plainId PySem.F.plain_proto_collect _]
  show wpAny _ A.in1 (newList [] >>= fun l => again (.builtin "list.__iadd__" ⟨[l, .ref d], []⟩)) _ _ s
  refine wpAny_bind (wpAny_newObj_type (wpAny_pure ⟨plainId_quiet PySem.F.plain_list_iadd _, codeAny_builtin entry_list_iadd' ?_⟩))
  rw [Around.under_plainId PySem.F.plain_list_iadd _]
  show wpAny _ A.in1 (Builtin.List.listExtendWith (.ref s.heap.objs.size) (.ref d) (.ref s.heap.objs.size)) _ _ _
  have key := PySem.W.kdl_extend (A := A) (s := { s with heap := s.heap.push (seqObj "list" ([] : List Value).toArray 0) })
    (R := fun (q : Result) (s' : Shared) => ∃ (h' : Heap) (tk : Nat) (acc' : Array Value) (c' : Nat), q = .ok (.ret (.ref s.heap.objs.size)) ∧ s' = { s with heap := h', toks := tk } ∧ Keeps s.heap h' ∧
      h'.get? s.heap.objs.size = some (seqObj "list" acc' c') ∧ acc'.toList = es.toList.map (·.key))
    src hh (src.keep _ _ raw fun b _ o e => Heap.get?_push_of_some _ e) s.heap.objs.size ne ne (.ref s.heap.objs.size) 0 fresh
    (fun h' tk acc' c' k at1 items => ⟨h', tk, acc', c', rfl, rfl, fun b o e => k b o (Nat.ne_of_lt (Heap.lt_size e)) (Heap.get?_push_of_some _ e), at1, told acc' items⟩) hn
  have last : ∀ (q : Result) (s' : Shared), (∃ (h' : Heap) (tk : Nat) (acc' : Array Value) (c' : Nat), q = .ok (.ret (.ref s.heap.objs.size)) ∧ s' = { s with heap := h', toks := tk } ∧ Keeps s.heap h' ∧
      h'.get? s.heap.objs.size = some (seqObj "list" acc' c') ∧ acc'.toList = es.toList.map (·.key)) → ∃ h' tk, s' = { s with heap := h', toks := tk } ∧ q = .ok (.ret (.ref s.heap.objs.size)) ∧
      ∃ acc' c', h'.get? s.heap.objs.size = some (seqObj "list" acc' c') ∧ R acc'.toList s' := fun q s' ⟨h', tk, acc', c', e1, e2, k, at1, ea⟩ => by
    subst e2
    exact ⟨h', tk, rfl, e1, acc', c', at1, by rw [ea]; exact hR { s with heap := h', toks := tk } k (Nat.le_of_lt (Heap.lt_size at1)) rfl rfl⟩
  refine wpAny_mono key (fun f s' x => ?_) fun e s' x => ?_
  · cases f with
    | done f =>
      obtain ⟨h', tk, rfl, e, acc', c', at1, q⟩ := last _ _ x
      cases e
      show wpAny _ A (load s.heap.objs.size >>= _) _ _ _
      exact wpAny_bind (wpAny_load at1 (wpAny_pure q))
    | again c₁ =>
      refine ⟨x.1, codeAny_mono x.2 fun q s₂ y => ?_⟩
      obtain ⟨h', tk, rfl, rfl, acc', c', at1, q⟩ := last _ _ y
      show wpAny _ A (load s.heap.objs.size >>= _) _ _ _
      exact wpAny_bind (wpAny_load at1 (wpAny_pure q))
  · obtain ⟨h', tk, e, q, _⟩ := last _ _ x
    cases q
end
theorem refs_vals : ∀ {l : List Addr} {us : List Value}, Vals (l.map V.ref) us → us = l.map Value.ref
  | [], _, h => by rw [List.map_nil] at h; cases h; rfl
  | a :: l, _, h => by
    rw [List.map_cons] at h
    cases h with
    | cons r t =>
      cases r
      rw [List.map_cons, refs_vals t]
theorem vals_refs : ∀ (l : List Addr), Vals (l.map V.ref) (l.map Value.ref)
  | [] => .nil
  | a :: l => .cons rfl (vals_refs l)
section
variable {X : Cx} {pins : List (Addr × Obj)} {σ : L2.St} {H : Hp} {s : Shared} {a : Addr}
theorem pair2_at (I : Inv X pins σ H s) {p : Addr} {x y : Str} (h : SqT X.K H p [.str x, .str y]) : Pair2 s.heap (.ref p) (x, y) := by
  obtain ⟨its, r, ⟨o, ho, hc, n, hd⟩, _⟩ := I.tuple h
  cases r with
  | cons r1 t => cases t with
    | cons r2 t2 =>
      cases t2
      obtain ⟨t1, rfl⟩ := r1
      obtain ⟨t2, rfl⟩ := r2
      exact ⟨p, o, t1, t2, n, rfl, ho, hc, hd⟩
/-- sorted(xs), xs a list of tuples of two texts -/
def rSortedTT (K : PySem.W.Frag) : List V → Hp → VK → Prop := fun vs H Q => ∃ (a : Addr) (ps : List (Addr × Str × Str)), vs = [V.ref a] ∧ SqL K H a ((ps.map (·.1)).map V.ref) ∧ (∀ p ∈ ps, SqT K H p.1 [.str p.2.1, .str p.2.2]) ∧
  ∀ (qs : List (Addr × Str × Str)) (p : Addr), qs.Perm ps → UpP (qs.map (·.2)) → H p = none → Q (.ref p) (upd H p (.lst ((qs.map (·.1)).map V.ref)))
theorem zip_pairs (ps : List (Addr × Str × Str)) : ((ps.map (·.1)).map Value.ref).zip (ps.map (·.2)) = ps.map fun p => (Value.ref p.1, p.2) := by
  induction ps with
  | nil => rfl
  | cons p ps ih => simp only [List.map_cons, List.zip_cons_cons, ih]
theorem paired_ps {h : Heap} : ∀ {ps : List (Addr × Str × Str)}, (∀ p ∈ ps, Pair2 h (.ref p.1) p.2) → Paired (Pair2 h) ((ps.map (·.1)).map Value.ref) (ps.map (·.2))
  | [], _ => .nil
  | p :: ps, h => .cons (h p List.mem_cons_self) (paired_ps fun q hq => h q (List.mem_cons_of_mem _ hq))
theorem pair2_keep {h h' : Heap} {v : Value} {p : Str × Str} (k : Keeps h h') (x : Pair2 h v p) : Pair2 h' v p := by
  obtain ⟨a, o, t, u, n, e, ho, r⟩ := x
  exact ⟨a, o, t, u, n, e, k _ _ ho, r⟩
theorem paired_keep {h h' : Heap} (k : Keeps h h') {vs : List Value} {ps : List (Str × Str)} (x : Paired (Pair2 h) vs ps) : Paired (Pair2 h') vs ps := L2.Paired.mapP x fun _ _ q => pair2_keep k q
/-- sorted(r), which gathers into the tuples at ps -/
theorem sorted_tt {r : Value} {ps : List (Addr × Str × Str)} {Q : VK} (I : Inv X pins σ H s) (hps : ∀ p ∈ ps, Pair2 s.heap (.ref p.1) p.2) (hL : ps.length ≤ sizeLine)
    (hcol : ∀ (R : List Value → Shared → Prop) (E' : Value → Shared → Prop), (∀ s1, Keeps s.heap s1.heap → s.heap.objs.size ≤ s1.heap.objs.size → s1.gens = s.gens → s1.os = s.os → R ((ps.map (·.1)).map Value.ref) s1) → wpAny (model X.prog X.w) X.A.in1 (collect r) R E' s)
    (hQ : ∀ (qs : List (Addr × Str × Str)) (p : Addr), qs.Perm ps → UpP (qs.map (·.2)) → H p = none → Q (.ref p) (upd H p (.lst ((qs.map (·.1)).map V.ref)))) :
    wpAny (model X.prog X.w) X.A (call (.builtin "sorted") [r]) (EP X pins σ Q) X.xe s := by
  have hl : ((ps.map (·.1)).map Value.ref).length ≤ sizeLine := by simpa using hL
  refine sorted_frame (Good := fun out => ∃ qs : List (Addr × Str × Str), out.toList = (qs.map (·.1)).map Value.ref ∧ qs.Perm ps ∧ UpP (qs.map (·.2))) hl hcol (fun s2 a n A' E' Pf k2 ho hP => ?_) fun s' p out c k g o z hp ⟨qs, h1, h2, h3⟩ => ?_
  · refine list_sort_pairs ho (paired_keep k2 (paired_ps hps)) hl fun out vps h1 h2 h3 => hP out ?_
    rw [zip_pairs] at h2
    obtain ⟨qs, e, pm⟩ := perm_of_map h2
    refine ⟨qs, ?_, pm, ?_⟩
    · rw [h1, e, List.map_map, List.map_map]; rfl
    · rw [e, List.map_map] at h3; exact h3
  · have len : ((qs.map (·.1)).map V.ref).length ≤ sizeLine := by rw [List.length_map, List.length_map, h2.length_eq]; exact hL
    have J := Inv.new_at I (o := .lst ((qs.map (·.1)).map V.ref)) k g o z ⟨len, out.toList, c, by rw [h1]; exact vals_refs _, hp⟩
    exact ⟨.ref p, _, J, rfl, hQ qs p h2 h3 (I.hok.fresh z)⟩
theorem cr_sortedTT : CallR X (.builtin "sorted") (rSortedTT X.K) := by
  intro pins s σ H vs us Q I r h
  obtain ⟨a, ps, rfl, hs, he, q⟩ := h
  rw [Vals.ref1 r]
  obtain ⟨its, rv, pl, hz⟩ := I.list hs
  have e := refs_vals rv
  have hz' : ps.length ≤ sizeLine := by simpa using hz
  refine sorted_tt I (fun p hp => pair2_at I (he p hp)) hz' (fun R E' hR => ?_) q
  have hl : s.heap.IsList a its.toArray := pl.isList
  rw [e] at hl
  exact collect_list hl (hR _ (fun b o e => by rw [Heap.get?_update_other _ _ (Nat.ne_of_gt (Heap.lt_size e))]; exact Heap.get?_push_of_some _ e) (by simp [Heap.size_update, size_push']) rfl rfl)
/-- sorted(d), d a dict whose keys are tuples of two texts -/
def rSortedDT : List V → Hp → VK → Prop := fun vs H Q => ∃ (a : Addr) (kvs : List (List Key × V)) (prs : List (Str × Str)), vs = [V.ref a] ∧ Rd H a (.dT kvs) ∧ kvs.map (·.1) = prs.map (fun p => [.inr p.1, .inr p.2]) ∧
  ∀ (qs : List (Addr × Str × Str)) (p : Addr), (qs.map (·.2)).Perm prs → UpP (qs.map (·.2)) → (∀ q ∈ qs, H q.1 = some (.tup [.str q.2.1, .str q.2.2])) → H p = none → Q (.ref p) (upd H p (.lst ((qs.map (·.1)).map V.ref)))
/-- the tuples that are the keys, told by a dict's table -/
theorem keys_told {H : Hp} : ∀ {kvs : List (List Key × V)} {xs : List (List Key × Addr × Value)} {prs : List (Str × Str)},
    Paired (fun (p : List Key × V) (q : List Key × Addr × Value) => p.1 = q.1 ∧ H q.2.1 = some (.tup (p.1.map kV)) ∧ RelV p.2 q.2.2) kvs xs → kvs.map (·.1) = prs.map (fun p => [.inr p.1, .inr p.2]) →
    ∃ ps : List (Addr × Str × Str), xs.map (fun x => x.2.1) = ps.map (·.1) ∧ ps.map (·.2) = prs ∧ ∀ p ∈ ps, H p.1 = some (.tup [.str p.2.1, .str p.2.2])
  | _, _, prs, .nil, e => by
    cases prs with
    | nil => exact ⟨[], rfl, rfl, fun p h => nomatch h⟩
    | cons _ _ => cases e
  | _, _, prs, .cons r t, e => by
    cases prs with
    | nil => cases e
    | cons pr prs =>
      rw [List.map_cons, List.map_cons] at e
      injection e with e1 e2
      obtain ⟨ps, q1, q2, q3⟩ := keys_told t e2
      obtain ⟨r1, r2, r3⟩ := r
      refine ⟨(_, pr) :: ps, by rw [List.map_cons, List.map_cons, q1], by rw [List.map_cons, q2], fun p hp => ?_⟩
      rcases List.mem_cons.mp hp with z | z
      · rw [z]
        rw [e1] at r2
        exact r2
      · exact q3 p z
theorem cr_sortedDT (hc : X.calm = true) : CallR X (.builtin "sorted") rSortedDT := by
  intro pins s σ H vs us Q I r h
  obtain ⟨a, kvs, prs, rfl, hd, ek, q⟩ := h
  rw [Vals.ref1 r]
  obtain ⟨z, lo, xs, rel, o, es, ep, ho, hx, hdat, hes, nd⟩ := (show ObjOk X.prog X.w H s.heap a (.dT kvs) from rd_of I.hok hd)
  obtain ⟨ps, e1, e2, e3⟩ := keys_told rel ek
  have len : ps.length ≤ sizeLine := by
    have l1 := congrArg List.length e1
    have l2 := PySem.Paired.length rel
    simp only [List.length_map] at l1
    omega
  have raw : s.heap.DictRaw a es ep := ⟨o, ho, hx, hdat⟩
  have sz : es.size = ps.length := by
    have l1 := congrArg List.length e1
    have l3 := congrArg List.length hes
    simp only [List.length_map, Array.length_toList] at l1 l3
    omega
  refine sorted_tt I (fun p hp => pair2_at I (.of (e3 p hp))) len (fun R E' hR => ?_) fun qs p pm up hn => q qs p (by rw [← e2]; exact pm.map _) up (fun w hw => e3 w (pm.mem_iff.mp hw)) hn
  have ea : es.toList.map (·.key) = (ps.map (·.1)).map Value.ref := by
    rw [hes, List.map_map, ← e1, List.map_map]
    rfl
  refine collect_dict lo (I.ok.hd hc) raw (by rw [sz]; exact len) fun s1 k z1 g1 o1 => ?_
  rw [ea]
  exact hR s1 k z1 g1 o1
end
end Q9
end
-- QComp
section
set_option maxRecDepth 100000
set_option maxHeartbeats 4000000
namespace Q9
open PySem PySem.Spec PyProof.Rows L2
/-! ### comprehensions that fill a new thing, whatever it is -/
/-- what is done with a turn's element, as nested wishes: behind it Post -/
abbrev TailW := Env → Value → (Value → Shared → Prop) → (Shared → Prop) → Shared → Prop
abbrev TailR := Addr → L2.St → Hp → (Hp → Prop) → Prop
def tColl (o0 : Addr → HO) (wi : TI) (g : TG) (tt : TT) (tl : TailR) (vs : List Nat) : TE := fun σ H Q => wi σ H fun J H1 => ∀ D, H1 D = none →
  ∃ W : Nat → Nat → Hp → Prop, (∃ m, W 0 m (upd H1 D (o0 D))) ∧ ∀ i m H, W i m H → (J.stop i H ∧ Q (.ref D) H) ∨
    (J.go i H ∧ ∃ Nx : Hp → Prop, (∀ H', Nx H' → ∃ m', m' < m ∧ W (i + 1) m' H') ∧ ∀ x H', J.yld i H x H' → g x (wipe σ vs) H' fun σ2 H2 => wipe σ2 vs = wipe σ vs ∧ tt σ2 H2 fun b H3 => if b = true then tl D σ2 H3 Nx else Nx H3)
/-- a kind of comprehension: its syntax, the new thing, its loop -/
structure CompKind (P : Program) (w : World) (A : Around) (cx tg iter : Expr) (ifs : List Expr) (scope : Scope) (pos : Pos) (newAcc : Sem Value) (ob : Obj) (tailW : TailW) : Prop where
  ev : ∀ env, eval cx env = comprehension cx scope env (firstIterPos [⟨tg, iter, ifs, 0⟩] pos) newAcc (firstAsync [⟨tg, iter, ifs, 0⟩]) (firstIter [⟨tg, iter, ifs, 0⟩] env)
  cls : clausesOf cx = [⟨tg, iter, ifs, 0⟩]
  new : ∀ {E Q : Value → Shared → Prop} {s : Shared}, Q (.ref s.heap.objs.size) { s with heap := s.heap.push ob } → wpAny (model P w) A newAcc Q E s
  start : ∀ {R : Result → Shared → Prop} {s : Shared} {env : Env} {it : Value} {D : Addr}, codeAny (model P w) A (.compLoop cx 0 it (.ref D) env) R s →
    wpAny (model P w) A (pyIter it) (fun it' s' => codeAny (model P w) A (.compLoop cx 0 it' (.ref D) env) R s') (notedBy (model P w) A env fun x s' => R (.error x) s') s → codeAny (model P w) A (.compStart cx 0 it (.ref D) env) R s
  loop : ∀ {R : Result → Shared → Prop} {env : Env} {it : Value} {D : Addr} (I : Nat → Shared → Prop),
    (∀ n s, I n s → wpAny (model P w) A (pyNext it) (fun r s₁ => match r with
      | none => R (.ok .next) s₁
      | some v => wpAny (model P w) A (letOwnedTupleGo tg it v) (fun _ s₁' => wpAny (model P w) A (assign tg env v) (fun _ s₂ =>
          wpAny (model P w) A (forIn ifs true fun c r => if r = true then do let ok ← isTrue c env (eval c env); pure (ForInStep.yield ok) else pure (ForInStep.yield r)) (fun ok s₃ =>
            if ok = true then tailW env (.ref D) (notedBy (model P w) A env fun e s' => R (.error e) s') (fun s' => ∃ m, m < n ∧ I m s') s₃
            else ∃ m, m < n ∧ I m s₃) (notedBy (model P w) A env fun e s' => R (.error e) s') s₂) (notedBy (model P w) A env fun e s' => R (.error e) s') s₁') (notedBy (model P w) A env fun e s' => R (.error e) s') s₁) (notedBy (model P w) A env fun e s' => R (.error e) s') s) →
    ∀ n s, I n s → codeAny (model P w) A (.compLoop cx 0 it (.ref D) env) R s
section
variable {X : Cx} {cx tg iter : Expr} {ifs : List Expr} {scope : Scope} {pos : Pos} {newAcc : Sem Value} {ob : Obj} {tailW : TailW} {own : List (PySem.Str × Nat)} {wi : TI} {g : TG} {tt : TT} {tl : TailR} {o0 : Addr → HO}
theorem pe_coll (ck : CompKind X.prog X.w X.A cx tg iter ifs scope pos newAcc ob tailW) (hc : X.calm = true) (hN : X.N.Nodup) (hi : PI X tg iter wi) (ok : BlkOk X.N X.env.scope scope own)
    (h0 : ∀ (H : Hp) (h : Heap), sysModules < h.objs.size → ObjOk X.prog X.w H (h.push ob) h.objs.size (o0 h.objs.size))
    (hg : ∀ (s : Shared) (H : Hp) (C : Addr) (cl : List (PySem.Str × Addr)) (fp : List Addr), PG (X.blk s H scope (compEnvC scope cl C X.env) fp) tg g)
    (ht : ∀ (s : Shared) (H : Hp) (C : Addr) (cl : List (PySem.Str × Addr)) (fp : List Addr), PTs (X.blk s H scope (compEnvC scope cl C X.env) fp) ifs tt)
    (hl : ∀ (s : Shared) (H : Hp) (C : Addr) (cl : List (PySem.Str × Addr)) (fp : List Addr) (pins : List (Addr × Obj)) (s1 : Shared) (σ1 : L2.St) (H1 : Hp) (D : Addr) (Nx : Hp → Prop) (E : Value → Shared → Prop),
      Inv (X.blk s H scope (compEnvC scope cl C X.env) fp) pins σ1 H1 s1 → tl D σ1 H1 Nx → tailW (compEnvC scope cl C X.env) (.ref D) E (fun s' => ∃ H', Inv (X.blk s H scope (compEnvC scope cl C X.env) fp) pins σ1 H' s' ∧ Nx H') s1)
    (mono : ∀ {env acc E Q Q' s}, tailW env acc E Q s → (∀ s', Q s' → Q' s') → tailW env acc E Q' s)
    (hs : ∀ x, foldedSetIterable iter X.env x = pure x := by intro _; rfl) :
    PE X cx (tColl o0 wi g tt tl (own.map (·.2))) := by
  refine ⟨fun pins s σ H Q I h => ?_⟩
  rw [ck.ev]
  have frees : ∀ y ∈ scope.names, y.2 = .free → ∃ c, X.env.cells.lookup y.1 = some c := fun y hy e => (ok.free y hy e).elim (fun k => I.ok.has _ (.inl k)) fun k => I.ok.has _ (.inr k)
  refine wpAny_comprehension_free (use := none) ck.cls hs (closure_ok frees) ok.kind (fun y hy e => by rw [ok.uniq y hy, e]) ?_
  show wpAny _ _ (eval iter X.env) _ _ s
  refine thn (hi.run pins s σ H _ I h) fun xv s1 hx => thn hx fun itv s2 ⟨it, fp, tn, J, H2, e, I2, T, st2, f2, q⟩ => ?_
  subst e
  refine ck.new (newEnv_comp ?_)
  -- the new thing at D
  generalize eD : s2.heap.objs.size = D
  have freeD : H2 D = none := I2.hok.fresh (Nat.le_of_eq eD)
  obtain ⟨W, ⟨m0, w0⟩, turn⟩ := q D freeD
  generalize e3 : ({ s2 with heap := s2.heap.push ob } : Shared) = s3
  have heap3 : s3.heap = s2.heap.push ob := by rw [← e3]
  have I3 : Inv X pins σ (upd H2 D (o0 D)) s3 := by
    rw [← e3]
    refine I2.laid (t' := s2.toks) (fun b o e => Heap.get?_push_of_some _ e) (Nat.le_of_eq eD) ?_
    rw [← eD]
    exact h0 _ s2.heap I2.big
  have small : ∀ b ∈ fp, b < s2.heap.objs.size := fun b hb => let ⟨o, e, _⟩ := T.obj _ _ st2 b hb; Heap.lt_size e
  have fps : ∀ b ∈ fp, FpOk X pins (upd H2 D (o0 D)) b ∧ b < s3.heap.objs.size := fun b hb => by
    refine ⟨⟨?_, (f2 b hb).2⟩, by rw [heap3, Heap.size_push]; exact Nat.lt_succ_of_lt (small b hb)⟩
    rw [upd_ne (by rw [← eD]; exact Nat.ne_of_lt (small b hb))]
    exact (f2 b hb).1
  have st3 : tn 0 s3.heap := T.keep _ _ _ st2 fun b _ o e => by rw [heap3]; exact Heap.get?_push_of_some _ e
  -- the block's frame
  have I4 := block_start I3 ok hN fps
  generalize ecl : cellsFrom (s3.heap.objs.size + 1) scope.names (cloFrom X.env.cells scope.names []) = cl at I4
  have pg := hg s3 (upd H2 D (o0 D)) s3.heap.objs.size cl fp
  have pt := ht s3 (upd H2 D (o0 D)) s3.heap.objs.size cl fp
  have pl := fun (pins' : List (Addr × Obj)) s1 σ1 H1 D' Nx E => hl s3 (upd H2 D (o0 D)) s3.heap.objs.size cl fp pins' s1 σ1 H1 D' Nx E
  have sh : ∀ env' s', env' = compEnvC scope cl s3.heap.objs.size X.env → s' = ({ s3 with heap := pushCells (s3.heap.push { cls := .type "dict", data := .dict #[] }) scope.names } : Shared) →
      codeAny (model X.prog X.w) X.A (.compStart cx 0 (.ref it) (.ref D) env') (compPost (model X.prog X.w) X.A X.xe none (EP X pins σ Q) (.ref D) s3.heap.objs.size) s' := fun env' s' ee es => by
    rw [← ee] at I4 pg pt pl
    have eL : env'.locals = s3.heap.objs.size := by rw [ee]; rfl
    have nfp : ∀ b ∈ fp, (upd H2 D (o0 D)) b = none := fun b hb => (fps b hb).1.1
    rw [← es] at I4
    have st4 : tn 0 s'.heap := T.keep _ _ _ st3 fun b _ o e => by rw [es]; exact pushCells_keeps _ _ _ _ (Heap.get?_push_of_some _ e)
    have stat : ∀ {σ' : L2.St} {H' : Hp} {t : Shared}, Inv (X.blk s3 (upd H2 D (o0 D)) scope env' fp) [] σ' H' t → (∀ b ∈ fp, H' b = none) → ∀ b ∈ fp, FpOk (X.blk s3 (upd H2 D (o0 D)) scope env' fp) [] H' b := fun {σ' H' t} I' hn b hb =>
      ⟨hn b hb, (I'.ok.exf b hb).1, I'.ok.exfs b hb, .inl hb, fun x c e => (I'.ok.exf b hb).2 x c e, fun p hp => nomatch (show p ∈ ([] : List (Addr × Obj)) from hp)⟩
    have lp : codeAny (model X.prog X.w) X.A (.compLoop cx 0 (.ref it) (.ref D) env') (compPost (model X.prog X.w) X.A X.xe none (EP X pins σ Q) (.ref D) s3.heap.objs.size) s' := by
      refine ck.loop (fun n t => ∃ i H', Inv (X.blk s3 (upd H2 D (o0 D)) scope env' fp) [] (wipe σ (own.map (·.2))) H' t ∧ tn i t.heap ∧ (∀ b ∈ fp, H' b = none) ∧ W i n H') ?_ m0 s' ⟨0, _, I4, st4, nfp, w0⟩
      rintro n s5 ⟨i, H5, I5, st5, n5, w5⟩
      rcases turn i n H5 w5 with ⟨stop, qq⟩ | ⟨go, Nx, less, step⟩
      · refine thnF (T.done (X.blk s3 (upd H2 D (o0 D)) scope env' fp) rfl rfl rfl hc i [] s5 _ H5 (fun _ _ => False) I5 (stat I5 n5) st5 stop) fun r s6 ⟨er, I6⟩ => ?_
        subst er
        have I7 : Inv X pins σ H5 s6 := I3.call' (ch := fp) I6.os I6.base I6.hok I6.bare fun b hb => let z := (fps b hb).1.2; ⟨z.2.2.1, z.1, z.2.2.2.1, z.2.2.2.2⟩
        have nC : H5 s3.heap.objs.size = none := by have z : H5 env'.locals = none := I6.free; rwa [eL] at z
        obtain ⟨m, hn, _⟩ := I6.loc
        have hn : s6.heap.Ns env'.locals m := hn
        rw [eL] at hn
        refine ⟨m, hn, fun h'' sb => ?_⟩
        obtain ⟨f0, f1, f2, f3, f4, f5⟩ := I3.fpOk (b := s3.heap.objs.size) (H' := H5) (Nat.le_refl _) nC
        exact ⟨.ref D, H5, I7.turned (t' := s6.toks) (fun b o hb e => (sb.2 b hb).trans e) f0 f1 f3 f4 f5, rfl, qq⟩
      · refine thnF (T.item (X.blk s3 (upd H2 D (o0 D)) scope env' fp) rfl rfl rfl hc i [] s5 _ H5 (fun _ _ => False) I5 (stat I5 n5) st5 go) fun r s6 ⟨u, er, h6⟩ => ?_
        subst er
        refine thnF h6 fun _ s7 ⟨x, H7, I7, r7, y7, st7, n7⟩ => ?_
        refine thnF (pg.run _ s7 _ H7 x u _ (I7.pinned (stat I7 n7) (T.obj _ _ st7)) r7 (step x H7 y7)) fun _ s8 ⟨σ8, H8, I8, hw8, q8⟩ => ?_
        refine thnF (pt.run _ s8 σ8 H8 _ I8 q8) fun b s9 ⟨H9, I9, q9⟩ => ?_
        have fin : ∀ {t : Shared} {H' : Hp}, Inv (X.blk s3 (upd H2 D (o0 D)) scope env' fp) ([] ++ pinsAt fp s7.heap) σ8 H' t → Nx H' →
            ∃ m, m < n ∧ ∃ i H', Inv (X.blk s3 (upd H2 D (o0 D)) scope env' fp) [] (wipe σ (own.map (·.2))) H' t ∧ tn i t.heap ∧ (∀ b ∈ fp, H' b = none) ∧ W i m H' := fun {t H'} I' nx => by
          obtain ⟨m', hm, w'⟩ := less H' nx
          have pin' : ∀ b ∈ fp, ∀ o, s7.heap.get? b = some o → t.heap.get? b = some o ∧ H' b = none := fun b hb o e =>
            let z := I'.pin (b, o) (List.mem_append_right _ (List.mem_append_right _ (mem_pinsAt hb e))); ⟨z.1, z.2.1⟩
          have len : (wipe σ (own.map (·.2))).length = σ8.length := by rw [← hw8, wipe_length]
          refine ⟨m', hm, i + 1, H', (I'.unpinned (pins := [])).weak len (fun j v e => ?_), T.keep _ _ _ st7 fun b hb o e => (pin' b hb o e).1, fun b hb => ?_, w'⟩
          · rw [← hw8] at e
            exact (wipe_some e).1
          · obtain ⟨o, e, _⟩ := T.obj _ _ st7 b hb
            exact (pin' b hb o e).2
        cases b with
        | false =>
          simp only [Bool.false_eq_true, if_false] at q9 ⊢
          exact fin I9 q9
        | true =>
          simp only [if_true] at q9 ⊢
          exact mono (pl _ s9 σ8 H9 D Nx _ I9 q9) fun t ⟨H', I', nx⟩ => fin I' nx
    exact ck.start lp (T.self X.A 0 _ _ _ st4 lp)
  exact sh _ _ (by rw [← ecl]; rfl) rfl
end
end Q9
end
-- QComp2
section
set_option maxRecDepth 100000
set_option maxHeartbeats 4000000
namespace Q9
open PySem PySem.Spec PyProof.Rows L2
/-! ### {e for .. in ..}, a set of keys -/
abbrev tailSet (P : Program) (w : World) (A : Around) (elt : Expr) : TailW := fun env acc E Q s => wpAny (model P w) A (eval elt env) (fun x s4 => wpAny (model P w) A (call (.builtin "set.add") [acc, x]) (fun _ s5 => Q s5) E s4) E s
section
variable {P : Program} {w : World} {A : Around} {E : Value → Shared → Prop} {s : Shared} {K : Type} [DecidableEq K] {knd : KeyKind P w K}
/-- found.add(k) -/
theorem rset_call_add {a : Addr} {ks : List K} {k : K} {x : Value} {Q : Value → Shared → Prop} (R : RSet knd s.heap a ks) (hk : knd.is k x = true) (hsc : x.scannable = true) (room : ks.length + 1 < scanBound)
    (hQ : ∀ h' ks', Heap.SameBut a s.heap h' → Added k ks ks' → RSet knd h' a ks' → Q .none { s with heap := h', toks := s.toks + 1 }) : wpAny (model P w) A (call (.builtin "set.add") [.ref a, x]) Q E s := by
  refine wpAny_call_entry F.slot_set_add R.setOf.typeIs F.entry_set_add ?_ (F.args_set_add_2 _ _)
  unfold Builtin.«set.add» Builtin.Frozenset.oneOther
  simp only [List.isEmpty_nil, bind_assoc]
  unfold Builtin.Frozenset.addrOf setAdd
  refine wpAny_bind (wpAny_pure ?_)
  try dsimp only
  refine wpAny_bind (wpAny_pure ?_)
  try dsimp only
  refine wpAny_bind (wpAny_holding (wpAny_bind (knd.pyHash hk ?_)))
  refine rset_add (s := { s with toks := s.toks + 1 }) R hk hsc room fun b h' ks' sb ad RS => ?_
  show wpAny _ _ (ret Value.none) _ _ _
  exact wpAny_pure ⟨_, rfl, hQ h' ks' sb ad RS⟩
end
theorem kind_set {P : Program} {w : World} {A : Around} {elt tg iter : Expr} {ifs : List Expr} {scope : Scope} {pos : Pos} : CompKind P w A (.SetComp elt [⟨tg, iter, ifs, 0⟩] scope pos) tg iter ifs scope pos (newSet (.type "set")) (emptySet w) (tailSet P w A elt) where
  ev := fun env => PpSet.eval_SetComp elt _ scope pos
  cls := rfl
  new := fun q => PpSet.newSet_ok q
  start := fun h0 h => PpSet.codeAny_compStart_set h0 h
  loop := fun I turn n s h => PpSet.compLoopS_any I turn n h
section
variable {X : Cx} {elt tg iter : Expr} {ifs : List Expr} {scope : Scope} {pos : Pos} {own : List (PySem.Str × Nat)} {wi : TI} {g : TG} {tt : TT} {te : TE}
def rAddK (P : Program) (w : World) (te : TE) : TailR := fun D σ H Nx => te σ H fun y H4 => ∃ (k : Key) (ks : List Key), y = kV k ∧ H4 D = some (SetKs P w D ks) ∧ ks.length + 1 < scanBound ∧ ∀ ks', Added k ks ks' → Nx (upd H4 D (SetKs P w D ks'))
/-- found.add(k), over the layer -/
theorem add_ks {pins : List (Addr × Obj)} {σ : L2.St} {H : Hp} {s : Shared} {D : Addr} {k : Key} {ks : List Key} {u : Value} {Q : Value → Shared → Prop} {E : Value → Shared → Prop} {A : Around} (I : Inv X pins σ H s) (ha : H D = some (SetKs X.prog X.w D ks)) (ru : RelV (kV k) u) (room : ks.length + 1 < scanBound)
    (hQ : ∀ s' ks', Added k ks ks' → Inv X pins σ (upd H D (SetKs X.prog X.w D ks')) s' → Q .none s') : wpAny (model X.prog X.w) A (call (.builtin "set.add") [.ref D, u]) Q E s := by
  refine rset_call_add (setKs_get I ha) (kV_is ru) (key_scannable ru) room fun h' ks' sb ad RS => hQ _ ks' ad ?_
  have he : ∃ q, h'.get? D = some q := let ⟨o, _, _, _, ho, _⟩ := RS; ⟨o, ho⟩
  exact I.write (e := D) (t' := s.toks + 1) (by rw [ha]; trivial) (.inl rfl) (fun b u hb hu => (sb.2 b hb).trans hu) he (setKs_ok RS)
theorem pe_scK (hc : X.calm = true) (hN : X.N.Nodup) (hi : PI X tg iter wi) (ok : BlkOk X.N X.env.scope scope own)
    (hg : ∀ (s : Shared) (H : Hp) (C : Addr) (cl : List (PySem.Str × Addr)) (fp : List Addr), PG (X.blk s H scope (compEnvC scope cl C X.env) fp) tg g)
    (ht : ∀ (s : Shared) (H : Hp) (C : Addr) (cl : List (PySem.Str × Addr)) (fp : List Addr), PTs (X.blk s H scope (compEnvC scope cl C X.env) fp) ifs tt)
    (he : ∀ (s : Shared) (H : Hp) (C : Addr) (cl : List (PySem.Str × Addr)) (fp : List Addr), PE (X.blk s H scope (compEnvC scope cl C X.env) fp) elt te)
    (hs : ∀ x, foldedSetIterable iter X.env x = pure x := by intro _; rfl) :
    PE X (.SetComp elt [⟨tg, iter, ifs, 0⟩] scope pos) (tColl (fun D => SetKs X.prog X.w D []) wi g tt (rAddK X.prog X.w te) (own.map (·.2))) := by
  refine pe_coll kind_set hc hN hi ok (fun H h _ => setKs_ok (rset_fresh (Heap.get?_push_size _ rfl))) hg ht ?_ ?_ hs
  · intro s H C cl fp pins s1 σ1 H1 D Nx E I h
    refine thnF ((he s H C cl fp).run pins s1 σ1 H1 _ I h) fun u s2 ⟨y, H2, I2, r2, k, ks, ey, hD, room, nx⟩ => ?_
    subst ey
    exact add_ks (X := X.blk s H scope (compEnvC scope cl C X.env) fp) I2 hD r2 room fun s' ks' ad I3 => ⟨_, I3, nx ks' ad⟩
  · intro env acc E Q Q' s h m
    exact thn h fun x s4 h4 => thn h4 fun _ s5 q => m s5 q
end
/-! ### {k: v for .. in ..}, the keys tuples -/
abbrev tailDict (P : Program) (w : World) (A : Around) (kx vx : Expr) : TailW := fun env acc E Q s => wpAny (model P w) A (eval kx env) (fun kv s4 => wpAny (model P w) A (eval vx env) (fun vv s5 =>
  wpAny (model P w) A (dictSet (match acc with | .ref D => D | _ => 0) kv vv) (fun _ s6 => Q s6) E s5) E s4) E s
theorem kind_dict {P : Program} {w : World} {A : Around} {kx vx tg iter : Expr} {ifs : List Expr} {scope : Scope} {pos : Pos} : CompKind P w A (.DictComp kx vx [⟨tg, iter, ifs, 0⟩] scope pos) tg iter ifs scope pos newDict { cls := .type "dict", data := .dict #[] } (tailDict P w A kx vx) where
  ev := fun env => arm_eval_DictComp kx vx _ scope pos env
  cls := rfl
  new := fun q => wpAny_newObj_type q
  start := fun h0 h => codeAny_compStart_dict h0 h
  loop := fun I turn n s h => compLoop_anyD I turn n h
section
variable {X : Cx} {kx vx tg iter : Expr} {ifs : List Expr} {scope : Scope} {pos : Pos} {own : List (PySem.Str × Nat)} {wi : TI} {g : TG} {tt : TT} {tk tv : TE}
/-- D[k] = v within a comprehension, D's keys tuples -/
theorem dictSet_t {pins : List (Addr × Obj)} {σ : L2.St} {H : Hp} {s : Shared} {D b : Addr} {k : List Key} {v : V} {kvs : List (List Key × V)} {r : Value} {Q : Unit → Shared → Prop} {E : Value → Shared → Prop} {A : Around} (hu : A.units < cLine) (I : Inv X pins σ H s)
    (e : H D = some (.dT kvs)) (eb : H b = some (.tup (k.map kV))) (l : kvs.length < sizeLine) (rv : RelV v r) (hQ : ∀ s', Inv X pins σ (upd H D (.dT (putK kvs k v))) s' → Q () s') : wpAny (model X.prog X.w) A (dictSet D (.ref b) r) Q E s := by
  obtain ⟨z, hd, xs, rel, dd⟩ := dt_of I.hok e
  have hz : xs.length ≤ sizeLine := by rw [← PySem.Paired.length rel]; exact z
  have hl : (putK kvs k v).length ≤ sizeLine := by have := length_putK kvs k v; omega
  refine wpAny_dictSet_heap (hsz := hz) (show (tupleKind (mixKind X.prog X.w)).room A from hu) (key_of I.hok eb) dd fun h' dd' hs => hQ _ ?_
  obtain ⟨q, es, ep, hq, h2, h3, h4, _, h5⟩ := dd'
  refine d_write I (by rw [e]; exact True.intro) hs ⟨q, hq⟩ ⟨hl, hd, _, (rel.put k eb rv).keeps fun c ys ec => ?_, q, es, ep, hq, h2, h3, h4, h5⟩
  rw [upd_ne (ne_of ec e (fun z => nomatch z))]
  exact ec
def rPutT (tk tv : TE) : TailR := fun D σ H Nx => tk σ H fun y H4 => tv σ H4 fun v H5 => ∃ (b : Addr) (k : List Key) (kvs : List (List Key × V)), y = .ref b ∧ H5 b = some (.tup (k.map kV)) ∧ H5 D = some (.dT kvs) ∧ kvs.length < sizeLine ∧ Nx (upd H5 D (.dT (putK kvs k v)))
theorem pe_dcT (hu : X.A.units < cLine) (hc : X.calm = true) (hN : X.N.Nodup) (hi : PI X tg iter wi) (ok : BlkOk X.N X.env.scope scope own)
    (hg : ∀ (s : Shared) (H : Hp) (C : Addr) (cl : List (PySem.Str × Addr)) (fp : List Addr), PG (X.blk s H scope (compEnvC scope cl C X.env) fp) tg g)
    (ht : ∀ (s : Shared) (H : Hp) (C : Addr) (cl : List (PySem.Str × Addr)) (fp : List Addr), PTs (X.blk s H scope (compEnvC scope cl C X.env) fp) ifs tt)
    (hk : ∀ (s : Shared) (H : Hp) (C : Addr) (cl : List (PySem.Str × Addr)) (fp : List Addr), PE (X.blk s H scope (compEnvC scope cl C X.env) fp) kx tk)
    (he : ∀ (s : Shared) (H : Hp) (C : Addr) (cl : List (PySem.Str × Addr)) (fp : List Addr), PE (X.blk s H scope (compEnvC scope cl C X.env) fp) vx tv)
    (hs : ∀ x, foldedSetIterable iter X.env x = pure x := by intro _; rfl) :
    PE X (.DictComp kx vx [⟨tg, iter, ifs, 0⟩] scope pos) (tColl (fun _ => .dT []) wi g tt (rPutT tk tv) (own.map (·.2))) := by
  refine pe_coll kind_dict hc hN hi ok (fun H h hb => dt_empty h hb) hg ht ?_ ?_ hs
  · intro s H C cl fp pins s1 σ1 H1 D Nx E I h
    refine thnF ((hk s H C cl fp).run pins s1 σ1 H1 _ I h) fun u s2 ⟨y, H2, I2, r2, h2⟩ => ?_
    refine thnF ((he s H C cl fp).run pins s2 σ1 H2 _ I2 h2) fun r s3 ⟨v, H3, I3, r3, b, k, kvs, ey, eb, eD, lz, nx⟩ => ?_
    subst ey
    cases r2
    exact dictSet_t (X := X.blk s H scope (compEnvC scope cl C X.env) fp) hu I3 eD eb lz r3 fun s' I' => ⟨_, I', nx⟩
  · intro env acc E Q Q' s h m
    exact thn h fun x s4 h4 => thn h4 fun y s5 h5 => thn h5 fun _ s6 q => m s6 q
end
/-- over a walk, whatever is filled -/
theorem coll_it {J : It} {n : Nat} {G : Hp → Prop} {Y : Nat → Hp → V → Hp → Prop} (w : Walk J n G Y) {o0 : HO} {g : TG} {tt : TT} {tl : TailR} {vs : List Nat} {σ : L2.St} {H1 : Hp} {D : Addr} {Qd : Hp → Prop} (Pv : Nat → Hp → Prop)
    (h0 : Pv 0 (upd H1 D o0)) (hG : ∀ i H, i ≤ n → Pv i H → G H)
    (hs : ∀ i x H H', i < n → Pv i H → Y i H x H' → g x (wipe σ vs) H' fun σ2 H2 => wipe σ2 vs = wipe σ vs ∧ tt σ2 H2 fun b H3 => if b = true then tl D σ2 H3 (Pv (i + 1)) else Pv (i + 1) H3) (hd : ∀ H, Pv n H → Qd H) :
    ∃ W : Nat → Nat → Hp → Prop, (∃ m, W 0 m (upd H1 D o0)) ∧ ∀ i m H, W i m H → (J.stop i H ∧ Qd H) ∨
      (J.go i H ∧ ∃ Nx : Hp → Prop, (∀ H', Nx H' → ∃ m', m' < m ∧ W (i + 1) m' H') ∧ ∀ x H', J.yld i H x H' → g x (wipe σ vs) H' fun σ2 H2 => wipe σ2 vs = wipe σ vs ∧ tt σ2 H2 fun b H3 => if b = true then tl D σ2 H3 Nx else Nx H3) := by
  refine ⟨fun i m H => m + i = n ∧ Pv i H, ⟨n, rfl, h0⟩, ?_⟩
  rintro i m H ⟨e, p⟩
  have q := hG i H (by omega) p
  cases m with
  | zero =>
    obtain rfl : i = n := by omega
    exact .inl ⟨w.stops H q, hd H p⟩
  | succ m =>
    have lt : i < n := by omega
    exact .inr ⟨w.goes i H lt q, Pv (i + 1), fun H' p' => ⟨m, Nat.lt_succ_self _, by omega, p'⟩, fun x H' y => hs i x H H' lt p (w.yields i H x H' lt q y)⟩
end Q9
end
-- QTupSet
section
set_option maxRecDepth 100000
set_option maxHeartbeats 4000000
namespace Q9
open PySem PySem.Spec PyProof.Rows L2
/-! ### sets of tuples of keys (ints, texts): members, number; the order is left open -/
section
variable {P : Program} {w : World} {K : Type} [DecidableEq K] {knd : KeyKind P w K} {A : Around} {E : Value → Shared → Prop} {s : Shared}
abbrev tkh (knd : KeyKind P w K) (k : List K) : Int := tupleKeyHash knd k
/-- items whose kind is told without the heap -/
def Flat8 (knd : KeyKind P w K) : Prop := ∀ (k : K) (v : Value) (n : Nat), knd.is k v = true → (∃ b, hashByValue n v = pure b) ∧ ofAClassStatement n v = pure false
theorem items_each {k : List K} {vs : List Value} (h : ItemsAre knd k vs) : ∀ v ∈ vs, ∃ i, knd.is i v = true := by
  induction h with
  | nil => intro v hv; cases hv
  | cons h1 _ ih =>
    intro v hv
    rcases List.mem_cons.mp hv with e | hv
    · exact ⟨_, e ▸ h1⟩
    · exact ih v hv
theorem noClass {k : List K} {b : Addr} {Q : Bool → Shared → Prop} (fl : Flat8 knd) (hk : IsTupleKey knd s.heap k b) (h : Q false s) : wpAny (model P w) A (ofAClassStatement 8 (.ref b)) Q E s := by
  have hT := hk.typeIs
  obtain ⟨o, items, n, ho, _, hd, hi⟩ := hk
  unfold ofAClassStatement
  refine wpAny_bind (wpAny_typeOf hT ?_)
  dsimp only
  have e : (("tuple" : String) == "tuple") = true := by decide
  simp only [e, if_true, Bool.not_true, Bool.false_eq_true, if_false]
  try refine wpAny_bind (wpAny_pure ?_)
  try simp only [Bool.not_true, Bool.false_eq_true, if_false]
  show wpAny _ _ (seqItems? (.ref b) >>= _) _ _ s
  refine wpAny_bind (wpAny_seqItems ho hd ?_)
  dsimp only
  refine wpAny_bind ?_
  show wpAny _ _ (forIn items _ _) _ _ s
  rw [← Array.forIn_toList]
  refine wpAny_forIn_list _ (fun rest r s' => r.1 = none ∧ s' = s ∧ ∀ v ∈ rest, v ∈ items.toList) _ ?_ ?_ _ _ ⟨rfl, rfl, fun _ z => z⟩
  · rintro v rest r s' ⟨hr, rfl, hall⟩
    obtain ⟨i, hv⟩ := items_each hi v (hall v List.mem_cons_self)
    rw [(fl i v 7 hv).2]
    refine wpAny_bind (wpAny_pure ?_)
    simp only [Bool.false_eq_true, if_false]
    exact wpAny_pure ⟨rfl, rfl, fun u hu => hall u (List.mem_cons_of_mem _ hu)⟩
  · rintro ⟨r1, r2⟩ s' ⟨hr, rfl, _⟩
    simp only at hr
    subst hr
    exact wpAny_pure h
theorem someHash {k : List K} {b : Addr} {Q : Bool → Shared → Prop} (fl : Flat8 knd) (hk : IsTupleKey knd s.heap k b) (h : ∀ c, Q c s) : wpAny (model P w) A (hashByValue 8 (.ref b)) Q E s := by
  have hT := hk.typeIs
  obtain ⟨o, items, n, ho, _, hd, hi⟩ := hk
  unfold hashByValue
  refine wpAny_bind (wpAny_specialOf hT F.slot_tuple_hash.lookup ?_)
  show wpAny _ _ (seqItems? (.ref b) >>= _) _ _ s
  refine wpAny_bind (wpAny_seqItems ho hd ?_)
  refine wpAny_bind ?_
  show wpAny _ _ (forIn items _ _) _ _ s
  rw [← Array.forIn_toList]
  refine wpAny_forIn_list _ (fun rest r s' => r.1 = none ∧ s' = s ∧ ∀ v ∈ rest, v ∈ items.toList) _ ?_ ?_ _ _ ⟨rfl, rfl, fun _ z => z⟩
  · rintro v rest r s' ⟨hr, rfl, hall⟩
    obtain ⟨i, hv⟩ := items_each hi v (hall v List.mem_cons_self)
    obtain ⟨c, ec⟩ := (fl i v 7 hv).1
    rw [ec]
    refine wpAny_bind (wpAny_pure ?_)
    cases c with
    | true =>
      simp only [Bool.not_true, Bool.false_eq_true, if_false]
      exact wpAny_pure ⟨rfl, rfl, fun u hu => hall u (List.mem_cons_of_mem _ hu)⟩
    | false =>
      simp only [Bool.not_false, if_true]
      exact wpAny_pure (wpAny_pure (h _))
  · rintro ⟨r1, r2⟩ s' ⟨hr, rfl, _⟩
    simp only at hr
    subst hr
    exact wpAny_pure (h _)
theorem noShow {k : List K} {b : Addr} {Q : Bool → Shared → Prop} (fl : Flat8 knd) (hk : IsTupleKey knd s.heap k b) {ys : List Value} (hy : ∀ y ∈ ys, ∃ k' c, y = Value.ref c ∧ IsTupleKey knd s.heap k' c) (h : Q false s) :
    wpAny (model P w) A (searchCouldBeSeen (.ref b) ys) Q E s := by
  unfold searchCouldBeSeen
  refine wpAny_bind ?_
  refine wpAny_forIn_list _ (fun rest r s' => r.1 = none ∧ s' = s ∧ ∀ y ∈ rest, ∃ k' c, y = Value.ref c ∧ IsTupleKey knd s.heap k' c) _ ?_ ?_ _ _ ⟨rfl, rfl, hy⟩
  · rintro v rest r s' ⟨hr, rfl, hall⟩
    obtain ⟨k', c, rfl, hc⟩ := hall v List.mem_cons_self
    have tl : ∀ y ∈ rest, ∃ k' c, y = Value.ref c ∧ IsTupleKey knd s'.heap k' c := fun u hu => hall u (List.mem_cons_of_mem _ hu)
    dsimp only
    by_cases hv : (b == c || (carriedByValue (.ref b) && carriedByValue (.ref c))) = true
    · exact wp_if_pos hv (wpAny_pure ⟨rfl, rfl, tl⟩)
    · refine wp_if_neg hv (wpAny_bind (wpAny_eqIsQuiet_tuple hk ?_))
      simp only [Bool.not_true, Bool.false_eq_true, if_false]
      refine wpAny_bind (wpAny_eqIsQuiet_tuple hc ?_)
      simp only [Bool.not_true, Bool.false_eq_true, if_false]
      refine wpAny_bind (noClass fl hk ?_)
      simp only [Bool.false_eq_true, if_false]
      refine wpAny_bind (noClass fl hc ?_)
      simp only [Bool.false_eq_true, if_false]
      exact wpAny_pure ⟨rfl, rfl, tl⟩
  · rintro ⟨r1, r2⟩ s' ⟨hr, rfl, _⟩
    simp only at hr
    subst hr
    exact wpAny_pure h
/-! ### such a set -/
abbrev Mem (K : Type) := List (Addr × List K)
def rowsT (knd : KeyKind P w K) (L : Mem K) : List (Int × Value) := L.map fun p => (tkh knd p.2, Value.ref p.1)
def hashesT (knd : KeyKind P w K) (L : Mem K) : List Int := L.map fun p => tkh knd p.2
structure TSet (knd : KeyKind P w K) (h : Heap) (a : Addr) (L : Mem K) (es : Array (Int × Value)) (ep : Nat) (t : SetTable) : Prop where
  ob : ∃ o, h.get? a = some o ∧ o.ExactSet ∧ o.data = .set es ep t
  rows : es.toList = rowsT knd L
  tab : TabOk t (hashesT knd L)
  nd : (L.map (·.2)).Nodup
  tup : ∀ p ∈ L, IsTupleKey knd h p.2 p.1
  room : L.length * 5 < t.mask * 3
  few : L.length < 64
variable {a : Addr} {L : Mem K} {es : Array (Int × Value)} {ep : Nat} {t : SetTable}
theorem rows_size {L : Mem K} {es : Array (Int × Value)} (r : es.toList = rowsT knd L) : es.size = L.length := by
  rw [← Array.length_toList, r, rowsT, List.length_map]
theorem rows_at {L : Mem K} {es : Array (Int × Value)} (r : es.toList = rowsT knd L) {i : Nat} {p : Addr × List K} (h : L[i]? = some p) : es[i]? = some (tkh knd p.2, Value.ref p.1) := by
  rw [← Array.getElem?_toList, r, rowsT, List.getElem?_map, h]
  rfl
theorem TSet.fits (R : TSet knd s.heap a L es ep t) : t.fits es.size = true := by
  have h1 := R.tab.sz
  have h2 := rows_size R.rows
  have h3 := R.room
  rw [hashesT, List.length_map] at h1
  unfold SetTable.fits SetTable.fill
  rw [R.tab.dm, Bool.and_eq_true, beq_iff_eq, decide_eq_true_eq]
  show t.place.size = es.size ∧ t.place.size + 0 ≤ t.mask
  omega
theorem TSet.sound (R : TSet knd s.heap a L es ep t) : ¬ t.gaveWay = true := by
  unfold SetTable.gaveWay
  rw [mask_odd R.tab.mok]
  decide
/-- the search, from the c-th step of the way on; K is the first free step -/
theorem seek (fl : Flat8 knd) (R : TSet knd s.heap a L es ep t) {x : Addr} {k : List K} (hx : IsTupleKey knd s.heap k x) (hu : A.units < cLine) {N : Nat} (hNf : N < 10 * SetTable.turns t.mask)
    (hN : way t.mask (tkh knd k) N ∉ t.place.toList) (hNb : ∀ c, c < N → way t.mask (tkh knd k) c ∈ t.place.toList) {Q : SetFound → Shared → Prop}
    (yes : k ∈ L.map (·.2) → Q (.there none) s) (no : k ∉ L.map (·.2) → Q (.free (way t.mask (tkh knd k) N) false) s) :
    ∀ (f c : Nat) (stand : Option SetTable.Probe), stand.getD (t.probeStart (tkh knd k)) = nth t.mask (runAt t.mask (SetTable.bits (tkh knd k) % (t.mask + 1)) (SetTable.bits (tkh knd k))) c → c ≤ N → N - c < f →
      (∀ (i : Nat) p, L[i]? = some p → p.2 = k → ∃ c', c ≤ c' ∧ c' < N ∧ t.place.toList[i]? = some (way t.mask (tkh knd k) c')) →
      wpAny (model P w) A (setSearchFrom a (.ref x) (tkh knd k) true f stand) Q E s := by
  intro f
  induction f with
  | zero => intro c stand _ _ hf _; exact absurd hf (Nat.not_lt_zero _)
  | succ f ih =>
    intro c stand est hc hf ahead
    obtain ⟨o, ho, hex, hd⟩ := R.ob
    generalize eh : tkh knd k = hh at *
    generalize ers : runAt t.mask (SetTable.bits hh % (t.mask + 1)) (SetTable.bits hh) = st0 at *
    have wj : ∀ n, way t.mask hh n = (nth t.mask st0 n).j := fun n => by rw [← ers]
    rw [setSearchFrom_succ]
    refine wpAny_bind (wpAny_setState_of ho hd R.fits ?_)
    dsimp only
    refine wp_if_neg R.sound ?_
    try refine wpAny_bind (wpAny_pure ?_)
    have noDummy : ∀ (n : Nat) (p : SetTable.Probe), p.dummy = none → (nth t.mask p n).dummy = none := by
      intro n
      induction n with
      | zero => intro p z; exact z
      | succ n ih' =>
        intro p z
        refine ih' (adv t.mask p) ?_
        unfold adv
        split <;> exact z
    have d0 : (nth t.mask st0 c).dummy = none := noDummy c st0 (by rw [← ers]; rfl)
    have later : ∀ q, nth t.mask (nth t.mask st0 c) q = nth t.mask st0 (c + q) := fun q => (nth_add t.mask c st0 q).symm
    have hashAt : ∀ (i : Nat) p, L[i]? = some p → (fun i => (es[i]?.map (·.1)).getD 0) i = tkh knd p.2 := fun i p hp => by
      show (es[i]?.map (·.1)).getD 0 = _
      rw [rows_at R.rows hp]
      rfl
    rcases go_spec t R.tab.ris R.tab.dm (fun i => (es[i]?.map (·.1)).getD 0) hh (10 * SetTable.turns t.mask) (N - c) (nth t.mask st0 c) d0 (by omega)
      (fun q hq => by rw [later, ← wj]; exact hNb (c + q) (by omega)) (by rw [later, ← wj, show c + (N - c) = N by omega]; exact hN) with ⟨q, i, hq, hi, hash, skipped, met⟩ | ⟨skipped, met⟩
    · -- an entry of this hash
      have met' : t.probe (fun i => (es[i]?.map (·.1)).getD 0) hh (stand.getD (t.probeStart hh)) = some (.candidate (way t.mask hh (c + q)) i (nth t.mask st0 (c + (q + 1)))) := by
        rw [est, wj, ← later, ← later]
        exact met
      rw [met']
      dsimp only
      rw [later, ← wj] at hi
      have lt : i < L.length := by
        have h1 : i < t.place.toList.length := (List.getElem?_eq_some_iff.mp hi).1
        have h2 := R.tab.sz
        rw [hashesT, List.length_map] at h2
        rw [Array.length_toList] at h1
        omega
      obtain ⟨p, hp⟩ : ∃ p, L[i]? = some p := ⟨_, List.getElem?_eq_getElem lt⟩
      have hpm : p ∈ L := List.mem_of_getElem? hp
      have rest : wpAny (model P w) A (searchRest a (.ref x) hh true f es t (way t.mask hh (c + q)) i (nth t.mask st0 (c + (q + 1)))) Q E s := by
        unfold searchRest
        rw [rows_at R.rows hp]
        dsimp only
        refine wpAny_bind (wpAny_holding (wpAny_eqBool_tuple hu (R.tup p hpm) hx (wpAny_bind (wpAny_setState_of ho hd R.fits ?_))))
        dsimp only
        by_cases same : p.2 = k
        · exact wp_if_pos (by simp [same]) (wpAny_pure (yes (List.mem_map.mpr ⟨p, hpm, same⟩)))
        · refine wp_if_neg (by simp [same]) ?_
          try refine wpAny_bind (wpAny_pure ?_)
          rw [sameMem]
          dsimp only
          have live : t.slot (way t.mask hh (c + q)) = .live i := slot_live R.tab.ris hi
          simp only [if_true, live, rows_at R.rows hp]
          refine wpAny_bind (wpAny_isSame_ref_self (wpAny_bind (wpAny_pure ?_)))
          simp only [if_true]
          refine wp_if_neg (by simp [same]) ?_
          refine ih (c + (q + 1)) _ rfl (by omega) (by omega) fun i0 p0 h0 hk0 => ?_
          obtain ⟨c', a1, a2, a3⟩ := ahead i0 p0 h0 hk0
          have hz : (fun i => (es[i]?.map (·.1)).getD 0) i0 = hh := by rw [hashAt i0 p0 h0, hk0, eh]
          refine ⟨c', ?_, a2, a3⟩
          rcases Nat.lt_trichotomy c' (c + q) with z | z | z
          · exact (skipped (c' - c) i0 (by omega) (by rw [later, ← wj, show c + (c' - c) = c' by omega]; exact a3) hz).elim
          · rw [z] at a3
            have live2 := slot_live R.tab.ris a3
            rw [live] at live2
            injection live2 with e
            rw [← e, hp] at h0
            exact (same ((congrArg Prod.snd (Option.some.inj h0)).trans hk0)).elim
          · omega
      by_cases led : t.led = true
      · refine wp_if_neg (by simp [led]) ?_
        try refine wpAny_bind (wpAny_pure ?_)
        exact rest
      · refine wp_if_pos (by simp [led]) (wpAny_bind (noShow fl hx (fun y hy => ?_) ?_))
        · obtain ⟨e, he, ee⟩ := List.mem_map.mp hy
          have he2 : e ∈ es ∧ e.1 = hh := by simpa using he
          have he3 : e ∈ es.toList := by simpa using he2.1
          rw [R.rows, rowsT] at he3
          obtain ⟨p2, hp2, e2⟩ := List.mem_map.mp he3
          exact ⟨p2.2, p2.1, by rw [← ee, ← e2], R.tup p2 hp2⟩
        · refine wp_if_neg (by decide) ?_
          try refine wpAny_bind (wpAny_pure ?_)
          exact rest
    · -- a free slot
      have met' : t.probe (fun i => (es[i]?.map (·.1)).getD 0) hh (stand.getD (t.probeStart hh)) = some (.empty (way t.mask hh N) none) := by
        have e2 : way t.mask hh N = (nth t.mask (nth t.mask st0 c) (N - c)).j := by rw [later, ← wj, show c + (N - c) = N by omega]
        rw [est, e2]
        exact met
      rw [met']
      dsimp only
      refine wpAny_pure (no fun hm => ?_)
      obtain ⟨p0, h0, hk0⟩ := List.mem_map.mp hm
      obtain ⟨i0, hi0, e0⟩ := List.getElem_of_mem h0
      have h00 : L[i0]? = some p0 := by rw [List.getElem?_eq_getElem hi0, e0]
      obtain ⟨c', a1, a2, a3⟩ := ahead i0 p0 h00 hk0
      exact skipped (c' - c) i0 (by omega) (by rw [later, ← wj, show c + (c' - c) = c' by omega]; exact a3) ((hashAt i0 p0 h00).trans (by rw [hk0, eh]))
theorem seek_all (fl : Flat8 knd) (R : TSet knd s.heap a L es ep t) {x : Addr} {k : List K} (hx : IsTupleKey knd s.heap k x) (hu : A.units < cLine) {Q : SetFound → Shared → Prop} (yes : k ∈ L.map (·.2) → Q (.there none) s)
    (no : ∀ N, k ∉ L.map (·.2) → way t.mask (tkh knd k) N ∉ t.place.toList → (∀ c, c < N → way t.mask (tkh knd k) c ∈ t.place.toList) → Q (.free (way t.mask (tkh knd k) N) false) s) :
    wpAny (model P w) A (setSearch a (.ref x) (tkh knd k) true) Q E s := by
  have room := R.room
  obtain ⟨N, hNf, hN, hNb⟩ := R.tab.first (by rw [hashesT, List.length_map]; omega) (tkh knd k)
  have few : 10 * SetTable.turns t.mask ≤ 1420 := by
    unfold SetTable.turns
    rcases R.tab.mok with e | e | e <;> omega
  unfold setSearch
  refine seek fl R hx hu hNf hN hNb yes (fun z => no N z hN hNb) 100000 0 none rfl (Nat.zero_le _) (by omega) fun i p hp hk => ?_
  have hi : (hashesT knd L)[i]? = some (tkh knd k) := by rw [hashesT, List.getElem?_map, hp, ← hk]; rfl
  have lt : i < t.place.toList.length := by
    have h1 : i < L.length := (List.getElem?_eq_some_iff.mp hp).1
    have h2 := R.tab.sz
    rw [hashesT, List.length_map] at h2
    rw [Array.length_toList]
    omega
  have hj := List.getElem?_eq_getElem lt
  obtain ⟨c, hc, e⟩ := R.tab.before hN hi hj
  exact ⟨c, Nat.zero_le _, hc, by rw [hj, e]⟩
/-! ### one tuple more -/
theorem still_tuple {h h' : Heap} {k : List K} {a b : Addr} {o : Obj} {es : Array (Int × Value)} {ep : Nat} {t : SetTable} (hb : IsTupleKey knd h k b) (ho : h.get? a = some o) (hd : o.data = .set es ep t) (hs : Heap.SameBut a h h') : IsTupleKey knd h' k b := by
  obtain ⟨o', items, n, ho', hc, hd', hi⟩ := hb
  refine ⟨o', items, n, (hs.2 b fun z => ?_).trans ho', hc, hd', hi⟩
  rw [z, ho] at ho'
  rw [← Option.some.inj ho', hd] at hd'
  cases hd'
theorem slid {α : Type} (l : List α) (p : Nat) (x : α) : (l.take p ++ x :: l.drop p).Perm (x :: l) := by
  have h : (l.take p ++ x :: l.drop p).Perm (x :: (l.take p ++ l.drop p)) := List.perm_middle
  rwa [List.take_append_drop] at h
theorem picked_all {α : Type} (l : List α) : (List.range l.length).filterMap (fun i => l[i]?) = l := by
  apply List.ext_getElem?
  intro i
  have e : (List.range l.length).filterMap (fun i => l[i]?) = (List.range l.length).pmap (fun i (h : i < l.length) => l[i]) fun i h => List.mem_range.mp h := by
    have key : ∀ (m : List Nat) (hm : ∀ i ∈ m, i < l.length), m.filterMap (fun i => l[i]?) = m.pmap (fun i (h : i < l.length) => l[i]) hm := by
      intro m
      induction m with
      | nil => intro _; rfl
      | cons i m ih =>
        intro hm
        rw [List.filterMap_cons_some (List.getElem?_eq_getElem (hm i List.mem_cons_self)), ih fun j hj => hm j (List.mem_cons_of_mem _ hj)]
        rfl
    exact key _ _
  rw [e]
  by_cases h : i < l.length
  · rw [List.getElem?_eq_getElem h, List.getElem?_eq_getElem (by simpa using h)]
    simp
  · rw [List.getElem?_eq_none (by simpa using h), List.getElem?_eq_none (by omega)]
/-- the rows taken in another order -/
theorem rows_order {L : Mem K} {es : Array (Int × Value)} {order : Array Nat} (hr : es.toList = rowsT knd L) (hp : order.toList.Perm (List.range L.length)) :
    ∃ L2 : Mem K, (order.filterMap (es[·]?)).toList = rowsT knd L2 ∧ L2.Perm L ∧ hashesT knd L2 = order.toList.map fun i => (es.map (·.1)).getD i 0 := by
  have bound : ∀ i ∈ order.toList, i < L.length := fun i hi => List.mem_range.mp (hp.mem_iff.mp hi)
  refine ⟨order.toList.filterMap fun i => L[i]?, ?_, ?_, ?_⟩
  · rw [Array.toList_filterMap, rowsT, List.map_filterMap]
    have key : ∀ (m : List Nat), (∀ i ∈ m, i < L.length) → m.filterMap (fun i => es[i]?) = m.filterMap fun i => (L[i]?).map fun p => ((tkh knd p.2, Value.ref p.1) : Int × Value) := by
      intro m
      induction m with
      | nil => intro _; rfl
      | cons i m ih =>
        intro hm
        have hi := hm i List.mem_cons_self
        rw [List.filterMap_cons_some (rows_at hr (List.getElem?_eq_getElem hi)), ih fun j hj => hm j (List.mem_cons_of_mem _ hj), List.filterMap_cons_some (by rw [List.getElem?_eq_getElem hi]; rfl)]
    exact key _ bound
  · have q := hp.filterMap fun i => L[i]?
    rwa [picked_all] at q
  · rw [hashesT, List.map_filterMap]
    have key : ∀ (m : List Nat), (∀ i ∈ m, i < L.length) → m.filterMap (fun i => (L[i]?).map fun p => tkh knd p.2) = m.map fun i => (es.map (·.1)).getD i 0 := by
      intro m
      induction m with
      | nil => intro _; rfl
      | cons i m ih =>
        intro hm
        have hi := hm i List.mem_cons_self
        have e1 : (es.map (·.1))[i]? = some (tkh knd (L[i]).2) := by rw [Array.getElem?_map, rows_at hr (List.getElem?_eq_getElem hi)]; rfl
        rw [List.filterMap_cons_some (b := tkh knd (L[i]).2) (by rw [List.getElem?_eq_getElem hi]; rfl), ih fun j hj => hm j (List.mem_cons_of_mem _ hj), List.map_cons]
        simp [Array.getD_eq_getD_getElem?, e1]
    exact key _ bound
theorem relay_more {o : Obj} (ho : s.heap.get? a = some o) (hex : o.ExactSet) (hd : o.data = .set es ep t) (hrows : es.toList = rowsT knd L) (hsz : t.place.size = es.size) (hdm : t.dummies = #[]) (hfl : es.size ≤ t.mask)
    (nd : (L.map (·.2)).Nodup) (tup : ∀ p ∈ L, IsTupleKey knd s.heap p.2 p.1) (few : L.length < 64) {wanted M : Nat} (hw : SetTable.sizeAbove wanted - 1 = M) (hM : MaskOk M) (hw2 : SetTable.sizeAbove wanted ≤ 128) (hn : L.length * 5 < M * 3)
    {Q : Unit → Shared → Prop} (hQ : ∀ h' L' es' ep' t', Heap.SameBut a s.heap h' → TSet knd h' a L' es' ep' t' → L'.Perm L → Q () { s with heap := h' }) : wpAny (model P w) A (setRelay a wanted) Q E s := by
  have len := rows_size hrows
  have fits : t.fits es.size = true := by
    unfold SetTable.fits SetTable.fill
    rw [hdm, Bool.and_eq_true, beq_iff_eq, decide_eq_true_eq]
    show t.place.size = es.size ∧ t.place.size + 0 ≤ t.mask
    omega
  obtain ⟨t', order, e, hp, T, em, el, ep', ed⟩ := relaid_ok t (hs := es.map (·.1)) (wanted := wanted) hw hM (by rw [Array.size_map, len]; omega)
  rw [Array.size_map, len] at hp
  obtain ⟨L2, r1, r2, r3⟩ := rows_order hrows hp
  rw [← r3] at T
  have len2 : (order.filterMap (es[·]?)).size = es.size := by rw [rows_size r1, r2.length_eq, len]
  rw [setRelay_eq]
  refine wpAny_bind (wpAny_setState_of ho hd fits ?_)
  dsimp only
  refine wp_if_neg (by rw [sizeLine_eq]; omega) ?_
  try refine wpAny_bind (wpAny_pure ?_)
  rw [e]
  dsimp only
  refine wpAny_bind (wp_if_neg (by rw [len2]; simp) ?_)
  try refine wpAny_bind (wpAny_pure ?_)
  refine wpAny_pure ?_
  dsimp only
  refine wpAny_storeSet_of ho hd ?_ (by rw [len2, len, sizeLine_eq]; omega)
  have sb : Heap.SameBut a s.heap (s.heap.update a (Obj.putSet (order.filterMap (es[·]?)) t')) := Heap.SameBut.update ..
  exact hQ _ L2 (order.filterMap (es[·]?)) (ep + 1) t' sb ⟨⟨_, store_at ho hd, ⟨hex.1, hex.2.1, hex.2.2⟩, rfl⟩, r1, T, (r2.map (·.2)).nodup_iff.mpr nd, fun p hpm => still_tuple (tup p (r2.mem_iff.mp hpm)) ho hd sb,
    by rw [r2.length_eq, em]; exact hn, by rw [r2.length_eq]; exact few⟩ r2
/-- L' is L, or L and x at k -/
def MoreT (x : Addr) (k : List K) (L L' : Mem K) : Prop := (k ∈ L.map (·.2) ∧ L' = L) ∨ (k ∉ L.map (·.2) ∧ L'.Perm ((x, k) :: L))
theorem tset_add (fl : Flat8 knd) (R : TSet knd s.heap a L es ep t) {x : Addr} {k : List K} (hx : IsTupleKey knd s.heap k x) (hu : A.units < cLine) (few : L.length + 1 < 64) {Q : Bool → Shared → Prop}
    (hQ : ∀ b h' L' es' ep' t', Heap.SameBut a s.heap h' → TSet knd h' a L' es' ep' t' → MoreT x k L L' → Q b { s with heap := h' }) : wpAny (model P w) A (setAddHashed a (.ref x) (tkh knd k)) Q E s := by
  have R0 := R
  obtain ⟨o, ho, hex, hd⟩ := R.ob
  have len := rows_size R.rows
  have room := R.room
  unfold setAddHashed
  refine wpAny_holding ?_
  rw [show (100000 : Nat) = 99999 + 1 from rfl, setAddHashedIn_succ]
  refine wpAny_bind (wpAny_setState_of ho hd R.fits ?_)
  dsimp only
  refine wp_if_neg (by simp [byScan, Value.scannable]) ?_
  try refine wpAny_bind (wpAny_pure ?_)
  refine wpAny_bind (seek_all fl R hx hu (fun hm => ?_) fun N hm hN hb => ?_)
  · dsimp only
    exact wpAny_pure (hQ false s.heap L es ep t (Heap.SameBut.refl a s.heap) R0 (.inl ⟨hm, rfl⟩))
  · dsimp only
    refine wpAny_bind (wpAny_setState_of ho hd R.fits ?_)
    dsimp only
    obtain ⟨q1, q2, q3, q4, _, _, _, _, q9⟩ := R.tab.put hN hb
    generalize hpt : t.put (way t.mask (tkh knd k) N) = pt at q1 q3 q4 q9 ⊢
    obtain ⟨t1, p⟩ := pt
    dsimp only at q1 q3 q4 q9 ⊢
    subst q1
    have rowsIn : (SetTable.insertAt es (SetTable.below t.place (way t.mask (tkh knd k) N)) (tkh knd k, Value.ref x)).toList = rowsT knd (L.take (SetTable.below t.place (way t.mask (tkh knd k) N)) ++ (x, k) :: L.drop (SetTable.below t.place (way t.mask (tkh knd k) N))) := by
      rw [SetTable.toList_insertAt, R.rows, rowsT, rowsT, List.map_append, List.map_cons, List.map_take, List.map_drop]
    generalize SetTable.below t.place (way t.mask (tkh knd k) N) = p at q2 q3 rowsIn ⊢
    have pm := slid L p (x, k)
    have hs1 : hashesT knd (L.take p ++ (x, k) :: L.drop p) = (hashesT knd L).take p ++ tkh knd k :: (hashesT knd L).drop p := by
      unfold hashesT
      rw [List.map_append, List.map_cons, List.map_take, List.map_drop]
    rw [← hs1] at q3
    have nd1 : ((L.take p ++ (x, k) :: L.drop p).map (·.2)).Nodup := (pm.map (·.2)).nodup_iff.mpr (List.nodup_cons.mpr ⟨hm, R.nd⟩)
    generalize SetTable.insertAt es p (tkh knd k, Value.ref x) = es1 at rowsIn ⊢
    generalize L.take p ++ (x, k) :: L.drop p = L1 at pm q3 nd1 rowsIn
    have len1 : L1.length = L.length + 1 := pm.length_eq
    have sz1 : es1.size = L.length + 1 := by rw [rows_size rowsIn, len1]
    -- whatever is told of the order
    have go : ∀ t2 : SetTable, t2.place = t1.place → t2.dummies = t1.dummies → t2.mask = t1.mask →
        wpAny (model P w) A (do
          storeSet a es1 t2
          if !false && t2.tooFull then setRelay a (SetTable.grown (es.size + 1))
          return true) Q E s := fun t2 e1 e2 e3 => by
      have T2 : TabOk t2 (hashesT knd L1) := by
        obtain ⟨z1, z2, z3, z4, z5, z6⟩ := q3
        exact ⟨by rw [e1]; exact z1, by rw [e2]; exact z2, by rw [e1]; exact z3, by rw [e3]; exact z4, by rw [e1, e3]; exact z5, by rw [e1, e3]; exact z6⟩
      refine wpAny_bind (wpAny_storeSet_of ho hd ?_ (by rw [sz1, sizeLine_eq]; omega))
      have sb : Heap.SameBut a s.heap (s.heap.update a (Obj.putSet es1 t2)) := Heap.SameBut.update ..
      have ho1 := store_at (es' := es1) (t' := t2) ho hd
      generalize s.heap.update a (Obj.putSet es1 t2) = h1 at sb ho1 ⊢
      have tup1 : ∀ p ∈ L1, IsTupleKey knd h1 p.2 p.1 := fun p hp => by
        rcases List.mem_cons.mp (pm.mem_iff.mp hp) with e | hp
        · rw [e]; exact still_tuple hx ho hd sb
        · exact still_tuple (R.tup p hp) ho hd sb
      have fill2 : t2.fill = L.length + 1 := by
        have z : t1.fill = (hashesT knd L).length + 1 := q9
        rw [hashesT, List.length_map] at z
        unfold SetTable.fill at z ⊢
        rw [e1, e2]; exact z
      by_cases hf : t2.tooFull = true
      · have full : (L.length + 1) * 5 ≥ t2.mask * 3 := by
          have z := hf
          unfold SetTable.tooFull at z
          rw [decide_eq_true_eq, fill2] at z
          exact z
        rw [e3, q4] at full
        have cases2 : (t.mask = 7 ∧ L.length = 4) ∨ (t.mask = 31 ∧ L.length = 18) := by
          rcases R.tab.mok with e | e | e <;> rw [e] at full room
          · exact .inl ⟨e, by omega⟩
          · exact .inr ⟨e, by omega⟩
          · omega
        have lay : ∀ M, SetTable.sizeAbove (SetTable.grown (L.length + 1)) - 1 = M → MaskOk M → SetTable.sizeAbove (SetTable.grown (L.length + 1)) ≤ 128 → (L.length + 1) * 5 < M * 3 →
            wpAny (model P w) A (setRelay a (SetTable.grown (L.length + 1))) (fun _ s' => wpAny (model P w) A (pure true) Q E s') E { s with heap := h1 } := fun M b1 b2 b3 b4 =>
          relay_more (s := { s with heap := h1 }) ho1 ⟨hex.1, hex.2.1, hex.2.2⟩ rfl rowsIn (by have z := T2.sz; rw [hashesT, List.length_map] at z; rw [z, len1, sz1]) T2.dm (by rw [sz1, e3, q4]; rcases cases2 with ⟨e, e2⟩ | ⟨e, e2⟩ <;> omega) nd1 tup1 (by rw [len1]; exact few) b1 b2 b3 (by rw [len1]; exact b4)
            fun h2 L2 es2 ep2 t3 sb2 R2 pm2 => wpAny_pure (hQ true h2 L2 es2 ep2 t3 (sb.trans sb2) R2 (.inr ⟨hm, pm2.trans pm⟩))
        rw [len]
        first
          | (refine wpAny_bind ?_; refine wp_if_pos (by simp [hf]) ?_)
          | (refine wp_if_pos (by simp [hf]) ?_; refine wpAny_bind ?_)
        rcases cases2 with ⟨_, e2⟩ | ⟨_, e2⟩
        · exact lay 31 (by rw [e2, size_20]) (.inr (.inl rfl)) (by rw [e2, size_20]; decide) (by omega)
        · exact lay 127 (by rw [e2, size_76]) (.inr (.inr rfl)) (by rw [e2, size_76]; decide) (by omega)
      · first
          | refine wp_if_neg (by simp [hf]) ?_
          | (refine wpAny_bind ?_; refine wp_if_neg (by simp [hf]) ?_; refine wpAny_pure ?_)
        refine wpAny_pure (hQ true h1 L1 es1 (ep + 1) t2 sb ⟨⟨_, ho1, ⟨hex.1, hex.2.1, hex.2.2⟩, rfl⟩, rowsIn, T2, nd1, tup1, ?_, by rw [len1]; exact few⟩ (.inr ⟨hm, pm⟩))
        have z := hf
        unfold SetTable.tooFull at z
        rw [decide_eq_true_eq, fill2] at z
        rw [len1]
        omega
    by_cases pl : t1.plain = true
    · first
        | (refine wpAny_bind ?_; refine wp_if_pos pl ?_; refine someHash fl hx fun c => ?_)
        | refine wp_if_pos pl (wpAny_bind (someHash fl hx fun c => ?_))
      cases c with
      | true => exact go _ rfl rfl rfl
      | false => exact go _ rfl rfl rfl
    · first
        | (refine wpAny_bind ?_; refine wp_if_neg pl ?_; refine wpAny_pure ?_)
        | refine wp_if_neg pl (wpAny_bind (wpAny_pure ?_))
      exact go _ rfl rfl rfl
theorem tset_fresh {h : Heap} {led : Bool} (ho : h.get? a = some { cls := .type "set", dict := none, data := .set #[] 0 (.fresh 0 0 led) }) : TSet knd h a [] #[] 0 (.fresh 0 0 led) where
  ob := ⟨_, ho, ⟨rfl, rfl, rfl⟩, rfl⟩
  rows := rfl
  tab := ⟨List.Pairwise.nil, rfl, rfl, .inl rfl, fun x hx => (by cases hx), fun i h j hi => (by simp [hashesT] at hi)⟩
  nd := List.nodup_nil
  tup := fun p hp => nomatch hp
  room := by show 0 * 5 < 7 * 3; decide
  few := by show 0 < 64; decide
end
end Q9
end
-- QOwn
section
set_option maxRecDepth 100000
set_option maxHeartbeats 4000000
/-! e[k] and k in e by own __getitem__ and __contains__ -/
namespace Q9
open PySem L2
/-- the class (or one above it) has the name as the def at f -/
structure OwnAt (K : PySem.W.Frag) (C : Addr) (nm : Str) (f : Addr) : Prop where
  at_ : PySem.W.findIn K (.ref C) nm = some (some (.ref f))
  fn : PySem.W.fnIn K f = true
  isf : PySem.W.isFn K (.ref f) = true
/-- the promise at the object and the other value -/
def rOwn2 (C : Addr) (sp : Sp) (E : XK) : R2 := fun x y H Q => ∃ a dx fs, x = .ref a ∧ H a = some (.ins C dx fs) ∧ sp [.ref a, y] H Q E
def rOwnIn (C : Addr) (sp : Sp) (E : XK) : R2 := fun y x H Q => ∃ a dx fs, x = .ref a ∧ H a = some (.ins C dx fs) ∧ sp [.ref a, y] H (fun z H' => ∃ b, z = .bl b ∧ Q (.bl b) H') E
def rOwnNotIn (C : Addr) (sp : Sp) (E : XK) : R2 := fun y x H Q => ∃ a dx fs, x = .ref a ∧ H a = some (.ins C dx fs) ∧ sp [.ref a, y] H (fun z H' => ∃ b, z = .bl b ∧ Q (.bl (!b)) H') E
section
variable {X : Cx} {CX : CXT} {k : Nat} {C f : Addr} {fd : FuncData} {ps : List Str} {sp : Sp} {E : XK} {a b : Expr} {pos : Pos} {ta tb : TE}
/-- a def runs one call deeper -/
theorem run_in1 {pins : List (Addr × Obj)} {σ : St} {H : Hp} {s : Shared} {Q : VK} {us : List Value} {vs : List V} (F : FnOk X.prog X.w X.K X.mg X.base CX k f fd ps sp) (hr : Room (k + 1) X.A) (hb : Binds X.K fd ps []) (hx : Passes CX X E)
    (I : Inv X pins σ H s) (r : Vals vs us) (h : sp vs H Q E) : wpAny (model X.prog X.w) X.A.in1 (call (.ref f) us) (EP X pins σ Q) X.xe s := by
  have hl : (us ++ []).length = ps.length := by rw [List.append_nil, ← r.length]; exact F.len _ _ _ _ h
  have hbs := hb s us I.kIn hl
  rw [List.append_nil] at hbs
  refine wpAny_call (codeAny_mono (F.run X.A.in1 X.stack s H ⟨us, []⟩ us vs Q E hr.in1 I.env0.in1 hbs r h) fun r s' hq => ?_)
  cases r with
  | error e => exact hx pins σ H s e s' I hq
  | ok fl =>
    cases fl with
    | ret u => exact I.after hq
    | next => exact False.elim hq
    | brk => exact False.elim hq
    | cont => exact False.elim hq
theorem pe_ownIx (c : OwnAt X.K C "__getitem__" f) (F : FnOk X.prog X.w X.K X.mg X.base CX k f fd ps sp) (hr : Room (k + 1) X.A) (hb : Binds X.K fd ps []) (hx : Passes CX X E) (ha : PE X a ta) (hb2 : PE X b tb)
    (hs : ∀ o i, subscripted b true o i = runValue (.builtin "lifetime.subscript" ⟨[o, i], []⟩) := by intros; with_unfolding_all rfl) : PE X (.Subscript a b pos) (tOp (rOwn2 C sp E) ta tb) := by
  refine ⟨fun pins s σ H Q I h => ?_⟩
  refine PyProof.Rows.Subscript_ (binT ha hb2 I (R := fun x y H2 => rOwn2 C sp E x y H2 Q) h fun v u s2 x y H2 I2 rx ry q => ?_)
  obtain ⟨a1, dx, fs, ex, ea, q⟩ := q
  subst ex
  obtain rfl : v = Value.ref a1 := rx
  obtain ⟨mA, J, _⟩ := ins_get I2.hok ea
  obtain ⟨od, J, _⟩ := J.look
  obtain ⟨m, hF⟩ := I2.fr
  exact PySem.W.sub_K hF I2.ok.mod.kin J c.at_ c.fn c.isf (run_in1 (vs := [.ref a1, y]) F hr hb hx I2 (.cons rfl (.cons ry .nil)) q) (hs _ _)
theorem own_contains {pins : List (Addr × Obj)} {σ : St} {H : Hp} {s : Shared} {Q : Bool → Shared → Prop} {a1 dx : Addr} {fs : List (Str × V)} {y : V} {u : Value} (c : OwnAt X.K C "__contains__" f) (F : FnOk X.prog X.w X.K X.mg X.base CX k f fd ps sp) (hr : Room k X.A) (hb : Binds X.K fd ps []) (hx : Passes CX X E)
    (I : Inv X pins σ H s) (ea : H a1 = some (.ins C dx fs)) (ry : RelV y u) {Qv : VK} (h : sp [.ref a1, y] H Qv E) (fin : ∀ z H' s', Inv X pins σ H' s' → Qv z H' → ∃ b, z = .bl b ∧ Q b s') :
    wpAny (model X.prog X.w) X.A (contains (.ref a1) u) Q X.xe s := by
  obtain ⟨mA, J, _⟩ := ins_get I.hok ea
  obtain ⟨od, J, _⟩ := J.look
  unfold contains
  refine wpAny_holding ?_
  have e0 : stdlibNamesSay? (.ref a1) u = none := rfl
  rw [e0]
  refine wpAny_bind (wpAny_bind (J.type.here ((PySem.W.looks_findIn I.kIn c.at_).here ?_)))
  rw [if_neg (show ¬ ((some (Value.ref f) == some Value.none) = true) from Bool.false_ne_true)]
  refine wpAny_bind ?_
  unfold callSpecialUnlessNone?
  refine wpAny_bind (wpAny_bind (J.type.here ((PySem.W.looks_findIn I.kIn c.at_).here ?_)))
  refine wpAny_holding (wpAny_bind ((PySem.W.bind_fn I.kIn _ (beq_iff_eq.mp c.isf)).here ?_))
  dsimp only
  rw [if_neg (show ¬ ((Value.ref f == Value.none) = true) from Bool.false_ne_true)]
  refine wpAny_bind (wpAny_mono (run_fn (us := [.ref a1, u]) (vs := [.ref a1, y]) (ds := []) (dvs := []) F hr hb .nil hx I (.cons rfl (.cons ry .nil)) (by simpa using h)) (fun v s' hv => ?_) fun _ _ z => z)
  obtain ⟨z, H', I', rz, q⟩ := hv
  obtain ⟨b, rfl, qb⟩ := fin z H' s' I' q
  refine wpAny_pure ?_
  obtain rfl : v = Value.bool b := rz
  exact wpAny_truthy_bool qb
theorem op_ownIn (c : OwnAt X.K C "__contains__" f) (F : FnOk X.prog X.w X.K X.mg X.base CX k f fd ps sp) (hr : Room k X.A) (hb : Binds X.K fd ps []) (hx : Passes CX X E) : OpR X (compareOp .In) (rOwnIn C sp E) := by
  intro pins s σ H y x v u Q I ry rx h
  obtain ⟨a1, dx, fs, rfl, ea, q⟩ := h
  obtain rfl : u = Value.ref a1 := rx
  show wpAny _ _ (contains (.ref a1) v >>= fun b => pure (Value.bool b)) _ _ _
  exact wpAny_bind (own_contains c F hr hb hx I ea ry q fun z H' s' I' ⟨b, e, q⟩ => ⟨b, e, wpAny_pure ⟨.bl b, H', I', rfl, q⟩⟩)
theorem op_ownNotIn (c : OwnAt X.K C "__contains__" f) (F : FnOk X.prog X.w X.K X.mg X.base CX k f fd ps sp) (hr : Room k X.A) (hb : Binds X.K fd ps []) (hx : Passes CX X E) : OpR X (compareOp .NotIn) (rOwnNotIn C sp E) := by
  intro pins s σ H y x v u Q I ry rx h
  obtain ⟨a1, dx, fs, rfl, ea, q⟩ := h
  obtain rfl : u = Value.ref a1 := rx
  show wpAny _ _ (contains (.ref a1) v >>= fun b => pure (Value.bool (!b))) _ _ _
  exact wpAny_bind (own_contains c F hr hb hx I ea ry q fun z H' s' I' ⟨b, e, q⟩ => ⟨b, e, wpAny_pure ⟨.bl (!b), H', I', rfl, q⟩⟩)
end
end Q9
end
-- QTop
section
set_option maxRecDepth 100000
set_option maxHeartbeats 4000000
namespace Q9
open PySem L2
def top (i : Nat) : Stmt := PySem.Challenge.pw_rightstate_k02_what_is_no_kind.main.body.getD i (.Pass ⟨0, 0, 0, 0⟩)
abbrev sIBadKind : Stmt := inClass (top 3) 0
abbrev sIsRow : Stmt := top 6
abbrev sIsName : Stmt := top 7
abbrev sIsError : Stmt := top 8
abbrev sIsWord : Stmt := top 9
abbrev sUnlike : Stmt := top 10
abbrev sIsKey : Stmt := top 15
abbrev sAreRows : Stmt := top 16
abbrev sPairs : Stmt := top 18
abbrev sRight : Stmt := top 19
abbrev sRead : Stmt := top 20
abbrev sCheckP : Stmt := top 21
abbrev kMeth (i : Nat) : Stmt := inClass (top 22) i
abbrev sSource : Stmt := top 24
abbrev sDraw : Stmt := top 25
abbrev sPick : Stmt := top 26
abbrev sWords : Stmt := top 27
abbrev sSort : Stmt := top 28
abbrev sSorts : Stmt := top 29
abbrev sSaid : Stmt := top 30
abbrev sOddM : Stmt := top 31
abbrev sLaw : Stmt := top 32
end Q9
end
-- QLaw
section
set_option maxRecDepth 100000
set_option maxHeartbeats 4000000
namespace Q9
open PySem L2
/-! ### the source of numbers -/
/-- a source: three numbers from 0 on -/
def Well (H : Hp) (l : Addr) : Prop := ∃ a b c : Int, H l = some (.lst [.int a, .int b, .int c]) ∧ 0 ≤ a ∧ 0 ≤ b ∧ 0 ≤ c
def spSource : Sp := fun vs H Q _ => ∃ z : Int, vs = [.int z] ∧ ∀ (l : Addr) (w : HO), H l = none → Well (upd H l w) l → Q (.ref l) (upd H l w)
def spDraw : Sp := fun vs H Q _ => ∃ (l : Addr) (m : Int), vs = [.ref l, .int m] ∧ Well H l ∧ 0 < m ∧ m < 1073741824 ∧ ∀ (r : Int) (w : HO), 0 ≤ r → r < m → Well (upd H l w) l → Q (.int r) (upd H l w)
def spPick (K : PySem.W.Frag) : Sp := fun vs H Q _ => ∃ (l m : Addr) (xs : List V), vs = [.ref l, .ref m] ∧ Well H l ∧ SqL K H m xs ∧ 0 < xs.length ∧ xs.length < 1073741824 ∧
  ∀ (x : V) (w : HO), x ∈ xs → Well (upd H l w) l → Q x (upd H l w)
structure TLaw (K : PySem.W.Frag) (mg : Str → Option Value) (fD : Addr) : Prop where
  int : mg "int" = none
  len : mg "len" = none
  gD : mg "_law_draw" = some (.ref fD)
  kD : PySem.W.keepIn K (.ref fD) = true
section
variable {P : Program} {w : World} {K : PySem.W.Frag} {mg : Str → Option Value} {base : Heap} {fD : Addr}
theorem scS : FnScope ["_law_cell", "_law_number"] ["_law_cell"] (defScope sSource) := ⟨rfl, rfl, rfl, by decide +kernel, rfl, by decide +kernel, by decide +kernel⟩
theorem ok_source {f : Addr} {fd : FuncData} (F : Fun K "_law_source" "_law_source" sSource f fd) (T : TLaw K mg fD) : FnOk P w K mg base CX0 1 f fd ["_law_cell"] spSource := by
  refine F.ok scS (fun vs H Q E h => ?_) (fun cdv A outer s H vs Q E hr h => ?_)
  · obtain ⟨z, rfl, _⟩ := h
    rfl
  · obtain ⟨z, rfl, k⟩ := h
    refine ⟨_, pss_cons (ps_set (i := 1) scS.nd rfl (.inl rfl) (pe_ifExp (pt_cmpR op_ge (pv 0) pe_int (nomark _)) (pv 0) (pe_op op_sub (pe_op op_sub pe_int (pe_op op_mul pe_int (pv 0))) pe_int)))
      (pss_one (ps_ret (pe_lst (pa_cons (pe_op op_mul (pv 1) (pe_callTy call_int1 (by rfl) T.int (by decide +kernel) (pa_cons (pe_cmpR op_ge (pv 1) (pe_op op_pow pe_int pe_int) (nomark _)) pa_nil)))
        (pa_cons (pe_op op_mod (pe_callTy call_int1 (by rfl) T.int (by decide +kernel) (pa_cons (pv 1) pa_nil)) pe_int) (pa_cons pe_int pa_nil)))))), ?_⟩
    refine ⟨_, rfl, _, _, rfl, rfl, _, rfl, ?_⟩
    -- both ways: a number from 0 on, then the list of three
    have fin : ∀ n : Int, 0 ≤ n → ∀ p, H p = none → Q (.ref p) (upd H p (.lst [.int (n * (if decide (10 ^ (18 : Int).toNat ≤ n) = true then 1 else 0)), .int (n % 2147483629), .int 0])) := fun n hn p hp =>
      k p _ hp ⟨_, _, _, upd_same, by split <;> omega, Int.emod_nonneg _ (by decide), Int.le_refl _⟩
    refine ite2 (fun c => ?_) (fun c => ?_)
    · refine ⟨_, rfl, _, rfl, _, rfl, _, _, rfl, rfl, ⟨by decide, by decide, by decide⟩, _, _, rfl, rfl, .inr ⟨_, rfl, _, _, rfl, rfl, .inr (by split <;> decide), _, rfl, .inl ⟨_, rfl, _, _, rfl, rfl, (by show (0 : Int) < 2147483629; decide), ?_⟩⟩⟩
      exact ⟨by show 3 ≤ sizeLine; decide, fun p hp => fin z (by simpa using c) p hp⟩
    · have c' : ¬ 0 ≤ z := by simpa using c
      refine ⟨_, rfl, _, _, rfl, rfl, .inl ⟨by decide, by decide⟩, _, _, rfl, rfl, _, _, rfl, rfl, ?_⟩
      refine ⟨_, rfl, _, rfl, _, _, rfl, rfl, ⟨by decide, by decide, by decide⟩, _, _, rfl, rfl, .inr ⟨_, rfl, _, _, rfl, rfl, .inr (by split <;> decide), _, rfl, .inl ⟨_, rfl, _, _, rfl, rfl, (by show (0 : Int) < 2147483629; decide), ?_⟩⟩⟩
      exact ⟨by show 3 ≤ sizeLine; decide, fun p hp => fin (0 - 3 * z - 1) (by omega) p hp⟩
theorem scD : FnScope ["_law_well", "_law_many", "_law_found", "_law_number"] ["_law_well", "_law_many"] (defScope sDraw) := ⟨rfl, rfl, rfl, by decide +kernel, rfl, by decide +kernel, by decide +kernel⟩
theorem ok_draw {f : Addr} {fd : FuncData} (F : Fun K "_law_draw" "_law_draw" sDraw f fd) (T : TLaw K mg fD) : FnOk P w K mg base CX0 1 f fd ["_law_well", "_law_many"] spDraw := by
  refine F.ok scD (fun vs H Q E h => ?_) (fun cdv A outer s H vs Q E hr h => ?_)
  · obtain ⟨l, m, rfl, _⟩ := h
    rfl
  · obtain ⟨l, m, rfl, ⟨a, b, c, hl, ha, hb, hc⟩, m0, m1, k⟩ := h
    refine ⟨_, pss_cons (ps_if (pt_cmpR op_gt (pe_ix ix_list (pv 0) pe_int (fun _ _ => rfl)) pe_int (nomark _))
        (pss_cons (ps_set (i := 2) scD.nd rfl (.inl rfl) (pe_op op_mod (pe_callTy call_int1 (by rfl) T.int (by decide +kernel) (pa_cons (pe_ix ix_list (pv 0) pe_int (fun _ _ => rfl)) pa_nil)) (pv 1)))
        (pss_cons (ps_asg (pe_op op_fdiv (pe_ix ix_list (pv 0) pe_int (fun _ _ => rfl)) (pv 1)) (pg_sub (pv 0) pe_int set_list))
        (pss_one (ps_ret (pv 2))))) pss_nil)
      (pss_cons (ps_asg (pe_op op_add (pe_ix ix_list (pv 0) pe_int (fun _ _ => rfl)) pe_int) (pg_sub (pv 0) pe_int set_list))
      (pss_cons (ps_set (i := 3) scD.nd rfl (.inl rfl) (pe_op op_mod (pe_callTy call_int1 (by rfl) T.int (by decide +kernel) (pa_cons
        (pe_op op_mul (pe_op op_add (pe_op op_add (pe_ix ix_list (pv 0) pe_int (fun _ _ => rfl)) (pe_op op_mul pe_int (pe_ix ix_list (pv 0) pe_int (fun _ _ => rfl)))) pe_int) pe_int) pa_nil)) pe_int))
      (pss_cons (ps_set (i := 3) scD.nd rfl (.inl rfl) (pe_op op_mod (pe_callTy call_int1 (by rfl) T.int (by decide +kernel) (pa_cons
        (pe_op op_mul (pv 3) (pe_op op_add (pe_op op_add (pe_op op_fdiv (pv 3) pe_int) pe_int) (pe_ix ix_list (pv 0) pe_int (fun _ _ => rfl)))) pa_nil)) pe_int))
      (pss_one (ps_ret (pe_op op_mod (pe_callTy call_int1 (by rfl) T.int (by decide +kernel) (pa_cons
        (pe_op op_fdiv (pe_op op_mod (pe_callTy call_int1 (by rfl) T.int (by decide +kernel) (pa_cons (pe_op op_mul (pv 3) (pe_op op_add (pe_op op_fdiv (pv 3) pe_int) pe_int)) pa_nil)) pe_int) pe_int) pa_nil)) (pv 1))))))), ?_⟩
    refine ⟨_, rfl, l, _, _, _, rfl, rfl, SqL.of hl, atI_nat (j := 0) rfl, _, _, rfl, rfl, _, rfl, ?_⟩
    refine ite2 (fun c0 => ?_) (fun c0 => ?_)
    · refine ⟨_, rfl, l, _, _, _, rfl, rfl, SqL.of hl, atI_nat (j := 0) rfl, .inl ⟨_, rfl, _, rfl, _, _, rfl, rfl, m0, ?_⟩⟩
      refine ⟨_, rfl, l, _, _, _, rfl, rfl, SqL.of hl, atI_nat (j := 0) rfl, _, rfl, _, _, rfl, rfl, ⟨m0, m1⟩, ?_⟩
      refine ⟨_, rfl, l, _, _, 0, rfl, rfl, hl, rfl, ?_⟩
      exact ⟨_, rfl, k _ _ (Int.emod_nonneg _ (by omega)) (Int.emod_lt_of_pos _ m0) ⟨_, _, _, upd_same, Int.ediv_nonneg ha (by omega), hb, hc⟩⟩
    · refine ⟨_, rfl, l, _, _, _, rfl, rfl, SqL.of hl, atI_nat (j := 2) rfl, _, _, rfl, rfl, _, rfl, l, _, _, 2, rfl, rfl, hl, rfl, ?_⟩
      generalize hH : upd H l _ = H1
      have h1 : H1 l = some (.lst [.int a, .int b, .int (c + 1)]) := by rw [← hH]; exact upd_same
      refine ⟨_, rfl, l, _, _, _, rfl, rfl, SqL.of h1, atI_nat (j := 1) rfl, _, rfl, l, _, _, _, rfl, rfl, SqL.of h1, atI_nat (j := 2) rfl, _, _, rfl, rfl, .inl ⟨by decide, by decide⟩, _, _, rfl, rfl, _, _, rfl, rfl, _, _, rfl, rfl, .inr ⟨by decide, by decide⟩,
        .inl ⟨_, rfl, _, _, rfl, rfl, (by show (0 : Int) < 2147483647; decide), ?_⟩⟩
      generalize hn : (b + 104729 * (c + 1) + 11) * 48271 % 2147483647 = n
      have n0 : 0 ≤ n := by omega
      have n1 : n < 2147483647 := by omega
      refine ⟨_, rfl, _, rfl, _, _, rfl, rfl, ⟨by decide, by decide⟩, _, _, rfl, rfl, _, rfl, l, _, _, _, rfl, rfl, SqL.of h1, atI_nat (j := 2) rfl, _, _, rfl, rfl, _, _, rfl, rfl, .inl ⟨by omega, by omega⟩,
        .inl ⟨_, rfl, _, _, rfl, rfl, (by show (0 : Int) < 2147483587; decide), ?_⟩⟩
      generalize hn2 : n * (n / 1009 + 69621 + (c + 1)) % 2147483587 = n2
      have n3 : 0 ≤ n2 := by rw [← hn2]; exact Int.emod_nonneg _ (by decide)
      have n4 : n2 < 2147483587 := by rw [← hn2]; exact Int.emod_lt_of_pos _ (by decide)
      refine ⟨_, rfl, _, rfl, _, _, rfl, rfl, ⟨by decide, by decide⟩, _, _, rfl, rfl, _, _, rfl, rfl, .inl ⟨by omega, by omega⟩, .inl ⟨_, rfl, _, _, rfl, rfl, (by show (0 : Int) < 2147483563; decide), _, _, rfl, rfl, ⟨by decide, by decide⟩,
        .inl ⟨_, rfl, _, rfl, _, _, rfl, rfl, m0, ?_⟩⟩⟩
      rw [← hH]
      exact k _ _ (Int.emod_nonneg _ (by omega)) (Int.emod_lt_of_pos _ m0) ⟨_, _, _, upd_same, ha, hb, by omega⟩
end
end Q9
end
-- QForms
section
set_option maxRecDepth 100000
set_option maxHeartbeats 4000000
namespace Q9
open PySem L2
/-! ### the mirror -/
abbrev Letters : Str := "abcdefghijklmnopqrstuvwxyz"
abbrev Capitals : Str := "ABCDEFGHIJKLMNOPQRSTUVWXYZ"
def nameB (z : Str) : Bool := decide ((z.length : Int) ≤ 8) && (Txt.isascii z && (Txt.isalpha z && Txt.islower z))
def errorB (z : Str) : Bool := decide ((z.length : Int) ≤ 8) && (Txt.isascii z && (Txt.isalpha z && Txt.isupper z))
def wordB (z : Str) : Bool := errorB z || (decide (z = "yes") || decide (z = "no"))
/-! ### the promises: each new heap has all that stood -/
/-- x is a list or a tuple of xs -/
def Row (K : PySem.W.Frag) (H : Hp) (x : V) (xs : List V) : Prop := ∃ a, x = .ref a ∧ (SqL K H a xs ∨ SqT K H a xs)
/-- x is of the built-in type T, or whatever t -/
def OfTy (K : PySem.W.Frag) (H : Hp) (x : V) (T : String) (b : Bool) : Prop := ∃ t, TyX K H x t ∧ PySem.W.kitOne K t (.type T) = some b
def spIsRow (K : PySem.W.Frag) : Sp := fun vs H Q _ => ∃ x, vs = [x] ∧ ((∃ xs, Row K H x xs ∧ ∀ H', Same H H' → Q (.bl true) H') ∨ ∃ t, TyX K H x t ∧ PySem.W.kitOne K t (.type "list") = some false ∧ PySem.W.kitOne K t (.type "tuple") = some false ∧ ∀ H', Same H H' → Q (.bl false) H')
structure TForm (K : PySem.W.Frag) (mg : Str → Option Value) (fRow : Addr) : Prop where
  isi : mg "isinstance" = none
  lst : mg "list" = none
  tup : mg "tuple" = none
  str : mg "str" = none
  len : mg "len" = none
  all : mg "all" = none
  set : mg "set" = none
  most : ∃ t, mg "MOST_SIGNS" = some (.int 8 t)
  gRow : mg "is_row" = some (.ref fRow)
  kRow : PySem.W.keepIn K (.ref fRow) = true
theorem row_up {K : PySem.W.Frag} {H H' : Hp} {x : V} {xs : List V} (s : Same H H') (r : Row K H x xs) : Row K H' x xs := by
  obtain ⟨a, e, r⟩ := r
  refine ⟨a, e, r.imp (fun h => s.seq h) fun h => ?_⟩
  rcases h with (h | ⟨o, h⟩) | h
  · exact .inl (.inl (s _ _ h))
  · exact .inl (.inr ⟨o, s _ _ h⟩)
  · exact .inr h
theorem same_upd {H : Hp} {p : Addr} {o : HO} (h : H p = none) : Same H (upd H p o) := fun b u e => by rw [upd_ne (ne_of_none e h)]; exact e
/-! ### a row walked, be it a list or a tuple -/
def iRow (K : PySem.W.Frag) (tl : TE) : TI := fun σ H R => tl σ H fun x H1 => ∃ xs, Row K H1 x xs ∧ ∀ (J : It) (G : Hp → Prop), (∀ H', Same H1 H' → G H') → Walk J xs.length G (YAt xs) → R J H1
theorem pi_row {X : Cx} {tg l : Expr} {tl : TE} (hl : PE X l tl) : PI X tg l (iRow X.K tl) := by
  refine ⟨fun pins s σ H R I h => ?_⟩
  refine thn (hl.run pins s σ H _ I h) fun v s1 ⟨x, H1, I1, r1, xs, ⟨a, e, hq⟩, q⟩ => ?_
  subst e
  cases r1
  have one : ∀ b ∈ [s1.heap.objs.size], FpOk X pins H1 b := fun b hb => by
    obtain rfl : b = s1.heap.objs.size := by simpa using hb
    exact I1.fpOk (Nat.le_refl _) (I1.hok.fresh (Nat.le_refl _))
  rcases hq with hq | hq
  · obtain ⟨its, rv, p, hz⟩ := I1.list hq
    exact PySem.wpAny_pyIter_list p.isList ⟨s1.heap.objs.size, [s1.heap.objs.size], _, _, H1, rfl, I1.kept (t' := s1.toks) fun b o e => Heap.get?_push_of_some _ e, turn_list a _, ⟨_, Heap.get?_push_size _ rfl, rfl, rfl⟩, one,
      q _ (fun H' => SqL X.K H' a xs) (fun H' s => s.seq hq) walk_list⟩
  · obtain ⟨its, rv, p, hz⟩ := I1.tuple hq
    refine PySem.wpAny_pyIter_tuple (show s1.heap.IsTuple a its.toArray from p) ⟨s1.heap.objs.size, [s1.heap.objs.size], _, _, H1, rfl, I1.kept (t' := s1.toks) fun b o e => Heap.get?_push_of_some _ e, turn_tuple a _, ⟨_, Heap.get?_push_size _ rfl, rfl, rfl⟩, one,
      q _ (fun H' => SqT X.K H' a xs) (fun H' s => ?_) walk_tup⟩
    rcases hq with (h | ⟨o, h⟩) | h
    · exact .inl (.inl (s _ _ h))
    · exact .inl (.inr ⟨o, s _ _ h⟩)
    · exact .inr h
/-- len of a list or a tuple -/
def rLenRow (K : PySem.W.Frag) : List V → Hp → VK → Prop := fun vs H Q => ∃ (x : V) (xs : List V), vs = [x] ∧ Row K H x xs ∧ Q (.int xs.length) H
theorem cr_lenRow {X : Cx} : CallR X (.builtin "len") (rLenRow X.K) := by
  intro pins s σ H vs us Q I r h
  obtain ⟨x, xs, rfl, ⟨a, rfl, hq⟩, q⟩ := h
  exact call_len_seq pins s σ H _ us Q I r ⟨a, xs, rfl, hq, q⟩
/-! ### how many unlike ones -/
theorem nodup_le {α : Type} [DecidableEq α] : ∀ (ks l : List α), ks.Nodup → (∀ k ∈ ks, k ∈ l) → ks.length ≤ l.length
  | [], _, _, _ => Nat.zero_le _
  | k :: ks, l, nd, sub => by
    obtain ⟨h1, h2⟩ := List.nodup_cons.mp nd
    have hk := sub k List.mem_cons_self
    have ih := nodup_le ks (l.erase k) h2 fun j hj => (List.mem_erase_of_ne (fun (e : j = k) => h1 (e ▸ hj))).mpr (sub j (List.mem_cons_of_mem _ hj))
    rw [List.length_erase_of_mem hk] at ih
    have := List.length_pos_of_mem hk
    rw [List.length_cons]
    omega
theorem shorter {α : Type} [DecidableEq α] : ∀ l : List α, ¬ l.Nodup → ∃ l' : List α, (∀ k ∈ l, k ∈ l') ∧ l'.length < l.length
  | [], h => (h List.nodup_nil).elim
  | x :: r, h => by
    by_cases hx : x ∈ r
    · exact ⟨r, fun k hk => (List.mem_cons.mp hk).elim (fun e => e ▸ hx) id, Nat.lt_succ_self _⟩
    · obtain ⟨r', h1, h2⟩ := shorter r fun nd => h (List.nodup_cons.mpr ⟨hx, nd⟩)
      exact ⟨x :: r', fun k hk => (List.mem_cons.mp hk).elim (fun e => e ▸ List.mem_cons_self) fun z => List.mem_cons_of_mem _ (h1 k z), by simpa using h2⟩
/-- as many unlike ones as there are: no one twice -/
theorem unlike_len {α : Type} [DecidableEq α] {ks l : List α} (nd : ks.Nodup) (e : ∀ k, k ∈ ks ↔ k ∈ l) : ks.length = l.length ↔ l.Nodup := by
  constructor
  · intro h
    by_cases n : l.Nodup
    · exact n
    · obtain ⟨l', h1, h2⟩ := shorter l n
      have := nodup_le ks l' nd fun k hk => h1 k ((e k).1 hk)
      omega
  · intro n
    exact Nat.le_antisymm (nodup_le ks l nd fun k hk => (e k).1 hk) (nodup_le l ks n fun k hk => (e k).2 hk)
theorem fewIn_of_len {l : List Key} (h : l.length + 1 < scanBound) : FewIn l := fun ks nd sub => Nat.lt_of_le_of_lt (Nat.succ_le_succ (nodup_le ks l nd sub)) h
theorem nodup_map_inr (ss : List Str) : (ss.map (Sum.inr : Str → Key)).Nodup ↔ ss.Nodup := by
  constructor
  · intro h
    exact List.Pairwise.of_map _ (fun _ _ ne e => ne (congrArg _ e)) h
  · intro h
    exact List.Pairwise.map _ (fun _ _ ne e => ne (Sum.inr.inj e)) h
section
variable {P : Program} {w : World} {K : PySem.W.Frag} {mg : Str → Option Value} {base : Heap} {fRow : Addr}
theorem row_ty {H : Hp} {x : V} {xs : List V} (r : Row K H x xs) : TyX K H x (.type "list") ∨ TyX K H x (.type "tuple") := by
  obtain ⟨a, rfl, r | r⟩ := r
  · left
    rcases r with (h | ⟨o, h⟩) | ⟨o, its, n, h1, h2, _⟩
    · exact .base (.lst h)
    · exact .base (.frz h)
    · exact .kList h1 h2
  · right
    rcases r with (h | ⟨o, h⟩) | ⟨o, its, n, h1, h2, _⟩
    · exact .base (.tup h)
    · exact .fTuple h
    · exact .kTuple h1 h2
theorem same_ty {H H' : Hp} {x : V} {t : Value} (s : Same H H') (ty : TyX K H x t) : TyX K H' x t := by
  cases ty with
  | base b => exact .base (by
      cases b with
      | non => exact .non
      | bl y => exact .bl y
      | int i => exact .int i
      | str y => exact .str y
      | flt y => exact .flt y
      | lst e => exact .lst (s _ _ e)
      | frz e => exact .frz (s _ _ e)
      | tup e => exact .tup (s _ _ e)
      | dK e => exact .dK (s _ _ e)
      | dT e => exact .dT (s _ _ e)
      | ins e cl ha hn htk hm => exact .ins (s _ _ e) cl ha hn htk hm)
  | byt b => exact .byt b
  | set e => exact .set (s _ _ e)
  | kList e c => exact .kList e c
  | kTuple e c => exact .kTuple e c
  | kDict e c => exact .kDict e c
  | fTuple e => exact .fTuple (s _ _ e)
  | fDict e => exact .fDict (s _ _ e)
theorem scRow : FnScope ["thing"] ["thing"] (defScope sIsRow) := ⟨rfl, rfl, rfl, by decide +kernel, rfl, by decide +kernel, by decide +kernel⟩
theorem ok_row {f : Addr} {fd : FuncData} (F : Fun K "is_row" "is_row" sIsRow f fd) (T : TForm K mg fRow) : FnOk P w K mg base CX0 1 f fd ["thing"] (spIsRow K) := by
  refine F.ok scRow (fun vs H Q E h => ?_) (fun cdv A outer s H vs Q E hr h => ?_)
  · obtain ⟨x, rfl, _⟩ := h
    rfl
  · obtain ⟨x, rfl, h⟩ := h
    refine ⟨_, pss_one (ps_ret (pe_callB call_isiT (by rfl) T.isi (by decide +kernel) (pa_cons (pv 0) (pa_cons (pe_tup (pa_cons (pe_bltn (v := .ty "list") (by rfl) T.lst (by decide +kernel) rfl) (pa_cons (pe_bltn (v := .ty "tuple") (by rfl) T.tup (by decide +kernel) rfl) pa_nil))) pa_nil)))), ?_⟩
    refine ⟨_, rfl, (by show 2 ≤ sizeLine; decide), fun t ht => ?_⟩
    have sm := same_upd (o := .tup [.ty "list", .ty "tuple"]) ht
    have pr : Paired ClsV [V.ty "list", V.ty "tuple"] [Value.type "list", Value.type "tuple"] := .cons (.ty _) (.cons (.ty _) .nil)
    rcases h with ⟨xs, r, q⟩ | ⟨tt, ty, e1, e2, q⟩
    · rcases row_ty r with ty | ty
      · exact ⟨x, t, _, _, _, true, rfl, upd_same, pr, same_ty sm ty, kitAny_cons (b := true) (kit_ty (by decide +kernel)) (fun z => nomatch z) fun _ => rfl, q _ sm⟩
      · exact ⟨x, t, _, _, _, true, rfl, upd_same, pr, same_ty sm ty, kitAny_cons (b := false) (kit_ty (by decide +kernel)) (fun _ => kitAny_cons (b := true) (kit_ty (by decide +kernel)) (fun z => nomatch z) fun _ => rfl) (fun z => nomatch z), q _ sm⟩
    · exact ⟨x, t, _, _, _, false, rfl, upd_same, pr, same_ty sm ty, kitAny_cons e1 (fun _ => kitAny_cons e2 (fun _ => kitAny_nil) (fun z => nomatch z)) (fun z => nomatch z), q _ sm⟩
end
end Q9
end
-- QTupRules
section
set_option maxRecDepth 100000
set_option maxHeartbeats 4000000
namespace Q9
open PySem PySem.Spec PyProof.Rows L2
theorem flat_mix {P : Program} {w : World} : Flat8 (mixKind P w) := by
  intro k v n h
  rcases keyIs_shape (show keyIs k v = true from h) with ⟨i, t, _, rfl⟩ | ⟨x, t, _, rfl⟩
  · refine ⟨⟨true, ?_⟩, ?_⟩
    · unfold hashByValue; rfl
    · unfold ofAClassStatement; rfl
  · refine ⟨⟨false, ?_⟩, ?_⟩
    · unfold hashByValue; rfl
    · unfold ofAClassStatement; rfl
/-- a set of tuples of keys at a; the tuples stand elsewhere -/
def TObj (P : Program) (w : World) (h : Heap) (a : Addr) (L : Mem Key) : Prop := ∃ (es : Array (Int × Value)) (ep : Nat) (t : SetTable), (∃ o, h.get? a = some o ∧ o.ExactSet ∧ o.data = .set es ep t) ∧ es.toList = rowsT (mixKind P w) L ∧
  TabOk t (hashesT (mixKind P w) L) ∧ (L.map (·.2)).Nodup ∧ L.length * 5 < t.mask * 3 ∧ L.length < 64
def SetTs (P : Program) (w : World) (a : Addr) (L : Mem Key) : HO := .ext fun h => TObj P w h a L
/-- the tuples themselves -/
def Tups (H : Hp) (L : Mem Key) : Prop := ∀ p ∈ L, H p.1 = some (.tup (p.2.map kV))
section
variable {X : Cx} {pins : List (Addr × Obj)} {σ : L2.St} {H : Hp} {s : Shared} {a : Addr} {L : Mem Key}
theorem tobj_of {P : Program} {w : World} {h : Heap} {es : Array (Int × Value)} {ep : Nat} {t : SetTable} (R : TSet (mixKind P w) h a L es ep t) : TObj P w h a L := ⟨es, ep, t, R.ob, R.rows, R.tab, R.nd, R.room, R.few⟩
theorem setTs_ok {P : Program} {w : World} {H : Hp} {h : Heap} (R : TObj P w h a L) : ObjOk P w H h a (SetTs P w a L) := by
  obtain ⟨es, ep, t, ⟨o, ho, hx, hd⟩, r⟩ := R
  exact ⟨⟨es, ep, t, ⟨o, ho, hx, hd⟩, r⟩, ⟨o, ho⟩, fun h1 h2 ⟨es, ep, t, ⟨o, ho, hx, hd⟩, r⟩ k => ⟨es, ep, t, ⟨o, k o ho, hx, hd⟩, r⟩⟩
theorem setTs_get (I : Inv X pins σ H s) (ha : H a = some (SetTs X.prog X.w a L)) (tp : Tups H L) : ∃ es ep t, TSet (mixKind X.prog X.w) s.heap a L es ep t := by
  have q : ObjOk X.prog X.w H s.heap a (.ext fun h => TObj X.prog X.w h a L) := I.hok a _ ha
  obtain ⟨es, ep, t, ob, rows, tab, nd, room, few⟩ := q.1
  exact ⟨es, ep, t, ob, rows, tab, nd, fun p hp => key_of I.hok (tp p hp), room, few⟩
/-- found.add(t), over the layer -/
theorem add_ts {k : List Key} {b : Addr} {Q : Value → Shared → Prop} {E : Value → Shared → Prop} {A : Around} (hu : A.in1.units < cLine) (I : Inv X pins σ H s) (ha : H a = some (SetTs X.prog X.w a L)) (tp : Tups H L) (eb : H b = some (.tup (k.map kV))) (room : L.length + 1 < 64)
    (hQ : ∀ s' L', MoreT b k L L' → Inv X pins σ (upd H a (SetTs X.prog X.w a L')) s' → Q .none s') : wpAny (model X.prog X.w) A (call (.builtin "set.add") [.ref a, .ref b]) Q E s := by
  obtain ⟨es, ep, t, R⟩ := setTs_get I ha tp
  have hk : IsTupleKey (mixKind X.prog X.w) s.heap k b := key_of I.hok eb
  have hT : s.TypeIs (.ref a) "set" := by
    obtain ⟨o, ho, hx, _⟩ := R.ob
    exact ⟨o, ho, hx.1⟩
  refine wpAny_call_entry F.slot_set_add hT F.entry_set_add ?_ (F.args_set_add_2 _ _)
  unfold Builtin.«set.add» Builtin.Frozenset.oneOther
  simp only [List.isEmpty_nil, bind_assoc]
  unfold Builtin.Frozenset.addrOf setAdd
  refine wpAny_bind (wpAny_pure ?_)
  try dsimp only
  refine wpAny_bind (wpAny_pure ?_)
  try dsimp only
  refine wpAny_bind (wpAny_holding (wpAny_bind (wpAny_pyHash_tuple hu hk ?_)))
  refine tset_add (s := { s with toks := s.toks + (k.length + 1) }) flat_mix R hk hu room fun b' h' L' es' ep' t' sb RS more => ?_
  show wpAny _ _ (ret Value.none) _ _ _
  refine wpAny_pure ⟨_, rfl, hQ _ L' more ?_⟩
  have he : ∃ q, h'.get? a = some q := let ⟨o, ho, _⟩ := RS.ob; ⟨o, ho⟩
  exact I.write (e := a) (t' := s.toks + (k.length + 1)) (by rw [ha]; trivial) (.inl rfl) (fun c u hc hu => (sb.2 c hc).trans hu) he (setTs_ok (tobj_of RS))
/-- len of such a set -/
def rLenTs (P : Program) (w : World) : List V → Hp → VK → Prop := fun vs H Q => ∃ (a : Addr) (L : Mem Key), vs = [V.ref a] ∧ H a = some (SetTs P w a L) ∧ Q (.int L.length) H
theorem cr_lenTs : CallR X (.builtin "len") (rLenTs X.prog X.w) := by
  intro pins s σ H vs us Q I r h
  obtain ⟨a, L, rfl, ha, q⟩ := h
  rw [Vals.ref1 r]
  have x : ObjOk X.prog X.w H s.heap a (.ext fun h => TObj X.prog X.w h a L) := I.hok a _ ha
  obtain ⟨es, ep, t, ⟨o, ho, hex, hd⟩, rows, tab, nd, room, few⟩ := x.1
  have e : es.size = L.length := rows_size rows
  have hf : t.fits es.size = true := by
    have h1 := tab.sz
    rw [hashesT, List.length_map] at h1
    unfold SetTable.fits SetTable.fill
    rw [tab.dm, Bool.and_eq_true, beq_iff_eq, decide_eq_true_eq]
    show t.place.size = es.size ∧ t.place.size + 0 ≤ t.mask
    omega
  refine call_len_set ho hex hd hf (by rw [e]; omega) ⟨.int L.length, H, I.tok _, ⟨_, by rw [e]⟩, q⟩
end
section
variable {X : Cx} {elt tg iter : Expr} {ifs : List Expr} {scope : Scope} {pos : Pos} {own : List (PySem.Str × Nat)} {wi : TI} {g : TG} {tt : TT} {te : TE}
def rAddT (P : Program) (w : World) (te : TE) : TailR := fun D σ H Nx => te σ H fun y H4 => ∃ (b : Addr) (k : List Key) (L : Mem Key), y = .ref b ∧ H4 b = some (.tup (k.map kV)) ∧ H4 D = some (SetTs P w D L) ∧ Tups H4 L ∧ L.length + 1 < 64 ∧
  ∀ L', MoreT b k L L' → Nx (upd H4 D (SetTs P w D L'))
/-- {e for .. in ..}, the elements tuples -/
theorem pe_scT (hu : X.A.in1.units < cLine) (hc : X.calm = true) (hN : X.N.Nodup) (hi : PI X tg iter wi) (ok : BlkOk X.N X.env.scope scope own)
    (hg : ∀ (s : Shared) (H : Hp) (C : Addr) (cl : List (PySem.Str × Addr)) (fp : List Addr), PG (X.blk s H scope (compEnvC scope cl C X.env) fp) tg g)
    (ht : ∀ (s : Shared) (H : Hp) (C : Addr) (cl : List (PySem.Str × Addr)) (fp : List Addr), PTs (X.blk s H scope (compEnvC scope cl C X.env) fp) ifs tt)
    (he : ∀ (s : Shared) (H : Hp) (C : Addr) (cl : List (PySem.Str × Addr)) (fp : List Addr), PE (X.blk s H scope (compEnvC scope cl C X.env) fp) elt te)
    (hs : ∀ x, foldedSetIterable iter X.env x = pure x := by intro _; rfl) :
    PE X (.SetComp elt [⟨tg, iter, ifs, 0⟩] scope pos) (tColl (fun D => SetTs X.prog X.w D []) wi g tt (rAddT X.prog X.w te) (own.map (·.2))) := by
  refine pe_coll kind_set hc hN hi ok (fun H h _ => setTs_ok (tobj_of (tset_fresh (led := !X.w.params.followText "set-order") (Heap.get?_push_size (o := emptySet X.w) h rfl)))) hg ht ?_ ?_ hs
  · intro s H C cl fp pins s1 σ1 H1 D Nx E I h
    refine thnF ((he s H C cl fp).run pins s1 σ1 H1 _ I h) fun u s2 ⟨y, H2, I2, r2, b, k, L, ey, eb, hD, tp, room, nx⟩ => ?_
    subst ey
    cases r2
    exact add_ts (X := X.blk s H scope (compEnvC scope cl C X.env) fp) hu I2 hD tp eb room fun s' L' mo I3 => ⟨_, I3, nx L' mo⟩
  · intro env acc E Q Q' s h m
    exact thn h fun x s4 h4 => thn h4 fun _ s5 q => m s5 q
end
end Q9
namespace Q9
open PySem L2
/-- what a walk over tgt has gathered behind i turns -/
structure CollT (tgt : List (List Key)) (i : Nat) (L : Mem Key) : Prop where
  nd : (L.map (·.2)).Nodup
  mem : ∀ k, k ∈ L.map (·.2) ↔ k ∈ tgt.take i
theorem CollT.zero (tgt : List (List Key)) : CollT tgt 0 [] := ⟨List.nodup_nil, fun k => by simp⟩
theorem CollT.next {tgt : List (List Key)} {i : Nat} {L L' : Mem Key} {k : List Key} {b : Addr} (c : CollT tgt i L) (h : tgt[i]? = some k) (m : MoreT b k L L') : CollT tgt (i + 1) L' := by
  have e : tgt.take (i + 1) = tgt.take i ++ [k] := take_one_more h
  rcases m with ⟨hm, rfl⟩ | ⟨hm, p⟩
  · refine ⟨c.nd, fun j => ?_⟩
    rw [e, List.mem_append, List.mem_singleton, c.mem j]
    exact ⟨.inl, fun z => z.elim id fun z => z ▸ (c.mem k).1 hm⟩
  · have pm := p.map (·.2)
    refine ⟨pm.nodup_iff.mpr (List.nodup_cons.mpr ⟨hm, c.nd⟩), fun j => ?_⟩
    rw [pm.mem_iff, e, List.mem_append, List.mem_singleton, List.map_cons, List.mem_cons, c.mem j]
    exact Or.comm
theorem CollT.len_le {tgt : List (List Key)} {i : Nat} {L : Mem Key} (c : CollT tgt i L) : L.length ≤ i := by
  have h := nodup_le (L.map (·.2)) (tgt.take i) c.nd fun k hk => (c.mem k).1 hk
  rw [List.length_map, List.length_take] at h
  omega
theorem CollT.all {tgt : List (List Key)} {L : Mem Key} (c : CollT tgt tgt.length L) : L.length = tgt.length ↔ tgt.Nodup := by
  have h := unlike_len c.nd (l := tgt) fun k => by rw [c.mem k, List.take_length]
  rwa [List.length_map] at h
end Q9
end
-- QItems
section
set_option maxRecDepth 100000
set_option maxHeartbeats 4000000
namespace Q9
open PySem PySem.Spec PyProof.Rows L2
/-! ### many new things at once -/
/-- the things os at the addresses as -/
def lay : Hp → List Addr → List HO → Hp
  | H, a :: as, o :: os => lay (upd H a o) as os
  | H, _, _ => H
theorem lay_off {b : Addr} : ∀ (as : List Addr) (os : List HO) (H : Hp), b ∉ as → lay H as os b = H b
  | [], os, _, _ => by cases os <;> rfl
  | _ :: _, [], _, _ => rfl
  | a :: as, o :: os, H, n => by
    have n' : b ≠ a ∧ b ∉ as := ⟨fun z => n (z ▸ List.mem_cons_self), fun z => n (List.mem_cons_of_mem _ z)⟩
    show lay (upd H a o) as os b = H b
    rw [lay_off as os _ n'.2, upd_ne n'.1]
theorem lay_at : ∀ (as : List Addr) (os : List HO) (H : Hp) (j : Nat) (a : Addr) (o : HO), as.Nodup → as[j]? = some a → os[j]? = some o → lay H as os a = some o
  | [], _, _, j, _, _, _, h, _ => by cases h
  | _ :: _, [], _, j, _, _, _, _, h => by cases h
  | a :: as, o :: os, H, 0, b, u, nd, h1, h2 => by
    cases Option.some.inj h1
    cases Option.some.inj h2
    show lay (upd H a o) as os a = some o
    rw [lay_off as os _ (List.nodup_cons.mp nd).1, upd_same]
  | a :: as, o :: os, H, j + 1, b, u, nd, h1, h2 => lay_at as os (upd H a o) j b u (List.nodup_cons.mp nd).2 (by simpa using h1) (by simpa using h2)
section
variable {X : Cx} {pins : List (Addr × Obj)} {σ : L2.St} {H : Hp} {s : Shared}
/-- the state behind a call that laid the things os at as, all new, and kept all else -/
theorem inv_lay (I : Inv X pins σ H s) {s' : Shared} {as : List Addr} {os : List HO} (k : Keeps s.heap s'.heap) (g : s'.gens = s.gens) (eo : s'.os = s.os) (len : as.length = os.length) (nd : as.Nodup) (new : ∀ a ∈ as, s.heap.objs.size ≤ a)
    (ok : ∀ (j : Nat) (a : Addr) (o : HO), as[j]? = some a → os[j]? = some o → ObjOk X.prog X.w (lay H as os) s'.heap a o) : Inv X pins σ (lay H as os) s' := by
  have fr : ∀ a ∈ as, H a = none := fun a ha => I.hok.fresh (new a ha)
  have low : ∀ b o, s.heap.get? b = some o → b ∉ as := fun b o e z => Nat.not_lt.mpr (new b z) (Heap.lt_size e)
  have keep : ∀ b u, H b = some u → lay H as os b = some u := fun b u e => by
    rw [lay_off as os H fun z => nomatch (fr b z).symm.trans e]
    exact e
  have un : Un (frs X.stack) [] H (lay H as os) s.heap s'.heap := {
    keep := fun b o q _ _ _ => k b o q
    slot := fun b o q _ _ _ => ⟨o.slots, k b o q⟩
    free := fun b o q n _ => (lay_off as os H (low b o q)).trans n
    there := fun b o q _ => ⟨o, k b o q⟩
    tups := fun b xs q => keep b _ q
    frzs := fun b o u q => keep b _ q
    tbls := fun b ps q => ⟨#[], by rw [Array.append_empty]; exact keep b _ q⟩ }
  refine I.call' (ch := []) eo un (fun b u e => ?_) (by rw [g]; exact I.bare) fun _ z => nomatch z
  by_cases hb : b ∈ as
  · obtain ⟨j, hj⟩ := List.mem_iff_getElem?.mp hb
    have jl : j < os.length := by rw [← len]; exact (List.getElem?_eq_some_iff.mp hj).1
    have e2 := lay_at as os H j b os[j] nd hj (List.getElem?_eq_getElem jl)
    rw [e2] at e
    cases e
    exact ok j b _ hj (List.getElem?_eq_getElem jl)
  · rw [lay_off as os H hb] at e
    exact (I.hok b u e).stay (fun c v _ q => k c v q) (fun c q => keep c _ q) fun c xs q => keep c _ q
/-- at t: the tuple of a key (a tuple of keys) and its value -/
def PairT (H : Hp) (t : Addr) (kv : List Key × V) : Prop := ∃ q, H t = some (.tup [.ref q, kv.2]) ∧ H q = some (.tup (kv.1.map kV))
def rItemsT : V → Hp → VK → Prop := fun x H Q => ∃ (d : Addr) (kvs : List (List Key × V)), x = .ref d ∧ H d = some (.dT kvs) ∧
  ∀ (H' : Hp) (p : Addr) (ts : List Addr), Same H H' → H p = none → (∀ t ∈ ts, H t = none) → p ∉ ts → H' p = some (.lst (ts.map V.ref)) → Paired (PairT H') ts kvs → Q (.ref p) H'
def tListItemsT (te : TE) : TE := fun σ H Q => te σ H fun x H1 => rItemsT x H1 Q
theorem paired_by {α β : Type} {F : α → β → Prop} : ∀ {xs : List α} {ys : List β}, xs.length = ys.length → (∀ (j : Nat) (x : α) (y : β), xs[j]? = some x → ys[j]? = some y → F x y) → Paired F xs ys
  | [], [], _, _ => .nil
  | [], _ :: _, h, _ => by cases h
  | _ :: _, [], h, _ => by cases h
  | x :: xs, y :: ys, h, f => .cons (f 0 x y rfl rfl) (paired_by (Nat.succ.inj h) fun j a b h1 h2 => f (j + 1) a b (by simpa using h1) (by simpa using h2))
variable {e : Expr} {te : TE} {p apos cpos pos : Pos}
/-- list(e.items()), the keys of the dict tuples -/
theorem pe_listItemsT (hc : X.calm = true) (he : PE X e te) (hg : Gl X "list") (hm : X.mg "list" = none) (hv : bootBuiltins "list" = some (.type "list")) (hbase : attributeBase e "items" X.env (eval e X.env) = eval e X.env := by rfl) (hline : (apos.endLine == cpos.line) = true := by rfl)
    (hs : starEach [.Call (.Attribute e "items" apos) [] [] cpos] X.env = (false, eval (.Call (.Attribute e "items" apos) [] [] cpos) X.env) :: starEach [] X.env := by rfl) :
    PE X (.Call (.Name "list" p) [.Call (.Attribute e "items" apos) [] [] cpos] [] pos) (tListItemsT te) := by
  refine ⟨fun pins s σ H Q I hq => wpAny_Call_Name_kw (ld_blt I hg hm hv (PyProof.Rows.callWith_type1 ?_ hs rfl))⟩
  rw [hs]
  show wpAny _ _ (spliced ((false, eval (.Call (.Attribute e "items" apos) [] [] cpos) X.env) :: backTo pos (starEach [] X.env))) _ _ s
  refine Calls.spliced_cons (wpAny_Call_method (T := "dict") (id := "dict.items") hbase rfl hline F.plainAttrs_dict F.slot_dict_items F.type_dict_items (thn (he.run pins s σ H _ I hq) fun u s1 ⟨x, H1, I1, rx, d, kvs, ex, hd, q⟩ => ?_))
  subst ex
  obtain rfl : u = Value.ref d := rx
  obtain ⟨hz, hs0, xs, kt, hdo⟩ := dt_of I1.hok hd
  obtain ⟨es, ep, raw, sz, ents⟩ := hdo.raw
  have lk : kvs.length = xs.length := Paired.length kt
  have I2 : Inv X pins σ H1 { s1 with heap := s1.heap.push { cls := .type "dict_items", data := .fields #[.ref d] } } := I1.kept (t' := s1.toks) fun b ob q => Heap.get?_push_of_some _ q
  refine ⟨raw.typeIs, (fun b e => by cases e; exact let ⟨o, ho, hc, _⟩ := raw; ⟨o, ho, hc.2.1⟩), ?_⟩
  show wpAny _ _ (callWith cpos (.builtin "dict.items") [.ref d] [] []) _ X.xe s1
  refine method_meetsIn F.slot_dict_items F.entry_dict_items rfl (PySem.evalArgs_none ⟨rfl, raw.typeIs, F.args_dict_items_1 _, _, meets_dict_items_raw d hs0, ⟨es, ep, raw⟩, Calls.spliced_nil ?_⟩)
  refine PySem.W.dil_call (I1.ok.hd hc) ⟨_, Heap.get?_push_size _ rfl, rfl, rfl⟩ (raw.push _) (by omega) fun h' tk acc c as hk hS hl hG hacc => ?_
  have size2 : (s1.heap.push { cls := .type "dict_items", data := .fields #[.ref d] }).objs.size = s1.heap.objs.size + 1 := Heap.size_push ..
  generalize eD : (s1.heap.push { cls := .type "dict_items", data := .fields #[.ref d] }).objs.size = D at *
  have nd : (D :: as).Nodup := List.nodup_cons.mpr ⟨fun z => Nat.lt_irrefl _ (hG.above _ z), List.Pairwise.imp (fun {a b} (h : a < b) => Nat.ne_of_lt h) hG.rise⟩
  have new : ∀ a ∈ D :: as, (s1.heap.push { cls := .type "dict_items", data := .fields #[.ref d] }).objs.size ≤ a := fun a ha => by
    rcases List.mem_cons.mp ha with z | z
    · rw [z, eD]; exact Nat.le_refl _
    · rw [eD]; exact Nat.le_of_lt (hG.above a z)
  have los : as.length = ((kvs.zip xs).map fun z => HO.tup [.ref z.2.2.1, z.1.2]).length := by rw [List.length_map, List.length_zip, hl, sz, lk, Nat.min_self]
  have low : ∀ b o, s1.heap.get? b = some o → b ∉ D :: as := fun b o e2 z => by
    have l1 := new b z
    have l2 := Heap.lt_size e2
    rw [eD, size2] at l1
    exact Nat.not_lt.mpr (Nat.le_of_succ_le l1) l2
  have old : ∀ b u, H1 b = some u → lay H1 (D :: as) (.lst (as.map V.ref) :: (kvs.zip xs).map fun z => HO.tup [.ref z.2.2.1, z.1.2]) b = some u := fun b u e2 => by
    rw [lay_off _ _ _ fun z => nomatch (I2.hok.fresh (new b z)).symm.trans e2]
    exact e2
  -- the j-th pair
  have pr : ∀ (j : Nat) (kv : List Key × V), kvs[j]? = some kv → ∃ y, xs[j]? = some y ∧ ((kvs.zip xs).map fun z => HO.tup [.ref z.2.2.1, z.1.2])[j]? = some (.tup [.ref y.2.1, kv.2]) ∧ H1 y.2.1 = some (.tup (kv.1.map kV)) ∧ RelV kv.2 y.2.2 := fun j kv hj => by
    obtain ⟨y, h1, e1, e2, e3⟩ := LiI.paired_get kt hj
    exact ⟨y, h1, by rw [List.getElem?_map, List.getElem?_zip_eq_some (z := (kv, y)) |>.mpr ⟨hj, h1⟩]; rfl, e2, e3⟩
  have J : Inv X pins σ (lay H1 (D :: as) (.lst (as.map V.ref) :: (kvs.zip xs).map fun z => HO.tup [.ref z.2.2.1, z.1.2])) { s1 with heap := h', toks := tk } := by
    refine inv_lay I2 hk rfl rfl (by rw [List.length_cons, List.length_cons, los]) nd new fun j a o h1 h2 => ?_
    cases j with
    | zero =>
      cases Option.some.inj h1
      cases Option.some.inj h2
      refine ⟨by rw [List.length_map]; omega, acc.toList, c, by rw [hacc]; exact LiI.vals_refs as, ?_⟩
      rw [Array.toArray_toList]
      exact hS
    | succ j =>
      have h1' : as[j]? = some a := by simpa using h1
      obtain ⟨hj, at_⟩ := hG.pairs j a h1'
      obtain ⟨y, k1, k2, k3, _⟩ := ents j hj
      have jk : j < kvs.length := by omega
      obtain ⟨y', m1, m2, m3, m4⟩ := pr j _ (List.getElem?_eq_getElem jk)
      rw [k1] at m1
      cases m1
      have h2' : ((kvs.zip xs).map fun z => HO.tup [.ref z.2.2.1, z.1.2])[j]? = some o := by simpa using h2
      rw [m2] at h2'
      cases h2'
      rw [k2, k3] at at_
      exact ⟨by show 2 ≤ sizeLine; decide, [.ref y.2.1, y.2.2], .cons rfl (.cons m4 .nil), _, at_, rfl, _, rfl⟩
  refine ⟨.ref D, _, J, rfl, q _ D as (fun b o e2 => old b o e2) (I2.hok.fresh (new D List.mem_cons_self)) (fun t ht => I2.hok.fresh (new t (List.mem_cons_of_mem _ ht))) (List.nodup_cons.mp nd).1 (lay_at _ _ _ 0 D _ nd rfl rfl) ?_⟩
  refine paired_by (by omega) fun j a kv h1 h2 => ?_
  obtain ⟨y, m1, m2, m3, m4⟩ := pr j kv h2
  exact ⟨y.2.1, lay_at _ _ _ (j + 1) a _ nd (by simpa using h1) (by simpa using m2), old _ _ m3⟩
/-! ### dict(ps), the keys tuples -/
def mergeT (kvs more : List (List Key × V)) : List (List Key × V) := more.foldl (fun acc kv => putK acc kv.1 kv.2) kvs
theorem length_mergeT : ∀ (more kvs : List (List Key × V)), (mergeT kvs more).length ≤ kvs.length + more.length
  | [], kvs => Nat.le_refl _
  | kv :: more, kvs => by
    have h1 := length_mergeT more (putK kvs kv.1 kv.2)
    have h2 := length_putK kvs kv.1 kv.2
    show (mergeT (putK kvs kv.1 kv.2) more).length ≤ _
    rw [List.length_cons]
    omega
theorem kt_merge {H : Hp} {more : List (List Key × V)} {rs : List (List Key × Addr × Value)} (m : KT H more rs) : ∀ {kvs : List (List Key × V)} {xs : List (List Key × Addr × Value)}, KT H kvs xs → KT H (mergeT kvs more) (storedAllH xs rs) := by
  unfold KT at m
  induction m with
  | nil => exact fun r => r
  | @cons p q l m h t ih =>
    intro kvs xs r
    have h' : KT H (putK kvs p.1 p.2) (storedH xs q.1 q.2.1 q.2.2) := by
      rw [← h.1]
      exact KT.put r p.1 h.2.1 h.2.2
    exact ih h' 
theorem rows_of_pairs (I : Inv X pins σ H s) : ∀ {ts : List Addr} {kvs : List (List Key × V)}, Paired (PairT H) ts kvs →
    ∃ rs : List (List Key × Addr × Value), KT H kvs rs ∧ rs.length = ts.length ∧ ∀ (j : Nat) (r : List Key × Addr × Value), rs[j]? = some r → ∃ b, ts[j]? = some b ∧ s.heap.IsTuple b #[.ref r.2.1, r.2.2]
  | _, _, .nil => ⟨[], .nil, rfl, fun j r e => by simp at e⟩
  | _, _, .cons (a := t) (b := kv) ⟨q, h1, h2⟩ rest => by
    obtain ⟨rs, k, l, f⟩ := rows_of_pairs I rest
    obtain ⟨its, rv, ht, _⟩ := I.tuple (.of h1)
    obtain ⟨u, y, ei, ru, ry⟩ := vals2 rv
    subst ei
    cases ru
    refine ⟨(kv.1, q, y) :: rs, .cons ⟨rfl, h2, ry⟩ k, by rw [List.length_cons, List.length_cons, l], fun j r e => ?_⟩
    cases j with
    | zero =>
      cases Option.some.inj e
      exact ⟨t, rfl, ht⟩
    | succ j =>
      obtain ⟨b, e1, e2⟩ := f j r (by simpa using e)
      exact ⟨b, by simpa using e1, e2⟩
def rDictT (K : PySem.W.Frag) : List V → Hp → VK → Prop := fun vs H Q => ∃ (a : Addr) (ts : List Addr) (kvs : List (List Key × V)), vs = [.ref a] ∧ SqL K H a (ts.map V.ref) ∧ Paired (PairT H) ts kvs ∧
  ∀ p, H p = none → Q (.ref p) (upd H p (.dT (mergeT [] kvs)))
theorem cr_dictT (hcalm : X.calm = true) (hu : X.A.in1.in1.units < cLine) : CallR X (.type "dict") (rDictT X.K) := by
  intro pins s σ H vs us Q I r h
  obtain ⟨a, ts, kvs, rfl, hq, hp, q⟩ := h
  rw [Vals.ref1 r]
  obtain ⟨its, rv, pl, hz⟩ := I.list hq
  cases refs_vals rv
  rw [List.length_map] at hz
  obtain ⟨rs, kt, hl, hr⟩ := rows_of_pairs I hp
  obtain ⟨o, n, ho, hc, hd, hdat⟩ := pl
  have len : (rs.map fun r => ((.ref r.2.1, r.2.2) : Value × Value)).length = ts.length := by rw [List.length_map, hl]
  have items : PairItems s.heap (ts.map Value.ref).toArray (fun j => (ts[j]?).getD 0) (rs.map fun r => ((.ref r.2.1, r.2.2) : Value × Value)) := by
    refine ⟨by rw [List.size_toArray, List.length_map, len], fun j k v e => ?_⟩
    rw [List.getElem?_map] at e
    obtain ⟨r, e1, e2⟩ := Option.map_eq_some_iff.mp e
    cases e2
    obtain ⟨b, e3, e4⟩ := hr j r e1
    refine ⟨?_, ?_⟩
    · rw [List.getElem?_toArray, List.getElem?_map, e3]
      show some (Value.ref b) = some (Value.ref ((ts[j]?).getD 0))
      rw [e3]
      rfl
    · show PairAt s.heap ((ts[j]?).getD 0) _ _
      rw [e3]
      exact .inl e4
  refine call_dict_pairsH (knd := tupleKind (mixKind X.prog X.w)) (ps := rs) (PairArg.list a _ _ _) (I.ok.hd hcalm) hu ⟨⟨o, n, ho, hc, hd, hdat⟩, items⟩ ⟨by rw [len, hl], fun i key v e => ?_⟩ (fun h' keep x hx => ?_) (by rw [len]; exact hz) fun h' tk hd' k => ?_
  · have e' : (rs.map fun r => ((.ref r.2.1, r.2.2) : Value × Value))[i]? = some (key, v) := e
    rw [List.getElem?_map] at e'
    obtain ⟨r, e1, e2⟩ := Option.map_eq_some_iff.mp e'
    cases e2
    exact ⟨r.1, r.2.1, e1, rfl⟩
  · obtain ⟨j, hj⟩ := List.mem_iff_getElem?.mp hx
    have jl : j < kvs.length := by rw [Paired.length kt]; exact (List.getElem?_eq_some_iff.mp hj).1
    obtain ⟨y, e1, e2, e3, _⟩ := LiI.paired_get kt (List.getElem?_eq_getElem jl)
    rw [hj] at e1
    cases e1
    rw [e2] at e3
    obtain ⟨o', items', n', g1, g2, g3, g4⟩ := key_of I.hok e3
    exact ⟨o', items', n', keep _ _ (Nat.ne_of_lt (Heap.lt_size g1)) (fun z => nomatch z) g1, g2, g3, g4⟩
  · have k' : Keeps s.heap h' := fun b o e => k b o (fun z => nomatch z) e
    have big : (s.heap.objs.size == sysModules) = false := beq_eq_false_iff_ne.mpr (Nat.ne_of_gt I.big)
    have hn : H s.heap.objs.size = none := I.hok.fresh (Nat.le_refl _)
    have lz : (mergeT [] kvs).length ≤ sizeLine := by
      have := length_mergeT kvs []
      rw [List.length_nil, Nat.zero_add, Paired.length kt, hl] at this
      omega
    obtain ⟨o2, es, ep, g1, g2, g3, g4, _, g5⟩ := hd'
    have J := I.laid (t' := tk) (o := .dT (mergeT [] kvs)) k' (Nat.le_refl _) ⟨lz, big, _, (kt_merge kt .nil).keeps fun b ys e => (by rw [upd_ne (ne_of_none e hn)]; exact e), o2, es, ep, g1, g2, g3, g4, g5⟩
    exact ⟨.ref _, _, J, rfl, q _ hn⟩
end
end Q9
end
-- QForms2
section
set_option maxRecDepth 100000
set_option maxHeartbeats 4000000
namespace Q9
open PySem L2
def spIsPair (K : PySem.W.Frag) : Sp := fun vs H Q _ => ∃ x, vs = [x] ∧ ((∃ xs, Row K H x xs ∧ ∀ H', Same H H' → Q (.bl (decide (xs.length = 2))) H') ∨ ∃ t, TyX K H x t ∧ PySem.W.kitOne K t (.type "list") = some false ∧ PySem.W.kitOne K t (.type "tuple") = some false ∧ ∀ H', Same H H' → Q (.bl false) H')
def spForm (K : PySem.W.Frag) (p : Str → Bool) : Sp := fun vs H Q _ => ∃ x, vs = [x] ∧ ((∃ z, x = .str z ∧ z.length ≤ sizeLine ∧ ∀ H', Same H H' → Q (.bl (p z)) H') ∨ (OfTy K H x "str" false ∧ ∀ H', Same H H' → Q (.bl false) H'))
/-- a row of texts: are all of the form, no one twice -/
def spUnlike (K : PySem.W.Frag) (p : Str → Bool) : Sp := fun vs H Q _ => ∃ (x : V) (ss : List Str), vs = [x] ∧ Row K H x (ss.map V.str) ∧ (∀ z ∈ ss, z.length ≤ sizeLine) ∧ ss.length + 1 < scanBound ∧ ∀ H', Same H H' → Q (.bl (ss.all p && decide ss.Nodup)) H'
section
variable {P : Program} {w : World} {K : PySem.W.Frag} {mg : Str → Option Value} {base : Heap} {fRow fName fError : Addr}
theorem scName : FnScope ["thing"] ["thing"] (defScope sIsName) := ⟨rfl, rfl, rfl, by decide +kernel, rfl, by decide +kernel, by decide +kernel⟩
theorem ok_name {f : Addr} {fd : FuncData} (F : Fun K "is_name" "is_name" sIsName f fd) (T : TForm K mg fRow) : FnOk P w K mg base CX0 2 f fd ["thing"] (spForm K nameB) := by
  refine F.ok scName (fun vs H Q E h => ?_) (fun cdv A outer s H vs Q E hr h => ?_)
  · obtain ⟨x, rfl, _⟩ := h
    rfl
  · obtain ⟨x, rfl, h⟩ := h
    obtain ⟨tm, hm⟩ := T.most
    refine ⟨_, pss_one (ps_ret (pe_and (pe_callB call_isi (by rfl) T.isi (by decide +kernel) (pa_cons (pv 0) (pa_cons (pe_bltn (v := .ty "str") (by rfl) T.str (by decide +kernel) rfl) pa_nil)))
      (pe_and (pe_cmpR op_le (pe_callB call_len_str (by rfl) T.len (by decide +kernel) (pa_cons (pv 0) pa_nil)) (pe_glob (v := .int 8) (by rfl) hm ⟨_, rfl⟩) (nomark _))
      (pe_and (pe_m0 PySem.F.slot_str_isascii PySem.F.type_str_isascii mt_isascii (pv 0))
      (pe_and (pe_m0 PySem.F.slot_str_isalpha PySem.F.type_str_isalpha mt_isalpha (pv 0))
      (pe_one (pe_m0 PySem.F.slot_str_islower PySem.F.type_str_islower mt_islower (pv 0)))))))), ?_⟩
    rcases h with ⟨z, rfl, hz, q⟩ | ⟨⟨t, ty, e⟩, q⟩
    · have q' := q H (Same.refl H)
      unfold nameB at q'
      refine ⟨_, rfl, _, _, _, _, true, rfl, .ty _, .base (.str z), kit_ty (by decide +kernel), true, rfl, iteT ?_⟩
      refine ⟨_, rfl, z, rfl, hz, _, _, rfl, rfl, _, rfl, ?_⟩
      cases c1 : decide ((z.length : Int) ≤ 8) with
      | false => rw [c1] at q'; exact iteF q'
      | true =>
        rw [c1, Bool.true_and] at q'
        refine iteT ⟨_, rfl, ⟨_, rfl⟩, z, rfl, rfl, trivial, _, rfl, ?_⟩
        cases c2 : Txt.isascii z with
        | false => rw [c2] at q'; exact iteF q'
        | true =>
          rw [c2, Bool.true_and] at q'
          refine iteT ⟨_, rfl, ⟨_, rfl⟩, z, rfl, rfl, trivial, _, rfl, ?_⟩
          cases c3 : Txt.isalpha z with
          | false => rw [c3] at q'; exact iteF q'
          | true =>
            rw [c3, Bool.true_and] at q'
            exact iteT ⟨_, rfl, ⟨_, rfl⟩, z, rfl, rfl, trivial, q'⟩
    · exact ⟨_, rfl, _, _, _, _, false, rfl, .ty _, ty, e, false, rfl, iteF (q H (Same.refl H))⟩
theorem scError : FnScope ["thing"] ["thing"] (defScope sIsError) := ⟨rfl, rfl, rfl, by decide +kernel, rfl, by decide +kernel, by decide +kernel⟩
theorem ok_error {f : Addr} {fd : FuncData} (F : Fun K "is_error" "is_error" sIsError f fd) (T : TForm K mg fRow) : FnOk P w K mg base CX0 2 f fd ["thing"] (spForm K errorB) := by
  refine F.ok scError (fun vs H Q E h => ?_) (fun cdv A outer s H vs Q E hr h => ?_)
  · obtain ⟨x, rfl, _⟩ := h
    rfl
  · obtain ⟨x, rfl, h⟩ := h
    obtain ⟨tm, hm⟩ := T.most
    refine ⟨_, pss_one (ps_ret (pe_and (pe_callB call_isi (by rfl) T.isi (by decide +kernel) (pa_cons (pv 0) (pa_cons (pe_bltn (v := .ty "str") (by rfl) T.str (by decide +kernel) rfl) pa_nil)))
      (pe_and (pe_cmpR op_le (pe_callB call_len_str (by rfl) T.len (by decide +kernel) (pa_cons (pv 0) pa_nil)) (pe_glob (v := .int 8) (by rfl) hm ⟨_, rfl⟩) (nomark _))
      (pe_and (pe_m0 PySem.F.slot_str_isascii PySem.F.type_str_isascii mt_isascii (pv 0))
      (pe_and (pe_m0 PySem.F.slot_str_isalpha PySem.F.type_str_isalpha mt_isalpha (pv 0))
      (pe_one (pe_m0 PySem.F.slot_str_isupper PySem.F.type_str_isupper mt_isupper (pv 0)))))))), ?_⟩
    rcases h with ⟨z, rfl, hz, q⟩ | ⟨⟨t, ty, e⟩, q⟩
    · have q' := q H (Same.refl H)
      unfold errorB at q'
      refine ⟨_, rfl, _, _, _, _, true, rfl, .ty _, .base (.str z), kit_ty (by decide +kernel), true, rfl, iteT ?_⟩
      refine ⟨_, rfl, z, rfl, hz, _, _, rfl, rfl, _, rfl, ?_⟩
      cases c1 : decide ((z.length : Int) ≤ 8) with
      | false => rw [c1] at q'; exact iteF q'
      | true =>
        rw [c1, Bool.true_and] at q'
        refine iteT ⟨_, rfl, ⟨_, rfl⟩, z, rfl, rfl, trivial, _, rfl, ?_⟩
        cases c2 : Txt.isascii z with
        | false => rw [c2] at q'; exact iteF q'
        | true =>
          rw [c2, Bool.true_and] at q'
          refine iteT ⟨_, rfl, ⟨_, rfl⟩, z, rfl, rfl, trivial, _, rfl, ?_⟩
          cases c3 : Txt.isalpha z with
          | false => rw [c3] at q'; exact iteF q'
          | true =>
            rw [c3, Bool.true_and] at q'
            exact iteT ⟨_, rfl, ⟨_, rfl⟩, z, rfl, rfl, trivial, q'⟩
    · exact ⟨_, rfl, _, _, _, _, false, rfl, .ty _, ty, e, false, rfl, iteF (q H (Same.refl H))⟩
theorem scWord : FnScope ["thing"] ["thing"] (defScope sIsWord) := ⟨rfl, rfl, rfl, by decide +kernel, rfl, by decide +kernel, by decide +kernel⟩
theorem ok_word {f : Addr} {fd fdE : FuncData} (F : Fun K "is_word" "is_word" sIsWord f fd) (T : TForm K mg fRow) (gE : mg "is_error" = some (.ref fError)) (kE : PySem.W.keepIn K (.ref fError) = true)
    (G : FnOk P w K mg base CX0 2 fError fdE ["thing"] (spForm K errorB)) (b : Binds K fdE ["thing"] []) : FnOk P w K mg base CX0 3 f fd ["thing"] (spForm K wordB) := by
  refine F.ok scWord (fun vs H Q E h => ?_) (fun cdv A outer s H vs Q E hr h => ?_)
  · obtain ⟨x, rfl, _⟩ := h
    rfl
  · obtain ⟨x, rfl, h⟩ := h
    refine ⟨_, pss_one (ps_ret (pe_or (pe_call G hr (by rfl) gE kE b .nil pass0 (pa_cons (pv 0) pa_nil)) (pe_one (pe_and (pe_callB call_isi (by rfl) T.isi (by decide +kernel) (pa_cons (pv 0) (pa_cons (pe_bltn (v := .ty "str") (by rfl) T.str (by decide +kernel) rfl) pa_nil)))
      (pe_one (pe_cmpR op_in_seq (pv 0) (pe_tup (pa_cons pe_str (pa_cons pe_str pa_nil))) (by rfl))))))), ?_⟩
    rcases h with ⟨z, rfl, hz, q⟩ | ⟨⟨t, ty, e⟩, q⟩
    · refine ⟨_, rfl, _, rfl, .inl ⟨z, rfl, hz, fun H' sm => ⟨_, rfl, ?_⟩⟩⟩
      refine ite2 (fun c => ?_) (fun c => ?_)
      · have e : wordB z = true := by unfold wordB; rw [c, Bool.true_or]
        rw [e] at q
        exact q H' sm
      · have e : wordB z = (decide (z = "yes") || decide (z = "no")) := by unfold wordB; rw [Bool.eq_false_iff.mpr c, Bool.false_or]
        rw [e] at q
        refine ⟨_, rfl, _, _, _, _, true, rfl, .ty _, .base (.str z), kit_ty (by decide +kernel), true, rfl, iteT ⟨_, rfl, (by show 2 ≤ sizeLine; decide), fun t ht => ?_⟩⟩
        refine ⟨t, _, rfl, .inr (.of upd_same), rfl, rfl, ?_⟩
        have e3 : inV (V.str z) [V.str "yes", V.str "no"] = (decide (z = "yes") || decide (z = "no")) := by
          show (("yes" : Str) == z || (("no" : Str) == z || false)) = _
          rw [Bool.or_false]
          congr 1 <;> (rw [Bool.beq_eq_decide_eq]; exact decide_eq_decide.mpr eq_comm)
        show Q (.bl (inV (V.str z) [V.str "yes", V.str "no"])) _
        rw [e3]
        exact q _ (sm.trans (same_upd ht))
    · refine ⟨_, rfl, _, rfl, .inr ⟨⟨t, ty, e⟩, fun H' sm => ⟨false, rfl, iteF ?_⟩⟩⟩
      exact ⟨_, rfl, _, _, _, _, false, rfl, .ty _, same_ty sm ty, e, false, rfl, iteF (q H' sm)⟩
theorem scUn : FnScope ["thing", "one"] ["thing"] (defScope sUnlike) := ⟨rfl, rfl, rfl, by decide +kernel, rfl, by decide +kernel, by decide +kernel⟩
theorem ok_unlike {f : Addr} {fd fdR fdN : FuncData} (F : Fun K "are_unlike_names" "are_unlike_names" sUnlike f fd) (T : TForm K mg fRow) (gN : mg "is_name" = some (.ref fName)) (kN : PySem.W.keepIn K (.ref fName) = true)
    (GR : FnOk P w K mg base CX0 1 fRow fdR ["thing"] (spIsRow K)) (bR : Binds K fdR ["thing"] []) (GN : FnOk P w K mg base CX0 2 fName fdN ["thing"] (spForm K nameB)) (bN : Binds K fdN ["thing"] []) : FnOk P w K mg base CX0 3 f fd ["thing"] (spUnlike K nameB) := by
  refine F.ok scUn (fun vs H Q E h => ?_) (fun cdv A outer s H vs Q E hr h => ?_)
  · obtain ⟨x, ss, rfl, _⟩ := h
    rfl
  · obtain ⟨x, ss, rfl, r, hz, hl, q⟩ := h
    refine ⟨_, pss_one (ps_ret (pe_and (pe_call GR (hr.mono (by decide)) (by rfl) T.gRow T.kRow bR .nil pass0 (pa_cons (pv 0) pa_nil))
      (pe_and (pe_callB (cr_all rfl) (by rfl) T.all (by decide +kernel) (pa_cons
        (pe_lc (own := [("one", 1)]) (g := gName 1) (tt := tYes) rfl scUn.nd (pi_row (pv 0)) (blkOk_by (own := [("one", 1)]) (N := ["thing", "one"]) (sc := defScope sUnlike) (by decide +kernel))
          (fun _ _ _ _ _ => pg_name (i := 1) scUn.nd rfl (.inl rfl)) (fun _ _ _ _ _ => pts_nil) (fun _ _ _ _ _ => pe_call GN hr (by rfl) gN kN bN .nil pass0 (pa_cons (pv 1) pa_nil))) pa_nil))
      (pe_one (pe_cmpR op_eq (pe_callB cr_lenKs (by rfl) T.len (by decide +kernel) (pa_cons (pe_callTy (cr_setOf rfl) (by rfl) T.set (by decide +kernel) (pa_cons (pv 0) pa_nil)) pa_nil)) (pe_callB cr_lenRow (by rfl) T.len (by decide +kernel) (pa_cons (pv 0) pa_nil)) (nomark _)))))), ?_⟩
    refine ⟨_, rfl, x, rfl, .inl ⟨_, r, fun H1 s1 => ⟨true, rfl, iteT ?_⟩⟩⟩
    refine ⟨_, rfl, _, row_up s1 r, fun J G hG wk D hD => ?_⟩
    rw [List.length_map] at wk
    refine lc_it wk (fun i H' => Same H1 H' ∧ H' D = some (.lst (((ss.take i).map nameB).map V.bl))) ⟨same_upd hD, upd_same⟩ (fun _ _ _ p => hG _ p.1) ?_ ?_
    · rintro i v H2 H3 hi ⟨sm, hl'⟩ ⟨rfl, hv⟩
      rw [List.getElem?_map] at hv
      obtain ⟨z, hz1, rfl⟩ := Option.map_eq_some_iff.mp hv
      refine ⟨rfl, _, rfl, _, rfl, .inl ⟨z, rfl, hz z (List.mem_of_getElem? hz1), fun H4 s4 => ⟨_, s4 _ _ hl', ?_, ?_⟩⟩⟩
      · have : scanBound = 4096 := rfl
        rw [List.length_map, List.length_map, List.length_take, PySem.sizeLine_eq]
        omega
      · refine ⟨fun b o e => ?_, ?_⟩
        · rw [upd_ne (ne_of_none e hD)]
          exact s4 _ _ (sm _ _ e)
        · rw [upd_same, take_one_more hz1, List.map_append, List.map_append]
          rfl
    · rintro H2 ⟨s2, hl'⟩
      rw [List.take_length] at hl'
      have e1 : ((ss.map nameB)).all id = ss.all nameB := by rw [List.all_map]; rfl
      refine ⟨_, _, rfl, .of hl', _, rfl, ?_⟩
      rw [e1]
      refine ite2 (fun c => ?_) (fun c => ?_)
      · rw [c, Bool.true_and] at q
        have r2 := row_up (s1.trans s2) r
        have ek : (ss.map (Sum.inr : Str → Key)).map kV = ss.map V.str := by rw [List.map_map]; rfl
        obtain ⟨a, rfl, hr2⟩ := id r2
        refine ⟨_, rfl, a, ss.map Sum.inr, rfl, by rw [ek]; exact hr2, fewIn_of_len (by rw [List.length_map]; exact hl), fun p ks hp nd mem => ⟨p, ks, rfl, upd_same, ?_⟩⟩
        refine ⟨_, rfl, _, _, rfl, row_up (same_upd hp) r2, rfl, ?_⟩
        have e2 : decide (V.int (ks.length : Int) = V.int ((ss.map V.str).length : Int)) = decide ss.Nodup := by
          rw [List.length_map]
          have u := unlike_len nd mem
          rw [List.length_map, nodup_map_inr] at u
          refine decide_eq_decide.mpr ⟨fun z => u.1 ?_, fun z => ?_⟩
          · injection z with z; omega
          · rw [u.2 z]
        show Q (.bl (decide (V.int (ks.length : Int) = V.int ((ss.map V.str).length : Int)))) _
        rw [e2]
        exact q _ ((s1.trans s2).trans (same_upd hp))
      · rw [Bool.eq_false_iff.mpr c, Bool.false_and] at q
        exact q _ (s1.trans s2)
end
end Q9
end
-- QKinds
section
set_option maxRecDepth 100000
set_option maxHeartbeats 4000000
namespace Q9
open PySem L2
/-! ### the moves of a kind, as they stand in the heap -/
abbrev Mv := List ((Str × Str) × List (Str × Str))
def OutT (K : PySem.W.Frag) (H : Hp) (v : V) (o : Str × Str) : Prop := ∃ q, v = .ref q ∧ SqT K H q [.str o.1, .str o.2]
def OutsT (K : PySem.W.Frag) (H : Hp) (v : V) (os : List (Str × Str)) : Prop := ∃ vs, Row K H v vs ∧ Paired (OutT K H) vs os
def EntT (K : PySem.W.Frag) (H : Hp) (kv : List Key × V) (e : (Str × Str) × List (Str × Str)) : Prop := kv.1 = [.inr e.1.1, .inr e.1.2] ∧ OutsT K H kv.2 e.2
structure Moves (K : PySem.W.Frag) (H : Hp) (kvs : List (List Key × V)) (mv : Mv) : Prop where
  nd : (kvs.map (·.1)).Nodup
  ent : Paired (EntT K H) kvs mv
/-- lists and tuples stand as they stood -/
def SameSq (H H' : Hp) : Prop := (∀ b xs, H b = some (.lst xs) → H' b = some (.lst xs)) ∧ (∀ b xs, H b = some (.tup xs) → H' b = some (.tup xs)) ∧ ∀ b o u, H b = some (.frz o u) → H' b = some (.frz o u)
theorem Same.sq {H H' : Hp} (s : Same H H') : SameSq H H' := ⟨fun _ _ e => s _ _ e, fun _ _ e => s _ _ e, fun _ _ _ e => s _ _ e⟩
theorem SameSq.trans {H H1 H2 : Hp} (a : SameSq H H1) (b : SameSq H1 H2) : SameSq H H2 := ⟨fun _ _ e => b.1 _ _ (a.1 _ _ e), fun _ _ e => b.2.1 _ _ (a.2.1 _ _ e), fun _ _ _ e => b.2.2 _ _ _ (a.2.2 _ _ _ e)⟩
/-- all but the thing at m stands -/
def But (m : Addr) (H H' : Hp) : Prop := ∀ b o, b ≠ m → H b = some o → H' b = some o
theorem But.trans {m : Addr} {H H1 H2 : Hp} (a : But m H H1) (b : But m H1 H2) : But m H H2 := fun c o ne e => b c o ne (a c o ne e)
theorem But.of {m : Addr} {H H' : Hp} (s : Same H H') : But m H H' := fun b o _ e => s b o e
theorem But.upd {m : Addr} {H : Hp} {u : HO} : But m H (L2.upd H m u) := fun b o ne e => by rw [upd_ne ne]; exact e
theorem But.back {m : Addr} {H H' : Hp} {u : HO} (hm : H m = some u) (s : But m H H') : Same H (L2.upd H' m u) := fun b o e => by
  by_cases h : b = m
  · subst h
    rw [upd_same, ← hm, e]
  · rw [upd_ne h]
    exact s b o h e
theorem But.sq {m : Addr} {H H' : Hp} {kvs : List (List Key × V)} (s : But m H H') (hm : H m = some (.dT kvs)) : SameSq H H' := by
  have ne : ∀ b o, H b = some o → o ≠ .dT kvs → b ≠ m := fun b o e n z => by
    rw [z, hm] at e
    exact n (Option.some.inj e).symm
  exact ⟨fun b xs e => s b _ (ne b _ e fun z => nomatch z) e, fun b xs e => s b _ (ne b _ e fun z => nomatch z) e, fun b o u e => s b _ (ne b _ e fun z => nomatch z) e⟩
section
variable {K : PySem.W.Frag} {H H' : Hp}
theorem sqT_up (s : SameSq H H') {a : Addr} {xs : List V} (h : SqT K H a xs) : SqT K H' a xs := by
  rcases h with (h | ⟨o, h⟩) | h
  · exact .inl (.inl (s.2.1 _ _ h))
  · exact .inl (.inr ⟨o, s.2.2 _ _ _ h⟩)
  · exact .inr h
theorem sqL_up (s : SameSq H H') {a : Addr} {xs : List V} (h : SqL K H a xs) : SqL K H' a xs := by
  rcases h with (h | ⟨o, h⟩) | h
  · exact .inl (.inl (s.1 _ _ h))
  · exact .inl (.inr ⟨o, s.2.2 _ _ _ h⟩)
  · exact .inr h
theorem row_sq (s : SameSq H H') {x : V} {xs : List V} (h : Row K H x xs) : Row K H' x xs := by
  obtain ⟨a, e, h⟩ := h
  exact ⟨a, e, h.imp (sqL_up s) (sqT_up s)⟩
theorem outsT_up (s : SameSq H H') {v : V} {os : List (Str × Str)} (h : OutsT K H v os) : OutsT K H' v os := by
  obtain ⟨vs, h1, h2⟩ := h
  exact ⟨vs, row_sq s h1, L2.Paired.mapP h2 fun _ _ ⟨q, e, h⟩ => ⟨q, e, sqT_up s h⟩⟩
theorem moves_up (s : SameSq H H') {kvs : List (List Key × V)} {mv : Mv} (h : Moves K H kvs mv) : Moves K H' kvs mv :=
  ⟨h.nd, L2.Paired.mapP h.ent fun _ _ ⟨e, h⟩ => ⟨e, outsT_up s h⟩⟩
theorem paired_at {α β : Type} {F : α → β → Prop} : ∀ {l : List α} {m : List β}, Paired F l m → ∀ (i : Nat) (x : α), l[i]? = some x → ∃ y, m[i]? = some y ∧ F x y
  | _, _, .nil, i, x, h => by simp at h
  | _, _, .cons r t, 0, x, h => by
    simp only [List.getElem?_cons_zero, Option.some.injEq] at h
    subst h
    exact ⟨_, rfl, r⟩
  | _, _, .cons r t, i + 1, x, h => by
    obtain ⟨y, h1, h2⟩ := paired_at t i x (by simpa using h)
    exact ⟨y, by simpa using h1, h2⟩
theorem val_at {kvs : List (List Key × V)} (nd : (kvs.map (·.1)).Nodup) {i : Nat} {k : List Key} {v : V} (h : kvs[i]? = some (k, v)) : valV kvs k = some v := by
  induction kvs generalizing i with
  | nil => simp at h
  | cons p r ih =>
    rw [List.map_cons] at nd
    obtain ⟨h1, h2⟩ := List.nodup_cons.mp nd
    cases i with
    | zero =>
      simp only [List.getElem?_cons_zero, Option.some.injEq] at h
      subst h
      exact valV_pos rfl
    | succ i =>
      rw [List.getElem?_cons_succ] at h
      rw [valV_neg (fun e => h1 (e ▸ List.mem_map.mpr ⟨(k, v), List.mem_of_getElem? h, rfl⟩))]
      exact ih h2 h
end
/-! ### the mirror -/
abbrev kInr : Str → Key := Sum.inr
theorem kInr_kV (l : List Str) : (l.map kInr).map kV = l.map V.str := by rw [List.map_map]; rfl
def statesIn (st : Str) (es : List Str) (mv : Mv) : List Str := (st :: es) ++ mv.flatMap fun e => e.1.1 :: e.2.map (·.2)
def methodsIn (mv : Mv) : List Str := mv.map (·.1.2)
def wordsIn (mv : Mv) : List Str := mv.flatMap fun e => e.2.map (·.1)
/-- the unlike ones of a row, in order -/
def Told (l ys : List Str) : Prop := Up ys ∧ ys.Nodup ∧ ∀ z, z ∈ ys ↔ z ∈ l
theorem told_same {l ys zs : List Str} (a : Told l ys) (b : Told l zs) : ys = zs :=
  up_same ((List.perm_ext_iff_of_nodup a.2.1 b.2.1).mpr fun z => (a.2.2 z).trans (b.2.2 z).symm) a.1 b.1
structure TKinds (K : PySem.W.Frag) (mg : Str → Option Value) : Prop where
  lst : mg "list" = none
  sorted : mg "sorted" = none
  set : mg "set" = none
  tup : mg "tuple" = none
section
variable {P : Program} {w : World} {K : PySem.W.Frag} {mg : Str → Option Value} {base : Heap}
theorem cr_listRow {X : Cx} : CallR X (.type "list") (fun vs H Q => ∃ (x : V) (xs : List V), vs = [x] ∧ Row X.K H x xs ∧ ∀ l, H l = none → Q (.ref l) (upd H l (.lst xs))) := by
  intro pins s σ H vs us Q I r h
  obtain ⟨x, xs, rfl, ⟨a, rfl, hq⟩, q⟩ := h
  exact call_list_of pins s σ H _ us Q I r ⟨a, xs, rfl, hq, q⟩
theorem told_of {l : List Str} {ks : List Key} {ss ys : List Str} (ek : ks = ss.map Sum.inr) (nd : ks.Nodup) (mem : ∀ k, k ∈ ks ↔ k ∈ l.map (Sum.inr : Str → Key)) (pm : ys.Perm ss) (up : Up ys) : Told l ys := by
  subst ek
  refine ⟨up, pm.nodup_iff.mpr ((nodup_map_inr ss).1 nd), fun z => ?_⟩
  have e := mem (Sum.inr z)
  simp only [List.mem_map, Sum.inr.injEq, exists_eq_right] at e
  rw [pm.mem_iff, e]
theorem texts_of {ks : List Key} {l : List Str} (mem : ∀ k, k ∈ ks ↔ k ∈ l.map (Sum.inr : Str → Key)) : ∃ ss : List Str, ks = ss.map Sum.inr := by
  have all : ∀ k ∈ ks, ∃ x : Str, k = Sum.inr x := fun k hk => let ⟨x, _, e⟩ := List.mem_map.mp ((mem k).1 hk); ⟨x, e.symm⟩
  clear mem
  induction ks with
  | nil => exact ⟨[], rfl⟩
  | cons k ks ih =>
    obtain ⟨ss, e⟩ := ih fun j hj => all j (List.mem_cons_of_mem _ hj)
    obtain ⟨x, e2⟩ := all k List.mem_cons_self
    exact ⟨x :: ss, by rw [List.map_cons, ← e, e2]⟩
end
end Q9
end
-- QKinds2
section
set_option maxRecDepth 100000
set_option maxHeartbeats 4000000
namespace Q9
open PySem L2
/-- is x a text -/
def Txt1 (K : PySem.W.Frag) (H : Hp) (x : V) (b : Bool) : Prop := OfTy K H x "str" b
theorem txt_yes {K : PySem.W.Frag} {H : Hp} (z : Str) : OfTy K H (.str z) "str" true := ⟨.type "str", .base (.str z), kit_ty (by decide +kernel)⟩
/-- no tuple; a tuple of another length; a tuple of two -/
def spIsKey (K : PySem.W.Frag) : Sp := fun vs H Q _ => ∃ x, vs = [x] ∧ ((OfTy K H x "tuple" false ∧ Q (.bl false) H) ∨ (∃ a xs, x = .ref a ∧ SqT K H a xs ∧ xs.length ≠ 2 ∧ Q (.bl false) H) ∨
  ∃ a u v b c, x = .ref a ∧ SqT K H a [u, v] ∧ OfTy K H u "str" b ∧ OfTy K H v "str" c ∧ Q (.bl (b && c)) H)
theorem sqT_ty {K : PySem.W.Frag} {H : Hp} {a : Addr} {xs : List V} (h : SqT K H a xs) : TyX K H (.ref a) (.type "tuple") := by
  rcases h with (h | ⟨o, h⟩) | ⟨o, its, n, h1, h2, _⟩
  · exact .base (.tup h)
  · exact .fTuple h
  · exact .kTuple h1 h2
section
variable {P : Program} {w : World} {K : PySem.W.Frag} {mg : Str → Option Value} {base : Heap} {fRow : Addr}
theorem scKey : FnScope ["thing"] ["thing"] (defScope sIsKey) := ⟨rfl, rfl, rfl, by decide +kernel, rfl, by decide +kernel, by decide +kernel⟩
theorem ok_key {f : Addr} {fd : FuncData} (F : Fun K "_is_key" "_is_key" sIsKey f fd) (T : TForm K mg fRow) : FnOk P w K mg base CX0 1 f fd ["thing"] (spIsKey K) := by
  refine F.ok scKey (fun vs H Q E h => ?_) (fun cdv A outer s H vs Q E hr h => ?_)
  · obtain ⟨x, rfl, _⟩ := h
    rfl
  · obtain ⟨x, rfl, h⟩ := h
    refine ⟨_, pss_one (ps_ret (pe_and (pe_callB call_isi (by rfl) T.isi (by decide +kernel) (pa_cons (pv 0) (pa_cons (pe_bltn (v := .ty "tuple") (by rfl) T.tup (by decide +kernel) rfl) pa_nil)))
      (pe_and (pe_cmpR op_eq (pe_callB cr_lenRow (by rfl) T.len (by decide +kernel) (pa_cons (pv 0) pa_nil)) pe_int (nomark _))
      (pe_and (pe_callB call_isi (by rfl) T.isi (by decide +kernel) (pa_cons (pe_ix ix_tup (pv 0) pe_int (fun _ _ => rfl)) (pa_cons (pe_bltn (v := .ty "str") (by rfl) T.str (by decide +kernel) rfl) pa_nil)))
      (pe_one (pe_callB call_isi (by rfl) T.isi (by decide +kernel) (pa_cons (pe_ix ix_tup (pv 0) pe_int (fun _ _ => rfl)) (pa_cons (pe_bltn (v := .ty "str") (by rfl) T.str (by decide +kernel) rfl) pa_nil)))))))), ?_⟩
    rcases h with ⟨⟨t, ty, e⟩, q⟩ | ⟨a, xs, rfl, hx, hn, q⟩ | ⟨a, u, v, b, c, rfl, hx, ⟨t1, ty1, e1⟩, ⟨t2, ty2, e2⟩, q⟩
    · exact ⟨_, rfl, _, _, _, _, false, rfl, .ty _, ty, e, false, rfl, iteF q⟩
    · refine ⟨_, rfl, _, _, _, _, true, rfl, .ty _, sqT_ty hx, kit_ty (by decide +kernel), true, rfl, iteT ⟨_, rfl, _, _, rfl, ⟨a, rfl, .inr hx⟩, rfl, ?_⟩⟩
      have e : decide (V.int (xs.length : Int) = V.int 2) = false := decide_eq_false fun z => hn (by injection z with z; omega)
      exact ⟨_, rfl, by rw [e]; exact iteF q⟩
    · refine ⟨_, rfl, _, _, _, _, true, rfl, .ty _, sqT_ty hx, kit_ty (by decide +kernel), true, rfl, iteT ⟨_, rfl, _, _, rfl, ⟨a, rfl, .inr hx⟩, rfl, true, rfl, iteT ?_⟩⟩
      refine ⟨_, rfl, a, _, _, _, rfl, rfl, hx, atI_nat (j := 0) rfl, _, _, _, _, b, rfl, .ty _, ty1, e1, b, rfl, ?_⟩
      cases b with
      | false => exact iteF q
      | true =>
        refine iteT ⟨_, rfl, a, _, _, _, rfl, rfl, hx, atI_nat (j := 1) rfl, _, _, _, _, c, rfl, .ty _, ty2, e2, ?_⟩
        rw [Bool.true_and] at q
        exact q
end
end Q9
end
-- QMakeS
section
set_option maxRecDepth 100000
set_option maxHeartbeats 4000000
namespace Q9
open PySem L2
section
variable {X : Cx} {CX : CXT} {k : Nat} {f C : Addr} {fd : FuncData} {ps : List Str} {sp : Sp} {E : L2.St → XK} {x : Str} {p pos : Pos} {e : Expr} {es : List Expr} {t : TA}
/-- C(e, ..) within a try: its __init__ may raise -/
def tMakeS (C : Addr) (sp : Sp) (E : L2.St → XK) (t : TA) : TE := fun σ H Q => t σ H fun vs H1 => ∀ x dx, H1 x = none → H1 dx = none → dx ≠ x → sp (.ref x :: vs) (upd (upd H1 dx (.own x)) x (.ins C dx [])) (fun v H2 => v = .non ∧ Q (.ref x) H2) (E σ)
theorem pe_makeS (M : Mk X.K C f) (F : FnOk X.prog X.w X.K X.mg X.base CX k f fd ps sp) (hr : Room (k + 1) X.A) (hg : Gl X x) (hm : X.mg x = some (.ref C)) (hb : Binds X.K fd ps []) (hx : ∀ σ, PassesAt CX X σ (E σ)) (ha : PA X (e :: es) t)
    (hdb : (x == ("__debug__" : Str)) = false := by decide) (he : starEach (e :: es) X.env = (false, eval e X.env) :: starEach es X.env := by rfl) (hpl : (backTo pos (starEach es X.env)).any (·.1) = false := by rfl) :
    PE X (.Call (.Name x p) (e :: es) [] pos) (tMakeS C sp E t) := by
  refine ⟨fun pins s0 σ H Q I0 h0 => wpAny_Call_Name_kw (ld_glob I0 hg hm (PySem.W.callWith_K (h₀ := X.base) I0.ok.mod.kin M.kp (thn (ha.run pos pins s0 σ H _ I0 h0) fun us s ⟨vs, H1, I, r, h⟩ => ⟨I.kIn, ?_⟩) he hpl) hdb)⟩
  -- the new object stands behind all that is there
  generalize eo : s.heap.objs.size + 1 = o
  have no : H1 o = none := I.hok.fresh (by omega)
  have nd : H1 s.heap.objs.size = none := I.hok.fresh (Nat.le_refl _)
  have hq := h o s.heap.objs.size no nd (by rw [← eo]; exact Nat.ne_of_lt (Nat.lt_succ_self _))
  have J := Inv.made (C := C) I
  rw [eo] at J
  have rr : Vals (V.ref o :: vs) (Value.ref o :: us) := .cons rfl r
  have len : (Value.ref o :: us).length = ps.length := by rw [← rr.length]; exact F.len _ _ _ _ hq
  have bd := hb _ (Value.ref o :: us) J.kIn (by rw [List.append_nil]; exact len)
  rw [List.append_nil] at bd
  refine wpAny_call (make_map (f := f) I.kIn M.makes M.init (beq_iff_eq.mp M.fn) ?_)
  rw [eo]
  refine codeAny_mono (F.run _ X.stack _ _ ⟨Value.ref o :: us, []⟩ (Value.ref o :: us) _ _ (E σ) (hr.make C us []) (J.env0.make C us []) bd rr hq) fun res s' hres => ?_
  cases res with
  | error er => exact hx σ pins _ _ er s' J hres
  | ok fl =>
    cases fl with
    | ret u =>
      obtain ⟨v, H', J', rv, ev, q⟩ := J.after hres
      subst ev
      exact ⟨rv, .ref o, H', J', rfl, q⟩
    | next => exact False.elim hres
    | brk => exact False.elim hres
    | cont => exact False.elim hres
end
end Q9
end
-- QNone
section
set_option maxRecDepth 100000
set_option maxHeartbeats 4000000
namespace Q9
open PySem L2
/-! ### what a kind is made of -/
/-- names, words, unlike outcomes -/
structure RightParts (nm st : Str) (es : List Str) (mv : Mv) : Prop where
  name : nameB nm = true
  start : nameB st = true
  ends : ∀ z ∈ es, nameB z = true
  unlike : es.Nodup
  keys : ∀ e ∈ mv, nameB e.1.1 = true ∧ nameB e.1.2 = true
  outs : ∀ e ∈ mv, ∀ o ∈ e.2, wordB o.1 = true ∧ nameB o.2 = true
  outsU : ∀ e ∈ mv, e.2.Nodup
/-- within the bounds -/
def Fits (st : Str) (es : List Str) (mv : Mv) : Prop := (∀ e ∈ mv, e.2.length ≤ 8) ∧ (∀ ys : List Str, ys.Nodup → (∀ z ∈ ys, z ∈ statesIn st es mv) → ys.length ≤ 60) ∧ ∀ zs : List Str, zs.Nodup → (∀ z ∈ zs, z ∈ methodsIn mv) → zs.length ≤ 8
/-- few enough for any set of them -/
structure Small (st : Str) (es : List Str) (mv : Mv) : Prop where
  len : (statesIn st es mv).length ≤ 1000000
  states : FewIn ((statesIn st es mv).map kInr)
  methods : FewIn ((methodsIn mv).map kInr)
  words : FewIn ((wordsIn mv).map kInr)
/-- what __init__ does with parts that are right but for the bounds; KA tells a made kind -/
def spKindI (C CB : Addr) (K : PySem.W.Frag) (KA : Hp → Addr → Str → Str → List Str → Mv → Prop) : Sp := fun vs H Q E => ∃ (x dx m : Addr) (nm st : Str) (ex : V) (es : List Str) (kvs : List (List Key × V)) (mv : Mv), vs = [.ref x, .str nm, .str st, ex, .ref m] ∧
  H x = some (.ins C dx []) ∧ H dx = some (.own x) ∧ Row K H ex (es.map V.str) ∧ H m = some (.dT kvs) ∧ Moves K H kvs mv ∧ RightParts nm st es mv ∧ Small st es mv ∧
  ((Fits st es mv ∧ ∀ H', But x H H' → KA H' x nm st es mv → Q .non H') ∨ (¬ Fits st es mv ∧ ∀ (H' : Hp) (d : Addr), But x H H' → H d = none → H' d = some (.xd [("part", .str "moves")]) → E (.ref CB) (some d) H'))
/-- _law_is_none: whether the bounds are passed -/
abbrev kindPs : List Str := ["self", "name", "start", "ends", "moves"]
section
variable {P : Program} {w : World} {K : PySem.W.Frag} {mg : Str → Option Value} {base : Heap} {C CB fI : Addr} {KA : Hp → Addr → Str → Str → List Str → Mv → Prop} {k : Nat}
end
end Q9
end
-- QMoves
section
set_option maxRecDepth 100000
set_option maxHeartbeats 4000000
namespace Q9
open PySem L2
/-! ### dicts of moves put together -/
def putM (mv : Mv) (k : Str × Str) (os : List (Str × Str)) : Mv := if (mv.any fun e => decide (e.1 = k)) = true then mv.map (fun e => if e.1 = k then (e.1, os) else e) else mv ++ [(k, os)]
def mergeM (mv more : Mv) : Mv := more.foldl (fun acc e => putM acc e.1 e.2) mv
theorem mergeM_cons (mv : Mv) (e : (Str × Str) × List (Str × Str)) (more : Mv) : mergeM mv (e :: more) = mergeM (putM mv e.1 e.2) more := rfl
theorem mem_putM {mv : Mv} {k : Str × Str} {os : List (Str × Str)} {e : (Str × Str) × List (Str × Str)} (h : e ∈ putM mv k os) : e ∈ mv ∨ e = (k, os) := by
  unfold putM at h
  split at h
  · obtain ⟨e', h1, h2⟩ := List.mem_map.mp h
    by_cases c : e'.1 = k
    · rw [if_pos c] at h2
      right
      rw [← h2, c]
    · rw [if_neg c] at h2
      left
      rw [← h2]
      exact h1
  · rcases List.mem_append.mp h with h | h
    · exact .inl h
    · exact .inr (List.mem_singleton.mp h)
theorem mem_mergeM : ∀ {more mv : Mv} {e : (Str × Str) × List (Str × Str)}, e ∈ mergeM mv more → e ∈ mv ∨ e ∈ more
  | [], _, _, h => .inl h
  | x :: more, mv, e, h => by
    rcases mem_mergeM (more := more) (show e ∈ mergeM (putM mv x.1 x.2) more from h) with h | h
    · rcases mem_putM h with h | h
      · exact .inl h
      · exact .inr (h ▸ List.mem_cons_self)
    · exact .inr (List.mem_cons_of_mem _ h)
/-- it stands there -/
theorem at_putM (mv : Mv) (k : Str × Str) (os : List (Str × Str)) : (k, os) ∈ putM mv k os := by
  unfold putM
  split
  · rename_i c
    obtain ⟨e, h1, h2⟩ := List.any_eq_true.mp c
    have h2' : e.1 = k := of_decide_eq_true h2
    exact List.mem_map.mpr ⟨e, h1, by rw [if_pos h2', h2']⟩
  · exact List.mem_append_right _ List.mem_cons_self
theorem keys_putM {mv : Mv} {k : Str × Str} {os : List (Str × Str)} {j : Str × Str} (h : j ∈ mv.map (·.1)) : j ∈ (putM mv k os).map (·.1) := by
  obtain ⟨e, h1, h2⟩ := List.mem_map.mp h
  unfold putM
  split
  · rw [List.map_map]
    exact List.mem_map.mpr ⟨e, h1, by by_cases c : e.1 = k <;> simp [c, ← h2]⟩
  · rw [List.map_append]
    exact List.mem_append_left _ h
theorem keys_mergeM : ∀ {more mv : Mv} {j : Str × Str}, j ∈ mv.map (·.1) ∨ j ∈ more.map (·.1) → j ∈ (mergeM mv more).map (·.1)
  | [], _, _, h => h.elim id fun z => nomatch z
  | x :: more, mv, j, h => by
    refine keys_mergeM (more := more) (mv := putM mv x.1 x.2) ?_
    rcases h with h | h
    · exact .inl (keys_putM h)
    · rcases List.mem_cons.mp (show j ∈ x.1 :: more.map (·.1) from h) with h | h
      · exact .inl (List.mem_map.mpr ⟨_, at_putM mv x.1 x.2, h.symm⟩)
      · exact .inr h
theorem mergeM_append (mv a b : Mv) : mergeM mv (a ++ b) = mergeM (mergeM mv a) b := List.foldl_append ..
theorem last_mergeM (mv more : Mv) (e : (Str × Str) × List (Str × Str)) : e ∈ mergeM mv (more ++ [e]) := by
  rw [mergeM_append]
  exact at_putM _ _ _
theorem length_putM (mv : Mv) (k : Str × Str) (os : List (Str × Str)) : (putM mv k os).length ≤ mv.length + 1 := by
  unfold putM
  split
  · rw [List.length_map]; exact Nat.le_succ _
  · rw [List.length_append, List.length_singleton]; exact Nat.le_refl _
theorem length_mergeM : ∀ (more mv : Mv), (mergeM mv more).length ≤ mv.length + more.length
  | [], mv => Nat.le_refl _
  | x :: more, mv => by
    have h1 := length_mergeM more (putM mv x.1 x.2)
    have h2 := length_putM mv x.1 x.2
    rw [mergeM_cons, List.length_cons]
    omega
theorem paired_append {α β : Type} {F : α → β → Prop} : ∀ {a : List α} {b : List β} {c : List α} {d : List β}, Paired F a b → Paired F c d → Paired F (a ++ c) (b ++ d)
  | _, _, _, _, .nil, q => q
  | _, _, _, _, .cons h t, q => .cons h (paired_append t q)
section
variable {K : PySem.W.Frag} {H : Hp}
theorem ent_any {kvs : List (List Key × V)} {mv : Mv} (p : Paired (EntT K H) kvs mv) (a b : Str) : (kvs.any fun kv => decide (kv.1 = [kInr a, kInr b])) = mv.any fun e => decide (e.1 = (a, b)) := by
  induction p with
  | nil => rfl
  | @cons kv e l m h t ih =>
    rw [List.any_cons, List.any_cons, ih]
    congr 1
    rw [h.1, Bool.eq_iff_iff, decide_eq_true_iff, decide_eq_true_iff]
    constructor
    · intro z
      simp only [List.cons.injEq, Sum.inr.injEq, and_true] at z
      exact Prod.ext z.1 z.2
    · intro z
      rw [z]
theorem moves_put {kvs : List (List Key × V)} {mv : Mv} (M : Moves K H kvs mv) {a b : Str} {v : V} {os : List (Str × Str)} (o : OutsT K H v os) : Moves K H (putK kvs [kInr a, kInr b] v) (putM mv (a, b) os) := by
  have ea := ent_any M.ent a b
  unfold putK putM
  by_cases c : (kvs.any fun kv => decide (kv.1 = [kInr a, kInr b])) = true
  · rw [if_pos c, if_pos (ea ▸ c)]
    refine ⟨?_, ?_⟩
    · have e : (kvs.map fun kv => if kv.1 = [kInr a, kInr b] then (kv.1, v) else kv).map (·.1) = kvs.map (·.1) := by
        rw [List.map_map]
        refine List.map_congr_left fun kv _ => ?_
        show (if kv.1 = _ then (kv.1, v) else kv).1 = kv.1
        split <;> rfl
      rw [e]
      exact M.nd
    · have key : ∀ {l : List (List Key × V)} {m : Mv}, Paired (EntT K H) l m → Paired (EntT K H) (l.map fun kv => if kv.1 = [kInr a, kInr b] then (kv.1, v) else kv) (m.map fun e => if e.1 = (a, b) then (e.1, os) else e) := by
        intro l m p
        induction p with
        | nil => exact .nil
        | @cons kv e l m h t ih =>
          refine .cons ?_ ih
          show EntT K H (if kv.1 = [kInr a, kInr b] then (kv.1, v) else kv) (if e.1 = (a, b) then (e.1, os) else e)
          by_cases z : e.1 = (a, b)
          · have z' : kv.1 = [kInr a, kInr b] := by rw [h.1, z]
            rw [if_pos z', if_pos z]
            exact ⟨h.1, o⟩
          · have z' : ¬ kv.1 = [kInr a, kInr b] := fun y => by
              rw [h.1] at y
              simp only [List.cons.injEq, Sum.inr.injEq, and_true] at y
              exact z (Prod.ext y.1 y.2)
            rw [if_neg z', if_neg z]
            exact h
      exact key M.ent
  · rw [if_neg c, if_neg (ea ▸ c)]
    refine ⟨?_, paired_append M.ent (.cons ⟨rfl, o⟩ .nil)⟩
    rw [List.map_append]
    refine List.nodup_append.mpr ⟨M.nd, List.nodup_cons.mpr ⟨(fun z => nomatch z), List.nodup_nil⟩, fun x hx y hy e => ?_⟩
    obtain ⟨kv, h1, h2⟩ := List.mem_map.mp hx
    have hy' : y = [kInr a, kInr b] := List.mem_singleton.mp hy
    exact c (List.any_eq_true.mpr ⟨kv, h1, decide_eq_true (h2.trans (e.trans hy'))⟩)
theorem moves_merge {moreK : List (List Key × V)} {more : Mv} (p : Paired (EntT K H) moreK more) : ∀ {kvs : List (List Key × V)} {mv : Mv}, Moves K H kvs mv → Moves K H (mergeT kvs moreK) (mergeM mv more) := by
  induction p with
  | nil => exact fun M => M
  | @cons kv e l m h t ih =>
    intro kvs mv M
    have h' : Moves K H (putK kvs kv.1 kv.2) (putM mv e.1 e.2) := by
      rw [h.1]
      exact moves_put M h.2
    exact ih h'
theorem moves_nil : Moves K H [] [] := ⟨List.nodup_nil, .nil⟩
end
/-! ### the states and methods of what is put together -/
theorem few_sub {l l' : List Str} (sub : ∀ z ∈ l, z ∈ l') (n : l'.length + 1 < scanBound) : FewIn (l.map kInr) := fun ks nd h => by
  refine fewIn_of_len (l := l'.map kInr) (by rw [List.length_map]; exact n) ks nd fun k hk => ?_
  obtain ⟨z, h1, h2⟩ := List.mem_map.mp (h k hk)
  exact List.mem_map.mpr ⟨z, sub z h1, h2⟩
/-- too many unlike ones -/
theorem told_more {l m ys : List Str} (t : Told l ys) (nd : m.Nodup) (sub : ∀ z ∈ m, z ∈ l) : m.length ≤ ys.length := nodup_le m ys nd fun z hz => (t.2.2 z).2 (sub z hz)
end Q9
end
-- QMixR
section
set_option maxRecDepth 100000
set_option maxHeartbeats 4000000
namespace Q9
open PySem PySem.Spec PyProof.Rows L2
/-! ### a dict whose keys are things of many kinds: made once, read -/
def MixE (e : DictEntry) (kv : V × V) : Prop := RelV kv.1 e.key ∧ RelV kv.2 e.val
/-- an object's content: the keys, the values -/
def MixR (p : Addr) (o : Obj) (kvs : List (V × V)) : Prop := (p == sysModules) = false ∧ o.ExactDict ∧ ∃ es ep, o.data = .dict es ep ∧ es.size ≤ sizeLine ∧ Paired MixE es.toList kvs
/-- that very object, for ever -/
def PinO (p : Addr) (o : Obj) : HO := .ext fun h => h.get? p = some o
section
variable {X : Cx} {pins : List (Addr × Obj)} {σ : L2.St} {H : Hp} {s : Shared}
theorem pin_of (I : Inv X pins σ H s) {p : Addr} {o : Obj} (e : H p = some (PinO p o)) : s.heap.get? p = some o := (show ObjOk X.prog X.w H s.heap p (PinO p o) from I.hok p _ e).1
/-- the address of a key, its key, the value -/
def MixT (H : Hp) (t : Addr) (kv : List Key × Addr × V) : Prop := H t = some (.tup [.ref kv.2.1, kv.2.2]) ∧ H kv.2.1 = some (.tup (kv.1.map kV))
theorem rows_mixed (I : Inv X pins σ H s) : ∀ {ts : List Addr} {kvs : List (List Key × Addr × V)}, Paired (MixT H) ts kvs →
    ∃ rs : List (List Key × Addr × Value), Paired (fun (r : List Key × Addr × Value) (kv : List Key × Addr × V) => r.1 = kv.1 ∧ r.2.1 = kv.2.1 ∧ RelV kv.2.2 r.2.2) rs kvs ∧ rs.length = ts.length ∧
      ∀ (j : Nat) (r : List Key × Addr × Value), rs[j]? = some r → ∃ b, ts[j]? = some b ∧ s.heap.IsTuple b #[.ref r.2.1, r.2.2]
  | _, _, .nil => ⟨[], .nil, rfl, fun j r e => by simp at e⟩
  | _, _, .cons (a := t) (b := kv) ⟨h1, h2⟩ rest => by
    obtain ⟨rs, k, l, f⟩ := rows_mixed I rest
    obtain ⟨its, rv, ht, _⟩ := I.tuple (.of h1)
    obtain ⟨u, y, ei, ru, ry⟩ := vals2 rv
    subst ei
    cases ru
    refine ⟨(kv.1, kv.2.1, y) :: rs, .cons ⟨rfl, rfl, ry⟩ k, by rw [List.length_cons, List.length_cons, l], fun j r e => ?_⟩
    cases j with
    | zero =>
      cases Option.some.inj e
      exact ⟨t, rfl, ht⟩
    | succ j =>
      obtain ⟨b, e1, e2⟩ := f j r (by simpa using e)
      exact ⟨b, by simpa using e1, e2⟩
theorem mix_mem {ts : List Addr} {kvs : List (List Key × Addr × V)} (p : Paired (MixT H) ts kvs) : ∀ y ∈ kvs, ∃ t, MixT H t y := by
  induction p with
  | nil => exact fun y hy => (nomatch hy)
  | cons h t ih =>
    intro y hy
    rcases List.mem_cons.mp hy with rfl | hy
    · exact ⟨_, h⟩
    · exact ih y hy
theorem keys_mixed {rs : List (List Key × Addr × Value)} {kvs : List (List Key × Addr × V)} (p : Paired (fun (r : List Key × Addr × Value) (kv : List Key × Addr × V) => r.1 = kv.1 ∧ r.2.1 = kv.2.1 ∧ RelV kv.2.2 r.2.2) rs kvs) : rs.map (·.1) = kvs.map (·.1) := by
  induction p with
  | nil => rfl
  | cons h t ih => rw [List.map_cons, List.map_cons, ih, h.1]
theorem ents_mixed {prog : Program} {w : World} {rs : List (List Key × Addr × Value)} {kvs : List (List Key × Addr × V)} (p : Paired (fun (r : List Key × Addr × Value) (kv : List Key × Addr × V) => r.1 = kv.1 ∧ r.2.1 = kv.2.1 ∧ RelV kv.2.2 r.2.2) rs kvs) :
    Paired MixE (rs.map (entryOfKey (tupleKind (mixKind prog w)))) (kvs.map fun kv => (V.ref kv.2.1, kv.2.2)) := by
  induction p with
  | nil => exact .nil
  | cons h t ih => exact .cons ⟨by show RelV (V.ref _) (Value.ref _); rw [h.2.1]; rfl, h.2.2⟩ ih
def rDictM (K : PySem.W.Frag) : List V → Hp → VK → Prop := fun vs H Q => ∃ (a t : Addr) (ts : List Addr) (kvs : List (List Key × Addr × V)) (k v : V), vs = [.ref a] ∧ SqL K H a ((ts ++ [t]).map V.ref) ∧ Paired (MixT H) ts kvs ∧ (kvs.map (·.1)).Nodup ∧
  H t = some (.tup [k, v]) ∧ (k = .non ∨ ∃ x, k = .str x) ∧ ∀ p o, H p = none → MixR p o ((kvs.map fun kv => (V.ref kv.2.1, kv.2.2)) ++ [(k, v)]) → Q (.ref p) (upd H p (PinO p o))
theorem cr_dictM (hcalm : X.calm = true) (hu : X.A.in1.in1.units < cLine) : CallR X (.type "dict") (rDictM X.K) := by
  intro pins s σ H vs us Q I r h
  obtain ⟨a, t, ts, kvs, k, v, rfl, hq, hp, nd, ht, lk, q⟩ := h
  rw [Vals.ref1 r]
  obtain ⟨its, rv, pl, hz⟩ := I.list hq
  cases refs_vals rv
  rw [List.length_map, List.length_append, List.length_singleton] at hz
  obtain ⟨rs, kt, hl, hr⟩ := rows_mixed I hp
  obtain ⟨o, n, ho, hc, hd, hdat⟩ := pl
  obtain ⟨tits, trv, htt, _⟩ := I.tuple (.of ht)
  obtain ⟨uk, uv, ei, ruk, ruv⟩ := vals2 trv
  subst ei
  have len : ((rs.map fun r => ((.ref r.2.1, r.2.2) : Value × Value)) ++ [(uk, uv)]).length = rs.length + 1 := by rw [List.length_append, List.length_map, List.length_singleton]
  have items : PairItems s.heap ((ts ++ [t]).map Value.ref).toArray (fun j => ((ts ++ [t])[j]?).getD 0) ((rs.map fun r => ((.ref r.2.1, r.2.2) : Value × Value)) ++ [(uk, uv)]) := by
    refine ⟨by rw [List.size_toArray, List.length_map, List.length_append, List.length_singleton, len, hl], fun j k' v' e => ?_⟩
    rw [List.getElem?_append] at e
    rw [List.length_map] at e
    split at e
    · rename_i lt
      rw [List.getElem?_map] at e
      obtain ⟨r, e1, e2⟩ := Option.map_eq_some_iff.mp e
      cases e2
      obtain ⟨b, e3, e4⟩ := hr j r e1
      have e5 : (ts ++ [t])[j]? = some b := by rw [List.getElem?_append_left (by omega)]; exact e3
      refine ⟨?_, ?_⟩
      · rw [List.getElem?_toArray, List.getElem?_map, e5]
        show some (Value.ref b) = some (Value.ref (((ts ++ [t])[j]?).getD 0))
        rw [e5]
        rfl
      · show PairAt s.heap (((ts ++ [t])[j]?).getD 0) _ _
        rw [e5]
        exact .inl e4
    · rename_i ge
      cases h0 : j - rs.length with
      | succ m => rw [h0] at e; simp at e
      | zero =>
        rw [h0] at e
        cases e
        have e5 : (ts ++ [t])[j]? = some t := by rw [List.getElem?_append_right (by omega), ← hl, h0]; rfl
        refine ⟨?_, ?_⟩
        · rw [List.getElem?_toArray, List.getElem?_map, e5]
          show some (Value.ref t) = some (Value.ref (((ts ++ [t])[j]?).getD 0))
          rw [e5]
          rfl
        · show PairAt s.heap (((ts ++ [t])[j]?).getD 0) _ _
          rw [e5]
          exact .inl htt
  have hash : ∃ hs : Int, ∀ (A : Around) (E : Value → Shared → Prop) (s : Shared) (Q : Int → Shared → Prop), Q hs { s with toks := s.toks + 1 } → wpAny (model X.prog X.w) A (pyHash uk) Q E s := by
    rcases lk with rfl | ⟨x, rfl⟩
    · cases (show uk = Value.none from ruk)
      exact ⟨_, fun A E s Q q => pyHash_leaf (k := .none) rfl q⟩
    · obtain ⟨tk, rfl⟩ := ruk
      exact ⟨_, fun A E s Q q => pyHash_leaf (k := .text x) (by show Value.isStrOf x (.str x tk) = true; simp [Value.isStrOf]) q⟩
  obtain ⟨hs, hash⟩ := hash
  have lk' : uk = .none ∨ ∃ x t, uk = .str x t := by
    rcases lk with rfl | ⟨x, rfl⟩
    · exact .inl ruk
    · obtain ⟨tk, rfl⟩ := ruk
      exact .inr ⟨x, tk, rfl⟩
  refine dict_mixed (knd := mixKind X.prog X.w) (PairArg.list a _ _ _) (I.ok.hd hcalm) hu ⟨⟨o, n, ho, hc, hd, hdat⟩, items⟩ rs uk uv hs len (by rw [len]; omega) (fun i k' x' e => ?_) (by rw [keys_mixed kt]; exact nd) (fun r hr' => ?_) lk' hash fun h' tk hd' kp => ?_
  · have e' : ((rs.map fun r => ((.ref r.2.1, r.2.2) : Value × Value)) ++ [(uk, uv)])[i]? = some (k', x') := e
    rw [List.getElem?_append, List.length_map] at e'
    split at e'
    · rw [List.getElem?_map] at e'
      obtain ⟨r, e1, e2⟩ := Option.map_eq_some_iff.mp e'
      cases e2
      exact .inl ⟨r, e1, rfl, rfl⟩
    · rename_i ge
      cases h0 : i - rs.length with
      | succ m => rw [h0] at e'; simp at e'
      | zero =>
        rw [h0] at e'
        cases e'
        exact .inr ⟨by omega, rfl, rfl⟩
  · obtain ⟨j, hj⟩ := List.mem_iff_getElem?.mp hr'
    obtain ⟨y, e1, e2, e3, _⟩ := LiI.paired_get kt hj
    obtain ⟨t2, m⟩ := mix_mem hp y (List.mem_of_getElem? e1)
    rw [e2, e3]
    exact key_of I.hok m.2
  · have k' : Keeps s.heap h' := fun b o e => kp b o e
    have big : (s.heap.objs.size == sysModules) = false := beq_eq_false_iff_ne.mpr (Nat.ne_of_gt I.big)
    have hn : H s.heap.objs.size = none := I.hok.fresh (Nat.le_refl _)
    obtain ⟨o2, es, ep, g1, g2, g3, g4⟩ := hd'
    have J := I.laid (t' := tk) (o := PinO s.heap.objs.size o2) k' (Nat.le_refl _) ⟨g1, ⟨o2, g1⟩, fun h1 h2 m e => e _ m⟩
    exact ⟨.ref _, _, J, rfl, q _ o2 hn ⟨big, g2, es, ep, g3, by rw [← Array.length_toList, g4, List.length_append, List.length_map, List.length_singleton]; omega, by rw [g4]; exact paired_append (ents_mixed kt) (.cons ⟨ruk, ruv⟩ .nil)⟩⟩
/-! its keys, walked -/
def ItM (p : Addr) (o : Obj) (kvs : List (V × V)) : It := ⟨fun i H => H p = some (PinO p o) ∧ i < kvs.length, fun i H x H' => H' = H ∧ ∃ v, kvs[i]? = some (x, v), fun i H => H p = some (PinO p o) ∧ kvs.length ≤ i⟩
theorem walk_mix {p : Addr} {o : Obj} {kvs : List (V × V)} : Walk (ItM p o kvs) kvs.length (fun H => H p = some (PinO p o)) (fun i H x H' => H' = H ∧ ∃ v, kvs[i]? = some (x, v)) :=
  ⟨fun _ _ lt e => ⟨e, lt⟩, fun _ e => ⟨e, Nat.le_refl _⟩, fun _ _ _ _ _ _ z => z⟩
theorem mix_size {p : Addr} {o : Obj} {kvs : List (V × V)} {es : Array DictEntry} {ep : Nat} (R : MixR p o kvs) (e : o.data = .dict es ep) : es.size = kvs.length ∧ ∀ (i : Nat) (x v : V), kvs[i]? = some (x, v) → ∃ en, es[i]? = some en ∧ RelV x en.key := by
  obtain ⟨_, _, es', ep', e', _, pr⟩ := R
  rw [e] at e'
  cases e'
  refine ⟨by rw [← Array.length_toList]; exact PySem.Paired.length pr, fun i x v h => ?_⟩
  have lt : i < es.toList.length := by rw [PySem.Paired.length pr]; exact (List.getElem?_eq_some_iff.mp h).1
  obtain ⟨y, g1, g2, _⟩ := LiI.paired_get pr (List.getElem?_eq_getElem lt)
  rw [h] at g1
  cases g1
  exact ⟨_, by rw [← Array.getElem?_toList]; exact List.getElem?_eq_getElem lt, g2⟩
theorem turn_mix {P : Program} {w : World} {K : PySem.W.Frag} {tg : Expr} {p it : Addr} {o : Obj} {kvs : List (V × V)} {es : Array DictEntry} {ep : Nat} (R : MixR p o kvs) (eo : o.data = .dict es ep) : Turn P w K tg (ItM p o kvs) [it] it (fun i h => h.IsKeyIter it p i kvs.length ep) where
  mem := List.mem_singleton.mpr rfl
  obj := fun i h t b hm => by
    rw [List.mem_singleton.mp hm]
    obtain ⟨x, a1, _, a3⟩ := t
    exact ⟨x, a1, fun v z => nomatch (a3.symm.trans z)⟩
  keep := fun i h h' t k => t.at fun x a => k it (List.mem_singleton.mpr rfl) x a
  item := by
    rintro X rfl rfl rfl calm i pins s σ H E I fp t ⟨hp, lt⟩
    obtain ⟨a0, a1, a2, a3, a4, a5⟩ := fp it (List.mem_singleton.mpr rfl)
    obtain ⟨es2, ga⟩ := mix_size R eo
    obtain ⟨⟨x, v⟩, hk⟩ : ∃ q, kvs[i]? = some q := ⟨_, List.getElem?_eq_getElem lt⟩
    obtain ⟨en, he, rk⟩ := ga i x v hk
    refine next_key_item t (pin_of I hp) eo es2 he fun h2 t2 sb => ?_
    have J : Inv X pins σ H { s with heap := h2 } := I.turned (t' := s.toks) (fun b ob nb e => (sb.2 b nb).trans e) a0 a1 a3 a4 a5
    obtain ⟨y, b1, b2, b3⟩ := id t2
    exact ⟨en.key, rfl, go_of (s := { s with heap := h2 }) b1 b2 b3 (by decide) ⟨x, H, J, rk, ⟨rfl, v, hk⟩, t2, fun b hm => (fp b hm).1⟩⟩
  done := by
    rintro X rfl rfl rfl calm i pins s σ H E I fp t ⟨hp, ge⟩
    obtain ⟨a0, a1, a2, a3, a4, a5⟩ := fp it (List.mem_singleton.mpr rfl)
    obtain ⟨es2, _⟩ := mix_size R eo
    exact next_key_end (I.ok.hd calm) t (pin_of I hp) eo es2 ge fun h2 eb => ⟨rfl, I.turned (t' := s.toks) (fun b ob nb e => eb b ob nb e) a0 a1 a3 a4 a5⟩
  self := fun A i s Q E t h => by
    refine wpAny_pyIter_slot t.typeIs F.slot_dict_keyiterator_iter (wpAny_call_entry F.slot_dict_keyiterator_iter t.typeIs F.entry_dict_keyiterator_iter (wpAny_pure ⟨_, rfl, "dict_keyiterator", _, t.typeIs, F.slot_dict_keyiterator_next.lookup, h⟩) (F.args_dict_keyiterator_iter_1 _))
/-- for key in d -/
def iKeysX (td : TE) : TI := fun σ H R => td σ H fun x H1 => ∃ p o kvs, x = .ref p ∧ MixR p o kvs ∧ H1 p = some (PinO p o) ∧ R (ItM p o kvs) H1
theorem pi_keysX {tg e : Expr} {td : TE} (he : PE X e td) : PI X tg e (iKeysX td) := by
  refine ⟨fun pins s σ H R I h => thn (he.run pins s σ H _ I h) fun u s1 ⟨x, H1, J, rx, p, o, kvs, ex, M, hp, q⟩ => ?_⟩
  subst ex
  obtain rfl : u = Value.ref p := rx
  obtain ⟨ns, ed, es, ep, eo, _⟩ := id M
  refine iter_keys ns (pin_of J hp) ed eo (pi_one (tk := s1.toks) J _ (turn_mix M eo) ⟨_, Heap.get?_push_size _ rfl, rfl, ?_⟩ q)
  rw [(mix_size M eo).1] <;> rfl
/-! isinstance -/
theorem isi_mix {p : Addr} {o : Obj} {kvs : List (V × V)} (M : MixR p o kvs) (I : Inv X pins σ H s) (hp : H p = some (PinO p o)) : s.TypeIs (.ref p) "dict" := ⟨o, pin_of I hp, M.2.1.1⟩
end
end Q9
end
-- QMixL
section
set_option maxRecDepth 100000
set_option maxHeartbeats 4000000
namespace Q9
open PySem PySem.Spec PyProof.Rows L2
/-! a dict whose keys are tuples of flat things -/
def LeafV (u : V) (k : Leaf) : Prop := (k = .none ∧ u = .non) ∨ (∃ i, k = .num i ∧ u = .int i) ∨ (∃ b : Bool, k = .num (if b = true then 1 else 0) ∧ u = .bl b) ∨ ∃ x, k = .text x ∧ u = .str x
theorem leaf_is {u : V} {k : Leaf} {v : Value} (h : LeafV u k) (r : RelV u v) : Leaf.isOf k v = true := by
  rcases h with ⟨rfl, rfl⟩ | ⟨i, rfl, rfl⟩ | ⟨b, rfl, rfl⟩ | ⟨x, rfl, rfl⟩
  · cases (show v = Value.none from r); rfl
  · obtain ⟨t, rfl⟩ := r
    exact decide_eq_true rfl
  · cases (show v = Value.bool b from r)
    exact decide_eq_true rfl
  · obtain ⟨t, rfl⟩ := r
    show Value.isStrOf x (.str x t) = true
    simp [Value.isStrOf]
section
variable {X : Cx} {pins : List (Addr × Obj)} {σ : L2.St} {H : Hp} {s : Shared}
theorem leaves_are {prog : Program} {w : World} : ∀ {us : List V} {ks : List Leaf} {its : List Value}, Paired LeafV us ks → Vals us its → ItemsAre (leafKind prog w) ks its
  | _, _, _, .nil, .nil => .nil
  | _, _, _, .cons a b, .cons c d => .cons (leaf_is a c) (leaves_are b d)
theorem all_stored {K : Type} [DecidableEq K] : ∀ (ps xs : List (K × Addr × Value)), ((xs ++ ps).map (·.1)).Nodup → storedAllH xs ps = xs ++ ps
  | [], xs, _ => by rw [List.append_nil]; rfl
  | p :: ps, xs, nd => by
    have n1 : atKey xs p.1 = none := by
      refine atKey_none_of_get fun j r hj => ?_
      rw [List.map_append, List.nodup_append] at nd
      exact nd.2.2 p.1 (List.mem_map.mpr ⟨_, List.mem_of_getElem? hj, rfl⟩) p.1 (by simp) rfl
    have e1 : storedAllH xs (p :: ps) = storedAllH (storedH xs p.1 p.2.1 p.2.2) ps := rfl
    rw [e1, storedH_new n1, all_stored ps _ (by rw [List.append_assoc]; exact nd), List.append_assoc]
    rfl
def MixL (H : Hp) (t : Addr) (kv : List Leaf × Addr × V) : Prop := H t = some (.tup [.ref kv.2.1, kv.2.2]) ∧ ∃ us, H kv.2.1 = some (.tup us) ∧ Paired LeafV us kv.1
theorem rows_leaf (I : Inv X pins σ H s) : ∀ {ts : List Addr} {kvs : List (List Leaf × Addr × V)}, Paired (MixL H) ts kvs →
    ∃ rs : List (List Leaf × Addr × Value), Paired (fun (r : List Leaf × Addr × Value) (kv : List Leaf × Addr × V) => r.1 = kv.1 ∧ r.2.1 = kv.2.1 ∧ RelV kv.2.2 r.2.2 ∧ IsTupleKey (leafKind X.prog X.w) s.heap r.1 r.2.1) rs kvs ∧ rs.length = ts.length ∧
      ∀ (j : Nat) (r : List Leaf × Addr × Value), rs[j]? = some r → ∃ b, ts[j]? = some b ∧ s.heap.IsTuple b #[.ref r.2.1, r.2.2]
  | _, _, .nil => ⟨[], .nil, rfl, fun j r e => by simp at e⟩
  | _, _, .cons (a := t) (b := kv) ⟨h1, us, h2, lf⟩ rest => by
    obtain ⟨rs, k, l, f⟩ := rows_leaf I rest
    obtain ⟨its, rv, ht, _⟩ := I.tuple (.of h1)
    obtain ⟨u, y, ei, ru, ry⟩ := vals2 rv
    subst ei
    cases ru
    obtain ⟨kits, krv, ⟨o, ko, kc, n, kd⟩, _⟩ := I.tuple (.of h2)
    refine ⟨(kv.1, kv.2.1, y) :: rs, .cons ⟨rfl, rfl, ry, o, _, n, ko, kc, kd, leaves_are lf krv⟩ k, by rw [List.length_cons, List.length_cons, l], fun j r e => ?_⟩
    cases j with
    | zero =>
      cases Option.some.inj e
      exact ⟨t, rfl, ht⟩
    | succ j =>
      obtain ⟨b, e1, e2⟩ := f j r (by simpa using e)
      exact ⟨b, by simpa using e1, e2⟩
theorem ents_leaf {rs : List (List Leaf × Addr × Value)} {kvs : List (List Leaf × Addr × V)} {h : Heap} (p : Paired (fun (r : List Leaf × Addr × Value) (kv : List Leaf × Addr × V) => r.1 = kv.1 ∧ r.2.1 = kv.2.1 ∧ RelV kv.2.2 r.2.2 ∧ IsTupleKey (leafKind X.prog X.w) h r.1 r.2.1) rs kvs) :
    rs.map (·.1) = kvs.map (·.1) ∧ Paired MixE (rs.map (entryOfKey (tupleKind (leafKind X.prog X.w)))) (kvs.map fun kv => (V.ref kv.2.1, kv.2.2)) := by
  induction p with
  | nil => exact ⟨rfl, .nil⟩
  | cons h t ih => exact ⟨by rw [List.map_cons, List.map_cons, ih.1, h.1], .cons ⟨by show RelV (V.ref _) (Value.ref _); rw [h.2.1]; rfl, h.2.2.1⟩ ih.2⟩
def rDictL (K : PySem.W.Frag) : List V → Hp → VK → Prop := fun vs H Q => ∃ (a : Addr) (ts : List Addr) (kvs : List (List Leaf × Addr × V)), vs = [.ref a] ∧ SqL K H a (ts.map V.ref) ∧ Paired (MixL H) ts kvs ∧ (kvs.map (·.1)).Nodup ∧
  ∀ p o, H p = none → MixR p o (kvs.map fun kv => (V.ref kv.2.1, kv.2.2)) → Q (.ref p) (upd H p (PinO p o))
theorem cr_dictL (hcalm : X.calm = true) (hu : X.A.in1.in1.units < cLine) : CallR X (.type "dict") (rDictL X.K) := by
  intro pins s σ H vs us Q I r h
  obtain ⟨a, ts, kvs, rfl, hq, hp, nd, q⟩ := h
  rw [Vals.ref1 r]
  obtain ⟨its, rv, pl, hz⟩ := I.list hq
  cases refs_vals rv
  rw [List.length_map] at hz
  obtain ⟨rs, kt, hl, hr⟩ := rows_leaf I hp
  obtain ⟨ek, ee⟩ := ents_leaf kt
  obtain ⟨o, n, ho, hc, hd, hdat⟩ := pl
  have len : (rs.map fun r => ((.ref r.2.1, r.2.2) : Value × Value)).length = ts.length := by rw [List.length_map, hl]
  have items : PairItems s.heap (ts.map Value.ref).toArray (fun j => (ts[j]?).getD 0) (rs.map fun r => ((.ref r.2.1, r.2.2) : Value × Value)) := by
    refine ⟨by rw [List.size_toArray, List.length_map, len], fun j k' v' e => ?_⟩
    rw [List.getElem?_map] at e
    obtain ⟨r, e1, e2⟩ := Option.map_eq_some_iff.mp e
    cases e2
    obtain ⟨b, e3, e4⟩ := hr j r e1
    refine ⟨?_, ?_⟩
    · rw [List.getElem?_toArray, List.getElem?_map, e3]
      show some (Value.ref b) = some (Value.ref ((ts[j]?).getD 0))
      rw [e3]
      rfl
    · show PairAt s.heap ((ts[j]?).getD 0) _ _
      rw [e3]
      exact .inl e4
  have isK : ∀ r ∈ rs, IsTupleKey (leafKind X.prog X.w) s.heap r.1 r.2.1 := fun r hr' => by
    obtain ⟨j, hj⟩ := List.mem_iff_getElem?.mp hr'
    obtain ⟨y, _, _, _, _, e⟩ := LiI.paired_get kt hj
    exact e
  refine call_dict_pairsH (knd := tupleKind (leafKind X.prog X.w)) (ps := rs) (PairArg.list a _ _ _) (I.ok.hd hcalm) hu ⟨⟨o, n, ho, hc, hd, hdat⟩, items⟩ ⟨by rw [len, hl], fun i key v e => ?_⟩ (fun h' keep x hx => ?_) (by rw [len]; exact hz) fun h' tk hd' k => ?_
  · have e' : (rs.map fun r => ((.ref r.2.1, r.2.2) : Value × Value))[i]? = some (key, v) := e
    rw [List.getElem?_map] at e'
    obtain ⟨r, e1, e2⟩ := Option.map_eq_some_iff.mp e'
    cases e2
    exact ⟨r.1, r.2.1, e1, rfl⟩
  · obtain ⟨ob, items', m, g1, g2⟩ := isK x hx
    exact ⟨ob, items', m, keep _ _ (Nat.ne_of_lt (Heap.lt_size g1)) (fun z => nomatch z) g1, g2⟩
  · have k' : Keeps s.heap h' := fun b o e => k b o (fun z => nomatch z) e
    have big : (s.heap.objs.size == sysModules) = false := beq_eq_false_iff_ne.mpr (Nat.ne_of_gt I.big)
    have hn : H s.heap.objs.size = none := I.hok.fresh (Nat.le_refl _)
    rw [all_stored rs [] (by rw [List.nil_append, ek]; exact nd), List.nil_append] at hd'
    obtain ⟨o2, es, ep, g1, g2, g3, g4, _⟩ := hd'
    have J := I.laid (t' := tk) (o := PinO s.heap.objs.size o2) k' (Nat.le_refl _) ⟨g1, ⟨o2, g1⟩, fun h1 h2 m e => e _ m⟩
    exact ⟨.ref _, _, J, rfl, q _ o2 hn ⟨big, g2, es, ep, g3, by rw [← Array.length_toList, g4, List.length_map]; omega, by rw [g4]; exact ee⟩⟩
/-! isinstance of such a dict -/
def rIsiX (K : PySem.W.Frag) : List V → Hp → VK → Prop := fun xs H Q => ∃ (p : Addr) (o : Obj) (kvs : List (V × V)) (c : V) (u : Value) (b : Bool), xs = [.ref p, c] ∧ ClsV c u ∧ MixR p o kvs ∧ H p = some (PinO p o) ∧ PySem.W.kitOne K (.type "dict") u = some b ∧ Q (.bl b) H
theorem call_isiX : CallR X (.builtin "isinstance") (rIsiX X.K) := by
  rintro pins s σ H xs us Q I r ⟨p, o, kvs, c, u, b, rfl, k, M, hp, e, q⟩
  obtain ⟨u1, u2, rfl, r1, r2⟩ := vals2 r
  have e2 := k.eq r2
  subst e2
  cases (show u1 = Value.ref p from r1)
  exact PySem.W.kia_one PySem.W.kitx_dict I.kIn ⟨o, pin_of I hp, M.2.1.1⟩ e (fun z => nomatch z) fun tk => ⟨.bl b, H, I.tok tk, rfl, q⟩
end
end Q9
end
-- QWalkG
section
set_option maxRecDepth 100000
set_option maxHeartbeats 4000000
namespace Q9
open PySem L2 PyProof.Rows
/-! A law that asks for repr: its def is called with no repr under way, and the table of modules is known to the base. -/
/-- a def's promise, kept where no repr is under way -/
structure FnOkG (P : Program) (w : World) (K : PySem.W.Frag) (mg : Str → Option Value) (base : Heap) (k : Nat) (f : Addr) (fd : FuncData) (ps : List Str) (sp : Sp) : Prop where
  goes : ∀ (A : Around) (out : List Env) (s : Shared) (H : Hp) (args : Args) (us : List Value) (vs : List V) (Q : VK) (E : XK), A.guards = some [] → Room k A → Env0 P w K mg base A out s H →
    BindsTo s fd args (ps.zip us) → Vals vs us → sp vs H Q E → codeAny (model P w) A (.call (.ref f) args) (CR CX0 out P w H s Q E) s
section
variable {P : Program} {w : World} {K : PySem.W.Frag} {mg : Str → Option Value} {base : Heap}
theorem _root_.L2.Fun.okG {x qual : Str} {st : Stmt} {f : Addr} {fd : FuncData} {N ps : List Str} {k : Nat} {sp : Sp} (F : Fun K x qual st f fd) (S : FnScope N ps (defScope st))
    (len : ∀ vs H Q E, sp vs H Q E → vs.length = ps.length)
    (body : ∀ (cdv : Value) (A : Around) (out : List Env) (s : Shared) (H : Hp) (vs : List V) (Q : VK) (E : XK), A.guards = some [] → Room k (A.deeper (envOfC qual (defScope st) s.heap.objs.size f cdv)) → sp vs H Q E →
      ∃ t, PSs (cxOf CX0 P w K mg base N qual (defScope st) f cdv A out s H E).nox (defBody st) t ∧ t { nx := fun _ H' => Q .non H', rt := Q } (start N vs) H) : FnOkG P w K mg base (k + 1) f fd ps sp := by
  obtain ⟨oc, od, kV, doc, pm, an, cdv, ct, osl, rfl, lk, hcd⟩ := F.ex
  refine ⟨fun A out s H args us vs Q E hg hr e0 hb rv want => ?_⟩
  have n := len _ _ _ _ want
  have inK : K.In s.heap := e0.mod.kin.keeps fun b o e => (e0.bs b o e).1
  have noLim : s.heap.NoLimit := e0.mod.nolimit.keeps fun b o e => (e0.bs b o e).1
  have kinds : ∀ y ∈ ps.zip us, (defScope st).names.lookup y.1 = some .local ∨ ((defScope st).names.lookup y.1 = some .cell ∧ ((cellsFrom (s.heap.objs.size + 1) (defScope st).names []).lookup y.1).isSome = true) := by
    rintro ⟨z, v⟩ hz
    exact (S.par z (List.of_mem_zip hz).1).imp id fun q => ⟨q, PySem.W.cellsFrom_some _ _ _ (.inl q)⟩
  refine codeAny_call_function hr.depth (inK _ _ lk) rfl S.co S.gen rfl (PySem.W.codeRec_of inK hcd) (hb _ _ _ _ ?_)
  refine wpAny_newFunctionEnv_cells S.kind kinds fun env he s1 z => ?_
  subst he
  refine ⟨noLim.keeps z.toInCall.keep, codeAny_func ?_⟩
  obtain ⟨t, ht, hq⟩ := body cdv A out s H vs Q E hg (hr.deeper _) want
  have J : Inv (cxOf CX0 P w K mg base N qual (defScope st) f cdv A out s H E) [] (start N vs) H s1 := inv_start S hr.hd e0 n rv z
  refine wpAny_mono (ht.nox.run [] s1 (start N vs) H _ J hq) ?_ fun e s' h => h
  intro fl s' hs
  cases fl with
  | next => exact let ⟨_, H', J', q⟩ := hs; ⟨V.non, H', J'.os, J'.bare, J'.base, J'.hok, rfl, q⟩
  | ret u => exact let ⟨v, _, H', J', r', q⟩ := hs; ⟨v, H', J'.os, J'.bare, J'.base, J'.hok, r', q⟩
  | brk => exact let ⟨_, _, _, q⟩ := hs; False.elim q
  | cont => exact let ⟨_, _, _, q⟩ := hs; False.elim q
/-- the law's call -/
theorem law_callG {mb : Str → Option Value} {k : Nat} {fa a : Addr} {fd : FuncData} {x : Str} {sp : Sp} {s₁ : Shared} {vs : List Value} {ns : List Int} (inK : K.In s₁.heap) (hns : s₁.heap.Ns mainGlobals mg) (hb : s₁.heap.Ns builtinsNs mb)
    (hbb : ∀ x : Str, x ≠ "__name__" → mb x = bootBuiltins x) (noLim : s₁.heap.NoLimit) (hg : s₁.gens = #[]) (ha : s₁.heap.get? a = some { cls := .type "list", data := .seq vs.toArray }) (hi : IntsAre vs ns) (hl : ns.length ≤ sizeLine)
    (low : ∃ o, s₁.heap.get? sysModules = some o) (na : a ≠ sysModules) (hr : Room k callerA)
    (F : ∀ base : Heap, K.In base → base.Ns mainGlobals mg → (∃ o, base.get? sysModules = some o) → FnOkG P w K mg base k fa fd [x] sp) (bind : ∀ (s : Shared) (u : Value), BindsTo s fd ⟨[u], []⟩ [(x, u)])
    (hsp : ∀ H : Hp, Only H → SqL K H a (ns.map V.int) → sp [.ref a] H (fun v _ => v = .bl true) fun _ _ _ => False) :
    codeAny (model P w) callerA (.call (.ref fa) ⟨[.ref a], []⟩) (fun r s' => r = .ok (.ret (.bool true)) ∧ OldK s₁.heap s'.heap ∧ s'.os = s₁.os ∧ AllBare s'.gens) s₁ := by
  have rv := vals_ints hi
  have run : ∀ H : Hp, Only H → SqL K H a (ns.map V.int) → HOk P w H s₁.heap → (∀ b, H b ≠ none → b = a) → (H a ≠ none → K.lookup a = none) →
      codeAny (model P w) callerA (.call (.ref fa) ⟨[.ref a], []⟩) (fun r s' => r = .ok (.ret (.bool true)) ∧ OldK s₁.heap s'.heap ∧ s'.os = s₁.os ∧ AllBare s'.gens) s₁ := by
    intro H only sq ok at_a notK
    have stays : ∀ {b : Addr} {o : Obj}, s₁.heap.get? b = some o → (o.cls ≠ .type "list" ∨ H b = none) → (hidT s₁.heap H).get? b = some o := fun {b o} e c => by
      refine hidT_get e ?_
      rcases c with c | c
      · cases q : H b with
        | none => rfl
        | some u =>
          obtain rfl := at_a b (by rw [q]; exact fun z => nomatch z)
          rw [ha] at e
          cases e
          exact (c rfl).elim
      · exact c
    have dicts : ∀ {b : Addr} {o : Obj} {es : Array DictEntry} {ep : Nat}, s₁.heap.get? b = some o → o.data = .dict es ep → H b = none := fun {b o es ep} e d => by
      cases q : H b with
      | none => rfl
      | some u =>
        obtain rfl := at_a b (by rw [q]; exact fun z => nomatch z)
        rw [ha] at e
        cases e
        have z : Data.seq vs.toArray _ = Data.dict es ep := d
        cases z
    have nsB : ∀ {b : Addr} {m : Str → Option Value}, s₁.heap.Ns b m → (hidT s₁.heap H).Ns b m := fun {b m} ⟨o, es, ep, e, d, r⟩ => ⟨o, es, ep, stays e (.inr (dicts e d)), d, r⟩
    have inB : K.In (hidT s₁.heap H) := fun b o e => stays (inK b o e) (.inr (by
      cases q : H b with
      | none => rfl
      | some u =>
        obtain rfl := at_a b (by rw [q]; exact fun z => nomatch z)
        rw [notK (by rw [q]; exact fun z => nomatch z)] at e
        cases e))
    have lowB : ∃ o, (hidT s₁.heap H).get? sysModules = some o := by
      obtain ⟨o, e⟩ := low
      refine ⟨o, stays e (.inr ?_)⟩
      cases q : H sysModules with
      | none => rfl
      | some u => exact (na (at_a _ (by rw [q]; exact fun z => nomatch z)).symm).elim
    have M : Mod K mg (hidT s₁.heap H) := ⟨inB, nsB hns, ⟨mb, nsB hb, hbb⟩, let ⟨mc, h1, h2⟩ := noLim; ⟨mc, nsB h1, h2⟩⟩
    have e0 : Env0 P w K mg (hidT s₁.heap H) callerA [] s₁ H := ⟨rfl, M, fun b o e => of_hidT e, Nat.le_of_eq (hidT_size _ _), trivial, fun b hb => (nomatch (show b ∈ ([] : List Addr) from hb)), ok, .of_eq hg⟩
    refine codeAny_mono ((F _ inB (nsB hns) lowB).goes callerA [] s₁ H ⟨[.ref a], []⟩ [.ref a] [.ref a] _ _ rfl hr e0 (bind s₁ (.ref a)) (.cons rfl .nil) (hsp H only sq)) ?_
    intro r s' h
    cases r with
    | error e => exact False.elim h
    | ok fl =>
      cases fl with
      | next => exact False.elim h
      | brk => exact False.elim h
      | cont => exact False.elim h
      | ret u =>
        obtain ⟨v, H', os, bare, un, ok', r', q⟩ := h
        have q : v = .bl true := q
        subst q
        obtain rfl : u = Value.bool true := r'
        refine ⟨rfl, OldK.of_keep fun b o e => ?_, os, bare⟩
        cases z : H b with
        | none => exact un.keep b o e z (fun c => nomatch (show b ∈ ([] : List Addr) from c)) (fun c => nomatch c)
        | some u =>
          rcases only b with c | ⟨ob, xs, c⟩
          · rw [z] at c; cases c
          · obtain ⟨e1, _⟩ := ok b _ c
            obtain ⟨e2, _⟩ := ok' b _ (un.frzs b ob _ c)
            rw [e] at e1
            cases e1
            exact e2
  cases hk : K.lookup a with
  | some o =>
    have e := inK a o hk
    rw [ha] at e
    cases e
    exact run (fun _ => none) (fun _ => .inl rfl) (.inr ⟨_, vs.toArray, _, hk, rfl, rfl, rfl, by rw [List.size_toArray, hi.length]; exact hl, by simpa using rv⟩) (fun b u z => nomatch (show (none : Option HO) = some u from z)) (fun b z => (z rfl).elim) fun z => (z rfl).elim
  | none =>
    have one : ∀ {b : Addr} {u : HO}, (if b = a then some (HO.frz { cls := .type "list", data := .seq vs.toArray } (.lst (ns.map V.int))) else none) = some u → b = a ∧ u = .frz { cls := .type "list", data := .seq vs.toArray } (.lst (ns.map V.int)) := fun {b u} z => by
      split at z
      · exact ⟨by assumption, (Option.some.inj z).symm⟩
      · cases z
    refine run (fun b => if b = a then some (.frz { cls := .type "list", data := .seq vs.toArray } (.lst (ns.map V.int))) else none) (fun b => ?_) (.inl (.inr ⟨_, if_pos rfl⟩)) (fun b u z => ?_) (fun b z => ?_) fun _ => hk
    · by_cases c : b = a
      · exact .inr ⟨_, _, if_pos c⟩
      · exact .inl (if_neg c)
    · obtain ⟨rfl, rfl⟩ := one z
      exact ⟨ha, by rw [List.length_map]; exact hl, vs, _, rv, ha⟩
    · cases q : (if b = a then some (HO.frz { cls := .type "list", data := .seq vs.toArray } (.lst (ns.map V.int))) else none) with
      | none => exact (z q).elim
      | some u => exact (one q).1
end
theorem walkG {l : PySem.W.OpenLaw} {n k : Nat} {q : Program} {loose : List Str} {XP : (Str → Option Value) → Heap → Prop} {YP : World → Heap → Prop} {d : DefRec} {K : Params → PySem.W.Frag} {sp : World → Sp} {x : Str}
    (hn : l.most = some n) (hn2 : n ≤ sizeLine) (hdf : d.params.defaults = []) (hr : Room k callerA) (hi : importsNone q = true) (hY : ∀ (w : World) (h : Heap), YP w h → (K w.params).In h)
    (F : ∀ (w : World) (mg : Str → Option Value) (fa : Addr) (h : Heap), (K w.params).In h → h.Ns mainGlobals mg → mg d.name = some (.ref fa) → ∃ fd : FuncData, (∀ (s : Shared) (u : Value), BindsTo s fd ⟨[u], []⟩ [(x, u)]) ∧
      ∀ base : Heap, (K w.params).In base → base.Ns mainGlobals mg → (∃ o, base.get? sysModules = some o) → FnOkG l.prog w (K w.params) mg base k fa fd [x] (sp w))
    (hsp : ∀ (w : World) (H : Hp) (a : Addr) (ns : List Int), ns.length ≤ n → Only H → SqL (K w.params) H a (ns.map V.int) → sp w [.ref a] H (fun v _ => v = .bl true) fun _ _ _ => False) :
    PySem.W.WalkO q loose XP YP l.row.toRowW d [] (fun f vs => PySem.call f vs) := by
  intro w s₀ s₁ mg mb G Y fa o pm cd doc dV kV ho hd hcd hD hmg hg args vals as hpre hlay hrd hwl hlo
  have inK := hY w _ Y
  obtain ⟨fd, bind, hF⟩ := F w mg fa _ inK G.T.g hmg
  obtain ⟨a, vs, ns, rfl, rfl, hobj, hints, hlen⟩ := Att.script_of hn hpre hwl
  have na : a ≠ sysModules := by
    have : a ∈ as := by
      cases hrd with
      | cons h1 h2 => cases h1; simp
    intro z
    have := hlo a this
    rw [z] at this
    exact absurd this (by decide)
  have low : ∃ o, s₁.heap.get? sysModules = some o := by
    obtain ⟨mm, ⟨o, _, _, e, _⟩, _⟩ := (G.T.seer hi).mods
    exact ⟨o, e⟩
  refine PySem.W.enter_call (codeAny_mono (law_callG inK G.T.g G.T.b G.T.builtins G.T.nolimit hg hobj hints (Nat.le_trans hlen hn2) low na hr hF bind fun H hO hS => hsp w H a ns hlen hO hS) fun r s' hq => ?_)
  obtain ⟨rfl, h2, h3, h4⟩ := hq
  exact ⟨.inl ⟨.bool true, .bool true, [], rfl, fun _ => rfl, .bool true, Att.post_true l _, fun _ => ⟨List.Pairwise.nil, fun _ hm => (nomatch hm)⟩⟩, h2, h3, h4⟩
end Q9
end
-- QReprX
section
set_option maxRecDepth 100000
set_option maxHeartbeats 4000000
namespace Q9
open PySem L2 PyProof.Rows
/-! repr of data with dicts that have entries -/
def keyD : Key → PyData
  | .inl i => .int i
  | .inr x => .str x
mutual
inductive Dy (H : Hp) : V → PyData → Prop
  | non : Dy H .non .none
  | bl (b : Bool) : Dy H (.bl b) (.bool b)
  | int (i : Int) : Dy H (.int i) (.int i)
  | str (x : Str) : Dy H (.str x) (.str x)
  | lst {a : Addr} {xs : List V} {ds : List PyData} : H a = some (.lst xs) → DyAll H xs ds → Dy H (.ref a) (.list ds)
  | tup {a : Addr} {xs : List V} {ds : List PyData} : H a = some (.tup xs) → DyAll H xs ds → Dy H (.ref a) (.tuple ds)
  | pin {p : Addr} {o : Obj} {kvs : List (V × V)} {ks vs : List PyData} : H p = some (PinO p o) → MixR p o kvs → DyAll H (kvs.map (·.1)) ks → DyAll H (kvs.map (·.2)) vs → Dy H (.ref p) (.dict (ks.zip vs))
  | dT {a : Addr} {kvs : List (List Key × V)} {vs : List PyData} : H a = some (.dT kvs) → DyAll H (kvs.map (·.2)) vs → Dy H (.ref a) (.dict ((kvs.map fun kv => PyData.tuple (kv.1.map keyD)).zip vs))
inductive DyAll (H : Hp) : List V → List PyData → Prop
  | nil : DyAll H [] []
  | cons {v : V} {vs : List V} {d : PyData} {ds : List PyData} : Dy H v d → DyAll H vs ds → DyAll H (v :: vs) (d :: ds)
end
section
variable {X : Cx} {pins : List (Addr × Obj)} {σ : L2.St} {H : Hp} {s : Shared}
theorem dyAll_len {vs : List V} {ds : List PyData} (h : DyAll H vs ds) : vs.length = ds.length := by
  induction vs generalizing ds with
  | nil => cases h; rfl
  | cons v vs ih => cases h with | cons _ b => rw [List.length_cons, List.length_cons, ih b]
theorem keys_read : ∀ {ks : List Key} {us : List Value}, Vals (ks.map kV) us → ReadsAll s.heap us (ks.map keyD) []
  | [], _, .nil => .nil
  | k :: ks, _, .cons a b => by
    cases k with
    | inl i => obtain ⟨t, rfl⟩ := a; exact .cons (as := []) (.int i t) (keys_read b)
    | inr x => obtain ⟨t, rfl⟩ := a; exact .cons (as := []) (.str x t) (keys_read b)
theorem ents_read {K : Type} [DecidableEq K] {knd : HeapKind X.prog X.w K} {f : K → PyData} : ∀ {xs : List (K × Addr × Value)}, (∀ x ∈ xs, Reads s.heap (.ref x.2.1) (f x.1) []) → ReadsAll s.heap ((xs.map (entryOfKey knd)).map (·.key)) (xs.map fun x => f x.1) []
  | [], _ => .nil
  | x :: xs, h => .cons (as := []) (h x List.mem_cons_self) (ents_read fun y hy => h y (List.mem_cons_of_mem _ hy))
theorem mix_vals {es : List DictEntry} {kvs : List (V × V)} (p : Paired MixE es kvs) : Vals (kvs.map (·.1)) (es.map (·.key)) ∧ Vals (kvs.map (·.2)) (es.map (·.val)) := by
  induction p with
  | nil => exact ⟨.nil, .nil⟩
  | cons h t ih => exact ⟨.cons h.1 ih.1, .cons h.2 ih.2⟩
theorem dT_reads (I : Inv X pins σ H s) {kvs : List (List Key × V)} {xs : List (List Key × Addr × Value)} (p : Paired (fun (p : List Key × V) (q : List Key × Addr × Value) => p.1 = q.1 ∧ H q.2.1 = some (.tup (p.1.map kV)) ∧ RelV p.2 q.2.2) kvs xs) :
    (∀ x ∈ xs, Reads s.heap (.ref x.2.1) (.tuple (x.1.map keyD)) []) ∧ (xs.map fun x => PyData.tuple (x.1.map keyD)) = (kvs.map fun kv => PyData.tuple (kv.1.map keyD)) ∧ Vals (kvs.map (·.2)) ((xs.map (entryOfKey (tupleKind (mixKind X.prog X.w)))).map (·.val)) := by
  induction p with
  | nil => exact ⟨fun x hx => (nomatch hx), rfl, .nil⟩
  | @cons p q l m h t ih =>
    obtain ⟨h1, h2, h3⟩ := h
    obtain ⟨its, rv, ⟨o, ho, hc, n, hd⟩, _⟩ := I.tuple (.of h2)
    refine ⟨fun x hx => ?_, by rw [List.map_cons, List.map_cons, ih.2.1, h1], .cons h3 ih.2.2⟩
    rcases List.mem_cons.mp hx with rfl | hx
    · rw [← h1]
      exact .tuple ho hc hd (keys_read rv)
    · exact ih.1 x hx
mutual
theorem dy_reads (I : Inv X pins σ H s) (lo : H sysModules = none) {v : V} {d : PyData} (h : Dy H v d) : ∀ {u : Value}, RelV v u → ∃ as, Reads s.heap u d as ∧ sysModules ∉ as := by
  intro u r
  match h with
  | .non => cases (show u = Value.none from r); exact ⟨_, .none, fun z => nomatch z⟩
  | .bl b => cases (show u = Value.bool b from r); exact ⟨_, .bool b, fun z => nomatch z⟩
  | .int i => obtain ⟨t, rfl⟩ := r; exact ⟨_, .int i t, fun z => nomatch z⟩
  | .str x => obtain ⟨t, rfl⟩ := r; exact ⟨_, .str x t, fun z => nomatch z⟩
  | .lst e ha =>
    cases r
    obtain ⟨its, rv, ⟨o, n, ho, hc, _, hd⟩, _⟩ := I.list (.of e)
    obtain ⟨as, hr, na⟩ := dyAll_reads I lo ha rv
    refine ⟨_, .list ho hc hd hr, fun z => ?_⟩
    rcases List.mem_cons.mp z with z | z
    · rw [← z, lo] at e; cases e
    · exact na z
  | .tup e ha =>
    cases r
    obtain ⟨its, rv, ⟨o, ho, hc, n, hd⟩, _⟩ := I.tuple (.of e)
    obtain ⟨as, hr, na⟩ := dyAll_reads I lo ha rv
    exact ⟨_, .tuple ho hc hd hr, na⟩
  | .pin (kvs := kvs) (ks := ks) (vs := vs) e M hk hv =>
    cases r
    obtain ⟨ns, ed, es, ep, eo, sz, pr⟩ := M
    obtain ⟨m1, m2⟩ := mix_vals pr
    obtain ⟨as, r1, n1⟩ := dyAll_reads I lo hk m1
    obtain ⟨bs, r2, n2⟩ := dyAll_reads I lo hv m2
    have l1 := dyAll_len hk
    have l2 := dyAll_len hv
    rw [List.length_map] at l1 l2
    refine ⟨_, .dict (pin_of I e) ed.1 eo (by rw [List.map_fst_zip (by omega)]; exact r1) (by rw [List.map_snd_zip (by omega)]; exact r2), fun z => ?_⟩
    rcases List.mem_append.mp z with z | z
    · rcases List.mem_cons.mp z with z | z
      · rw [← z] at ns
        exact absurd ns (by decide)
      · exact n1 z
    · exact n2 z
  | .dT (kvs := kvs) (vs := vs) e hv =>
    cases r
    obtain ⟨_, ns, xs, pr, o, es, ep, ho, hx, hd, he, _⟩ := (show ObjOk X.prog X.w H s.heap _ (.dT kvs) from I.hok _ _ e)
    obtain ⟨g1, g2, g3⟩ := dT_reads I pr
    rw [← he] at g3
    obtain ⟨bs, r2, n2⟩ := dyAll_reads I lo hv g3
    have l2 := dyAll_len hv
    rw [List.length_map] at l2
    have r1 := ents_read (X := X) (s := s) (knd := tupleKind (mixKind X.prog X.w)) (f := fun k => PyData.tuple (k.map keyD)) g1
    rw [← he, g2] at r1
    refine ⟨_, .dict ho hx.1 hd (by rw [List.map_fst_zip (by rw [List.length_map]; omega)]; exact r1) (by rw [List.map_snd_zip (by rw [List.length_map]; omega)]; exact r2), fun z => ?_⟩
    rcases List.mem_append.mp z with z | z
    · rcases List.mem_cons.mp z with z | z
      · rw [← z] at ns
        exact absurd ns (by decide)
      · cases z
    · exact n2 z
theorem dyAll_reads (I : Inv X pins σ H s) (lo : H sysModules = none) {vs : List V} {ds : List PyData} (h : DyAll H vs ds) : ∀ {us : List Value}, Vals vs us → ∃ as, ReadsAll s.heap us ds as ∧ sysModules ∉ as := by
  intro us r
  match h with
  | .nil => cases r; exact ⟨_, .nil, fun z => nomatch z⟩
  | .cons a b =>
    cases r with
    | cons r1 r2 =>
      obtain ⟨as, q1, n1⟩ := dy_reads I lo a r1
      obtain ⟨bs, q2, n2⟩ := dyAll_reads I lo b r2
      exact ⟨_, .cons q1 q2, fun z => (List.mem_append.mp z).elim n1 n2⟩
end
end
structure ShowsX (d : PyData) : Prop where
  shw : d.showable = true
  leaves : d.leavesShort 10 = true
  deep : d.depth ≤ 40
  few : d.weight ≤ 2 ^ 20
def rReprX : List V → Hp → VK → Prop := fun xs H Q => ∃ (a : Addr) (d : PyData), xs = [.ref a] ∧ Dy H (.ref a) d ∧ ShowsX d ∧ Q (.str d.shown) H
theorem call_reprX {X : Cx} (hg : X.A.guards = some []) (hu : X.A.units + 64 < cLine) (lo : ∃ o, X.base.get? sysModules = some o) : CallR X (.builtin "repr") rReprX := by
  rintro pins s σ H xs us Q I r ⟨a, d, rfl, hd, sh, q⟩
  obtain ⟨u, rfl, ru⟩ := vals1 r
  obtain rfl : u = Value.ref a := ru
  obtain ⟨o, ho⟩ := lo
  obtain ⟨as, rd, na⟩ := dy_reads I (I.bs _ _ ho).2 hd rfl
  refine repr_of_reads' rd sh.shw (fun _ => na) hg (by have := sh.deep; omega) (fun _ _ e => e) (fun h' u tk hk => ?_) (PyData.shown_fits (B := 10) (by decide) (by decide) sh.leaves sh.few)
  exact ⟨.str d.shown, H, I.kept hk, ⟨_, rfl⟩, q⟩
end Q9
end
-- QPick
section
set_option maxRecDepth 100000
set_option maxHeartbeats 4000000
namespace Q9
open PySem L2
abbrev Eight : Str := "abcdefgh"
/-- the text of a number: its sign of 26, its sign of eight -/
def stateT (n : Nat) : Str := ⟨#[(Letters.cps.toList[n / 8]?).getD 0, (Eight.cps.toList[n % 8]?).getD 0]⟩
def spPickL (K : PySem.W.Frag) : Sp := fun vs H Q _ => ∃ (l m : Addr) (xs : List V), vs = [.ref l, .ref m] ∧ Well H l ∧ SqL K H m xs ∧ m ≠ l ∧ 0 < xs.length ∧ xs.length < 1073741824 ∧
  ∀ (i : Nat) (x : V) (w : HO), xs[i]? = some x → Well (upd H l w) l → Q x (upd H l w)
theorem sqL_upd {K : PySem.W.Frag} {H : Hp} {l m : Addr} {xs : List V} {w : HO} (h : SqL K H m xs) (n : m ≠ l) : SqL K (upd H l w) m xs := by
  rcases h with (h | ⟨o, h⟩) | h
  · exact .inl (.inl (by rw [upd_ne n]; exact h))
  · exact .inl (.inr ⟨o, by rw [upd_ne n]; exact h⟩)
  · exact .inr h
def spStateT : Sp := fun vs H Q _ => ∃ n : Nat, vs = [.int n] ∧ n < 64 ∧ Q (.str (stateT n)) H
section
variable {P : Program} {w : World} {K : PySem.W.Frag} {mg : Str → Option Value} {base : Heap} {fD : Addr}
theorem scP : FnScope ["_law_well", "_law_some"] ["_law_well", "_law_some"] (defScope sPick) := ⟨rfl, rfl, rfl, by decide +kernel, rfl, by decide +kernel, by decide +kernel⟩
theorem ok_pick {f : Addr} {fd fdD : FuncData} (F : Fun K "_law_pick" "_law_pick" sPick f fd) (T : TLaw K mg fD) (G : FnOk P w K mg base CX0 1 fD fdD ["_law_well", "_law_many"] spDraw) (gb : Binds K fdD ["_law_well", "_law_many"] []) :
    FnOk P w K mg base CX0 2 f fd ["_law_well", "_law_some"] (spPickL K) := by
  refine F.ok scP (fun vs H Q E h => ?_) (fun cdv A outer s H vs Q E hr h => ?_)
  · obtain ⟨l, m, xs, rfl, _⟩ := h
    rfl
  · obtain ⟨l, m, xs, rfl, hw, hm, ne, x0, x1, k⟩ := h
    refine ⟨_, pss_one (ps_ret (pe_ix ix_list (pv 1) (pe_call G hr (by rfl) T.gD T.kD gb .nil pass0 (pa_cons (pv 0) (pa_cons (pe_callB call_len (by rfl) T.len (by decide +kernel) (pa_cons (pv 1) pa_nil)) pa_nil))) (fun _ _ => rfl))), ?_⟩
    refine ⟨_, rfl, _, rfl, _, rfl, _, _, rfl, .inl ⟨_, hm, rfl⟩, ?_⟩
    refine ⟨l, _, rfl, hw, (by omega), (by omega), fun r w' r0 r1 hw' => ?_⟩
    have hi : r.toNat < xs.length := by omega
    refine ⟨m, xs, r, xs[r.toNat], rfl, rfl, sqL_upd hm ne, ?_, ?_⟩
    · have e := atI_nat (xs := xs) (j := r.toNat) (List.getElem?_eq_getElem hi)
      rwa [Int.toNat_of_nonneg r0] at e
    · exact k r.toNat _ w' (List.getElem?_eq_getElem hi) hw' 
end
end Q9
end
-- QWell
section
set_option maxRecDepth 100000
set_option maxHeartbeats 4000000
namespace Q9
open PySem L2
section
variable {K : PySem.W.Frag} {H H' : Hp} {D l : Addr}
theorem del_same_of (s : Same H H') : Same (del H D) (del H' D) := fun b o e => by
  by_cases h : b = D
  · rw [h, del_same] at e
    cases e
  · rw [del_ne h] at e ⊢
    exact s b o e
theorem del_less : Same (del H D) H := fun b o e => by
  by_cases h : b = D
  · rw [h, del_same] at e
    cases e
  · rw [del_ne h] at e
    exact e
theorem sqT_del (w : Well H l) {a : Addr} {xs : List V} (h : SqT K H a xs) : SqT K (del H l) a xs := by
  obtain ⟨x, y, z, e, _⟩ := w
  rcases h with (h | ⟨o, h⟩) | h
  · exact .inl (.inl (by rw [del_ne (fun c => by rw [c, e] at h; cases h)]; exact h))
  · exact .inl (.inr ⟨o, by rw [del_ne (fun c => by rw [c, e] at h; cases h)]; exact h⟩)
  · exact .inr h
theorem but_del (b : But l H H') : Same (del H l) (del H' l) := fun c o e => by
  by_cases h : c = l
  · rw [h, del_same] at e
    cases e
  · rw [del_ne h] at e ⊢
    exact b c o h e
end
theorem mem_states {st : Str} {es : List Str} {mv : Mv} {z : Str} : z ∈ statesIn st es mv ↔ z = st ∨ z ∈ es ∨ ∃ e ∈ mv, z = e.1.1 ∨ ∃ o ∈ e.2, z = o.2 := by
  unfold statesIn
  rw [List.mem_append, List.mem_cons, List.mem_flatMap, or_assoc]
  constructor
  · rintro (h | h | ⟨e, h1, h2⟩)
    · exact .inl h
    · exact .inr (.inl h)
    · refine .inr (.inr ⟨e, h1, ?_⟩)
      rcases List.mem_cons.mp h2 with h | h
      · exact .inl h
      · obtain ⟨o, h3, h4⟩ := List.mem_map.mp h
        exact .inr ⟨o, h3, h4.symm⟩
  · rintro (h | h | ⟨e, h1, h2⟩)
    · exact .inl h
    · exact .inr (.inl h)
    · refine .inr (.inr ⟨e, h1, ?_⟩)
      rcases h2 with h | ⟨o, h3, h4⟩
      · exact List.mem_cons.mpr (.inl h)
      · exact List.mem_cons_of_mem _ (List.mem_map.mpr ⟨o, h3, h4.symm⟩)
theorem wordsIn_len {c : Nat} : ∀ {mv : Mv}, (∀ e ∈ mv, e.2.length ≤ c) → (wordsIn mv).length ≤ c * mv.length
  | [], _ => Nat.zero_le _
  | e :: mv, h => by
    have ih := wordsIn_len (mv := mv) fun x hx => h x (List.mem_cons_of_mem _ hx)
    have h1 := h e List.mem_cons_self
    unfold wordsIn at ih ⊢
    rw [List.flatMap_cons, List.length_append, List.length_map, List.length_cons, Nat.mul_succ]
    omega
end Q9
end
-- QChars
section
set_option maxRecDepth 100000
set_option maxHeartbeats 4000000
namespace Q9
open PySem PySem.Spec PyProof.Rows L2
/-! ### sorted of a text: its signs -/
def oneSign (c : Nat) : Str := ⟨#[c]⟩
def signsOf (z : Str) : List Str := z.cps.toList.map oneSign
theorem signs_strs {x : Str} {acc : Array Value} (h : ItemsOf (SignAt x) acc x.cps.size) : StrsAre acc.toList (signsOf x) := by
  obtain ⟨sz, at_⟩ := h
  have key : ∀ (vs : List Value) (cs : List Nat), vs.length = cs.length → (∀ (i : Nat) (v : Value), vs[i]? = some v → ∃ (c : Nat) (t : Tok), cs[i]? = some c ∧ v = Value.str ⟨#[c]⟩ t) → StrsAre vs (cs.map oneSign) := by
    intro vs
    induction vs with
    | nil =>
      intro cs l _
      cases cs with
      | nil => exact .nil
      | cons _ _ => cases l
    | cons v vs ih =>
      intro cs l f
      cases cs with
      | nil => cases l
      | cons c cs =>
        obtain ⟨c', t, e1, e2⟩ := f 0 v rfl
        cases Option.some.inj e1
        subst e2
        exact .cons _ _ (ih cs (Nat.succ.inj l) fun i u h => f (i + 1) u (by simpa using h))
  refine key _ _ (by rw [Array.length_toList, Array.length_toList, sz]) fun i v hv => ?_
  rw [Array.getElem?_toList] at hv
  obtain ⟨c, u, e1, e2⟩ := at_ i v hv
  exact ⟨c, u, by rw [Array.getElem?_toList]; exact e1, e2⟩
/-- what is told stands -/
theorem obj_there {P : Program} {w : World} {H : Hp} {h : Heap} {a : Addr} {o : HO} (x : ObjOk P w H h a o) : ∃ ob, h.get? a = some ob := by
  cases o with
  | lst xs => let ⟨_, _, _, _, e⟩ := x; exact ⟨_, e⟩
  | tup xs => let ⟨_, _, _, ob, e, _⟩ := x; exact ⟨_, e⟩
  | dK kvs => let ⟨_, _, _, _, o, _, _, e, _⟩ := x; exact ⟨_, e⟩
  | dT kvs => let ⟨_, _, _, _, o, _, _, e, _⟩ := x; exact ⟨_, e⟩
  | set S n => let ⟨o, _, _, _, e, _⟩ := x; exact ⟨_, e⟩
  | ins C dx fs => let ⟨_, _, _, e, _⟩ := x; exact ⟨_, e⟩
  | own y => exact x
  | xd fs => let ⟨_, ⟨_, _, _, e, _⟩, _⟩ := x; exact ⟨_, e⟩
  | rng lo hi => let ⟨_, _, _, e⟩ := x; exact ⟨_, e⟩
  | frz ob u => exact ⟨_, x.1⟩
  | tbl ps => exact ⟨_, x⟩
  | met f y => exact ⟨_, x⟩
  | ext φ => exact x.2.1
section
variable {X : Cx} {pins : List (Addr × Obj)} {σ : L2.St} {H : Hp} {s : Shared}
def rSortedChr : List V → Hp → VK → Prop := fun vs H Q => ∃ z : Str, vs = [V.str z] ∧ z.cps.size ≤ sizeLine ∧ ∀ (ys : List Str) (p : Addr), ys.Perm (signsOf z) → Up ys → H p = none → Q (.ref p) (upd H p (.lst (ys.map V.str)))
theorem cr_sortedChr (hc : X.calm = true) : CallR X (.builtin "sorted") rSortedChr := by
  intro pins s σ H vs us Q I r h
  obtain ⟨z, rfl, hz, q⟩ := h
  obtain ⟨u, eu, rx⟩ := vals1 r
  subst eu
  obtain ⟨t, rfl⟩ := rx
  refine Calls.call_function_entry kind_sorted plain_sorted entry_sorted (args_sorted1 _) ?_
  unfold Builtin.«sorted»
  refine wpAny_bind (m := checkCount "sorted" 1 1 _) (wpAny_pure (wpAny_bind (wpAny_collect_str (A := X.A.in1) (I.ok.hd hc) z t (fun s1 acc k1 g1 dr1 o1 items => ?_) hz)))
  have hS := signs_strs items
  have hvl : acc.toList.length ≤ sizeLine := by rw [Array.length_toList, items.1]; exact hz
  refine wpAny_bind (wpAny_newList ?_ hvl)
  have at1 : (s1.heap.push (seqObj "list" acc.toList.toArray 0)).get? s1.heap.objs.size = some (seqObj "list" acc.toList.toArray 0) := Heap.get?_push_size _ rfl
  refine wpAny_bind (wpAny_holding (wpAny_call_entry slot_list_sort ⟨_, at1, rfl⟩ entry_list_sort (list_sort_txts at1 hS hvl fun out ys h1 h2 h3 => ⟨_, rfl, ?_⟩) (args_list_sort _)))
  obtain ⟨c, hc'⟩ := sortedHeap_at (vs := acc.toList) (out := out) at1
  refine wpAny_pure ⟨_, rfl, ?_⟩
  have none1 : s.heap.get? s1.heap.objs.size = none := by
    cases e : s.heap.get? s1.heap.objs.size with
    | none => rfl
    | some o => exact absurd (Heap.lt_size (k1 _ _ e)) (Nat.lt_irrefl _)
  have hn : H s1.heap.objs.size = none := by
    cases e : H s1.heap.objs.size with
    | none => rfl
    | some u =>
      obtain ⟨o, ho⟩ := obj_there (I.hok _ _ e)
      rw [none1] at ho
      cases ho
  have kk : ∀ b u, s.heap.get? b = some u → (sortedHeap (s1.heap.push (seqObj "list" acc.toList.toArray 0)) s1.heap.objs.size acc.toList out).get? b = some u := fun b u e => by
    have q := k1 b u e
    have lt := Heap.lt_size q
    rw [sortedHeap_old (Nat.ne_of_lt lt) (by rw [size_push']; exact Nat.lt_succ_of_lt lt)]
    exact Heap.get?_push_of_some _ q
  have len : (ys.map V.str).length ≤ sizeLine := by rw [List.length_map, h2.length_eq, ← hS.length]; exact hvl
  have J : Inv X pins σ (upd H s1.heap.objs.size (.lst (ys.map V.str))) { s1 with heap := sortedHeap (s1.heap.push (seqObj "list" acc.toList.toArray 0)) s1.heap.objs.size acc.toList out } :=
    I.call' (ch := []) o1 (Un.laidN kk none1 hn) (I.hok.laidN kk hn ⟨len, out.toList, c, vals_of_strs h1, hc'⟩) (by rw [show _ = s.gens from g1]; exact I.bare) fun _ z => nomatch z
  exact ⟨.ref _, _, J, rfl, q ys _ h2 h3 hn⟩
end
end Q9
namespace Q9
open PySem PySem.Spec PyProof.Rows L2
section
variable {X : Cx}
/-- sorted(xs), xs a list of texts -/
def rSortedLs (K : PySem.W.Frag) : List V → Hp → VK → Prop := fun vs H Q => ∃ (a : Addr) (xs : List Str), vs = [V.ref a] ∧ SqL K H a (xs.map V.str) ∧ ∀ (ys : List Str) (p : Addr), ys.Perm xs → Up ys → H p = none → Q (.ref p) (upd H p (.lst (ys.map V.str)))
theorem cr_sortedLs : CallR X (.builtin "sorted") (rSortedLs X.K) := by
  intro pins s σ H vs us Q I r h
  obtain ⟨a, xs, rfl, hs, q⟩ := h
  rw [Vals.ref1 r]
  obtain ⟨its, rv, pl, hz⟩ := I.list hs
  have hS : StrsAre its xs := rv.strs
  have hl : its.length ≤ sizeLine := by rw [← PySem.Paired.length rv]; exact hz
  refine sorted_txts hS hl (fun R E' hR => ?_) fun s' p out c ys k g o z hp h1 h2 h3 => ?_
  · exact collect_list (pl.isList) (hR _ (fun b o e => by rw [Heap.get?_update_other _ _ (Nat.ne_of_gt (Heap.lt_size e))]; exact Heap.get?_push_of_some _ e) (by simp [Heap.size_update, size_push']) rfl rfl)
  · have len : (ys.map V.str).length ≤ sizeLine := by rw [List.length_map, h2.length_eq, ← hS.length]; exact hl
    have J := Inv.new_at I (o := .lst (ys.map V.str)) k g o z ⟨len, out.toList, c, vals_of_strs h1, hp⟩
    exact ⟨.ref p, _, J, rfl, q ys p h2 h3 (I.hok.fresh z)⟩
end
end Q9
end
-- QKindSp
section
set_option maxRecDepth 100000
set_option maxHeartbeats 4000000
namespace Q9
open PySem L2
/-! ### what a kind promises -/
abbrev KAt := Hp → Addr → Str → Str → List Str → Mv → Prop
def spNew (KA : KAt) (l : Str → List Str → Mv → List Str) : Sp := fun vs H Q _ => ∃ (x : Addr) (nm st : Str) (es : List Str) (mv : Mv), vs = [.ref x] ∧ KA H x nm st es mv ∧
  ∀ (H' : Hp) (p : Addr) (ys : List Str), Same H H' → Told (l st es mv) ys → H' p = some (.lst (ys.map V.str)) → Q (.ref p) H'
def spEnds (KA : KAt) : Sp := fun vs H Q _ => ∃ (x : Addr) (nm st : Str) (es : List Str) (mv : Mv), vs = [.ref x] ∧ KA H x nm st es mv ∧
  ∀ (t : Addr) (ys : List Str), ys.Perm es → Up ys → H t = some (.tup (ys.map V.str)) → Q (.ref t) H
/-- the states behind a call that answered so -/
def behind1 (mv : Mv) (S : List Str) (c : Str × Str) : List Str := mv.flatMap fun e => if e.1.1 ∈ S ∧ e.1.2 = c.1 then (e.2.filter fun o => decide (o.1 = c.2)).map (·.2) else []
def behind (mv : Mv) (S : List Str) (hist : List (Str × Str)) : List Str := hist.foldl (behind1 mv) S
/-- a list of pairs of texts -/
def OutsL (K : PySem.W.Frag) (H : Hp) (v : V) (os : List (Str × Str)) : Prop := ∃ (a : Addr) (vs : List V), v = .ref a ∧ SqL K H a vs ∧ Paired (OutT K H) vs os
theorem outsL_up {K : PySem.W.Frag} {H H' : Hp} (s : Same H H') {v : V} {os : List (Str × Str)} (h : OutsL K H v os) : OutsL K H' v os := by
  obtain ⟨a, vs, e, h1, h2⟩ := h
  exact ⟨a, vs, e, sqL_up (Q9.Same.sq s) h1, L2.Paired.mapP h2 fun _ _ ⟨q, e, h⟩ => ⟨q, e, sqT_up (Q9.Same.sq s) h⟩⟩
/-- what a call may lead to, by the first entry of its key -/
def outsOf (mv : Mv) (k : Str × Str) : List (Str × Str) := ((mv.find? fun e => decide (e.1 = k)).map (·.2)).getD []
/-- the same moves in another order, few outcomes each -/
structure EqMv (mvs mv : Mv) : Prop where
  keys : ∀ k, k ∈ mvs.map (·.1) ↔ k ∈ mv.map (·.1)
  outs : ∀ k o, o ∈ outsOf mvs k ↔ o ∈ outsOf mv k
  few : ∀ k, (outsOf mvs k).length ≤ 8
def spMovesD (K : PySem.W.Frag) (KA : KAt) : Sp := fun vs H Q _ => ∃ (x : Addr) (nm st : Str) (es : List Str) (mv : Mv), vs = [.ref x] ∧ KA H x nm st es mv ∧
  ∀ (H' : Hp) (p : Addr) (kvs : List (List Key × V)), Same H H' → H' p = some (.dT kvs) → kvs.length = mv.length → Q (.ref p) H'
def spStart (KA : KAt) : Sp := fun vs H Q _ => ∃ (x : Addr) (nm st : Str) (es : List Str) (mv : Mv), vs = [.ref x] ∧ KA H x nm st es mv ∧ Q (.str st) H
def RightHist (hist : List (Str × Str)) : Prop := ∀ c ∈ hist, nameB c.1 = true ∧ wordB c.2 = true
def spAfter (K : PySem.W.Frag) (KA : KAt) : Sp := fun vs H Q _ => ∃ (x : Addr) (r : V) (nm st : Str) (es : List Str) (mv : Mv) (hist : List (Str × Str)), vs = [.ref x, r] ∧ KA H x nm st es mv ∧ OutsL K H r hist ∧ RightHist hist ∧
  ∀ (H' : Hp) (p : Addr) (ys : List Str), Same H H' → Told (behind mv [st] hist) ys → H' p = some (.lst (ys.map V.str)) → Q (.ref p) H'
def spAllowed (K : PySem.W.Frag) (KA : KAt) : Sp := fun vs H Q _ => ∃ (x : Addr) (r : V) (nm st : Str) (es : List Str) (mv : Mv) (hist : List (Str × Str)), vs = [.ref x, r] ∧ KA H x nm st es mv ∧ OutsL K H r hist ∧ RightHist hist ∧
  ∀ (H' : Hp) (p : Addr) (zs : List Str), Same H H' → Told (methodsIn mv) zs → H' p = some (.lst ((zs.filter fun m => decide (∀ s ∈ behind mv [st] hist, (s, m) ∈ mv.map (·.1))).map V.str)) → Q (.ref p) H'
def spItem (K : PySem.W.Frag) (KA : KAt) : Sp := fun vs H Q _ => ∃ (x q : Addr) (s m : Str) (nm st : Str) (es : List Str) (mv : Mv) (os : List (Str × Str)), vs = [.ref x, .ref q] ∧ KA H x nm st es mv ∧ H q = some (.tup [.str s, .str m]) ∧ ((s, m), os) ∈ mv ∧
  ∀ (H' : Hp) (t : Addr) (ps : List (Addr × Str × Str)), Same H H' → H' t = some (.tup ((ps.map (·.1)).map V.ref)) → (∀ p ∈ ps, SqT K H' p.1 [.str p.2.1, .str p.2.2]) → (ps.map (·.2)).Perm os → UpP (ps.map (·.2)) → Q (.ref t) H'
/-- kind[state, method], of any two texts -/
def spItem2 (K : PySem.W.Frag) (KA : KAt) : Sp := fun vs H Q _ => ∃ (x q : Addr) (s m : Str) (nm st : Str) (es : List Str) (mv : Mv), vs = [.ref x, .ref q] ∧ KA H x nm st es mv ∧ H q = some (.tup [.str s, .str m]) ∧
  (((s, m) ∉ mv.map (·.1) → ∀ H', Same H H' → Q .non H') ∧ ∀ os, ((s, m), os) ∈ mv → ∀ (H' : Hp) (t : Addr) (ps : List (Addr × Str × Str)), Same H H' → H' t = some (.tup ((ps.map (·.1)).map V.ref)) → (∀ p ∈ ps, SqT K H' p.1 [.str p.2.1, .str p.2.2]) → (ps.map (·.2)).Perm os → UpP (ps.map (·.2)) → Q (.ref t) H')
/-- what is told of a made kind -/
structure KAok (C : Addr) (KA : KAt) : Prop where
  up : ∀ {H H' : Hp} {x : Addr} {nm st : Str} {es : List Str} {mv : Mv}, Same H H' → KA H x nm st es mv → KA H' x nm st es mv
  well : ∀ {H H' : Hp} {l x : Addr} {nm st : Str} {es : List Str} {mv : Mv}, Well H l → But l H H' → KA H x nm st es mv → KA H' x nm st es mv
  small : ∀ {H : Hp} {x : Addr} {nm st : Str} {es : List Str} {mv : Mv}, KA H x nm st es mv → Small st es mv ∧ Fits st es mv ∧ (mv.map (·.1)).Nodup
  ins : ∀ {H : Hp} {x : Addr} {nm st : Str} {es : List Str} {mv : Mv}, KA H x nm st es mv → ∃ dx fs, H x = some (.ins C dx fs) ∧ fs.lookup ("states" : Str) = none ∧ fs.lookup ("methods" : Str) = none ∧ fs.lookup ("moves" : Str) = none
/-- nothing is raised where the promise says so -/
theorem pass0X {P : Program} {w : World} {X : Cx} : Passes (L2.CX P w) X E0 := fun _ _ _ _ _ _ _ c => by
  obtain ⟨_, _, _, _, _, _, _, _, _, _, _, _, h⟩ := c
  exact h.elim
end Q9
end
-- QErr
section
set_option maxRecDepth 100000
set_option maxHeartbeats 4000000
namespace Q9
open PySem L2
/-- an error's __init__: its one field -/
def spErrI (C : Addr) (f : Str) : Sp := fun vs H Q _ => ∃ (a : Addr) (v : V), vs = [.ref a, v] ∧ H a = some (exo a C none) ∧ ∀ dx, H dx = none → dx ≠ a → Q .non (upd (upd H dx (exd dx [(f, v)])) a (exo a C (some dx)))
structure TErr (K : PySem.W.Frag) (mg : Str → Option Value) (n f : Str) (C fI : Addr) : Prop where
  gC : mg n = some (.ref C)
  ox : OexC K C
  iC : PySem.W.findIn K (.ref C) "__init__" = some (some (.ref fI))
  tI : PySem.W.typeIn K (.ref fI) = some (.type "function")
  no : PySem.W.findIn K (.ref C) f = some none
section
variable {P : Program} {w : World} {K : PySem.W.Frag} {mg : Str → Option Value} {base : Heap}
theorem scBI : FnScope ["self", "part"] ["self", "part"] (defScope sIBadKind) := ⟨rfl, rfl, rfl, by decide +kernel, rfl, by decide +kernel, by decide +kernel⟩
theorem ok_badI {f C : Addr} {fd : FuncData} (F : Fun K "__init__" "BadKind.__init__" sIBadKind f fd) (T : TErr K mg "BadKind" "part" C f) : FnOk P w K mg base CX0 1 f fd ["self", "part"] (spErrI C "part") := by
  refine F.ok scBI (fun vs H Q E h => ?_) (fun cdv A outer s H vs Q E hr h => ?_)
  · obtain ⟨a, v, rfl, _⟩ := h
    rfl
  · obtain ⟨a, v, rfl, ha, q⟩ := h
    refine ⟨_, pss_one (ps_ost (pv 0) (pv 1)), ?_⟩
    exact ⟨_, rfl, _, rfl, a, C, rfl, T.ox, T.no, .inl ⟨ha, fun dx nd ne => q dx nd ne⟩⟩
theorem name_len8 {z : Str} (h : nameB z = true) : z.length ≤ 8 := by
  unfold nameB at h
  have := of_decide_eq_true (Bool.and_eq_true_iff.mp h).1
  omega
theorem error_len8 {z : Str} (h : errorB z = true) : z.length ≤ 8 := by
  unfold errorB at h
  have := of_decide_eq_true (Bool.and_eq_true_iff.mp h).1
  omega
theorem name_len {z : Str} (h : nameB z = true) : z.length ≤ sizeLine := Nat.le_trans (name_len8 h) (by decide)
theorem word_len {z : Str} (h : wordB z = true) : z.length ≤ sizeLine := by
  unfold wordB at h
  rcases Bool.or_eq_true_iff.mp h with h | h
  · exact Nat.le_trans (error_len8 h) (by decide)
  · rcases Bool.or_eq_true_iff.mp h with h | h
    · rw [of_decide_eq_true h]; decide +kernel
    · rw [of_decide_eq_true h]; decide +kernel
end
end Q9
end
-- QDictW
section
set_option maxRecDepth 100000
set_option maxHeartbeats 4000000
/-! d.values(), d.items(), list(d.values()) of a dict whose keys are tuples -/
namespace Q9
open PySem PySem.Spec PyProof.Rows L2
section
variable {X : Cx} {pins : List (Addr × Obj)} {σ : L2.St} {H : Hp} {s : Shared} {d : Addr} {o : Obj}
theorem frzT2 {kvs : List (List Key × V)} (I : Inv X pins σ H s) (h : H d = some (.frz o (.dT kvs))) :
    (d == sysModules) = false ∧ ∃ (es : Array DictEntry) (ep : Nat), o.data = .dict es ep ∧ s.heap.DictRaw d es ep ∧ es.size = kvs.length ∧
      ∀ (i : Nat) (k : List Key) (v : V), kvs[i]? = some (k, v) → ∃ (en : DictEntry) (q : Addr), es[i]? = some en ∧ en.key = .ref q ∧ H q = some (.tup (k.map kV)) ∧ RelV v en.val := by
  obtain ⟨hd, z, hs, xs, pr, o', es, ep, ho, hx, hdt, he, _⟩ := I.hok d _ h
  rw [hd] at ho
  cases ho
  refine ⟨hs, es, ep, hdt, ⟨o, hd, hx, hdt⟩, ?_, fun i k v e => ?_⟩
  · have l1 : es.size = xs.length := size_of_entries he
    have l2 : kvs.length = xs.length := Paired.length pr
    omega
  · obtain ⟨b, hb, e1, e2, e3⟩ := paired_get pr e
    have q := entry_at he i
    rw [hb] at q
    exact ⟨_, b.2.1, q, rfl, e2, e3⟩
end
/-- the values -/
def Itdt (d : Addr) (o : Obj) (kvs : List (List Key × V)) : It :=
  ⟨fun i H => H d = some (.frz o (.dT kvs)) ∧ i < kvs.length, fun i H x H' => H' = H ∧ ∃ k, kvs[i]? = some (k, x), fun i H => H d = some (.frz o (.dT kvs)) ∧ kvs.length ≤ i⟩
/-- the pairs, each a new tuple of the key's own tuple and the value -/
def Itit (d : Addr) (o : Obj) (kvs : List (List Key × V)) : It :=
  ⟨fun i H => H d = some (.frz o (.dT kvs)) ∧ i < kvs.length, fun i H x H' => ∃ T k v q, kvs[i]? = some (k, v) ∧ x = .ref T ∧ H T = none ∧ H q = some (.tup (k.map kV)) ∧ H' = upd H T (.tup [.ref q, v]), fun i H => H d = some (.frz o (.dT kvs)) ∧ kvs.length ≤ i⟩
section
variable {P : Program} {w : World} {K : PySem.W.Frag} {tg : Expr} {d : Addr} {o : Obj} {es : Array DictEntry} {ep : Nat}
theorem turn_valsT {kvs : List (List Key × V)} (it : Addr) (dat1 : o.data = .dict es ep) : Turn P w K tg (Itdt d o kvs) [it] it (fun i h => h.IsValIter it d i kvs.length ep) where
  mem := by simp
  obj := fun i h at0 b hb => by
    have e : b = it := by simpa using hb
    subst e
    obtain ⟨oi1, e, c, dd⟩ := at0
    exact ⟨oi1, e, fun v z => by rw [dd] at z; cases z⟩
  keep := fun i h h' at0 k => at0.at fun oi1 e => k it (by simp) oi1 e
  item := by
    intro X eP eW eK clm i pn s σ H E I fre at0 now
    subst eP eW eK
    obtain ⟨fz, lti⟩ := now
    obtain ⟨f0, f1, f2, f3, f4, f5⟩ := fre it (by simp)
    obtain ⟨lo, es', ep', dat2, rw1, many, each⟩ := frzT2 I fz
    obtain ⟨rfl, rfl⟩ := dict_ep dat1 dat2
    obtain ⟨⟨k, v⟩, atI⟩ : ∃ p, kvs[i]? = some p := ⟨kvs[i], List.getElem?_eq_getElem lti⟩
    obtain ⟨en, q, atE, hkey, hq, rel⟩ := each i k v atI
    have hi' : i < es'.size := by omega
    have eqE : es'[i] = en := by
      rw [Array.getElem?_eq_getElem hi'] at atE
      exact Option.some.inj atE
    rw [← many] at at0
    refine wpAny_pyNext_values_item_raw at0 rw1 hi' fun h' at1 but => ?_
    have J1 : Inv X pn σ H { s with heap := h' } := I.turned (t' := s.toks) (fun b ob hb e => (but.2 b hb).trans e) f0 f1 f3 f4 f5
    obtain ⟨oi1, e, c, dd⟩ := id at1
    refine ⟨_, rfl, go_of (s := { s with heap := h' }) e c dd (by decide) ⟨v, H, J1, ?_, ⟨rfl, k, atI⟩, ?_, fun b hb => (fre b hb).1⟩⟩
    · rw [eqE]; exact rel
    · show h'.IsValIter it d (i + 1) kvs.length _
      rw [← many]
      exact at1
  done := by
    intro X eP eW eK clm i pn s σ H E I fre at0 now
    subst eP eW eK
    obtain ⟨fz, lti⟩ := now
    obtain ⟨f0, f1, f2, f3, f4, f5⟩ := fre it (by simp)
    obtain ⟨lo, es', ep', dat2, rw1, many, each⟩ := frzT2 I fz
    obtain ⟨rfl, rfl⟩ := dict_ep dat1 dat2
    rw [← many] at at0
    exact wpAny_pyNext_values_end_raw (I.ok.hd clm) at0 rw1 (by omega) fun h' eb => ⟨rfl, I.turned (t' := s.toks) (fun b ob hb e => eb b ob hb e) f0 f1 f3 f4 f5⟩
  self := fun A i s Q E at0 h => wpAny_pyIter_valiter at0 h
theorem turn_itemsT {kvs : List (List Key × V)} {elts : List Expr} {kk : Nat} {tpos : Pos} (it : Addr) (dat1 : o.data = .dict es ep) :
    Turn P w K (.Tuple elts kk tpos) (Itit d o kvs) [it] it (fun i h => ∃ vk vv, IsItemIter h it d i kvs.length ep vk vv) where
  mem := by simp
  obj := fun i h at0 b hb => by
    have e : b = it := by simpa using hb
    subst e
    obtain ⟨vk, vv, e⟩ := at0
    exact ⟨_, e, fun v z => nomatch z⟩
  keep := fun i h h' at0 k => let ⟨vk, vv, e⟩ := at0; ⟨vk, vv, k it (by simp) _ e⟩
  item := by
    intro X eP eW eK clm i pn s σ H E I fre at0 now
    subst eP eW eK
    obtain ⟨fz, lti⟩ := now
    obtain ⟨lo, es', ep', dat2, rw1, many, each⟩ := frzT2 I fz
    obtain ⟨rfl, rfl⟩ := dict_ep dat1 dat2
    obtain ⟨⟨k, v⟩, atI⟩ : ∃ p, kvs[i]? = some p := ⟨kvs[i], List.getElem?_eq_getElem lti⟩
    obtain ⟨en, q, atE, hkey, hq, rel⟩ := each i k v atI
    have hi' : i < es'.size := by omega
    have eqE : es'[i] = en := by
      rw [Array.getElem?_eq_getElem hi'] at atE
      exact Option.some.inj atE
    obtain ⟨vk, vv, inE⟩ := at0
    rw [← many] at inE
    have ltit : it < s.heap.objs.size := Heap.lt_size inE
    refine wpAny_pyNext_items_item_raw inE rw1 hi' fun h' ho hT hz hk => ?_
    rw [eqE] at ho hT
    refine ⟨_, rfl, wpAny_letOwnedTupleGo_items (s := { s with heap := h' }) ho fun h'' inE' but => ?_⟩
    have hT2 : h''.get? s.heap.objs.size = some { cls := .type "tuple", data := .seq #[en.key, en.val] } := (but.2 _ (Nat.ne_of_gt ltit)).trans hT
    have rk : RelV (V.ref q) en.key := by rw [hkey]; exact rfl
    have new : ObjOk X.prog X.w (upd H s.heap.objs.size (.tup [.ref q, v])) h'' s.heap.objs.size (.tup [.ref q, v]) :=
      ⟨by show 2 ≤ sizeLine; decide, [en.key, en.val], .cons rk (.cons rel .nil), ⟨_, hT2, rfl, _, rfl⟩⟩
    have J1 : Inv X pn σ (upd H s.heap.objs.size (.tup [.ref q, v])) { s with heap := h'' } :=
      I.turnedNew (t' := s.toks) (ch := [it]) (fun b ob hb e => (but.2 b (by simpa using hb)).trans (hk b ob (by simpa using hb) e)) fre (Nat.le_refl _) new
    refine ⟨.ref s.heap.objs.size, _, J1, rfl, ⟨_, k, v, q, atI, rfl, I.hok.fresh (Nat.le_refl _), hq, rfl⟩, ⟨en.key, en.val, ?_⟩, fun b hb => ?_⟩
    · rw [← many]; exact inE'
    · have e : b = it := by simpa using hb
      rw [e, upd_ne (Nat.ne_of_lt ltit)]
      exact (fre it (by simp)).1
  done := by
    intro X eP eW eK clm i pn s σ H E I fre at0 now
    subst eP eW eK
    obtain ⟨fz, lti⟩ := now
    obtain ⟨f0, f1, f2, f3, f4, f5⟩ := fre it (by simp)
    obtain ⟨lo, es', ep', dat2, rw1, many, each⟩ := frzT2 I fz
    obtain ⟨rfl, rfl⟩ := dict_ep dat1 dat2
    obtain ⟨vk, vv, inE⟩ := at0
    rw [← many] at inE
    exact wpAny_pyNext_items_end_raw (I.ok.hd clm) inE rw1 (by omega) fun h' eb => ⟨rfl, I.turned (t' := s.toks) (fun b ob hb e => eb b ob hb e) f0 f1 f3 f4 f5⟩
  self := fun A i s Q E at0 h => let ⟨_, _, e⟩ := at0; PySem.W.kcp_self e h
theorem walk_valuesT {kvs : List (List Key × V)} : Walk (Itdt d o kvs) kvs.length (fun H => H d = some (.frz o (.dT kvs))) (fun i H x H' => H' = H ∧ ∃ k, kvs[i]? = some (k, x)) :=
  ⟨fun _ _ lti q => ⟨q, lti⟩, fun _ q => ⟨q, Nat.le_refl _⟩, fun _ _ _ _ _ _ y => y⟩
theorem walk_itemsT {kvs : List (List Key × V)} : Walk (Itit d o kvs) kvs.length (fun H => H d = some (.frz o (.dT kvs))) (fun i H x H' => ∃ T k v q, kvs[i]? = some (k, v) ∧ x = .ref T ∧ H T = none ∧ H q = some (.tup (k.map kV)) ∧ H' = upd H T (.tup [.ref q, v])) :=
  ⟨fun _ _ lti q => ⟨q, lti⟩, fun _ q => ⟨q, Nat.le_refl _⟩, fun _ _ _ _ _ _ y => y⟩
end
def iValsT (td : TE) : TI := fun σ H R => td σ H fun x H1 => ∃ d o kvs, x = .ref d ∧ H1 d = some (.frz o (.dT kvs)) ∧ R (Itdt d o kvs) H1
def iItemsT (td : TE) : TI := fun σ H R => td σ H fun x H1 => ∃ d o kvs, x = .ref d ∧ H1 d = some (.frz o (.dT kvs)) ∧ R (Itit d o kvs) H1
section
variable {X : Cx} {tg e : Expr} {td : TE} {apos cpos : Pos}
theorem pi_valuesT (inE : PE X e td) (hba : attributeBase e "values" X.env (eval e X.env) = eval e X.env := by rfl) (hli : (apos.endLine == cpos.line) = true := by rfl) : PI X tg (.Call (.Attribute e "values" apos) [] [] cpos) (iValsT td) := by
  refine ⟨fun pn s σ H R I h => ?_⟩
  refine wpAny_Call_method (T := "dict") (id := "dict.values") hba rfl hli F.plainAttrs_dict F.slot_dict_values F.type_dict_values (thn (inE.run pn s σ H _ I h) fun u s1 ⟨x, H1, J1, rx, d, o, kvs, ex, fz, q⟩ => ?_)
  subst ex
  obtain rfl : u = Value.ref d := rx
  obtain ⟨lo, es, ep, dat2, rw1, many, each⟩ := frzT2 J1 fz
  refine ⟨rw1.typeIs, (fun b e => by cases e; exact let ⟨o, ho, clm, _⟩ := rw1; ⟨o, ho, clm.2.1⟩), ?_⟩
  have J2 : Inv X pn σ H1 { s1 with heap := s1.heap.push { cls := .type "dict_values", data := .fields #[.ref d] } } := J1.kept (t' := s1.toks) fun b ob q => Heap.get?_push_of_some _ q
  have fin : wpAny (model X.prog X.w) X.A (pyIter (.ref s1.heap.objs.size)) (PIE X pn σ tg R) X.xe { s1 with heap := s1.heap.push { cls := .type "dict_values", data := .fields #[.ref d] } } := by
    refine wpAny_pyIter_values_raw ⟨_, Heap.get?_push_size _ rfl, rfl, rfl⟩ (rw1.push _) (pi_one (tk := s1.toks) J2 _ (turn_valsT _ dat2) ⟨_, Heap.get?_push_size _ rfl, rfl, ?_⟩ q)
    rw [many] <;> rfl
  show wpAny _ _ (callWith cpos (.builtin "dict.values") [.ref d] [] []) _ X.xe s1
  exact method_meetsIn F.slot_dict_values F.entry_dict_values rfl (PySem.evalArgs_none ⟨rfl, rw1.typeIs, F.args_dict_values_1 _, _, meets_dict_values_raw d lo, ⟨es, ep, rw1⟩, fin⟩)
theorem pi_itemsT {elts : List Expr} {kk : Nat} {tpos : Pos} (inE : PE X e td) (hba : attributeBase e "items" X.env (eval e X.env) = eval e X.env := by rfl) (hli : (apos.endLine == cpos.line) = true := by rfl) :
    PI X (.Tuple elts kk tpos) (.Call (.Attribute e "items" apos) [] [] cpos) (iItemsT td) := by
  refine ⟨fun pn s σ H R I h => ?_⟩
  refine wpAny_Call_method (T := "dict") (id := "dict.items") hba rfl hli F.plainAttrs_dict F.slot_dict_items F.type_dict_items (thn (inE.run pn s σ H _ I h) fun u s1 ⟨x, H1, J1, rx, d, o, kvs, ex, fz, q⟩ => ?_)
  subst ex
  obtain rfl : u = Value.ref d := rx
  obtain ⟨lo, es, ep, dat2, rw1, many, each⟩ := frzT2 J1 fz
  refine ⟨rw1.typeIs, (fun b e => by cases e; exact let ⟨o, ho, clm, _⟩ := rw1; ⟨o, ho, clm.2.1⟩), ?_⟩
  have J2 : Inv X pn σ H1 { s1 with heap := s1.heap.push { cls := .type "dict_items", data := .fields #[.ref d] } } := J1.kept (t' := s1.toks) fun b ob q => Heap.get?_push_of_some _ q
  have fin : wpAny (model X.prog X.w) X.A (pyIter (.ref s1.heap.objs.size)) (PIE X pn σ (.Tuple elts kk tpos) R) X.xe { s1 with heap := s1.heap.push { cls := .type "dict_items", data := .fields #[.ref d] } } := by
    refine wpAny_pyIter_items_raw ⟨_, Heap.get?_push_size _ rfl, rfl, rfl⟩ (rw1.push _) (pi_one (tk := s1.toks) J2 _ (turn_itemsT _ dat2) ⟨.none, .none, ?_⟩ q)
    rw [← many]
    exact Heap.get?_push_size _ rfl
  show wpAny _ _ (callWith cpos (.builtin "dict.items") [.ref d] [] []) _ X.xe s1
  exact method_meetsIn F.slot_dict_items F.entry_dict_items rfl (PySem.evalArgs_none ⟨rfl, rw1.typeIs, F.args_dict_items_1 _, _, meets_dict_items_raw d lo, ⟨es, ep, rw1⟩, fin⟩)
end
/-! ### list(d.values()) -/
def rValsT : V → Hp → VK → Prop := fun x H Q => ∃ (d : Addr) (kvs : List (List Key × V)), x = .ref d ∧ H d = some (.dT kvs) ∧ ∀ p, H p = none → Q (.ref p) (upd H p (.lst (kvs.map (·.2))))
def tListValsT (te : TE) : TE := fun σ H Q => te σ H fun x H1 => rValsT x H1 Q
theorem dt_of2 {X : Cx} {pn : List (Addr × Obj)} {σ : L2.St} {H : Hp} {s : Shared} {d : Addr} {kvs : List (List Key × V)} (I : Inv X pn σ H s) (fz : H d = some (.dT kvs)) :
    (d == sysModules) = false ∧ kvs.length ≤ sizeLine ∧ ∃ (es : Array DictEntry) (ep : Nat), s.heap.DictRaw d es ep ∧ es.size = kvs.length ∧ ∀ (i : Nat) (lti : i < es.size), ∃ kv, kvs[i]? = some kv ∧ RelV kv.2 es[i].val := by
  obtain ⟨hz, low, xs, kt, hdo⟩ := dt_of I.hok fz
  obtain ⟨es, ep, rw1, sz, ents⟩ := hdo.raw
  have lk : kvs.length = xs.length := Paired.length kt
  refine ⟨low, hz, es, ep, rw1, by omega, fun i lti => ?_⟩
  obtain ⟨y, k1, k2, k3, _⟩ := ents i lti
  have jk : i < kvs.length := by omega
  obtain ⟨y', m1, m2, m3, m4⟩ := paired_get kt (List.getElem?_eq_getElem jk)
  rw [k1] at m1
  cases m1
  exact ⟨_, List.getElem?_eq_getElem jk, by rw [k3]; exact m4⟩
section
variable {X : Cx} {e : Expr} {te : TE} {p apos cpos pos : Pos}
theorem vals_by {xs : List V} : ∀ {us : List Value}, us.length = xs.length → (∀ (j : Nat) (v : V) (u : Value), xs[j]? = some v → us[j]? = some u → RelV v u) → Vals xs us := by
  induction xs with
  | nil => intro us h _; cases us with
    | nil => exact .nil
    | cons _ _ => cases h
  | cons x xs ih => intro us h f; cases us with
    | nil => cases h
    | cons u us => exact .cons (f 0 x u rfl rfl) (ih (Nat.succ.inj h) fun j v w g1 h2 => f (j + 1) v w (by simpa using g1) (by simpa using h2))
theorem pe_listValsT (clm : X.calm = true) (inE : PE X e te) (now : Gl X "list") (hm : X.mg "list" = none) (hv : bootBuiltins "list" = some (.type "list")) (hba : attributeBase e "values" X.env (eval e X.env) = eval e X.env := by rfl) (hli : (apos.endLine == cpos.line) = true := by rfl)
    (lo : starEach [.Call (.Attribute e "values" apos) [] [] cpos] X.env = (false, eval (.Call (.Attribute e "values" apos) [] [] cpos) X.env) :: starEach [] X.env := by rfl) :
    PE X (.Call (.Name "list" p) [.Call (.Attribute e "values" apos) [] [] cpos] [] pos) (tListValsT te) := by
  refine ⟨fun pn s σ H Q I hq => wpAny_Call_Name_kw (ld_blt I now hm hv (PyProof.Rows.callWith_type1 ?_ lo rfl))⟩
  rw [lo]
  show wpAny _ _ (spliced ((false, eval (.Call (.Attribute e "values" apos) [] [] cpos) X.env) :: backTo pos (starEach [] X.env))) _ _ s
  refine Calls.spliced_cons (wpAny_Call_method (T := "dict") (id := "dict.values") hba rfl hli F.plainAttrs_dict F.slot_dict_values F.type_dict_values (thn (inE.run pn s σ H _ I hq) fun u s1 ⟨x, H1, J1, rx, d, kvs, ex, fz, q⟩ => ?_))
  subst ex
  obtain rfl : u = Value.ref d := rx
  obtain ⟨low, hz, es, ep, rw1, sz, ents⟩ := dt_of2 J1 fz
  have J2 : Inv X pn σ H1 { s1 with heap := s1.heap.push { cls := .type "dict_values", data := .fields #[.ref d] } } := J1.kept (t' := s1.toks) fun b ob q => Heap.get?_push_of_some _ q
  refine ⟨rw1.typeIs, (fun b e => by cases e; exact let ⟨o, ho, clm, _⟩ := rw1; ⟨o, ho, clm.2.1⟩), ?_⟩
  show wpAny _ _ (callWith cpos (.builtin "dict.values") [.ref d] [] []) _ X.xe s1
  refine method_meetsIn F.slot_dict_values F.entry_dict_values rfl (PySem.evalArgs_none ⟨rfl, rw1.typeIs, F.args_dict_values_1 _, _, meets_dict_values_raw d low, ⟨es, ep, rw1⟩, Calls.spliced_nil ?_⟩)
  refine PySem.W.kdl_call PySem.KdlSrc.rawValues (J1.ok.hd clm) ⟨⟨_, Heap.get?_push_size _ rfl, rfl, rfl⟩, rw1.push _⟩ (by omega) fun h' tk acc c hk hS hacc => ?_
  have rel : Vals (kvs.map (·.2)) acc.toList := vals_by (by rw [Array.length_toList, List.length_map, hacc.1, sz]) fun j v u g1 h2 => by
    have h2' : acc[j]? = some u := by rw [← Array.getElem?_toList]; exact h2
    obtain ⟨hj, e1⟩ := hacc.2 j u h2'
    obtain ⟨kv, k1, k2⟩ := ents j hj
    rw [List.getElem?_map, k1] at g1
    rw [e1, ← Option.some.inj g1]
    exact k2
  have J := J2.laid (t' := tk) (h' := h') (a := (s1.heap.push { cls := .type "dict_values", data := .fields #[.ref d] }).objs.size) (o := .lst (kvs.map (·.2))) hk (Nat.le_refl _) ⟨by rw [List.length_map]; omega, acc.toList, c, rel, by rw [Array.toArray_toList]; exact hS⟩
  exact ⟨.ref _, _, J, rfl, q _ (J2.hok.fresh (Nat.le_refl _))⟩
end
end Q9
end
-- QRead1
section
set_option maxRecDepth 100000
set_option maxHeartbeats 4000000
namespace Q9
open PySem L2
/-- are all rows of moves short enough -/
def spAreRows (K : PySem.W.Frag) : Sp := fun vs H Q _ => ∃ (m : Addr) (kvs : List (List Key × V)) (mv : Mv), vs = [.ref m] ∧ H m = some (.dT kvs) ∧ Moves K H kvs mv ∧ kvs.length ≤ 1000000 ∧
  ∀ H', Same H H' → Q (.bl (decide (∀ e ∈ mv, e.2.length ≤ 8))) H'
structure TRead (K : PySem.W.Frag) (mg : Str → Option Value) (fKey : Addr) : Prop where
  isi : mg "isinstance" = none
  dict : mg "dict" = none
  lst : mg "list" = none
  tup : mg "tuple" = none
  str : mg "str" = none
  len : mg "len" = none
  all : mg "all" = none
  sum : mg "sum" = none
  set : mg "set" = none
  sorted : mg "sorted" = none
  outcomes : ∃ t, mg "MOST_OUTCOMES" = some (.int 8 t)
  states : ∃ t, mg "MOST_STATES" = some (.int 60 t)
  methods : ∃ t, mg "MOST_METHODS" = some (.int 8 t)
  gKey : mg "_is_key" = some (.ref fKey)
  kKey : PySem.W.keepIn K (.ref fKey) = true
abbrev arN : List Str := ["moves", "key", "row"]
section
variable {P : Program} {w : World} {K : PySem.W.Frag} {mg : Str → Option Value} {base : Heap} {fKey : Addr}
theorem scAR : FnScope arN ["moves"] (defScope sAreRows) := ⟨rfl, rfl, rfl, by decide +kernel, rfl, by decide +kernel, by decide +kernel⟩
theorem ln6 : ∀ n : Nat, n ≤ 1000000 → n < sizeLine := fun n h => by rw [PySem.sizeLine_eq]; omega
theorem ok_areRows {f : Addr} {fd dK : FuncData} (F : Fun K "_are_rows" "_are_rows" sAreRows f fd) (T : TRead K mg fKey) (GK : FnOk P w K mg base CX0 1 fKey dK ["thing"] (spIsKey K)) (bK : Binds K dK ["thing"] []) : FnOk P w K mg base CX0 2 f fd ["moves"] (spAreRows K) := by
  refine F.ok scAR (fun vs H Q E h => ?_) (fun cdv A outer s H vs Q E hr h => ?_)
  · obtain ⟨m, kvs, mv, rfl, _⟩ := h
    rfl
  · obtain ⟨m, kvs, mv, rfl, hm, M, few, q⟩ := h
    obtain ⟨to, ho⟩ := T.outcomes
    refine ⟨_, pss_cons (ps_if (PW.pt (pw_or (pt_not (pt_val (pe_callB call_isi (by rfl) T.isi (by decide +kernel) (pa_cons (pv 0) (pa_cons (pe_bltn (v := .ty "dict") (by rfl) T.dict (by decide +kernel) rfl) pa_nil)))))
        (pw_or1 (pt_not (pt_val (pe_callB (cr_all rfl) (by rfl) T.all (by decide +kernel) (pa_cons
          (pe_lock (pe_lc (own := [("key", 1)]) (g := gName 1) (tt := tYes) rfl scAR.nd (pi_keys (pv 0)) (blkOk_by (own := [("key", 1)]) (N := arN) (sc := defScope sAreRows) (by decide +kernel))
            (fun _ _ _ _ _ => pg_name (i := 1) scAR.nd rfl (.inl rfl)) (fun _ _ _ _ _ => pts_nil) (fun _ _ _ _ _ => pe_call GK hr (by rfl) T.gKey T.kKey bK .nil pass0 (pa_cons (pv 1) pa_nil)))) pa_nil)))))))
        (pss_one (ps_ret pe_bl)) pss_nil)
      (pss_one (ps_ret (pe_notT (pe_lock (pe_lc (own := [("row", 2)]) (g := gName 2) (te := tVar 2) rfl scAR.nd (pi_valuesT (pv 0)) (blkOk_by (own := [("row", 2)]) (N := arN) (sc := defScope sAreRows) (by decide +kernel))
            (fun _ _ _ _ _ => pg_name (i := 2) scAR.nd rfl (.inl rfl))
            (fun _ _ _ _ _ => pts_one (PW.pt (pw_or (pt_not (pt_val (pe_callB (id := "isinstance") (r := rIsiT K) call_isiT (by rfl) T.isi (by decide +kernel) (pa_cons (pv 2) (pa_cons (pe_tup (pa_cons (pe_bltn (v := .ty "list") (by rfl) T.lst (by decide +kernel) rfl) (pa_cons (pe_bltn (v := .ty "tuple") (by rfl) T.tup (by decide +kernel) rfl) pa_nil))) pa_nil)))))
              (pw_or1 (pt_cmpR op_gt (pe_callB (id := "len") (r := rLenRow K) cr_lenRow (by rfl) T.len (by decide +kernel) (pa_cons (pv 2) pa_nil)) (pe_glob (v := .int 8) (by rfl) ho ⟨_, rfl⟩) (nomark _))))))
            (fun _ _ _ _ _ => pv 2)))))), ?_⟩
    refine ⟨_, rfl, _, _, _, _, true, rfl, .ty _, .base (.dT hm), kit_ty (by decide +kernel), true, rfl, iteF ?_⟩
    refine ⟨m, .dT kvs, hm, trivial, fun od => ?_⟩
    refine ⟨_, rfl, m, od, rfl, .inr ⟨kvs, upd_same, fun D hD => ?_⟩⟩
    have len : kvs.length = mv.length := PySem.Paired.length M.ent
    have nmD : m ≠ D := ne_of_none upd_same hD
    have freeD : H D = none := by rw [upd_ne nmD.symm] at hD; exact hD
    refine lc_it walk_keysT (fun i H' => H' m = some (.frz od (.dT kvs)) ∧ But m H H' ∧ H' D = some (.lst ((List.replicate i true).map V.bl))) ?_ (fun i H' _ p => p.1) ?_ ?_
    · exact ⟨by rw [upd_ne nmD]; exact upd_same, fun b o ne e => by rw [upd_ne (ne_of_none e freeD), upd_ne ne]; exact e, upd_same⟩
    · rintro i y H1 H2 hi ⟨hm1, bt, hd⟩ ⟨rfl, k0, v, qa, hk, rfl, hq⟩
      obtain ⟨e, hev, ek, _⟩ := paired_at M.ent i _ hk
      simp only at ek
      subst ek
      have hq' : H2 qa = some (.tup [.str e.1.1, .str e.1.2]) := hq
      refine ⟨rfl, _, rfl, .ref qa, rfl, .inr (.inr ⟨qa, _, _, true, true, rfl, .of hq', txt_yes _, txt_yes _, _, hd, ?_, ?_, fun b o ne z => ?_, ?_⟩)⟩
      · rw [List.length_map, List.length_replicate]; exact ln6 _ (by omega)
      · rw [upd_ne nmD]; exact hm1
      · rw [upd_ne (ne_of_none z freeD)]; exact bt b o ne z
      · rw [upd_same, List.replicate_succ', List.map_append]; rfl
    · rintro H1 ⟨hm1, bt, hd⟩
      have sb := bt.back hm
      refine ⟨hm1, D, _, rfl, .of (by rw [upd_ne nmD.symm]; exact hd), _, rfl, ?_⟩
      have e1 : (List.replicate kvs.length true).all id = true := by rw [List.all_eq_true]; intro x hx; exact (List.mem_replicate.mp hx).2
      rw [e1]
      refine iteF ?_
      generalize hG : upd H1 m (.dT kvs) = G at sb
      have hmG := sb m _ hm
      have MG := moves_up (Q9.Same.sq sb) M
      refine ⟨m, .dT kvs, hmG, trivial, fun od2 => ?_⟩
      refine ⟨_, rfl, m, od2, kvs, rfl, upd_same, fun D2 hD2 => ?_⟩
      have nmD2 : m ≠ D2 := ne_of_none upd_same hD2
      have freeD2 : G D2 = none := by rw [upd_ne nmD2.symm] at hD2; exact hD2
      refine lc_it walk_valuesT (fun i H' => H' m = some (.frz od2 (.dT kvs)) ∧ But m G H' ∧ ∃ acc, H' D2 = some (.lst acc) ∧ acc.length ≤ i ∧ (acc = [] ↔ ∀ e ∈ mv.take i, e.2.length ≤ 8)) ?_ (fun i H' _ p => p.1) ?_ ?_
      · exact ⟨by rw [upd_ne nmD2]; exact upd_same, fun b o ne e => by rw [upd_ne (ne_of_none e freeD2), upd_ne ne]; exact e, [], upd_same, Nat.le_refl _, by simp⟩
      · rintro i y H2 H3 hi ⟨hm2, bt2, acc, hacc, la, iff⟩ ⟨rfl, k0, hk⟩
        obtain ⟨e, hev, ek, vs, row, each⟩ := paired_at MG.ent i _ hk
        have row2 := row_sq (bt2.sq hmG) row
        have ll : vs.length = e.2.length := PySem.Paired.length each
        refine ⟨rfl, _, rfl, (by show 2 ≤ sizeLine; decide), fun t ht => ?_⟩
        have st := same_upd (o := .tup [.ty "list", .ty "tuple"]) ht
        have row3 := row_up st row2
        have pr : Paired ClsV [V.ty "list", V.ty "tuple"] [Value.type "list", Value.type "tuple"] := .cons (.ty _) (.cons (.ty _) .nil)
        have isrow : ∃ t0, TyX K (upd H3 t (.tup [.ty "list", .ty "tuple"])) y t0 ∧ PySem.W.kitAny K t0 [Value.type "list", Value.type "tuple"] = some true := by
          rcases row_ty row3 with ty | ty
          · exact ⟨_, ty, kitAny_cons (b := true) (kit_ty (by decide +kernel)) (fun z => nomatch z) fun _ => rfl⟩
          · exact ⟨_, ty, kitAny_cons (b := false) (kit_ty (by decide +kernel)) (fun _ => kitAny_cons (b := true) (kit_ty (by decide +kernel)) (fun z => nomatch z) fun _ => rfl) (fun z => nomatch z)⟩
        obtain ⟨t0, ty, kt⟩ := isrow
        refine ⟨y, t, _, _, _, true, rfl, upd_same, pr, ty, kt, true, rfl, iteF ?_⟩
        refine ⟨_, rfl, y, vs, rfl, row3, _, _, rfl, rfl, _, rfl, ?_⟩
        have bt3 : But m G (upd H3 t (.tup [.ty "list", .ty "tuple"])) := bt2.trans (But.of st)
        have tk1 : ∀ P : (Str × Str) × List (Str × Str) → Prop, (∀ x ∈ mv.take (i + 1), P x) ↔ ((∀ x ∈ mv.take i, P x) ∧ P e) := fun P => by
          rw [take_one_more hev]
          constructor
          · intro h
            exact ⟨fun x hx => h x (List.mem_append_left _ hx), h e (List.mem_append_right _ (List.mem_singleton.mpr rfl))⟩
          · rintro ⟨h1, h2⟩ x hx
            rcases List.mem_append.mp hx with hx | hx
            · exact h1 x hx
            · rw [List.mem_singleton.mp hx]; exact h2
        by_cases c : e.2.length ≤ 8
        · have c1 : decide ((8 : Int) < (vs.length : Int)) = false := decide_eq_false (by omega)
          rw [c1]
          refine iteF ⟨st _ _ hm2, bt3, acc, st _ _ hacc, by omega, ?_⟩
          rw [tk1, iff]
          exact ⟨fun h => ⟨h, c⟩, fun h => h.1⟩
        · have c1 : decide ((8 : Int) < (vs.length : Int)) = true := decide_eq_true (by omega)
          rw [c1]
          refine iteT ⟨_, rfl, acc, st _ _ hacc, ln6 _ (by omega), ?_, fun b o ne z => ?_, _, upd_same, ?_, ?_⟩
          · rw [upd_ne nmD2]; exact st _ _ hm2
          · rw [upd_ne (ne_of_none z freeD2)]; exact bt3 b o ne z
          · rw [List.length_append, List.length_singleton]; omega
          · rw [tk1]
            exact ⟨fun h => absurd h (by simp), fun h => absurd h.2 c⟩
      · rintro H2 ⟨hm2, bt2, acc, hacc, la, iff⟩
        rw [len, List.take_length] at iff
        have sb2 := bt2.back hmG
        refine ⟨hm2, _, .inl ⟨acc, .of (by rw [upd_ne nmD2.symm]; exact hacc), rfl⟩, ?_⟩
        have e2 : (!(!acc.isEmpty)) = decide (∀ e ∈ mv, e.2.length ≤ 8) := by
          rw [Bool.not_not, Bool.eq_iff_iff, List.isEmpty_iff, decide_eq_true_iff]
          exact iff
        rw [e2]
        exact q _ fun b o z => sb2 b o (sb b o z)

/-- a walk and what each turn does, whatever that is -/
theorem turns_it {J : It} {n : Nat} {G : Hp → Prop} {Y : Nat → Hp → V → Hp → Prop} (w : Walk J n G Y) {B : V → Hp → (Hp → Prop) → Prop} {H0 : Hp} {Qd : Hp → Prop} (Pv : Nat → Hp → Prop) (h0 : Pv 0 H0) (hG : ∀ i H, i ≤ n → Pv i H → G H)
    (hs : ∀ i x H H', i < n → Pv i H → Y i H x H' → B x H' (Pv (i + 1))) (hd : ∀ H, Pv n H → Qd H) :
    ∃ W : Nat → Nat → Hp → Prop, (∃ m, W 0 m H0) ∧ ∀ i m H, W i m H → (J.stop i H ∧ Qd H) ∨ (J.go i H ∧ ∃ Nx : Hp → Prop, (∀ H', Nx H' → ∃ m', m' < m ∧ W (i + 1) m' H') ∧ ∀ x H', J.yld i H x H' → B x H' Nx) := by
  refine ⟨fun i m H => m + i = n ∧ Pv i H, ⟨n, rfl, h0⟩, ?_⟩
  rintro i m H ⟨e, p⟩
  have q := hG i H (by omega) p
  cases m with
  | zero =>
    obtain rfl : i = n := by omega
    exact .inl ⟨w.stops H q, hd H p⟩
  | succ m =>
    have lt : i < n := by omega
    exact .inr ⟨w.goes i H lt q, Pv (i + 1), fun H' p' => ⟨m, Nat.lt_succ_self _, by omega, p'⟩, fun x H' y => hs i x H H' lt p (w.yields i H x H' lt q y)⟩
/-- a row that stood at some heap ahead and stands still -/
def iRowB (K : PySem.W.Frag) (tl : TE) : TI := fun σ H R => tl σ H fun x H1 => ∃ xs H0, Row K H0 x xs ∧ Same H0 H1 ∧ ∀ (J : It) (G : Hp → Prop), (∀ H', Same H0 H' → G H') → Walk J xs.length G (YAt xs) → R J H1
theorem same_sqT {K : PySem.W.Frag} {H H' : Hp} {a : Addr} {xs : List V} (s : Same H H') (h : SqT K H a xs) : SqT K H' a xs := sqT_up (Q9.Same.sq s) h
theorem pi_rowB {X : Cx} {tg l : Expr} {tl : TE} (hl : PE X l tl) : PI X tg l (iRowB X.K tl) := by
  refine ⟨fun pins s σ H R I h => ?_⟩
  refine thn (hl.run pins s σ H _ I h) fun v s1 ⟨x, H1, I1, r1, xs, H0, ⟨a, e, hq⟩, s0, q⟩ => ?_
  subst e
  cases r1
  have one : ∀ b ∈ [s1.heap.objs.size], FpOk X pins H1 b := fun b hb => by
    obtain rfl : b = s1.heap.objs.size := by simpa using hb
    exact I1.fpOk (Nat.le_refl _) (I1.hok.fresh (Nat.le_refl _))
  rcases hq with hq | hq
  · obtain ⟨its, rv, p, hz⟩ := I1.list (s0.seq hq)
    exact PySem.wpAny_pyIter_list p.isList ⟨s1.heap.objs.size, [s1.heap.objs.size], _, _, H1, rfl, I1.kept (t' := s1.toks) fun b o e => Heap.get?_push_of_some _ e, turn_list a _, ⟨_, Heap.get?_push_size _ rfl, rfl, rfl⟩, one,
      q _ (fun H' => SqL X.K H' a xs) (fun H' s => s.seq hq) walk_list⟩
  · obtain ⟨its, rv, p, hz⟩ := I1.tuple (same_sqT s0 hq)
    exact PySem.wpAny_pyIter_tuple (show s1.heap.IsTuple a its.toArray from p) ⟨s1.heap.objs.size, [s1.heap.objs.size], _, _, H1, rfl, I1.kept (t' := s1.toks) fun b o e => Heap.get?_push_of_some _ e, turn_tuple a _, ⟨_, Heap.get?_push_size _ rfl, rfl, rfl⟩, one,
      q _ (fun H' => SqT X.K H' a xs) (fun H' s => same_sqT s hq) walk_tup⟩
/-- all outcomes in one list -/
def spPairs (K : PySem.W.Frag) : Sp := fun vs H Q _ => ∃ (r : Addr) (rows : List V) (oss : List (List (Str × Str))), vs = [.ref r] ∧ SqL K H r rows ∧ Paired (OutsT K H) rows oss ∧ oss.flatten.length ≤ 1000000 ∧
  ∀ (H' : Hp) (p : Addr), Same H H' → OutsL K H' (.ref p) oss.flatten → Q (.ref p) H'
abbrev paN : List Str := ["rows", "row", "one"]
theorem scPa : FnScope paN ["rows"] (defScope sPairs) := ⟨rfl, rfl, rfl, by decide +kernel, rfl, by decide +kernel, by decide +kernel⟩
theorem ok_pairs {f : Addr} {fd : FuncData} (F : Fun K "_pairs_of_texts" "_pairs_of_texts" sPairs f fd) (T : TRead K mg fKey) : FnOk P w K mg base CX0 1 f fd ["rows"] (spPairs K) := by
  refine F.ok scPa (fun vs H Q E h => ?_) (fun cdv A outer s H vs Q E hr h => ?_)
  · obtain ⟨r, rows, oss, rfl, _⟩ := h
    rfl
  · obtain ⟨r, rows, oss, rfl, hr0, each, few, q⟩ := h
    refine ⟨_, pss_one (ps_ret (pe_lc2 (own := [("row", 1), ("one", 2)]) (vs1 := [2]) (g := gName 1) (tt := tYes) (wi1 := iRowB K (tVar 1)) (g1 := gName 2) (te := tVar 2) rfl scPa.nd (pi_list (pv 0)) (blkOk_by (own := [("row", 1), ("one", 2)]) (N := paN) (sc := defScope sPairs) (by decide +kernel)) (by decide)
      (fun _ _ _ _ _ => pg_name (i := 1) scPa.nd rfl (.inl rfl)) (fun _ _ _ _ _ => pts_nil) (fun _ _ _ _ _ => pi_rowB (pv 1)) (fun _ _ _ _ _ => pg_name (i := 2) scPa.nd rfl (.inl rfl))
      (fun _ _ _ _ _ => pts_one (PW.pt (pw_and (pt_val (pe_callB (id := "isinstance") (r := rIsi K) call_isi (by rfl) T.isi (by decide +kernel) (pa_cons (pv 2) (pa_cons (pe_bltn (v := .ty "tuple") (by rfl) T.tup (by decide +kernel) rfl) pa_nil))))
        (pw_and (pt_cmpR op_eq (pe_callB (id := "len") (r := rLenRow K) cr_lenRow (by rfl) T.len (by decide +kernel) (pa_cons (pv 2) pa_nil)) pe_int (nomark _))
        (pw_and (pt_val (pe_callB (id := "isinstance") (r := rIsi K) call_isi (by rfl) T.isi (by decide +kernel) (pa_cons (pe_ix (r := rIxT K) ix_tup (pv 2) pe_int (fun _ _ => rfl)) (pa_cons (pe_bltn (v := .ty "str") (by rfl) T.str (by decide +kernel) rfl) pa_nil))))
        (pw_and1 (pt_val (pe_callB (id := "isinstance") (r := rIsi K) call_isi (by rfl) T.isi (by decide +kernel) (pa_cons (pe_ix (r := rIxT K) ix_tup (pv 2) pe_int (fun _ _ => rfl)) (pa_cons (pe_bltn (v := .ty "str") (by rfl) T.str (by decide +kernel) rfl) pa_nil))))))))))
      (fun _ _ _ _ _ => pv 2))), ?_⟩
    refine ⟨_, rfl, r, rfl, ⟨_, hr0⟩, fun D hD => ?_⟩
    have lr : rows.length = oss.length := PySem.Paired.length each
    have flat : ∀ i, (oss.take i).flatten.length ≤ 1000000 := fun i => by
      refine Nat.le_trans ?_ few
      conv => rhs; rw [← List.take_append_drop i oss, List.flatten_append, List.length_append]
      exact Nat.le_add_right _ _
    refine turns_it (walk_list (xs := rows)) (fun i H' => Same H H' ∧ ∃ vs, H' D = some (.lst vs) ∧ Paired (OutT K H) vs (oss.take i).flatten) ⟨same_upd hD, [], upd_same, by simp; exact .nil⟩ (fun i H' _ p => sqL_up (Q9.Same.sq p.1) hr0) ?_ ?_
    · rintro i y H1 H2 hi ⟨s1, vs, hvs, pvs⟩ ⟨rfl, hy⟩
      obtain ⟨os, hos, us, row, eo⟩ := paired_at each i _ hy
      have lu : us.length = os.length := PySem.Paired.length eo
      have fl := flat (i + 1)
      have efl : (oss.take (i + 1)).flatten = (oss.take i).flatten ++ os := by rw [take_one_more hos, List.flatten_append]; simp
      rw [efl, List.length_append] at fl
      refine ⟨rfl, _, rfl, us, H, row, s1, fun J G hG wk => ?_⟩
      refine turns_it wk (fun j H' => Same H H' ∧ ∃ acc, H' D = some (.lst acc) ∧ Paired (OutT K H) acc ((oss.take i).flatten ++ os.take j)) ⟨s1, vs, hvs, by simpa using pvs⟩ (fun j H' _ p => hG _ p.1) ?_ ?_
      · rintro j y2 H3 H4 hj ⟨s3, acc, hacc, pacc⟩ ⟨rfl, hy2⟩
        obtain ⟨o, ho, q2, rfl, hq2⟩ := paired_at eo j _ hy2
        have hx := same_sqT s3 hq2
        have la : acc.length = ((oss.take i).flatten ++ os.take j).length := PySem.Paired.length pacc
        rw [List.length_append, List.length_take] at la
        refine ⟨rfl, _, rfl, _, _, _, _, true, rfl, .ty _, sqT_ty hx, kit_ty (by decide +kernel), true, rfl, iteT ?_⟩
        refine ⟨_, rfl, _, _, rfl, ⟨q2, rfl, .inr hx⟩, rfl, true, rfl, iteT ?_⟩
        refine ⟨_, rfl, q2, _, _, _, rfl, rfl, hx, atI_nat (j := 0) rfl, _, _, _, _, true, rfl, .ty _, .base (.str o.1), kit_ty (by decide +kernel), true, rfl, iteT ?_⟩
        refine ⟨_, rfl, q2, _, _, _, rfl, rfl, hx, atI_nat (j := 1) rfl, _, _, _, _, true, rfl, .ty _, .base (.str o.2), kit_ty (by decide +kernel), true, rfl, iteT ?_⟩
        refine ⟨_, rfl, acc, hacc, ln6 _ (by omega), fun b u z => ?_, _, upd_same, ?_⟩
        · rw [upd_ne (ne_of_none z hD)]
          exact s3 b u z
        · rw [take_one_more ho, ← List.append_assoc]
          exact paired_append pacc (.cons ⟨q2, rfl, hq2⟩ .nil)
      · rintro H3 ⟨s3, acc, hacc, pacc⟩
        rw [lu, List.take_length, ← efl] at pacc
        exact ⟨s3, acc, hacc, pacc⟩
    · rintro H1 ⟨s1, vs, hvs, pvs⟩
      rw [lr, List.take_length] at pvs
      exact q H1 D s1 ⟨D, vs, rfl, .of hvs, L2.Paired.mapP pvs fun _ _ ⟨q, e, h⟩ => ⟨q, e, same_sqT s1 h⟩⟩
end
end Q9
end
-- QRead2
section
set_option maxRecDepth 100000
set_option maxHeartbeats 4000000
namespace Q9
open PySem L2
/-- names and words that are right: are they few enough -/
def spRight (K : PySem.W.Frag) : Sp := fun vs H Q _ => ∃ (a b c : Addr) (ws ss ms : List Str), vs = [.ref a, .ref b, .ref c] ∧ SqL K H a (ws.map V.str) ∧ SqL K H b (ss.map V.str) ∧ SqL K H c (ms.map V.str) ∧
  (∀ z ∈ ws, wordB z = true) ∧ (∀ z ∈ ss, nameB z = true) ∧ (∀ z ∈ ms, nameB z = true) ∧ ws.length ≤ 1000000 ∧ ss.length ≤ 1000000 ∧ ms.length ≤ 1000000 ∧ ∀ H', Same H H' → Q (.bl (decide (ss.length ≤ 60) && decide (ms.length ≤ 8))) H'
structure TRight (K : PySem.W.Frag) (mg : Str → Option Value) (fName fWord : Addr) : Prop where
  gN : mg "is_name" = some (.ref fName)
  kN : PySem.W.keepIn K (.ref fName) = true
  gW : mg "is_word" = some (.ref fWord)
  kW : PySem.W.keepIn K (.ref fWord) = true
abbrev riN : List Str := ["words", "states", "methods", "word", "name"]
section
variable {P : Program} {w : World} {K : PySem.W.Frag} {mg : Str → Option Value} {base : Heap} {fKey fName fWord : Addr}
theorem scRi : FnScope riN ["words", "states", "methods"] (defScope sRight) := ⟨rfl, rfl, rfl, by decide +kernel, rfl, by decide +kernel, by decide +kernel⟩
/-- all([f(x) for x in texts]), f a test of texts that all of them pass: the walk -/
theorem all_true {H H1 : Hp} {K : PySem.W.Frag} (n : Nat) : ((List.replicate n true).all id) = true := by rw [List.all_eq_true]; intro x hx; exact (List.mem_replicate.mp hx).2
theorem ok_right {f : Addr} {fd dN dW : FuncData} (F : Fun K "_are_right" "_are_right" sRight f fd) (T : TRead K mg fKey) (TR : TRight K mg fName fWord)
    (GN : FnOk P w K mg base CX0 2 fName dN ["thing"] (spForm K nameB)) (bN : Binds K dN ["thing"] []) (GW : FnOk P w K mg base CX0 3 fWord dW ["thing"] (spForm K wordB)) (bW : Binds K dW ["thing"] []) :
    FnOk P w K mg base CX0 4 f fd ["words", "states", "methods"] (spRight K) := by
  refine F.ok scRi (fun vs H Q E h => ?_) (fun cdv A outer s H vs Q E hr h => ?_)
  · obtain ⟨a, b, c, ws, ss, ms, rfl, _⟩ := h
    rfl
  · obtain ⟨a, b, c, ws, ss, ms, rfl, ha, hb, hc, aw, as_, am, lw, ls, lm, q⟩ := h
    obtain ⟨t1, h1⟩ := T.states
    obtain ⟨t2, h2⟩ := T.methods
    refine ⟨_, pss_cons (ps_if (PW.pt (pw_or (pt_cmpR op_gt (pe_callB cr_lenRow (by rfl) T.len (by decide +kernel) (pa_cons (pv 1) pa_nil)) (pe_glob (v := .int 60) (by rfl) h1 ⟨_, rfl⟩) (nomark _))
        (pw_or (pt_cmpR op_gt (pe_callB cr_lenRow (by rfl) T.len (by decide +kernel) (pa_cons (pv 2) pa_nil)) (pe_glob (v := .int 8) (by rfl) h2 ⟨_, rfl⟩) (nomark _))
        (pw_or1 (pt_not (pt_val (pe_callB (cr_all rfl) (by rfl) T.all (by decide +kernel) (pa_cons
          (pe_lc (own := [("word", 3)]) (g := gName 3) (tt := tYes) rfl scRi.nd (pi_list (pv 0)) (blkOk_by (own := [("word", 3)]) (N := riN) (sc := defScope sRight) (by decide +kernel))
            (fun _ _ _ _ _ => pg_name (i := 3) scRi.nd rfl (.inl rfl)) (fun _ _ _ _ _ => pts_nil) (fun _ _ _ _ _ => pe_call GW (hr.mono (by decide)) (by rfl) TR.gW TR.kW bW .nil pass0 (pa_cons (pv 3) pa_nil))) pa_nil))))))))
        (pss_one (ps_ret pe_bl)) pss_nil)
      (pss_one (ps_ret (pe_and (pe_callB (cr_all rfl) (by rfl) T.all (by decide +kernel) (pa_cons
          (pe_lc (own := [("name", 4)]) (g := gName 4) (tt := tYes) rfl scRi.nd (pi_list (pv 1)) (blkOk_by (own := [("name", 4)]) (N := riN) (sc := defScope sRight) (by decide +kernel))
            (fun _ _ _ _ _ => pg_name (i := 4) scRi.nd rfl (.inl rfl)) (fun _ _ _ _ _ => pts_nil) (fun _ _ _ _ _ => pe_call GN (hr.mono (by decide)) (by rfl) TR.gN TR.kN bN .nil pass0 (pa_cons (pv 4) pa_nil))) pa_nil))
        (pe_one (pe_callB (cr_all rfl) (by rfl) T.all (by decide +kernel) (pa_cons
          (pe_lc (own := [("name", 4)]) (g := gName 4) (tt := tYes) rfl scRi.nd (pi_list (pv 2)) (blkOk_by (own := [("name", 4)]) (N := riN) (sc := defScope sRight) (by decide +kernel))
            (fun _ _ _ _ _ => pg_name (i := 4) scRi.nd rfl (.inl rfl)) (fun _ _ _ _ _ => pts_nil) (fun _ _ _ _ _ => pe_call GN (hr.mono (by decide)) (by rfl) TR.gN TR.kN bN .nil pass0 (pa_cons (pv 4) pa_nil))) pa_nil)))))), ?_⟩
    refine ⟨_, rfl, .ref b, _, rfl, ⟨b, rfl, .inl hb⟩, _, _, rfl, rfl, _, rfl, ?_⟩
    rw [List.length_map]
    by_cases c1 : ss.length ≤ 60
    · rw [show decide ((60 : Int) < (ss.length : Int)) = false from decide_eq_false (by omega)]
      refine iteF ⟨_, rfl, .ref c, _, rfl, ⟨c, rfl, .inl hc⟩, _, _, rfl, rfl, _, rfl, ?_⟩
      rw [List.length_map]
      rw [decide_eq_true c1, Bool.true_and] at q
      by_cases c2 : ms.length ≤ 8
      · rw [show decide ((8 : Int) < (ms.length : Int)) = false from decide_eq_false (by omega)]
        rw [decide_eq_true c2] at q
        refine iteF ⟨_, rfl, a, rfl, ⟨_, ha⟩, fun D hD => ?_⟩
        have stp : ∀ {zs : List Str} {p : Str → Bool} {G : Hp} {D : Addr} {i : Nat} {z : Str} {H1 H4 : Hp}, zs.length ≤ 1000000 → zs[i]? = some z → p z = true → G D = none → Same G H1 → H1 D = some (.lst ((List.replicate i true).map V.bl)) → Same H1 H4 →
            ∃ acc, H4 D = some (.lst acc) ∧ acc.length < sizeLine ∧ Same G (upd H4 D (.lst (acc ++ [.bl (p z)]))) ∧ upd H4 D (.lst (acc ++ [.bl (p z)])) D = some (.lst ((List.replicate (i + 1) true).map V.bl)) := by
          intro zs p G D i z H1 H4 lz hz hp hG s1 hd s4
          have := (List.getElem?_eq_some_iff.mp hz).1
          refine ⟨_, s4 _ _ hd, by rw [List.length_map, List.length_replicate]; exact ln6 _ (by omega), fun b o e => ?_, ?_⟩
          · rw [upd_ne (ne_of_none e hG)]
            exact s4 _ _ (s1 _ _ e)
          · rw [upd_same, hp, List.replicate_succ', List.map_append]
            rfl
        have get : ∀ {zs : List Str} {i : Nat} {y : V}, (zs.map V.str)[i]? = some y → ∃ z, zs[i]? = some z ∧ y = V.str z := by
          intro zs i y hy
          rw [List.getElem?_map] at hy
          obtain ⟨z, h1, h2⟩ := Option.map_eq_some_iff.mp hy
          exact ⟨z, h1, h2.symm⟩
        refine lc_it (walk_list (xs := ws.map V.str)) (fun i H' => Same H H' ∧ H' D = some (.lst ((List.replicate i true).map V.bl))) ⟨same_upd hD, upd_same⟩ (fun i H' _ p => sqL_up (Q9.Same.sq p.1) ha) ?_ ?_
        · rintro i y H1 H2 hi ⟨s1, hd⟩ ⟨rfl, hy⟩
          obtain ⟨z, hz, rfl⟩ := get hy
          have wz := aw z (List.mem_of_getElem? hz)
          refine ⟨rfl, _, rfl, _, rfl, .inl ⟨z, rfl, word_len wz, fun H4 s4 => ?_⟩⟩
          exact stp lw hz wz hD s1 hd s4
        · rintro H1 ⟨s1, hd⟩
          refine ⟨D, _, rfl, .of hd, _, rfl, ?_⟩
          rw [all_true (H := H) (H1 := H) (K := K)]
          refine iteF ⟨_, rfl, b, rfl, ⟨_, s1.seq hb⟩, fun D2 hD2 => ?_⟩
          refine lc_it (walk_list (xs := ss.map V.str)) (fun i H' => Same H1 H' ∧ H' D2 = some (.lst ((List.replicate i true).map V.bl))) ⟨same_upd hD2, upd_same⟩ (fun i H' _ p => sqL_up (Q9.Same.sq p.1) (s1.seq hb)) ?_ ?_
          · rintro i y H3 H2 hi ⟨s3, hd⟩ ⟨rfl, hy⟩
            obtain ⟨z, hz, rfl⟩ := get hy
            have wz := as_ z (List.mem_of_getElem? hz)
            refine ⟨rfl, _, rfl, _, rfl, .inl ⟨z, rfl, name_len wz, fun H4 s4 => ?_⟩⟩
            exact stp ls hz wz hD2 s3 hd s4
          · rintro H2 ⟨s2, hd2⟩
            have s12 : Same H H2 := fun b o z => s2 b o (s1 b o z)
            refine ⟨D2, _, rfl, .of hd2, _, rfl, ?_⟩
            rw [all_true (H := H) (H1 := H) (K := K)]
            refine iteT ⟨_, rfl, c, rfl, ⟨_, s12.seq hc⟩, fun D3 hD3 => ?_⟩
            refine lc_it (walk_list (xs := ms.map V.str)) (fun i H' => Same H2 H' ∧ H' D3 = some (.lst ((List.replicate i true).map V.bl))) ⟨same_upd hD3, upd_same⟩ (fun i H' _ p => sqL_up (Q9.Same.sq p.1) (s12.seq hc)) ?_ ?_
            · rintro i y H3 H5 hi ⟨s3, hd⟩ ⟨rfl, hy⟩
              obtain ⟨z, hz, rfl⟩ := get hy
              have wz := am z (List.mem_of_getElem? hz)
              refine ⟨rfl, _, rfl, _, rfl, .inl ⟨z, rfl, name_len wz, fun H4 s4 => ?_⟩⟩
              exact stp lm hz wz hD3 s3 hd s4
            · rintro H3 ⟨s3, hd3⟩
              refine ⟨D3, _, rfl, .of hd3, ?_⟩
              rw [all_true (H := H) (H1 := H) (K := K)]
              exact q H3 fun b o z => s3 b o (s12 b o z)
      · rw [show decide ((8 : Int) < (ms.length : Int)) = true from decide_eq_true (by omega)]
        rw [decide_eq_false c2] at q
        exact iteT (q H (Same.refl H))
    · rw [show decide ((60 : Int) < (ss.length : Int)) = true from decide_eq_true (by omega)]
      rw [decide_eq_false c1, Bool.false_and] at q
      exact iteT (q H (Same.refl H))
end
end Q9
end
-- QSetTups
section
set_option maxRecDepth 100000
set_option maxHeartbeats 8000000
/-! set(row), the row's elements tuples of ints and texts -/
namespace Q9
open PySem PySem.Spec PyProof.Rows L2
section
variable {P : Program} {w : World} {K : Type} [DecidableEq K] {knd : KeyKind P w K} {A : Around} {E : Value → Shared → Prop} {s : Shared}
/-- what a walk over xs has gathered behind i turns -/
structure CollK (xs : List (List K)) (i : Nat) (L : Mem K) : Prop where
  nd : (L.map (·.2)).Nodup
  mem : ∀ k, k ∈ L.map (·.2) ↔ k ∈ xs.take i
theorem CollK.zero (xs : List (List K)) : CollK xs 0 [] := ⟨List.nodup_nil, fun k => by simp⟩
theorem CollK.next {xs : List (List K)} {i : Nat} {L L' : Mem K} {k : List K} {b : Addr} (c : CollK xs i L) (h : xs[i]? = some k) (m : MoreT b k L L') : CollK xs (i + 1) L' := by
  have e : xs.take (i + 1) = xs.take i ++ [k] := take_one_more h
  rcases m with ⟨hm, rfl⟩ | ⟨hm, p⟩
  · refine ⟨c.nd, fun j => ?_⟩
    rw [e, List.mem_append, List.mem_singleton, c.mem j]
    exact ⟨.inl, fun z => z.elim id fun z => z ▸ (c.mem k).1 hm⟩
  · have pm := p.map (·.2)
    refine ⟨pm.nodup_iff.mpr (List.nodup_cons.mpr ⟨hm, c.nd⟩), fun j => ?_⟩
    rw [pm.mem_iff, e, List.mem_append, List.mem_singleton, List.map_cons, List.mem_cons, c.mem j]
    exact Or.comm
theorem CollK.le {xs : List (List K)} {i : Nat} {L : Mem K} (c : CollK xs i L) : L.length ≤ i := by
  have h := nodup_le (L.map (·.2)) (xs.take i) c.nd fun k hk => (c.mem k).1 hk
  rw [List.length_map, List.length_take] at h
  omega
theorem key_keep {h h' : Heap} {k : List K} {b : Addr} (x : IsTupleKey knd h k b) (e : ∀ o, h.get? b = some o → h'.get? b = some o) : IsTupleKey knd h' k b := by
  obtain ⟨o, items, n, ho, r⟩ := x
  exact ⟨o, items, n, e o ho, r⟩
theorem tset_keep {h h' : Heap} {a : Addr} {L : Mem K} {es : Array (Int × Value)} {ep : Nat} {t : SetTable} (R : TSet knd h a L es ep t) (e : ∀ o, h.get? a = some o → h'.get? a = some o) (f : ∀ p ∈ L, IsTupleKey knd h' p.2 p.1) : TSet knd h' a L es ep t :=
  ⟨let ⟨o, ho, r⟩ := R.ob; ⟨o, e o ho, r⟩, R.rows, R.tab, R.nd, f, R.room, R.few⟩
theorem upd_turnsT {I : Addr} {fp wr : List Addr} {G : Array GenState → Array GenState → Prop} {n : Nat} {Pv : Nat → Value → Prop} {St : Nat → Shared → Prop} {R : Result → Shared → Prop} (fl : Flat8 knd) (hu : A.in1.units < cLine)
    (W : WalksS P w A.in1 I fp wr G n Pv St) (S : Addr) (hSf : S ∉ fp) (xs : List (List K)) (hn : n = xs.length) (few : n + 1 < 64) (h0 : Heap) (new : ∀ b ∈ S :: wr, h0.get? b = none)
    (hval : ∀ i v, Pv i v → ∃ k b, xs[i]? = some k ∧ v = .ref b ∧ IsTupleKey knd h0 k b) :
    ∀ (m i : Nat) (s : Shared), n - i = m → i ≤ n → St i s → (∀ b o, h0.get? b = some o → s.heap.get? b = some o) → (∃ L es ep t, TSet knd s.heap S L es ep t ∧ (∀ p ∈ L, IsTupleKey knd h0 p.2 p.1) ∧ CollK xs i L) →
      (∀ s' L es ep t, Moved (S :: wr) G s s' → TSet knd s'.heap S L es ep t → CollK xs n L → R (.ok (.ret .none)) s') →
      codeAny (model P w) A (.builtin "set.update.loop" ⟨[.ref S, .ref I], []⟩) R s := by
  have away : S ∉ wr := fun h => hSf (W.sub _ h)
  have up : ∀ b ∈ wr, b ∈ S :: wr := fun b hb => List.mem_cons_of_mem _ hb
  have old : ∀ {b : Addr} {o : Obj}, h0.get? b = some o → b ∉ S :: wr := fun {b o} e z => by rw [new b z] at e; cases e
  intro m
  induction m with
  | zero =>
    intro i s hm hi st k0 ⟨L, es, ep, t, RS, inn, c⟩ hR
    obtain rfl : i = n := by omega
    refine codeAny_builtin F.entry_set_update_loop ?_
    rw [Around.under_plainId F.plain_set_update_loop _]
    show wpAny _ A.in1 (pyNext (.ref I) >>= _) _ _ s
    refine wpAny_bind (W.done s _ _ st fun s' mv => ?_)
    have keep : ∀ b o, h0.get? b = some o → s'.heap.get? b = some o := fun b o e => mv.heap b o (fun z => old e (up b z)) (k0 b o e)
    have RS' : TSet knd s'.heap S L es ep t := tset_keep RS (fun o e => mv.heap S o away e) fun p hp => key_keep (inn p hp) fun o e => keep _ o e
    show wpAny _ A.in1 (ret Value.none) _ _ s'
    exact wpAny_pure (hR s' L es ep t (mv.mono up) RS' c)
  | succ m ih =>
    intro i s hm hi st k0 ⟨L, es, ep, t, RS, inn, c⟩ hR
    have lt : i < n := by omega
    refine codeAny_builtin F.entry_set_update_loop ?_
    rw [Around.under_plainId F.plain_set_update_loop _]
    show wpAny _ A.in1 (pyNext (.ref I) >>= _) _ _ s
    refine wpAny_bind (W.item i s _ _ lt st fun v s' pv st' mv => ?_)
    obtain ⟨k, b0, hk, rfl, hb0⟩ := hval i v pv
    have keep : ∀ b o, h0.get? b = some o → s'.heap.get? b = some o := fun b o e => mv.heap b o (fun z => old e (up b z)) (k0 b o e)
    have RS' : TSet knd s'.heap S L es ep t := tset_keep RS (fun o e => mv.heap S o away e) fun p hp => key_keep (inn p hp) fun o e => keep _ o e
    have hkey : IsTupleKey knd s'.heap k b0 := key_keep hb0 fun o e => keep _ o e
    show wpAny _ A.in1 (holding [.ref b0] (setAdd S (.ref b0)) >>= _) _ _ s'
    refine wpAny_bind (wpAny_holding ?_)
    unfold setAdd
    refine wpAny_holding (wpAny_bind (wpAny_pyHash_tuple hu hkey ?_))
    have cl := c.le
    refine tset_add (s := { s' with toks := s'.toks + (k.length + 1) }) fl RS' hkey hu (by omega) fun b h' L' es' ep' t' same RS2 more => ?_
    have inn' : ∀ p ∈ L', IsTupleKey knd h0 p.2 p.1 := by
      rcases more with ⟨_, rfl⟩ | ⟨_, pm⟩
      · exact inn
      · intro p hp
        rcases List.mem_cons.mp (pm.mem_iff.mp hp) with z | z
        · rw [z]; exact hb0
        · exact inn p z
    refine wpAny_pure ⟨plainId_quiet F.plain_set_update_loop _, ih (i + 1) _ (by omega) lt (W.frame _ s' _ _ st' (Nat.le_add_right _ _) fun b hb o e => ?_) (fun b o e => ?_) ⟨L', es', ep', t', RS2, inn', c.next hk more⟩ fun s'' L2 es2 ep2 t2 mv2 RS3 c3 => ?_⟩
    · exact (same.2 b fun z => hSf (z ▸ hb)).trans e
    · exact (same.2 b fun z => old e (z ▸ List.mem_cons_self)).trans (keep b o e)
    · refine hR s'' L2 es2 ep2 t2 (Moved.trans W.gtrans ((mv.mono up).then_heap (Nat.le_add_right _ _) fun b o hb e => ?_) mv2) RS3 c3
      exact (same.2 b fun z => hb (z ▸ List.mem_cons_self)).trans e
theorem call_set_tups {l : Addr} {T : String} {items : Array Value} (fl : Flat8 knd) (hu : A.units + 8 < cLine) (src : Src P w s.heap l T items) (xs : List (List K)) (few : items.size + 1 < 64) (hn : items.size = xs.length) {Q : Value → Shared → Prop} (hh : A.handled = none)
    (hval : ∀ (i : Nat) (v : Value), items[i]? = some v → ∃ k b, xs[i]? = some k ∧ v = .ref b ∧ IsTupleKey knd s.heap k b)
    (hQ : ∀ (h' : Heap) (tk : Nat) L es ep t, TSet knd h' s.heap.objs.size L es ep t → CollK xs xs.length L → (∀ b o, s.heap.get? b = some o → h'.get? b = some o) → Q (.ref s.heap.objs.size) { s with heap := h', toks := tk }) :
    wpAny (model P w) A (call (.type "set") [.ref l]) Q E s := by
  obtain ⟨⟨ol, hol, hcl⟩, hsls, hslf, hne, ob, St, hiter, hwalk, hst⟩ := src
  obtain ⟨c, tl, hmro⟩ := F.called_set.mro
  have hmade := F.called_set.made
  have hsub := F.called_set.sub
  refine wpAny_call (codeAny_of_tree ?_)
  show wpAny _ _ (callAny (.type "set") _) _ _ _
  refine wpAny_pure ⟨Code.quiet_builtin _ (by decide +kernel), codeAny_builtin F.entry_type_call ?_⟩
  rw [Around.under_plain (weight_type_call_type "set" [.ref l] []) rfl]
  have h1 := F.called_set.notType
  have h2 := F.called_set.canCreate
  have hct := F.typeCall_set_1 (.ref l)
  repeat (any_goals (first | assumption | wp_step))
  refine codeAny_mono (code_set_led1 (.ref l) (E := E) (Q₁ := fun obj s₁ => obj = .ref s.heap.objs.size ∧ s₁ = { s with heap := s.heap.push (emptySet w) }) ⟨rfl, rfl⟩) fun r s₁ hr => ?_
  cases r with
  | error e => exact hr
  | ok fl2 =>
    cases fl2 with
    | ret obj =>
      obtain ⟨rfl, rfl⟩ := hr
      have hS : (s.heap.push (emptySet w)).get? s.heap.objs.size = some (emptySet w) := Heap.get?_push_size _ rfl
      have hT : Shared.TypeIs { s with heap := s.heap.push (emptySet w) } (.ref s.heap.objs.size) "set" := ⟨_, hS, rfl⟩
      have hli := F.called_set.init.lookup
      have hbi := F.called_set.init.bind (.ref s.heap.objs.size)
      repeat (any_goals (first | assumption | wp_step))
      refine codeAny_mono (codeAny_call_builtin (R := wants (fun r s₂ => r = .none ∧ ∃ h' tk L es ep t, s₂ = { s with heap := h', toks := tk } ∧ TSet knd h' s.heap.objs.size L es ep t ∧ CollK xs xs.length L ∧
          (∀ b o, s.heap.get? b = some o → h'.get? b = some o)) E) F.called_set.init.plain F.entry_set_init (check_set_init_1 hT ?_)) fun r₂ s₂ hr₂ => ?_
      · have up1 : ∀ b o, s.heap.get? b = some o → (s.heap.push (emptySet w)).get? b = some o := fun b o e => Heap.get?_push_of_some _ e
        have hol' := up1 _ _ hol
        obtain ⟨ocls, odict, odata, oslots⟩ := ol
        simp only at hcl
        subst hcl
        unfold Builtin.«set.__init__» noKeywords Builtin.Frozenset.updateFrom
        generalize hPI : pyIter = PI
        wp_walk
        subst hPI
        refine hiter { s with heap := s.heap.push (emptySet w) } _ _ _ up1 ?_
        refine wpAny_bind (wpAny_runValue ?_)
        have hlS : l < s.heap.objs.size := Heap.lt_size hol
        have hh3 : A.in1.in1.in1.handled = none := by simp [hh]
        have hz1 : (s.heap.push (emptySet w)).objs.size = s.heap.objs.size + 1 := Heap.size_push ..
        have neI : l ≠ (s.heap.push (emptySet w)).objs.size := by rw [hz1]; exact Nat.ne_of_lt (Nat.lt_succ_of_lt hlS)
        have hSf : s.heap.objs.size ∉ [(s.heap.push (emptySet w)).objs.size, l] := by
          rw [hz1]
          simp only [List.mem_cons, List.not_mem_nil, or_false, not_or]
          exact ⟨Nat.ne_of_lt (Nat.lt_succ_self _), Nat.ne_of_gt hlS⟩
        refine upd_turnsT (knd := knd) fl ?hu ((hwalk _ _ hh3 neI).toS) s.heap.objs.size hSf xs hn few s.heap ?new hval (items.size - 0) 0 _ (by omega) (Nat.zero_le _) (hst _ up1) ?keep
          ⟨[], _, _, _, tset_fresh (Heap.get?_push_of_some _ hS), (fun p hp => nomatch hp), CollK.zero xs⟩ fun s' L es ep t mv RS cl => ?_
        case hu => first | (simp only [Around.in1_units]; omega) | (simp; omega)
        case new =>
          intro b hb
          have hb2 : s.heap.objs.size ≤ b := by
            rcases List.mem_cons.mp hb with z | z
            · rw [z]; exact Nat.le_refl _
            · rw [List.mem_singleton.mp z, hz1]; exact Nat.le_succ _
          cases e : s.heap.get? b with
          | none => rfl
          | some o => exact absurd (Heap.lt_size e) (Nat.not_lt.mpr hb2)
        case keep => exact fun b o e => Heap.get?_push_of_some _ (up1 b o e)
        obtain ⟨h', g2, d', tk', os'⟩ := s'
        have eg : g2 = s.gens := mv.gens
        have ed : d' = s.drawn := mv.drawn
        have eo : os' = s.os := mv.os
        subst eg; subst ed; subst eo
        show wpAny _ _ _ _ _ _
        refine wpAny_pure ?_
        show wpAny _ _ (ret Value.none) _ _ _
        rw [hn] at cl
        refine wpAny_pure ⟨rfl, h', tk', L, es, ep, t, rfl, RS, cl, fun b o e => ?_⟩
        have lt := Heap.lt_size e
        refine mv.heap b o (fun z => ?_) (Heap.get?_push_of_some _ (up1 b o e))
        rcases List.mem_cons.mp z with z | z
        · exact absurd lt (by rw [z]; exact Nat.lt_irrefl _)
        · have z2 := List.mem_singleton.mp z
          rw [z2, hz1] at lt
          exact absurd lt (Nat.not_lt_of_le (Nat.le_succ _))
      · cases r₂ with
        | error e => exact hr₂
        | ok fl₂ =>
          cases fl₂ with
          | ret r =>
            obtain ⟨rfl, h', tk, L, es, ep, t, rfl, RS, cl, k2⟩ := hr₂
            repeat (any_goals (first | assumption | wp_step))
            exact hQ _ _ _ _ _ _ RS cl k2
          | _ => exact hr₂.elim
    | _ => exact hr.elim
end
section
variable {X : Cx} {pins : List (Addr × Obj)} {σ : L2.St} {H : Hp} {s : Shared}
/-- v is a tuple of the keys k -/
def TupK (K : PySem.W.Frag) (H : Hp) (v : V) (k : List Key) : Prop := ∃ q, v = .ref q ∧ SqT K H q (k.map kV)
theorem key_sq (I : Inv X pins σ H s) {q : Addr} {k : List Key} (h : SqT X.K H q (k.map kV)) : IsTupleKey (mixKind X.prog X.w) s.heap k q := by
  obtain ⟨its, rv, ⟨o, h1, h2, n, h3⟩, hz⟩ := I.tuple h
  exact ⟨o, its.toArray, n, h1, h2, h3, by simpa using items_are rv⟩
/-- set(row) -/
def rSetOfT (K : PySem.W.Frag) (P : Program) (w : World) : List V → Hp → VK → Prop := fun args H Q => ∃ (x : V) (vs : List V) (ks : List (List Key)), args = [x] ∧ Row K H x vs ∧ Paired (TupK K H) vs ks ∧ vs.length < 63 ∧
  ∀ (p : Addr) (L : Mem Key), H p = none → (L.map (·.2)).Nodup → (∀ k, k ∈ L.map (·.2) ↔ k ∈ ks) → Q (.ref p) (upd H p (SetTs P w p L))
theorem cr_setOfT (hc : X.calm = true) (hu : X.A.units + 8 < cLine) : CallR X (.type "set") (rSetOfT X.K X.prog X.w) := by
  intro pins s σ H vs us Q I r h
  obtain ⟨x, xs, ks, rfl, ⟨l, rfl, hq⟩, each, few, q⟩ := h
  rw [Vals.ref1 r]
  have lk := PySem.Paired.length each
  have fin : ∀ (T : String) (its : List Value), Vals xs its → Src X.prog X.w s.heap l T its.toArray → wpAny (model X.prog X.w) X.A (call (.type "set") [.ref l]) (EP X pins σ Q) X.xe s := fun T its rv src => by
    have li := PySem.Paired.length rv
    refine call_set_tups (knd := mixKind X.prog X.w) flat_mix hu src ks (by rw [List.size_toArray]; omega) (by rw [List.size_toArray]; omega) (I.ok.hd hc) (fun i v hv => ?_) fun h' tk L es ep t RS cl k => ?_
    · have hv' : its[i]? = some v := by simpa using hv
      have hi : i < its.length := (List.getElem?_eq_some_iff.mp hv').1
      have hi2 : i < xs.length := by omega
      obtain ⟨kk, e1, q2, e2, e3⟩ := paired_get each (List.getElem?_eq_getElem hi2)
      obtain ⟨u, e4, e5⟩ := Vals.get (i := i) (x := xs[i]) rv (List.getElem?_eq_getElem hi2)
      rw [hv'] at e4
      cases e4
      rw [e2] at e5
      cases e5
      exact ⟨kk, q2, e1, rfl, key_sq I e3⟩
    · have J : Inv X pins σ (upd H s.heap.objs.size (SetTs X.prog X.w s.heap.objs.size L)) { s with heap := h', toks := tk } := I.laid k (Nat.le_refl _) (setTs_ok (tobj_of RS))
      exact ⟨.ref _, _, J, rfl, q _ L (I.hok.fresh (Nat.le_refl _)) cl.nd fun k => by rw [cl.mem k, List.take_length]⟩
  rcases hq with hq | hq
  · obtain ⟨its, rv, pl, hz⟩ := I.list hq
    exact fin _ its rv (Src.list pl.isList)
  · obtain ⟨its, rv, pl, hz⟩ := I.tuple hq
    exact fin _ its rv (Src.tuple pl)
end
end Q9
end
-- QColl
section
set_option maxRecDepth 100000
set_option maxHeartbeats 4000000
namespace Q9
open PySem PySem.Spec PyProof.Rows L2
section
variable {P : Program} {w : World} {A : Around} {E : Value → Shared → Prop} {s : Shared}
/-- the items of a tuple, gathered -/
theorem collect_tup {t : Addr} {us : List Value} {Q : List Value → Shared → Prop} (ht : s.heap.IsTuple t us.toArray) (sz : us.length ≤ sizeLine)
    (h : ∀ s1, Keeps s.heap s1.heap → s.heap.objs.size ≤ s1.heap.objs.size → s1.gens = s.gens → s1.os = s.os → Q us s1) : wpAny (model P w) A (collect (.ref t)) Q E s := by
  obtain ⟨ob, h1, h2, cc, h3⟩ := id ht
  have h1' : (s.heap.push (seqObj "list" #[] 0)).get? t = some ob := Heap.get?_push_of_some _ h1
  unfold collect
  refine wpAny_bind (wpAny_runValue (codeAny_builtin entry_proto_collect' ?_))
  show wpAny _ _ (do again (.builtin "list.__iadd__" ⟨[← newList [], .ref t], []⟩)) _ _ s
  refine wpAny_bind (wpAny_newList (wpAny_pure ⟨Code.quiet_builtin _ (by decide +kernel), codeAny_builtin entry_list_iadd' ?_⟩))
  show wpAny _ _ (Builtin.List.listExtendWith (.ref s.heap.objs.size) (.ref t) (.ref s.heap.objs.size)) _ _ { s with heap := s.heap.push (seqObj "list" #[] 0) }
  unfold Builtin.List.listExtendWith
  refine wpAny_bind (wpAny_typeOf (T := "tuple") ⟨ob, h1', h2⟩ ?_)
  rw [if_pos (by have e : (Value.type "tuple" == Value.type "tuple") = true := rfl; rw [e]; simp)]
  refine wpAny_bind (listItems_at h1' h3 (wpAny_bind (listItems_at (xs := #[]) (n := 0) (Heap.get?_push_size _ rfl) rfl ?_)))
  rw [if_neg (by simp)]
  refine wpAny_bind (listUpdate_at (xs := #[]) (n := 0) (Heap.get?_push_size _ rfl) rfl ?_ (Nat.zero_le _) (by show (#[] ++ us.toArray).size ≤ sizeLine + 1; simp only [Array.size_append, List.size_toArray, List.length_nil]; omega))
  refine wpAny_pure ?_
  show wpAny (model P w) A (load s.heap.objs.size >>= _) Q E { s with heap := (s.heap.push (seqObj "list" #[] 0)).update s.heap.objs.size (Obj.mapSeq (· ++ us.toArray)) }
  refine wpAny_bind (wpAny_load (get?_update_seq (Heap.get?_push_size _ rfl) _) ?_)
  show wpAny _ _ (pure ((#[] : Array Value) ++ us.toArray).toList) Q E _
  rw [show ((#[] : Array Value) ++ us.toArray).toList = us by simp]
  exact wpAny_pure (h _ (fun b o e => by rw [Heap.get?_update_other _ _ (Nat.ne_of_gt (Heap.lt_size e))]; exact Heap.get?_push_of_some _ e) (by simp [Heap.size_update, size_push']) rfl rfl)
end
section
variable {X : Cx}
theorem row_its {pins : List (Addr × Obj)} {σ : L2.St} {H : Hp} {s : Shared} (I : Inv X pins σ H s) {a : Addr} {xs : List V} (h : SqL X.K H a xs ∨ SqT X.K H a xs) : ∃ its : List Value, Vals xs its ∧ its.length ≤ sizeLine ∧
    ∀ {A : Around} {R : List Value → Shared → Prop} {E : Value → Shared → Prop}, (∀ s1, Keeps s.heap s1.heap → s.heap.objs.size ≤ s1.heap.objs.size → s1.gens = s.gens → s1.os = s.os → R its s1) → wpAny (model X.prog X.w) A (collect (.ref a)) R E s := by
  rcases h with h | h
  · obtain ⟨its, rv, pl, hz⟩ := I.list h
    have hl : its.length ≤ sizeLine := by rw [← PySem.Paired.length rv]; exact hz
    exact ⟨its, rv, hl, fun hR => collect_list pl.isList (hR _ (fun b o e => by rw [Heap.get?_update_other _ _ (Nat.ne_of_gt (Heap.lt_size e))]; exact Heap.get?_push_of_some _ e) (by simp [Heap.size_update, size_push']) rfl rfl)⟩
  · obtain ⟨its, rv, pl, hz⟩ := I.tuple h
    have hl : its.length ≤ sizeLine := by rw [← PySem.Paired.length rv]; exact hz
    exact ⟨its, rv, hl, fun hR => collect_tup pl hl hR⟩
/-- sorted(xs), xs a row of texts -/
def rSortedRs (K : PySem.W.Frag) : List V → Hp → VK → Prop := fun vs H Q => ∃ (x : V) (xs : List Str), vs = [x] ∧ Row K H x (xs.map V.str) ∧ ∀ (ys : List Str) (p : Addr), ys.Perm xs → Up ys → H p = none → Q (.ref p) (upd H p (.lst (ys.map V.str)))
theorem cr_sortedRs : CallR X (.builtin "sorted") (rSortedRs X.K) := by
  intro pins s σ H vs us Q I r h
  obtain ⟨x, xs, rfl, ⟨a, rfl, hq⟩, q⟩ := h
  rw [Vals.ref1 r]
  obtain ⟨its, rv, hl, col⟩ := row_its I hq
  have hS : StrsAre its xs := rv.strs
  refine sorted_txts hS hl (fun R E' hR => col hR) fun s' p out c ys k g o z hp h1 h2 h3 => ?_
  have len : (ys.map V.str).length ≤ sizeLine := by rw [List.length_map, h2.length_eq, ← hS.length]; exact hl
  have J := Inv.new_at I (o := .lst (ys.map V.str)) k g o z ⟨len, out.toList, c, vals_of_strs h1, hp⟩
  exact ⟨.ref p, _, J, rfl, q ys p h2 h3 (I.hok.fresh z)⟩
/-- sorted(xs), xs a row of tuples of two texts -/
def rSortedRT (K : PySem.W.Frag) : List V → Hp → VK → Prop := fun vs H Q => ∃ (x : V) (ps : List (Addr × Str × Str)), vs = [x] ∧ Row K H x ((ps.map (·.1)).map V.ref) ∧ (∀ p ∈ ps, SqT K H p.1 [.str p.2.1, .str p.2.2]) ∧
  ∀ (qs : List (Addr × Str × Str)) (p : Addr), qs.Perm ps → UpP (qs.map (·.2)) → H p = none → Q (.ref p) (upd H p (.lst ((qs.map (·.1)).map V.ref)))
theorem cr_sortedRT : CallR X (.builtin "sorted") (rSortedRT X.K) := by
  intro pins s σ H vs us Q I r h
  obtain ⟨x, ps, rfl, ⟨a, rfl, hq⟩, he, q⟩ := h
  rw [Vals.ref1 r]
  obtain ⟨its, rv, hl, col⟩ := row_its I hq
  have e := refs_vals rv
  subst e
  exact sorted_tt I (fun p hp => pair2_at I (he p hp)) (by simpa using hl) (fun R E' hR => col hR) q
end
end Q9
end
-- QKA
section
set_option maxRecDepth 100000
set_option maxHeartbeats 4000000
namespace Q9
open PySem L2
/-! ### a kind as it stands -/
def kflds (nm st : Str) (e s me m : Addr) : List (Str × V) := putF "_moves" (.ref m) (putF "_methods" (.ref me) (putF "_states" (.ref s) (putF "_ends" (.ref e) (putF "_start" (.str st) (putF "_name" (.str nm) [])))))
theorem kf_all (nm st : Str) (e s me m : Addr) : (kflds nm st e s me m).lookup ("_moves" : Str) = some (.ref m) ∧ (kflds nm st e s me m).lookup ("_ends" : Str) = some (.ref e) ∧ (kflds nm st e s me m).lookup ("_start" : Str) = some (.str st) ∧ (kflds nm st e s me m).lookup ("_name" : Str) = some (.str nm) ∧
    (kflds nm st e s me m).lookup ("_states" : Str) = some (.ref s) ∧ (kflds nm st e s me m).lookup ("_methods" : Str) = some (.ref me) ∧
    (kflds nm st e s me m).lookup ("states" : Str) = none ∧ (kflds nm st e s me m).lookup ("methods" : Str) = none ∧ (kflds nm st e s me m).lookup ("moves" : Str) = none := by
  have no : ∀ f : Str, ¬ f = ("_moves" : Str) → ¬ f = ("_methods" : Str) → ¬ f = ("_states" : Str) → ¬ f = ("_ends" : Str) → ¬ f = ("_start" : Str) → ¬ f = ("_name" : Str) → (kflds nm st e s me m).lookup f = none := fun f h1 h2 h3 h4 h5 h6 => by
    unfold kflds
    rw [lookup_putF, if_neg h1, lookup_putF, if_neg h2, lookup_putF, if_neg h3, lookup_putF, if_neg h4, lookup_putF, if_neg h5, lookup_putF, if_neg h6]
    rfl
  refine ⟨?_, ?_, ?_, ?_, ?_, ?_, no _ (by decide +kernel) (by decide +kernel) (by decide +kernel) (by decide +kernel) (by decide +kernel) (by decide +kernel), no _ (by decide +kernel) (by decide +kernel) (by decide +kernel) (by decide +kernel) (by decide +kernel) (by decide +kernel), no _ (by decide +kernel) (by decide +kernel) (by decide +kernel) (by decide +kernel) (by decide +kernel) (by decide +kernel)⟩
  · unfold kflds; rw [lookup_putF, if_pos rfl]
  · unfold kflds; rw [lookup_putF, if_neg (by decide +kernel), lookup_putF, if_neg (by decide +kernel), lookup_putF, if_neg (by decide +kernel), lookup_putF, if_pos rfl]
  · unfold kflds; rw [lookup_putF, if_neg (by decide +kernel), lookup_putF, if_neg (by decide +kernel), lookup_putF, if_neg (by decide +kernel), lookup_putF, if_neg (by decide +kernel), lookup_putF, if_pos rfl]
  · unfold kflds; rw [lookup_putF, if_neg (by decide +kernel), lookup_putF, if_neg (by decide +kernel), lookup_putF, if_neg (by decide +kernel), lookup_putF, if_neg (by decide +kernel), lookup_putF, if_neg (by decide +kernel), lookup_putF, if_pos rfl]
  · unfold kflds; rw [lookup_putF, if_neg (by decide +kernel), lookup_putF, if_neg (by decide +kernel), lookup_putF, if_pos rfl]
  · unfold kflds; rw [lookup_putF, if_neg (by decide +kernel), lookup_putF, if_pos rfl]
/-- its own moves: the keys once, the outcomes in order, in tuples -/
def TupE (K : PySem.W.Frag) (H : Hp) (kv : List Key × V) (e : (Str × Str) × List (Str × Str)) : Prop := kv.1 = [.inr e.1.1, .inr e.1.2] ∧ ∃ t vs, kv.2 = .ref t ∧ H t = some (.tup vs) ∧ Paired (OutT K H) vs e.2
structure OwnMv (K : PySem.W.Frag) (H : Hp) (kvs : List (List Key × V)) (mvs mv : Mv) : Prop where
  nd : (kvs.map (·.1)).Nodup
  tups : Paired (TupE K H) kvs mvs
  eqm : EqMv mvs mv
  outs : ∀ k os, (k, os) ∈ mv → ∃ os', (k, os') ∈ mvs ∧ os'.Perm os
  up : ∀ e ∈ mvs, UpP e.2
  len : mvs.length = mv.length
theorem OwnMv.moves {K : PySem.W.Frag} {H : Hp} {kvs : List (List Key × V)} {mvs mv : Mv} (h : OwnMv K H kvs mvs mv) : Moves K H kvs mvs :=
  ⟨h.nd, L2.Paired.mapP h.tups fun _ _ ⟨e, t, vs, e1, e2, p⟩ => ⟨e, vs, ⟨t, e1, .inr (.of e2)⟩, p⟩⟩
structure KAc (C : Addr) (K : PySem.W.Frag) (H : Hp) (x : Addr) (nm st : Str) (es : List Str) (mv : Mv) : Prop where
  ex : ∃ (dx e s me m : Addr) (ys ss ms : List Str) (kvs : List (List Key × V)) (mvs : Mv), H x = some (.ins C dx (kflds nm st e s me m)) ∧ H e = some (.tup (ys.map V.str)) ∧ ys.Perm es ∧ Up ys ∧ H s = some (.lst (ss.map V.str)) ∧ Told (statesIn st es mv) ss ∧
    H me = some (.lst (ms.map V.str)) ∧ Told (methodsIn mv) ms ∧ H m = some (.dT kvs) ∧ OwnMv K H kvs mvs mv
  small : Small st es mv
  fits : Fits st es mv
  nd : (mv.map (·.1)).Nodup
theorem ownMv_up {K : PySem.W.Frag} {H H' : Hp} (s : Same H H') {kvs : List (List Key × V)} {mvs mv : Mv} (h : OwnMv K H kvs mvs mv) : OwnMv K H' kvs mvs mv :=
  ⟨h.nd, L2.Paired.mapP h.tups fun _ _ ⟨e, t, vs, e1, e2, p⟩ => ⟨e, t, vs, e1, s _ _ e2, L2.Paired.mapP p fun _ _ ⟨q, e, g⟩ => ⟨q, e, sqT_up (Q9.Same.sq s) g⟩⟩, h.eqm, h.outs, h.up, h.len⟩
theorem ownMv_well {K : PySem.W.Frag} {H H' : Hp} {l : Addr} (w : Well H l) (b : But l H H') {kvs : List (List Key × V)} {mvs mv : Mv} (h : OwnMv K H kvs mvs mv) : OwnMv K H' kvs mvs mv := by
  obtain ⟨x, y, z, e, r⟩ := id w
  have keep : ∀ t vs, H t = some (.tup vs) → H' t = some (.tup vs) := fun t vs g => b t _ (fun c => by rw [c, e] at g; cases g) g
  have sq : ∀ {a : Addr} {xs : List V}, SqT K H a xs → SqT K H' a xs := fun {a xs} g => sqT_up (Q9.Same.sq del_less) (sqT_up (Q9.Same.sq (but_del b)) (sqT_del w g))
  exact ⟨h.nd, L2.Paired.mapP h.tups fun _ _ ⟨e, t, vs, e1, e2, p⟩ => ⟨e, t, vs, e1, keep _ _ e2, L2.Paired.mapP p fun _ _ ⟨q, e, g⟩ => ⟨q, e, sq g⟩⟩, h.eqm, h.outs, h.up, h.len⟩
theorem kac_ok (C : Addr) (K : PySem.W.Frag) : KAok C (KAc C K) where
  up := fun z ⟨⟨dx, e, s, me, m, ys, ss, ms, kvs, mvs, h1, h2, h3, h4, h5, t5, h6, t6, h7, h8⟩, a, b, c⟩ => ⟨⟨dx, e, s, me, m, ys, ss, ms, kvs, mvs, z _ _ h1, z _ _ h2, h3, h4, z _ _ h5, t5, z _ _ h6, t6, z _ _ h7, ownMv_up z h8⟩, a, b, c⟩
  well := fun w bt ⟨⟨dx, e, s, me, m, ys, ss, ms, kvs, mvs, h1, h2, h3, h4, h5, t5, h6, t6, h7, h8⟩, a, b, c⟩ => by
    obtain ⟨n1, n2, n3, el, _⟩ := id w
    have txt : ∀ (zs : List Str), (HO.lst (zs.map V.str)) ≠ (HO.lst [.int n1, .int n2, .int n3]) := fun zs h => by
      injection h with h
      cases zs with
      | nil => cases h
      | cons z zs => rw [List.map_cons] at h; injection h with h _; cases h
    exact ⟨⟨dx, e, s, me, m, ys, ss, ms, kvs, mvs, bt _ _ (fun z => by rw [z, el] at h1; cases h1) h1, bt _ _ (fun z => by rw [z, el] at h2; cases h2) h2, h3, h4, bt _ _ (fun z => by rw [z, el] at h5; exact txt _ (Option.some.inj h5).symm) h5, t5, bt _ _ (fun z => by rw [z, el] at h6; exact txt _ (Option.some.inj h6).symm) h6, t6,
      bt _ _ (fun z => by rw [z, el] at h7; cases h7) h7, ownMv_well w bt h8⟩, a, b, c⟩
  small := fun h => ⟨h.small, h.fits, h.nd⟩
  ins := fun ⟨⟨dx, e, s, me, m, ys, ss, ms, kvs, mvs, h1, _⟩, _, _, _⟩ => by
    obtain ⟨_, _, _, _, _, _, l1, l2, l3⟩ := kf_all _ _ e s me m
    exact ⟨dx, _, h1, l1, l2, l3⟩
end Q9
end
-- QRead3a
section
set_option maxRecDepth 100000
set_option maxHeartbeats 4000000
namespace Q9
open PySem L2
/-! ### what the reader of moves needs -/
theorem few_same {l l' : List Str} (h : ∀ z ∈ l, z ∈ l') (f : FewIn (l'.map kInr)) : FewIn (l.map kInr) := fun ks nd hk => f ks nd fun k hks => by
  obtain ⟨z, h1, h2⟩ := List.mem_map.mp (hk k hks)
  exact List.mem_map.mpr ⟨z, h z h1, h2⟩
def rowsO (mv : Mv) : List (List (Str × Str)) := mv.map (·.2)
def flatO (mv : Mv) : List (Str × Str) := (mv.map (·.2)).flatten
theorem sum_lens : ∀ mv : Mv, (mv.map fun e => (e.2.length : Int)).sum = ((flatO mv).length : Int)
  | [] => rfl
  | e :: mv => by
    have ih := sum_lens mv
    unfold flatO at ih ⊢
    rw [List.map_cons, List.sum_cons, ih, List.map_cons, List.flatten_cons, List.length_append]
    omega
theorem lens_states (st : Str) (es : List Str) (mv : Mv) : (statesIn st es mv).length = 1 + es.length + mv.length + (flatO mv).length := by
  unfold statesIn
  rw [List.length_append, List.length_cons]
  have key : ∀ mv : Mv, (mv.flatMap fun e => e.1.1 :: e.2.map (·.2)).length = mv.length + (flatO mv).length := by
    intro mv
    induction mv with
    | nil => rfl
    | cons e mv ih =>
      unfold flatO at ih ⊢
      rw [List.flatMap_cons, List.length_append, ih, List.map_cons, List.flatten_cons, List.length_append, List.length_cons, List.length_cons, List.length_map]
      omega
  rw [key]
  omega
theorem mem_flatO {mv : Mv} {o : Str × Str} : o ∈ flatO mv ↔ ∃ e ∈ mv, o ∈ e.2 := by
  unfold flatO
  rw [List.mem_flatten]
  constructor
  · rintro ⟨l, h1, h2⟩
    obtain ⟨e, h3, rfl⟩ := List.mem_map.mp h1
    exact ⟨e, h3, h2⟩
  · rintro ⟨e, h1, h2⟩
    exact ⟨e.2, List.mem_map.mpr ⟨e, h1, rfl⟩, h2⟩
theorem flat_words {mv : Mv} {z : Str} : z ∈ (flatO mv).map (·.1) ↔ z ∈ wordsIn mv := by
  unfold wordsIn
  rw [List.mem_map, List.mem_flatMap]
  constructor
  · rintro ⟨o, h1, rfl⟩
    obtain ⟨e, h2, h3⟩ := mem_flatO.mp h1
    exact ⟨e, h2, List.mem_map.mpr ⟨o, h3, rfl⟩⟩
  · rintro ⟨e, h2, h3⟩
    obtain ⟨o, h4, rfl⟩ := List.mem_map.mp h3
    exact ⟨o, mem_flatO.mpr ⟨e, h2, h4⟩, rfl⟩
theorem states_told {st : Str} {es : List Str} {mv : Mv} {beh : List Str} (t : Told ((flatO mv).map (·.2)) beh) (z : Str) : z ∈ st :: es ++ mv.map (·.1.1) ++ beh ↔ z ∈ statesIn st es mv := by
  rw [mem_states, List.mem_append, List.mem_append, List.mem_cons, t.2.2 z, or_assoc, or_assoc]
  constructor
  · rintro (h | h | h | h)
    · exact .inl h
    · exact .inr (.inl h)
    · obtain ⟨e, h1, h2⟩ := List.mem_map.mp h
      exact .inr (.inr ⟨e, h1, .inl h2.symm⟩)
    · obtain ⟨o, h1, h2⟩ := List.mem_map.mp h
      obtain ⟨e, h3, h4⟩ := mem_flatO.mp h1
      exact .inr (.inr ⟨e, h3, .inr ⟨o, h4, h2.symm⟩⟩)
  · rintro (h | h | ⟨e, h1, h2 | ⟨o, h3, h4⟩⟩)
    · exact .inl h
    · exact .inr (.inl h)
    · exact .inr (.inr (.inl (List.mem_map.mpr ⟨e, h1, h2.symm⟩)))
    · exact .inr (.inr (.inr (List.mem_map.mpr ⟨o, mem_flatO.mpr ⟨e, h1, h3⟩, h4.symm⟩)))
theorem told_len {l ys : List Str} (t : Told l ys) : ys.length ≤ l.length := nodup_le ys l t.2.1 fun z hz => (t.2.2 z).1 hz
theorem paired_snd {K : PySem.W.Frag} {H : Hp} {kvs : List (List Key × V)} {mv : Mv} (p : Paired (EntT K H) kvs mv) : Paired (OutsT K H) (kvs.map (·.2)) (mv.map (·.2)) := by
  induction p with
  | nil => exact .nil
  | cons h t ih => exact .cons h.2 ih
/-! ### the sorted moves -/
abbrev SortOf (a b : (Str × Str) × List (Str × Str)) : Prop := a.1 = b.1 ∧ a.2.Perm b.2 ∧ UpP a.2
theorem sort_keys : ∀ {mvs mv : Mv}, Paired SortOf mvs mv → mvs.map (·.1) = mv.map (·.1)
  | _, _, .nil => rfl
  | _, _, .cons h t => by rw [List.map_cons, List.map_cons, h.1, sort_keys t]
theorem sort_outs {k : Str × Str} : ∀ {mvs mv : Mv}, Paired SortOf mvs mv → (outsOf mvs k).Perm (outsOf mv k)
  | _, _, .nil => List.Perm.refl _
  | a :: l, b :: m, .cons h t => by
    have ih := sort_outs (k := k) t
    unfold outsOf at ih ⊢
    by_cases c : a.1 = k
    · rw [List.find?_cons_of_pos (by simpa using c), List.find?_cons_of_pos (by simpa using h.1.symm.trans c)]
      exact h.2.1
    · rw [List.find?_cons_of_neg (by simpa using c), List.find?_cons_of_neg (by simpa using fun z => c (h.1.trans z))]
      exact ih
theorem sort_mem : ∀ {mvs mv : Mv}, Paired SortOf mvs mv → ∀ (k : Str × Str) (os : List (Str × Str)), (k, os) ∈ mv → ∃ os', (k, os') ∈ mvs ∧ os'.Perm os
  | _, _, .nil, _, _, h => nomatch h
  | a :: l, b :: m, .cons h t, k, os, hm => by
    rcases List.mem_cons.mp hm with z | z
    · refine ⟨a.2, List.mem_cons.mpr (.inl ?_), ?_⟩
      · exact Prod.ext (by rw [h.1, ← z]) rfl
      · have := h.2.1; rw [← z] at this; exact this
    · obtain ⟨os', h1, h2⟩ := sort_mem t k os z
      exact ⟨os', List.mem_cons_of_mem _ h1, h2⟩
theorem sort_up : ∀ {mvs mv : Mv}, Paired SortOf mvs mv → ∀ e ∈ mvs, UpP e.2
  | _, _, .nil, _, h => nomatch h
  | _, _, .cons h t, e, hm => by
    rcases List.mem_cons.mp hm with z | z
    · rw [z]; exact h.2.2
    · exact sort_up t e z
theorem outsOf_few {mv : Mv} (h : ∀ e ∈ mv, e.2.length ≤ 8) (k : Str × Str) : (outsOf mv k).length ≤ 8 := by
  unfold outsOf
  cases c : mv.find? fun e => decide (e.1 = k) with
  | none => exact Nat.zero_le _
  | some e => exact h e (List.mem_of_find?_eq_some c)
theorem own_of {K : PySem.W.Frag} {H : Hp} {kvs : List (List Key × V)} {mvs mv : Mv} (nd : (kvs.map (·.1)).Nodup) (tups : Paired (TupE K H) kvs mvs) (so : Paired SortOf mvs mv) (few : ∀ e ∈ mv, e.2.length ≤ 8) : OwnMv K H kvs mvs mv where
  nd := nd
  tups := tups
  eqm := ⟨fun k => by rw [sort_keys so], fun k o => (sort_outs so).mem_iff, fun k => by rw [(sort_outs so).length_eq]; exact outsOf_few few k⟩
  outs := sort_mem so
  up := sort_up so
  len := PySem.Paired.length so
theorem tupE_but {K : PySem.W.Frag} {H H' : Hp} {D : Addr} {ks : List (List Key × V)} (b : But D H H') (hD : H D = some (.dT ks)) {kv : List Key × V} {e : (Str × Str) × List (Str × Str)} (h : TupE K H kv e) : TupE K H' kv e := by
  obtain ⟨e1, t, vs, e2, e3, p⟩ := h
  refine ⟨e1, t, vs, e2, b t _ (fun z => by rw [z, hD] at e3; cases e3) e3, L2.Paired.mapP p fun _ _ ⟨q, e, g⟩ => ⟨q, e, sqT_up (b.sq hD) g⟩⟩
/-- the outcomes of a row as tuples of two texts -/
theorem outs_ps2 {K : PySem.W.Frag} {H : Hp} : ∀ {vs : List V} {os : List (Str × Str)}, Paired (OutT K H) vs os → ∃ ps : List (Addr × Str × Str), vs = (ps.map (·.1)).map V.ref ∧ ps.map (·.2) = os ∧ ∀ p ∈ ps, SqT K H p.1 [.str p.2.1, .str p.2.2]
  | _, _, .nil => ⟨[], rfl, rfl, fun _ h => nomatch h⟩
  | v :: vs, o :: os, .cons ⟨q, e, h⟩ t => by
    obtain ⟨ps, h1, h2, h3⟩ := outs_ps2 t
    refine ⟨(q, o) :: ps, by rw [e, h1]; rfl, by rw [List.map_cons, h2], fun p hp => ?_⟩
    rcases List.mem_cons.mp hp with z | z
    · rw [z]; exact h
    · exact h3 p z
theorem paired_outs {K : PySem.W.Frag} {H : Hp} : ∀ {ps : List (Addr × Str × Str)}, (∀ p ∈ ps, SqT K H p.1 [.str p.2.1, .str p.2.2]) → Paired (OutT K H) ((ps.map (·.1)).map V.ref) (ps.map (·.2))
  | [], _ => .nil
  | p :: ps, h => .cons ⟨p.1, rfl, h p List.mem_cons_self⟩ (paired_outs fun x hx => h x (List.mem_cons_of_mem _ hx))
def keyOf (o : Str × Str) : List Key := [kInr o.1, kInr o.2]
theorem keyOf_inj {a b : Str × Str} (h : keyOf a = keyOf b) : a = b := by
  unfold keyOf at h
  simp only [List.cons.injEq, Sum.inr.injEq, and_true] at h
  exact Prod.ext h.1 h.2
theorem keys_nodup {os : List (Str × Str)} (nd : os.Nodup) : (os.map keyOf).Nodup := List.Pairwise.map _ (fun _ _ ne e => ne (keyOf_inj e)) nd
theorem paired_keys {K : PySem.W.Frag} {H : Hp} : ∀ {vs : List V} {os : List (Str × Str)}, Paired (OutT K H) vs os → Paired (TupK K H) vs (os.map keyOf)
  | _, _, .nil => .nil
  | _, _, .cons ⟨q, e, h⟩ t => .cons ⟨q, e, h⟩ (paired_keys t)
/-- an error raised: what stood stands, and its own dict is new -/
theorem raised {H H1 : Hp} {a dx C : Addr} {fs : List (Str × V)} (s : Same H H1) (na : H1 a = none) (nd : (upd H1 a (exo a C none)) dx = none) (ne : dx ≠ a) :
    (upd (upd (upd H1 a (exo a C none)) dx (exd dx fs)) a (exo a C (some dx))) a = some (exo a C (some dx)) ∧ (upd (upd (upd H1 a (exo a C none)) dx (exd dx fs)) a (exo a C (some dx))) dx = some (exd dx fs) ∧ H1 dx = none ∧
    Same H (upd (del (upd (upd (upd H1 a (exo a C none)) dx (exd dx fs)) a (exo a C (some dx))) a) dx (.xd fs)) ∧ H dx = none := by
  have n1 : H1 dx = none := by rw [upd_ne ne] at nd; exact nd
  refine ⟨upd_same, by rw [upd_ne ne]; exact upd_same, n1, fun b o e => ?_, ?_⟩
  · have h1 := s b o e
    have ba : b ≠ a := ne_of_none h1 na
    have bd : b ≠ dx := ne_of_none h1 n1
    rw [upd_ne bd, del_ne ba, upd_ne ba, upd_ne bd, upd_ne ba]
    exact h1
  · cases h : H dx with
    | none => rfl
    | some o => rw [s _ _ h] at n1; cases n1
end Q9
end
-- QRead3
section
set_option maxRecDepth 100000
set_option maxHeartbeats 4000000
namespace Q9
open PySem L2
/-- tuple(xs), xs a list or a tuple -/
def rTupOf (K : PySem.W.Frag) : List V → Hp → VK → Prop := fun vs H Q => ∃ p ys, vs = [.ref p] ∧ ((SqL K H p ys ∧ ∀ l, H l = none → Q (.ref l) (upd H l (.tup ys))) ∨ (SqT K H p ys ∧ Q (.ref p) H))
theorem cr_tupOf {X : Cx} : CallR X (.type "tuple") (rTupOf X.K) := call_tuple_of
structure TRd (K : PySem.W.Frag) (mg : Str → Option Value) (fA fP fR : Addr) : Prop where
  gA : mg "_are_rows" = some (.ref fA)
  kA : PySem.W.keepIn K (.ref fA) = true
  gP : mg "_pairs_of_texts" = some (.ref fP)
  kP : PySem.W.keepIn K (.ref fP) = true
  gR : mg "_are_right" = some (.ref fR)
  kR : PySem.W.keepIn K (.ref fR) = true
abbrev rdN : List Str := ["moves", "start", "ends", "many", "pairs", "behind", "states", "methods", "row", "_", "state", "method", "word", "key"]
/-- the states, the methods, the own moves; or the error -/
def spRead (CB : Addr) (K : PySem.W.Frag) : Sp := fun vs H Q E => ∃ (m : Addr) (nm st : Str) (ex : V) (es : List Str) (kvs : List (List Key × V)) (mv : Mv), vs = [.ref m, .str st, ex] ∧
  Row K H ex (es.map V.str) ∧ H m = some (.dT kvs) ∧ Moves K H kvs mv ∧ RightParts nm st es mv ∧ Small st es mv ∧
  ((Fits st es mv ∧ ∀ (H' : Hp) (t s me d : Addr) (ss ms : List Str) (kvs' : List (List Key × V)) (mvs : Mv), Same H H' → H' t = some (.tup [.ref s, .ref me, .ref d]) → H' s = some (.lst (ss.map V.str)) → Told (statesIn st es mv) ss → H' me = some (.lst (ms.map V.str)) → Told (methodsIn mv) ms →
      H' d = some (.dT kvs') → OwnMv K H' kvs' mvs mv → H s = none → H me = none → H d = none → Q (.ref t) H') ∨
    (¬ Fits st es mv ∧ ∀ (H' : Hp) (d : Addr), Same H H' → H d = none → H' d = some (.xd [("part", .str "moves")]) → E (.ref CB) (some d) H'))
section
variable {P : Program} {w : World} {K : PySem.W.Frag} {mg : Str → Option Value} {base : Heap} {C CB fKey fA fP fR fI : Addr}
theorem scRd : FnScope rdN ["moves", "start", "ends"] (defScope sRead) := ⟨rfl, rfl, rfl, by decide +kernel, rfl, by decide +kernel, by decide +kernel⟩
theorem ok_read {f : Addr} {fd dA dP dR dI : FuncData} (F : Fun K "_read_moves" "_read_moves" sRead f fd) (T : TRead K mg fKey) (TD : TRd K mg fA fP fR) (TE : TErr K mg "BadKind" "part" CB fI)
    (GI : FnOk P w K mg base CX0 1 fI dI ["self", "part"] (spErrI CB "part")) (bI : Binds K dI ["self", "part"] [])
    (GA : FnOk P w K mg base CX0 2 fA dA ["moves"] (spAreRows K)) (bA : Binds K dA ["moves"] []) (GP : FnOk P w K mg base CX0 1 fP dP ["rows"] (spPairs K)) (bP : Binds K dP ["rows"] [])
    (GR : FnOk P w K mg base CX0 4 fR dR ["words", "states", "methods"] (spRight K)) (bR : Binds K dR ["words", "states", "methods"] []) :
    FnOk P w K mg base (L2.CX P w) 5 f fd ["moves", "start", "ends"] (spRead CB K) := by
  refine F.okX scRd (fun vs H Q E h => ?_) (fun cdv A outer s H vs Q E hr h => ?_)
  · obtain ⟨m, nm, st, ex, es, kvs, mv, rfl, _⟩ := h
    rfl
  · obtain ⟨m, nm, st, ex, es, kvs, mv, rfl, he, hm, M, R, S, way⟩ := h
    have hu := hu_of hr
    have hu8 : (A.deeper (PyProof.Rows.envOfC (Str.ofString "_read_moves") (defScope sRead) s.heap.objs.size f cdv)).units + 8 < cLine := Nat.lt_of_le_of_lt (Nat.add_le_add_left (by decide : 8 ≤ 64) _) hr.units
    refine ⟨_, pss_cons (ps_if (pt_not (pt_val (pe_call GA (hr.mono (by decide)) (by rfl) TD.gA TD.kA bA .nil pass0 (pa_cons (pv 0) pa_nil))))
        (pss_one (ps_raise rfl (takes_of rfl rfl rfl rfl) (pmk_oex TE.ox TE.iC TE.tI GI (hr.mono (by omega)) bI .nil pass0 (by rfl) TE.gC (pa_cons pe_str pa_nil)))) pss_nil)
      (pss_cons (ps_set (i := 3) scRd.nd rfl (.inl rfl) (pe_callB (cr_sum rfl) (by rfl) T.sum (by decide +kernel) (pa_cons
        (pe_lock (pe_lc (te := tCB (rLenRow K) (tCons (tVar 8) tNil)) (own := [("row", 8)]) (g := gName 8) (tt := tYes) rfl scRd.nd (pi_valuesT (pv 0)) (blkOk_by (own := [("row", 8)]) (N := rdN) (sc := defScope sRead) (by decide +kernel))
          (fun _ _ _ _ _ => pg_name (i := 8) scRd.nd rfl (.inl rfl)) (fun _ _ _ _ _ => pts_nil) (fun _ _ _ _ _ => pe_callB (id := "len") (r := rLenRow K) cr_lenRow (by rfl) T.len (by decide +kernel) (pa_cons (pv 8) pa_nil)))) pa_nil)))
      (pss_cons (ps_set (i := 4) scRd.nd rfl (.inl rfl) (pe_call GP (hr.mono (by decide)) (by rfl) TD.gP TD.kP bP .nil pass0 (pa_cons (pe_listValsT rfl (pv 0) (by rfl) T.lst (by decide +kernel)) pa_nil)))
      (pss_cons (ps_if (pt_cmpR op_ne (pe_callB cr_lenRow (by rfl) T.len (by decide +kernel) (pa_cons (pv 4) pa_nil)) (pv 3) (nomark _)) pss_never pss_nil)
      (pss_cons (ps_if (pt_cmpR op_ne (pe_callB cr_lenRow (by rfl) T.len (by decide +kernel) (pa_cons (pv 4) pa_nil)) (pv 3) (nomark _)) pss_never pss_nil)
      (pss_cons (ps_set (i := 5) scRd.nd rfl (.inl rfl) (pe_callB (cr_sortedKs rfl) (by rfl) T.sorted (by decide +kernel) (pa_cons
        (pe_scK (own := [("_", 9), ("state", 10)]) (g := gTup K 2 (gCons (gName 9) (gCons (gName 10) gNil))) (tt := tYes) rfl scRd.nd (pi_list (pv 4)) (blkOk_by (own := [("_", 9), ("state", 10)]) (N := rdN) (sc := defScope sRead) (by decide +kernel))
          (fun _ _ _ _ _ => pg_tup rfl (pgs_cons (pg_name (i := 9) scRd.nd rfl (.inl rfl)) (pgs_cons (pg_name (i := 10) scRd.nd rfl (.inl rfl)) pgs_nil))) (fun _ _ _ _ _ => pts_nil) (fun _ _ _ _ _ => pv 10)) pa_nil)))
      (pss_cons (ps_set (i := 6) scRd.nd rfl (.inl rfl) (pe_callB (cr_sortedKs rfl) (by rfl) T.sorted (by decide +kernel) (pa_cons (pe_callTy (cr_setOf rfl) (by rfl) T.set (by decide +kernel) (pa_cons
        (pe_op op_cat (pe_op op_cat (pe_op op_cat (pe_lst (pa_cons (pv 1) pa_nil)) (pe_callTy cr_listRow (by rfl) T.lst (by decide +kernel) (pa_cons (pv 2) pa_nil)))
          (pe_lock (pe_lc (te := tVar 10) (own := [("state", 10), ("_", 9)]) (g := gTup K 2 (gCons (gName 10) (gCons (gName 9) gNil))) (tt := tYes) rfl scRd.nd (pi_keys (pv 0)) (blkOk_by (own := [("state", 10), ("_", 9)]) (N := rdN) (sc := defScope sRead) (by decide +kernel))
            (fun _ _ _ _ _ => pg_tup rfl (pgs_cons (pg_name (i := 10) scRd.nd rfl (.inl rfl)) (pgs_cons (pg_name (i := 9) scRd.nd rfl (.inl rfl)) pgs_nil))) (fun _ _ _ _ _ => pts_nil) (fun _ _ _ _ _ => pv 10)))) (pv 5)) pa_nil)) pa_nil)))
      (pss_cons (ps_set (i := 7) scRd.nd rfl (.inl rfl) (pe_callB (cr_sortedKs rfl) (by rfl) T.sorted (by decide +kernel) (pa_cons
        (pe_lock (pe_scK (own := [("_", 9), ("method", 11)]) (g := gTup K 2 (gCons (gName 9) (gCons (gName 11) gNil))) (tt := tYes) rfl scRd.nd (pi_keys (pv 0)) (blkOk_by (own := [("_", 9), ("method", 11)]) (N := rdN) (sc := defScope sRead) (by decide +kernel))
          (fun _ _ _ _ _ => pg_tup rfl (pgs_cons (pg_name (i := 9) scRd.nd rfl (.inl rfl)) (pgs_cons (pg_name (i := 11) scRd.nd rfl (.inl rfl)) pgs_nil))) (fun _ _ _ _ _ => pts_nil) (fun _ _ _ _ _ => pv 11))) pa_nil)))
      (pss_cons (ps_if (pt_not (pt_val (pe_call GR (hr.mono (by decide)) (by rfl) TD.gR TD.kR bR .nil pass0 (pa_cons (pe_callB (cr_sortedKs rfl) (by rfl) T.sorted (by decide +kernel) (pa_cons
          (pe_scK (own := [("word", 12), ("_", 9)]) (g := gTup K 2 (gCons (gName 12) (gCons (gName 9) gNil))) (tt := tYes) rfl scRd.nd (pi_list (pv 4)) (blkOk_by (own := [("word", 12), ("_", 9)]) (N := rdN) (sc := defScope sRead) (by decide +kernel))
            (fun _ _ _ _ _ => pg_tup rfl (pgs_cons (pg_name (i := 12) scRd.nd rfl (.inl rfl)) (pgs_cons (pg_name (i := 9) scRd.nd rfl (.inl rfl)) pgs_nil))) (fun _ _ _ _ _ => pts_nil) (fun _ _ _ _ _ => pv 12)) pa_nil)) (pa_cons (pv 6) (pa_cons (pv 7) pa_nil))))))
        (pss_one (ps_raise rfl (takes_of rfl rfl rfl rfl) (pmk_oex TE.ox TE.iC TE.tI GI (hr.mono (by omega)) bI .nil pass0 (by rfl) TE.gC (pa_cons pe_str pa_nil)))) pss_nil)
      (pss_cons (ps_if (pt_truth (pe_lock (pe_lc (te := tVar 8) (own := [("row", 8)]) (g := gName 8) rfl scRd.nd (pi_valuesT (pv 0)) (blkOk_by (own := [("row", 8)]) (N := rdN) (sc := defScope sRead) (by decide +kernel))
          (fun _ _ _ _ _ => pg_name (i := 8) scRd.nd rfl (.inl rfl))
          (fun _ _ _ _ _ => pts_one (pt_cmpR op_ne (pe_callB (id := "len") (r := rLenTs P w) cr_lenTs (by rfl) T.len (by decide +kernel) (pa_cons (pe_callTy (r := rSetOfT K P w) (cr_setOfT rfl hu8) (by rfl) T.set (by decide +kernel) (pa_cons (pv 8) pa_nil)) pa_nil)) (pe_callB (id := "len") (r := rLenRow K) cr_lenRow (by rfl) T.len (by decide +kernel) (pa_cons (pv 8) pa_nil)) (nomark _)))
          (fun _ _ _ _ _ => pv 8))) (by intro _; rfl)) pss_never pss_nil)
      (pss_one (ps_ret (pe_tup (pa_cons (pv 6) (pa_cons (pv 7) (pa_cons
        (pe_lock (pe_dcT (tk := tVar 13) (tv := tCB (rTupOf K) (tCons (tCB (rSortedRT K) (tCons (tVar 8) tNil)) tNil)) (tt := tYes) (own := [("key", 13), ("row", 8)]) (g := gTup K 2 (gCons (gName 13) (gCons (gName 8) gNil))) (Nat.lt_of_succ_lt hu) rfl scRd.nd (pi_itemsT (pv 0)) (blkOk_by (own := [("key", 13), ("row", 8)]) (N := rdN) (sc := defScope sRead) (by decide +kernel))
          (fun _ _ _ _ _ => pg_tup rfl (pgs_cons (pg_name (i := 13) scRd.nd rfl (.inl rfl)) (pgs_cons (pg_name (i := 8) scRd.nd rfl (.inl rfl)) pgs_nil))) (fun _ _ _ _ _ => pts_nil) (fun _ _ _ _ _ => pv 13)
          (fun _ _ _ _ _ => pe_callTy (r := rTupOf K) cr_tupOf (by rfl) T.tup (by decide +kernel) (pa_cons (pe_callB (id := "sorted") (r := rSortedRT K) cr_sortedRT (by rfl) T.sorted (by decide +kernel) (pa_cons (pv 8) pa_nil)) pa_nil)))) pa_nil))))))))))))))), ?_⟩
    have len : kvs.length = mv.length := PySem.Paired.length M.ent
    have ls := lens_states st es mv
    have big := S.len
    have lf : (flatO mv).length ≤ 1000000 := by omega
    have le : es.length ≤ 1000000 := by omega
    have few : kvs.length ≤ 1000000 := by omega
    have sz : ∀ n : Nat, n ≤ 4000010 → n < sizeLine := fun n h => by rw [PySem.sizeLine_eq]; omega
    refine ⟨_, rfl, m, kvs, mv, rfl, hm, M, few, fun H1 s1 => ⟨_, rfl, ?_⟩⟩
    by_cases c8 : ∀ e ∈ mv, e.2.length ≤ 8
    case neg =>
      rw [decide_eq_false c8]
      rcases way with ⟨ft, _⟩ | ⟨_, wrong⟩
      · exact (c8 ft.1).elim
      refine iteT ⟨(by show 1 ≤ 1000; decide), fun a na => ⟨a, _, rfl, upd_same, fun dx nd ne => ?_⟩⟩
      obtain ⟨r1, r2, r3, r4, r5⟩ := raised (C := CB) (fs := [("part", .str "moves")]) s1 na nd ne
      exact ⟨rfl, dx, _, r1, r2, r3, wrong _ dx r4 r5 upd_same⟩
    rw [decide_eq_true c8]
    refine iteF ?_
    have hm1 := s1 m _ hm
    have M1 := moves_up (Q9.Same.sq s1) M
    -- how many outcomes
    refine ⟨m, .dT kvs, hm1, trivial, fun od => ⟨_, rfl, m, od, kvs, rfl, upd_same, fun D hD => ?_⟩⟩
    have nmD : m ≠ D := ne_of_none upd_same hD
    have freeD : H1 D = none := by rw [upd_ne nmD.symm] at hD; exact hD
    refine lc_it walk_valuesT (fun i H' => H' m = some (.frz od (.dT kvs)) ∧ But m H1 H' ∧ H' D = some (.lst (((mv.take i).map fun e => (e.2.length : Int)).map V.int))) ?_ (fun i H' _ p => p.1) ?_ ?_
    · exact ⟨by rw [upd_ne nmD]; exact upd_same, fun b o ne e => by rw [upd_ne (ne_of_none e freeD), upd_ne ne]; exact e, upd_same⟩
    · rintro i y H2 H3 hi ⟨hm2, bt, hd⟩ ⟨rfl, k0, hk⟩
      obtain ⟨e, hev, ek, vs, row, each⟩ := paired_at M1.ent i _ hk
      have row2 := row_sq (bt.sq hm1) row
      have ll : vs.length = e.2.length := PySem.Paired.length each
      refine ⟨rfl, _, rfl, y, vs, rfl, row2, _, hd, ?_, ?_, fun b o ne z => ?_, ?_⟩
      · rw [List.length_map, List.length_map, List.length_take]; exact sz _ (by omega)
      · rw [upd_ne nmD]; exact hm2
      · rw [upd_ne (ne_of_none z freeD)]; exact bt b o ne z
      · rw [upd_same, take_one_more hev, List.map_append, List.map_append, ll]
        rfl
    rintro H2' ⟨hm2, bt, hd⟩
    rw [len, List.take_length] at hd
    have sb := bt.back hm1
    refine ⟨hm2, D, _, rfl, .of (by rw [upd_ne nmD.symm]; exact hd), ?_⟩
    rw [sum_lens]
    have s2 : Same H (upd H2' m (.dT kvs)) := fun b o z => sb b o (s1 b o z)
    generalize upd H2' m (.dT kvs) = H2 at s2
    clear sb hd bt hm2 freeD nmD hD
    have M2 := moves_up (Q9.Same.sq s2) M
    -- the outcomes
    refine ⟨_, rfl, m, kvs, rfl, s2 _ _ hm, fun rp nrp => ?_⟩
    have s3 : Same H (upd H2 rp (.lst (kvs.map (·.2)))) := fun b o z => same_upd nrp b o (s2 b o z)
    refine ⟨rp, kvs.map (fun e => e.2), rowsO mv, rfl, .of upd_same, paired_snd (moves_up (Q9.Same.sq s3) M).ent, lf, fun H4 pp s34 ⟨pp', vs, epp, hvs, pvs⟩ => ?_⟩
    cases epp
    have s4 : Same H H4 := fun b o z => s34 b o (s3 b o z)
    clear s34 s3 nrp s2 M2
    have pvs : Paired (OutT K H4) vs (flatO mv) := pvs
    have lv : vs.length = (flatO mv).length := PySem.Paired.length pvs
    refine ⟨_, rfl, .ref pp, vs, rfl, ⟨pp, rfl, .inl hvs⟩, _, rfl, rfl, _, rfl, ?_⟩
    refine iteNS (by rw [lv]) ⟨_, rfl, .ref pp, vs, rfl, ⟨pp, rfl, .inl hvs⟩, _, rfl, rfl, _, rfl, iteNS (by rw [lv]) ?_⟩
    -- the states behind
    have subB : ∀ z ∈ (flatO mv).map (·.2), z ∈ statesIn st es mv := fun z hz => by
      obtain ⟨o, h1, h2⟩ := List.mem_map.mp hz
      obtain ⟨e, h3, h4⟩ := mem_flatO.mp h1
      exact mem_states.mpr (.inr (.inr ⟨e, h3, .inr ⟨o, h4, h2.symm⟩⟩))
    have fewB := few_same subB S.states
    refine ⟨_, rfl, pp, rfl, ⟨_, hvs⟩, fun D hD => ?_⟩
    refine coll_it (walk_list (xs := vs)) (fun i H' => Same H4 H' ∧ ∃ ks, H' D = some (SetKs P w D ks) ∧ Coll (((flatO mv).map (·.2)).map kInr) i ks) ⟨same_upd hD, [], upd_same, Coll.zero _⟩ (fun i H' _ p => sqL_up (Q9.Same.sq p.1) hvs) ?_ ?_
    · rintro i y H5 H6 hi ⟨s5, ks, hks, cl⟩ ⟨rfl, hy⟩
      obtain ⟨o, ho, q5, rfl, hq5⟩ := paired_at pvs i _ hy
      have at_ : (((flatO mv).map (·.2)).map kInr)[i]? = some (kInr o.2) := by rw [List.getElem?_map, List.getElem?_map, ho]; rfl
      refine ⟨q5, _, rfl, same_sqT s5 hq5, rfl, _, _, rfl, _, _, rfl, rfl, rfl, ?_⟩
      exact ⟨_, rfl, kInr o.2, ks, rfl, hks, fewB ks cl.nd cl.sub, fun ks' ad => ⟨fun b u z => by rw [upd_ne (ne_of_none z hD)]; exact s5 b u z, ks', upd_same, cl.next at_ ad⟩⟩
    rintro H5 ⟨s5, ks, hks, cl⟩
    have el : (((flatO mv).map (·.2)).map kInr).take vs.length = ((flatO mv).map (·.2)).map kInr := List.take_of_length_le (by rw [List.length_map, List.length_map, lv]; exact Nat.le_refl _)
    have memB : ∀ j, j ∈ ks ↔ j ∈ ((flatO mv).map (·.2)).map kInr := fun j => by rw [cl.mem j, el]
    obtain ⟨ss0, e0⟩ := texts_of memB
    refine ⟨D, ss0, rfl, (by rw [hks, e0]; rfl), fun beh bp pmB upB nbp => ?_⟩
    have tB : Told ((flatO mv).map (·.2)) beh := told_of e0 cl.nd memB pmB upB
    have s46 : Same H4 (upd H5 bp (.lst (beh.map V.str))) := fun b o z => same_upd nbp b o (s5 b o z)
    have hbp : (upd H5 bp (.lst (beh.map V.str))) bp = some (.lst (beh.map V.str)) := upd_same
    have lb := told_len tB
    rw [List.length_map] at lb
    generalize upd H5 bp (.lst (beh.map V.str)) = H6 at s46 hbp
    clear nbp upB pmB e0 memB el cl hks s5 hD
    have s6 : Same H H6 := fun b o z => s46 b o (s4 b o z)
    -- all states
    refine ⟨_, rfl, (by show 1 ≤ sizeLine; decide), fun f1 hf1 => ?_⟩
    have a1 := same_upd (o := .lst [V.str st]) hf1
    refine ⟨_, rfl, ex, _, rfl, row_up (fun b o z => a1 b o (s6 b o z)) he, fun f2 hf2 => ?_⟩
    have a2 := same_upd (o := .lst (es.map V.str)) hf2
    refine ⟨f1, f2, _, _, rfl, rfl, a2 _ _ upd_same, upd_same, ?_, fun f3 hf3 => ?_⟩
    · rw [List.length_map]; show 1 + es.length ≤ sizeLine; exact Nat.le_of_lt (sz _ (by omega))
    have a3 := same_upd (o := .lst ([V.str st] ++ es.map V.str)) hf3
    have a13 : Same H6 (upd (upd (upd H6 f1 (.lst [V.str st])) f2 (.lst (es.map V.str))) f3 (.lst ([V.str st] ++ es.map V.str))) := fun b o z => a3 b o (a2 b o (a1 b o z))
    have hf3' : (upd (upd (upd H6 f1 (.lst [V.str st])) f2 (.lst (es.map V.str))) f3 (.lst ([V.str st] ++ es.map V.str))) f3 = some (.lst ([V.str st] ++ es.map V.str)) := upd_same
    generalize upd (upd (upd H6 f1 (.lst [V.str st])) f2 (.lst (es.map V.str))) f3 (.lst ([V.str st] ++ es.map V.str)) = H7 at a13 hf3'
    clear a1 a2 a3 hf1 hf2 hf3
    have s7 : Same H H7 := fun b o z => a13 b o (s6 b o z)
    have hm7 := s7 m _ hm
    have M7 := moves_up (Q9.Same.sq s7) M
    refine ⟨m, .dT kvs, hm7, trivial, fun od3 => ⟨_, rfl, m, od3, rfl, .inr ⟨kvs, upd_same, fun D3 hD3 => ?_⟩⟩⟩
    have nm3 : m ≠ D3 := ne_of_none upd_same hD3
    have free3 : H7 D3 = none := by rw [upd_ne nm3.symm] at hD3; exact hD3
    refine lc_it walk_keysT (fun i H' => H' m = some (.frz od3 (.dT kvs)) ∧ But m H7 H' ∧ H' D3 = some (.lst (((mv.take i).map (·.1.1)).map V.str))) ?_ (fun i H' _ p => p.1) ?_ ?_
    · exact ⟨by rw [upd_ne nm3]; exact upd_same, fun b o ne e => by rw [upd_ne (ne_of_none e free3), upd_ne ne]; exact e, upd_same⟩
    · rintro i y H8 H9 hi ⟨hm8, bt, hd⟩ ⟨rfl, k0, v, qa, hk, rfl, hq⟩
      obtain ⟨e, hev, ek, _⟩ := paired_at M7.ent i _ hk
      simp only at ek
      subst ek
      have hq' : H9 qa = some (.tup [.str e.1.1, .str e.1.2]) := hq
      refine ⟨qa, _, rfl, .of hq', rfl, _, _, rfl, _, _, rfl, rfl, rfl, _, rfl, _, hd, ?_, ?_, fun b o ne z => ?_, ?_⟩
      · rw [List.length_map, List.length_map, List.length_take]; exact sz _ (by omega)
      · rw [upd_ne nm3]; exact hm8
      · rw [upd_ne (ne_of_none z free3)]; exact bt b o ne z
      · rw [upd_same, take_one_more hev, List.map_append, List.map_append]; rfl
    rintro H8 ⟨hm8, bt, hd⟩
    rw [len, List.take_length] at hd
    have sb3 := bt.back hm7
    refine ⟨hm8, f3, D3, _, _, rfl, rfl, sb3 _ _ hf3', (by rw [upd_ne nm3.symm]; exact hd), ?_, fun f4 hf4 => ?_⟩
    · rw [List.length_append, List.length_map, List.length_map, List.length_map]; exact Nat.le_of_lt (sz _ (by simp only [List.length_cons, List.length_nil]; omega))
    have a4 := same_upd (o := .lst ([V.str st] ++ es.map V.str ++ (mv.map (·.1.1)).map V.str)) hf4
    refine ⟨_, rfl, f4, bp, _, _, rfl, rfl, upd_same, a4 _ _ (sb3 _ _ (a13 _ _ hbp)), ?_, fun f5 hf5 => ?_⟩
    · rw [List.length_append, List.length_append, List.length_map, List.length_map, List.length_map, List.length_map]; exact Nat.le_of_lt (sz _ (by simp only [List.length_cons, List.length_nil]; omega))
    have tot : ∀ z, z ∈ st :: es ++ mv.map (·.1.1) ++ beh ↔ z ∈ statesIn st es mv := states_told tB
    have etot : ((st :: es ++ mv.map (·.1.1) ++ beh).map kInr).map kV = [V.str st] ++ es.map V.str ++ (mv.map (·.1.1)).map V.str ++ beh.map V.str := by rw [kInr_kV]; simp
    refine ⟨f5, (st :: es ++ mv.map (·.1.1) ++ beh).map kInr, rfl, .inl (.of (by rw [etot]; exact upd_same)), few_same (fun z hz => (tot z).1 hz) S.states, fun p6 ks6 hp6 nd6 mem6 => ?_⟩
    obtain ⟨ss6, e6⟩ := texts_of mem6
    refine ⟨p6, ss6, rfl, by rw [upd_same, e6], fun ss sp pmS upS nsp => ?_⟩
    have tS : Told (statesIn st es mv) ss := by
      have t0 := told_of e6 nd6 mem6 pmS upS
      exact ⟨t0.1, t0.2.1, fun z => (t0.2.2 z).trans (tot z)⟩
    generalize hH9 : upd (upd (upd (upd (upd H8 m (.dT kvs)) f4 _) f5 _) p6 (SetKs _ _ p6 ks6)) sp _ = H9
    have s9 : Same H6 H9 := by rw [← hH9]; exact fun b o z => same_upd nsp b o (same_upd hp6 b o (same_upd hf5 b o (a4 b o (sb3 b o (a13 b o z)))))
    have hsp : H9 sp = some (.lst (ss.map V.str)) := by rw [← hH9]; exact upd_same
    have s9H : Same H H9 := fun b o z => s9 b o (s6 b o z)
    have nsH : H sp = none := by
      cases z : H sp with
      | none => rfl
      | some o => exact absurd (same_upd hp6 _ _ (same_upd hf5 _ _ (a4 _ _ (sb3 _ _ (a13 _ _ (s6 _ _ z)))))) (by rw [nsp]; exact fun h => nomatch h)
    clear hH9 nsp hp6 hf5 a4 sb3 hf4 hd bt hm8 free3 nm3 hD3 M7 hm7 s7 hf3' a13 pmS upS e6 mem6 nd6
    have hm9 := s9H m _ hm
    have M9 := moves_up (Q9.Same.sq s9H) M
    -- the methods
    refine ⟨m, .dT kvs, hm9, trivial, fun od4 => ⟨_, rfl, m, od4, rfl, .inr ⟨kvs, upd_same, fun D4 hD4 => ?_⟩⟩⟩
    have nm4 : m ≠ D4 := ne_of_none upd_same hD4
    have free4 : H9 D4 = none := by rw [upd_ne nm4.symm] at hD4; exact hD4
    refine coll_it walk_keysT (fun i H' => H' m = some (.frz od4 (.dT kvs)) ∧ But m H9 H' ∧ ∃ ks, H' D4 = some (SetKs P w D4 ks) ∧ Coll ((methodsIn mv).map kInr) i ks) ?_ (fun i H' _ p => p.1) ?_ ?_
    · exact ⟨by rw [upd_ne nm4]; exact upd_same, fun b o ne e => by rw [upd_ne (ne_of_none e free4), upd_ne ne]; exact e, [], upd_same, Coll.zero _⟩
    · rintro i y Ha Hb hi ⟨hm1', bt, ks, hks, cl⟩ ⟨rfl, k0, v, q0, hk, rfl, hq⟩
      obtain ⟨e, hev, ek, _⟩ := paired_at M9.ent i _ hk
      simp only at ek
      subst ek
      have hq' : Hb q0 = some (.tup [.str e.1.1, .str e.1.2]) := hq
      have at_ : ((methodsIn mv).map kInr)[i]? = some (kInr e.1.2) := by
        unfold methodsIn
        rw [List.getElem?_map, List.getElem?_map, hev]
        rfl
      refine ⟨q0, _, rfl, .of hq', rfl, _, _, rfl, _, _, rfl, rfl, rfl, ?_⟩
      refine ⟨_, rfl, kInr e.1.2, ks, rfl, hks, S.methods ks cl.nd cl.sub, fun ks' ad => ?_⟩
      refine ⟨by rw [upd_ne nm4]; exact hm1', fun b o ne z => ?_, ks', upd_same, cl.next at_ ad⟩
      rw [upd_ne (ne_of_none z free4)]
      exact bt b o ne z
    rintro Ha ⟨hma, bt, ks, hks, cl⟩
    have el4 : ((methodsIn mv).map kInr).take kvs.length = (methodsIn mv).map kInr := List.take_of_length_le (by unfold methodsIn; rw [List.length_map, List.length_map, len]; exact Nat.le_refl _)
    have mem4 : ∀ j, j ∈ ks ↔ j ∈ (methodsIn mv).map kInr := fun j => by rw [cl.mem j, el4]
    obtain ⟨ss4, e4⟩ := texts_of mem4
    refine ⟨hma, D4, ss4, rfl, (by rw [upd_ne nm4.symm, hks, e4]; rfl), fun ms mp pmM upM nmp => ?_⟩
    have tM : Told (methodsIn mv) ms := told_of e4 cl.nd mem4 pmM upM
    have sb4 := bt.back hm9
    generalize hH10 : upd (upd Ha m (.dT kvs)) mp _ = H10
    have s10 : Same H9 H10 := by rw [← hH10]; exact fun b o z => same_upd nmp b o (sb4 b o z)
    have hmp : H10 mp = some (.lst (ms.map V.str)) := by rw [← hH10]; exact upd_same
    have nmH : H mp = none := by
      cases z : H mp with
      | none => rfl
      | some o => exact absurd (sb4 _ _ (s9H _ _ z)) (by rw [nmp]; exact fun h => nomatch h)
    clear hH10 sb4 nmp pmM upM e4 mem4 el4 cl hks bt hma free4 nm4 hD4
    have s10_4 : Same H4 H10 := fun b o z => s10 b o (s9 b o (s46 b o z))
    -- the words
    have fewW : FewIn (((flatO mv).map (·.1)).map kInr) := few_same (fun z hz => flat_words.mp hz) S.words
    refine ⟨_, rfl, pp, rfl, ⟨_, s10_4.seq hvs⟩, fun D5 hD5 => ?_⟩
    refine coll_it (walk_list (xs := vs)) (fun i H' => Same H10 H' ∧ ∃ ks, H' D5 = some (SetKs P w D5 ks) ∧ Coll (((flatO mv).map (·.1)).map kInr) i ks) ⟨same_upd hD5, [], upd_same, Coll.zero _⟩ (fun i H' _ p => sqL_up (Q9.Same.sq p.1) (s10_4.seq hvs)) ?_ ?_
    · rintro i y Ha Hb hi ⟨s5, ks, hks, cl⟩ ⟨rfl, hy⟩
      obtain ⟨o, ho, q5, rfl, hq5⟩ := paired_at pvs i _ hy
      have at_ : (((flatO mv).map (·.1)).map kInr)[i]? = some (kInr o.1) := by rw [List.getElem?_map, List.getElem?_map, ho]; rfl
      refine ⟨q5, _, rfl, same_sqT s5 (same_sqT s10_4 hq5), rfl, _, _, rfl, _, _, rfl, rfl, rfl, ?_⟩
      exact ⟨_, rfl, kInr o.1, ks, rfl, hks, fewW ks cl.nd cl.sub, fun ks' ad => ⟨fun b u z => by rw [upd_ne (ne_of_none z hD5)]; exact s5 b u z, ks', upd_same, cl.next at_ ad⟩⟩
    rintro Ha ⟨s5, ks, hks, cl⟩
    have el5 : (((flatO mv).map (·.1)).map kInr).take vs.length = ((flatO mv).map (·.1)).map kInr := List.take_of_length_le (by rw [List.length_map, List.length_map, lv]; exact Nat.le_refl _)
    have mem5 : ∀ j, j ∈ ks ↔ j ∈ ((flatO mv).map (·.1)).map kInr := fun j => by rw [cl.mem j, el5]
    obtain ⟨ss5, e5⟩ := texts_of mem5
    refine ⟨D5, ss5, rfl, (by rw [hks, e5]; rfl), fun ws wp pmW upW nwp => ?_⟩
    have tW : Told ((flatO mv).map (·.1)) ws := told_of e5 cl.nd mem5 pmW upW
    generalize hH11 : upd Ha wp _ = H11
    have s11 : Same H10 H11 := by rw [← hH11]; exact fun b o z => same_upd nwp b o (s5 b o z)
    have hwp : H11 wp = some (.lst (ws.map V.str)) := by rw [← hH11]; exact upd_same
    clear hH11 nwp pmW upW e5 mem5 el5 cl hks s5 hD5
    have s11H : Same H H11 := fun b o z => s11 b o (s10 b o (s9H b o z))
    -- are they right
    have rightS : ∀ z ∈ ss, nameB z = true := fun z hz => by
      rcases mem_states.mp ((tS.2.2 z).1 hz) with h | h | ⟨e, h1, h2 | ⟨o, h3, h4⟩⟩
      · rw [h]; exact R.start
      · exact R.ends z h
      · rw [h2]; exact (R.keys e h1).1
      · rw [h4]; exact (R.outs e h1 o h3).2
    have rightM : ∀ z ∈ ms, nameB z = true := fun z hz => by
      obtain ⟨e, h1, h2⟩ := List.mem_map.mp ((tM.2.2 z).1 hz)
      rw [← h2]
      exact (R.keys e h1).2
    have rightW : ∀ z ∈ ws, wordB z = true := fun z hz => by
      obtain ⟨o, h1, h2⟩ := List.mem_map.mp ((tW.2.2 z).1 hz)
      obtain ⟨e, h3, h4⟩ := mem_flatO.mp h1
      rw [← h2]
      exact (R.outs e h3 o h4).1
    have lW := told_len tW
    have lS := told_len tS
    have lM := told_len tM
    rw [List.length_map] at lW
    have lMm : (methodsIn mv).length = mv.length := by unfold methodsIn; rw [List.length_map]
    refine ⟨_, rfl, _, rfl, wp, sp, mp, ws, ss, ms, rfl, .of hwp, .of (s11 _ _ (s10 _ _ hsp)), .of (s11 _ _ hmp), rightW, rightS, rightM, by omega, by omega, by omega, fun H12 s12 => ⟨_, rfl, ?_⟩⟩
    have s12H : Same H H12 := fun b o z => s12 b o (s11H b o z)
    by_cases cb : ss.length ≤ 60 ∧ ms.length ≤ 8
    case neg =>
      have e1 : (decide (ss.length ≤ 60) && decide (ms.length ≤ 8)) = false := by rw [Bool.and_eq_false_iff, decide_eq_false_iff_not, decide_eq_false_iff_not]; omega
      rw [e1]
      rcases way with ⟨ft, _⟩ | ⟨_, wrong⟩
      · exact (cb ⟨ft.2.1 ss tS.2.1 fun z hz => (tS.2.2 z).1 hz, ft.2.2 ms tM.2.1 fun z hz => (tM.2.2 z).1 hz⟩).elim
      refine iteT ⟨(by show 1 ≤ 1000; decide), fun a na => ⟨a, _, rfl, upd_same, fun dx nd ne => ?_⟩⟩
      obtain ⟨r1, r2, r3, r4, r5⟩ := raised (C := CB) (fs := [("part", .str "moves")]) s12H na nd ne
      exact ⟨rfl, dx, _, r1, r2, r3, wrong _ dx r4 r5 upd_same⟩
    have e1 : (decide (ss.length ≤ 60) && decide (ms.length ≤ 8)) = true := by rw [decide_eq_true cb.1, decide_eq_true cb.2]; rfl
    rw [e1]
    refine iteF ?_
    have hm12 := s12H m _ hm
    have M12 := moves_up (Q9.Same.sq s12H) M
    -- no outcome twice
    refine ⟨m, .dT kvs, hm12, trivial, fun od6 => ⟨_, rfl, m, od6, kvs, rfl, upd_same, fun D6 hD6 => ?_⟩⟩
    have nm6 : m ≠ D6 := ne_of_none upd_same hD6
    have free6 : H12 D6 = none := by rw [upd_ne nm6.symm] at hD6; exact hD6
    refine lc_it walk_valuesT (fun i H' => H' m = some (.frz od6 (.dT kvs)) ∧ But m H12 H' ∧ H' D6 = some (.lst [])) ?_ (fun i H' _ p => p.1) ?_ ?_
    · exact ⟨by rw [upd_ne nm6]; exact upd_same, fun b o ne e => by rw [upd_ne (ne_of_none e free6), upd_ne ne]; exact e, upd_same⟩
    · rintro i y Ha Hb hi ⟨hma, bt, hd⟩ ⟨rfl, k0, hk⟩
      obtain ⟨e, hev, ek, us, row, each⟩ := paired_at M12.ent i _ hk
      have he_mv := List.mem_of_getElem? hev
      have row2 := row_sq (bt.sq hm12) row
      have each2 : Paired (OutT K Hb) us e.2 := L2.Paired.mapP each fun _ _ ⟨q, e, h⟩ => ⟨q, e, sqT_up (bt.sq hm12) h⟩
      have lu : us.length = e.2.length := PySem.Paired.length each
      have l8 := c8 e he_mv
      refine ⟨rfl, _, rfl, y, us, e.2.map keyOf, rfl, row2, paired_keys each2, by omega, fun p L hp nd mem => ⟨p, L, rfl, upd_same, ?_⟩⟩
      have sp1 := same_upd (o := SetTs P w p L) hp
      have ll : L.length = e.2.length := by
        have h := (unlike_len (l := e.2.map keyOf) nd fun k => mem k).2 (keys_nodup (R.outsU e he_mv))
        rw [List.length_map, List.length_map] at h
        exact h
      refine ⟨_, rfl, y, us, rfl, row_up sp1 row2, rfl, _, rfl, iteNS (by rw [ll, lu]) ?_⟩
      exact ⟨sp1 _ _ hma, bt.trans (But.of sp1), sp1 _ _ hd⟩
    rintro Ha ⟨hma, bt, hd⟩
    have sb6 := bt.back hm12
    refine ⟨hma, false, .inl ⟨[], .of (by rw [upd_ne nm6.symm]; exact hd), rfl⟩, iteF ?_⟩
    generalize hH13 : upd Ha m _ = H13
    have s13 : Same H12 H13 := by rw [← hH13]; exact sb6
    have s13H : Same H H13 := fun b o z => s13 b o (s12H b o z)
    clear hH13 sb6 hd bt hma free6 nm6 hD6
    have hm13 := s13H m _ hm
    have M13 := moves_up (Q9.Same.sq s13H) M
    -- the own moves
    refine ⟨_, rfl, _, rfl, m, .dT kvs, hm13, trivial, fun od7 => ⟨_, rfl, m, od7, kvs, rfl, upd_same, fun D7 hD7 => ?_⟩⟩
    have nm7 : m ≠ D7 := ne_of_none upd_same hD7
    have free7 : H13 D7 = none := by rw [upd_ne nm7.symm] at hD7; exact hD7
    refine coll_it walk_itemsT (fun i H' => H' m = some (.frz od7 (.dT kvs)) ∧ But m H13 H' ∧ ∃ (kvs' : List (List Key × V)) (mvs : Mv), H' D7 = some (.dT kvs') ∧ kvs'.map (·.1) = (kvs.take i).map (·.1) ∧ Paired (TupE K H') kvs' mvs ∧ Paired SortOf mvs (mv.take i)) ?_ (fun i H' _ p => p.1) ?_ ?_
    · exact ⟨by rw [upd_ne nm7]; exact upd_same, fun b o ne e => by rw [upd_ne (ne_of_none e free7), upd_ne ne]; exact e, [], [], upd_same, by simp, .nil, by simp; exact .nil⟩
    · rintro i y Ha Hb hi ⟨hma, bt, kvs', mvs, hd, ekeys, tups, so⟩ ⟨Tq, k0, v, q0, hk, rfl, hT, hq, rfl⟩
      obtain ⟨e, hev, ek, us, row, each⟩ := paired_at M13.ent i _ hk
      simp only at ek
      subst ek
      have he_mv := List.mem_of_getElem? hev
      have sT := same_upd (o := .tup [.ref q0, v]) hT
      have row2 := row_up sT (row_sq (bt.sq hm13) row)
      obtain ⟨ps, eps, eos, hps⟩ := outs_ps2 each
      have hps2 : ∀ p ∈ ps, SqT K (upd Ha Tq (.tup [.ref q0, v])) p.1 [.str p.2.1, .str p.2.2] := fun p hp => same_sqT sT (sqT_up (bt.sq hm13) (hps p hp))
      rw [eps] at row2
      refine ⟨Tq, _, rfl, .of upd_same, rfl, _, _, rfl, _, _, rfl, rfl, rfl, ?_⟩
      refine ⟨_, rfl, _, rfl, v, ps, rfl, row2, hps2, fun qs p pm up hp => ⟨p, _, rfl, .inl ⟨.of upd_same, fun l hl => ?_⟩⟩⟩
      have sp1 := same_upd (o := .lst ((qs.map (·.1)).map V.ref)) hp
      have sl := same_upd (o := .tup ((qs.map (·.1)).map V.ref)) hl
      generalize hHc : upd (upd (upd Ha Tq (.tup [.ref q0, v])) p _) l _ = Hc
      have sc : Same Ha Hc := by rw [← hHc]; exact fun b o z => sl b o (sp1 b o (sT b o z))
      have hlc : Hc l = some (.tup ((qs.map (·.1)).map V.ref)) := by rw [← hHc]; exact upd_same
      have hqs : ∀ x ∈ qs, SqT K Hc x.1 [.str x.2.1, .str x.2.2] := fun x hx => by
        rw [← hHc]
        exact same_sqT sl (same_sqT sp1 (hps2 x (pm.mem_iff.mp hx)))
      have lk : kvs'.length ≤ 1000000 := by
        have h := congrArg List.length ekeys
        rw [List.length_map, List.length_map, List.length_take] at h
        omega
      refine ⟨q0, [.inr e.1.1, .inr e.1.2], kvs', rfl, sc _ _ hq, sc _ _ hd, sz _ (by omega), ?_⟩
      have nk : valV kvs' [kInr e.1.1, kInr e.1.2] = none := by
        cases c : valV kvs' [kInr e.1.1, kInr e.1.2] with
        | none => rfl
        | some u =>
          unfold valV at c
          obtain ⟨kv, g1, g2⟩ := Option.map_eq_some_iff.mp c
          have g3 := List.mem_of_find?_eq_some g1
          have g4 : kv.1 = [kInr e.1.1, kInr e.1.2] := by simpa using List.find?_some g1
          have g5 : [kInr e.1.1, kInr e.1.2] ∈ (kvs.take i).map (·.1) := by rw [← ekeys, ← g4]; exact List.mem_map.mpr ⟨kv, g3, rfl⟩
          have nd := M.nd
          have e1 : kvs.take (i + 1) = kvs.take i ++ [([kInr e.1.1, kInr e.1.2], v)] := take_one_more hk
          have nd1 : ((kvs.take (i + 1)).map (·.1)).Nodup := by rw [List.map_take]; exact List.Sublist.nodup (List.take_sublist _ _) nd
          rw [e1, List.map_append, List.nodup_append] at nd1
          exact (nd1.2.2 _ g5 _ (List.mem_singleton.mpr rfl) rfl).elim
      have upE : ∀ x ∈ kvs', True := fun _ _ => trivial
      have ne7 : ∀ {b : Addr} {xs : List V}, Hc b = some (.tup xs) → b ≠ D7 := fun {b xs} h z => by rw [z, sc _ _ hd] at h; cases h
      have butD : ∀ u, But D7 Hc (upd Hc D7 u) := fun u => But.upd
      have tupsC : Paired (TupE K Hc) kvs' mvs := L2.Paired.mapP tups fun _ _ h => tupE_but (D := D7) (But.of sc) hd h
      refine ⟨by rw [upd_ne nm7]; exact sc _ _ hma, fun b o ne z => ?_, _, mvs ++ [(e.1, qs.map (·.2))], upd_same, ?_, ?_, ?_⟩
      · rw [upd_ne (ne_of_none z free7)]
        exact sc _ _ (bt b o ne z)
      · rw [putK_new _ nk, List.map_append, ekeys, take_one_more hk, List.map_append]
        rfl
      · rw [putK_new _ nk]
        refine paired_append (L2.Paired.mapP tupsC fun _ _ h => tupE_but (butD _) (sc _ _ hd) h) (.cons ?_ .nil)
        exact tupE_but (butD _) (sc _ _ hd) (show TupE K Hc ([kInr e.1.1, kInr e.1.2], .ref l) (e.1, qs.map (·.2)) from ⟨rfl, l, _, rfl, hlc, paired_outs hqs⟩)
      · rw [take_one_more hev]
        refine paired_append so (.cons ⟨rfl, ?_, up⟩ .nil)
        rw [← eos]
        exact pm.map _
    rintro Ha ⟨hma, bt, kvs', mvs, hd, ekeys, tups, so⟩
    rw [List.take_length] at ekeys
    rw [len, List.take_length] at so
    have sb7 := bt.back hm13
    have nd' : (kvs'.map (·.1)).Nodup := by rw [ekeys]; exact M.nd
    refine ⟨hma, (by show 3 ≤ sizeLine; decide), fun t nt => ?_⟩
    rcases way with ⟨_, right⟩ | ⟨nf, _⟩
    case inr =>
      exact (nf ⟨c8, fun ys nd sub => Nat.le_trans (nodup_le ys ss nd fun z hz => (tS.2.2 z).2 (sub z hz)) cb.1, fun zs nd sub => Nat.le_trans (nodup_le zs ms nd fun z hz => (tM.2.2 z).2 (sub z hz)) cb.2⟩).elim
    have st := same_upd (o := .tup [.ref sp, .ref mp, .ref D7]) nt
    have s14 : ∀ b o, H13 b = some o → (upd (upd Ha m (.dT kvs)) t (.tup [.ref sp, .ref mp, .ref D7])) b = some o := fun b o z => st b o (sb7 b o z)
    have hsp14 : H13 sp = some (.lst (ss.map V.str)) := s13 _ _ (s12 _ _ (s11 _ _ (s10 _ _ hsp)))
    have hmp14 : H13 mp = some (.lst (ms.map V.str)) := s13 _ _ (s12 _ _ (s11 _ _ hmp))
    refine right _ t sp mp D7 ss ms kvs' mvs (fun b o z => s14 b o (s13H b o z)) upd_same (s14 _ _ hsp14) tS (s14 _ _ hmp14) tM (st _ _ (by rw [upd_ne nm7.symm]; exact hd)) ?_ nsH nmH (by
      cases z : H D7 with
      | none => rfl
      | some o => rw [s13H _ _ z] at free7; cases free7)
    refine own_of nd' ?_ so c8
    have hmT : Ha m = some (.frz od7 (.dT kvs)) := hma
    refine L2.Paired.mapP tups fun kv e h => ?_
    obtain ⟨e1, t1, us, e2, e3, p⟩ := h
    have n1 : t1 ≠ m := fun z => by rw [z, hma] at e3; cases e3
    refine ⟨e1, t1, us, e2, st _ _ (by rw [upd_ne n1]; exact e3), L2.Paired.mapP p fun _ _ ⟨q, e, g⟩ => ⟨q, e, same_sqT st ?_⟩⟩
    rcases g with (g | ⟨o, g⟩) | g
    · exact .inl (.inl (by rw [upd_ne (fun z => by rw [z, hma] at g; cases g)]; exact g))
    · exact .inl (.inr ⟨o, by rw [upd_ne (fun z => by rw [z, hma] at g; cases g)]; exact g⟩)
    · exact .inr g
end
end Q9
end
-- QFldT
section
set_option maxRecDepth 100000
set_option maxHeartbeats 4000000
/-! o.f as a target among others -/
namespace Q9
open PySem L2
section
variable {X : Cx}
def gFld (K : PySem.W.Frag) (ta : TE) (f : Str) : TG := fun v σ H Q => ta σ H fun x H2 => ∃ a C dx fs, x = .ref a ∧ H2 a = some (.ins C dx fs) ∧ Cls K C ∧ NoAttr K C f ∧ fs.length < 1000 ∧ Q σ (upd H2 a (.ins C dx (putF f v fs)))
theorem pg_fld {o : Expr} {f : Str} {ta : TE} {pos : Pos} (ha : PE X o ta) : PG X (.Attribute o f pos) (gFld X.K ta f) := by
  refine ⟨fun pins s σ H v u Q I r h => ?_⟩
  rw [assign_Attribute]
  refine wpAny_bind (wpAny_holding (thn (ha.run pins s σ H _ I h) fun ov s2 ⟨x, H2, I2, rx, a, C, dx, fs, ex, ea, c, n, l, q2⟩ => ?_))
  subst ex
  obtain rfl : ov = Value.ref a := rx
  refine wpAny_bind (wpAny_standAt (wpAny_bind (wpAny_holding (setattr_ok I2 ea c n l r fun s3 I3 => ?_))))
  exact wpAny_release ⟨σ, _, I3, q2⟩
end
end Q9
end
-- QInit
section
set_option maxRecDepth 100000
set_option maxHeartbeats 4000000
namespace Q9
open PySem L2
/-- right parts are let by -/
def spCheckP (K : PySem.W.Frag) : Sp := fun vs H Q _ => ∃ (nm st : Str) (ex : V) (es : List Str), vs = [.str nm, .str st, ex] ∧ Row K H ex (es.map V.str) ∧ nameB nm = true ∧ nameB st = true ∧ (∀ z ∈ es, nameB z = true) ∧ es.Nodup ∧ es.length + 1 < scanBound ∧ ∀ H', Same H H' → Q .non H'
structure TCheckP (K : PySem.W.Frag) (mg : Str → Option Value) (fName fUn : Addr) : Prop where
  gN : mg "is_name" = some (.ref fName)
  kN : PySem.W.keepIn K (.ref fName) = true
  gU : mg "are_unlike_names" = some (.ref fUn)
  kU : PySem.W.keepIn K (.ref fUn) = true
structure TInit (K : PySem.W.Frag) (mg : Str → Option Value) (C fC fRd : Addr) : Prop where
  gC : mg "_check_parts" = some (.ref fC)
  kC : PySem.W.keepIn K (.ref fC) = true
  gR : mg "_read_moves" = some (.ref fRd)
  kR : PySem.W.keepIn K (.ref fRd) = true
  tup : mg "tuple" = none
  sorted : mg "sorted" = none
  cl : Cls K C
  nN : NoAttr K C "_name"
  nS : NoAttr K C "_start"
  nE : NoAttr K C "_ends"
  nSt : NoAttr K C "_states"
  nMe : NoAttr K C "_methods"
  nM : NoAttr K C "_moves"
abbrev initN : List Str := ["self", "name", "start", "ends", "moves"]
/-- a kind with the places of what is its own -/
structure KAf (C : Addr) (K : PySem.W.Frag) (s me m : Addr) (H : Hp) (x : Addr) (nm st : Str) (es : List Str) (mv : Mv) : Prop where
  ex : ∃ (dx e : Addr) (ys ss ms : List Str) (kvs : List (List Key × V)) (mvs : Mv), H x = some (.ins C dx (kflds nm st e s me m)) ∧ H e = some (.tup (ys.map V.str)) ∧ ys.Perm es ∧ Up ys ∧ H s = some (.lst (ss.map V.str)) ∧ Told (statesIn st es mv) ss ∧
    H me = some (.lst (ms.map V.str)) ∧ Told (methodsIn mv) ms ∧ H m = some (.dT kvs) ∧ OwnMv K H kvs mvs mv
  small : Small st es mv
  fits : Fits st es mv
  nd : (mv.map (·.1)).Nodup
theorem KAf.kac {C : Addr} {K : PySem.W.Frag} {s me m : Addr} {H : Hp} {x : Addr} {nm st : Str} {es : List Str} {mv : Mv} (h : KAf C K s me m H x nm st es mv) : KAc C K H x nm st es mv := by
  obtain ⟨⟨dx, e, ys, ss, ms, kvs, mvs, r⟩, a, b, c⟩ := h
  exact ⟨⟨dx, e, s, me, m, ys, ss, ms, kvs, mvs, r⟩, a, b, c⟩
/-- what is no list and no dict stands -/
def SameN (H H' : Hp) : Prop := ∀ b o, H b = some o → (∀ xs, o ≠ .lst xs) → (∀ kvs, o ≠ .dT kvs) → H' b = some o
theorem sqT_n {K : PySem.W.Frag} {H H' : Hp} (s : SameN H H') {q : Addr} {xs : List V} (h : SqT K H q xs) : SqT K H' q xs := by
  rcases h with (h | ⟨o', h⟩) | h
  · exact .inl (.inl (s _ _ h (fun _ z => nomatch z) (fun _ z => nomatch z)))
  · exact .inl (.inr ⟨o', s _ _ h (fun _ z => nomatch z) (fun _ z => nomatch z)⟩)
  · exact .inr h
theorem KAf.up {C : Addr} {K : PySem.W.Frag} {s me m : Addr} {H H' : Hp} {x : Addr} {nm st : Str} {es : List Str} {mv : Mv} (n : SameN H H') (a : ∀ b, (b = s ∨ b = me ∨ b = m) → ∀ o, H b = some o → H' b = some o) (h : KAf C K s me m H x nm st es mv) : KAf C K s me m H' x nm st es mv := by
  obtain ⟨⟨dx, e, ys, ss, ms, kvs, mvs, h1, h2, h3, h4, h5, t5, h6, t6, h7, O⟩, p, q, r⟩ := h
  refine ⟨⟨dx, e, ys, ss, ms, kvs, mvs, n _ _ h1 (fun _ z => nomatch z) (fun _ z => nomatch z), n _ _ h2 (fun _ z => nomatch z) (fun _ z => nomatch z), h3, h4, a _ (.inl rfl) _ h5, t5, a _ (.inr (.inl rfl)) _ h6, t6, a _ (.inr (.inr rfl)) _ h7, O.nd, ?_, O.eqm, O.outs, O.up, O.len⟩, p, q, r⟩
  exact L2.Paired.mapP O.tups fun _ _ ⟨e, t, vs, e1, e2, p⟩ => ⟨e, t, vs, e1, n _ _ e2 (fun _ z => nomatch z) (fun _ z => nomatch z), L2.Paired.mapP p fun _ _ ⟨q, e, g⟩ => ⟨q, e, sqT_n n g⟩⟩
def spKindF (C CB : Addr) (K : PySem.W.Frag) : Sp := fun vs H Q E => ∃ (x dx m : Addr) (nm st : Str) (ex : V) (es : List Str) (kvs : List (List Key × V)) (mv : Mv), vs = [.ref x, .str nm, .str st, ex, .ref m] ∧
  H x = some (.ins C dx []) ∧ H dx = some (.own x) ∧ Row K H ex (es.map V.str) ∧ H m = some (.dT kvs) ∧ Moves K H kvs mv ∧ RightParts nm st es mv ∧ Small st es mv ∧
  ((Fits st es mv ∧ ∀ (H' : Hp) (s me d : Addr), But x H H' → KAf C K s me d H' x nm st es mv → H s = none → H me = none → H d = none → Q .non H') ∨ (¬ Fits st es mv ∧ ∀ (H' : Hp) (d : Addr), But x H H' → H d = none → H' d = some (.xd [("part", .str "moves")]) → E (.ref CB) (some d) H'))
section
variable {P : Program} {w : World} {K : PySem.W.Frag} {mg : Str → Option Value} {base : Heap} {C CB fC fRd fName fUn fI : Addr}
theorem scCP : FnScope ["name", "start", "ends"] ["name", "start", "ends"] (defScope sCheckP) := ⟨rfl, rfl, rfl, by decide +kernel, rfl, by decide +kernel, by decide +kernel⟩
theorem ok_checkP {f : Addr} {fd dN dU dI : FuncData} (F : Fun K "_check_parts" "_check_parts" sCheckP f fd) (T : TCheckP K mg fName fUn) (TE : TErr K mg "BadKind" "part" CB fI)
    (GI : FnOk P w K mg base CX0 1 fI dI ["self", "part"] (spErrI CB "part")) (bI : Binds K dI ["self", "part"] [])
    (GN : FnOk P w K mg base CX0 2 fName dN ["thing"] (spForm K nameB)) (bN : Binds K dN ["thing"] []) (GU : FnOk P w K mg base CX0 3 fUn dU ["thing"] (spUnlike K nameB)) (bU : Binds K dU ["thing"] []) :
    FnOk P w K mg base (L2.CX P w) 4 f fd ["name", "start", "ends"] (spCheckP K) := by
  refine F.okX scCP (fun vs H Q E h => ?_) (fun cdv A outer s H vs Q E hr h => ?_)
  · obtain ⟨nm, st, ex, es, rfl, _⟩ := h
    rfl
  · obtain ⟨nm, st, ex, es, rfl, row, n1, n2, n3, un, few, q⟩ := h
    refine ⟨_, pss_cons (ps_if (pt_not (pt_val (pe_call GN (hr.mono (by decide)) (by rfl) T.gN T.kN bN .nil pass0 (pa_cons (pv 0) pa_nil)))) (pss_one (ps_raise rfl (takes_of rfl rfl rfl rfl) (pmk_oex TE.ox TE.iC TE.tI GI (hr.mono (by omega)) bI .nil pass0 (by rfl) TE.gC (pa_cons pe_str pa_nil)))) pss_nil)
      (pss_cons (ps_if (pt_not (pt_val (pe_call GN (hr.mono (by decide)) (by rfl) T.gN T.kN bN .nil pass0 (pa_cons (pv 1) pa_nil)))) (pss_one (ps_raise rfl (takes_of rfl rfl rfl rfl) (pmk_oex TE.ox TE.iC TE.tI GI (hr.mono (by omega)) bI .nil pass0 (by rfl) TE.gC (pa_cons pe_str pa_nil)))) pss_nil)
      (pss_one (ps_if (pt_not (pt_val (pe_call GU (hr.mono (by decide)) (by rfl) T.gU T.kU bU .nil pass0 (pa_cons (pv 2) pa_nil)))) (pss_one (ps_raise rfl (takes_of rfl rfl rfl rfl) (pmk_oex TE.ox TE.iC TE.tI GI (hr.mono (by omega)) bI .nil pass0 (by rfl) TE.gC (pa_cons pe_str pa_nil)))) pss_nil))), ?_⟩
    refine ⟨_, rfl, .str nm, rfl, .inl ⟨nm, rfl, name_len n1, fun H1 s1 => ⟨_, rfl, ?_⟩⟩⟩
    rw [n1]
    refine iteF ⟨_, rfl, .str st, rfl, .inl ⟨st, rfl, name_len n2, fun H2 s2 => ⟨_, rfl, ?_⟩⟩⟩
    rw [n2]
    have s12 : Same H H2 := fun b o z => s2 b o (s1 b o z)
    refine iteF ⟨_, rfl, ex, es, rfl, row_up s12 row, fun z hz => name_len (n3 z hz), few, fun H3 s3 => ⟨_, rfl, ?_⟩⟩
    have e : (es.all nameB && decide es.Nodup) = true := by rw [decide_eq_true un, Bool.and_true, List.all_eq_true]; exact n3
    rw [e]
    exact iteF (q H3 fun b o z => s3 b o (s12 b o z))
theorem butIns {H H' : Hp} {x dx C : Addr} {fs : List (Str × V)} (b : But x H H') (hx : H x = some (.ins C dx fs)) : SameSq H H' := by
  have ne : ∀ c o, H c = some o → o ≠ .ins C dx fs → c ≠ x := fun c o e n z => by
    rw [z, hx] at e
    exact n (Option.some.inj e).symm
  exact ⟨fun c xs e => b c _ (ne c _ e fun z => nomatch z) e, fun c xs e => b c _ (ne c _ e fun z => nomatch z) e, fun c o u e => b c _ (ne c _ e fun z => nomatch z) e⟩
theorem ownMv_sq {K : PySem.W.Frag} {H H' : Hp} (keep : ∀ t vs, H t = some (.tup vs) → H' t = some (.tup vs)) (s : SameSq H H') {kvs : List (List Key × V)} {mvs mv : Mv} (h : OwnMv K H kvs mvs mv) : OwnMv K H' kvs mvs mv :=
  ⟨h.nd, L2.Paired.mapP h.tups fun _ _ ⟨e, t, vs, e1, e2, p⟩ => ⟨e, t, vs, e1, keep _ _ e2, L2.Paired.mapP p fun _ _ ⟨q, e, g⟩ => ⟨q, e, sqT_up s g⟩⟩, h.eqm, h.outs, h.up, h.len⟩
theorem keys_nodup_of {K : PySem.W.Frag} {H : Hp} {kvs : List (List Key × V)} {mvs : Mv} (M : Moves K H kvs mvs) : (mvs.map (·.1)).Nodup := by
  have e : kvs.map (·.1) = mvs.map fun e => keyOf e.1 := by
    have key : ∀ {kvs : List (List Key × V)} {mvs : Mv}, Paired (EntT K H) kvs mvs → kvs.map (·.1) = mvs.map fun e => keyOf e.1 := by
      intro kvs mvs p
      induction p with
      | nil => rfl
      | @cons kv e a b h t ih => rw [List.map_cons, List.map_cons, ih, h.1]; rfl
    exact key M.ent
  have nd := M.nd
  rw [e] at nd
  refine List.pairwise_map.mpr (List.Pairwise.imp (fun {a b} ne e => ne ?_) (List.pairwise_map.mp nd))
  rw [e]
theorem putF_le {f : Str} {v : V} {fs : List (Str × V)} {n : Nat} (h : fs.length ≤ n) : (putF f v fs).length ≤ n + 1 := Nat.le_trans (length_putF f v fs) (Nat.succ_le_succ h)
theorem scK0 : FnScope initN kindPs (defScope (kMeth 0)) := ⟨rfl, rfl, rfl, by decide +kernel, rfl, by decide +kernel, by decide +kernel⟩
theorem ok_initF {f : Addr} {fd dC dR : FuncData} (F : Fun K "__init__" "Kind.__init__" (kMeth 0) f fd) (T : TInit K mg C fC fRd) (G : FnOk P w K mg base (L2.CX P w) 4 fC dC ["name", "start", "ends"] (spCheckP K)) (b : Binds K dC ["name", "start", "ends"] [])
    (GR : FnOk P w K mg base (L2.CX P w) 5 fRd dR ["moves", "start", "ends"] (spRead CB K)) (bR : Binds K dR ["moves", "start", "ends"] []) :
    FnOk P w K mg base (L2.CX P w) 6 f fd kindPs (spKindF C CB K) := by
  refine F.okX scK0 (fun vs H Q E h => ?_) (fun cdv A outer s H vs Q E hr h => ?_)
  · obtain ⟨x, dx, m, nm, st, ex, es, kvs, mv, rfl, _⟩ := h
    rfl
  · obtain ⟨x, dx, m, nm, st, ex, es, kvs, mv, rfl, hx, hd, he, hm, M, R, S, way⟩ := h
    refine ⟨_, pss_cons (ps_expr (pe_call G (hr.mono (by decide)) (by rfl) T.gC T.kC b .nil pass0X (pa_cons (pv 1) (pa_cons (pv 2) (pa_cons (pv 3) pa_nil)))))
      (pss_cons (ps_fld (pv 0) (pv 1) rfl)
      (pss_cons (ps_fld (pv 0) (pv 2) rfl)
      (pss_cons (ps_fld (pv 0) (pe_callTy cr_tupOf (by rfl) T.tup (by decide +kernel) (pa_cons (pe_callB cr_sortedRs (by rfl) T.sorted (by decide +kernel) (pa_cons (pv 3) pa_nil)) pa_nil)) rfl)
      (pss_one (ps_asg (pe_callS GR hr (by rfl) T.gR T.kR bR (fun σ => passAt (takes_of rfl rfl rfl rfl) σ) (pa_cons (pv 4) (pa_cons (pv 2) (pa_cons (pv 3) pa_nil))))
        (pg_tup rfl (pgs_cons (pg_fld (pv 0)) (pgs_cons (pg_fld (pv 0)) (pgs_cons (pg_fld (pv 0)) pgs_nil))))))))), ?_⟩
    have fewE : es.length + 1 < scanBound := by
      have h := S.states (es.map kInr) ((nodup_map_inr es).2 R.unlike) fun k hk => by
        obtain ⟨z, h1, h2⟩ := List.mem_map.mp hk
        exact List.mem_map.mpr ⟨z, mem_states.mpr (.inr (.inl h1)), h2⟩
      rwa [List.length_map] at h
    refine ⟨_, rfl, _, rfl, _, rfl, nm, st, ex, es, rfl, he, R.name, R.start, R.ends, R.unlike, fewE, fun H1 s1 => ?_⟩
    refine ⟨_, rfl, _, rfl, x, C, dx, _, rfl, s1 _ _ hx, T.cl, T.nN, by decide, ?_⟩
    refine ⟨_, rfl, _, rfl, x, C, dx, _, rfl, upd_same, T.cl, T.nS, Nat.lt_of_le_of_lt (putF_le (Nat.le_refl _)) (by decide), ?_⟩
    generalize hH2 : upd (upd H1 x _) x _ = H2
    have b2 : But x H H2 := by rw [← hH2]; exact fun b o ne z => by rw [upd_ne ne, upd_ne ne]; exact s1 b o z
    have hx2 : H2 x = some (.ins C dx (putF "_start" (.str st) (putF "_name" (.str nm) []))) := by rw [← hH2]; exact upd_same
    clear hH2
    refine ⟨_, rfl, ex, es, rfl, row_sq (butIns b2 hx) he, fun ys p pm up hp => ⟨p, _, rfl, .inl ⟨.of upd_same, fun l hl => ?_⟩⟩⟩
    have sp := same_upd (o := .lst (ys.map V.str)) hp
    have sl := same_upd (o := .tup (ys.map V.str)) hl
    have hx3 : upd (upd H2 p (.lst (ys.map V.str))) l (.tup (ys.map V.str)) x = some (.ins C dx (putF "_start" (.str st) (putF "_name" (.str nm) []))) := sl _ _ (sp _ _ hx2)
    refine ⟨_, rfl, x, C, dx, _, rfl, hx3, T.cl, T.nE, Nat.lt_of_le_of_lt (putF_le (putF_le (Nat.le_refl _))) (by decide), ?_⟩
    have nlx : l ≠ x := fun z => by rw [← z] at hx2; rw [sp _ _ hx2] at hl; cases hl
    generalize hH4 : upd (upd (upd H2 p (.lst (ys.map V.str))) l (.tup (ys.map V.str))) x _ = H4
    have b4 : But x H H4 := by rw [← hH4]; exact fun b o ne z => by rw [upd_ne ne]; exact sl _ _ (sp _ _ (b2 b o ne z))
    have hx4 : H4 x = some (.ins C dx (putF "_ends" (.ref l) (putF "_start" (.str st) (putF "_name" (.str nm) [])))) := by rw [← hH4]; exact upd_same
    have hl4 : H4 l = some (.tup (ys.map V.str)) := by rw [← hH4, upd_ne nlx]; exact upd_same
    clear hH4 hx3 sp sl hl hp
    have nmx : m ≠ x := fun z => by rw [z, hx] at hm; cases hm
    have sq4 := butIns b4 hx
    refine ⟨_, rfl, _, rfl, _, rfl, m, nm, st, ex, es, kvs, mv, rfl, row_sq sq4 he, b4 _ _ nmx hm, moves_up sq4 M, R, S, ?_⟩
    rcases way with ⟨ft, right⟩ | ⟨nf, wrong⟩
    · refine .inl ⟨ft, fun H5 t s5 me d ss ms kvs' mvs sm ht hs tS hme tM hd5 own f1 f2 f3 => ?_⟩
      have hx5 := sm _ _ hx4
      have hl5 := sm _ _ hl4
      refine ⟨t, _, rfl, .of ht, rfl, _, _, rfl, ⟨_, rfl, x, C, dx, _, rfl, hx5, T.cl, T.nSt, Nat.lt_of_le_of_lt (putF_le (putF_le (putF_le (Nat.le_refl _)))) (by decide), _, _, rfl, ⟨_, rfl, x, C, dx, _, rfl, upd_same, T.cl, T.nMe, Nat.lt_of_le_of_lt (putF_le (putF_le (putF_le (putF_le (Nat.le_refl _))))) (by decide), _, _, rfl, ⟨_, rfl, x, C, dx, _, rfl, upd_same, T.cl, T.nM, Nat.lt_of_le_of_lt (putF_le (putF_le (putF_le (putF_le (putF_le (Nat.le_refl _)))))) (by decide), rfl, ?_⟩⟩⟩⟩
      have old : ∀ {b : Addr}, H4 b = none → H b = none := fun {b} h => by
        cases z : H b with
        | none => rfl
        | some o =>
          by_cases c : b = x
          · rw [c, hx4] at h; cases h
          · rw [b4 _ _ c z] at h; cases h
      have far : ∀ {b : Addr} {o : HO}, H5 b = some o → (∀ cx fs, o ≠ .ins C cx fs) → b ≠ x := fun {b o} h n z => by
        rw [z, hx5] at h
        exact n _ _ (Option.some.inj h).symm
      have keep : ∀ {b : Addr} {o : HO} (u1 u2 u3 : HO), H5 b = some o → (∀ cx fs, o ≠ .ins C cx fs) → upd (upd (upd H5 x u1) x u2) x u3 b = some o := fun {b o} u1 u2 u3 h n => by
        have ne := far h n
        rw [upd_ne ne, upd_ne ne, upd_ne ne]
        exact h
      refine right _ s5 me d (fun b o ne z => by rw [upd_ne ne, upd_ne ne, upd_ne ne]; exact sm b o (b4 b o ne z)) ⟨⟨dx, l, ys, ss, ms, kvs', mvs, upd_same, keep _ _ _ hl5 (fun _ _ z => nomatch z), pm, up, keep _ _ _ hs (fun _ _ z => nomatch z), tS, keep _ _ _ hme (fun _ _ z => nomatch z), tM, keep _ _ _ hd5 (fun _ _ z => nomatch z), ?_⟩, S, ft, keys_nodup_of M⟩ (old f1) (old f2) (old f3)
      have b5 : ∀ u1 u2 u3 : HO, But x H5 (upd (upd (upd H5 x u1) x u2) x u3) := fun u1 u2 u3 b o ne z => by rw [upd_ne ne, upd_ne ne, upd_ne ne]; exact z
      exact ownMv_sq (fun t vs h => keep _ _ _ h (fun _ _ z => nomatch z)) (butIns (b5 _ _ _) hx5) own
    · refine .inr ⟨nf, fun H5 d sm hn at_ => ?_⟩
      refine wrong H5 d (fun b o ne z => sm b o (b4 b o ne z)) ?_ at_
      cases h : H d with
      | none => rfl
      | some o =>
        by_cases c : d = x
        · rw [c, hx4] at hn; cases hn
        · rw [b4 _ _ c h] at hn; cases hn
theorem ok_init {f : Addr} {fd dC dR : FuncData} (F : Fun K "__init__" "Kind.__init__" (kMeth 0) f fd) (T : TInit K mg C fC fRd) (G : FnOk P w K mg base (L2.CX P w) 4 fC dC ["name", "start", "ends"] (spCheckP K)) (b : Binds K dC ["name", "start", "ends"] [])
    (GR : FnOk P w K mg base (L2.CX P w) 5 fRd dR ["moves", "start", "ends"] (spRead CB K)) (bR : Binds K dR ["moves", "start", "ends"] []) :
    FnOk P w K mg base (L2.CX P w) 6 f fd kindPs (spKindI C CB K (KAc C K)) := by
  refine (ok_initF F T G b GR bR).imp ?_
  rintro vs H Q E ⟨x, dx, m, nm, st, ex, es, kvs, mv, a, b, c, d, e, g, h, i, way⟩
  refine ⟨x, dx, m, nm, st, ex, es, kvs, mv, a, b, c, d, e, g, h, i, way.imp (fun ⟨ft, r⟩ => ⟨ft, fun H' s me d bt kf _ _ _ => r H' bt kf.kac⟩) id⟩
end
end Q9
end
-- QRdG
section
set_option maxRecDepth 100000
set_option maxHeartbeats 4000000
namespace Q9
open PySem L2
/-! moves whose outcomes are tuples or lists -/
def OutG (K : PySem.W.Frag) (H : Hp) (v : V) (o : Str × Str) : Prop := ∃ q, v = .ref q ∧ (SqL K H q [.str o.1, .str o.2] ∨ SqT K H q [.str o.1, .str o.2])
def OutsG (K : PySem.W.Frag) (H : Hp) (v : V) (os : List (Str × Str)) : Prop := ∃ vs, Row K H v vs ∧ Paired (OutG K H) vs os
def EntG (K : PySem.W.Frag) (H : Hp) (kv : List Key × V) (e : (Str × Str) × List (Str × Str)) : Prop := kv.1 = [.inr e.1.1, .inr e.1.2] ∧ OutsG K H kv.2 e.2
structure MovesG (K : PySem.W.Frag) (H : Hp) (kvs : List (List Key × V)) (mv : Mv) : Prop where
  nd : (kvs.map (·.1)).Nodup
  ent : Paired (EntG K H) kvs mv
theorem Moves.g {K : PySem.W.Frag} {H : Hp} {kvs : List (List Key × V)} {mv : Mv} (M : Moves K H kvs mv) : MovesG K H kvs mv :=
  ⟨M.nd, L2.Paired.mapP M.ent fun _ _ ⟨e, vs, r, p⟩ => ⟨e, vs, r, L2.Paired.mapP p fun _ _ ⟨q, e, h⟩ => ⟨q, e, .inr h⟩⟩⟩
theorem outG_up {K : PySem.W.Frag} {H H' : Hp} (s : Same H H') {v : V} {o : Str × Str} (h : OutG K H v o) : OutG K H' v o := by
  obtain ⟨q, e, h⟩ := h
  exact ⟨q, e, h.imp (sqL_up (Q9.Same.sq s)) (sqT_up (Q9.Same.sq s))⟩
theorem outsG_up {K : PySem.W.Frag} {H H' : Hp} (s : Same H H') {v : V} {os : List (Str × Str)} (h : OutsG K H v os) : OutsG K H' v os := by
  obtain ⟨vs, r, p⟩ := h
  exact ⟨vs, row_up s r, L2.Paired.mapP p fun _ _ h => outG_up s h⟩
theorem movesG_up {K : PySem.W.Frag} {H H' : Hp} (s : Same H H') {kvs : List (List Key × V)} {mv : Mv} (M : MovesG K H kvs mv) : MovesG K H' kvs mv :=
  ⟨M.nd, L2.Paired.mapP M.ent fun _ _ ⟨e, h⟩ => ⟨e, outsG_up s h⟩⟩
def spAreRowsG (K : PySem.W.Frag) : Sp := fun vs H Q _ => ∃ (m : Addr) (kvs : List (List Key × V)) (mv : Mv), vs = [.ref m] ∧ H m = some (.dT kvs) ∧ MovesG K H kvs mv ∧ kvs.length ≤ 1000000 ∧
  ∀ H', Same H H' → Q (.bl (decide (∀ e ∈ mv, e.2.length ≤ 8))) H'
/-- those that are tuples, in one list -/
def spPairsG (K : PySem.W.Frag) : Sp := fun vs H Q _ => ∃ (r : Addr) (rows : List V) (oss : List (List (Str × Str))), vs = [.ref r] ∧ SqL K H r rows ∧ Paired (OutsG K H) rows oss ∧ oss.flatten.length ≤ 1000000 ∧
  ∀ (H' : Hp) (p : Addr) (vs : List V), Same H H' → H' p = some (.lst vs) → vs.length ≤ oss.flatten.length → (vs.length = oss.flatten.length → Paired (OutT K H') vs oss.flatten ∧ Paired (OutsT K H') rows oss) → Q (.ref p) H'
theorem sqL_ty {K : PySem.W.Frag} {H : Hp} {a : Addr} {xs : List V} (h : SqL K H a xs) : TyX K H (.ref a) (.type "list") := by
  rcases h with (h | ⟨o, h⟩) | ⟨o, its, n, h1, h2, _⟩
  · exact .base (.lst h)
  · exact .base (.frz h)
  · exact .kList h1 h2
section
variable {P : Program} {w : World} {K : PySem.W.Frag} {mg : Str → Option Value} {base : Heap} {fKey : Addr}
theorem ok_areRowsG {f : Addr} {fd dK : FuncData} (F : Fun K "_are_rows" "_are_rows" sAreRows f fd) (T : TRead K mg fKey) (GK : FnOk P w K mg base CX0 1 fKey dK ["thing"] (spIsKey K)) (bK : Binds K dK ["thing"] []) : FnOk P w K mg base CX0 2 f fd ["moves"] (spAreRowsG K) := by
  refine F.ok scAR (fun vs H Q E h => ?_) (fun cdv A outer s H vs Q E hr h => ?_)
  · obtain ⟨m, kvs, mv, rfl, _⟩ := h
    rfl
  · obtain ⟨m, kvs, mv, rfl, hm, M, few, q⟩ := h
    obtain ⟨to, ho⟩ := T.outcomes
    refine ⟨_, pss_cons (ps_if (PW.pt (pw_or (pt_not (pt_val (pe_callB call_isi (by rfl) T.isi (by decide +kernel) (pa_cons (pv 0) (pa_cons (pe_bltn (v := .ty "dict") (by rfl) T.dict (by decide +kernel) rfl) pa_nil)))))
        (pw_or1 (pt_not (pt_val (pe_callB (cr_all rfl) (by rfl) T.all (by decide +kernel) (pa_cons
          (pe_lock (pe_lc (own := [("key", 1)]) (g := gName 1) (tt := tYes) rfl scAR.nd (pi_keys (pv 0)) (blkOk_by (own := [("key", 1)]) (N := arN) (sc := defScope sAreRows) (by decide +kernel))
            (fun _ _ _ _ _ => pg_name (i := 1) scAR.nd rfl (.inl rfl)) (fun _ _ _ _ _ => pts_nil) (fun _ _ _ _ _ => pe_call GK hr (by rfl) T.gKey T.kKey bK .nil pass0 (pa_cons (pv 1) pa_nil)))) pa_nil)))))))
        (pss_one (ps_ret pe_bl)) pss_nil)
      (pss_one (ps_ret (pe_notT (pe_lock (pe_lc (own := [("row", 2)]) (g := gName 2) (te := tVar 2) rfl scAR.nd (pi_valuesT (pv 0)) (blkOk_by (own := [("row", 2)]) (N := arN) (sc := defScope sAreRows) (by decide +kernel))
            (fun _ _ _ _ _ => pg_name (i := 2) scAR.nd rfl (.inl rfl))
            (fun _ _ _ _ _ => pts_one (PW.pt (pw_or (pt_not (pt_val (pe_callB (id := "isinstance") (r := rIsiT K) call_isiT (by rfl) T.isi (by decide +kernel) (pa_cons (pv 2) (pa_cons (pe_tup (pa_cons (pe_bltn (v := .ty "list") (by rfl) T.lst (by decide +kernel) rfl) (pa_cons (pe_bltn (v := .ty "tuple") (by rfl) T.tup (by decide +kernel) rfl) pa_nil))) pa_nil)))))
              (pw_or1 (pt_cmpR op_gt (pe_callB (id := "len") (r := rLenRow K) cr_lenRow (by rfl) T.len (by decide +kernel) (pa_cons (pv 2) pa_nil)) (pe_glob (v := .int 8) (by rfl) ho ⟨_, rfl⟩) (nomark _))))))
            (fun _ _ _ _ _ => pv 2)))))), ?_⟩
    refine ⟨_, rfl, _, _, _, _, true, rfl, .ty _, .base (.dT hm), kit_ty (by decide +kernel), true, rfl, iteF ?_⟩
    refine ⟨m, .dT kvs, hm, trivial, fun od => ?_⟩
    refine ⟨_, rfl, m, od, rfl, .inr ⟨kvs, upd_same, fun D hD => ?_⟩⟩
    have len : kvs.length = mv.length := PySem.Paired.length M.ent
    have nmD : m ≠ D := ne_of_none upd_same hD
    have freeD : H D = none := by rw [upd_ne nmD.symm] at hD; exact hD
    refine lc_it walk_keysT (fun i H' => H' m = some (.frz od (.dT kvs)) ∧ But m H H' ∧ H' D = some (.lst ((List.replicate i true).map V.bl))) ?_ (fun i H' _ p => p.1) ?_ ?_
    · exact ⟨by rw [upd_ne nmD]; exact upd_same, fun b o ne e => by rw [upd_ne (ne_of_none e freeD), upd_ne ne]; exact e, upd_same⟩
    · rintro i y H1 H2 hi ⟨hm1, bt, hd⟩ ⟨rfl, k0, v, qa, hk, rfl, hq⟩
      obtain ⟨e, hev, ek, _⟩ := paired_at M.ent i _ hk
      simp only at ek
      subst ek
      have hq' : H2 qa = some (.tup [.str e.1.1, .str e.1.2]) := hq
      refine ⟨rfl, _, rfl, .ref qa, rfl, .inr (.inr ⟨qa, _, _, true, true, rfl, .of hq', txt_yes _, txt_yes _, _, hd, ?_, ?_, fun b o ne z => ?_, ?_⟩)⟩
      · rw [List.length_map, List.length_replicate]; exact ln6 _ (by omega)
      · rw [upd_ne nmD]; exact hm1
      · rw [upd_ne (ne_of_none z freeD)]; exact bt b o ne z
      · rw [upd_same, List.replicate_succ', List.map_append]; rfl
    · rintro H1 ⟨hm1, bt, hd⟩
      have sb := bt.back hm
      refine ⟨hm1, D, _, rfl, .of (by rw [upd_ne nmD.symm]; exact hd), _, rfl, ?_⟩
      have e1 : (List.replicate kvs.length true).all id = true := by rw [List.all_eq_true]; intro x hx; exact (List.mem_replicate.mp hx).2
      rw [e1]
      refine iteF ?_
      generalize hG : upd H1 m (.dT kvs) = G at sb
      have hmG := sb m _ hm
      have MG := movesG_up sb M
      refine ⟨m, .dT kvs, hmG, trivial, fun od2 => ?_⟩
      refine ⟨_, rfl, m, od2, kvs, rfl, upd_same, fun D2 hD2 => ?_⟩
      have nmD2 : m ≠ D2 := ne_of_none upd_same hD2
      have freeD2 : G D2 = none := by rw [upd_ne nmD2.symm] at hD2; exact hD2
      refine lc_it walk_valuesT (fun i H' => H' m = some (.frz od2 (.dT kvs)) ∧ But m G H' ∧ ∃ acc, H' D2 = some (.lst acc) ∧ acc.length ≤ i ∧ (acc = [] ↔ ∀ e ∈ mv.take i, e.2.length ≤ 8)) ?_ (fun i H' _ p => p.1) ?_ ?_
      · exact ⟨by rw [upd_ne nmD2]; exact upd_same, fun b o ne e => by rw [upd_ne (ne_of_none e freeD2), upd_ne ne]; exact e, [], upd_same, Nat.le_refl _, by simp⟩
      · rintro i y H2 H3 hi ⟨hm2, bt2, acc, hacc, la, iff⟩ ⟨rfl, k0, hk⟩
        obtain ⟨e, hev, ek, vs, row, each⟩ := paired_at MG.ent i _ hk
        have row2 := row_sq (bt2.sq hmG) row
        have ll : vs.length = e.2.length := PySem.Paired.length each
        refine ⟨rfl, _, rfl, (by show 2 ≤ sizeLine; decide), fun t ht => ?_⟩
        have st := same_upd (o := .tup [.ty "list", .ty "tuple"]) ht
        have row3 := row_up st row2
        have pr : Paired ClsV [V.ty "list", V.ty "tuple"] [Value.type "list", Value.type "tuple"] := .cons (.ty _) (.cons (.ty _) .nil)
        have isrow : ∃ t0, TyX K (upd H3 t (.tup [.ty "list", .ty "tuple"])) y t0 ∧ PySem.W.kitAny K t0 [Value.type "list", Value.type "tuple"] = some true := by
          rcases row_ty row3 with ty | ty
          · exact ⟨_, ty, kitAny_cons (b := true) (kit_ty (by decide +kernel)) (fun z => nomatch z) fun _ => rfl⟩
          · exact ⟨_, ty, kitAny_cons (b := false) (kit_ty (by decide +kernel)) (fun _ => kitAny_cons (b := true) (kit_ty (by decide +kernel)) (fun z => nomatch z) fun _ => rfl) (fun z => nomatch z)⟩
        obtain ⟨t0, ty, kt⟩ := isrow
        refine ⟨y, t, _, _, _, true, rfl, upd_same, pr, ty, kt, true, rfl, iteF ?_⟩
        refine ⟨_, rfl, y, vs, rfl, row3, _, _, rfl, rfl, _, rfl, ?_⟩
        have bt3 : But m G (upd H3 t (.tup [.ty "list", .ty "tuple"])) := bt2.trans (But.of st)
        have tk1 : ∀ P : (Str × Str) × List (Str × Str) → Prop, (∀ x ∈ mv.take (i + 1), P x) ↔ ((∀ x ∈ mv.take i, P x) ∧ P e) := fun P => by
          rw [take_one_more hev]
          constructor
          · intro h
            exact ⟨fun x hx => h x (List.mem_append_left _ hx), h e (List.mem_append_right _ (List.mem_singleton.mpr rfl))⟩
          · rintro ⟨h1, h2⟩ x hx
            rcases List.mem_append.mp hx with hx | hx
            · exact h1 x hx
            · rw [List.mem_singleton.mp hx]; exact h2
        by_cases c : e.2.length ≤ 8
        · have c1 : decide ((8 : Int) < (vs.length : Int)) = false := decide_eq_false (by omega)
          rw [c1]
          refine iteF ⟨st _ _ hm2, bt3, acc, st _ _ hacc, by omega, ?_⟩
          rw [tk1, iff]
          exact ⟨fun h => ⟨h, c⟩, fun h => h.1⟩
        · have c1 : decide ((8 : Int) < (vs.length : Int)) = true := decide_eq_true (by omega)
          rw [c1]
          refine iteT ⟨_, rfl, acc, st _ _ hacc, ln6 _ (by omega), ?_, fun b o ne z => ?_, _, upd_same, ?_, ?_⟩
          · rw [upd_ne nmD2]; exact st _ _ hm2
          · rw [upd_ne (ne_of_none z freeD2)]; exact bt3 b o ne z
          · rw [List.length_append, List.length_singleton]; omega
          · rw [tk1]
            exact ⟨fun h => absurd h (by simp), fun h => absurd h.2 c⟩
      · rintro H2 ⟨hm2, bt2, acc, hacc, la, iff⟩
        rw [len, List.take_length] at iff
        have sb2 := bt2.back hmG
        refine ⟨hm2, _, .inl ⟨acc, .of (by rw [upd_ne nmD2.symm]; exact hacc), rfl⟩, ?_⟩
        have e2 : (!(!acc.isEmpty)) = decide (∀ e ∈ mv, e.2.length ≤ 8) := by
          rw [Bool.not_not, Bool.eq_iff_iff, List.isEmpty_iff, decide_eq_true_iff]
          exact iff
        rw [e2]
        exact q _ fun b o z => sb2 b o (sb b o z)
theorem ok_pairsG {f : Addr} {fd : FuncData} (F : Fun K "_pairs_of_texts" "_pairs_of_texts" sPairs f fd) (T : TRead K mg fKey) : FnOk P w K mg base CX0 1 f fd ["rows"] (spPairsG K) := by
  refine F.ok scPa (fun vs H Q E h => ?_) (fun cdv A outer s H vs Q E hr h => ?_)
  · obtain ⟨r, rows, oss, rfl, _⟩ := h
    rfl
  · obtain ⟨r, rows, oss, rfl, hr0, each, few, q⟩ := h
    refine ⟨_, pss_one (ps_ret (pe_lc2 (own := [("row", 1), ("one", 2)]) (vs1 := [2]) (g := gName 1) (tt := tYes) (wi1 := iRowB K (tVar 1)) (g1 := gName 2) (te := tVar 2) rfl scPa.nd (pi_list (pv 0)) (blkOk_by (own := [("row", 1), ("one", 2)]) (N := paN) (sc := defScope sPairs) (by decide +kernel)) (by decide)
      (fun _ _ _ _ _ => pg_name (i := 1) scPa.nd rfl (.inl rfl)) (fun _ _ _ _ _ => pts_nil) (fun _ _ _ _ _ => pi_rowB (pv 1)) (fun _ _ _ _ _ => pg_name (i := 2) scPa.nd rfl (.inl rfl))
      (fun _ _ _ _ _ => pts_one (PW.pt (pw_and (pt_val (pe_callB (id := "isinstance") (r := rIsi K) call_isi (by rfl) T.isi (by decide +kernel) (pa_cons (pv 2) (pa_cons (pe_bltn (v := .ty "tuple") (by rfl) T.tup (by decide +kernel) rfl) pa_nil))))
        (pw_and (pt_cmpR op_eq (pe_callB (id := "len") (r := rLenRow K) cr_lenRow (by rfl) T.len (by decide +kernel) (pa_cons (pv 2) pa_nil)) pe_int (nomark _))
        (pw_and (pt_val (pe_callB (id := "isinstance") (r := rIsi K) call_isi (by rfl) T.isi (by decide +kernel) (pa_cons (pe_ix (r := rIxT K) ix_tup (pv 2) pe_int (fun _ _ => rfl)) (pa_cons (pe_bltn (v := .ty "str") (by rfl) T.str (by decide +kernel) rfl) pa_nil))))
        (pw_and1 (pt_val (pe_callB (id := "isinstance") (r := rIsi K) call_isi (by rfl) T.isi (by decide +kernel) (pa_cons (pe_ix (r := rIxT K) ix_tup (pv 2) pe_int (fun _ _ => rfl)) (pa_cons (pe_bltn (v := .ty "str") (by rfl) T.str (by decide +kernel) rfl) pa_nil))))))))))
      (fun _ _ _ _ _ => pv 2))), ?_⟩
    refine ⟨_, rfl, r, rfl, ⟨_, hr0⟩, fun D hD => ?_⟩
    have lr : rows.length = oss.length := PySem.Paired.length each
    have flat : ∀ i, (oss.take i).flatten.length ≤ 1000000 := fun i => by
      refine Nat.le_trans ?_ few
      conv => rhs; rw [← List.take_append_drop i oss, List.flatten_append, List.length_append]
      exact Nat.le_add_right _ _
    refine turns_it (walk_list (xs := rows)) (fun i H' => Same H H' ∧ ∃ vs, H' D = some (.lst vs) ∧ vs.length ≤ (oss.take i).flatten.length ∧ (vs.length = (oss.take i).flatten.length → Paired (OutT K H) vs (oss.take i).flatten ∧ Paired (OutsT K H) (rows.take i) (oss.take i))) ⟨same_upd hD, [], upd_same, by simp, fun _ => ⟨by simp; exact .nil, by simp; exact .nil⟩⟩ (fun i H' _ p => sqL_up (Q9.Same.sq p.1) hr0) ?_ ?_
    · rintro i y H1 H2 hi ⟨s1, vs, hvs, lv, pvs⟩ ⟨rfl, hy⟩
      obtain ⟨os, hos, us, row, eo⟩ := paired_at each i _ hy
      have lu : us.length = os.length := PySem.Paired.length eo
      have fl := flat (i + 1)
      have efl : (oss.take (i + 1)).flatten = (oss.take i).flatten ++ os := by rw [take_one_more hos, List.flatten_append]; simp
      rw [efl, List.length_append] at fl
      refine ⟨rfl, _, rfl, us, H, row, s1, fun J G hG wk => ?_⟩
      refine turns_it wk (fun j H' => Same H H' ∧ ∃ acc, H' D = some (.lst acc) ∧ acc.length ≤ (oss.take i).flatten.length + (os.take j).length ∧ (acc.length = (oss.take i).flatten.length + (os.take j).length → Paired (OutT K H) acc ((oss.take i).flatten ++ os.take j) ∧ Paired (OutsT K H) (rows.take i) (oss.take i) ∧ Paired (OutT K H) (us.take j) (os.take j)))
        ⟨s1, vs, hvs, by simpa using lv, fun h => by
          obtain ⟨a, b⟩ := pvs (by simpa using h)
          exact ⟨by simpa using a, b, by simp; exact .nil⟩⟩ (fun j H' _ p => hG _ p.1) ?_ ?_
      · rintro j y2 H3 H4 hj ⟨s3, acc, hacc, lacc, pacc⟩ ⟨rfl, hy2⟩
        obtain ⟨o, ho, q2, rfl, hq2⟩ := paired_at eo j _ hy2
        have l1 : (os.take (j + 1)).length = (os.take j).length + 1 := by rw [take_one_more ho, List.length_append]; rfl
        have l2 : (os.take j).length ≤ os.length := (List.take_sublist j os).length_le
        rcases hq2 with hq2 | hq2
        · have hx : SqL K H4 q2 [.str o.1, .str o.2] := sqL_up (Q9.Same.sq s3) hq2
          exact ⟨rfl, _, rfl, _, _, _, _, false, rfl, .ty _, sqL_ty hx, kit_ty (by decide +kernel), false, rfl, iteF ⟨s3, acc, hacc, by omega, fun h => by omega⟩⟩
        · have hx := same_sqT s3 hq2
          refine ⟨rfl, _, rfl, _, _, _, _, true, rfl, .ty _, sqT_ty hx, kit_ty (by decide +kernel), true, rfl, iteT ?_⟩
          refine ⟨_, rfl, _, _, rfl, ⟨q2, rfl, .inr hx⟩, rfl, true, rfl, iteT ?_⟩
          refine ⟨_, rfl, q2, _, _, _, rfl, rfl, hx, atI_nat (j := 0) rfl, _, _, _, _, true, rfl, .ty _, .base (.str o.1), kit_ty (by decide +kernel), true, rfl, iteT ?_⟩
          refine ⟨_, rfl, q2, _, _, _, rfl, rfl, hx, atI_nat (j := 1) rfl, _, _, _, _, true, rfl, .ty _, .base (.str o.2), kit_ty (by decide +kernel), true, rfl, iteT ?_⟩
          refine ⟨_, rfl, acc, hacc, ln6 _ (by omega), fun b u z => ?_, _, upd_same, ?_, fun h => ?_⟩
          · rw [upd_ne (ne_of_none z hD)]
            exact s3 b u z
          · rw [List.length_append, l1]
            exact Nat.succ_le_succ lacc
          · rw [List.length_append, l1] at h
            obtain ⟨a, b, c⟩ := pacc (by simp only [List.length_singleton] at h; omega)
            rw [take_one_more ho, take_one_more hy2, ← List.append_assoc]
            exact ⟨paired_append a (.cons ⟨q2, rfl, hq2⟩ .nil), b, paired_append c (.cons ⟨q2, rfl, hq2⟩ .nil)⟩
      · rintro H3 ⟨s3, acc, hacc, lacc, pacc⟩
        rw [lu, List.take_length] at lacc pacc
        refine ⟨s3, acc, hacc, by rw [efl, List.length_append]; exact lacc, fun h => ?_⟩
        rw [efl, List.length_append] at h
        obtain ⟨a, b, c⟩ := pacc h
        rw [List.take_of_length_le (by omega)] at c
        rw [efl, take_one_more hy, take_one_more hos]
        exact ⟨a, paired_append b (.cons ⟨us, row, c⟩ .nil)⟩
    · rintro H1 ⟨s1, vs, hvs, lv, pvs⟩
      rw [lr, List.take_length] at lv pvs
      refine q H1 D vs s1 hvs lv fun h => ?_
      obtain ⟨a, b⟩ := pvs h
      rw [List.take_of_length_le (by omega)] at b
      exact ⟨L2.Paired.mapP a fun _ _ ⟨q, e, h⟩ => ⟨q, e, same_sqT s1 h⟩, L2.Paired.mapP b fun _ _ ⟨vs, r, p⟩ => ⟨vs, row_up s1 r, L2.Paired.mapP p fun _ _ ⟨q, e, h⟩ => ⟨q, e, same_sqT s1 h⟩⟩⟩
end
end Q9
end
-- QWith
section
set_option maxRecDepth 100000
set_option maxHeartbeats 4000000
namespace Q9
open PySem L2
/-! the outcomes as tuples -/
abbrev sWith : Stmt := top 17
def spWithT (K : PySem.W.Frag) : Sp := fun vs H Q _ => ∃ (m : Addr) (kvs : List (List Key × V)) (mv : Mv), vs = [.ref m] ∧ H m = some (.dT kvs) ∧ MovesG K H kvs mv ∧ kvs.length ≤ 1000000 ∧ (∀ e ∈ mv, e.2.length ≤ 1000000) ∧
  ∀ (H' : Hp) (p : Addr) (kvs' : List (List Key × V)), Same H H' → H' p = some (.dT kvs') → Moves K H' kvs' mv → Q (.ref p) H'
abbrev wiN : List Str := ["moves", "key", "one"]
abbrev wiSc : Scope := { kind := .function, names := [(".0", .local), ("key", .local), ("moves", .cell)], isGenerator := false, isCoroutine := false }
abbrev wiSc2 : Scope := { kind := .function, names := [(".0", .local), ("one", .local), ("isinstance", .globalImplicit), ("list", .globalImplicit), ("tuple", .globalImplicit)], isGenerator := false, isCoroutine := false }
theorem sqT_farL {K : PySem.W.Frag} {H H' : Hp} {o q : Addr} {l xs : List V} (ho : H o = some (.lst l)) (b : But o H H') (h : SqT K H q xs) : SqT K H' q xs := by
  rcases h with (h | ⟨o', h⟩) | h
  · exact .inl (.inl (b _ _ (fun z => by rw [z, ho] at h; cases h) h))
  · exact .inl (.inr ⟨o', b _ _ (fun z => by rw [z, ho] at h; cases h) h⟩)
  · exact .inr h
theorem sqT_frz {K : PySem.W.Frag} {H : Hp} {m q : Addr} {od : Obj} {u : HO} {kvs : List (List Key × V)} {xs : List V} (hm : H m = some (.frz od (.dT kvs))) (h : SqT K H q xs) : SqT K (upd H m u) q xs := by
  rcases h with (h | ⟨o', h⟩) | h
  · exact .inl (.inl (by rw [upd_ne (fun z => by rw [z, hm] at h; cases h)]; exact h))
  · exact .inl (.inr ⟨o', by rw [upd_ne (fun z => by rw [z, hm] at h; cases h)]; exact h⟩)
  · exact .inr h
theorem sqL_frz {K : PySem.W.Frag} {H : Hp} {m q : Addr} {od : Obj} {u : HO} {kvs : List (List Key × V)} {xs : List V} (hm : H m = some (.frz od (.dT kvs))) (h : SqL K H q xs) : SqL K (upd H m u) q xs := by
  rcases h with (h | ⟨o', h⟩) | h
  · exact .inl (.inl (by rw [upd_ne (fun z => by rw [z, hm] at h; cases h)]; exact h))
  · exact .inl (.inr ⟨o', by rw [upd_ne (fun z => by rw [z, hm] at h; cases h)]; exact h⟩)
  · exact .inr h
theorem dT_sq {H H' : Hp} {D : Addr} {kvs : List (List Key × V)} (h : H D = some (.dT kvs)) (b : But D H H') : SameSq H H' := b.sq h
section
variable {P : Program} {w : World} {K : PySem.W.Frag} {mg : Str → Option Value} {base : Heap} {fKey : Addr}
theorem scWi : FnScope wiN ["moves"] (defScope sWith) := ⟨rfl, rfl, rfl, by decide +kernel, rfl, by decide +kernel, by decide +kernel⟩
theorem ok_with {f : Addr} {fd : FuncData} (F : Fun K "_with_tuples" "_with_tuples" sWith f fd) (T : TRead K mg fKey) : FnOk P w K mg base CX0 1 f fd ["moves"] (spWithT K) := by
  refine F.ok scWi (fun vs H Q E h => ?_) (fun cdv A outer s H vs Q E hr h => ?_)
  · obtain ⟨m, kvs, mv, rfl, _⟩ := h
    rfl
  · obtain ⟨m, kvs, mv, rfl, hm, M, few, fewE, q⟩ := h
    have hu := hu_of hr
    refine ⟨_, pss_one (ps_ret (pe_lock (pe_dcT (tk := tVar 1)
        (tv := tLc (iRowB K (tDGet (tVar 0) (tVar 1))) (gName 2) tYes (tIf (tB (tCB (rIsi K) (tCons (tVar 2) (tCons (tC (.ty "list")) tNil)))) (tCB (rTupOf K) (tCons (tVar 2) tNil)) (tVar 2)) [2])
        (tt := tYes) (own := [("key", 1)]) (g := gName 1) (Nat.lt_of_succ_lt hu) rfl scWi.nd (pi_keys (pv 0)) (blkOk_by (own := [("key", 1)]) (N := wiN) (sc := defScope sWith) (by decide +kernel))
      (fun _ _ _ _ _ => pg_name (i := 1) scWi.nd rfl (.inl rfl)) (fun _ _ _ _ _ => pts_nil) (fun _ _ _ _ _ => pv 1)
      (fun _ _ _ _ _ => pe_lc (wi := iRowB K (tDGet (tVar 0) (tVar 1))) (own := [("one", 2)]) (g := gName 2) (tt := tYes) rfl scWi.nd (pi_rowB (pe_dget hu (pv 0) (pv 1) (fun _ _ => rfl))) (show BlkOk wiN wiSc wiSc2 _ from blkOk_by (own := [("one", 2)]) (N := wiN) (sc := wiSc) (by decide +kernel))
        (fun _ _ _ _ _ => pg_name (i := 2) scWi.nd rfl (.inl rfl)) (fun _ _ _ _ _ => pts_nil)
        (fun _ _ _ _ _ => pe_ifExp (pt_val (pe_callB (id := "isinstance") (r := rIsi K) call_isi (by rfl) T.isi (by decide +kernel) (pa_cons (pv 2) (pa_cons (pe_bltn (v := .ty "list") (by rfl) T.lst (by decide +kernel) rfl) pa_nil))))
          (pe_callTy (r := rTupOf K) cr_tupOf (by rfl) T.tup (by decide +kernel) (pa_cons (pv 2) pa_nil)) (pv 2)))))), ?_⟩
    have len : kvs.length = mv.length := PySem.Paired.length M.ent
    refine ⟨m, .dT kvs, hm, trivial, fun od => ⟨_, rfl, m, od, rfl, .inr ⟨kvs, upd_same, fun D hD => ?_⟩⟩⟩
    have nmD : m ≠ D := ne_of_none upd_same hD
    have freeD : H D = none := by rw [upd_ne nmD.symm] at hD; exact hD
    refine coll_it walk_keysT (fun i H' => H' m = some (.frz od (.dT kvs)) ∧ But m H H' ∧ ∃ kvs' : List (List Key × V), H' D = some (.dT kvs') ∧ kvs'.map (·.1) = (kvs.take i).map (·.1) ∧ Paired (EntT K H') kvs' (mv.take i)) ?_ (fun i H' _ p => p.1) ?_ ?_
    · exact ⟨by rw [upd_ne nmD]; exact upd_same, fun b o ne e => by rw [upd_ne (ne_of_none e freeD), upd_ne ne]; exact e, [], upd_same, by simp, by simp; exact .nil⟩
    · rintro i y Ha Hb hi ⟨hma, bt, kvs', hd, ekeys, ents⟩ ⟨rfl, k0, v, qa, hk, rfl, hq⟩
      obtain ⟨e, hev, ek, us, row, each⟩ := paired_at M.ent i _ hk
      simp only at ek
      subst ek
      have emem := List.mem_of_getElem? hev
      have hq' : Hb qa = some (.tup [.str e.1.1, .str e.1.2]) := hq
      have hv : valV kvs [kInr e.1.1, kInr e.1.2] = some v := val_at M.nd hk
      have row2 := row_sq (bt.sq hm) row
      have each2 : Paired (OutG K Hb) us e.2 := L2.Paired.mapP each fun _ _ ⟨q, e, h⟩ => ⟨q, e, h.imp (sqL_up (bt.sq hm)) (sqT_up (bt.sq hm))⟩
      have lu : us.length = e.2.length := PySem.Paired.length each
      refine ⟨rfl, _, rfl, _, rfl, _, rfl, m, v, rfl, .inr ⟨kvs, [kInr e.1.1, kInr e.1.2], qa, .inr ⟨od, hma⟩, rfl, hq', hv.symm⟩, us, Hb, row2, Same.refl _, fun J G hG wk => fun D2 hD2 => ?_⟩
      refine lc_it wk (fun j H' => Same Hb H' ∧ ∃ acc, H' D2 = some (.lst acc) ∧ Paired (OutT K H') acc (e.2.take j)) ⟨same_upd hD2, [], upd_same, by simp; exact .nil⟩ (fun j H' _ h => hG _ h.1) ?_ ?_
      · rintro j y2 H3 H4 hj ⟨s3, acc, hacc, pacc⟩ ⟨rfl, hy2⟩
        obtain ⟨o, ho, q2, rfl, hq2⟩ := paired_at each2 j _ hy2
        have la : acc.length = (e.2.take j).length := PySem.Paired.length pacc
        have l2 : (e.2.take j).length ≤ e.2.length := (List.take_sublist j e.2).length_le
        have lz : acc.length < sizeLine := ln6 _ (by have := fewE e emem; omega)
        rcases hq2 with hq2 | hq2
        · have hx : SqL K H4 q2 [.str o.1, .str o.2] := sqL_up (Q9.Same.sq s3) hq2
          refine ⟨rfl, _, rfl, _, _, _, _, true, rfl, .ty _, sqL_ty hx, kit_ty (by decide +kernel), true, rfl, iteT ⟨_, rfl, q2, _, rfl, .inl ⟨hx, fun l hl => ?_⟩⟩⟩
          have sl := same_upd (o := .tup [.str o.1, .str o.2]) hl
          have hl' : upd H4 l (.tup [.str o.1, .str o.2]) l = some (.tup [.str o.1, .str o.2]) := upd_same
          generalize upd H4 l (.tup [.str o.1, .str o.2]) = H5 at sl hl' ⊢
          refine ⟨_, sl _ _ hacc, lz, fun b u z => ?_, _, upd_same, ?_⟩
          · rw [upd_ne (ne_of_none z hD2)]; exact sl _ _ (s3 _ _ z)
          · rw [take_one_more ho]
            exact paired_append (L2.Paired.mapP pacc fun _ _ ⟨q, e, h⟩ => ⟨q, e, sqT_farL (sl _ _ hacc) But.upd (same_sqT sl h)⟩) (.cons ⟨l, rfl, sqT_farL (sl _ _ hacc) But.upd (.of hl')⟩ .nil)
        · have hx := same_sqT s3 hq2
          refine ⟨rfl, _, rfl, _, _, _, _, false, rfl, .ty _, sqT_ty hx, kit_ty (by decide +kernel), false, rfl, iteF ⟨_, rfl, _, hacc, lz, fun b u z => ?_, _, upd_same, ?_⟩⟩
          · rw [upd_ne (ne_of_none z hD2)]; exact s3 _ _ z
          · rw [take_one_more ho]
            exact paired_append (L2.Paired.mapP pacc fun _ _ ⟨q, e, h⟩ => ⟨q, e, sqT_farL hacc But.upd h⟩) (.cons ⟨q2, rfl, sqT_farL hacc But.upd hx⟩ .nil)
      · rintro H3 ⟨s3, acc, hacc, pacc⟩
        rw [lu, List.take_length] at pacc
        have lk : kvs'.length ≤ 1000000 := by
          have h := congrArg List.length ekeys
          rw [List.length_map, List.length_map, List.length_take] at h
          omega
        refine ⟨qa, [.inr e.1.1, .inr e.1.2], kvs', rfl, s3 _ _ hq', s3 _ _ hd, ln6 _ lk, ?_⟩
        have nk : valV kvs' [kInr e.1.1, kInr e.1.2] = none := by
          cases c : valV kvs' [kInr e.1.1, kInr e.1.2] with
          | none => rfl
          | some u =>
            unfold valV at c
            obtain ⟨kv, g1, g2⟩ := Option.map_eq_some_iff.mp c
            have g3 := List.mem_of_find?_eq_some g1
            have g4 : kv.1 = [kInr e.1.1, kInr e.1.2] := by simpa using List.find?_some g1
            have g5 : [kInr e.1.1, kInr e.1.2] ∈ (kvs.take i).map (·.1) := by rw [← ekeys, ← g4]; exact List.mem_map.mpr ⟨kv, g3, rfl⟩
            have nd := M.nd
            have e1 : kvs.take (i + 1) = kvs.take i ++ [([kInr e.1.1, kInr e.1.2], v)] := take_one_more hk
            have nd1 : ((kvs.take (i + 1)).map (·.1)).Nodup := by rw [List.map_take]; exact List.Sublist.nodup (List.take_sublist _ _) nd
            rw [e1, List.map_append, List.nodup_append] at nd1
            exact (nd1.2.2 _ g5 _ (List.mem_singleton.mpr rfl) rfl).elim
        have sD : ∀ u, SameSq H3 (upd H3 D u) := fun u => dT_sq (s3 _ _ hd) But.upd
        refine ⟨by rw [upd_ne nmD]; exact s3 _ _ hma, fun b o ne z => ?_, _, upd_same, ?_, ?_⟩
        · rw [upd_ne (ne_of_none z freeD)]; exact s3 _ _ (bt b o ne z)
        · rw [putK_new _ nk, List.map_append, ekeys, take_one_more hk, List.map_append]
          rfl
        · rw [putK_new _ nk, take_one_more hev]
          refine paired_append (L2.Paired.mapP ents fun _ _ ⟨e1, h⟩ => ⟨e1, outsT_up (sD _) (outsT_up (Q9.Same.sq s3) h)⟩) (.cons ⟨rfl, outsT_up (sD _) ⟨acc, ⟨D2, rfl, .inl (.of hacc)⟩, pacc⟩⟩ .nil)
    · rintro Ha ⟨hma, bt, kvs', hd, ekeys, ents⟩
      rw [List.take_length] at ekeys
      rw [len, List.take_length] at ents
      have sb := bt.back hm
      exact ⟨hma, q _ D kvs' sb (by rw [upd_ne nmD.symm]; exact hd) ⟨by rw [ekeys]; exact M.nd, L2.Paired.mapP ents fun _ _ ⟨e1, vs, ⟨a, ea, r⟩, p⟩ => ⟨e1, vs, ⟨a, ea, r.imp (sqL_frz hma) (sqT_frz hma)⟩, L2.Paired.mapP p fun _ _ ⟨q, e, h⟩ => ⟨q, e, sqT_frz hma h⟩⟩⟩⟩
end
end Q9
end
-- QRead4
section
set_option maxRecDepth 100000
set_option maxHeartbeats 8000000
namespace Q9
open PySem L2
def spReadG (CB : Addr) (K : PySem.W.Frag) : Sp := fun vs H Q E => ∃ (m : Addr) (nm st : Str) (ex : V) (es : List Str) (kvs : List (List Key × V)) (mv : Mv), vs = [.ref m, .str st, ex] ∧
  Row K H ex (es.map V.str) ∧ H m = some (.dT kvs) ∧ MovesG K H kvs mv ∧ RightParts nm st es mv ∧ Small st es mv ∧
  ((Fits st es mv ∧ ∀ (H' : Hp) (t s me d : Addr) (ss ms : List Str) (kvs' : List (List Key × V)) (mvs : Mv), Same H H' → H' t = some (.tup [.ref s, .ref me, .ref d]) → H' s = some (.lst (ss.map V.str)) → Told (statesIn st es mv) ss → H' me = some (.lst (ms.map V.str)) → Told (methodsIn mv) ms →
      H' d = some (.dT kvs') → OwnMv K H' kvs' mvs mv → H s = none → H me = none → H d = none → Q (.ref t) H') ∨
    (¬ Fits st es mv ∧ ∀ (H' : Hp) (d : Addr), Same H H' → H d = none → H' d = some (.xd [("part", .str "moves")]) → E (.ref CB) (some d) H'))
structure TWi (K : PySem.W.Frag) (mg : Str → Option Value) (fW : Addr) : Prop where
  gW : mg "_with_tuples" = some (.ref fW)
  kW : PySem.W.keepIn K (.ref fW) = true
theorem movesG_t {K : PySem.W.Frag} {H : Hp} {kvs : List (List Key × V)} {mv : Mv} (M : MovesG K H kvs mv) (p : Paired (OutsT K H) (kvs.map (·.2)) (rowsO mv)) : Moves K H kvs mv := by
  refine ⟨M.nd, ?_⟩
  have key : ∀ {kvs : List (List Key × V)} {mv : Mv}, Paired (EntG K H) kvs mv → Paired (OutsT K H) (kvs.map (·.2)) (rowsO mv) → Paired (EntT K H) kvs mv := by
    intro kvs mv p
    induction p with
    | nil => exact fun _ => .nil
    | cons h t ih =>
      intro q
      unfold rowsO at q
      rw [List.map_cons, List.map_cons] at q
      cases q with
      | cons a b => exact .cons ⟨h.1, a⟩ (ih b)
  exact key M.ent p
theorem paired_sndG {K : PySem.W.Frag} {H : Hp} {kvs : List (List Key × V)} {mv : Mv} (p : Paired (EntG K H) kvs mv) : Paired (OutsG K H) (kvs.map (·.2)) (rowsO mv) := by
  induction p with
  | nil => exact .nil
  | cons h t ih => exact .cons h.2 ih
section
variable {P : Program} {w : World} {K : PySem.W.Frag} {mg : Str → Option Value} {base : Heap} {C CB fKey fA fP fR fI fW : Addr}
theorem ok_readG {f : Addr} {fd dW dA dP dR dI : FuncData} (F : Fun K "_read_moves" "_read_moves" sRead f fd) (T : TRead K mg fKey) (TD : TRd K mg fA fP fR) (TE : TErr K mg "BadKind" "part" CB fI)
    (GI : FnOk P w K mg base CX0 1 fI dI ["self", "part"] (spErrI CB "part")) (bI : Binds K dI ["self", "part"] [])
    (GA : FnOk P w K mg base CX0 2 fA dA ["moves"] (spAreRowsG K)) (bA : Binds K dA ["moves"] []) (GPG : FnOk P w K mg base CX0 1 fP dP ["rows"] (spPairsG K)) (GP : FnOk P w K mg base CX0 1 fP dP ["rows"] (spPairs K)) (bP : Binds K dP ["rows"] [])
    (TW : TWi K mg fW) (GW : FnOk P w K mg base CX0 1 fW dW ["moves"] (spWithT K)) (bW : Binds K dW ["moves"] [])
    (GR : FnOk P w K mg base CX0 4 fR dR ["words", "states", "methods"] (spRight K)) (bR : Binds K dR ["words", "states", "methods"] []) :
    FnOk P w K mg base (L2.CX P w) 5 f fd ["moves", "start", "ends"] (spReadG CB K) := by
  refine F.okX scRd (fun vs H Q E h => ?_) (fun cdv A outer s H vs Q E hr h => ?_)
  · obtain ⟨m, nm, st, ex, es, kvs, mv, rfl, _⟩ := h
    rfl
  · obtain ⟨m, nm, st, ex, es, kvs, mv, rfl, he, hm, M, R, S, way⟩ := h
    have hu := hu_of hr
    have hu8 : (A.deeper (PyProof.Rows.envOfC (Str.ofString "_read_moves") (defScope sRead) s.heap.objs.size f cdv)).units + 8 < cLine := Nat.lt_of_le_of_lt (Nat.add_le_add_left (by decide : 8 ≤ 64) _) hr.units
    refine ⟨_, pss_cons (ps_if (pt_not (pt_val (pe_call GA (hr.mono (by decide)) (by rfl) TD.gA TD.kA bA .nil pass0 (pa_cons (pv 0) pa_nil))))
        (pss_one (ps_raise rfl (takes_of rfl rfl rfl rfl) (pmk_oex TE.ox TE.iC TE.tI GI (hr.mono (by omega)) bI .nil pass0 (by rfl) TE.gC (pa_cons pe_str pa_nil)))) pss_nil)
      (pss_cons (ps_set (i := 3) scRd.nd rfl (.inl rfl) (pe_callB (cr_sum rfl) (by rfl) T.sum (by decide +kernel) (pa_cons
        (pe_lock (pe_lc (te := tCB (rLenRow K) (tCons (tVar 8) tNil)) (own := [("row", 8)]) (g := gName 8) (tt := tYes) rfl scRd.nd (pi_valuesT (pv 0)) (blkOk_by (own := [("row", 8)]) (N := rdN) (sc := defScope sRead) (by decide +kernel))
          (fun _ _ _ _ _ => pg_name (i := 8) scRd.nd rfl (.inl rfl)) (fun _ _ _ _ _ => pts_nil) (fun _ _ _ _ _ => pe_callB (id := "len") (r := rLenRow K) cr_lenRow (by rfl) T.len (by decide +kernel) (pa_cons (pv 8) pa_nil)))) pa_nil)))
      (C8.pss_cut (ps_set (i := 4) scRd.nd rfl (.inl rfl) (pe_call GPG (hr.mono (by decide)) (by rfl) TD.gP TD.kP bP .nil pass0 (pa_cons (pe_listValsT rfl (pv 0) (by rfl) T.lst (by decide +kernel)) pa_nil)))
      (C8.pss_cut (ps_if (pt_cmpR op_ne (pe_callB cr_lenRow (by rfl) T.len (by decide +kernel) (pa_cons (pv 4) pa_nil)) (pv 3) (nomark _))
          (pss_cons (ps_set (i := 0) scRd.nd rfl (.inl rfl) (pe_call GW (hr.mono (by decide)) (by rfl) TW.gW TW.kW bW .nil pass0 (pa_cons (pv 0) pa_nil)))
          (pss_one (ps_set (i := 4) scRd.nd rfl (.inl rfl) (pe_call GP (hr.mono (by decide)) (by rfl) TD.gP TD.kP bP .nil pass0 (pa_cons (pe_listValsT rfl (pv 0) (by rfl) T.lst (by decide +kernel)) pa_nil))))) pss_nil)
      (pss_cons (ps_if (pt_cmpR op_ne (pe_callB cr_lenRow (by rfl) T.len (by decide +kernel) (pa_cons (pv 4) pa_nil)) (pv 3) (nomark _)) pss_never pss_nil)
      (pss_cons (ps_set (i := 5) scRd.nd rfl (.inl rfl) (pe_callB (cr_sortedKs rfl) (by rfl) T.sorted (by decide +kernel) (pa_cons
        (pe_scK (own := [("_", 9), ("state", 10)]) (g := gTup K 2 (gCons (gName 9) (gCons (gName 10) gNil))) (tt := tYes) rfl scRd.nd (pi_list (pv 4)) (blkOk_by (own := [("_", 9), ("state", 10)]) (N := rdN) (sc := defScope sRead) (by decide +kernel))
          (fun _ _ _ _ _ => pg_tup rfl (pgs_cons (pg_name (i := 9) scRd.nd rfl (.inl rfl)) (pgs_cons (pg_name (i := 10) scRd.nd rfl (.inl rfl)) pgs_nil))) (fun _ _ _ _ _ => pts_nil) (fun _ _ _ _ _ => pv 10)) pa_nil)))
      (pss_cons (ps_set (i := 6) scRd.nd rfl (.inl rfl) (pe_callB (cr_sortedKs rfl) (by rfl) T.sorted (by decide +kernel) (pa_cons (pe_callTy (cr_setOf rfl) (by rfl) T.set (by decide +kernel) (pa_cons
        (pe_op op_cat (pe_op op_cat (pe_op op_cat (pe_lst (pa_cons (pv 1) pa_nil)) (pe_callTy cr_listRow (by rfl) T.lst (by decide +kernel) (pa_cons (pv 2) pa_nil)))
          (pe_lock (pe_lc (te := tVar 10) (own := [("state", 10), ("_", 9)]) (g := gTup K 2 (gCons (gName 10) (gCons (gName 9) gNil))) (tt := tYes) rfl scRd.nd (pi_keys (pv 0)) (blkOk_by (own := [("state", 10), ("_", 9)]) (N := rdN) (sc := defScope sRead) (by decide +kernel))
            (fun _ _ _ _ _ => pg_tup rfl (pgs_cons (pg_name (i := 10) scRd.nd rfl (.inl rfl)) (pgs_cons (pg_name (i := 9) scRd.nd rfl (.inl rfl)) pgs_nil))) (fun _ _ _ _ _ => pts_nil) (fun _ _ _ _ _ => pv 10)))) (pv 5)) pa_nil)) pa_nil)))
      (pss_cons (ps_set (i := 7) scRd.nd rfl (.inl rfl) (pe_callB (cr_sortedKs rfl) (by rfl) T.sorted (by decide +kernel) (pa_cons
        (pe_lock (pe_scK (own := [("_", 9), ("method", 11)]) (g := gTup K 2 (gCons (gName 9) (gCons (gName 11) gNil))) (tt := tYes) rfl scRd.nd (pi_keys (pv 0)) (blkOk_by (own := [("_", 9), ("method", 11)]) (N := rdN) (sc := defScope sRead) (by decide +kernel))
          (fun _ _ _ _ _ => pg_tup rfl (pgs_cons (pg_name (i := 9) scRd.nd rfl (.inl rfl)) (pgs_cons (pg_name (i := 11) scRd.nd rfl (.inl rfl)) pgs_nil))) (fun _ _ _ _ _ => pts_nil) (fun _ _ _ _ _ => pv 11))) pa_nil)))
      (pss_cons (ps_if (pt_not (pt_val (pe_call GR (hr.mono (by decide)) (by rfl) TD.gR TD.kR bR .nil pass0 (pa_cons (pe_callB (cr_sortedKs rfl) (by rfl) T.sorted (by decide +kernel) (pa_cons
          (pe_scK (own := [("word", 12), ("_", 9)]) (g := gTup K 2 (gCons (gName 12) (gCons (gName 9) gNil))) (tt := tYes) rfl scRd.nd (pi_list (pv 4)) (blkOk_by (own := [("word", 12), ("_", 9)]) (N := rdN) (sc := defScope sRead) (by decide +kernel))
            (fun _ _ _ _ _ => pg_tup rfl (pgs_cons (pg_name (i := 12) scRd.nd rfl (.inl rfl)) (pgs_cons (pg_name (i := 9) scRd.nd rfl (.inl rfl)) pgs_nil))) (fun _ _ _ _ _ => pts_nil) (fun _ _ _ _ _ => pv 12)) pa_nil)) (pa_cons (pv 6) (pa_cons (pv 7) pa_nil))))))
        (pss_one (ps_raise rfl (takes_of rfl rfl rfl rfl) (pmk_oex TE.ox TE.iC TE.tI GI (hr.mono (by omega)) bI .nil pass0 (by rfl) TE.gC (pa_cons pe_str pa_nil)))) pss_nil)
      (pss_cons (ps_if (pt_truth (pe_lock (pe_lc (te := tVar 8) (own := [("row", 8)]) (g := gName 8) rfl scRd.nd (pi_valuesT (pv 0)) (blkOk_by (own := [("row", 8)]) (N := rdN) (sc := defScope sRead) (by decide +kernel))
          (fun _ _ _ _ _ => pg_name (i := 8) scRd.nd rfl (.inl rfl))
          (fun _ _ _ _ _ => pts_one (pt_cmpR op_ne (pe_callB (id := "len") (r := rLenTs P w) cr_lenTs (by rfl) T.len (by decide +kernel) (pa_cons (pe_callTy (r := rSetOfT K P w) (cr_setOfT rfl hu8) (by rfl) T.set (by decide +kernel) (pa_cons (pv 8) pa_nil)) pa_nil)) (pe_callB (id := "len") (r := rLenRow K) cr_lenRow (by rfl) T.len (by decide +kernel) (pa_cons (pv 8) pa_nil)) (nomark _)))
          (fun _ _ _ _ _ => pv 8))) (by intro _; rfl)) pss_never pss_nil)
      (pss_one (ps_ret (pe_tup (pa_cons (pv 6) (pa_cons (pv 7) (pa_cons
        (pe_lock (pe_dcT (tk := tVar 13) (tv := tCB (rTupOf K) (tCons (tCB (rSortedRT K) (tCons (tVar 8) tNil)) tNil)) (tt := tYes) (own := [("key", 13), ("row", 8)]) (g := gTup K 2 (gCons (gName 13) (gCons (gName 8) gNil))) (Nat.lt_of_succ_lt hu) rfl scRd.nd (pi_itemsT (pv 0)) (blkOk_by (own := [("key", 13), ("row", 8)]) (N := rdN) (sc := defScope sRead) (by decide +kernel))
          (fun _ _ _ _ _ => pg_tup rfl (pgs_cons (pg_name (i := 13) scRd.nd rfl (.inl rfl)) (pgs_cons (pg_name (i := 8) scRd.nd rfl (.inl rfl)) pgs_nil))) (fun _ _ _ _ _ => pts_nil) (fun _ _ _ _ _ => pv 13)
          (fun _ _ _ _ _ => pe_callTy (r := rTupOf K) cr_tupOf (by rfl) T.tup (by decide +kernel) (pa_cons (pe_callB (id := "sorted") (r := rSortedRT K) cr_sortedRT (by rfl) T.sorted (by decide +kernel) (pa_cons (pv 8) pa_nil)) pa_nil)))) pa_nil))))))))))))))), ?_⟩
    have len : kvs.length = mv.length := PySem.Paired.length M.ent
    have ls := lens_states st es mv
    have big := S.len
    have lf : (flatO mv).length ≤ 1000000 := by omega
    have le : es.length ≤ 1000000 := by omega
    have few : kvs.length ≤ 1000000 := by omega
    have sz : ∀ n : Nat, n ≤ 4000010 → n < sizeLine := fun n h => by rw [PySem.sizeLine_eq]; omega
    refine ⟨_, rfl, m, kvs, mv, rfl, hm, M, few, fun H1 s1 => ⟨_, rfl, ?_⟩⟩
    by_cases c8 : ∀ e ∈ mv, e.2.length ≤ 8
    case neg =>
      rw [decide_eq_false c8]
      rcases way with ⟨ft, _⟩ | ⟨_, wrong⟩
      · exact (c8 ft.1).elim
      refine iteT ⟨(by show 1 ≤ 1000; decide), fun a na => ⟨a, _, rfl, upd_same, fun dx nd ne => ?_⟩⟩
      obtain ⟨r1, r2, r3, r4, r5⟩ := raised (C := CB) (fs := [("part", .str "moves")]) s1 na nd ne
      exact ⟨rfl, dx, _, r1, r2, r3, wrong _ dx r4 r5 upd_same⟩
    rw [decide_eq_true c8]
    refine iteF ?_
    have hm1 := s1 m _ hm
    have M1 := movesG_up s1 M
    -- how many outcomes
    refine ⟨m, .dT kvs, hm1, trivial, fun od => ⟨_, rfl, m, od, kvs, rfl, upd_same, fun D hD => ?_⟩⟩
    have nmD : m ≠ D := ne_of_none upd_same hD
    have freeD : H1 D = none := by rw [upd_ne nmD.symm] at hD; exact hD
    refine lc_it walk_valuesT (fun i H' => H' m = some (.frz od (.dT kvs)) ∧ But m H1 H' ∧ H' D = some (.lst (((mv.take i).map fun e => (e.2.length : Int)).map V.int))) ?_ (fun i H' _ p => p.1) ?_ ?_
    · exact ⟨by rw [upd_ne nmD]; exact upd_same, fun b o ne e => by rw [upd_ne (ne_of_none e freeD), upd_ne ne]; exact e, upd_same⟩
    · rintro i y H2 H3 hi ⟨hm2, bt, hd⟩ ⟨rfl, k0, hk⟩
      obtain ⟨e, hev, ek, vs, row, each⟩ := paired_at M1.ent i _ hk
      have row2 := row_sq (bt.sq hm1) row
      have ll : vs.length = e.2.length := PySem.Paired.length each
      refine ⟨rfl, _, rfl, y, vs, rfl, row2, _, hd, ?_, ?_, fun b o ne z => ?_, ?_⟩
      · rw [List.length_map, List.length_map, List.length_take]; exact sz _ (by omega)
      · rw [upd_ne nmD]; exact hm2
      · rw [upd_ne (ne_of_none z freeD)]; exact bt b o ne z
      · rw [upd_same, take_one_more hev, List.map_append, List.map_append, ll]
        rfl
    rintro H2' ⟨hm2, bt, hd⟩
    rw [len, List.take_length] at hd
    have sb := bt.back hm1
    refine ⟨hm2, D, _, rfl, .of (by rw [upd_ne nmD.symm]; exact hd), ?_⟩
    rw [sum_lens]
    have s2 : Same H (upd H2' m (.dT kvs)) := fun b o z => sb b o (s1 b o z)
    generalize upd H2' m (.dT kvs) = H2 at s2
    clear sb hd bt hm2 freeD nmD hD
    have M2 := movesG_up s2 M
    -- the outcomes that are tuples
    refine ⟨fun σ H4 => ∃ (pp : Addr) (vs : List V), σ = [some (.ref m), some (.str st), some ex, some (.int ((flatO mv).length : Nat)), some (.ref pp), none, none, none, none, none, none, none, none, none] ∧ Same H H4 ∧ H4 pp = some (.lst vs) ∧ vs.length ≤ (flatO mv).length ∧ (vs.length = (flatO mv).length → Paired (OutT K H4) vs (flatO mv) ∧ Paired (OutsT K H4) (kvs.map (·.2)) (rowsO mv)), ?_, ?_⟩
    · refine ⟨_, rfl, m, kvs, rfl, s2 _ _ hm, fun rp nrp => ?_⟩
      have s3 : Same H (upd H2 rp (.lst (kvs.map (·.2)))) := fun b o z => same_upd nrp b o (s2 b o z)
      refine ⟨rp, kvs.map (fun e => e.2), rowsO mv, rfl, .of upd_same, paired_sndG (movesG_up s3 M).ent, lf, fun H4 pp vs s34 hpp lv pvs => ?_⟩
      exact ⟨pp, vs, rfl, fun b o z => s34 b o (s3 b o z), hpp, lv, pvs⟩
    rintro σ H4 ⟨pp, vs, rfl, s4, hpp, lv, pvs⟩
    -- all as tuples
    refine ⟨fun σ Hn => ∃ (m' : Addr) (kvs' : List (List Key × V)) (pp : Addr) (vs : List V), σ = [some (.ref m'), some (.str st), some ex, some (.int ((flatO mv).length : Nat)), some (.ref pp), none, none, none, none, none, none, none, none, none] ∧ Same H Hn ∧ Hn m' = some (.dT kvs') ∧ Moves K Hn kvs' mv ∧ SqL K Hn pp vs ∧ Paired (OutT K Hn) vs (flatO mv), ?_, ?_⟩
    · refine ⟨_, rfl, .ref pp, vs, rfl, ⟨pp, rfl, .inl (.of hpp)⟩, _, rfl, rfl, _, rfl, ?_⟩
      by_cases c : vs.length = (flatO mv).length
      · obtain ⟨a, b⟩ := pvs c
        refine iteNS (by rw [c]) ?_
        exact ⟨m, kvs, pp, vs, rfl, s4, s4 _ _ hm, movesG_t (movesG_up s4 M) b, .of hpp, a⟩
      · have en : (!decide (V.int ((vs.length : Nat) : Int) = V.int (((flatO mv).length : Nat) : Int))) = true := by
          rw [decide_eq_false (fun z => c (by injection z with z; omega))]
          rfl
        rw [en]
        refine iteT ?_
        have lenE : ∀ e ∈ mv, e.2.length ≤ 1000000 := fun e he => Nat.le_trans (c8 e he) (by decide)
        refine ⟨_, rfl, m, kvs, mv, rfl, s4 _ _ hm, movesG_up s4 M, few, lenE, fun H5 m' kvs' s45 hm' M' => ?_⟩
        refine ⟨_, rfl, m', kvs', rfl, hm', fun rp nrp => ?_⟩
        have s56 := same_upd (o := .lst (kvs'.map (·.2))) nrp
        refine ⟨rp, kvs'.map (fun e => e.2), rowsO mv, rfl, .of upd_same, paired_snd (moves_up (Q9.Same.sq s56) M').ent, lf, fun H6 pp2 s67 ⟨pp', vs2, epp, hvs, pvs2⟩ => ?_⟩
        cases epp
        exact ⟨m', kvs', pp2, vs2, rfl, fun b o z => s67 _ _ (s56 _ _ (s45 _ _ (s4 _ _ z))), s67 _ _ (s56 _ _ hm'), moves_up (Q9.Same.sq s67) (moves_up (Q9.Same.sq s56) M'), hvs, pvs2⟩
    clear pvs lv hpp s4 M2 s2 M hm len few hm1 M1 s1
    rintro σ Hn ⟨m, kvs, pp, vs, rfl, sn, hm, M, hvs, pvs⟩
    have old : ∀ {b : Addr}, Hn b = none → H b = none := fun {b} h => by
      cases z : H b with
      | none => rfl
      | some o => rw [sn _ _ z] at h; cases h
    have way2 : (Fits st es mv ∧ ∀ (H' : Hp) (t s me d : Addr) (ss ms : List Str) (kvs' : List (List Key × V)) (mvs : Mv), Same Hn H' → H' t = some (.tup [.ref s, .ref me, .ref d]) → H' s = some (.lst (ss.map V.str)) → Told (statesIn st es mv) ss → H' me = some (.lst (ms.map V.str)) → Told (methodsIn mv) ms →
        H' d = some (.dT kvs') → OwnMv K H' kvs' mvs mv → Hn s = none → Hn me = none → Hn d = none → Q (.ref t) H') ∨
      (¬ Fits st es mv ∧ ∀ (H' : Hp) (d : Addr), Same Hn H' → Hn d = none → H' d = some (.xd [("part", .str "moves")]) → E (.ref CB) (some d) H') :=
      way.imp (fun ⟨ft, r⟩ => ⟨ft, fun H' t s me d ss ms kvs' mvs sm a1 a2 a3 a4 a5 a6 a7 o1 o2 o3 => r H' t s me d ss ms kvs' mvs (fun b o z => sm _ _ (sn _ _ z)) a1 a2 a3 a4 a5 a6 a7 (old o1) (old o2) (old o3)⟩) (fun ⟨nf, r⟩ => ⟨nf, fun H' d sm n a1 => r H' d (fun b o z => sm _ _ (sn _ _ z)) (old n) a1⟩)
    have he := row_up sn he
    clear way old sn
    have way := way2
    clear way2
    have s4 : Same Hn Hn := Same.refl _
    have len : kvs.length = mv.length := PySem.Paired.length M.ent
    have few : kvs.length ≤ 1000000 := by omega
    have lv : vs.length = (flatO mv).length := PySem.Paired.length pvs
    refine ⟨_, rfl, .ref pp, vs, rfl, ⟨pp, rfl, .inl hvs⟩, _, rfl, rfl, _, rfl, iteNS (by rw [lv]) ?_⟩
    -- the states behind
    have subB : ∀ z ∈ (flatO mv).map (·.2), z ∈ statesIn st es mv := fun z hz => by
      obtain ⟨o, h1, h2⟩ := List.mem_map.mp hz
      obtain ⟨e, h3, h4⟩ := mem_flatO.mp h1
      exact mem_states.mpr (.inr (.inr ⟨e, h3, .inr ⟨o, h4, h2.symm⟩⟩))
    have fewB := few_same subB S.states
    refine ⟨_, rfl, pp, rfl, ⟨_, hvs⟩, fun D hD => ?_⟩
    refine coll_it (walk_list (xs := vs)) (fun i Hn' => Same Hn Hn' ∧ ∃ ks, Hn' D = some (SetKs P w D ks) ∧ Coll (((flatO mv).map (·.2)).map kInr) i ks) ⟨same_upd hD, [], upd_same, Coll.zero _⟩ (fun i Hn' _ p => sqL_up (Q9.Same.sq p.1) hvs) ?_ ?_
    · rintro i y H5 H6 hi ⟨s5, ks, hks, cl⟩ ⟨rfl, hy⟩
      obtain ⟨o, ho, q5, rfl, hq5⟩ := paired_at pvs i _ hy
      have at_ : (((flatO mv).map (·.2)).map kInr)[i]? = some (kInr o.2) := by rw [List.getElem?_map, List.getElem?_map, ho]; rfl
      refine ⟨q5, _, rfl, same_sqT s5 hq5, rfl, _, _, rfl, _, _, rfl, rfl, rfl, ?_⟩
      exact ⟨_, rfl, kInr o.2, ks, rfl, hks, fewB ks cl.nd cl.sub, fun ks' ad => ⟨fun b u z => by rw [upd_ne (ne_of_none z hD)]; exact s5 b u z, ks', upd_same, cl.next at_ ad⟩⟩
    rintro H5 ⟨s5, ks, hks, cl⟩
    have el : (((flatO mv).map (·.2)).map kInr).take vs.length = ((flatO mv).map (·.2)).map kInr := List.take_of_length_le (by rw [List.length_map, List.length_map, lv]; exact Nat.le_refl _)
    have memB : ∀ j, j ∈ ks ↔ j ∈ ((flatO mv).map (·.2)).map kInr := fun j => by rw [cl.mem j, el]
    obtain ⟨ss0, e0⟩ := texts_of memB
    refine ⟨D, ss0, rfl, (by rw [hks, e0]; rfl), fun beh bp pmB upB nbp => ?_⟩
    have tB : Told ((flatO mv).map (·.2)) beh := told_of e0 cl.nd memB pmB upB
    have s46 : Same Hn (upd H5 bp (.lst (beh.map V.str))) := fun b o z => same_upd nbp b o (s5 b o z)
    have hbp : (upd H5 bp (.lst (beh.map V.str))) bp = some (.lst (beh.map V.str)) := upd_same
    have lb := told_len tB
    rw [List.length_map] at lb
    generalize upd H5 bp (.lst (beh.map V.str)) = H6 at s46 hbp
    clear nbp upB pmB e0 memB el cl hks s5 hD
    have s6 : Same Hn H6 := fun b o z => s46 b o (s4 b o z)
    -- all states
    refine ⟨_, rfl, (by show 1 ≤ sizeLine; decide), fun f1 hf1 => ?_⟩
    have a1 := same_upd (o := .lst [V.str st]) hf1
    refine ⟨_, rfl, ex, _, rfl, row_up (fun b o z => a1 b o (s6 b o z)) he, fun f2 hf2 => ?_⟩
    have a2 := same_upd (o := .lst (es.map V.str)) hf2
    refine ⟨f1, f2, _, _, rfl, rfl, a2 _ _ upd_same, upd_same, ?_, fun f3 hf3 => ?_⟩
    · rw [List.length_map]; show 1 + es.length ≤ sizeLine; exact Nat.le_of_lt (sz _ (by omega))
    have a3 := same_upd (o := .lst ([V.str st] ++ es.map V.str)) hf3
    have a13 : Same H6 (upd (upd (upd H6 f1 (.lst [V.str st])) f2 (.lst (es.map V.str))) f3 (.lst ([V.str st] ++ es.map V.str))) := fun b o z => a3 b o (a2 b o (a1 b o z))
    have hf3' : (upd (upd (upd H6 f1 (.lst [V.str st])) f2 (.lst (es.map V.str))) f3 (.lst ([V.str st] ++ es.map V.str))) f3 = some (.lst ([V.str st] ++ es.map V.str)) := upd_same
    generalize upd (upd (upd H6 f1 (.lst [V.str st])) f2 (.lst (es.map V.str))) f3 (.lst ([V.str st] ++ es.map V.str)) = H7 at a13 hf3'
    clear a1 a2 a3 hf1 hf2 hf3
    have s7 : Same Hn H7 := fun b o z => a13 b o (s6 b o z)
    have hm7 := s7 m _ hm
    have M7 := moves_up (Q9.Same.sq s7) M
    refine ⟨m, .dT kvs, hm7, trivial, fun od3 => ⟨_, rfl, m, od3, rfl, .inr ⟨kvs, upd_same, fun D3 hD3 => ?_⟩⟩⟩
    have nm3 : m ≠ D3 := ne_of_none upd_same hD3
    have free3 : H7 D3 = none := by rw [upd_ne nm3.symm] at hD3; exact hD3
    refine lc_it walk_keysT (fun i Hn' => Hn' m = some (.frz od3 (.dT kvs)) ∧ But m H7 Hn' ∧ Hn' D3 = some (.lst (((mv.take i).map (·.1.1)).map V.str))) ?_ (fun i Hn' _ p => p.1) ?_ ?_
    · exact ⟨by rw [upd_ne nm3]; exact upd_same, fun b o ne e => by rw [upd_ne (ne_of_none e free3), upd_ne ne]; exact e, upd_same⟩
    · rintro i y H8 H9 hi ⟨hm8, bt, hd⟩ ⟨rfl, k0, v, qa, hk, rfl, hq⟩
      obtain ⟨e, hev, ek, _⟩ := paired_at M7.ent i _ hk
      simp only at ek
      subst ek
      have hq' : H9 qa = some (.tup [.str e.1.1, .str e.1.2]) := hq
      refine ⟨qa, _, rfl, .of hq', rfl, _, _, rfl, _, _, rfl, rfl, rfl, _, rfl, _, hd, ?_, ?_, fun b o ne z => ?_, ?_⟩
      · rw [List.length_map, List.length_map, List.length_take]; exact sz _ (by omega)
      · rw [upd_ne nm3]; exact hm8
      · rw [upd_ne (ne_of_none z free3)]; exact bt b o ne z
      · rw [upd_same, take_one_more hev, List.map_append, List.map_append]; rfl
    rintro H8 ⟨hm8, bt, hd⟩
    rw [len, List.take_length] at hd
    have sb3 := bt.back hm7
    refine ⟨hm8, f3, D3, _, _, rfl, rfl, sb3 _ _ hf3', (by rw [upd_ne nm3.symm]; exact hd), ?_, fun f4 hf4 => ?_⟩
    · rw [List.length_append, List.length_map, List.length_map, List.length_map]; exact Nat.le_of_lt (sz _ (by simp only [List.length_cons, List.length_nil]; omega))
    have a4 := same_upd (o := .lst ([V.str st] ++ es.map V.str ++ (mv.map (·.1.1)).map V.str)) hf4
    refine ⟨_, rfl, f4, bp, _, _, rfl, rfl, upd_same, a4 _ _ (sb3 _ _ (a13 _ _ hbp)), ?_, fun f5 hf5 => ?_⟩
    · rw [List.length_append, List.length_append, List.length_map, List.length_map, List.length_map, List.length_map]; exact Nat.le_of_lt (sz _ (by simp only [List.length_cons, List.length_nil]; omega))
    have tot : ∀ z, z ∈ st :: es ++ mv.map (·.1.1) ++ beh ↔ z ∈ statesIn st es mv := states_told tB
    have etot : ((st :: es ++ mv.map (·.1.1) ++ beh).map kInr).map kV = [V.str st] ++ es.map V.str ++ (mv.map (·.1.1)).map V.str ++ beh.map V.str := by rw [kInr_kV]; simp
    refine ⟨f5, (st :: es ++ mv.map (·.1.1) ++ beh).map kInr, rfl, .inl (.of (by rw [etot]; exact upd_same)), few_same (fun z hz => (tot z).1 hz) S.states, fun p6 ks6 hp6 nd6 mem6 => ?_⟩
    obtain ⟨ss6, e6⟩ := texts_of mem6
    refine ⟨p6, ss6, rfl, by rw [upd_same, e6], fun ss sp pmS upS nsp => ?_⟩
    have tS : Told (statesIn st es mv) ss := by
      have t0 := told_of e6 nd6 mem6 pmS upS
      exact ⟨t0.1, t0.2.1, fun z => (t0.2.2 z).trans (tot z)⟩
    generalize hH9 : upd (upd (upd (upd (upd H8 m (.dT kvs)) f4 _) f5 _) p6 (SetKs _ _ p6 ks6)) sp _ = H9
    have s9 : Same H6 H9 := by rw [← hH9]; exact fun b o z => same_upd nsp b o (same_upd hp6 b o (same_upd hf5 b o (a4 b o (sb3 b o (a13 b o z)))))
    have hsp : H9 sp = some (.lst (ss.map V.str)) := by rw [← hH9]; exact upd_same
    have s9H : Same Hn H9 := fun b o z => s9 b o (s6 b o z)
    have nsH : Hn sp = none := by
      cases z : Hn sp with
      | none => rfl
      | some o => exact absurd (same_upd hp6 _ _ (same_upd hf5 _ _ (a4 _ _ (sb3 _ _ (a13 _ _ (s6 _ _ z)))))) (by rw [nsp]; exact fun h => nomatch h)
    clear hH9 nsp hp6 hf5 a4 sb3 hf4 hd bt hm8 free3 nm3 hD3 M7 hm7 s7 hf3' a13 pmS upS e6 mem6 nd6
    have hm9 := s9H m _ hm
    have M9 := moves_up (Q9.Same.sq s9H) M
    -- the methods
    refine ⟨m, .dT kvs, hm9, trivial, fun od4 => ⟨_, rfl, m, od4, rfl, .inr ⟨kvs, upd_same, fun D4 hD4 => ?_⟩⟩⟩
    have nm4 : m ≠ D4 := ne_of_none upd_same hD4
    have free4 : H9 D4 = none := by rw [upd_ne nm4.symm] at hD4; exact hD4
    refine coll_it walk_keysT (fun i Hn' => Hn' m = some (.frz od4 (.dT kvs)) ∧ But m H9 Hn' ∧ ∃ ks, Hn' D4 = some (SetKs P w D4 ks) ∧ Coll ((methodsIn mv).map kInr) i ks) ?_ (fun i Hn' _ p => p.1) ?_ ?_
    · exact ⟨by rw [upd_ne nm4]; exact upd_same, fun b o ne e => by rw [upd_ne (ne_of_none e free4), upd_ne ne]; exact e, [], upd_same, Coll.zero _⟩
    · rintro i y Ha Hb hi ⟨hm1', bt, ks, hks, cl⟩ ⟨rfl, k0, v, q0, hk, rfl, hq⟩
      obtain ⟨e, hev, ek, _⟩ := paired_at M9.ent i _ hk
      simp only at ek
      subst ek
      have hq' : Hb q0 = some (.tup [.str e.1.1, .str e.1.2]) := hq
      have at_ : ((methodsIn mv).map kInr)[i]? = some (kInr e.1.2) := by
        unfold methodsIn
        rw [List.getElem?_map, List.getElem?_map, hev]
        rfl
      refine ⟨q0, _, rfl, .of hq', rfl, _, _, rfl, _, _, rfl, rfl, rfl, ?_⟩
      refine ⟨_, rfl, kInr e.1.2, ks, rfl, hks, S.methods ks cl.nd cl.sub, fun ks' ad => ?_⟩
      refine ⟨by rw [upd_ne nm4]; exact hm1', fun b o ne z => ?_, ks', upd_same, cl.next at_ ad⟩
      rw [upd_ne (ne_of_none z free4)]
      exact bt b o ne z
    rintro Ha ⟨hma, bt, ks, hks, cl⟩
    have el4 : ((methodsIn mv).map kInr).take kvs.length = (methodsIn mv).map kInr := List.take_of_length_le (by unfold methodsIn; rw [List.length_map, List.length_map, len]; exact Nat.le_refl _)
    have mem4 : ∀ j, j ∈ ks ↔ j ∈ (methodsIn mv).map kInr := fun j => by rw [cl.mem j, el4]
    obtain ⟨ss4, e4⟩ := texts_of mem4
    refine ⟨hma, D4, ss4, rfl, (by rw [upd_ne nm4.symm, hks, e4]; rfl), fun ms mp pmM upM nmp => ?_⟩
    have tM : Told (methodsIn mv) ms := told_of e4 cl.nd mem4 pmM upM
    have sb4 := bt.back hm9
    generalize hH10 : upd (upd Ha m (.dT kvs)) mp _ = H10
    have s10 : Same H9 H10 := by rw [← hH10]; exact fun b o z => same_upd nmp b o (sb4 b o z)
    have hmp : H10 mp = some (.lst (ms.map V.str)) := by rw [← hH10]; exact upd_same
    have nmH : Hn mp = none := by
      cases z : Hn mp with
      | none => rfl
      | some o => exact absurd (sb4 _ _ (s9H _ _ z)) (by rw [nmp]; exact fun h => nomatch h)
    clear hH10 sb4 nmp pmM upM e4 mem4 el4 cl hks bt hma free4 nm4 hD4
    have s10_4 : Same Hn H10 := fun b o z => s10 b o (s9 b o (s46 b o z))
    -- the words
    have fewW : FewIn (((flatO mv).map (·.1)).map kInr) := few_same (fun z hz => flat_words.mp hz) S.words
    refine ⟨_, rfl, pp, rfl, ⟨_, s10_4.seq hvs⟩, fun D5 hD5 => ?_⟩
    refine coll_it (walk_list (xs := vs)) (fun i Hn' => Same H10 Hn' ∧ ∃ ks, Hn' D5 = some (SetKs P w D5 ks) ∧ Coll (((flatO mv).map (·.1)).map kInr) i ks) ⟨same_upd hD5, [], upd_same, Coll.zero _⟩ (fun i Hn' _ p => sqL_up (Q9.Same.sq p.1) (s10_4.seq hvs)) ?_ ?_
    · rintro i y Ha Hb hi ⟨s5, ks, hks, cl⟩ ⟨rfl, hy⟩
      obtain ⟨o, ho, q5, rfl, hq5⟩ := paired_at pvs i _ hy
      have at_ : (((flatO mv).map (·.1)).map kInr)[i]? = some (kInr o.1) := by rw [List.getElem?_map, List.getElem?_map, ho]; rfl
      refine ⟨q5, _, rfl, same_sqT s5 (same_sqT s10_4 hq5), rfl, _, _, rfl, _, _, rfl, rfl, rfl, ?_⟩
      exact ⟨_, rfl, kInr o.1, ks, rfl, hks, fewW ks cl.nd cl.sub, fun ks' ad => ⟨fun b u z => by rw [upd_ne (ne_of_none z hD5)]; exact s5 b u z, ks', upd_same, cl.next at_ ad⟩⟩
    rintro Ha ⟨s5, ks, hks, cl⟩
    have el5 : (((flatO mv).map (·.1)).map kInr).take vs.length = ((flatO mv).map (·.1)).map kInr := List.take_of_length_le (by rw [List.length_map, List.length_map, lv]; exact Nat.le_refl _)
    have mem5 : ∀ j, j ∈ ks ↔ j ∈ ((flatO mv).map (·.1)).map kInr := fun j => by rw [cl.mem j, el5]
    obtain ⟨ss5, e5⟩ := texts_of mem5
    refine ⟨D5, ss5, rfl, (by rw [hks, e5]; rfl), fun ws wp pmW upW nwp => ?_⟩
    have tW : Told ((flatO mv).map (·.1)) ws := told_of e5 cl.nd mem5 pmW upW
    generalize hH11 : upd Ha wp _ = H11
    have s11 : Same H10 H11 := by rw [← hH11]; exact fun b o z => same_upd nwp b o (s5 b o z)
    have hwp : H11 wp = some (.lst (ws.map V.str)) := by rw [← hH11]; exact upd_same
    clear hH11 nwp pmW upW e5 mem5 el5 cl hks s5 hD5
    have s11H : Same Hn H11 := fun b o z => s11 b o (s10 b o (s9H b o z))
    -- are they right
    have rightS : ∀ z ∈ ss, nameB z = true := fun z hz => by
      rcases mem_states.mp ((tS.2.2 z).1 hz) with h | h | ⟨e, h1, h2 | ⟨o, h3, h4⟩⟩
      · rw [h]; exact R.start
      · exact R.ends z h
      · rw [h2]; exact (R.keys e h1).1
      · rw [h4]; exact (R.outs e h1 o h3).2
    have rightM : ∀ z ∈ ms, nameB z = true := fun z hz => by
      obtain ⟨e, h1, h2⟩ := List.mem_map.mp ((tM.2.2 z).1 hz)
      rw [← h2]
      exact (R.keys e h1).2
    have rightW : ∀ z ∈ ws, wordB z = true := fun z hz => by
      obtain ⟨o, h1, h2⟩ := List.mem_map.mp ((tW.2.2 z).1 hz)
      obtain ⟨e, h3, h4⟩ := mem_flatO.mp h1
      rw [← h2]
      exact (R.outs e h3 o h4).1
    have lW := told_len tW
    have lS := told_len tS
    have lM := told_len tM
    rw [List.length_map] at lW
    have lMm : (methodsIn mv).length = mv.length := by unfold methodsIn; rw [List.length_map]
    refine ⟨_, rfl, _, rfl, wp, sp, mp, ws, ss, ms, rfl, .of hwp, .of (s11 _ _ (s10 _ _ hsp)), .of (s11 _ _ hmp), rightW, rightS, rightM, by omega, by omega, by omega, fun H12 s12 => ⟨_, rfl, ?_⟩⟩
    have s12H : Same Hn H12 := fun b o z => s12 b o (s11H b o z)
    by_cases cb : ss.length ≤ 60 ∧ ms.length ≤ 8
    case neg =>
      have e1 : (decide (ss.length ≤ 60) && decide (ms.length ≤ 8)) = false := by rw [Bool.and_eq_false_iff, decide_eq_false_iff_not, decide_eq_false_iff_not]; omega
      rw [e1]
      rcases way with ⟨ft, _⟩ | ⟨_, wrong⟩
      · exact (cb ⟨ft.2.1 ss tS.2.1 fun z hz => (tS.2.2 z).1 hz, ft.2.2 ms tM.2.1 fun z hz => (tM.2.2 z).1 hz⟩).elim
      refine iteT ⟨(by show 1 ≤ 1000; decide), fun a na => ⟨a, _, rfl, upd_same, fun dx nd ne => ?_⟩⟩
      obtain ⟨r1, r2, r3, r4, r5⟩ := raised (C := CB) (fs := [("part", .str "moves")]) s12H na nd ne
      exact ⟨rfl, dx, _, r1, r2, r3, wrong _ dx r4 r5 upd_same⟩
    have e1 : (decide (ss.length ≤ 60) && decide (ms.length ≤ 8)) = true := by rw [decide_eq_true cb.1, decide_eq_true cb.2]; rfl
    rw [e1]
    refine iteF ?_
    have hm12 := s12H m _ hm
    have M12 := moves_up (Q9.Same.sq s12H) M
    -- no outcome twice
    refine ⟨m, .dT kvs, hm12, trivial, fun od6 => ⟨_, rfl, m, od6, kvs, rfl, upd_same, fun D6 hD6 => ?_⟩⟩
    have nm6 : m ≠ D6 := ne_of_none upd_same hD6
    have free6 : H12 D6 = none := by rw [upd_ne nm6.symm] at hD6; exact hD6
    refine lc_it walk_valuesT (fun i Hn' => Hn' m = some (.frz od6 (.dT kvs)) ∧ But m H12 Hn' ∧ Hn' D6 = some (.lst [])) ?_ (fun i Hn' _ p => p.1) ?_ ?_
    · exact ⟨by rw [upd_ne nm6]; exact upd_same, fun b o ne e => by rw [upd_ne (ne_of_none e free6), upd_ne ne]; exact e, upd_same⟩
    · rintro i y Ha Hb hi ⟨hma, bt, hd⟩ ⟨rfl, k0, hk⟩
      obtain ⟨e, hev, ek, us, row, each⟩ := paired_at M12.ent i _ hk
      have he_mv := List.mem_of_getElem? hev
      have row2 := row_sq (bt.sq hm12) row
      have each2 : Paired (OutT K Hb) us e.2 := L2.Paired.mapP each fun _ _ ⟨q, e, h⟩ => ⟨q, e, sqT_up (bt.sq hm12) h⟩
      have lu : us.length = e.2.length := PySem.Paired.length each
      have l8 := c8 e he_mv
      refine ⟨rfl, _, rfl, y, us, e.2.map keyOf, rfl, row2, paired_keys each2, by omega, fun p L hp nd mem => ⟨p, L, rfl, upd_same, ?_⟩⟩
      have sp1 := same_upd (o := SetTs P w p L) hp
      have ll : L.length = e.2.length := by
        have h := (unlike_len (l := e.2.map keyOf) nd fun k => mem k).2 (keys_nodup (R.outsU e he_mv))
        rw [List.length_map, List.length_map] at h
        exact h
      refine ⟨_, rfl, y, us, rfl, row_up sp1 row2, rfl, _, rfl, iteNS (by rw [ll, lu]) ?_⟩
      exact ⟨sp1 _ _ hma, bt.trans (But.of sp1), sp1 _ _ hd⟩
    rintro Ha ⟨hma, bt, hd⟩
    have sb6 := bt.back hm12
    refine ⟨hma, false, .inl ⟨[], .of (by rw [upd_ne nm6.symm]; exact hd), rfl⟩, iteF ?_⟩
    generalize hH13 : upd Ha m _ = H13
    have s13 : Same H12 H13 := by rw [← hH13]; exact sb6
    have s13H : Same Hn H13 := fun b o z => s13 b o (s12H b o z)
    clear hH13 sb6 hd bt hma free6 nm6 hD6
    have hm13 := s13H m _ hm
    have M13 := moves_up (Q9.Same.sq s13H) M
    -- the own moves
    refine ⟨_, rfl, _, rfl, m, .dT kvs, hm13, trivial, fun od7 => ⟨_, rfl, m, od7, kvs, rfl, upd_same, fun D7 hD7 => ?_⟩⟩
    have nm7 : m ≠ D7 := ne_of_none upd_same hD7
    have free7 : H13 D7 = none := by rw [upd_ne nm7.symm] at hD7; exact hD7
    refine coll_it walk_itemsT (fun i Hn' => Hn' m = some (.frz od7 (.dT kvs)) ∧ But m H13 Hn' ∧ ∃ (kvs' : List (List Key × V)) (mvs : Mv), Hn' D7 = some (.dT kvs') ∧ kvs'.map (·.1) = (kvs.take i).map (·.1) ∧ Paired (TupE K Hn') kvs' mvs ∧ Paired SortOf mvs (mv.take i)) ?_ (fun i Hn' _ p => p.1) ?_ ?_
    · exact ⟨by rw [upd_ne nm7]; exact upd_same, fun b o ne e => by rw [upd_ne (ne_of_none e free7), upd_ne ne]; exact e, [], [], upd_same, by simp, .nil, by simp; exact .nil⟩
    · rintro i y Ha Hb hi ⟨hma, bt, kvs', mvs, hd, ekeys, tups, so⟩ ⟨Tq, k0, v, q0, hk, rfl, hT, hq, rfl⟩
      obtain ⟨e, hev, ek, us, row, each⟩ := paired_at M13.ent i _ hk
      simp only at ek
      subst ek
      have he_mv := List.mem_of_getElem? hev
      have sT := same_upd (o := .tup [.ref q0, v]) hT
      have row2 := row_up sT (row_sq (bt.sq hm13) row)
      obtain ⟨ps, eps, eos, hps⟩ := outs_ps2 each
      have hps2 : ∀ p ∈ ps, SqT K (upd Ha Tq (.tup [.ref q0, v])) p.1 [.str p.2.1, .str p.2.2] := fun p hp => same_sqT sT (sqT_up (bt.sq hm13) (hps p hp))
      rw [eps] at row2
      refine ⟨Tq, _, rfl, .of upd_same, rfl, _, _, rfl, _, _, rfl, rfl, rfl, ?_⟩
      refine ⟨_, rfl, _, rfl, v, ps, rfl, row2, hps2, fun qs p pm up hp => ⟨p, _, rfl, .inl ⟨.of upd_same, fun l hl => ?_⟩⟩⟩
      have sp1 := same_upd (o := .lst ((qs.map (·.1)).map V.ref)) hp
      have sl := same_upd (o := .tup ((qs.map (·.1)).map V.ref)) hl
      generalize hHc : upd (upd (upd Ha Tq (.tup [.ref q0, v])) p _) l _ = Hc
      have sc : Same Ha Hc := by rw [← hHc]; exact fun b o z => sl b o (sp1 b o (sT b o z))
      have hlc : Hc l = some (.tup ((qs.map (·.1)).map V.ref)) := by rw [← hHc]; exact upd_same
      have hqs : ∀ x ∈ qs, SqT K Hc x.1 [.str x.2.1, .str x.2.2] := fun x hx => by
        rw [← hHc]
        exact same_sqT sl (same_sqT sp1 (hps2 x (pm.mem_iff.mp hx)))
      have lk : kvs'.length ≤ 1000000 := by
        have h := congrArg List.length ekeys
        rw [List.length_map, List.length_map, List.length_take] at h
        omega
      refine ⟨q0, [.inr e.1.1, .inr e.1.2], kvs', rfl, sc _ _ hq, sc _ _ hd, sz _ (by omega), ?_⟩
      have nk : valV kvs' [kInr e.1.1, kInr e.1.2] = none := by
        cases c : valV kvs' [kInr e.1.1, kInr e.1.2] with
        | none => rfl
        | some u =>
          unfold valV at c
          obtain ⟨kv, g1, g2⟩ := Option.map_eq_some_iff.mp c
          have g3 := List.mem_of_find?_eq_some g1
          have g4 : kv.1 = [kInr e.1.1, kInr e.1.2] := by simpa using List.find?_some g1
          have g5 : [kInr e.1.1, kInr e.1.2] ∈ (kvs.take i).map (·.1) := by rw [← ekeys, ← g4]; exact List.mem_map.mpr ⟨kv, g3, rfl⟩
          have nd := M.nd
          have e1 : kvs.take (i + 1) = kvs.take i ++ [([kInr e.1.1, kInr e.1.2], v)] := take_one_more hk
          have nd1 : ((kvs.take (i + 1)).map (·.1)).Nodup := by rw [List.map_take]; exact List.Sublist.nodup (List.take_sublist _ _) nd
          rw [e1, List.map_append, List.nodup_append] at nd1
          exact (nd1.2.2 _ g5 _ (List.mem_singleton.mpr rfl) rfl).elim
      have upE : ∀ x ∈ kvs', True := fun _ _ => trivial
      have ne7 : ∀ {b : Addr} {xs : List V}, Hc b = some (.tup xs) → b ≠ D7 := fun {b xs} h z => by rw [z, sc _ _ hd] at h; cases h
      have butD : ∀ u, But D7 Hc (upd Hc D7 u) := fun u => But.upd
      have tupsC : Paired (TupE K Hc) kvs' mvs := L2.Paired.mapP tups fun _ _ h => tupE_but (D := D7) (But.of sc) hd h
      refine ⟨by rw [upd_ne nm7]; exact sc _ _ hma, fun b o ne z => ?_, _, mvs ++ [(e.1, qs.map (·.2))], upd_same, ?_, ?_, ?_⟩
      · rw [upd_ne (ne_of_none z free7)]
        exact sc _ _ (bt b o ne z)
      · rw [putK_new _ nk, List.map_append, ekeys, take_one_more hk, List.map_append]
        rfl
      · rw [putK_new _ nk]
        refine paired_append (L2.Paired.mapP tupsC fun _ _ h => tupE_but (butD _) (sc _ _ hd) h) (.cons ?_ .nil)
        exact tupE_but (butD _) (sc _ _ hd) (show TupE K Hc ([kInr e.1.1, kInr e.1.2], .ref l) (e.1, qs.map (·.2)) from ⟨rfl, l, _, rfl, hlc, paired_outs hqs⟩)
      · rw [take_one_more hev]
        refine paired_append so (.cons ⟨rfl, ?_, up⟩ .nil)
        rw [← eos]
        exact pm.map _
    rintro Ha ⟨hma, bt, kvs', mvs, hd, ekeys, tups, so⟩
    rw [List.take_length] at ekeys
    rw [len, List.take_length] at so
    have sb7 := bt.back hm13
    have nd' : (kvs'.map (·.1)).Nodup := by rw [ekeys]; exact M.nd
    refine ⟨hma, (by show 3 ≤ sizeLine; decide), fun t nt => ?_⟩
    rcases way with ⟨_, right⟩ | ⟨nf, _⟩
    case inr =>
      exact (nf ⟨c8, fun ys nd sub => Nat.le_trans (nodup_le ys ss nd fun z hz => (tS.2.2 z).2 (sub z hz)) cb.1, fun zs nd sub => Nat.le_trans (nodup_le zs ms nd fun z hz => (tM.2.2 z).2 (sub z hz)) cb.2⟩).elim
    have st := same_upd (o := .tup [.ref sp, .ref mp, .ref D7]) nt
    have s14 : ∀ b o, H13 b = some o → (upd (upd Ha m (.dT kvs)) t (.tup [.ref sp, .ref mp, .ref D7])) b = some o := fun b o z => st b o (sb7 b o z)
    have hsp14 : H13 sp = some (.lst (ss.map V.str)) := s13 _ _ (s12 _ _ (s11 _ _ (s10 _ _ hsp)))
    have hmp14 : H13 mp = some (.lst (ms.map V.str)) := s13 _ _ (s12 _ _ (s11 _ _ hmp))
    refine right _ t sp mp D7 ss ms kvs' mvs (fun b o z => s14 b o (s13H b o z)) upd_same (s14 _ _ hsp14) tS (s14 _ _ hmp14) tM (st _ _ (by rw [upd_ne nm7.symm]; exact hd)) ?_ nsH nmH (by
      cases z : Hn D7 with
      | none => rfl
      | some o => rw [s13H _ _ z] at free7; cases free7)
    refine own_of nd' ?_ so c8
    have hmT : Ha m = some (.frz od7 (.dT kvs)) := hma
    refine L2.Paired.mapP tups fun kv e h => ?_
    obtain ⟨e1, t1, us, e2, e3, p⟩ := h
    have n1 : t1 ≠ m := fun z => by rw [z, hma] at e3; cases e3
    refine ⟨e1, t1, us, e2, st _ _ (by rw [upd_ne n1]; exact e3), L2.Paired.mapP p fun _ _ ⟨q, e, g⟩ => ⟨q, e, same_sqT st ?_⟩⟩
    rcases g with (g | ⟨o, g⟩) | g
    · exact .inl (.inl (by rw [upd_ne (fun z => by rw [z, hma] at g; cases g)]; exact g))
    · exact .inl (.inr ⟨o, by rw [upd_ne (fun z => by rw [z, hma] at g; cases g)]; exact g⟩)
    · exact .inr g
theorem ok_readT {f : Addr} {fd : FuncData} (G : FnOk P w K mg base (L2.CX P w) 5 f fd ["moves", "start", "ends"] (spReadG CB K)) : FnOk P w K mg base (L2.CX P w) 5 f fd ["moves", "start", "ends"] (spRead CB K) :=
  G.imp fun vs H Q E ⟨m, nm, st, ex, es, kvs, mv, a, b, c, M, d, e, way⟩ => ⟨m, nm, st, ex, es, kvs, mv, a, b, c, M.g, d, e, way⟩
end
end Q9
end
-- QInit2
section
set_option maxRecDepth 100000
set_option maxHeartbeats 4000000
namespace Q9
open PySem L2
/-! a kind made of moves whose outcomes are tuples or lists -/
theorem movesG_sq {K : PySem.W.Frag} {H H' : Hp} (s : SameSq H H') {kvs : List (List Key × V)} {mv : Mv} (M : MovesG K H kvs mv) : MovesG K H' kvs mv :=
  ⟨M.nd, L2.Paired.mapP M.ent fun _ _ ⟨e, vs, r, p⟩ => ⟨e, vs, row_sq s r, L2.Paired.mapP p fun _ _ ⟨q, e, h⟩ => ⟨q, e, h.imp (sqL_up s) (sqT_up s)⟩⟩⟩
theorem keys_nodup_ofG {K : PySem.W.Frag} {H : Hp} {kvs : List (List Key × V)} {mv : Mv} (M : MovesG K H kvs mv) : (mv.map (·.1)).Nodup := by
  have e : kvs.map (·.1) = mv.map fun e => keyOf e.1 := by
    have key : ∀ {kvs : List (List Key × V)} {mv : Mv}, Paired (EntG K H) kvs mv → kvs.map (·.1) = mv.map fun e => keyOf e.1 := by
      intro kvs mv p
      induction p with
      | nil => rfl
      | @cons kv e a b h t ih => rw [List.map_cons, List.map_cons, ih, h.1]; rfl
    exact key M.ent
  have nd := M.nd
  rw [e] at nd
  refine List.pairwise_map.mpr (List.Pairwise.imp (fun {a b} ne e => ne ?_) (List.pairwise_map.mp nd))
  rw [e]
def spKindG (C CB : Addr) (K : PySem.W.Frag) : Sp := fun vs H Q E => ∃ (x dx m : Addr) (nm st : Str) (ex : V) (es : List Str) (kvs : List (List Key × V)) (mv : Mv), vs = [.ref x, .str nm, .str st, ex, .ref m] ∧
  H x = some (.ins C dx []) ∧ H dx = some (.own x) ∧ Row K H ex (es.map V.str) ∧ H m = some (.dT kvs) ∧ MovesG K H kvs mv ∧ RightParts nm st es mv ∧ Small st es mv ∧
  ((Fits st es mv ∧ ∀ (H' : Hp) (s me d : Addr), But x H H' → KAf C K s me d H' x nm st es mv → H s = none → H me = none → H d = none → Q .non H') ∨ (¬ Fits st es mv ∧ ∀ (H' : Hp) (d : Addr), But x H H' → H d = none → H' d = some (.xd [("part", .str "moves")]) → E (.ref CB) (some d) H'))
section
variable {P : Program} {w : World} {K : PySem.W.Frag} {mg : Str → Option Value} {base : Heap} {C CB fC fRd fName fUn fI : Addr}
theorem ok_initG {f : Addr} {fd dC dR : FuncData} (F : Fun K "__init__" "Kind.__init__" (kMeth 0) f fd) (T : TInit K mg C fC fRd) (G : FnOk P w K mg base (L2.CX P w) 4 fC dC ["name", "start", "ends"] (spCheckP K)) (b : Binds K dC ["name", "start", "ends"] [])
    (GR : FnOk P w K mg base (L2.CX P w) 5 fRd dR ["moves", "start", "ends"] (spReadG CB K)) (bR : Binds K dR ["moves", "start", "ends"] []) :
    FnOk P w K mg base (L2.CX P w) 6 f fd kindPs (spKindG C CB K) := by
  refine F.okX scK0 (fun vs H Q E h => ?_) (fun cdv A outer s H vs Q E hr h => ?_)
  · obtain ⟨x, dx, m, nm, st, ex, es, kvs, mv, rfl, _⟩ := h
    rfl
  · obtain ⟨x, dx, m, nm, st, ex, es, kvs, mv, rfl, hx, hd, he, hm, M, R, S, way⟩ := h
    refine ⟨_, pss_cons (ps_expr (pe_call G (hr.mono (by decide)) (by rfl) T.gC T.kC b .nil pass0X (pa_cons (pv 1) (pa_cons (pv 2) (pa_cons (pv 3) pa_nil)))))
      (pss_cons (ps_fld (pv 0) (pv 1) rfl)
      (pss_cons (ps_fld (pv 0) (pv 2) rfl)
      (pss_cons (ps_fld (pv 0) (pe_callTy cr_tupOf (by rfl) T.tup (by decide +kernel) (pa_cons (pe_callB cr_sortedRs (by rfl) T.sorted (by decide +kernel) (pa_cons (pv 3) pa_nil)) pa_nil)) rfl)
      (pss_one (ps_asg (pe_callS GR hr (by rfl) T.gR T.kR bR (fun σ => passAt (takes_of rfl rfl rfl rfl) σ) (pa_cons (pv 4) (pa_cons (pv 2) (pa_cons (pv 3) pa_nil))))
        (pg_tup rfl (pgs_cons (pg_fld (pv 0)) (pgs_cons (pg_fld (pv 0)) (pgs_cons (pg_fld (pv 0)) pgs_nil))))))))), ?_⟩
    have fewE : es.length + 1 < scanBound := by
      have h := S.states (es.map kInr) ((nodup_map_inr es).2 R.unlike) fun k hk => by
        obtain ⟨z, h1, h2⟩ := List.mem_map.mp hk
        exact List.mem_map.mpr ⟨z, mem_states.mpr (.inr (.inl h1)), h2⟩
      rwa [List.length_map] at h
    refine ⟨_, rfl, _, rfl, _, rfl, nm, st, ex, es, rfl, he, R.name, R.start, R.ends, R.unlike, fewE, fun H1 s1 => ?_⟩
    refine ⟨_, rfl, _, rfl, x, C, dx, _, rfl, s1 _ _ hx, T.cl, T.nN, by decide, ?_⟩
    refine ⟨_, rfl, _, rfl, x, C, dx, _, rfl, upd_same, T.cl, T.nS, Nat.lt_of_le_of_lt (putF_le (Nat.le_refl _)) (by decide), ?_⟩
    generalize hH2 : upd (upd H1 x _) x _ = H2
    have b2 : But x H H2 := by rw [← hH2]; exact fun b o ne z => by rw [upd_ne ne, upd_ne ne]; exact s1 b o z
    have hx2 : H2 x = some (.ins C dx (putF "_start" (.str st) (putF "_name" (.str nm) []))) := by rw [← hH2]; exact upd_same
    clear hH2
    refine ⟨_, rfl, ex, es, rfl, row_sq (butIns b2 hx) he, fun ys p pm up hp => ⟨p, _, rfl, .inl ⟨.of upd_same, fun l hl => ?_⟩⟩⟩
    have sp := same_upd (o := .lst (ys.map V.str)) hp
    have sl := same_upd (o := .tup (ys.map V.str)) hl
    have hx3 : upd (upd H2 p (.lst (ys.map V.str))) l (.tup (ys.map V.str)) x = some (.ins C dx (putF "_start" (.str st) (putF "_name" (.str nm) []))) := sl _ _ (sp _ _ hx2)
    refine ⟨_, rfl, x, C, dx, _, rfl, hx3, T.cl, T.nE, Nat.lt_of_le_of_lt (putF_le (putF_le (Nat.le_refl _))) (by decide), ?_⟩
    have nlx : l ≠ x := fun z => by rw [← z] at hx2; rw [sp _ _ hx2] at hl; cases hl
    generalize hH4 : upd (upd (upd H2 p (.lst (ys.map V.str))) l (.tup (ys.map V.str))) x _ = H4
    have b4 : But x H H4 := by rw [← hH4]; exact fun b o ne z => by rw [upd_ne ne]; exact sl _ _ (sp _ _ (b2 b o ne z))
    have hx4 : H4 x = some (.ins C dx (putF "_ends" (.ref l) (putF "_start" (.str st) (putF "_name" (.str nm) [])))) := by rw [← hH4]; exact upd_same
    have hl4 : H4 l = some (.tup (ys.map V.str)) := by rw [← hH4, upd_ne nlx]; exact upd_same
    clear hH4 hx3 sp sl hl hp
    have nmx : m ≠ x := fun z => by rw [z, hx] at hm; cases hm
    have sq4 := butIns b4 hx
    refine ⟨_, rfl, _, rfl, _, rfl, m, nm, st, ex, es, kvs, mv, rfl, row_sq sq4 he, b4 _ _ nmx hm, movesG_sq sq4 M, R, S, ?_⟩
    rcases way with ⟨ft, right⟩ | ⟨nf, wrong⟩
    · refine .inl ⟨ft, fun H5 t s5 me d ss ms kvs' mvs sm ht hs tS hme tM hd5 own f1 f2 f3 => ?_⟩
      have hx5 := sm _ _ hx4
      have hl5 := sm _ _ hl4
      refine ⟨t, _, rfl, .of ht, rfl, _, _, rfl, ⟨_, rfl, x, C, dx, _, rfl, hx5, T.cl, T.nSt, Nat.lt_of_le_of_lt (putF_le (putF_le (putF_le (Nat.le_refl _)))) (by decide), _, _, rfl, ⟨_, rfl, x, C, dx, _, rfl, upd_same, T.cl, T.nMe, Nat.lt_of_le_of_lt (putF_le (putF_le (putF_le (putF_le (Nat.le_refl _))))) (by decide), _, _, rfl, ⟨_, rfl, x, C, dx, _, rfl, upd_same, T.cl, T.nM, Nat.lt_of_le_of_lt (putF_le (putF_le (putF_le (putF_le (putF_le (Nat.le_refl _)))))) (by decide), rfl, ?_⟩⟩⟩⟩
      have old : ∀ {b : Addr}, H4 b = none → H b = none := fun {b} h => by
        cases z : H b with
        | none => rfl
        | some o =>
          by_cases c : b = x
          · rw [c, hx4] at h; cases h
          · rw [b4 _ _ c z] at h; cases h
      have far : ∀ {b : Addr} {o : HO}, H5 b = some o → (∀ cx fs, o ≠ .ins C cx fs) → b ≠ x := fun {b o} h n z => by
        rw [z, hx5] at h
        exact n _ _ (Option.some.inj h).symm
      have keep : ∀ {b : Addr} {o : HO} (u1 u2 u3 : HO), H5 b = some o → (∀ cx fs, o ≠ .ins C cx fs) → upd (upd (upd H5 x u1) x u2) x u3 b = some o := fun {b o} u1 u2 u3 h n => by
        have ne := far h n
        rw [upd_ne ne, upd_ne ne, upd_ne ne]
        exact h
      refine right _ s5 me d (fun b o ne z => by rw [upd_ne ne, upd_ne ne, upd_ne ne]; exact sm b o (b4 b o ne z)) ⟨⟨dx, l, ys, ss, ms, kvs', mvs, upd_same, keep _ _ _ hl5 (fun _ _ z => nomatch z), pm, up, keep _ _ _ hs (fun _ _ z => nomatch z), tS, keep _ _ _ hme (fun _ _ z => nomatch z), tM, keep _ _ _ hd5 (fun _ _ z => nomatch z), ?_⟩, S, ft, keys_nodup_ofG M⟩ (old f1) (old f2) (old f3)
      have b5 : ∀ u1 u2 u3 : HO, But x H5 (upd (upd (upd H5 x u1) x u2) x u3) := fun u1 u2 u3 b o ne z => by rw [upd_ne ne, upd_ne ne, upd_ne ne]; exact z
      exact ownMv_sq (fun t vs h => keep _ _ _ h (fun _ _ z => nomatch z)) (butIns (b5 _ _ _) hx5) own
    · refine .inr ⟨nf, fun H5 d sm hn at_ => ?_⟩
      refine wrong H5 d (fun b o ne z => sm b o (b4 b o ne z)) ?_ at_
      cases h : H d with
      | none => rfl
      | some o =>
        by_cases c : d = x
        · rw [c, hx4] at hn; cases hn
        · rw [b4 _ _ c h] at hn; cases hn
theorem ok_initT {f : Addr} {fd : FuncData} (G : FnOk P w K mg base (L2.CX P w) 6 f fd kindPs (spKindG C CB K)) : FnOk P w K mg base (L2.CX P w) 6 f fd kindPs (spKindI C CB K (KAc C K)) :=
  G.imp fun vs H Q E ⟨x, dx, m, nm, st, ex, es, kvs, mv, a, b, c, d, e, M, h, i, way⟩ => ⟨x, dx, m, nm, st, ex, es, kvs, mv, a, b, c, d, e, M.g, h, i, way.imp (fun ⟨ft, r⟩ => ⟨ft, fun H' s me d bt kf _ _ _ => r H' bt kf.kac⟩) id⟩
end
end Q9
end
-- QEnumT
section
set_option maxRecDepth 100000
set_option maxHeartbeats 4000000
/-! enumerate(t), t a tuple -/
namespace PySem
open Sem (wp)
section
variable {prog : Program} {w : World} {A : Around} {E : Value → Shared → Prop} {s : Shared}
theorem q9_nextOf_tup {it t : Addr} {i : Nat} {its : Array Value} {x : Value} {Q : Value → Shared → Prop} (atI : s.heap.IsTupleIter it t i) (atT : s.heap.IsTuple t its) (hx : its[i]? = some x)
    (go : ∀ h', h'.IsTupleIter it t (i + 1) → Heap.SameBut it s.heap h' → Q x { s with heap := h' }) : wpAny (model prog w) A (Builtin.SmallTypes.nextOf (.ref it)) Q E s := by
  obtain ⟨ob, lo, lc, ld⟩ := id atI
  obtain ⟨ot, to, _, nt, td⟩ := atT
  unfold Builtin.SmallTypes.nextOf
  refine wpAny_bind (wpAny_callSpecial?_slot (name := Str.ofString "__next__") atI.typeIs F.slot_tuple_iterator_next (wpAny_call_entry F.slot_tuple_iterator_next atI.typeIs F.entry_tuple_iterator_next ?_ (F.args_tuple_iterator_next_1 _)))
  show wpAny _ _ (field (.ref it) 0 >>= _) _ _ s
  refine wpAny_bind (wpAny_field lo ld (x := .ref t) rfl ?_)
  show wpAny _ _ (if (Value.ref t == Value.none) = true then _ else _) _ _ s
  rw [if_neg (show ¬ ((Value.ref t == Value.none) = true) from Bool.false_ne_true)]
  show wpAny _ _ (field (.ref it) 1 >>= _) _ _ s
  refine wpAny_bind (wpAny_field lo ld (x := .int i 0) rfl ?_)
  show wpAny _ _ (seqItems? (.ref t) >>= _) _ _ s
  refine wpAny_bind (wpAny_seqItems to td ?_)
  simp only [Int.toNat_natCast, hx]
  refine wpAny_bind (wpAny_setField lo ld (by simp) (wpAny_pure ⟨x, rfl, wpAny_pure (go _ ?_ (Heap.SameBut.update ..))⟩))
  exact ⟨_, Heap.get?_update_self _ lo (Obj.isFreed_of_fields (Obj.data_mapFields ld _)), (Obj.cls_mapFields ..).trans lc, by rw [Obj.data_mapFields ld]; simp [rawInt]⟩
theorem q9_nextOf_tupEnd {it t : Addr} {i : Nat} {its : Array Value} {Q : Value → Shared → Prop} (calm : A.handled = none) (atI : s.heap.IsTupleIter it t i) (atT : s.heap.IsTuple t its) (hx : its[i]? = none)
    (out : ∀ h' e, Heap.ExtBut it s.heap h' → (∃ o, h'.get? e = some o ∧ o.cls = .type "StopIteration") → E (.ref e) { s with heap := h' }) : wpAny (model prog w) A (Builtin.SmallTypes.nextOf (.ref it)) Q E s := by
  obtain ⟨ob, lo, lc, ld⟩ := id atI
  obtain ⟨ot, to, _, nt, td⟩ := atT
  unfold Builtin.SmallTypes.nextOf
  refine wpAny_bind (wpAny_callSpecial?_slot (name := Str.ofString "__next__") atI.typeIs F.slot_tuple_iterator_next (wpAny_call_entry F.slot_tuple_iterator_next atI.typeIs F.entry_tuple_iterator_next ?_ (F.args_tuple_iterator_next_1 _)))
  show wpAny _ _ (field (.ref it) 0 >>= _) _ _ s
  refine wpAny_bind (wpAny_field lo ld (x := .ref t) rfl ?_)
  show wpAny _ _ (if (Value.ref t == Value.none) = true then _ else _) _ _ s
  rw [if_neg (show ¬ ((Value.ref t == Value.none) = true) from Bool.false_ne_true)]
  show wpAny _ _ (field (.ref it) 1 >>= _) _ _ s
  refine wpAny_bind (wpAny_field lo ld (x := .int i 0) rfl ?_)
  show wpAny _ _ (seqItems? (.ref t) >>= _) _ _ s
  refine wpAny_bind (wpAny_seqItems to td ?_)
  simp only [Int.toNat_natCast, hx]
  refine wpAny_bind (wpAny_rule (wpAny_bind (wpAny_setField lo ld (by simp) ?_)))
  show wpAny _ _ (newExc (.type "StopIteration") [] >>= _) _ _ _
  refine wpAny_bind ?_
  simp only [newExc, newTuple]
  refine wpAny_bind (wpAny_newObj_type ?_ (by size_fits))
  refine wpAny_bind (m := firstArgMember _ _) (wpAny_of_eq (a := Value.none) (by first | rfl | (simp only [firstArgMember]; rfl)) ?_)
  refine wpAny_newObj_type ?_ (by size_fits)
  simp only [raiseNew]
  refine wpAny_bind (wpAny_handled ?_)
  first | rw [show A.in1.handled = none from calm] | rw [calm]
  refine wpAny_bind (wpAny_pure (wpAny_throw ?_))
  exact out _ _ (((Heap.SameBut.update ..).extBut.push _).push _) ⟨_, Heap.get?_push_size _ rfl, rfl⟩
end
theorem q9_draws_tup {prog : Program} {w : World} {A : Around} (calm : A.handled = none) (it t : Addr) (ne : t ≠ it) (its : Array Value) :
    Draws prog w A it [it, t] its.size (fun i v => its[i]? = some v) (fun i h => h.IsTupleIter it t i ∧ h.IsTuple t its) where
  live := fun _ _ z => let ⟨o, e, _⟩ := z.1; ⟨o, e⟩
  frame := fun _ _ _ z k => ⟨z.1.at fun o e => k it (by simp) o e, let ⟨o, e, r⟩ := z.2; ⟨o, k t (by simp) o e, r⟩⟩
  item := fun i s Q E lt z go => by
    refine q9_nextOf_tup z.1 z.2 (x := its[i]) (by simp [lt]) fun h' a b => ?_
    exact go _ h' s.toks (by simp [lt]) ⟨a, z.2.extBut b.extBut ne⟩ b
  done := fun s Q E z out => q9_nextOf_tupEnd calm z.1 z.2 (by simp) out
theorem q9_enum_newT (l : Addr) (its : Array Value) (n : Nat) (dct : Option Addr) (sl : Array (Option Value)) :
    Meets (Builtin.«enumerate.__new__» ⟨[.type "enumerate", .ref l], []⟩) (fun _ R s => s.heap.get? l = some { cls := .type "tuple", dict := dct, data := .seq its n, slots := sl } ∧
      R (.ok (.ret (.ref (s.heap.push { cls := .type "tuple_iterator", data := .fields #[.ref l, .int 0 0] }).objs.size)))
        { s with heap := (s.heap.push { cls := .type "tuple_iterator", data := .fields #[.ref l, .int 0 0] }).push { cls := .type "enumerate", data := .fields #[.none, .bool false, .ref s.heap.objs.size, rawInt 0, .none, .none] } }) :=
  .of_wp fun prog w A R s h => by
    obtain ⟨hp, g, d, tk, os⟩ := s
    obtain ⟨hl, h⟩ := h
    have hsub := sub_enumerate
    have hT : Heap.IsTuple (Shared.heap ⟨hp, g, d, tk, os⟩) l its := ⟨_, hl, rfl, n, rfl⟩
    wp_walk using AutoSeq1.wpAny_loadPart' hl
    refine wpAny_stack_any fun st => wpAny_pure ?_
    split
    · rename_i c _ _ _ _ _
      cases (c == Value.type "enumerate")
      · wp_walk using AutoSeq1.wpAny_loadPart' hl, wpAny_pyIter_tuple hT
        exact ⟨_, rfl, h⟩
      · wp_walk using AutoSeq1.wpAny_loadPart' hl, wpAny_pyIter_tuple hT
        exact ⟨_, rfl, h⟩
    · wp_walk using AutoSeq1.wpAny_loadPart' hl, wpAny_pyIter_tuple hT
      exact ⟨_, rfl, h⟩
theorem q9_call_enumT {prog : Program} {w : World} {A : Around} {E : Value → Shared → Prop} {s : Shared} {l : Addr} {its : Array Value} {Q : Value → Shared → Prop} (hL : s.heap.IsTuple l its)
    (go : ∀ h', IsEnum h' (s.heap.objs.size + 1) s.heap.objs.size 0 .none → h'.IsTupleIter s.heap.objs.size l 0 → h'.objs.size = s.heap.objs.size + 2 → (∀ b o, s.heap.get? b = some o → h'.get? b = some o) → Q (.ref (s.heap.objs.size + 1)) { s with heap := h' }) :
    wpAny (model prog w) A (call (.type "enumerate") [.ref l]) Q E s := by
  obtain ⟨⟨c, dct, dt, sl⟩, hl, hc, n, hd⟩ := hL
  replace hc : c = .type "tuple" := hc
  replace hd : dt = .seq its n := hd
  subst hc hd
  refine callType_new F.called_enumerate (by decide) (F.typeCall_enumerate_1 _) (F.newCall_enumerate_1 _) (fun obj => F.args_object_init_2 obj _) F.entry_enumerate_new (q9_enum_newT l its n dct sl) ⟨hl, ?_⟩
  have hz : (s.heap.push { cls := .type "tuple_iterator", data := .fields #[.ref l, .int 0 0] }).objs.size = s.heap.objs.size + 1 := Heap.size_push ..
  show _ ∧ _
  rw [hz]
  have he : IsEnum ((s.heap.push { cls := .type "tuple_iterator", data := .fields #[.ref l, .int 0 0] }).push
      { cls := .type "enumerate", data := .fields #[.none, .bool false, .ref s.heap.objs.size, rawInt 0, .none, .none] }) (s.heap.objs.size + 1) s.heap.objs.size 0 .none := by
    have := Heap.get?_push_size (s.heap.push { cls := .type "tuple_iterator", data := .fields #[.ref l, .int 0 0] }) (o := { cls := .type "enumerate", data := .fields #[.none, .bool false, .ref s.heap.objs.size, rawInt 0, .none, .none] }) rfl
    rw [hz] at this
    exact this
  refine ⟨⟨_, he, rfl⟩, go _ he ⟨_, Heap.get?_push_of_some _ (Heap.get?_push_size _ rfl), rfl, rfl⟩ (by rw [Heap.size_push, hz]) fun b o x => Heap.get?_push_of_some _ (Heap.get?_push_of_some _ x)⟩
end PySem
namespace Q9
open PySem PySem.Spec PyProof.Rows L2
/-- the tuple at a as it stands at each turn, each item in a new pair -/
def IteT (K : PySem.W.Frag) (a : Addr) : It :=
  ⟨fun i H => ∃ (xs : List V) (x : V), SqT K H a xs ∧ xs[i]? = some x, fun i H v H' => ∃ (T : Addr) (x : V), v = .ref T ∧ H T = none ∧ H' = upd H T (.tup [.int (i : Nat), x]) ∧ ∀ xs, SqT K H a xs → xs[i]? = some x, fun i H => ∃ xs : List V, SqT K H a xs ∧ xs.length = i⟩
theorem turn_enumT {P : Program} {w : World} {K : PySem.W.Frag} {elts : List Expr} {kk : Nat} {tpos : Pos} (a e it : Addr) (apart : a ≠ it ∧ a ≠ e) :
    Turn P w K (.Tuple elts kk tpos) (IteT K a) [e, it] e (fun i h => (∃ old, IsEnum h e it ((i : Nat) : Int) old) ∧ h.IsTupleIter it a i ∧ e ≠ it) where
  mem := by simp
  obj := fun i h z b hb => by
    obtain ⟨⟨old, he⟩, ⟨o, ho, hc, hd⟩, _⟩ := z
    rcases (by simpa using hb : b = e ∨ b = it) with z | z
    · rw [z]; exact ⟨_, he, fun v q => nomatch q⟩
    · rw [z]; exact ⟨o, ho, fun v q => by rw [hd] at q; cases q⟩
  keep := fun i h h' z k => let ⟨⟨old, he⟩, hi, hne⟩ := z; ⟨⟨old, k e (by simp) _ he⟩, hi.at fun o q => k it (by simp) o q, hne⟩
  item := by
    intro X eP eW eK clm i pn s σ H E I fre z now
    subst eP eW eK
    obtain ⟨⟨old, he⟩, hit, hne⟩ := z
    obtain ⟨xs, x, hq, hx⟩ := now
    obtain ⟨its, rv, p, hz⟩ := I.tuple hq
    have p' : s.heap.IsTuple a its.toArray := p
    obtain ⟨u, hu, ru⟩ := rv.get hx
    have hel : e < s.heap.objs.size := Heap.lt_size he
    have hil : it < s.heap.objs.size := by obtain ⟨_, q, _⟩ := hit; exact Heap.lt_size q
    have lt : i < its.toArray.size := by
      have := (List.getElem?_eq_some_iff.mp hu).1
      simpa using this
    refine wpAny_pyNext_enum_itemD (q9_draws_tup (A := X.A.in1) (show X.A.in1.handled = none from I.ok.hd clm) it a apart.1 its.toArray) he ⟨hit, p'⟩ lt hne (by simp only [List.mem_cons, List.not_mem_nil, or_false, not_or]; exact ⟨hne, fun z => apart.2 z.symm⟩) fun y h' tk hy ho hSt hT hsz hk => ?_
    have ey : y = u := by
      have h2 : its.toArray[i]? = some u := by simpa using hu
      rw [hy] at h2
      exact Option.some.inj h2
    subst ey
    refine ⟨_, rfl, wpAny_letOwnedTupleGo_enum (s := { s with heap := h', toks := tk + 1 }) ho fun h'' he' sb => ?_⟩
    have hT2 : h''.get? s.heap.objs.size = some { cls := .type "tuple", data := .seq #[.int i tk, y] } := (sb.2 _ (Nat.ne_of_gt hel)).trans hT
    have new : ObjOk X.prog X.w (upd H s.heap.objs.size (.tup [.int (i : Nat), x])) h'' s.heap.objs.size (.tup [.int (i : Nat), x]) :=
      ⟨by show 2 ≤ sizeLine; decide, [.int i tk, y], .cons ⟨_, rfl⟩ (.cons ru .nil), ⟨_, hT2, rfl, _, rfl⟩⟩
    have J1 : Inv X pn σ (upd H s.heap.objs.size (.tup [.int (i : Nat), x])) { s with heap := h'', toks := tk + 1 } :=
      I.turnedNew (ch := [e, it]) (fun b ob hb q => (sb.2 b (fun z => hb (by simp [z]))).trans (hk b ob (fun z => hb (by simp [z])) (fun z => hb (by simp [z])) q)) fre (Nat.le_refl _) new
    refine ⟨.ref s.heap.objs.size, _, J1, rfl, ⟨_, x, rfl, I.hok.fresh (Nat.le_refl _), rfl, fun ys hy2 => ?_⟩, ⟨⟨y, ?_⟩, hSt.1.at fun o q => (sb.2 it (Ne.symm hne)).trans q, hne⟩, fun b hb => ?_⟩
    · rw [I.tuple_inj hy2 hq]; exact hx
    · have e1 : ((i + 1 : Nat) : Int) = (i : Int) + 1 := by omega
      rw [e1]; exact he'
    · have hb' : b < s.heap.objs.size := by
        rcases (by simpa using hb : b = e ∨ b = it) with z | z
        · rw [z]; exact hel
        · rw [z]; exact hil
      rw [upd_ne (Nat.ne_of_lt hb')]
      exact (fre b hb).1
  done := by
    intro X eP eW eK clm i pn s σ H E I fre z now
    subst eP eW eK
    obtain ⟨⟨old, he⟩, hit, hne⟩ := z
    obtain ⟨xs, hq, hx⟩ := now
    obtain ⟨its, rv, p, hz⟩ := I.tuple hq
    obtain ⟨f0, f1, f2, f3, f4, f5⟩ := fre it (by simp)
    have hl := rv.length
    have p' : s.heap.IsTuple a its.toArray := p
    have st0 : s.heap.IsTupleIter it a its.toArray.size ∧ s.heap.IsTuple a its.toArray := by
      refine ⟨?_, p'⟩
      have e1 : its.toArray.size = i := by rw [List.size_toArray]; omega
      rw [e1]
      exact hit
    exact wpAny_pyNext_enum_endD (q9_draws_tup (A := X.A.in1) (show X.A.in1.handled = none from I.ok.hd clm) it a apart.1 its.toArray) he st0 fun h' eb => ⟨rfl, I.turned (t' := s.toks) (fun b o hb q => eb b o hb q) f0 f1 f3 f4 f5⟩
  self := fun A i s Q E z h => let ⟨⟨_, he⟩, _⟩ := z; wpAny_pyIter_enum he h
theorem walk_enumT {K : PySem.W.Frag} {a : Addr} {xs : List V} : Walk (IteT K a) xs.length (fun H => SqT K H a xs) (YPair (fun i => some (.int (i : Nat))) (fun i => xs[i]?)) := by
  refine ⟨fun i _ hi q => ⟨xs, xs[i], q, by simp [hi]⟩, fun _ q => ⟨xs, q, rfl⟩, fun i H v H' _ q y => ?_⟩
  obtain ⟨T, x, h1, h2, h3, h4⟩ := y
  exact ⟨T, .int (i : Nat), x, h1, h2, h3, rfl, h4 xs q⟩
/-- x is a list or a tuple of xs -/
abbrev Row0 (K : PySem.W.Frag) (H : Hp) (x : V) (xs : List V) : Prop := ∃ a, x = .ref a ∧ (SqL K H a xs ∨ SqT K H a xs)
/-- enumerate(row), the row as it stood at some heap ahead -/
def iEnumB (K : PySem.W.Frag) (ta : TA) : TI := fun σ H R => ta σ H fun vs H1 => ∃ (x : V) (xs : List V) (H0 : Hp), vs = [x] ∧ Row0 K H0 x xs ∧ L2.Same H0 H1 ∧
  ∀ (J : It) (G : Hp → Prop), (∀ H', L2.Same H0 H' → G H') → Walk J xs.length G (YPair (fun i => some (.int (i : Nat))) (fun i => xs[i]?)) → R J H1
theorem sqT_same0 {K : PySem.W.Frag} {H H' : Hp} {a : Addr} {xs : List V} (s : L2.Same H H') (h : SqT K H a xs) : SqT K H' a xs := by
  rcases h with (h | ⟨o, h⟩) | h
  · exact .inl (.inl (s _ _ h))
  · exact .inl (.inr ⟨o, s _ _ h⟩)
  · exact .inr h
theorem pi_enumB {X : Cx} {e : Expr} {ta : TA} {p pos tpos : Pos} {elts : List Expr} {kk : Nat} (hg : Gl X "enumerate") (hm : X.mg "enumerate" = none) (ha : PA X [e] ta) (hs : starEach [e] X.env = [(false, eval e X.env)] := by rfl) :
    PI X (.Tuple elts kk tpos) (.Call (.Name "enumerate" p) [e] [] pos) (iEnumB X.K ta) := by
  refine ⟨fun pn s σ H R I h => ?_⟩
  refine Call_ (ld_blt I hg hm boot_enumerate (PyProof.Rows.callWith_type1 (thn (ha.run pos pn s σ H _ I h) fun us s1 ⟨vs, H1, I1, r1, q1⟩ => ?_) hs rfl))
  obtain ⟨x, xs, H0, ex, ⟨a, rfl, hq⟩, s0, q⟩ := q1
  subst ex
  cases r1 with
  | cons r rr =>
    cases rr
    cases r
    have far : ∀ b, b ∈ [s1.heap.objs.size + 1, s1.heap.objs.size] → s1.heap.objs.size ≤ b := fun b hb => by
      rcases (by simpa using hb : b = s1.heap.objs.size + 1 ∨ b = s1.heap.objs.size) with z | z
      · rw [z]; exact Nat.le_add_right _ _
      · rw [z]; exact Nat.le_refl _
    rcases hq with hq | hq
    · obtain ⟨its, rv, p', hz⟩ := I1.list (s0.seq hq)
      refine call_enumerate_list p'.isList fun h' he hit hsz hk => wpAny_pyIter_enum he ?_
      have I2 : Inv X pn σ H1 { s1 with heap := h' } := I1.kept (t' := s1.toks) hk
      exact ⟨s1.heap.objs.size + 1, [s1.heap.objs.size + 1, s1.heap.objs.size], _, _, H1, rfl, I2, turn_enum a (s1.heap.objs.size + 1) s1.heap.objs.size, ⟨⟨.none, he⟩, hit, Nat.succ_ne_self _⟩, fun b hb => I1.fpOk (far b hb) (I1.hok.fresh (far b hb)),
        q _ (fun H' => SqL X.K H' a xs) (fun H' s => s.seq hq) walk_enum⟩
    · obtain ⟨its, rv, p', hz⟩ := I1.tuple (sqT_same0 s0 hq)
      have pt : s1.heap.IsTuple a its.toArray := p'
      have al : a < s1.heap.objs.size := by obtain ⟨o, e, _⟩ := pt; exact Heap.lt_size e
      refine q9_call_enumT pt fun h' he hit hsz hk => wpAny_pyIter_enum he ?_
      have I2 : Inv X pn σ H1 { s1 with heap := h' } := I1.kept (t' := s1.toks) hk
      exact ⟨s1.heap.objs.size + 1, [s1.heap.objs.size + 1, s1.heap.objs.size], _, _, H1, rfl, I2, turn_enumT a (s1.heap.objs.size + 1) s1.heap.objs.size ⟨Nat.ne_of_lt al, Nat.ne_of_lt (Nat.lt_succ_of_lt al)⟩, ⟨⟨.none, he⟩, hit, Nat.succ_ne_self _⟩, fun b hb => I1.fpOk (far b hb) (I1.hok.fresh (far b hb)),
        q _ (fun H' => SqT X.K H' a xs) (fun H' s => sqT_same0 s hq) walk_enumT⟩
/-- a, b, .. = a list or a tuple of that length -/
def gRowT (K : PySem.W.Frag) (n : Nat) (t : TGs) : TG := fun v σ H Q => ∃ xs, Row0 K H v xs ∧ xs.length = n ∧ t xs σ H Q
theorem pg_rowT {X : Cx} {pos : Pos} {es : List Expr} {k : Nat} {t : TGs} {n : Nat} (hc : X.calm = true) (h : PGs X es t) (hn : (assignEach es X.env).length = n := by rfl) (hst : (assignEach es X.env).findIdx? (·.1) = none := by rfl) : PG X (.Tuple es k pos) (gRowT X.K n t) := by
  refine ⟨fun pn s σ H v u Q I r ⟨xs, ⟨a, e, hq⟩, l, w⟩ => ?_⟩
  rcases hq with hq | hq
  · exact (pg_lst hc h hn hst).run pn s σ H v u Q I r ⟨a, xs, e, hq, l, w⟩
  · exact (pg_tup hc h hn hst).run pn s σ H v u Q I r ⟨a, xs, e, hq, l, w⟩
end Q9
end
-- QUnl
section
set_option maxRecDepth 100000
set_option maxHeartbeats 4000000
namespace Q9
open PySem L2
/-! what is a function of a program, by its form -/
def NotRow (K : PySem.W.Frag) (H : Hp) (x : V) : Prop := ∃ t, TyX K H x t ∧ PySem.W.kitOne K t (.type "list") = some false ∧ PySem.W.kitOne K t (.type "tuple") = some false
/-- a thing: is it a name -/
def ItemB (K : PySem.W.Frag) (H : Hp) (v : V) (b : Bool) : Prop := (∃ z, v = .str z ∧ z.length ≤ sizeLine ∧ b = nameB z) ∨ (OfTy K H v "str" false ∧ b = false)
theorem notRow_up {K : PySem.W.Frag} {H H' : Hp} (s : Same H H') {x : V} (h : NotRow K H x) : NotRow K H' x := by
  obtain ⟨t, ty, e⟩ := h
  exact ⟨t, same_ty s ty, e⟩
theorem itemB_up {K : PySem.W.Frag} {H H' : Hp} (s : Same H H') {x : V} {b : Bool} (h : ItemB K H x b) : ItemB K H' x b := by
  rcases h with h | ⟨⟨t, ty, e⟩, h⟩
  · exact .inl h
  · exact .inr ⟨⟨t, same_ty s ty, e⟩, h⟩
theorem itemB_name {K : PySem.W.Frag} {H : Hp} {z : Str} (h : nameB z = true) : ItemB K H (.str z) true := .inl ⟨z, rfl, name_len h, h.symm⟩
/-- no row of names -/
def NoNames (K : PySem.W.Frag) (H : Hp) (x : V) : Prop := NotRow K H x ∨ ∃ xs bs, Row K H x xs ∧ Paired (ItemB K H) xs bs ∧ xs.length + 1 < scanBound ∧ bs.all id = false
theorem noNames_up {K : PySem.W.Frag} {H H' : Hp} (s : Same H H') {x : V} (h : NoNames K H x) : NoNames K H' x := by
  rcases h with h | ⟨xs, bs, r, p, l, b⟩
  · exact .inl (notRow_up s h)
  · exact .inr ⟨xs, bs, row_up s r, L2.Paired.mapP p fun _ _ => itemB_up s, l, b⟩
def spUnlikeN (K : PySem.W.Frag) : Sp := fun vs H Q _ => ∃ x, vs = [x] ∧ NoNames K H x ∧ ∀ H', Same H H' → Q (.bl false) H'
section
variable {P : Program} {w : World} {K : PySem.W.Frag} {mg : Str → Option Value} {base : Heap} {fRow fName fUn : Addr}
theorem isName_at {H : Hp} {v : V} {b : Bool} {Q : VK} {E : XK} (h : ItemB K H v b) (q : ∀ H', Same H H' → Q (.bl b) H') : spForm K nameB [v] H Q E := by
  rcases h with ⟨z, rfl, l, rfl⟩ | ⟨o, rfl⟩
  · exact ⟨_, rfl, .inl ⟨z, rfl, l, q⟩⟩
  · exact ⟨_, rfl, .inr ⟨o, q⟩⟩
theorem isRow_not {H : Hp} {v : V} {Q : VK} {E : XK} (h : NotRow K H v) (q : ∀ H', Same H H' → Q (.bl false) H') : spIsRow K [v] H Q E := by
  obtain ⟨t, ty, e1, e2⟩ := h
  exact ⟨_, rfl, .inr ⟨t, ty, e1, e2, q⟩⟩
theorem ok_unlikeN {f : Addr} {fd fdR fdN : FuncData} (F : Fun K "are_unlike_names" "are_unlike_names" sUnlike f fd) (T : TForm K mg fRow) (gN : mg "is_name" = some (.ref fName)) (kN : PySem.W.keepIn K (.ref fName) = true)
    (GR : FnOk P w K mg base CX0 1 fRow fdR ["thing"] (spIsRow K)) (bR : Binds K fdR ["thing"] []) (GN : FnOk P w K mg base CX0 2 fName fdN ["thing"] (spForm K nameB)) (bN : Binds K fdN ["thing"] []) : FnOk P w K mg base CX0 3 f fd ["thing"] (spUnlikeN K) := by
  refine F.ok scUn (fun vs H Q E h => ?_) (fun cdv A outer s H vs Q E hr h => ?_)
  · obtain ⟨x, rfl, _⟩ := h
    rfl
  · obtain ⟨x, rfl, no, q⟩ := h
    refine ⟨_, pss_one (ps_ret (pe_and (pe_call GR (hr.mono (by decide)) (by rfl) T.gRow T.kRow bR .nil pass0 (pa_cons (pv 0) pa_nil))
      (pe_and (pe_callB (cr_all rfl) (by rfl) T.all (by decide +kernel) (pa_cons
        (pe_lc (own := [("one", 1)]) (g := gName 1) (tt := tYes) rfl scUn.nd (pi_row (pv 0)) (blkOk_by (own := [("one", 1)]) (N := ["thing", "one"]) (sc := defScope sUnlike) (by decide +kernel))
          (fun _ _ _ _ _ => pg_name (i := 1) scUn.nd rfl (.inl rfl)) (fun _ _ _ _ _ => pts_nil) (fun _ _ _ _ _ => pe_call GN hr (by rfl) gN kN bN .nil pass0 (pa_cons (pv 1) pa_nil))) pa_nil))
      (pe_one (pe_cmpR op_eq (pe_callB cr_lenKs (by rfl) T.len (by decide +kernel) (pa_cons (pe_callTy (cr_setOf rfl) (by rfl) T.set (by decide +kernel) (pa_cons (pv 0) pa_nil)) pa_nil)) (pe_callB cr_lenRow (by rfl) T.len (by decide +kernel) (pa_cons (pv 0) pa_nil)) (nomark _)))))), ?_⟩
    rcases no with nr | ⟨xs, bs, r, pb, sl, ab⟩
    · obtain ⟨t, ty, e1, e2⟩ := nr
      exact ⟨_, rfl, x, rfl, .inr ⟨t, ty, e1, e2, fun H1 s1 => ⟨false, rfl, iteF (q H1 s1)⟩⟩⟩
    refine ⟨_, rfl, x, rfl, .inl ⟨_, r, fun H1 s1 => ⟨true, rfl, iteT ?_⟩⟩⟩
    refine ⟨_, rfl, _, row_up s1 r, fun J G hG wk D hD => ?_⟩
    refine lc_it wk (fun i H' => Same H1 H' ∧ H' D = some (.lst ((bs.take i).map V.bl))) ⟨same_upd hD, upd_same⟩ (fun _ _ _ p => hG _ p.1) ?_ ?_
    · rintro i v H2 H3 hi ⟨sm, hl'⟩ ⟨rfl, hv⟩
      obtain ⟨b, hb, ib⟩ := paired_at pb i _ hv
      refine ⟨rfl, _, rfl, ?_⟩
      dsimp only [tNil, List.append_nil]
      refine isName_at (itemB_up (fun _ _ z => sm _ _ (s1 _ _ z)) ib) fun H4 s4 => ⟨_, s4 _ _ hl', ?_, ?_⟩
      · have : scanBound = 4096 := rfl
        rw [List.length_map, List.length_take, PySem.sizeLine_eq]
        have := PySem.Paired.length pb
        omega
      · refine ⟨fun b o e => ?_, ?_⟩
        · rw [upd_ne (ne_of_none e hD)]
          exact s4 _ _ (sm _ _ e)
        · rw [upd_same, take_one_more hb, List.map_append]
          rfl
    · rintro H2 ⟨s2, hl'⟩
      rw [PySem.Paired.length pb, List.take_length] at hl'
      refine ⟨_, _, rfl, .of hl', _, rfl, ?_⟩
      rw [ab]
      exact iteF (q H2 fun _ _ z => s2 _ _ (s1 _ _ z))
end
end Q9
end
-- QKM
section
set_option maxRecDepth 100000
set_option maxHeartbeats 4000000
namespace Q9
open PySem L2
theorem outsOf_at {mv : Mv} (nd : (mv.map (·.1)).Nodup) {e : (Str × Str) × List (Str × Str)} (h : e ∈ mv) : outsOf mv e.1 = e.2 := by
  induction mv with
  | nil => cases h
  | cons x mv ih =>
    rw [List.map_cons] at nd
    obtain ⟨n1, n2⟩ := List.nodup_cons.mp nd
    rcases List.mem_cons.mp h with z | z
    · rw [z]
      unfold outsOf
      rw [List.find?_cons_of_pos (by simp)]
      rfl
    · have ne : ¬ x.1 = e.1 := fun c => n1 (c ▸ List.mem_map.mpr ⟨e, z, rfl⟩)
      have e1 : outsOf (x :: mv) e.1 = outsOf mv e.1 := by
        unfold outsOf
        rw [List.find?_cons_of_neg (by simpa using ne)]
      rw [e1]
      exact ih n2 z
theorem outsOf_mem {mv : Mv} {k : Str × Str} {o : Str × Str} (h : o ∈ outsOf mv k) : ∃ e ∈ mv, e.1 = k ∧ o ∈ e.2 := by
  unfold outsOf at h
  cases c : mv.find? fun e => decide (e.1 = k) with
  | none =>
    rw [c] at h
    cases h
  | some e =>
    rw [c] at h
    exact ⟨e, List.mem_of_find?_eq_some c, by simpa using List.find?_some c, h⟩
structure TKM (K : PySem.W.Frag) (mg : Str → Option Value) (C fKey : Addr) : Prop where
  cl : Cls K C
  lst : mg "list" = none
  sorted : mg "sorted" = none
  nS : NoAttr K C "_start"
  nE : NoAttr K C "_ends"
  nSt : NoAttr K C "_states"
  nMe : NoAttr K C "_methods"
  nM : NoAttr K C "_moves"
  gKey : mg "_is_key" = some (.ref fKey)
  kKey : PySem.W.keepIn K (.ref fKey) = true
section
variable {P : Program} {w : World} {K : PySem.W.Frag} {mg : Str → Option Value} {base : Heap} {C fKey : Addr}
theorem scK2 : FnScope ["self"] ["self"] (defScope (kMeth 2)) := ⟨rfl, rfl, rfl, by decide +kernel, rfl, by decide +kernel, by decide +kernel⟩
theorem ok_startM {f : Addr} {fd : FuncData} (F : Fun K "start" "Kind.start" (kMeth 2) f fd) (T : TKM K mg C fKey) : FnOk P w K mg base CX0 1 f fd ["self"] (spStart (KAc C K)) := by
  refine F.ok scK2 (fun vs H Q E h => ?_) (fun cdv A outer s H vs Q E hr h => ?_)
  · obtain ⟨x, nm, st, es, mv, rfl, _⟩ := h
    rfl
  · obtain ⟨x, nm, st, es, mv, rfl, ⟨⟨dx, e, s1, me, m, ys, ss, ms, kvs, mvs, h1, _⟩, _, _, _⟩, q⟩ := h
    exact ⟨_, pss_one (ps_ret (pe_fld (pv 0) rfl)), _, rfl, x, C, dx, _, _, rfl, h1, T.cl, T.nS, (kf_all nm st e s1 me m).2.2.1, q⟩
theorem scK3 : FnScope ["self"] ["self"] (defScope (kMeth 3)) := ⟨rfl, rfl, rfl, by decide +kernel, rfl, by decide +kernel, by decide +kernel⟩
theorem ok_endsM {f : Addr} {fd : FuncData} (F : Fun K "ends" "Kind.ends" (kMeth 3) f fd) (T : TKM K mg C fKey) : FnOk P w K mg base CX0 1 f fd ["self"] (spEnds (KAc C K)) := by
  refine F.ok scK3 (fun vs H Q E h => ?_) (fun cdv A outer s H vs Q E hr h => ?_)
  · obtain ⟨x, nm, st, es, mv, rfl, _⟩ := h
    rfl
  · obtain ⟨x, nm, st, es, mv, rfl, ⟨⟨dx, e, s1, me, m, ys, ss, ms, kvs, mvs, h1, h2, h3, h4, _⟩, _, _, _⟩, q⟩ := h
    exact ⟨_, pss_one (ps_ret (pe_fld (pv 0) rfl)), _, rfl, x, C, dx, _, _, rfl, h1, T.cl, T.nE, (kf_all nm st e s1 me m).2.1, q e ys h3 h4 h2⟩
theorem scK4 : FnScope ["self"] ["self"] (defScope (kMeth 4)) := ⟨rfl, rfl, rfl, by decide +kernel, rfl, by decide +kernel, by decide +kernel⟩
theorem ok_statesM {f : Addr} {fd : FuncData} (F : Fun K "states" "Kind.states" (kMeth 4) f fd) (T : TKM K mg C fKey) : FnOk P w K mg base CX0 1 f fd ["self"] (spNew (KAc C K) statesIn) := by
  refine F.ok scK4 (fun vs H Q E h => ?_) (fun cdv A outer s H vs Q E hr h => ?_)
  · obtain ⟨x, nm, st, es, mv, rfl, _⟩ := h
    rfl
  · obtain ⟨x, nm, st, es, mv, rfl, ⟨⟨dx, e, s1, me, m, ys, ss, ms, kvs, mvs, h1, h2, h3, h4, h5, t5, h6, t6, h7, O⟩, _, _, _⟩, q⟩ := h
    refine ⟨_, pss_one (ps_ret (pe_callTy cr_listRow (by rfl) T.lst (by decide +kernel) (pa_cons (pe_fld (pv 0) rfl) pa_nil))), ?_⟩
    exact ⟨_, rfl, x, C, dx, _, _, rfl, h1, T.cl, T.nSt, (kf_all nm st e s1 me m).2.2.2.2.1, _, _, rfl, ⟨s1, rfl, .inl (.of h5)⟩, fun l hl => q _ l ss (same_upd hl) t5 upd_same⟩
theorem scK5 : FnScope ["self"] ["self"] (defScope (kMeth 5)) := ⟨rfl, rfl, rfl, by decide +kernel, rfl, by decide +kernel, by decide +kernel⟩
theorem ok_methodsM {f : Addr} {fd : FuncData} (F : Fun K "methods" "Kind.methods" (kMeth 5) f fd) (T : TKM K mg C fKey) : FnOk P w K mg base CX0 1 f fd ["self"] (spNew (KAc C K) fun _ _ mv => methodsIn mv) := by
  refine F.ok scK5 (fun vs H Q E h => ?_) (fun cdv A outer s H vs Q E hr h => ?_)
  · obtain ⟨x, nm, st, es, mv, rfl, _⟩ := h
    rfl
  · obtain ⟨x, nm, st, es, mv, rfl, ⟨⟨dx, e, s1, me, m, ys, ss, ms, kvs, mvs, h1, h2, h3, h4, h5, t5, h6, t6, h7, O⟩, _, _, _⟩, q⟩ := h
    refine ⟨_, pss_one (ps_ret (pe_callTy cr_listRow (by rfl) T.lst (by decide +kernel) (pa_cons (pe_fld (pv 0) rfl) pa_nil))), ?_⟩
    exact ⟨_, rfl, x, C, dx, _, _, rfl, h1, T.cl, T.nMe, (kf_all nm st e s1 me m).2.2.2.2.2.1, _, _, rfl, ⟨me, rfl, .inl (.of h6)⟩, fun l hl => q _ l ms (same_upd hl) t6 upd_same⟩
theorem key_in {K : PySem.W.Frag} {H : Hp} {kvs : List (List Key × V)} {mvs : Mv} (M : Moves K H kvs mvs) (a b : Str) : (valV kvs [kInr a, kInr b]).isSome = decide ((a, b) ∈ mvs.map (·.1)) := by
  have e := ent_any M.ent a b
  rw [Bool.eq_iff_iff, decide_eq_true_iff]
  have h1 : (valV kvs [kInr a, kInr b]).isSome = kvs.any fun kv => decide (kv.1 = [kInr a, kInr b]) := by
    unfold valV
    rw [Option.isSome_map, List.isSome_find?]
  rw [h1, e, List.any_eq_true]
  constructor
  · rintro ⟨x, g1, g2⟩
    exact List.mem_map.mpr ⟨x, g1, of_decide_eq_true g2⟩
  · intro h
    obtain ⟨x, g1, g2⟩ := List.mem_map.mp h
    exact ⟨x, g1, decide_eq_true g2⟩
theorem scK9 : FnScope ["self", "x"] ["self", "x"] (defScope (kMeth 9)) := ⟨rfl, rfl, rfl, by decide +kernel, rfl, by decide +kernel, by decide +kernel⟩
def spCont (KA : KAt) : Sp := fun vs H Q _ => ∃ (x q : Addr) (s m : Str) (nm st : Str) (es : List Str) (mv : Mv), vs = [.ref x, .ref q] ∧ KA H x nm st es mv ∧ H q = some (.tup [.str s, .str m]) ∧
  ∀ H', Same H H' → Q (.bl (decide ((s, m) ∈ mv.map (·.1)))) H'
theorem ok_contM {f : Addr} {fd dK : FuncData} (F : Fun K "__contains__" "Kind.__contains__" (kMeth 9) f fd) (T : TKM K mg C fKey) (G : FnOk P w K mg base CX0 1 fKey dK ["thing"] (spIsKey K)) (b : Binds K dK ["thing"] []) :
    FnOk P w K mg base CX0 2 f fd ["self", "x"] (spCont (KAc C K)) := by
  refine F.ok scK9 (fun vs H Q E h => ?_) (fun cdv A outer s H vs Q E hr h => ?_)
  · obtain ⟨x, q, s, m, nm, st, es, mv, rfl, _⟩ := h
    rfl
  · obtain ⟨x, qa, s0, me0, nm, st, es, mv, rfl, ⟨⟨dx, e, s1, me, m, ys, ss, ms, kvs, mvs, h1, h2, h3, h4, h5, t5, h6, t6, h7, O⟩, _, _, _⟩, hq, q⟩ := h
    have hu := hu_of hr
    refine ⟨_, pss_one (ps_ret (pe_and (pe_call G hr (by rfl) T.gKey T.kKey b .nil pass0 (pa_cons (pv 1) pa_nil)) (pe_one (pe_cmp (pc_din hu (pv 1) (pe_fld (pv 0) rfl)))))), ?_⟩
    refine ⟨_, rfl, .ref qa, rfl, .inr (.inr ⟨qa, _, _, true, true, rfl, .of hq, txt_yes _, txt_yes _, true, rfl, iteT ?_⟩)⟩
    refine ⟨_, rfl, _, rfl, x, C, dx, _, _, rfl, h1, T.cl, T.nM, (kf_all nm st e s1 me m).1, m, _, rfl, DGet.t (k := [kInr s0, kInr me0]) h7 hq, ?_⟩
    have e1 : decide ((s0, me0) ∈ mvs.map (·.1)) = decide ((s0, me0) ∈ mv.map (·.1)) := decide_eq_decide.mpr (O.eqm.keys _)
    rw [key_in O.moves, e1]
    exact q H (Same.refl H)
theorem scK8 : FnScope ["self", "at"] ["self", "at"] (defScope (kMeth 8)) := ⟨rfl, rfl, rfl, by decide +kernel, rfl, by decide +kernel, by decide +kernel⟩
theorem ok_item2 {f : Addr} {fd dK : FuncData} (F : Fun K "__getitem__" "Kind.__getitem__" (kMeth 8) f fd) (T : TKM K mg C fKey) (G : FnOk P w K mg base CX0 1 fKey dK ["thing"] (spIsKey K)) (b : Binds K dK ["thing"] []) :
    FnOk P w K mg base CX0 2 f fd ["self", "at"] (spItem2 K (KAc C K)) := by
  refine F.ok scK8 (fun vs H Q E h => ?_) (fun cdv A outer s H vs Q E hr h => ?_)
  · obtain ⟨x, q, s, m, nm, st, es, mv, rfl, _⟩ := h
    rfl
  · obtain ⟨x, qa, s0, me0, nm, st, es, mv, rfl, ⟨⟨dx, e, s1, me, m, ys, ss, ms, kvs, mvs, h1, h2, h3, h4, h5, t5, h6, t6, h7, O⟩, _, _, nd⟩, hq, q0, q⟩ := h
    have hu := hu_of hr
    refine ⟨_, pss_cons (ps_if (pt_val (pe_call G hr (by rfl) T.gKey T.kKey b .nil pass0 (pa_cons (pv 1) pa_nil))) (pss_one (ps_ret (pe_dget1 hu (pe_fld (pv 0) rfl) (pv 1) ⟨rfl, rfl, rfl, rfl⟩))) pss_nil) (pss_one (ps_ret pe_non)), ?_⟩
    refine ⟨_, rfl, .ref qa, rfl, .inr (.inr ⟨qa, _, _, true, true, rfl, .of hq, txt_yes _, txt_yes _, true, rfl, iteT ?_⟩)⟩
    refine ⟨_, rfl, x, C, dx, _, _, rfl, h1, T.cl, T.nM, (kf_all nm st e s1 me m).1, m, rfl, .inr ⟨kvs, .inl h7⟩, _, rfl, _, DGet.t (k := [kInr s0, kInr me0]) h7 hq, ?_⟩
    by_cases inn : (s0, me0) ∈ mv.map (·.1)
    · obtain ⟨en0, mem0, e0⟩ := List.mem_map.mp inn
      obtain ⟨k00, os⟩ := en0
      simp only at e0
      subst e0
      obtain ⟨os', mem', pm⟩ := O.outs _ _ mem0
      obtain ⟨j, hj⟩ := List.mem_iff_getElem?.mp mem'
      have jl : j < kvs.length := by rw [PySem.Paired.length O.tups]; exact (List.getElem?_eq_some_iff.mp hj).1
      obtain ⟨en, e1, ek, t, vs, e2, e3, each⟩ := paired_at O.tups j _ (List.getElem?_eq_getElem jl)
      rw [hj] at e1
      cases e1
      have hval : valV kvs [kInr s0, kInr me0] = some (.ref t) := val_at O.nd (i := j) (by rw [List.getElem?_eq_getElem jl]; exact congrArg some (Prod.ext ek e2))
      rw [hval]
      obtain ⟨ps, e5, e6, e7⟩ := outs_ps2 each
      subst e5
      have e6' : ps.map (·.2) = os' := e6
      exact q os mem0 H t ps (Same.refl H) e3 e7 (by rw [e6']; exact pm) (by rw [e6']; exact O.up _ mem')
    · have hn : valV kvs [kInr s0, kInr me0] = none := by
        have h := key_in O.moves s0 me0
        rw [decide_eq_false (fun z => inn ((O.eqm.keys _).1 z))] at h
        exact Option.not_isSome_iff_eq_none.mp (by rw [h]; exact Bool.false_ne_true)
      rw [hn]
      exact q0 inn H (Same.refl H)
theorem ok_itemM {f : Addr} {fd dK : FuncData} (F : Fun K "__getitem__" "Kind.__getitem__" (kMeth 8) f fd) (T : TKM K mg C fKey) (G : FnOk P w K mg base CX0 1 fKey dK ["thing"] (spIsKey K)) (b : Binds K dK ["thing"] []) :
    FnOk P w K mg base CX0 2 f fd ["self", "at"] (spItem K (KAc C K)) := by
  refine (ok_item2 (P := P) (w := w) (base := base) F T G b).imp ?_
  rintro vs H Q E ⟨x, q, s, m, nm, st, es, mv, os, rfl, ka, hq, mem, k⟩
  refine ⟨x, q, s, m, nm, st, es, mv, rfl, ka, hq, fun n => (n (List.mem_map.mpr ⟨_, mem, rfl⟩)).elim, fun os' mem' H' t ps sm ht hps pm up => k H' t ps sm ht hps ?_ up⟩
  have e1 : outsOf mv (s, m) = os := outsOf_at ka.nd mem
  have e2 : outsOf mv (s, m) = os' := outsOf_at ka.nd mem'
  rw [← e1, e2]
  exact pm
theorem scK6 : FnScope ["self", "key"] ["self"] (defScope (kMeth 6)) := ⟨rfl, rfl, rfl, by decide +kernel, rfl, by decide +kernel, by decide +kernel⟩
theorem ok_movesM {f : Addr} {fd : FuncData} (F : Fun K "moves" "Kind.moves" (kMeth 6) f fd) (T : TKM K mg C fKey) : FnOk P w K mg base CX0 1 f fd ["self"] (spMovesD K (KAc C K)) := by
  refine F.ok scK6 (fun vs H Q E h => ?_) (fun cdv A outer s H vs Q E hr h => ?_)
  · obtain ⟨x, nm, st, es, mv, rfl, _⟩ := h
    rfl
  · obtain ⟨x, nm, st, es, mv, rfl, ⟨⟨dx, e, s1, me, m, ys, ss, ms, kvs, mvs, h1, h2, h3, h4, h5, t5, h6, t6, h7, O⟩, sm, ft, nd⟩, q⟩ := h
    have hu := hu_of hr
    refine ⟨_, pss_one (ps_ret (pe_dcT (tk := tVar 1) (tv := tDGet (tFld K (tVar 0) "_moves") (tVar 1)) (tt := tYes) (own := [("key", 1)]) (g := gName 1) (Nat.lt_of_succ_lt hu) rfl scK6.nd (pi_list (pe_callB (cr_sortedDT rfl) (by rfl) T.sorted (by decide +kernel) (pa_cons (pe_fld (pv 0) rfl) pa_nil))) (blkOk_by (own := [("key", 1)]) (N := ["self", "key"]) (sc := defScope (kMeth 6)) (by decide +kernel))
      (fun _ _ _ _ _ => pg_name (i := 1) scK6.nd rfl (.inl rfl)) (fun _ _ _ _ _ => pts_nil) (fun _ _ _ _ _ => pv 1) (fun _ _ _ _ _ => pe_dget hu (pe_fld (pv 0) rfl) (pv 1) (fun _ _ => rfl)))), ?_⟩
    have l1 := (kf_all nm st e s1 me m).1
    have ek : kvs.map (·.1) = (mvs.map (·.1)).map (fun p => [.inr p.1, .inr p.2]) := by
      have key : ∀ {kvs : List (List Key × V)} {mvs : Mv}, Paired (EntT K H) kvs mvs → kvs.map (·.1) = (mvs.map (·.1)).map (fun p => [.inr p.1, .inr p.2]) := by
        intro kvs mvs p
        induction p with
        | nil => rfl
        | @cons kv e a b h t ih => rw [List.map_cons, List.map_cons, List.map_cons, ih, h.1]
      exact key O.moves.ent
    refine ⟨_, rfl, x, C, dx, _, _, rfl, h1, T.cl, T.nM, l1, m, kvs, mvs.map (·.1), rfl, .inl h7, ek, fun qs p pm up hq hp => ⟨p, rfl, ⟨_, .of upd_same⟩, fun D hD => ?_⟩⟩
    have sp := same_upd (o := .lst ((qs.map (·.1)).map V.ref)) hp
    have lq : qs.length = mv.length := by
      have := pm.length_eq
      rw [List.length_map, List.length_map, O.len] at this
      exact this
    have lm : mv.length ≤ 1000000 := by
      have := lens_states st es mv
      have := sm.len
      omega
    have ndq : (qs.map (·.2)).Nodup := pm.nodup_iff.mpr (keys_nodup_of O.moves)
    refine coll_it (walk_list (xs := (qs.map (·.1)).map V.ref)) (fun i H' => Same (upd H p (.lst ((qs.map (·.1)).map V.ref))) H' ∧ ∃ kvs' : List (List Key × V), H' D = some (.dT kvs') ∧ kvs'.map (·.1) = ((qs.take i).map (·.2)).map keyOf) ⟨same_upd hD, [], upd_same, rfl⟩ (fun i H' _ h => .of (h.1 _ _ upd_same)) ?_ ?_
    · rintro i y H1 H2 hi ⟨s2, kvs', hd, ekeys⟩ ⟨rfl, hy⟩
      rw [List.getElem?_map, List.getElem?_map] at hy
      obtain ⟨a0, h8, rfl⟩ := Option.map_eq_some_iff.mp hy
      obtain ⟨x0, h9, rfl⟩ := Option.map_eq_some_iff.mp h8
      have x0m := List.mem_of_getElem? h9
      have hx0 := hq x0 x0m
      have inn : x0.2 ∈ mvs.map (·.1) := pm.mem_iff.mp (List.mem_map.mpr ⟨x0, x0m, rfl⟩)
      have isS := key_in O.moves x0.2.1 x0.2.2
      rw [decide_eq_true inn] at isS
      obtain ⟨v, hv⟩ := Option.isSome_iff_exists.mp isS
      have sAll : Same H H2 := fun b o z => s2 b o (sp b o z)
      refine ⟨rfl, _, rfl, _, rfl, x, C, dx, _, _, rfl, sAll _ _ h1, T.cl, T.nM, l1, _, rfl, m, v, rfl, .inr ⟨kvs, [kInr x0.2.1, kInr x0.2.2], x0.1, .inl (sAll _ _ h7), rfl, sAll _ _ hx0, hv.symm⟩, ?_⟩
      have nk : valV kvs' [kInr x0.2.1, kInr x0.2.2] = none := by
        cases c : valV kvs' [kInr x0.2.1, kInr x0.2.2] with
        | none => rfl
        | some u =>
          unfold valV at c
          obtain ⟨kv, g1, g2⟩ := Option.map_eq_some_iff.mp c
          have g3 := List.mem_of_find?_eq_some g1
          have g4 : kv.1 = [kInr x0.2.1, kInr x0.2.2] := by simpa using List.find?_some g1
          have g4 : kv.1 = keyOf x0.2 := g4
          have g5 : keyOf x0.2 ∈ ((qs.take i).map (·.2)).map keyOf := by rw [← ekeys, ← g4]; exact List.mem_map.mpr ⟨kv, g3, rfl⟩
          obtain ⟨k1, g6, g7⟩ := List.mem_map.mp g5
          have g8 := keyOf_inj g7
          subst g8
          have nd1 : ((qs.take (i + 1)).map (·.2)).Nodup := by rw [List.map_take]; exact List.Sublist.nodup (List.take_sublist _ _) ndq
          rw [take_one_more h9, List.map_append, List.nodup_append] at nd1
          exact (nd1.2.2 _ g6 _ (List.mem_singleton.mpr rfl) rfl).elim
      have lk : kvs'.length ≤ 1000000 := by
        have h := congrArg List.length ekeys
        rw [List.length_map, List.length_map, List.length_map, List.length_take] at h
        omega
      refine ⟨x0.1, [kInr x0.2.1, kInr x0.2.2], kvs', rfl, sAll _ _ hx0, hd, ln6 _ lk, fun b o z => ?_, _, upd_same, ?_⟩
      · rw [upd_ne (ne_of_none z hD)]
        exact s2 b o z
      · rw [putK_new _ nk, List.map_append, ekeys, take_one_more h9, List.map_append, List.map_append]
        rfl
    · rintro H1 ⟨s2, kvs', hd, ekeys⟩
      rw [List.length_map, List.length_map, List.take_length] at ekeys
      have h := congrArg List.length ekeys
      rw [List.length_map, List.length_map, List.length_map] at h
      exact q H1 D kvs' (fun b o z => s2 b o (sp b o z)) hd (h.trans lq)
end
end Q9
end
-- QDp
section
set_option maxRecDepth 100000
set_option maxHeartbeats 4000000
namespace Q9
open PySem L2
theorem inV_strs (z : Str) (l : List Str) : inV (.str z) (l.map V.str) = decide (z ∈ l) := by
  unfold inV
  induction l with
  | nil => rfl
  | cons y l ih =>
    rw [List.map_cons, List.any_cons, ih]
    have e : eqV (.str y) (.str z) = decide (z = y) := by
      show (y == z) = _
      rw [Bool.eq_iff_iff, beq_iff_eq, decide_eq_true_iff]
      exact eq_comm
    rw [e, Bool.eq_iff_iff]
    simp [List.mem_cons]
theorem flat_strs (l : List Str) : (l.map V.str).all flatV = true := by
  rw [List.all_eq_true]
  intro x hx
  obtain ⟨y, _, rfl⟩ := List.mem_map.mp hx
  rfl
section
variable {K : PySem.W.Frag} {H : Hp}
def dStrs (l : List Str) : List PyData := l.map PyData.str
theorem dp_strs : ∀ l : List Str, DpAll K H (l.map V.str) (dStrs l)
  | [] => .nil
  | x :: l => .cons (.str x) (dp_strs l)
theorem dp_lst {a : Addr} {l : List Str} (h : H a = some (.lst (l.map V.str))) : Dp K H (.ref a) (.list (dStrs l)) := .lst (.of h) (dp_strs l)
theorem dp_tup {a : Addr} {l : List Str} (h : H a = some (.tup (l.map V.str))) : Dp K H (.ref a) (.tuple (dStrs l)) := .tup (.of h) (dp_strs l)
end
def Oks (l : List Str) : Prop := ∀ z ∈ l, PyData.canLay0 (.str z) = true
theorem lay_strs : ∀ {l : List Str}, Oks l → PyData.canLayAll0 (dStrs l) = true ∧ PyData.depthAll (dStrs l) = 0
  | [], _ => ⟨by simp [dStrs, PyData.canLayAll0], by simp [dStrs, PyData.depthAll]⟩
  | x :: l, h => by
    obtain ⟨h1, h2⟩ := lay_strs (l := l) fun z hz => h z (List.mem_cons_of_mem _ hz)
    have h0 := h x List.mem_cons_self
    constructor
    · show PyData.canLayAll0 (.str x :: dStrs l) = true
      rw [PyData.canLayAll0, h0, h1]
      rfl
    · show PyData.depthAll (.str x :: dStrs l) = 0
      rw [PyData.depthAll, h2]
      rfl
theorem shaped_lst {l : List Str} (h : Oks l) : SeqAt.shaped (.list (dStrs l)) = true := by
  obtain ⟨h1, h2⟩ := lay_strs h
  unfold SeqAt.shaped
  rw [PyData.canLay0, h1, PyData.depth, h2]
  rfl
theorem shaped_tup {l : List Str} (h : Oks l) : SeqAt.shaped (.tuple (dStrs l)) = true := by
  obtain ⟨h1, h2⟩ := lay_strs h
  unfold SeqAt.shaped
  rw [PyData.canLay0, h1, PyData.depth, h2]
  rfl
def dPair (o : Str × Str) : PyData := .tuple [.str o.1, .str o.2]
theorem lay_pairs : ∀ {l : List (Str × Str)}, (∀ o ∈ l, PyData.canLay0 (.str o.1) = true ∧ PyData.canLay0 (.str o.2) = true) → PyData.canLayAll0 (l.map dPair) = true ∧ PyData.depthAll (l.map dPair) ≤ 1
  | [], _ => ⟨by simp [PyData.canLayAll0], by simp [PyData.depthAll]⟩
  | x :: l, h => by
    obtain ⟨h1, h2⟩ := lay_pairs (l := l) fun z hz => h z (List.mem_cons_of_mem _ hz)
    obtain ⟨h3, h4⟩ := h x List.mem_cons_self
    constructor
    · show PyData.canLayAll0 (.tuple [.str x.1, .str x.2] :: l.map dPair) = true
      rw [PyData.canLayAll0, h1, PyData.canLay0, PyData.canLayAll0, h3, PyData.canLayAll0, h4]
      simp [PyData.canLayAll0]
    · show PyData.depthAll (.tuple [.str x.1, .str x.2] :: l.map dPair) ≤ 1
      rw [PyData.depthAll]
      have e : PyData.depth (.tuple [.str x.1, .str x.2]) = 1 := by simp [PyData.depth, PyData.depthAll]
      rw [e]
      exact Nat.max_le.mpr ⟨Nat.le_refl _, h2⟩
theorem shaped_pairs {l : List (Str × Str)} (h : ∀ o ∈ l, PyData.canLay0 (.str o.1) = true ∧ PyData.canLay0 (.str o.2) = true) : SeqAt.shaped (.tuple (l.map dPair)) = true := by
  obtain ⟨h1, h2⟩ := lay_pairs h
  unfold SeqAt.shaped
  rw [PyData.canLay0, h1, PyData.depth, Bool.true_and, decide_eq_true_iff]
  omega
theorem same_data {d : PyData} (h : SeqAt.shaped d = true) : (!PyData.eqv d d) = false := by
  rw [SeqAt.eqv_refl d (SeqAt.canLay_of_shaped h)]
  rfl
section
variable {K : PySem.W.Frag} {H : Hp}
theorem dp_refs : ∀ {ps : List (Addr × Str × Str)}, (∀ p ∈ ps, SqT K H p.1 [.str p.2.1, .str p.2.2]) → DpAll K H ((ps.map (·.1)).map V.ref) ((ps.map (·.2)).map dPair)
  | [], _ => .nil
  | p :: ps, h => .cons (.tup (h p List.mem_cons_self) (.cons (.str _) (.cons (.str _) .nil))) (dp_refs fun q hq => h q (List.mem_cons_of_mem _ hq))
theorem dp_pairs {a : Addr} {ps : List (Addr × Str × Str)} (h : H a = some (.tup ((ps.map (·.1)).map V.ref))) (f : ∀ p ∈ ps, SqT K H p.1 [.str p.2.1, .str p.2.2]) : Dp K H (.ref a) (.tuple ((ps.map (·.2)).map dPair)) := .tup (.of h) (dp_refs f)
end
theorem cut_sub (l : List Str) (lo hi : Option Int) : ∃ es : List Str, cutV (l.map V.str) lo hi = es.map V.str ∧ es.Sublist l := by
  unfold cutV
  rw [← List.map_drop, ← List.map_take]
  exact ⟨_, rfl, (List.take_sublist _ _).trans (List.drop_sublist _ _)⟩
section
variable {K : PySem.W.Frag} {H H' : Hp} {l : Addr}
theorem sqL_del (w : Well H l) {a : Addr} {v : Addr} {xs : List V} (h : SqL K H a (.ref v :: xs)) : SqL K (del H l) a (.ref v :: xs) := by
  obtain ⟨x, y, z, e, _⟩ := w
  rcases h with (h | ⟨o, h⟩) | h
  · exact .inl (.inl (by rw [del_ne (fun c => by rw [c, e] at h; cases h)]; exact h))
  · exact .inl (.inr ⟨o, by rw [del_ne (fun c => by rw [c, e] at h; cases h)]; exact h⟩)
  · exact .inr h
theorem outsT_del (w : Well H l) {v : V} {os : List (Str × Str)} (ne : os ≠ []) (h : OutsT K H v os) : OutsT K (del H l) v os := by
  obtain ⟨vs, ⟨a, e, r⟩, p⟩ := h
  refine ⟨vs, ⟨a, e, ?_⟩, L2.Paired.mapP p fun _ _ ⟨q, e, h⟩ => ⟨q, e, sqT_del w h⟩⟩
  cases p with
  | nil => exact (ne rfl).elim
  | cons h1 t =>
    obtain ⟨q, rfl, _⟩ := h1
    exact r.imp (sqL_del w) (sqT_del w)
theorem moves_del (w : Well H l) {kvs : List (List Key × V)} {mv : Mv} (M : Moves K H kvs mv) (ne : ∀ e ∈ mv, e.2 ≠ []) : Moves K (del H l) kvs mv := by
  refine ⟨M.nd, ?_⟩
  have key : ∀ {kvs : List (List Key × V)} {mv : Mv}, Paired (EntT K H) kvs mv → (∀ e ∈ mv, e.2 ≠ []) → Paired (EntT K (del H l)) kvs mv := by
    intro kvs mv p
    induction p with
    | nil => intro _; exact .nil
    | @cons kv e a b h t ih => exact fun ne => .cons ⟨h.1, outsT_del w (ne e List.mem_cons_self) h.2⟩ (ih fun x hx => ne x (List.mem_cons_of_mem _ hx))
  exact key M.ent ne
end
end Q9
end
-- QLet
section
set_option maxRecDepth 100000
set_option maxHeartbeats 4000000
namespace Q9
open PySem L2
/-! ### words of small letters -/
/-- up to n small letters -/
def LP (n : Nat) (z : Str) : Prop := z.length ≤ n ∧ ∀ c ∈ z.cps.toList, 97 ≤ c ∧ c < 123
def LW (z : Str) : Prop := 1 ≤ z.length ∧ LP 8 z
theorem letters_tab : ∀ c < 123, 97 ≤ c → Unicode.isAlpha c = true ∧ Unicode.isLower c = true ∧ (Unicode.isUpper c || Unicode.isTitle c) = false := by decide +kernel
theorem name_of {z : Str} (h : LW z) : nameB z = true := by
  obtain ⟨h1, h2, h3⟩ := h
  have hm : ∀ i (hi : i < z.cps.size), 97 ≤ z.cps[i] ∧ z.cps[i] < 123 := fun i hi => h3 _ (by rw [Array.mem_toList_iff]; exact Array.getElem_mem hi)
  unfold nameB
  have e1 : decide ((z.length : Int) ≤ 8) = true := by rw [decide_eq_true_iff]; omega
  have e2 : Txt.isascii z = true := by
    unfold Txt.isascii
    rw [Array.all_eq_true]
    intro i hi
    have := hm i hi
    rw [decide_eq_true_iff]
    omega
  have e3 : Txt.isalpha z = true := by
    unfold Txt.isalpha
    rw [Bool.and_eq_true]
    refine ⟨by rw [decide_eq_true_iff]; omega, ?_⟩
    rw [Array.all_eq_true]
    intro i hi
    exact (letters_tab _ (hm i hi).2 (hm i hi).1).1
  have e4 : Txt.islower z = true := by
    unfold Txt.islower
    rw [Bool.and_eq_true]
    constructor
    · rw [Array.any_eq_true]
      have h0 : 0 < z.cps.size := h1
      exact ⟨0, h0, (letters_tab _ (hm 0 h0).2 (hm 0 h0).1).2.1⟩
    · rw [Bool.not_eq_true', Array.any_eq_false]
      intro i hi
      rw [(letters_tab _ (hm i hi).2 (hm i hi).1).2.2]
      decide
  rw [e1, e2, e3, e4]
  rfl
theorem lw_len {z : Str} (h : LW z) : z.length ≤ sizeLine := Nat.le_trans h.2.1 (by decide)
theorem lp_le {n m : Nat} {z : Str} (h : LP n z) (l : n ≤ m) : LP m z := ⟨Nat.le_trans h.1 l, h.2⟩
theorem lp_line {n : Nat} {z : Str} (h : LP n z) (l : n ≤ 8) : z.length ≤ sizeLine := Nat.le_trans h.1 (Nat.le_trans l (by decide))
/-- a letter -/
def ltr (t : Nat) : Str := ⟨#[97 + t]⟩
theorem letter_at : ∀ t < 26, Letters.cps.toList[t]? = some (97 + t) := by decide +kernel
theorem app_cps (a b : Str) : (a ++ b).cps.toList = a.cps.toList ++ b.cps.toList := by
  show (a.cps ++ b.cps).toList = _
  rw [Array.toList_append]
theorem app_len (a b : Str) : (a ++ b).length = a.length + b.length := by
  show (a.cps ++ b.cps).size = _
  rw [Array.size_append]
  rfl
theorem lp_snoc {n t : Nat} {z : Str} (h : LP n z) (ht : t < 26) : LP (n + 1) (z ++ ltr t) := by
  constructor
  · rw [app_len]
    exact Nat.add_le_add_right h.1 1
  · intro c hc
    rw [app_cps] at hc
    rcases List.mem_append.mp hc with hc | hc
    · exact h.2 c hc
    · have : c = 97 + t := by simpa [ltr] using hc
      omega
theorem snoc_inj {z : Str} {t u : Nat} (h : z ++ ltr t = z ++ ltr u) : t = u := by
  have e : (z ++ ltr t).cps.toList = (z ++ ltr u).cps.toList := by rw [h]
  rw [app_cps, app_cps] at e
  have := List.append_cancel_left e
  simpa [ltr] using this
theorem cut_lp {n m : Nat} {z : Str} (h : LP n z) : LP m (cutS z none (some (m : Int))) ∧ (1 ≤ z.length → 1 ≤ m → 1 ≤ (cutS z none (some (m : Int))).length) := by
  have e : (cutS z none (some (m : Int))).cps.toList = z.cps.toList.take m := by
    unfold cutS
    show (List.take (min ((m : Int).toNat) z.length - 0) (List.drop 0 z.cps.toList)) = _
    rw [List.drop_zero, Nat.sub_zero, Int.toNat_natCast]
    by_cases c : m ≤ z.length
    · rw [Nat.min_eq_left c]
    · have h1 : z.cps.toList.length = z.length := rfl
      rw [Nat.min_eq_right (by omega), List.take_of_length_le (by omega), List.take_of_length_le (by omega)]
  have el : (cutS z none (some (m : Int))).length = min m z.length := by
    show (cutS z none (some (m : Int))).cps.size = _
    rw [← Array.length_toList, e, List.length_take]
    rfl
  refine ⟨⟨by rw [el]; exact Nat.min_le_left _ _, fun c hc => ?_⟩, fun h1 h2 => by rw [el]; omega⟩
  rw [e] at hc
  exact h.2 c (List.mem_of_mem_take hc)
theorem lay_of {n : Nat} {z : Str} (h : LP n z) : PyData.canLay0 (.str z) = true := by
  rw [PyData.canLay0]
  unfold PyData.strOk
  rw [Array.all_eq_true]
  intro i hi
  have := h.2 z.cps[i] (by rw [Array.mem_toList_iff]; exact Array.getElem_mem hi)
  rw [decide_eq_true_iff]
  omega
/-- 25 letters behind one stem are not all among few words -/
theorem not_all {z : Str} {ws : List Str} (l : ws.length < 25) (h : ∀ t < 25, z ++ ltr t ∈ ws) : False := by
  have nd : ((List.range 25).map fun t => z ++ ltr t).Nodup := by
    refine List.pairwise_map.mpr (List.Pairwise.imp (fun {a b} ne e => ne (snoc_inj e)) List.nodup_range)
  have := nodup_le _ ws nd fun k hk => by
    obtain ⟨t, h1, rfl⟩ := List.mem_map.mp hk
    exact h t (List.mem_range.mp h1)
  rw [List.length_map, List.length_range] at this
  omega
end Q9
end
-- QLitX
section
set_option maxRecDepth 100000
set_option maxHeartbeats 4000000
namespace Q9
open PySem L2
mutual
inductive Dz (H : Hp) : V → PyData → Prop
  | non : Dz H .non .none
  | bl (b : Bool) : Dz H (.bl b) (.bool b)
  | int (i : Int) : Dz H (.int i) (.int i)
  | str (x : Str) : Dz H (.str x) (.str x)
  | lst {a : Addr} {xs : List V} {ds : List PyData} : H a = some (.lst xs) → DzAll H xs ds → Dz H (.ref a) (.list ds)
  | tup {a : Addr} {xs : List V} {ds : List PyData} : H a = some (.tup xs) → DzAll H xs ds → Dz H (.ref a) (.tuple ds)
  | dic {a : Addr} : H a = some (.dT []) → Dz H (.ref a) (.dict [])
inductive DzAll (H : Hp) : List V → List PyData → Prop
  | nil : DzAll H [] []
  | cons {v : V} {vs : List V} {d : PyData} {ds : List PyData} : Dz H v d → DzAll H vs ds → DzAll H (v :: vs) (d :: ds)
end
mutual
theorem dz_up {H H' : Hp} (s : ∀ a o, (∀ C dx fs, o ≠ .ins C dx fs) → H a = some o → H' a = some o) : ∀ (d : PyData) (v : V), Dz H v d → Dz H' v d
  | .none, _, h => by cases h; exact .non
  | .bool b, _, h => by cases h; exact .bl b
  | .int i, _, h => by cases h; exact .int i
  | .str x, _, h => by cases h; exact .str x
  | .list ds, _, h => by
    cases h with
    | lst e a => exact .lst (s _ _ (fun _ _ _ z => nomatch z) e) (dzAll_up s ds _ a)
  | .tuple ds, _, h => by
    cases h with
    | tup e a => exact .tup (s _ _ (fun _ _ _ z => nomatch z) e) (dzAll_up s ds _ a)
  | .dict ds, _, h => by
    cases h with
    | dic e => exact .dic (s _ _ (fun _ _ _ z => nomatch z) e)
theorem dzAll_up {H H' : Hp} (s : ∀ a o, (∀ C dx fs, o ≠ .ins C dx fs) → H a = some o → H' a = some o) : ∀ (ds : List PyData) (vs : List V), DzAll H vs ds → DzAll H' vs ds
  | [], _, h => by cases h; exact .nil
  | d :: ds, _, h => by
    cases h with
    | cons h1 h2 => exact .cons (dz_up s d _ h1) (dzAll_up s ds _ h2)
end
def rowD : PyData → Option (List PyData)
  | .list xs => some xs
  | .tuple xs => some xs
  | _ => none
def textD : PyData → Option Str
  | .str z => some z
  | _ => none
/-- all texts -/
def textsD : List PyData → Option (List Str)
  | [] => some []
  | d :: ds => match textD d, textsD ds with
    | some z, some zs => some (z :: zs)
    | _, _ => none
/-- is it a name -/
def nmD (d : PyData) : Bool := match textD d with | some z => nameB z | none => false
/-- a thing that is small -/
def smD : PyData → Bool
  | .str z => decide (z.length ≤ 1000)
  | .list xs => decide (xs.length ≤ 1000)
  | .tuple xs => decide (xs.length ≤ 1000)
  | _ => true
def sm1 (d : PyData) : Bool := smD d && (match rowD d with | some xs => xs.all smD | none => true)
def sm2 (d : PyData) : Bool := smD d && (match rowD d with | some xs => xs.all sm1 | none => true)
section
variable {K : PySem.W.Frag} {H : Hp}
theorem row_dz {v : V} {d : PyData} {xs : List PyData} (h : Dz H v d) (e : rowD d = some xs) : ∃ vs, Row K H v vs ∧ DzAll H vs xs := by
  cases h with
  | lst a b => cases e; exact ⟨_, ⟨_, rfl, .inl (.of a)⟩, b⟩
  | tup a b => cases e; exact ⟨_, ⟨_, rfl, .inr (.of a)⟩, b⟩
  | _ => cases e
theorem notRow_dz {v : V} {d : PyData} (h : Dz H v d) (e : rowD d = none) : NotRow K H v := by
  cases h with
  | non => exact ⟨_, .base .non, kit_ty (by decide +kernel), kit_ty (by decide +kernel)⟩
  | bl b => exact ⟨_, .base (.bl b), kit_ty (by decide +kernel), kit_ty (by decide +kernel)⟩
  | int i => exact ⟨_, .base (.int i), kit_ty (by decide +kernel), kit_ty (by decide +kernel)⟩
  | str z => exact ⟨_, .base (.str z), kit_ty (by decide +kernel), kit_ty (by decide +kernel)⟩
  | lst a b => cases e
  | tup a b => cases e
  | dic a => exact ⟨_, .base (.dT a), kit_ty (by decide +kernel), kit_ty (by decide +kernel)⟩
theorem notStr_dz {v : V} {d : PyData} (h : Dz H v d) (e : textD d = none) : OfTy K H v "str" false := by
  cases h with
  | non => exact ⟨_, .base .non, kit_ty (by decide +kernel)⟩
  | bl b => exact ⟨_, .base (.bl b), kit_ty (by decide +kernel)⟩
  | int i => exact ⟨_, .base (.int i), kit_ty (by decide +kernel)⟩
  | str z => cases e
  | lst a b => exact ⟨_, .base (.lst a), kit_ty (by decide +kernel)⟩
  | tup a b => exact ⟨_, .base (.tup a), kit_ty (by decide +kernel)⟩
  | dic a => exact ⟨_, .base (.dT a), kit_ty (by decide +kernel)⟩
theorem str_dz {v : V} {d : PyData} {z : Str} (h : Dz H v d) (e : textD d = some z) : v = .str z := by
  cases h with
  | str y => cases e; rfl
  | _ => cases e
theorem texts_dz : ∀ {vs : List V} {ds : List PyData} {zs : List Str}, DzAll H vs ds → textsD ds = some zs → vs = zs.map V.str
  | _, [], zs, h, e => by
    cases h
    cases e
    rfl
  | _, d :: ds, zs, h, e => by
    cases h with
    | cons h1 h2 =>
      unfold textsD at e
      cases e1 : textD d with
      | none => rw [e1] at e; cases e
      | some z =>
        cases e2 : textsD ds with
        | none => rw [e1, e2] at e; cases e
        | some zs' =>
          rw [e1, e2] at e
          cases e
          rw [str_dz h1 e1, texts_dz h2 e2]
          rfl
/-- is each a name -/
theorem itemsB : ∀ {vs : List V} {ds : List PyData}, DzAll H vs ds → ds.all smD = true → Paired (ItemB K H) vs (ds.map nmD)
  | _, [], h, _ => by cases h; exact .nil
  | _, d :: ds, h, e => by
    cases h with
    | cons h1 h2 =>
      rw [List.all_cons, Bool.and_eq_true] at e
      refine .cons ?_ (itemsB h2 e.2)
      cases e1 : textD d with
      | none => exact .inr ⟨notStr_dz h1 e1, by unfold nmD; rw [e1]⟩
      | some z =>
        obtain rfl := str_dz h1 e1
        refine .inl ⟨z, rfl, ?_, by unfold nmD; rw [e1]⟩
        cases d with
        | str y =>
          cases e1
          have := of_decide_eq_true e.1
          exact Nat.le_trans this (by decide)
        | _ => cases e1
theorem texts_none : ∀ {ds : List PyData}, textsD ds = none → ((ds.map nmD).all id) = false
  | [], e => by cases e
  | d :: ds, e => by
    unfold textsD at e
    rw [List.map_cons, List.all_cons]
    cases e1 : textD d with
    | none =>
      have : nmD d = false := by unfold nmD; rw [e1]
      rw [this]
      rfl
    | some z =>
      cases e2 : textsD ds with
      | none =>
        have := texts_none e2
        rw [this, Bool.and_false]
      | some zs => rw [e1, e2] at e; cases e
theorem texts_len : ∀ {ds : List PyData} {zs : List Str}, textsD ds = some zs → ds = zs.map PyData.str
  | [], zs, e => by cases e; rfl
  | d :: ds, zs, e => by
    unfold textsD at e
    cases e1 : textD d with
    | none => rw [e1] at e; cases e
    | some z =>
      cases e2 : textsD ds with
      | none => rw [e1, e2] at e; cases e
      | some zs' =>
        rw [e1, e2] at e
        cases e
        rw [List.map_cons, ← texts_len e2]
        cases d with
        | str y => cases e1; rfl
        | _ => cases e1
theorem three {α : Type} {xs : List α} (h : ¬ xs.length = 3 → False) : ∃ a b c, xs = [a, b, c] := by
  match xs, h with
  | [a, b, c], _ => exact ⟨a, b, c, rfl⟩
  | [], h => exact (h (by simp)).elim
  | [_], h => exact (h (by simp)).elim
  | [_, _], h => exact (h (by simp)).elim
  | _ :: _ :: _ :: _ :: _, h => exact (h (by simp)).elim
end
/-! data that are written: read at once -/
/-- what is left aside of a heap -/
structure Aside (H0 : Hp) (f : Hp → Hp) : Prop where
  mono : ∀ {H H'}, Same H H' → Same (f H) (f H')
  less : ∀ {H}, Same (f H) H
  new : ∀ {H p o}, Same H0 H → H p = none → f (upd H p o) p = some o
/-- t tells data d, in a heap above H0 -/
def Lit (f : Hp → Hp) (t : TE) (σ : L2.St) (H0 : Hp) (d : PyData) : Prop := ∀ (H : Hp) (Q : VK), Same H0 H → (∀ v H', Same H H' → Dz (f H') v d → Q v H') → t σ H Q
def LitA (f : Hp → Hp) (t : TA) (σ : L2.St) (H0 : Hp) (ds : List PyData) : Prop := ∀ (H : Hp) (Q : List V → Hp → Prop), Same H0 H → (∀ vs H', Same H H' → DzAll (f H') vs ds → Q vs H') → t σ H Q
theorem dz_same {H H' : Hp} (s : Same H H') {d : PyData} {v : V} (h : Dz H v d) : Dz H' v d := dz_up (fun a o _ e => s a o e) d v h
theorem dzAll_same {H H' : Hp} (s : Same H H') {ds : List PyData} {vs : List V} (h : DzAll H vs ds) : DzAll H' vs ds := dzAll_up (fun a o _ e => s a o e) ds vs h
theorem dzAll_len : ∀ {ds : List PyData} {vs : List V} {H : Hp}, DzAll H vs ds → vs.length = ds.length
  | [], _, _, h => by cases h; rfl
  | d :: ds, _, _, h => by cases h with | cons _ h2 => rw [List.length_cons, List.length_cons, dzAll_len h2]
theorem dzAll_append : ∀ {ds es : List PyData} {vs ws : List V} {H : Hp}, DzAll H vs ds → DzAll H ws es → DzAll H (vs ++ ws) (ds ++ es)
  | [], _, _, _, _, h, k => by cases h; exact k
  | d :: ds, _, _, _, _, h, k => by cases h with | cons h1 h2 => exact .cons h1 (dzAll_append h2 k)
theorem dzAll_mem : ∀ {ds : List PyData} {vs : List V} {H : Hp} {v : V}, DzAll H vs ds → v ∈ vs → ∃ d ∈ ds, Dz H v d
  | [], _, _, _, h, m => by cases h; cases m
  | d :: ds, _, _, _, h, m => by
    cases h with
    | cons h1 h2 =>
      rcases List.mem_cons.mp m with rfl | m
      · exact ⟨d, List.mem_cons_self, h1⟩
      · obtain ⟨e, he, k⟩ := dzAll_mem h2 m
        exact ⟨e, List.mem_cons_of_mem _ he, k⟩
theorem dzAll_at : ∀ {ds : List PyData} {vs : List V} {H : Hp} {i : Nat} {v : V}, DzAll H vs ds → vs[i]? = some v → ∃ d, ds[i]? = some d ∧ Dz H v d
  | [], _, _, _, _, h, m => by cases h; cases m
  | d :: ds, _, _, i, _, h, m => by
    cases h with
    | cons h1 h2 =>
      cases i with
      | zero =>
        cases m
        exact ⟨d, rfl, h1⟩
      | succ i => exact dzAll_at (i := i) h2 (by simpa using m)
theorem dzAll_take : ∀ {ds : List PyData} {vs : List V} {H : Hp} (n : Nat), DzAll H vs ds → DzAll H (vs.take n) (ds.take n)
  | [], _, _, n, h => by cases h; simp; exact .nil
  | d :: ds, _, _, n, h => by
    cases h with
    | cons h1 h2 =>
      cases n with
      | zero => exact .nil
      | succ n => exact .cons h1 (dzAll_take n h2)
theorem dzAll_drop : ∀ {ds : List PyData} {vs : List V} {H : Hp} (n : Nat), DzAll H vs ds → DzAll H (vs.drop n) (ds.drop n)
  | [], _, _, n, h => by cases h; simp; exact .nil
  | d :: ds, _, _, n, h => by
    cases h with
    | cons h1 h2 =>
      cases n with
      | zero => exact .cons h1 h2
      | succ n => exact dzAll_drop n h2
theorem dzAll_strs : ∀ {zs : List Str} {H : Hp}, DzAll H (zs.map V.str) (zs.map PyData.str)
  | [], _ => .nil
  | z :: zs, _ => .cons (.str z) dzAll_strs
theorem same_del {H H' : Hp} {l : Addr} (s : Same H H') : Same (del H l) (del H' l) := del_same_of s
theorem aside1 {H0 : Hp} {l : Addr} {u : HO} (hl : H0 l = some u) : Aside H0 (fun H => del H l) :=
  ⟨fun s => same_del s, del_less, fun {H p o} s hp => by
    have n : p ≠ l := fun z => by
      rw [z, s _ _ hl] at hp
      cases hp
    show del (upd H p o) l p = some o
    rw [del_ne n]
    exact upd_same⟩
theorem aside2 {H0 : Hp} {l D : Addr} {u w : HO} (hl : H0 l = some u) (hD : H0 D = some w) : Aside H0 (fun H => del (del H D) l) :=
  ⟨fun s => same_del (same_del s), fun b o e => del_less _ _ (del_less _ _ e), fun {H p o} s hp => by
    have n : p ≠ l := fun z => by
      rw [z, s _ _ hl] at hp
      cases hp
    have n2 : p ≠ D := fun z => by
      rw [z, s _ _ hD] at hp
      cases hp
    show del (del (upd H p o) D) l p = some o
    rw [del_ne n, del_ne n2]
    exact upd_same⟩
section
variable {f : Hp → Hp} {σ : L2.St} {H0 : Hp}
theorem lit_c {v : V} {d : PyData} (h : ∀ H, Dz H v d) : Lit f (tC v) σ H0 d := fun H Q _ q => q v H (Same.refl H) (h _)
theorem lit_var (A : Aside H0 f) {i : Nat} {v : V} {d : PyData} (e : σ[i]? = some (some v)) (h : Dz (f H0) v d) : Lit f (tVar i) σ H0 d := fun H Q s q => ⟨v, e, q v H (Same.refl H) (dz_same (A.mono s) h)⟩
theorem litA_nil : LitA f tNil σ H0 [] := fun H Q _ q => q [] H (Same.refl H) .nil
theorem litA_cons (A : Aside H0 f) {ta : TE} {tr : TA} {d : PyData} {ds : List PyData} (a : Lit f ta σ H0 d) (r : LitA f tr σ H0 ds) : LitA f (tCons ta tr) σ H0 (d :: ds) := fun H Q s q =>
  a H _ s fun v H1 s1 h1 => r H1 _ (s.trans s1) fun vs H2 s2 h2 => q (v :: vs) H2 (s1.trans s2) (.cons (dz_same (A.mono s2) h1) h2)
theorem lit_tup (A : Aside H0 f) {t : TA} {ds : List PyData} (a : LitA f t σ H0 ds) (n : ds.length ≤ 1000) : Lit f (tTup t) σ H0 (.tuple ds) := fun H Q s q =>
  a H _ s fun vs H1 s1 h1 => ⟨by rw [dzAll_len h1]; exact Nat.le_of_lt (small1000 n), fun p hp =>
    q _ _ (s1.trans (same_upd hp)) (.tup (A.new (s.trans s1) hp) (dzAll_same (A.mono (same_upd hp)) h1))⟩
theorem lit_lst (A : Aside H0 f) {t : TA} {ds : List PyData} (a : LitA f t σ H0 ds) (n : ds.length ≤ 1000) : Lit f (tLst t) σ H0 (.list ds) := fun H Q s q =>
  a H _ s fun vs H1 s1 h1 => ⟨by rw [dzAll_len h1]; exact Nat.le_of_lt (small1000 n), fun p hp =>
    q _ _ (s1.trans (same_upd hp)) (.lst (A.new (s.trans s1) hp) (dzAll_same (A.mono (same_upd hp)) h1))⟩
theorem lit_dic (A : Aside H0 f) : Lit f tDNewT σ H0 (.dict []) := fun H Q s q p hp => q _ _ (same_upd hp) (.dic (A.new s hp))
theorem lit_cat (A : Aside H0 f) {ta tb : TE} {ds es : List PyData} (a : Lit f ta σ H0 (.list ds)) (b : Lit f tb σ H0 (.list es)) (n : ds.length + es.length ≤ 1000) : Lit f (tOp rCat ta tb) σ H0 (.list (ds ++ es)) := fun H Q s q =>
  a H _ s fun v H1 s1 h1 => b H1 _ (s.trans s1) fun w H2 s2 h2 => by
    have h1 := dz_same (A.mono s2) h1
    cases h1 with
    | @lst a1' xs1 _ e1 a1 =>
      cases h2 with
      | @lst a2' xs2 _ e2 a2 =>
        refine ⟨_, _, _, _, rfl, rfl, A.less _ _ e1, A.less _ _ e2, by rw [dzAll_len a1, dzAll_len a2]; exact Nat.le_of_lt (small1000 n), fun p hp => ?_⟩
        have sp := same_upd (o := .lst (xs1 ++ xs2)) hp
        exact q _ _ (fun c o z => sp _ _ (s2 _ _ (s1 _ _ z))) (.lst (A.new (fun c o z => s2 _ _ (s1 _ _ (s _ _ z))) hp) (dzAll_same (A.mono sp) (dzAll_append a1 a2)))
end
/-- a name set to what is written -/
theorem seq_lit {f : Hp → Hp} {t : TE} {g : TG} {rest : TS} {D : Ends} {σ : L2.St} {H : Hp} (d : PyData) (a : Lit f t σ H d) (q : ∀ v H', Same H H' → Dz (f H') v d → g v σ H' fun σ' H1 => rest D σ' H1) : tSeq (tAsg t g) rest D σ H := a H _ (Same.refl H) q
theorem lit_run {f : Hp → Hp} {t : TE} {σ : L2.St} {H : Hp} {Q : VK} (d : PyData) (a : Lit f t σ H d) (q : ∀ v H', Same H H' → Dz (f H') v d → Q v H') : t σ H Q := a H _ (Same.refl H) q
theorem del_updS {H : Hp} {l : Addr} {u : HO} : Same (del H l) (del (upd H l u) l) := fun b o e => by
  have n : b ≠ l := fun z => by rw [z, del_same] at e; cases e
  rw [del_ne n] at e ⊢
  rw [upd_ne n]
  exact e
/-- small enough to be shown -/
structure Sh (n k : Nat) (d : PyData) : Prop where
  i : d.showable = true
  l : d.leavesShort 10 = true
  dp : d.depth ≤ k
  w : d.weight ≤ n
structure ShA (n k : Nat) (ds : List PyData) : Prop where
  i : PyData.showableAll ds = true
  l : PyData.leavesShortAll 10 ds = true
  dp : PyData.depthAll ds ≤ k
  w : PyData.weightAll ds ≤ n
theorem shA_nil {n k : Nat} : ShA n k [] := ⟨by rw [PyData.showableAll], by rw [PyData.leavesShortAll], by rw [PyData.depthAll]; exact Nat.zero_le _, by rw [PyData.weightAll]; exact Nat.zero_le _⟩
theorem shA_cons {n m k : Nat} {d : PyData} {ds : List PyData} (a : Sh n k d) (b : ShA m k ds) : ShA (n + 1 + m) k (d :: ds) :=
  ⟨by rw [PyData.showableAll, a.i, b.i]; rfl, by rw [PyData.leavesShortAll, a.l, b.l]; rfl, by rw [PyData.depthAll]; exact Nat.max_le.mpr ⟨a.dp, b.dp⟩, by rw [PyData.weightAll]; have := a.w; have := b.w; omega⟩
theorem sh_tup {n k : Nat} {ds : List PyData} (a : ShA n k ds) : Sh n (k + 1) (.tuple ds) := ⟨by rw [PyData.showable]; exact a.i, by rw [PyData.leavesShort]; exact a.l, by rw [PyData.depth]; exact Nat.succ_le_succ a.dp, by rw [PyData.weight]; exact a.w⟩
theorem sh_lst {n k : Nat} {ds : List PyData} (a : ShA n k ds) : Sh n (k + 1) (.list ds) := ⟨by rw [PyData.showable]; exact a.i, by rw [PyData.leavesShort]; exact a.l, by rw [PyData.depth]; exact Nat.succ_le_succ a.dp, by rw [PyData.weight]; exact a.w⟩
theorem Sh.le {n m k j : Nat} {d : PyData} (a : Sh n k d) (h : n ≤ m) (h2 : k ≤ j) : Sh m j d := ⟨a.i, a.l, Nat.le_trans a.dp h2, Nat.le_trans a.w h⟩
theorem ShA.le {n m k j : Nat} {ds : List PyData} (a : ShA n k ds) (h : n ≤ m) (h2 : k ≤ j) : ShA m j ds := ⟨a.i, a.l, Nat.le_trans a.dp h2, Nat.le_trans a.w h⟩
theorem shA_all {n k : Nat} : ∀ {ds : List PyData}, (∀ d ∈ ds, Sh n k d) → ShA (ds.length * (n + 1)) k ds
  | [], _ => shA_nil
  | d :: ds, h => (shA_cons (h d List.mem_cons_self) (shA_all fun e he => h e (List.mem_cons_of_mem _ he))).le (by rw [List.length_cons, Nat.succ_mul]; omega) (Nat.le_refl _)
theorem lw_fit {z : Str} (h : LW z) : (z.cps.toList.all fun c => decide (c < 16 ^ 8)) = true := List.all_eq_true.mpr fun c hc => decide_eq_true (by have := (h.2.2 c hc).2; omega)
theorem lw_size {z : Str} (h : LW z) : z.cps.size ≤ 8 := h.2.1
theorem sh_lw {z : Str} {k : Nat} (h : LW z) : Sh 8 k (.str z) := ⟨by rw [PyData.showable], by rw [PyData.leavesShort]; exact lw_fit h, by rw [PyData.depth]; exact Nat.zero_le _, by rw [PyData.weight]; exact lw_size h⟩
theorem Sh.shows {n k : Nat} {d : PyData} (a : Sh n k d) (h : n ≤ 1000000) (h2 : k ≤ 40) : ShowsX d := ⟨a.i, a.l, Nat.le_trans a.dp h2, Nat.le_trans a.w (Nat.le_trans h (by decide))⟩

mutual
theorem dz_dy {H : Hp} : ∀ (d : PyData) (v : V), Dz H v d → Dy H v d
  | .none, _, h => by cases h; exact .non
  | .bool b, _, h => by cases h; exact .bl b
  | .int i, _, h => by cases h; exact .int i
  | .str x, _, h => by cases h; exact .str x
  | .list ds, _, h => by
    cases h with
    | lst e a => exact .lst e (dzAll_dy ds _ a)
  | .tuple ds, _, h => by
    cases h with
    | tup e a => exact .tup e (dzAll_dy ds _ a)
  | .dict ds, _, h => by
    cases h with
    | dic e => exact .dT (kvs := []) (vs := []) e .nil
theorem dzAll_dy {H : Hp} : ∀ (ds : List PyData) (vs : List V), DzAll H vs ds → DyAll H vs ds
  | [], _, h => by cases h; exact .nil
  | d :: ds, _, h => by
    cases h with
    | cons h1 h2 => exact .cons (dz_dy d _ h1) (dzAll_dy ds _ h2)
end
mutual
theorem dy_up {H H' : Hp} (s : Same H H') {v : V} {d : PyData} (h : Dy H v d) : Dy H' v d := by
  match h with
  | .non => exact .non
  | .bl b => exact .bl b
  | .int i => exact .int i
  | .str x => exact .str x
  | .lst e a => exact .lst (s _ _ e) (dyAll_up s a)
  | .tup e a => exact .tup (s _ _ e) (dyAll_up s a)
  | .pin e M a b => exact .pin (s _ _ e) M (dyAll_up s a) (dyAll_up s b)
  | .dT e a => exact .dT (s _ _ e) (dyAll_up s a)
theorem dyAll_up {H H' : Hp} (s : Same H H') {vs : List V} {ds : List PyData} (h : DyAll H vs ds) : DyAll H' vs ds := by
  match h with
  | .nil => exact .nil
  | .cons a b => exact .cons (dy_up s a) (dyAll_up s b)
end
theorem dyAll_append {H : Hp} : ∀ {ds es : List PyData} {vs ws : List V}, DyAll H vs ds → DyAll H ws es → DyAll H (vs ++ ws) (ds ++ es)
  | [], _, _, _, h, k => by cases h; exact k
  | d :: ds, _, _, _, h, k => by cases h with | cons h1 h2 => exact .cons h1 (dyAll_append h2 k)
/-- a dict's bounds, by its keys' and its values' -/
theorem sh_dct {k : Nat} : ∀ {n m : Nat} {ks vs : List PyData}, ShA n k ks → ShA m k vs → Sh (n + m) (k + 1) (.dict (ks.zip vs))
  | n, m, [], vs, _, _ => ⟨by rw [List.zip_nil_left, PyData.showable, PyData.showableKv], by rw [List.zip_nil_left, PyData.leavesShort, PyData.leavesShortKv], by rw [List.zip_nil_left, PyData.depth, PyData.depthKv]; omega, by rw [List.zip_nil_left, PyData.weight, PyData.weightKv]; omega⟩
  | n, m, x :: ks, [], _, _ => ⟨by rw [List.zip_nil_right, PyData.showable, PyData.showableKv], by rw [List.zip_nil_right, PyData.leavesShort, PyData.leavesShortKv], by rw [List.zip_nil_right, PyData.depth, PyData.depthKv]; omega, by rw [List.zip_nil_right, PyData.weight, PyData.weightKv]; omega⟩
  | n, m, x :: ks, y :: vs, a, b => by
    obtain ⟨a1, a2, a3, a4⟩ := a
    obtain ⟨b1, b2, b3, b4⟩ := b
    rw [PyData.showableAll, Bool.and_eq_true] at a1 b1
    rw [PyData.leavesShortAll, Bool.and_eq_true] at a2 b2
    rw [PyData.depthAll, Nat.max_le] at a3 b3
    rw [PyData.weightAll] at a4 b4
    obtain ⟨c1, c2, c3, c4⟩ := sh_dct (k := k) (n := PyData.weightAll ks) (m := PyData.weightAll vs) ⟨a1.2, a2.2, a3.2, Nat.le_refl _⟩ ⟨b1.2, b2.2, b3.2, Nat.le_refl _⟩
    rw [PyData.showable] at c1
    rw [PyData.leavesShort] at c2
    rw [PyData.depth] at c3
    rw [PyData.weight] at c4
    refine ⟨?_, ?_, ?_, ?_⟩
    · rw [List.zip_cons_cons, PyData.showable, PyData.showableKv, a1.1, b1.1, c1]; rfl
    · rw [List.zip_cons_cons, PyData.leavesShort, PyData.leavesShortKv, a2.1, b2.1, c2]; rfl
    · rw [List.zip_cons_cons, PyData.depth, PyData.depthKv]
      have := a3.1; have := b3.1
      omega
    · rw [List.zip_cons_cons, PyData.weight, PyData.weightKv]
      omega
end Q9
end
-- QRowsX
section
set_option maxRecDepth 100000
set_option maxHeartbeats 4000000
namespace Q9
open PySem L2
def tFlsX : TE := fun _ _ _ => False
theorem pe_neverX {X : Cx} {e : Expr} : PE X e tFlsX := ⟨fun _ _ _ _ _ _ h => False.elim h⟩
/-- a thing: is it a pair of two texts -/
def KeyB (K : PySem.W.Frag) (H : Hp) (x : V) (b : Bool) : Prop := (OfTy K H x "tuple" false ∧ b = false) ∨ (∃ a xs, x = .ref a ∧ SqT K H a xs ∧ xs.length ≠ 2 ∧ b = false) ∨
  ∃ a u v c d, x = .ref a ∧ SqT K H a [u, v] ∧ OfTy K H u "str" c ∧ OfTy K H v "str" d ∧ b = (c && d)
theorem key_sp {K : PySem.W.Frag} {H : Hp} {x : V} {b : Bool} {Q : VK} {E : XK} (h : KeyB K H x b) (q : Q (.bl b) H) : spIsKey K [x] H Q E := by
  rcases h with ⟨o, rfl⟩ | ⟨a, xs, e, s, n, rfl⟩ | ⟨a, u, v, c, d, e, s, o1, o2, rfl⟩
  · exact ⟨x, rfl, .inl ⟨o, q⟩⟩
  · exact ⟨x, rfl, .inr (.inl ⟨a, xs, e, s, n, q⟩)⟩
  · exact ⟨x, rfl, .inr (.inr ⟨a, u, v, c, d, e, s, o1, o2, q⟩)⟩
theorem ofTy_up {K : PySem.W.Frag} {H H' : Hp} {x : V} {t : String} {b : Bool} (s : Same H H') (h : OfTy K H x t b) : OfTy K H' x t b := by
  obtain ⟨u, ty, e⟩ := h
  exact ⟨u, same_ty s ty, e⟩
theorem keyB_up {K : PySem.W.Frag} {H H' : Hp} {x : V} {b : Bool} (s : Same H H') (h : KeyB K H x b) : KeyB K H' x b := by
  rcases h with ⟨o, e⟩ | ⟨a, xs, e, t, n⟩ | ⟨a, u, v, c, d, e, t, o1, o2, e2⟩
  · exact .inl ⟨ofTy_up s o, e⟩
  · exact .inr (.inl ⟨a, xs, e, sqT_up (Q9.Same.sq s) t, n⟩)
  · exact .inr (.inr ⟨a, u, v, c, d, e, sqT_up (Q9.Same.sq s) t, ofTy_up s o1, ofTy_up s o2, e2⟩)
/-- no dict whose keys are pairs of texts -/
def NoKeys (K : PySem.W.Frag) (H : Hp) (x : V) : Prop := OfTy K H x "dict" false ∨ ∃ (p : Addr) (o : Obj) (kvs : List (V × V)) (bs : List Bool), x = .ref p ∧ MixR p o kvs ∧ H p = some (PinO p o) ∧ Paired (fun kv b => KeyB K H kv.1 b) kvs bs ∧ bs.all id = false
def spAreRowsX (K : PySem.W.Frag) : Sp := fun vs H Q _ => ∃ x, vs = [x] ∧ NoKeys K H x ∧ ∀ H', Same H H' → Q (.bl false) H'
section
variable {P : Program} {w : World} {K : PySem.W.Frag} {mg : Str → Option Value} {base : Heap} {fKey : Addr}
theorem ok_areRowsX {f : Addr} {fd dK : FuncData} (F : Fun K "_are_rows" "_are_rows" sAreRows f fd) (T : TRead K mg fKey) (GK : FnOk P w K mg base CX0 1 fKey dK ["thing"] (spIsKey K)) (bK : Binds K dK ["thing"] []) : FnOk P w K mg base CX0 2 f fd ["moves"] (spAreRowsX K) := by
  refine F.ok scAR (fun vs H Q E h => ?_) (fun cdv A outer s H vs Q E hr h => ?_)
  · obtain ⟨x, rfl, _⟩ := h
    rfl
  · obtain ⟨x, rfl, no, q⟩ := h
    refine ⟨_, pss_cons (ps_if (PW.pt (pw_or (pt_not (pt_val (pe_callB (CallR.or call_isi call_isiX) (by rfl) T.isi (by decide +kernel) (pa_cons (pv 0) (pa_cons (pe_bltn (v := .ty "dict") (by rfl) T.dict (by decide +kernel) rfl) pa_nil)))))
        (pw_or1 (pt_not (pt_val (pe_callB (cr_all rfl) (by rfl) T.all (by decide +kernel) (pa_cons
          (pe_lc (own := [("key", 1)]) (g := gName 1) (tt := tYes) rfl scAR.nd (pi_keysX (pv 0)) (blkOk_by (own := [("key", 1)]) (N := arN) (sc := defScope sAreRows) (by decide +kernel))
            (fun _ _ _ _ _ => pg_name (i := 1) scAR.nd rfl (.inl rfl)) (fun _ _ _ _ _ => pts_nil) (fun _ _ _ _ _ => pe_call GK hr (by rfl) T.gKey T.kKey bK .nil pass0 (pa_cons (pv 1) pa_nil))) pa_nil)))))))
        (pss_one (ps_ret pe_bl)) pss_nil)
      (pss_one (ps_ret pe_neverX)), ?_⟩
    rcases no with ⟨t, ty, e⟩ | ⟨p, o, kvs, bs, rfl, M, hp, kb, bad⟩
    · exact ⟨_, rfl, .inl ⟨_, _, _, _, false, rfl, .ty _, ty, e, false, rfl, iteT (q H (Same.refl H))⟩⟩
    · refine ⟨_, rfl, .inr ⟨p, o, kvs, _, _, true, rfl, .ty _, M, hp, kit_ty (by decide +kernel), true, rfl, iteF ?_⟩⟩
      refine ⟨_, rfl, p, o, kvs, rfl, M, hp, fun D hD => ?_⟩
      refine lc_it walk_mix (fun i H' => Same H H' ∧ H' D = some (.lst ((bs.take i).map V.bl))) ⟨same_upd hD, upd_same⟩ (fun i H' _ z => z.1 _ _ hp) ?_ ?_
      · rintro i x H1 H2 lt ⟨s1, hd⟩ ⟨rfl, v, hk⟩
        obtain ⟨b, hb, kx⟩ := paired_at kb i _ hk
        refine ⟨rfl, _, rfl, ?_⟩
        dsimp only [tNil, List.append_nil]
        refine key_sp (keyB_up s1 kx) ⟨_, hd, ?_, fun c u z => by rw [upd_ne (ne_of_none z hD)]; exact s1 _ _ z, ?_⟩
        · obtain ⟨_, _, es, ep, eo, sz, _⟩ := id M
          rw [List.length_map, List.length_take]
          rw [(mix_size M eo).1] at sz
          omega
        · rw [upd_same, take_one_more hb, List.map_append]
          rfl
      · rintro H1 ⟨s1, hd⟩
        have lb : kvs.length = bs.length := PySem.Paired.length kb
        rw [lb, List.take_length] at hd
        refine ⟨D, _, rfl, .of hd, _, rfl, ?_⟩
        rw [bad]
        exact iteT (q H1 (fun c u z => s1 _ _ z))
end
end Q9
end
-- QRowsV
section
set_option maxRecDepth 100000
set_option maxHeartbeats 4000000
namespace Q9
open PySem L2
/-- a value of moves: is it no row of at most eight -/
def RowOdd (K : PySem.W.Frag) (H : Hp) (v : V) (b : Bool) : Prop := (NotRow K H v ∧ b = true) ∨ ∃ xs, Row K H v xs ∧ xs.length ≤ sizeLine ∧ b = decide (8 < xs.length)
theorem rowOdd_up {K : PySem.W.Frag} {H H' : Hp} {v : V} {b : Bool} (s : Same H H') (h : RowOdd K H v b) : RowOdd K H' v b := by
  rcases h with ⟨n, e⟩ | ⟨xs, r, l, e⟩
  · exact .inl ⟨notRow_up s n, e⟩
  · exact .inr ⟨xs, row_up s r, l, e⟩
def TwoT (k : List Key) : Prop := ∃ a b : Str, k = [kInr a, kInr b]
def spAreRowsV (K : PySem.W.Frag) : Sp := fun vs H Q _ => ∃ (m : Addr) (kvs : List (List Key × V)) (bs : List Bool), vs = [.ref m] ∧ H m = some (.dT kvs) ∧ (∀ kv ∈ kvs, TwoT kv.1) ∧ Paired (fun kv b => RowOdd K (del H m) kv.2 b) kvs bs ∧ kvs.length ≤ 1000000 ∧
  ∀ H', Same H H' → Q (.bl (!bs.any id)) H'
section
variable {P : Program} {w : World} {K : PySem.W.Frag} {mg : Str → Option Value} {base : Heap} {fKey : Addr}
theorem any_more {bs : List Bool} {i : Nat} {b : Bool} (h : bs[i]? = some b) : (bs.take (i + 1)).any id = ((bs.take i).any id || b) := by
  rw [take_one_more h, List.any_append]
  simp
theorem kit_two {ok : Bool} (t : Value) (k1 : ∃ a b, PySem.W.kitOne K t (.type "list") = some a ∧ PySem.W.kitOne K t (.type "tuple") = some b ∧ ok = (a || b)) : PySem.W.kitAny K t [Value.type "list", Value.type "tuple"] = some ok := by
  obtain ⟨a, b, e1, e2, rfl⟩ := k1
  cases a with
  | true => exact kitAny_cons (b := true) e1 (fun z => nomatch z) fun _ => rfl
  | false => exact kitAny_cons (b := false) e1 (fun _ => kitAny_cons (b := b) e2 (fun h => by rw [h]; rfl) fun h => by rw [h]; rfl) (fun z => nomatch z)
theorem ok_areRowsV {f : Addr} {fd dK : FuncData} (F : Fun K "_are_rows" "_are_rows" sAreRows f fd) (T : TRead K mg fKey) (GK : FnOk P w K mg base CX0 1 fKey dK ["thing"] (spIsKey K)) (bK : Binds K dK ["thing"] []) : FnOk P w K mg base CX0 2 f fd ["moves"] (spAreRowsV K) := by
  refine F.ok scAR (fun vs H Q E h => ?_) (fun cdv A outer s H vs Q E hr h => ?_)
  · obtain ⟨m, kvs, bs, rfl, _⟩ := h
    rfl
  · obtain ⟨m, kvs, bs, rfl, hm, tw, ro, few, q⟩ := h
    obtain ⟨to, ho⟩ := T.outcomes
    refine ⟨_, pss_cons (ps_if (PW.pt (pw_or (pt_not (pt_val (pe_callB call_isi (by rfl) T.isi (by decide +kernel) (pa_cons (pv 0) (pa_cons (pe_bltn (v := .ty "dict") (by rfl) T.dict (by decide +kernel) rfl) pa_nil)))))
        (pw_or1 (pt_not (pt_val (pe_callB (cr_all rfl) (by rfl) T.all (by decide +kernel) (pa_cons
          (pe_lock (pe_lc (own := [("key", 1)]) (g := gName 1) (tt := tYes) rfl scAR.nd (pi_keys (pv 0)) (blkOk_by (own := [("key", 1)]) (N := arN) (sc := defScope sAreRows) (by decide +kernel))
            (fun _ _ _ _ _ => pg_name (i := 1) scAR.nd rfl (.inl rfl)) (fun _ _ _ _ _ => pts_nil) (fun _ _ _ _ _ => pe_call GK hr (by rfl) T.gKey T.kKey bK .nil pass0 (pa_cons (pv 1) pa_nil)))) pa_nil)))))))
        (pss_one (ps_ret pe_bl)) pss_nil)
      (pss_one (ps_ret (pe_notT (pe_lock (pe_lc (own := [("row", 2)]) (g := gName 2) (te := tVar 2) rfl scAR.nd (pi_valuesT (pv 0)) (blkOk_by (own := [("row", 2)]) (N := arN) (sc := defScope sAreRows) (by decide +kernel))
            (fun _ _ _ _ _ => pg_name (i := 2) scAR.nd rfl (.inl rfl))
            (fun _ _ _ _ _ => pts_one (PW.pt (pw_or (pt_not (pt_val (pe_callB (id := "isinstance") (r := rIsiT K) call_isiT (by rfl) T.isi (by decide +kernel) (pa_cons (pv 2) (pa_cons (pe_tup (pa_cons (pe_bltn (v := .ty "list") (by rfl) T.lst (by decide +kernel) rfl) (pa_cons (pe_bltn (v := .ty "tuple") (by rfl) T.tup (by decide +kernel) rfl) pa_nil))) pa_nil)))))
              (pw_or1 (pt_cmpR op_gt (pe_callB (id := "len") (r := rLenRow K) cr_lenRow (by rfl) T.len (by decide +kernel) (pa_cons (pv 2) pa_nil)) (pe_glob (v := .int 8) (by rfl) ho ⟨_, rfl⟩) (nomark _))))))
            (fun _ _ _ _ _ => pv 2)))))), ?_⟩
    refine ⟨_, rfl, _, _, _, _, true, rfl, .ty _, .base (.dT hm), kit_ty (by decide +kernel), true, rfl, iteF ?_⟩
    refine ⟨m, .dT kvs, hm, trivial, fun od => ?_⟩
    refine ⟨_, rfl, m, od, rfl, .inr ⟨kvs, upd_same, fun D hD => ?_⟩⟩
    have len : kvs.length = bs.length := PySem.Paired.length ro
    have nmD : m ≠ D := ne_of_none upd_same hD
    have freeD : H D = none := by rw [upd_ne nmD.symm] at hD; exact hD
    refine lc_it walk_keysT (fun i H' => H' m = some (.frz od (.dT kvs)) ∧ But m H H' ∧ H' D = some (.lst ((List.replicate i true).map V.bl))) ?_ (fun i H' _ p => p.1) ?_ ?_
    · exact ⟨by rw [upd_ne nmD]; exact upd_same, fun b o ne e => by rw [upd_ne (ne_of_none e freeD), upd_ne ne]; exact e, upd_same⟩
    · rintro i y H1 H2 hi ⟨hm1, bt, hd⟩ ⟨rfl, k0, v, qa, hk, rfl, hq⟩
      obtain ⟨a, b, ek⟩ := tw _ (List.mem_of_getElem? hk)
      simp only at ek
      subst ek
      have hq' : H2 qa = some (.tup [.str a, .str b]) := hq
      refine ⟨rfl, _, rfl, .ref qa, rfl, .inr (.inr ⟨qa, _, _, true, true, rfl, .of hq', txt_yes _, txt_yes _, _, hd, ?_, ?_, fun b o ne z => ?_, ?_⟩)⟩
      · rw [List.length_map, List.length_replicate]; exact ln6 _ (by omega)
      · rw [upd_ne nmD]; exact hm1
      · rw [upd_ne (ne_of_none z freeD)]; exact bt b o ne z
      · rw [upd_same, List.replicate_succ', List.map_append]; rfl
    · rintro H1 ⟨hm1, bt, hd⟩
      have sb := bt.back hm
      refine ⟨hm1, D, _, rfl, .of (by rw [upd_ne nmD.symm]; exact hd), _, rfl, ?_⟩
      have e1 : (List.replicate kvs.length true).all id = true := by rw [List.all_eq_true]; intro x hx; exact (List.mem_replicate.mp hx).2
      rw [e1]
      refine iteF ?_
      generalize hG : upd H1 m (.dT kvs) = G at sb
      have hmG := sb m _ hm
      have roG := L2.Paired.mapP ro fun _ _ => rowOdd_up (del_same_of (D := m) sb)
      refine ⟨m, .dT kvs, hmG, trivial, fun od2 => ?_⟩
      refine ⟨_, rfl, m, od2, kvs, rfl, upd_same, fun D2 hD2 => ?_⟩
      have nmD2 : m ≠ D2 := ne_of_none upd_same hD2
      have freeD2 : G D2 = none := by rw [upd_ne nmD2.symm] at hD2; exact hD2
      refine lc_it walk_valuesT (fun i H' => H' m = some (.frz od2 (.dT kvs)) ∧ But m G H' ∧ ∃ acc, H' D2 = some (.lst acc) ∧ acc.length ≤ i ∧ (acc.isEmpty = !(bs.take i).any id)) ?_ (fun i H' _ p => p.1) ?_ ?_
      · exact ⟨by rw [upd_ne nmD2]; exact upd_same, fun b o ne e => by rw [upd_ne (ne_of_none e freeD2), upd_ne ne]; exact e, [], upd_same, Nat.le_refl _, rfl⟩
      · rintro i y H2 H3 hi ⟨hm2, bt2, acc, hacc, la, iff⟩ ⟨rfl, k0, hk⟩
        obtain ⟨b, hb, od⟩ := paired_at roG i _ hk
        have am := any_more hb
        refine ⟨rfl, _, rfl, (by show 2 ≤ sizeLine; decide), fun t ht => ?_⟩
        have st := same_upd (o := .tup [.ty "list", .ty "tuple"]) ht
        have bt3 : But m G (upd H3 t (.tup [.ty "list", .ty "tuple"])) := bt2.trans (But.of st)
        have pr : Paired ClsV [V.ty "list", V.ty "tuple"] [Value.type "list", Value.type "tuple"] := .cons (.ty _) (.cons (.ty _) .nil)
        have add : ∀ {H4 : Hp}, Same (upd H3 t (.tup [.ty "list", .ty "tuple"])) H4 → b = true → ∃ acc2, H4 D2 = some (.lst acc2) ∧ acc2.length < sizeLine ∧ (upd H4 D2 (.lst (acc2 ++ [y]))) m = some (.frz od2 (.dT kvs)) ∧ But m G (upd H4 D2 (.lst (acc2 ++ [y]))) ∧
            ∃ acc3, (upd H4 D2 (.lst (acc2 ++ [y]))) D2 = some (.lst acc3) ∧ acc3.length ≤ i + 1 ∧ (acc3.isEmpty = !(bs.take (i + 1)).any id) := fun {H4} s4 eb => by
          refine ⟨acc, s4 _ _ (st _ _ hacc), ln6 _ (by omega), ?_, fun c o ne z => ?_, _, upd_same, ?_, ?_⟩
          · rw [upd_ne nmD2]; exact s4 _ _ (st _ _ hm2)
          · rw [upd_ne (ne_of_none z freeD2)]; exact s4 _ _ (bt3 c o ne z)
          · rw [List.length_append, List.length_singleton]; omega
          · rw [am, eb, Bool.or_true]; simp
        have od3 : RowOdd K (upd H3 t (.tup [.ty "list", .ty "tuple"])) y b := rowOdd_up st (rowOdd_up del_less (rowOdd_up (but_del bt2) od))
        rcases od3 with ⟨⟨t0, ty, k1, k2⟩, eb⟩ | ⟨xs, row, lx, eb⟩
        · refine ⟨y, t, _, _, _, false, rfl, upd_same, pr, ty, kit_two (K := K) t0 ⟨false, false, k1, k2, rfl⟩, false, rfl, iteT ?_⟩
          obtain ⟨acc2, z1, z2, z3⟩ := add (Same.refl _) eb
          exact iteT ⟨_, rfl, acc2, z1, z2, z3⟩
        · have isrow : ∃ t0, TyX K (upd H3 t (.tup [.ty "list", .ty "tuple"])) y t0 ∧ PySem.W.kitAny K t0 [Value.type "list", Value.type "tuple"] = some true := by
            rcases row_ty row with ty | ty
            · exact ⟨_, ty, kit_two (K := K) _ ⟨true, false, kit_ty (by decide +kernel), kit_ty (by decide +kernel), rfl⟩⟩
            · exact ⟨_, ty, kit_two (K := K) _ ⟨false, true, kit_ty (by decide +kernel), kit_ty (by decide +kernel), rfl⟩⟩
          obtain ⟨t0, ty, kt⟩ := isrow
          refine ⟨y, t, _, _, _, true, rfl, upd_same, pr, ty, kt, true, rfl, iteF ?_⟩
          refine ⟨_, rfl, y, xs, rfl, row, _, _, rfl, rfl, _, rfl, ?_⟩
          have eb2 : decide ((8 : Int) < (xs.length : Int)) = b := by
            rw [eb]
            by_cases c : 8 < xs.length
            · rw [decide_eq_true c]; exact decide_eq_true (by omega)
            · rw [decide_eq_false c]; exact decide_eq_false (by omega)
          rw [eb2]
          cases hbb : b with
          | true =>
            obtain ⟨acc2, z1, z2, z3⟩ := add (Same.refl _) hbb
            exact iteT ⟨_, rfl, acc2, z1, z2, z3⟩
          | false => exact iteF ⟨st _ _ hm2, bt3, acc, st _ _ hacc, by omega, by rw [am, hbb, Bool.or_false]; exact iff⟩
      · rintro H2 ⟨hm2, bt2, acc, hacc, la, iff⟩
        rw [len, List.take_length] at iff
        have sb2 := bt2.back hmG
        refine ⟨hm2, _, .inl ⟨acc, .of (by rw [upd_ne nmD2.symm]; exact hacc), rfl⟩, ?_⟩
        rw [Bool.not_not, iff]
        exact q _ fun b o z => sb2 b o (sb b o z)
end
end Q9
end
-- QRefX
section
set_option maxRecDepth 100000
set_option maxHeartbeats 4000000
namespace Q9
open PySem L2
def spOr (a b : Sp) : Sp := fun vs H Q E => a vs H Q E ∨ b vs H Q E
theorem FnOk.or {P : Program} {w : World} {K : PySem.W.Frag} {mg : Str → Option Value} {base : Heap} {CX : CXT} {k : Nat} {f : Addr} {fd : FuncData} {ps : List Str} {a b : Sp} (F : FnOk P w K mg base CX k f fd ps a) (G : FnOk P w K mg base CX k f fd ps b) : FnOk P w K mg base CX k f fd ps (spOr a b) :=
  ⟨fun vs H Q E q => q.elim (F.len vs H Q E) (G.len vs H Q E), fun A outer s H args us vs Q E hr he hb hv hs => hs.elim (F.run A outer s H args us vs Q E hr he hb hv) (G.run A outer s H args us vs Q E hr he hb hv)⟩
def NoName (K : PySem.W.Frag) (H : Hp) (y : V) : Prop := (∃ z, y = .str z ∧ z.length ≤ sizeLine ∧ nameB z = false) ∨ OfTy K H y "str" false
theorem noName_up {K : PySem.W.Frag} {H H' : Hp} (s : Same H H') {y : V} (h : NoName K H y) : NoName K H' y := h.imp id fun ⟨t, ty, e⟩ => ⟨t, same_ty s ty, e⟩
/-! the parts of a kind that are none -/
inductive BadParts (K : PySem.W.Frag) (H : Hp) (n st ex : V) : Str → Prop
  | name : NoName K H n → BadParts K H n st ex "name"
  | start {nm : Str} : n = .str nm → nameB nm = true → NoName K H st → BadParts K H n st ex "start"
  | ends {nm sm : Str} : n = .str nm → nameB nm = true → st = .str sm → nameB sm = true → NoNames K H ex → BadParts K H n st ex "ends"
  | twice {nm sm : Str} {ss : List Str} : n = .str nm → nameB nm = true → st = .str sm → nameB sm = true → Row K H ex (ss.map V.str) → (∀ z ∈ ss, z.length ≤ sizeLine) → ss.length + 1 < scanBound → (ss.all nameB && decide ss.Nodup) = false → BadParts K H n st ex "ends"
theorem badParts_up {K : PySem.W.Frag} {H H' : Hp} {n st ex : V} {p : Str} (s : Same H H') (h : BadParts K H n st ex p) : BadParts K H' n st ex p := by
  cases h with
  | name a => exact .name (noName_up s a)
  | start a b c => exact .start a b (noName_up s c)
  | ends a b c d e => exact .ends a b c d (noNames_up s e)
  | twice a b c d e f g h => exact .twice a b c d (row_up s e) f g h
def spCheckX (CB : Addr) (K : PySem.W.Frag) : Sp := fun vs H Q E => ∃ (n st ex : V) (p : Str), vs = [n, st, ex] ∧ BadParts K H n st ex p ∧ ∀ (H' : Hp) (d : Addr), Same H H' → H d = none → H' d = some (.xd [("part", .str p)]) → E (.ref CB) (some d) H'
section
variable {P : Program} {w : World} {K : PySem.W.Frag} {mg : Str → Option Value} {base : Heap} {C CB fC fRd fName fUn fI fKey fKI : Addr}
theorem ask_name {H : Hp} {v : V} {Q : VK} {E : XK} (h : NoName K H v) (q : ∀ H', Same H H' → Q (.bl false) H') : spForm K nameB [v] H Q E := by
  rcases h with ⟨z, rfl, l, n⟩ | o
  · exact ⟨_, rfl, .inl ⟨z, rfl, l, fun H' s => by rw [n]; exact q H' s⟩⟩
  · exact ⟨_, rfl, .inr ⟨o, q⟩⟩
theorem ask_yes {H : Hp} {z : Str} {Q : VK} {E : XK} (h : nameB z = true) (q : ∀ H', Same H H' → Q (.bl true) H') : spForm K nameB [.str z] H Q E :=
  ⟨_, rfl, .inl ⟨z, rfl, name_len h, fun H' s => by rw [h]; exact q H' s⟩⟩
theorem ok_checkX {f : Addr} {fd dN dU dI : FuncData} (F : Fun K "_check_parts" "_check_parts" sCheckP f fd) (T : TCheckP K mg fName fUn) (TE : TErr K mg "BadKind" "part" CB fI)
    (GI : FnOk P w K mg base CX0 1 fI dI ["self", "part"] (spErrI CB "part")) (bI : Binds K dI ["self", "part"] [])
    (GN : FnOk P w K mg base CX0 2 fName dN ["thing"] (spForm K nameB)) (bN : Binds K dN ["thing"] []) (GU : FnOk P w K mg base CX0 3 fUn dU ["thing"] (spOr (spUnlikeN K) (spUnlike K nameB))) (bU : Binds K dU ["thing"] []) :
    FnOk P w K mg base (L2.CX P w) 4 f fd ["name", "start", "ends"] (spCheckX CB K) := by
  refine F.okX scCP (fun vs H Q E h => ?_) (fun cdv A outer s H vs Q E hr h => ?_)
  · obtain ⟨y, st, ex, p, rfl, _⟩ := h
    rfl
  · obtain ⟨y, st, ex, p, rfl, no, q⟩ := h
    refine ⟨_, pss_cons (ps_if (pt_not (pt_val (pe_call GN (hr.mono (by decide)) (by rfl) T.gN T.kN bN .nil pass0 (pa_cons (pv 0) pa_nil)))) (pss_one (ps_raise rfl (takes_of rfl rfl rfl rfl) (pmk_oex TE.ox TE.iC TE.tI GI (hr.mono (by omega)) bI .nil pass0 (by rfl) TE.gC (pa_cons pe_str pa_nil)))) pss_nil)
      (pss_cons (ps_if (pt_not (pt_val (pe_call GN (hr.mono (by decide)) (by rfl) T.gN T.kN bN .nil pass0 (pa_cons (pv 1) pa_nil)))) (pss_one (ps_raise rfl (takes_of rfl rfl rfl rfl) (pmk_oex TE.ox TE.iC TE.tI GI (hr.mono (by omega)) bI .nil pass0 (by rfl) TE.gC (pa_cons pe_str pa_nil)))) pss_nil)
      (pss_one (ps_if (pt_not (pt_val (pe_call GU (hr.mono (by decide)) (by rfl) T.gU T.kU bU .nil pass0 (pa_cons (pv 2) pa_nil)))) (pss_one (ps_raise rfl (takes_of rfl rfl rfl rfl) (pmk_oex TE.ox TE.iC TE.tI GI (hr.mono (by omega)) bI .nil pass0 (by rfl) TE.gC (pa_cons pe_str pa_nil)))) pss_nil))), ?_⟩
    cases no with
    | name no =>
      refine ⟨_, rfl, ?_⟩
      dsimp only [tNil, List.append_nil]
      refine ask_name no fun H1 s1 => ⟨_, rfl, iteT ⟨(by show 1 ≤ 1000; decide), fun a na => ⟨a, _, rfl, upd_same, fun dx nd ne => ?_⟩⟩⟩
      obtain ⟨r1, r2, r3, r4, r5⟩ := raised (C := CB) (fs := [("part", .str "name")]) s1 na nd ne
      exact ⟨rfl, dx, _, r1, r2, r3, q _ dx r4 r5 upd_same⟩
    | start e1 n1 no =>
      subst e1
      refine ⟨_, rfl, ?_⟩
      dsimp only [tNil, List.append_nil]
      refine ask_yes n1 fun H1 s1 => ⟨_, rfl, iteF ⟨_, rfl, ?_⟩⟩
      dsimp only [tNil, List.append_nil]
      refine ask_name (noName_up s1 no) fun H2 s2 => ⟨_, rfl, iteT ⟨(by show 1 ≤ 1000; decide), fun a na => ⟨a, _, rfl, upd_same, fun dx nd ne => ?_⟩⟩⟩
      obtain ⟨r1, r2, r3, r4, r5⟩ := raised (C := CB) (fs := [("part", .str "start")]) (s1.trans s2) na nd ne
      exact ⟨rfl, dx, _, r1, r2, r3, q _ dx r4 r5 upd_same⟩
    | ends e1 n1 e2 n2 no =>
      subst e1 e2
      refine ⟨_, rfl, ?_⟩
      dsimp only [tNil, List.append_nil]
      refine ask_yes n1 fun H1 s1 => ⟨_, rfl, iteF ⟨_, rfl, ?_⟩⟩
      dsimp only [tNil, List.append_nil]
      refine ask_yes n2 fun H2 s2 => ⟨_, rfl, iteF ⟨_, rfl, .inl ⟨ex, rfl, noNames_up (s1.trans s2) no, fun H3 s3 => ⟨_, rfl, iteT ⟨(by show 1 ≤ 1000; decide), fun a na => ⟨a, _, rfl, upd_same, fun dx nd ne => ?_⟩⟩⟩⟩⟩⟩
      obtain ⟨r1, r2, r3, r4, r5⟩ := raised (C := CB) (fs := [("part", .str "ends")]) ((s1.trans s2).trans s3) na nd ne
      exact ⟨rfl, dx, _, r1, r2, r3, q _ dx r4 r5 upd_same⟩
    | @twice nm sm ss e1 n1 e2 n2 row l1 l2 no =>
      subst e1 e2
      refine ⟨_, rfl, ?_⟩
      dsimp only [tNil, List.append_nil]
      refine ask_yes n1 fun H1 s1 => ⟨_, rfl, iteF ⟨_, rfl, ?_⟩⟩
      dsimp only [tNil, List.append_nil]
      refine ask_yes n2 fun H2 s2 => ⟨_, rfl, iteF ⟨_, rfl, .inr ⟨ex, ss, rfl, row_up (s1.trans s2) row, l1, l2, fun H3 s3 => ⟨_, rfl, ?_⟩⟩⟩⟩
      rw [no]
      refine iteT ⟨(by show 1 ≤ 1000; decide), fun a na => ⟨a, _, rfl, upd_same, fun dx nd ne => ?_⟩⟩
      obtain ⟨r1, r2, r3, r4, r5⟩ := raised (C := CB) (fs := [("part", .str "ends")]) ((s1.trans s2).trans s3) na nd ne
      exact ⟨rfl, dx, _, r1, r2, r3, q _ dx r4 r5 upd_same⟩
end
end Q9
end
-- QReadX
section
set_option maxRecDepth 100000
set_option maxHeartbeats 8000000
namespace Q9
open PySem L2
/-- no moves: no dict of rows by pairs of texts -/
def BadRows (K : PySem.W.Frag) (H : Hp) (x : V) : Prop := NoKeys K H x ∨ ∃ (m : Addr) (kvs : List (List Key × V)) (bs : List Bool), x = .ref m ∧ H m = some (.dT kvs) ∧ (∀ kv ∈ kvs, TwoT kv.1) ∧ Paired (fun kv b => RowOdd K (del H m) kv.2 b) kvs bs ∧ kvs.length ≤ 1000000 ∧ bs.any id = true
theorem noKeys_up {K : PySem.W.Frag} {H H' : Hp} {x : V} (s : Same H H') (h : NoKeys K H x) : NoKeys K H' x := by
  rcases h with o | ⟨p, o, kvs, bs, e, M, hp, kb, bad⟩
  · exact .inl (ofTy_up s o)
  · exact .inr ⟨p, o, kvs, bs, e, M, s _ _ hp, L2.Paired.mapP kb fun _ _ => keyB_up s, bad⟩
theorem badRows_up {K : PySem.W.Frag} {H H' : Hp} {x : V} (s : Same H H') (h : BadRows K H x) : BadRows K H' x := by
  rcases h with n | ⟨m, kvs, bs, e, hm, tw, ro, few, a⟩
  · exact .inl (noKeys_up s n)
  · exact .inr ⟨m, kvs, bs, e, s _ _ hm, tw, L2.Paired.mapP ro fun _ _ => rowOdd_up (del_same_of s), few, a⟩
def spReadX (CB : Addr) (K : PySem.W.Frag) : Sp := fun vs H Q E => ∃ (x st ex : V), vs = [x, st, ex] ∧ BadRows K H x ∧ ∀ (H' : Hp) (d : Addr), Same H H' → H d = none → H' d = some (.xd [("part", .str "moves")]) → E (.ref CB) (some d) H'
section
variable {P : Program} {w : World} {K : PySem.W.Frag} {mg : Str → Option Value} {base : Heap} {C CB fKey fA fP fR fI fC fRd : Addr}
theorem ok_readX {f : Addr} {fd dA dI : FuncData} (F : Fun K "_read_moves" "_read_moves" sRead f fd) (TD : TRd K mg fA fP fR) (TE : TErr K mg "BadKind" "part" CB fI)
    (GI : FnOk P w K mg base CX0 1 fI dI ["self", "part"] (spErrI CB "part")) (bI : Binds K dI ["self", "part"] [])
    (GA : FnOk P w K mg base CX0 2 fA dA ["moves"] (spOr (spAreRowsX K) (spAreRowsV K))) (bA : Binds K dA ["moves"] []) :
    FnOk P w K mg base (L2.CX P w) 5 f fd ["moves", "start", "ends"] (spReadX CB K) := by
  refine F.okX scRd (fun vs H Q E h => ?_) (fun cdv A outer s H vs Q E hr h => ?_)
  · obtain ⟨x, st, ex, rfl, _⟩ := h
    rfl
  · obtain ⟨x, st, ex, rfl, no, q⟩ := h
    refine ⟨_, pss_cons (ps_if (pt_not (pt_val (pe_call GA (hr.mono (by decide)) (by rfl) TD.gA TD.kA bA .nil pass0 (pa_cons (pv 0) pa_nil))))
        (pss_one (ps_raise rfl (takes_of rfl rfl rfl rfl) (pmk_oex TE.ox TE.iC TE.tI GI (hr.mono (by omega)) bI .nil pass0 (by rfl) TE.gC (pa_cons pe_str pa_nil)))) pss_nil) pss_never, ?_⟩
    have out : ∀ H1, Same H H1 → ∀ (tk : True), True := fun _ _ _ => trivial
    refine ⟨_, rfl, ?_⟩
    dsimp only [tNil, List.append_nil]
    rcases no with n | ⟨m, kvs, bs, rfl, hm, tw, ro, few, a⟩
    · refine .inl ⟨x, rfl, n, fun H1 s1 => ⟨_, rfl, iteT ⟨(by show 1 ≤ 1000; decide), fun a na => ⟨a, _, rfl, upd_same, fun dx nd ne => ?_⟩⟩⟩⟩
      obtain ⟨r1, r2, r3, r4, r5⟩ := raised (C := CB) (fs := [("part", .str "moves")]) s1 na nd ne
      exact ⟨rfl, dx, _, r1, r2, r3, q _ dx r4 r5 upd_same⟩
    · refine .inr ⟨m, kvs, bs, rfl, hm, tw, ro, few, fun H1 s1 => ⟨_, rfl, ?_⟩⟩
      rw [a]
      refine iteT ⟨(by show 1 ≤ 1000; decide), fun a na => ⟨a, _, rfl, upd_same, fun dx nd ne => ?_⟩⟩
      obtain ⟨r1, r2, r3, r4, r5⟩ := raised (C := CB) (fs := [("part", .str "moves")]) s1 na nd ne
      exact ⟨rfl, dx, _, r1, r2, r3, q _ dx r4 r5 upd_same⟩
end
end Q9
end
-- QPairsX
section
set_option maxRecDepth 100000
set_option maxHeartbeats 8000000
namespace Q9
open PySem L2
/-- a row, its items: pairs of texts or not -/
def RowKB (K : PySem.W.Frag) (H : Hp) (v : V) (bs : List Bool) : Prop := ∃ vs, Row K H v vs ∧ Paired (KeyB K H) vs bs
theorem rowKB_up {K : PySem.W.Frag} {H H' : Hp} {v : V} {bs : List Bool} (s : Same H H') (h : RowKB K H v bs) : RowKB K H' v bs := by
  obtain ⟨vs, r, p⟩ := h
  exact ⟨vs, row_up s r, L2.Paired.mapP p fun _ _ => keyB_up s⟩
def yesN (bs : List Bool) : Nat := (bs.filter id).length
theorem yesN_append (a b : List Bool) : yesN (a ++ b) = yesN a + yesN b := by
  unfold yesN
  rw [List.filter_append, List.length_append]
theorem yesN_le (a : List Bool) : yesN a ≤ a.length := List.length_filter_le _ _
theorem yesN_one (b : Bool) : yesN [b] = if b = true then 1 else 0 := by cases b <;> rfl
def spPairsX (K : PySem.W.Frag) : Sp := fun vs H Q _ => ∃ (r : Addr) (rows : List V) (bss : List (List Bool)), vs = [.ref r] ∧ SqL K H r rows ∧ Paired (RowKB K H) rows bss ∧ bss.flatten.length ≤ 1000000 ∧
  ∀ (H' : Hp) (p : Addr) (vs : List V), Same H H' → H' p = some (.lst vs) → vs.length = yesN bss.flatten → Q (.ref p) H'
section
variable {P : Program} {w : World} {K : PySem.W.Frag} {mg : Str → Option Value} {base : Heap} {fKey : Addr}
theorem ok_pairsX {f : Addr} {fd : FuncData} (F : Fun K "_pairs_of_texts" "_pairs_of_texts" sPairs f fd) (T : TRead K mg fKey) : FnOk P w K mg base CX0 1 f fd ["rows"] (spPairsX K) := by
  refine F.ok scPa (fun vs H Q E h => ?_) (fun cdv A outer s H vs Q E hr h => ?_)
  · obtain ⟨r, rows, bss, rfl, _⟩ := h
    rfl
  · obtain ⟨r, rows, bss, rfl, hr0, each, few, q⟩ := h
    refine ⟨_, pss_one (ps_ret (pe_lc2 (own := [("row", 1), ("one", 2)]) (vs1 := [2]) (g := gName 1) (tt := tYes) (wi1 := iRowB K (tVar 1)) (g1 := gName 2) (te := tVar 2) rfl scPa.nd (pi_list (pv 0)) (blkOk_by (own := [("row", 1), ("one", 2)]) (N := paN) (sc := defScope sPairs) (by decide +kernel)) (by decide)
      (fun _ _ _ _ _ => pg_name (i := 1) scPa.nd rfl (.inl rfl)) (fun _ _ _ _ _ => pts_nil) (fun _ _ _ _ _ => pi_rowB (pv 1)) (fun _ _ _ _ _ => pg_name (i := 2) scPa.nd rfl (.inl rfl))
      (fun _ _ _ _ _ => pts_one (PW.pt (pw_and (pt_val (pe_callB (id := "isinstance") (r := rIsi K) call_isi (by rfl) T.isi (by decide +kernel) (pa_cons (pv 2) (pa_cons (pe_bltn (v := .ty "tuple") (by rfl) T.tup (by decide +kernel) rfl) pa_nil))))
        (pw_and (pt_cmpR op_eq (pe_callB (id := "len") (r := rLenRow K) cr_lenRow (by rfl) T.len (by decide +kernel) (pa_cons (pv 2) pa_nil)) pe_int (nomark _))
        (pw_and (pt_val (pe_callB (id := "isinstance") (r := rIsi K) call_isi (by rfl) T.isi (by decide +kernel) (pa_cons (pe_ix (r := rIxT K) ix_tup (pv 2) pe_int (fun _ _ => rfl)) (pa_cons (pe_bltn (v := .ty "str") (by rfl) T.str (by decide +kernel) rfl) pa_nil))))
        (pw_and1 (pt_val (pe_callB (id := "isinstance") (r := rIsi K) call_isi (by rfl) T.isi (by decide +kernel) (pa_cons (pe_ix (r := rIxT K) ix_tup (pv 2) pe_int (fun _ _ => rfl)) (pa_cons (pe_bltn (v := .ty "str") (by rfl) T.str (by decide +kernel) rfl) pa_nil))))))))))
      (fun _ _ _ _ _ => pv 2))), ?_⟩
    refine ⟨_, rfl, r, rfl, ⟨_, hr0⟩, fun D hD => ?_⟩
    have lr : rows.length = bss.length := PySem.Paired.length each
    have flat : ∀ i, (bss.take i).flatten.length ≤ 1000000 := fun i => by
      refine Nat.le_trans ?_ few
      conv => rhs; rw [← List.take_append_drop i bss, List.flatten_append, List.length_append]
      exact Nat.le_add_right _ _
    refine turns_it (walk_list (xs := rows)) (fun i H' => Same H H' ∧ ∃ vs, H' D = some (.lst vs) ∧ vs.length = yesN (bss.take i).flatten) ⟨same_upd hD, [], upd_same, rfl⟩ (fun i H' _ p => sqL_up (Q9.Same.sq p.1) hr0) ?_ ?_
    · rintro i y H1 H2 hi ⟨s1, vs, hvs, lv⟩ ⟨rfl, hy⟩
      obtain ⟨bs, hbs, us, row, eb⟩ := paired_at each i _ hy
      have lu : us.length = bs.length := PySem.Paired.length eb
      have fl := flat (i + 1)
      have efl : (bss.take (i + 1)).flatten = (bss.take i).flatten ++ bs := by rw [take_one_more hbs, List.flatten_append]; simp
      rw [efl, List.length_append] at fl
      have y1 := yesN_le (bss.take i).flatten
      refine ⟨rfl, _, rfl, us, H, row, s1, fun J G hG wk => ?_⟩
      refine turns_it wk (fun j H' => Same H H' ∧ ∃ acc, H' D = some (.lst acc) ∧ acc.length = yesN (bss.take i).flatten + yesN (bs.take j)) ⟨s1, vs, hvs, by rw [lv]; rfl⟩ (fun j H' _ p => hG _ p.1) ?_ ?_
      · rintro j y2 H3 H4 hj ⟨s3, acc, hacc, lacc⟩ ⟨rfl, hy2⟩
        obtain ⟨b, hb, kb⟩ := paired_at eb j _ hy2
        have kb4 := keyB_up s3 kb
        have y2' := yesN_le (bs.take j)
        have l2 : (bs.take j).length ≤ bs.length := (List.take_sublist j bs).length_le
        have e1 : yesN (bs.take (j + 1)) = yesN (bs.take j) + if b = true then 1 else 0 := by rw [take_one_more hb, yesN_append, yesN_one]
        have no : b = false → Same H H4 ∧ ∃ acc, H4 D = some (.lst acc) ∧ acc.length = yesN (bss.take i).flatten + yesN (bs.take (j + 1)) := fun z => ⟨s3, acc, hacc, by rw [e1, z, lacc]; rfl⟩
        rcases kb4 with ⟨⟨t, ty, e⟩, z⟩ | ⟨a, xs, rfl, hx, hn, z⟩ | ⟨a, u, v, c, d, rfl, hx, ⟨t1, ty1, f1⟩, ⟨t2, ty2, f2⟩, z⟩
        · exact ⟨rfl, _, rfl, _, _, _, _, false, rfl, .ty _, ty, e, false, rfl, iteF (no z)⟩
        · refine ⟨rfl, _, rfl, _, _, _, _, true, rfl, .ty _, sqT_ty hx, kit_ty (by decide +kernel), true, rfl, iteT ?_⟩
          have e : decide (V.int (xs.length : Int) = V.int 2) = false := decide_eq_false fun z => hn (by injection z with z; omega)
          refine ⟨_, rfl, _, _, rfl, ⟨a, rfl, .inr hx⟩, rfl, _, rfl, ?_⟩
          rw [e]
          exact iteF (no z)
        · refine ⟨rfl, _, rfl, _, _, _, _, true, rfl, .ty _, sqT_ty hx, kit_ty (by decide +kernel), true, rfl, iteT ?_⟩
          refine ⟨_, rfl, _, _, rfl, ⟨a, rfl, .inr hx⟩, rfl, true, rfl, iteT ?_⟩
          refine ⟨_, rfl, a, _, _, _, rfl, rfl, hx, atI_nat (j := 0) rfl, _, _, _, _, c, rfl, .ty _, ty1, f1, c, rfl, ?_⟩
          cases c with
          | false => exact iteF (no (by rw [z]; rfl))
          | true =>
            refine iteT ⟨_, rfl, a, _, _, _, rfl, rfl, hx, atI_nat (j := 1) rfl, _, _, _, _, d, rfl, .ty _, ty2, f2, d, rfl, ?_⟩
            cases d with
            | false => exact iteF (no (by rw [z]; rfl))
            | true =>
              refine iteT ⟨_, rfl, acc, hacc, ln6 _ (by omega), fun b' u z' => ?_, _, upd_same, ?_⟩
              · rw [upd_ne (ne_of_none z' hD)]
                exact s3 b' u z'
              · rw [e1, z, List.length_append, List.length_singleton, lacc]
                rfl
      · rintro H3 ⟨s3, acc, hacc, lacc⟩
        rw [lu, List.take_length] at lacc
        exact ⟨s3, acc, hacc, by rw [efl, yesN_append]; exact lacc⟩
    · rintro H1 ⟨s1, vs, hvs, lv⟩
      rw [lr, List.take_length] at lv
      exact q H1 D vs s1 hvs lv
end
end Q9
end
-- QRightW
section
set_option maxRecDepth 100000
set_option maxHeartbeats 8000000
namespace Q9
open PySem L2
/-- are_right of any texts -/
def spRightW (K : PySem.W.Frag) : Sp := fun vs H Q _ => ∃ (a b c : Addr) (ws ss ms : List Str), vs = [.ref a, .ref b, .ref c] ∧ SqL K H a (ws.map V.str) ∧ SqL K H b (ss.map V.str) ∧ SqL K H c (ms.map V.str) ∧
  (∀ z ∈ ws, z.length ≤ sizeLine) ∧ (∀ z ∈ ss, z.length ≤ sizeLine) ∧ (∀ z ∈ ms, z.length ≤ sizeLine) ∧ ws.length ≤ 1000000 ∧ ss.length ≤ 1000000 ∧ ms.length ≤ 1000000 ∧ ∀ H', Same H H' → Q (.bl ((decide (ss.length ≤ 60) && decide (ms.length ≤ 8)) && (ws.all wordB && (ss.all nameB && ms.all nameB)))) H'
section
variable {P : Program} {w : World} {K : PySem.W.Frag} {mg : Str → Option Value} {base : Heap} {fKey fName fWord : Addr}
theorem all_map (p : Str → Bool) (zs : List Str) : ((zs.map p).all id) = zs.all p := by
  rw [List.all_map]
  rfl
theorem ok_rightW {f : Addr} {fd dN dW : FuncData} (F : Fun K "_are_right" "_are_right" sRight f fd) (T : TRead K mg fKey) (TR : TRight K mg fName fWord)
    (GN : FnOk P w K mg base CX0 2 fName dN ["thing"] (spForm K nameB)) (bN : Binds K dN ["thing"] []) (GW : FnOk P w K mg base CX0 3 fWord dW ["thing"] (spForm K wordB)) (bW : Binds K dW ["thing"] []) :
    FnOk P w K mg base CX0 4 f fd ["words", "states", "methods"] (spRightW K) := by
  refine F.ok scRi (fun vs H Q E h => ?_) (fun cdv A outer s H vs Q E hr h => ?_)
  · obtain ⟨a, b, c, ws, ss, ms, rfl, _⟩ := h
    rfl
  · obtain ⟨a, b, c, ws, ss, ms, rfl, ha, hb, hc, aw, as_, am, lw, ls, lm, q⟩ := h
    obtain ⟨t1, h1⟩ := T.states
    obtain ⟨t2, h2⟩ := T.methods
    refine ⟨_, pss_cons (ps_if (PW.pt (pw_or (pt_cmpR op_gt (pe_callB cr_lenRow (by rfl) T.len (by decide +kernel) (pa_cons (pv 1) pa_nil)) (pe_glob (v := .int 60) (by rfl) h1 ⟨_, rfl⟩) (nomark _))
        (pw_or (pt_cmpR op_gt (pe_callB cr_lenRow (by rfl) T.len (by decide +kernel) (pa_cons (pv 2) pa_nil)) (pe_glob (v := .int 8) (by rfl) h2 ⟨_, rfl⟩) (nomark _))
        (pw_or1 (pt_not (pt_val (pe_callB (cr_all rfl) (by rfl) T.all (by decide +kernel) (pa_cons
          (pe_lc (own := [("word", 3)]) (g := gName 3) (tt := tYes) rfl scRi.nd (pi_list (pv 0)) (blkOk_by (own := [("word", 3)]) (N := riN) (sc := defScope sRight) (by decide +kernel))
            (fun _ _ _ _ _ => pg_name (i := 3) scRi.nd rfl (.inl rfl)) (fun _ _ _ _ _ => pts_nil) (fun _ _ _ _ _ => pe_call GW (hr.mono (by decide)) (by rfl) TR.gW TR.kW bW .nil pass0 (pa_cons (pv 3) pa_nil))) pa_nil))))))))
        (pss_one (ps_ret pe_bl)) pss_nil)
      (pss_one (ps_ret (pe_and (pe_callB (cr_all rfl) (by rfl) T.all (by decide +kernel) (pa_cons
          (pe_lc (own := [("name", 4)]) (g := gName 4) (tt := tYes) rfl scRi.nd (pi_list (pv 1)) (blkOk_by (own := [("name", 4)]) (N := riN) (sc := defScope sRight) (by decide +kernel))
            (fun _ _ _ _ _ => pg_name (i := 4) scRi.nd rfl (.inl rfl)) (fun _ _ _ _ _ => pts_nil) (fun _ _ _ _ _ => pe_call GN (hr.mono (by decide)) (by rfl) TR.gN TR.kN bN .nil pass0 (pa_cons (pv 4) pa_nil))) pa_nil))
        (pe_one (pe_callB (cr_all rfl) (by rfl) T.all (by decide +kernel) (pa_cons
          (pe_lc (own := [("name", 4)]) (g := gName 4) (tt := tYes) rfl scRi.nd (pi_list (pv 2)) (blkOk_by (own := [("name", 4)]) (N := riN) (sc := defScope sRight) (by decide +kernel))
            (fun _ _ _ _ _ => pg_name (i := 4) scRi.nd rfl (.inl rfl)) (fun _ _ _ _ _ => pts_nil) (fun _ _ _ _ _ => pe_call GN (hr.mono (by decide)) (by rfl) TR.gN TR.kN bN .nil pass0 (pa_cons (pv 4) pa_nil))) pa_nil)))))), ?_⟩
    refine ⟨_, rfl, .ref b, _, rfl, ⟨b, rfl, .inl hb⟩, _, _, rfl, rfl, _, rfl, ?_⟩
    rw [List.length_map]
    by_cases c1 : ss.length ≤ 60
    case neg =>
      rw [show decide ((60 : Int) < (ss.length : Int)) = true from decide_eq_true (by omega)]
      rw [decide_eq_false c1] at q
      exact iteT (iteT (q H (Same.refl H)))
    rw [show decide ((60 : Int) < (ss.length : Int)) = false from decide_eq_false (by omega)]
    refine iteF ⟨_, rfl, .ref c, _, rfl, ⟨c, rfl, .inl hc⟩, _, _, rfl, rfl, _, rfl, ?_⟩
    rw [List.length_map]
    rw [decide_eq_true c1, Bool.true_and] at q
    by_cases c2 : ms.length ≤ 8
    case neg =>
      rw [show decide ((8 : Int) < (ms.length : Int)) = true from decide_eq_true (by omega)]
      rw [decide_eq_false c2] at q
      exact iteT (iteT (q H (Same.refl H)))
    rw [show decide ((8 : Int) < (ms.length : Int)) = false from decide_eq_false (by omega)]
    rw [decide_eq_true c2, Bool.true_and] at q
    refine iteF ⟨_, rfl, a, rfl, ⟨_, ha⟩, fun D hD => ?_⟩
    have stp : ∀ {zs : List Str} {p : Str → Bool} {G : Hp} {D : Addr} {i : Nat} {z : Str} {H1 H4 : Hp}, zs.length ≤ 1000000 → zs[i]? = some z → G D = none → Same G H1 → H1 D = some (.lst (((zs.take i).map p).map V.bl)) → Same H1 H4 →
        ∃ acc, H4 D = some (.lst acc) ∧ acc.length < sizeLine ∧ Same G (upd H4 D (.lst (acc ++ [.bl (p z)]))) ∧ upd H4 D (.lst (acc ++ [.bl (p z)])) D = some (.lst (((zs.take (i + 1)).map p).map V.bl)) := by
      intro zs p G D i z H1 H4 lz hz hG s1 hd s4
      refine ⟨_, s4 _ _ hd, by rw [List.length_map, List.length_map, List.length_take]; exact ln6 _ (by omega), fun b o e => ?_, ?_⟩
      · rw [upd_ne (ne_of_none e hG)]
        exact s4 _ _ (s1 _ _ e)
      · rw [upd_same, take_one_more hz, List.map_append, List.map_append]
        rfl
    have get : ∀ {zs : List Str} {i : Nat} {y : V}, (zs.map V.str)[i]? = some y → ∃ z, zs[i]? = some z ∧ y = V.str z := by
      intro zs i y hy
      rw [List.getElem?_map] at hy
      obtain ⟨z, h1, h2⟩ := Option.map_eq_some_iff.mp hy
      exact ⟨z, h1, h2.symm⟩
    refine lc_it (walk_list (xs := ws.map V.str)) (fun i H' => Same H H' ∧ H' D = some (.lst (((ws.take i).map wordB).map V.bl))) ⟨same_upd hD, upd_same⟩ (fun i H' _ p => sqL_up (Q9.Same.sq p.1) ha) ?_ ?_
    · rintro i y H1 H2 hi ⟨s1, hd⟩ ⟨rfl, hy⟩
      obtain ⟨z, hz, rfl⟩ := get hy
      exact ⟨rfl, _, rfl, _, rfl, .inl ⟨z, rfl, aw z (List.mem_of_getElem? hz), fun H4 s4 => stp lw hz hD s1 hd s4⟩⟩
    rintro H1 ⟨s1, hd⟩
    rw [List.length_map, List.take_length] at hd
    refine ⟨D, _, rfl, .of hd, _, rfl, ?_⟩
    rw [all_map]
    cases ew : ws.all wordB with
    | false =>
      rw [ew] at q
      exact iteT (q H1 s1)
    | true =>
      rw [ew, Bool.true_and] at q
      refine iteF ⟨_, rfl, b, rfl, ⟨_, s1.seq hb⟩, fun D2 hD2 => ?_⟩
      refine lc_it (walk_list (xs := ss.map V.str)) (fun i H' => Same H1 H' ∧ H' D2 = some (.lst (((ss.take i).map nameB).map V.bl))) ⟨same_upd hD2, upd_same⟩ (fun i H' _ p => sqL_up (Q9.Same.sq p.1) (s1.seq hb)) ?_ ?_
      · rintro i y H3 H2 hi ⟨s3, hd⟩ ⟨rfl, hy⟩
        obtain ⟨z, hz, rfl⟩ := get hy
        exact ⟨rfl, _, rfl, _, rfl, .inl ⟨z, rfl, as_ z (List.mem_of_getElem? hz), fun H4 s4 => stp ls hz hD2 s3 hd s4⟩⟩
      rintro H2 ⟨s2, hd2⟩
      rw [List.length_map, List.take_length] at hd2
      have s12 : Same H H2 := fun b o z => s2 _ _ (s1 _ _ z)
      refine ⟨D2, _, rfl, .of hd2, _, rfl, ?_⟩
      rw [all_map]
      cases es : ss.all nameB with
      | false =>
        rw [es] at q
        exact iteF (q H2 s12)
      | true =>
        rw [es, Bool.true_and] at q
        refine iteT ⟨_, rfl, c, rfl, ⟨_, s12.seq hc⟩, fun D3 hD3 => ?_⟩
        refine lc_it (walk_list (xs := ms.map V.str)) (fun i H' => Same H2 H' ∧ H' D3 = some (.lst (((ms.take i).map nameB).map V.bl))) ⟨same_upd hD3, upd_same⟩ (fun i H' _ p => sqL_up (Q9.Same.sq p.1) (s12.seq hc)) ?_ ?_
        · rintro i y H3 H4' hi ⟨s3, hd⟩ ⟨rfl, hy⟩
          obtain ⟨z, hz, rfl⟩ := get hy
          exact ⟨rfl, _, rfl, _, rfl, .inl ⟨z, rfl, am z (List.mem_of_getElem? hz), fun H4 s4 => stp lm hz hD3 s3 hd s4⟩⟩
        rintro H3 ⟨s3, hd3⟩
        rw [List.length_map, List.take_length] at hd3
        refine ⟨D3, _, rfl, .of hd3, ?_⟩
        rw [all_map]
        exact q H3 fun b o z => s3 _ _ (s12 _ _ z)
end
end Q9
end
-- QWithX
section
set_option maxRecDepth 100000
set_option maxHeartbeats 8000000
namespace Q9
open PySem L2
/-! the outcomes as tuples, whatever they are -/
def KeyU (K : PySem.W.Frag) (B : Hp) (us : List V) (b : Bool) : Prop := (us.length ≠ 2 ∧ b = false) ∨ ∃ u v c d, us = [u, v] ∧ OfTy K B u "str" c ∧ OfTy K B v "str" d ∧ b = (c && d)
/-- an outcome, and what it is as a tuple -/
def ItW (K : PySem.W.Frag) (B : Hp) (y : V) (b : Bool) : Prop := (OfTy K B y "list" false ∧ KeyB K B y b) ∨ ∃ q us, y = .ref q ∧ SqL K B q us ∧ KeyU K B us b
def NewIt (K : PySem.W.Frag) (B H : Hp) (y : V) (b : Bool) : Prop := KeyB K B y b ∨ ∃ q us, y = .ref q ∧ H q = some (.tup us) ∧ KeyU K B us b
theorem newIt_key {K : PySem.W.Frag} {B H : Hp} {y : V} {b : Bool} (s : Same B H) (h : NewIt K B H y b) : KeyB K H y b := by
  rcases h with h | ⟨q, us, e, hq, ⟨n, z⟩ | ⟨u, v, c, d, rfl, o1, o2, z⟩⟩
  · exact keyB_up s h
  · exact .inr (.inl ⟨q, us, e, .of hq, n, z⟩)
  · exact .inr (.inr ⟨q, u, v, c, d, e, .of hq, ofTy_up s o1, ofTy_up s o2, z⟩)
theorem newIt_up {K : PySem.W.Frag} {B H H' : Hp} {y : V} {b : Bool} (s : ∀ q us, H q = some (.tup us) → H' q = some (.tup us)) (h : NewIt K B H y b) : NewIt K B H' y b :=
  h.imp id fun ⟨q, us, e, hq, z⟩ => ⟨q, us, e, s _ _ hq, z⟩
def RowW (K : PySem.W.Frag) (B : Hp) (v : V) (bs : List Bool) : Prop := ∃ us, Row K B v us ∧ Paired (ItW K B) us bs
def RowN (K : PySem.W.Frag) (B H : Hp) (v : V) (bs : List Bool) : Prop := ∃ a xs, v = .ref a ∧ H a = some (.lst xs) ∧ Paired (NewIt K B H) xs bs
theorem rowN_up {K : PySem.W.Frag} {B H H' : Hp} {v : V} {bs : List Bool} (s : ∀ q us, H q = some (.tup us) → H' q = some (.tup us)) (s2 : ∀ q us, H q = some (.lst us) → H' q = some (.lst us)) (h : RowN K B H v bs) : RowN K B H' v bs := by
  obtain ⟨a, xs, e, ha, p⟩ := h
  exact ⟨a, xs, e, s2 _ _ ha, L2.Paired.mapP p fun _ _ => newIt_up s⟩
def spWithX (K : PySem.W.Frag) : Sp := fun vs H Q _ => ∃ (m : Addr) (kvs : List (List Key × V)) (bss : List (List Bool)), vs = [.ref m] ∧ H m = some (.dT kvs) ∧ (kvs.map (·.1)).Nodup ∧ (∀ kv ∈ kvs, TwoT kv.1) ∧ Paired (fun kv bs => RowW K (del H m) kv.2 bs) kvs bss ∧ kvs.length ≤ 1000000 ∧ (∀ bs ∈ bss, bs.length ≤ 1000000) ∧
  ∀ (H' : Hp) (p : Addr) (kvs' : List (List Key × V)), Same H H' → H' p = some (.dT kvs') → kvs'.map (·.1) = kvs.map (·.1) → Paired (fun kv bs => RowKB K H' kv.2 bs) kvs' bss → Q (.ref p) H'
section
variable {P : Program} {w : World} {K : PySem.W.Frag} {mg : Str → Option Value} {base : Heap} {fKey : Addr}
theorem ok_withX {f : Addr} {fd : FuncData} (F : Fun K "_with_tuples" "_with_tuples" sWith f fd) (T : TRead K mg fKey) : FnOk P w K mg base CX0 1 f fd ["moves"] (spWithX K) := by
  refine F.ok scWi (fun vs H Q E h => ?_) (fun cdv A outer s H vs Q E hr h => ?_)
  · obtain ⟨m, kvs, bss, rfl, _⟩ := h
    rfl
  · obtain ⟨m, kvs, bss, rfl, hm, nd0, tw, M, few, fewE, q⟩ := h
    have hu := hu_of hr
    refine ⟨_, pss_one (ps_ret (pe_lock (pe_dcT (tk := tVar 1)
        (tv := tLc (iRowB K (tDGet (tVar 0) (tVar 1))) (gName 2) tYes (tIf (tB (tCB (rIsi K) (tCons (tVar 2) (tCons (tC (.ty "list")) tNil)))) (tCB (rTupOf K) (tCons (tVar 2) tNil)) (tVar 2)) [2])
        (tt := tYes) (own := [("key", 1)]) (g := gName 1) (Nat.lt_of_succ_lt hu) rfl scWi.nd (pi_keys (pv 0)) (blkOk_by (own := [("key", 1)]) (N := wiN) (sc := defScope sWith) (by decide +kernel))
      (fun _ _ _ _ _ => pg_name (i := 1) scWi.nd rfl (.inl rfl)) (fun _ _ _ _ _ => pts_nil) (fun _ _ _ _ _ => pv 1)
      (fun _ _ _ _ _ => pe_lc (wi := iRowB K (tDGet (tVar 0) (tVar 1))) (own := [("one", 2)]) (g := gName 2) (tt := tYes) rfl scWi.nd (pi_rowB (pe_dget hu (pv 0) (pv 1) (fun _ _ => rfl))) (show BlkOk wiN wiSc wiSc2 _ from blkOk_by (own := [("one", 2)]) (N := wiN) (sc := wiSc) (by decide +kernel))
        (fun _ _ _ _ _ => pg_name (i := 2) scWi.nd rfl (.inl rfl)) (fun _ _ _ _ _ => pts_nil)
        (fun _ _ _ _ _ => pe_ifExp (pt_val (pe_callB (id := "isinstance") (r := rIsi K) call_isi (by rfl) T.isi (by decide +kernel) (pa_cons (pv 2) (pa_cons (pe_bltn (v := .ty "list") (by rfl) T.lst (by decide +kernel) rfl) pa_nil))))
          (pe_callTy (r := rTupOf K) cr_tupOf (by rfl) T.tup (by decide +kernel) (pa_cons (pv 2) pa_nil)) (pv 2)))))), ?_⟩
    have len : kvs.length = bss.length := PySem.Paired.length M
    refine ⟨m, .dT kvs, hm, trivial, fun od => ⟨_, rfl, m, od, rfl, .inr ⟨kvs, upd_same, fun D hD => ?_⟩⟩⟩
    have nmD : m ≠ D := ne_of_none upd_same hD
    have freeD : H D = none := by rw [upd_ne nmD.symm] at hD; exact hD
    refine coll_it walk_keysT (fun i H' => H' m = some (.frz od (.dT kvs)) ∧ But m H H' ∧ ∃ kvs' : List (List Key × V), H' D = some (.dT kvs') ∧ kvs'.map (·.1) = (kvs.take i).map (·.1) ∧ Paired (fun kv bs => RowN K (del H m) H' kv.2 bs) kvs' (bss.take i)) ?_ (fun i H' _ p => p.1) ?_ ?_
    · exact ⟨by rw [upd_ne nmD]; exact upd_same, fun b o ne e => by rw [upd_ne (ne_of_none e freeD), upd_ne ne]; exact e, [], upd_same, rfl, .nil⟩
    · rintro i y Ha Hb hi ⟨hma, bt, kvs', hd, ekeys, ents⟩ ⟨rfl, k0, v, qa, hk, rfl, hq⟩
      obtain ⟨bs, hbs, us, row, each⟩ := paired_at M i _ hk
      obtain ⟨k1, k2, ek⟩ := tw _ (List.mem_of_getElem? hk)
      simp only at ek
      subst ek
      have emem := fewE bs (List.mem_of_getElem? hbs)
      have hq' : Hb qa = some (.tup [.str k1, .str k2]) := hq
      have hv : valV kvs [kInr k1, kInr k2] = some v := val_at nd0 hk
      have sB : Same (del H m) Hb := fun b o z => del_less _ _ (but_del bt _ _ z)
      have row2 := row_up sB row
      have lu : us.length = bs.length := PySem.Paired.length each
      refine ⟨rfl, _, rfl, _, rfl, _, rfl, m, v, rfl, .inr ⟨kvs, [kInr k1, kInr k2], qa, .inr ⟨od, hma⟩, rfl, hq', hv.symm⟩, us, Hb, row2, Same.refl _, fun J G hG wk => fun D2 hD2 => ?_⟩
      refine lc_it wk (fun j H' => Same Hb H' ∧ ∃ acc, H' D2 = some (.lst acc) ∧ Paired (NewIt K (del H m) H') acc (bs.take j)) ⟨same_upd hD2, [], upd_same, .nil⟩ (fun j H' _ h => hG _ h.1) ?_ ?_
      · rintro j y2 H3 H4 hj ⟨s3, acc, hacc, pacc⟩ ⟨rfl, hy2⟩
        obtain ⟨b, hb, it⟩ := paired_at each j _ hy2
        have la : acc.length = (bs.take j).length := PySem.Paired.length pacc
        have l2 : (bs.take j).length ≤ bs.length := (List.take_sublist j bs).length_le
        have lz : acc.length < sizeLine := ln6 _ (by omega)
        have sB4 : Same (del H m) H4 := sB.trans s3
        have far : ∀ {G : Hp} {u : HO}, G D2 = some (.lst acc) → ∀ q us, G q = some (.tup us) → upd G D2 u q = some (.tup us) := fun {G u} g q us z => by
          rw [upd_ne (fun e => by rw [e, g] at z; cases z)]
          exact z
        rcases it with ⟨⟨t, ty, e⟩, kb⟩ | ⟨q2, us2, rfl, sq, ku⟩
        · refine ⟨rfl, _, rfl, _, _, _, _, false, rfl, .ty _, same_ty sB4 ty, e, false, rfl, iteF ⟨_, rfl, _, hacc, lz, fun b u z => ?_, _, upd_same, ?_⟩⟩
          · rw [upd_ne (ne_of_none z hD2)]; exact s3 _ _ z
          · rw [take_one_more hb]
            exact paired_append (L2.Paired.mapP pacc fun _ _ => newIt_up (far hacc)) (.cons (.inl kb) .nil)
        · have hx : SqL K H4 q2 us2 := sqL_up (Q9.Same.sq sB4) sq
          refine ⟨rfl, _, rfl, _, _, _, _, true, rfl, .ty _, sqL_ty hx, kit_ty (by decide +kernel), true, rfl, iteT ⟨_, rfl, q2, _, rfl, .inl ⟨hx, fun l hl => ?_⟩⟩⟩
          have sl := same_upd (o := .tup us2) hl
          have hl' : upd H4 l (.tup us2) l = some (.tup us2) := upd_same
          generalize upd H4 l (.tup us2) = H5 at sl hl' ⊢
          refine ⟨_, sl _ _ hacc, lz, fun b u z => ?_, _, upd_same, ?_⟩
          · rw [upd_ne (ne_of_none z hD2)]; exact sl _ _ (s3 _ _ z)
          · rw [take_one_more hb]
            exact paired_append (L2.Paired.mapP pacc fun _ _ h => newIt_up (far (sl _ _ hacc)) (newIt_up (fun q us z => sl _ _ z) h)) (.cons (.inr ⟨l, us2, rfl, far (sl _ _ hacc) _ _ hl', ku⟩) .nil)
      · rintro H3 ⟨s3, acc, hacc, pacc⟩
        rw [lu, List.take_length] at pacc
        have lk : kvs'.length ≤ 1000000 := by
          have h := congrArg List.length ekeys
          rw [List.length_map, List.length_map, List.length_take] at h
          omega
        refine ⟨qa, [.inr k1, .inr k2], kvs', rfl, s3 _ _ hq', s3 _ _ hd, ln6 _ lk, ?_⟩
        have nk : valV kvs' [kInr k1, kInr k2] = none := by
          cases c : valV kvs' [kInr k1, kInr k2] with
          | none => rfl
          | some u =>
            unfold valV at c
            obtain ⟨kv, g1, g2⟩ := Option.map_eq_some_iff.mp c
            have g3 := List.mem_of_find?_eq_some g1
            have g4 : kv.1 = [kInr k1, kInr k2] := by simpa using List.find?_some g1
            have g5 : [kInr k1, kInr k2] ∈ (kvs.take i).map (·.1) := by rw [← ekeys, ← g4]; exact List.mem_map.mpr ⟨kv, g3, rfl⟩
            have nd := nd0
            have e1 : kvs.take (i + 1) = kvs.take i ++ [([kInr k1, kInr k2], v)] := take_one_more hk
            have nd1 : ((kvs.take (i + 1)).map (·.1)).Nodup := by rw [List.map_take]; exact List.Sublist.nodup (List.take_sublist _ _) nd
            rw [e1, List.map_append, List.nodup_append] at nd1
            exact (nd1.2.2 _ g5 _ (List.mem_singleton.mpr rfl) rfl).elim
        have farT : ∀ {u : HO} q us, H3 q = some (.tup us) → upd H3 D u q = some (.tup us) := fun {u} q us z => by
          rw [upd_ne (fun e => by rw [e, s3 _ _ hd] at z; cases z)]
          exact z
        have farL : ∀ {u : HO} q us, H3 q = some (.lst us) → upd H3 D u q = some (.lst us) := fun {u} q us z => by
          rw [upd_ne (fun e => by rw [e, s3 _ _ hd] at z; cases z)]
          exact z
        refine ⟨by rw [upd_ne nmD]; exact s3 _ _ hma, fun b o ne z => ?_, _, upd_same, ?_, ?_⟩
        · rw [upd_ne (ne_of_none z freeD)]; exact s3 _ _ (bt b o ne z)
        · rw [putK_new _ nk, List.map_append, ekeys, take_one_more hk, List.map_append]
          rfl
        · rw [putK_new _ nk, take_one_more hbs]
          refine paired_append (L2.Paired.mapP ents fun _ _ h => rowN_up farT farL (rowN_up (fun q us z => s3 _ _ z) (fun q us z => s3 _ _ z) h)) (.cons ⟨D2, acc, rfl, farL _ _ hacc, L2.Paired.mapP pacc fun _ _ => newIt_up farT⟩ .nil)
    · rintro Ha ⟨hma, bt, kvs', hd, ekeys, ents⟩
      rw [List.take_length] at ekeys
      rw [len, List.take_length] at ents
      have sb := bt.back hm
      have fm : ∀ {u v : HO} {b : Addr}, (∀ w, u ≠ .frz od w) → Ha b = some u → upd Ha m v b = some u := fun {u v b} n z => by
        rw [upd_ne (fun e => by rw [e, hma] at z; exact n _ (Option.some.inj z).symm)]
        exact z
      refine ⟨hma, q _ D kvs' sb (by rw [upd_ne nmD.symm]; exact hd) ekeys (L2.Paired.mapP ents fun kv bs h => ?_)⟩
      obtain ⟨a, xs, e, ha, p⟩ := rowN_up (fun q us z => fm (fun _ z => nomatch z) z) (fun q us z => fm (fun _ z => nomatch z) z) h
      exact ⟨xs, ⟨a, e, .inl (.of ha)⟩, L2.Paired.mapP p fun _ _ => newIt_key (fun b o z => sb _ _ (del_less _ _ z))⟩
end
end Q9
end
-- QReadY
section
set_option maxRecDepth 100000
set_option maxHeartbeats 8000000
namespace Q9
open PySem L2
theorem sum_rows : ∀ bss : List (List Bool), (bss.map fun bs => (bs.length : Int)).sum = (bss.flatten.length : Int)
  | [] => rfl
  | bs :: bss => by
    have ih := sum_rows bss
    rw [List.map_cons, List.sum_cons, ih, List.flatten_cons, List.length_append]
    omega
/-- what an outcome is ahead of its conversion: no more a pair than behind it -/
theorem itW_key {K : PySem.W.Frag} {B : Hp} {y : V} {b : Bool} (h : ItW K B y b) : ∃ b1, KeyB K B y b1 ∧ (b1 = true → b = true) := by
  rcases h with ⟨_, k⟩ | ⟨q, us, rfl, sq, ku⟩
  · exact ⟨b, k, id⟩
  · exact ⟨false, .inl ⟨⟨_, sqL_ty sq, kit_ty (by decide +kernel)⟩, rfl⟩, fun z => nomatch z⟩
theorem itsW_key {K : PySem.W.Frag} {B : Hp} {us : List V} {bs : List Bool} (p : Paired (ItW K B) us bs) : ∃ cs, Paired (KeyB K B) us cs ∧ cs.length = bs.length ∧ yesN cs ≤ yesN bs := by
  induction p with
  | nil => exact ⟨[], .nil, rfl, Nat.le_refl _⟩
  | @cons a b l m h t ih =>
    obtain ⟨cs, p, l, n⟩ := ih
    obtain ⟨b1, k, im⟩ := itW_key h
    refine ⟨b1 :: cs, .cons k p, by rw [List.length_cons, List.length_cons, l], ?_⟩
    have e1 := yesN_append [b1] cs
    have e2 := yesN_append [b] m
    rw [yesN_one] at e1 e2
    rw [List.singleton_append] at e1 e2
    rw [e1, e2]
    cases b1 with
    | false => simp only [Bool.false_eq_true, if_false]; omega
    | true => rw [im rfl]; simp only [if_true]; omega
theorem rowsW_key {K : PySem.W.Frag} {B : Hp} {kvs : List (List Key × V)} {bss : List (List Bool)} (p : Paired (fun kv bs => RowW K B kv.2 bs) kvs bss) : ∃ css, Paired (RowKB K B) (kvs.map (·.2)) css ∧ css.flatten.length = bss.flatten.length ∧ yesN css.flatten ≤ yesN bss.flatten := by
  induction p with
  | nil => exact ⟨[], .nil, rfl, Nat.le_refl _⟩
  | @cons a b l m h t ih =>
    obtain ⟨css, p, l, n⟩ := ih
    obtain ⟨us, row, its⟩ := h
    obtain ⟨cs, q, l2, n2⟩ := itsW_key its
    refine ⟨cs :: css, .cons ⟨us, row, q⟩ p, by rw [List.flatten_cons, List.flatten_cons, List.length_append, List.length_append, l, l2], ?_⟩
    rw [List.flatten_cons, List.flatten_cons, yesN_append, yesN_append]
    omega
theorem rowsKB_snd {K : PySem.W.Frag} {B : Hp} {kvs : List (List Key × V)} {bss : List (List Bool)} (p : Paired (fun kv bs => RowKB K B kv.2 bs) kvs bss) : Paired (RowKB K B) (kvs.map (·.2)) bss := by
  induction p with
  | nil => exact .nil
  | cons h t ih => exact .cons h ih
/-- moves with an outcome that is no pair of texts -/
def BadOut (K : PySem.W.Frag) (H : Hp) (x : V) : Prop := ∃ (m : Addr) (kvs : List (List Key × V)) (bss : List (List Bool)), x = .ref m ∧ H m = some (.dT kvs) ∧ (kvs.map (·.1)).Nodup ∧ (∀ kv ∈ kvs, TwoT kv.1) ∧ Paired (fun kv bs => RowW K (del H m) kv.2 bs) kvs bss ∧
  kvs.length ≤ 1000000 ∧ (∀ bs ∈ bss, bs.length ≤ 8) ∧ bss.flatten.length ≤ 1000000 ∧ yesN bss.flatten < bss.flatten.length
def spReadY (CB : Addr) (K : PySem.W.Frag) : Sp := fun vs H Q E => ∃ (x st ex : V), vs = [x, st, ex] ∧ BadOut K H x ∧ ∀ (H' : Hp) (d : Addr), Same H H' → H d = none → H' d = some (.xd [("part", .str "moves")]) → E (.ref CB) (some d) H'
section
variable {P : Program} {w : World} {K : PySem.W.Frag} {mg : Str → Option Value} {base : Heap} {C CB fKey fA fP fR fI fW : Addr}
theorem ok_readY {f : Addr} {fd dW dA dP dI : FuncData} (F : Fun K "_read_moves" "_read_moves" sRead f fd) (T : TRead K mg fKey) (TD : TRd K mg fA fP fR) (TE : TErr K mg "BadKind" "part" CB fI)
    (GI : FnOk P w K mg base CX0 1 fI dI ["self", "part"] (spErrI CB "part")) (bI : Binds K dI ["self", "part"] [])
    (GA : FnOk P w K mg base CX0 2 fA dA ["moves"] (spAreRowsV K)) (bA : Binds K dA ["moves"] []) (GP : FnOk P w K mg base CX0 1 fP dP ["rows"] (spPairsX K)) (bP : Binds K dP ["rows"] [])
    (TW : TWi K mg fW) (GW : FnOk P w K mg base CX0 1 fW dW ["moves"] (spWithX K)) (bW : Binds K dW ["moves"] []) :
    FnOk P w K mg base (L2.CX P w) 5 f fd ["moves", "start", "ends"] (spReadY CB K) := by
  refine F.okX scRd (fun vs H Q E h => ?_) (fun cdv A outer s H vs Q E hr h => ?_)
  · obtain ⟨x, st, ex, rfl, _⟩ := h
    rfl
  · obtain ⟨x, st, ex, rfl, ⟨m, kvs, bss, rfl, hm, nd0, tw, M, few, le8, fewO, less⟩, q⟩ := h
    refine ⟨_, pss_cons (ps_if (pt_not (pt_val (pe_call GA (hr.mono (by decide)) (by rfl) TD.gA TD.kA bA .nil pass0 (pa_cons (pv 0) pa_nil))))
        (pss_one (ps_raise rfl (takes_of rfl rfl rfl rfl) (pmk_oex TE.ox TE.iC TE.tI GI (hr.mono (by omega)) bI .nil pass0 (by rfl) TE.gC (pa_cons pe_str pa_nil)))) pss_nil)
      (pss_cons (ps_set (i := 3) scRd.nd rfl (.inl rfl) (pe_callB (cr_sum rfl) (by rfl) T.sum (by decide +kernel) (pa_cons
        (pe_lock (pe_lc (te := tCB (rLenRow K) (tCons (tVar 8) tNil)) (own := [("row", 8)]) (g := gName 8) (tt := tYes) rfl scRd.nd (pi_valuesT (pv 0)) (blkOk_by (own := [("row", 8)]) (N := rdN) (sc := defScope sRead) (by decide +kernel))
          (fun _ _ _ _ _ => pg_name (i := 8) scRd.nd rfl (.inl rfl)) (fun _ _ _ _ _ => pts_nil) (fun _ _ _ _ _ => pe_callB (id := "len") (r := rLenRow K) cr_lenRow (by rfl) T.len (by decide +kernel) (pa_cons (pv 8) pa_nil)))) pa_nil)))
      (pss_cons (ps_set (i := 4) scRd.nd rfl (.inl rfl) (pe_call GP (hr.mono (by decide)) (by rfl) TD.gP TD.kP bP .nil pass0 (pa_cons (pe_listValsT rfl (pv 0) (by rfl) T.lst (by decide +kernel)) pa_nil)))
      (pss_cons (ps_if (pt_cmpR op_ne (pe_callB cr_lenRow (by rfl) T.len (by decide +kernel) (pa_cons (pv 4) pa_nil)) (pv 3) (nomark _))
          (pss_cons (ps_set (i := 0) scRd.nd rfl (.inl rfl) (pe_call GW (hr.mono (by decide)) (by rfl) TW.gW TW.kW bW .nil pass0 (pa_cons (pv 0) pa_nil)))
          (pss_one (ps_set (i := 4) scRd.nd rfl (.inl rfl) (pe_call GP (hr.mono (by decide)) (by rfl) TD.gP TD.kP bP .nil pass0 (pa_cons (pe_listValsT rfl (pv 0) (by rfl) T.lst (by decide +kernel)) pa_nil))))) pss_nil)
      (pss_cons (ps_if (pt_cmpR op_ne (pe_callB cr_lenRow (by rfl) T.len (by decide +kernel) (pa_cons (pv 4) pa_nil)) (pv 3) (nomark _)) (pss_one (ps_raise rfl (takes_of rfl rfl rfl rfl) (pmk_oex TE.ox TE.iC TE.tI GI (hr.mono (by omega)) bI .nil pass0 (by rfl) TE.gC (pa_cons pe_str pa_nil)))) pss_nil) pss_never)))), ?_⟩
    have len : kvs.length = bss.length := PySem.Paired.length M
    have ro : ∀ {kvs : List (List Key × V)} {bss : List (List Bool)}, Paired (fun kv bs => RowW K (del H m) kv.2 bs) kvs bss → (∀ bs ∈ bss, bs.length ≤ 8) → Paired (fun kv b => RowOdd K (del H m) kv.2 b) kvs (bss.map fun _ => false) := by
      intro kvs bss p
      induction p with
      | nil => exact fun _ => .nil
      | @cons a b l m h t ih =>
        intro g
        obtain ⟨us, row, its⟩ := h
        have lu : us.length = b.length := PySem.Paired.length its
        have := g b List.mem_cons_self
        exact .cons (.inr ⟨us, row, by rw [PySem.sizeLine_eq]; omega, (decide_eq_false (by omega)).symm⟩) (ih fun bs hb => g bs (List.mem_cons_of_mem _ hb))
    have none8 : ((bss.map fun _ => false).any id) = false := by
      rw [List.any_map]
      induction bss with
      | nil => rfl
      | cons a b ih => simp
    refine ⟨_, rfl, m, kvs, _, rfl, hm, tw, ro M le8, few, fun H1 s1 => ⟨_, rfl, ?_⟩⟩
    rw [none8]
    refine iteF ?_
    have hm1 := s1 m _ hm
    have sz : ∀ n : Nat, n ≤ 4000010 → n < sizeLine := fun n h => by rw [PySem.sizeLine_eq]; omega
    refine ⟨m, .dT kvs, hm1, trivial, fun od => ⟨_, rfl, m, od, kvs, rfl, upd_same, fun D hD => ?_⟩⟩
    have nmD : m ≠ D := ne_of_none upd_same hD
    have freeD : H1 D = none := by rw [upd_ne nmD.symm] at hD; exact hD
    refine lc_it walk_valuesT (fun i H' => H' m = some (.frz od (.dT kvs)) ∧ But m H1 H' ∧ H' D = some (.lst (((bss.take i).map fun bs => (bs.length : Int)).map V.int))) ?_ (fun i H' _ p => p.1) ?_ ?_
    · exact ⟨by rw [upd_ne nmD]; exact upd_same, fun b o ne e => by rw [upd_ne (ne_of_none e freeD), upd_ne ne]; exact e, upd_same⟩
    · rintro i y H2 H3 hi ⟨hm2, bt, hd⟩ ⟨rfl, k0, hk⟩
      obtain ⟨bs, hbs, us, row, each⟩ := paired_at M i _ hk
      have row2 := row_up (fun b o z => del_less _ _ (but_del bt _ _ (del_same_of (D := m) s1 _ _ z))) row
      have ll : us.length = bs.length := PySem.Paired.length each
      refine ⟨rfl, _, rfl, y, us, rfl, row2, _, hd, ?_, ?_, fun b o ne z => ?_, ?_⟩
      · rw [List.length_map, List.length_map, List.length_take]; exact sz _ (by omega)
      · rw [upd_ne nmD]; exact hm2
      · rw [upd_ne (ne_of_none z freeD)]; exact bt b o ne z
      · rw [upd_same, take_one_more hbs, List.map_append, List.map_append, ll]
        rfl
    rintro H2' ⟨hm2, bt, hd⟩
    rw [len, List.take_length] at hd
    have sb := bt.back hm1
    refine ⟨hm2, D, _, rfl, .of (by rw [upd_ne nmD.symm]; exact hd), ?_⟩
    rw [sum_rows]
    have s2 : Same H (upd H2' m (.dT kvs)) := fun b o z => sb b o (s1 b o z)
    generalize upd H2' m (.dT kvs) = H2 at s2
    obtain ⟨css, kb, lc, yc⟩ := rowsW_key M
    -- the pairs, as they are
    refine ⟨_, rfl, m, kvs, rfl, s2 _ _ hm, fun rp nrp => ?_⟩
    have s3 : Same H (upd H2 rp (.lst (kvs.map (·.2)))) := fun b o z => same_upd nrp b o (s2 b o z)
    refine ⟨rp, kvs.map (fun e => e.2), css, rfl, .of upd_same, L2.Paired.mapP kb fun _ _ h => rowKB_up (fun b o z => s3 _ _ (del_less _ _ z)) h, by omega, fun H4 pp vs s34 hpp lv => ?_⟩
    have s4 : Same H H4 := fun b o z => s34 b o (s3 b o z)
    have differ : ∀ n : Nat, n < bss.flatten.length → (!decide (V.int ((n : Nat) : Int) = V.int ((bss.flatten.length : Nat) : Int))) = true := fun n h => by
      rw [decide_eq_false (fun z => by injection z with z; omega)]
      rfl
    refine ⟨_, rfl, .ref pp, vs, rfl, ⟨pp, rfl, .inl (.of hpp)⟩, _, rfl, rfl, _, rfl, ?_⟩
    rw [differ _ (by omega)]
    refine iteT ?_
    -- as tuples
    refine ⟨_, rfl, m, kvs, bss, rfl, s4 _ _ hm, nd0, tw, L2.Paired.mapP M fun _ _ ⟨us, row, its⟩ => ⟨us, row_up (del_same_of s4) row, L2.Paired.mapP its fun _ _ h => ?_⟩, few, fun bs hb => Nat.le_trans (le8 bs hb) (by decide), fun H5 m' kvs' s45 hm' ek M' => ?_⟩
    · rcases h with ⟨o, k⟩ | ⟨q2, us2, e, sq, ku⟩
      · exact .inl ⟨ofTy_up (del_same_of s4) o, keyB_up (del_same_of s4) k⟩
      · refine .inr ⟨q2, us2, e, sqL_up (Q9.Same.sq (del_same_of s4)) sq, ?_⟩
        rcases ku with z | ⟨u, v, c, d, e2, o1, o2, z⟩
        · exact .inl z
        · exact .inr ⟨u, v, c, d, e2, ofTy_up (del_same_of s4) o1, ofTy_up (del_same_of s4) o2, z⟩
    refine ⟨_, rfl, m', kvs', rfl, hm', fun rp2 nrp2 => ?_⟩
    have s56 := same_upd (o := .lst (kvs'.map (·.2))) nrp2
    refine ⟨rp2, kvs'.map (fun e => e.2), bss, rfl, .of upd_same, L2.Paired.mapP (rowsKB_snd M') fun _ _ h => rowKB_up s56 h, fewO, fun H6 pp2 vs2 s67 hpp2 lv2 => ?_⟩
    have s6 : Same H H6 := fun b o z => s67 _ _ (s56 _ _ (s45 _ _ (s4 _ _ z)))
    refine ⟨_, rfl, .ref pp2, vs2, rfl, ⟨pp2, rfl, .inl (.of hpp2)⟩, _, rfl, rfl, _, rfl, ?_⟩
    rw [differ _ (by omega)]
    refine iteT ⟨(by show 1 ≤ 1000; decide), fun a na => ⟨a, _, rfl, upd_same, fun dx nd ne => ?_⟩⟩
    obtain ⟨r1, r2, r3, r4, r5⟩ := raised (C := CB) (fs := [("part", .str "moves")]) s6 na nd ne
    exact ⟨rfl, dx, _, r1, r2, r3, q _ dx r4 r5 upd_same⟩
end
end Q9
end
-- QReadZ
section
set_option maxRecDepth 100000
set_option maxHeartbeats 8000000
namespace Q9
open PySem L2
/-- moves with a word, a state or a method that is none -/
def spReadZ (CB : Addr) (K : PySem.W.Frag) : Sp := fun vs H Q E => ∃ (m : Addr) (st : Str) (ex : V) (es : List Str) (kvs : List (List Key × V)) (mv : Mv), vs = [.ref m, .str st, ex] ∧ Row K H ex (es.map V.str) ∧ H m = some (.dT kvs) ∧ MovesG K H kvs mv ∧ Small st es mv ∧
  (∀ z, z ∈ statesIn st es mv ∨ z ∈ methodsIn mv ∨ z ∈ wordsIn mv → z.length ≤ sizeLine) ∧ (∃ z, (z ∈ statesIn st es mv ∧ nameB z = false) ∨ (z ∈ methodsIn mv ∧ nameB z = false) ∨ (z ∈ wordsIn mv ∧ wordB z = false)) ∧
  ∀ (H' : Hp) (d : Addr), Same H H' → H d = none → H' d = some (.xd [("part", .str "moves")]) → E (.ref CB) (some d) H'
section
variable {P : Program} {w : World} {K : PySem.W.Frag} {mg : Str → Option Value} {base : Heap} {C CB fKey fA fP fR fI fW : Addr}
theorem ok_readZ {f : Addr} {fd dW dA dP dR dI : FuncData} (F : Fun K "_read_moves" "_read_moves" sRead f fd) (T : TRead K mg fKey) (TD : TRd K mg fA fP fR) (TE : TErr K mg "BadKind" "part" CB fI)
    (GI : FnOk P w K mg base CX0 1 fI dI ["self", "part"] (spErrI CB "part")) (bI : Binds K dI ["self", "part"] [])
    (GA : FnOk P w K mg base CX0 2 fA dA ["moves"] (spAreRowsG K)) (bA : Binds K dA ["moves"] []) (GPG : FnOk P w K mg base CX0 1 fP dP ["rows"] (spPairsG K)) (GP : FnOk P w K mg base CX0 1 fP dP ["rows"] (spPairs K)) (bP : Binds K dP ["rows"] [])
    (TW : TWi K mg fW) (GW : FnOk P w K mg base CX0 1 fW dW ["moves"] (spWithT K)) (bW : Binds K dW ["moves"] [])
    (GR : FnOk P w K mg base CX0 4 fR dR ["words", "states", "methods"] (spRightW K)) (bR : Binds K dR ["words", "states", "methods"] []) :
    FnOk P w K mg base (L2.CX P w) 5 f fd ["moves", "start", "ends"] (spReadZ CB K) := by
  refine F.okX scRd (fun vs H Q E h => ?_) (fun cdv A outer s H vs Q E hr h => ?_)
  · obtain ⟨m, st, ex, es, kvs, mv, rfl, _⟩ := h
    rfl
  · obtain ⟨m, st, ex, es, kvs, mv, rfl, he, hm, M, S, TL, NR, way⟩ := h
    have hu := hu_of hr
    refine ⟨_, pss_cons (ps_if (pt_not (pt_val (pe_call GA (hr.mono (by decide)) (by rfl) TD.gA TD.kA bA .nil pass0 (pa_cons (pv 0) pa_nil))))
        (pss_one (ps_raise rfl (takes_of rfl rfl rfl rfl) (pmk_oex TE.ox TE.iC TE.tI GI (hr.mono (by omega)) bI .nil pass0 (by rfl) TE.gC (pa_cons pe_str pa_nil)))) pss_nil)
      (pss_cons (ps_set (i := 3) scRd.nd rfl (.inl rfl) (pe_callB (cr_sum rfl) (by rfl) T.sum (by decide +kernel) (pa_cons
        (pe_lock (pe_lc (te := tCB (rLenRow K) (tCons (tVar 8) tNil)) (own := [("row", 8)]) (g := gName 8) (tt := tYes) rfl scRd.nd (pi_valuesT (pv 0)) (blkOk_by (own := [("row", 8)]) (N := rdN) (sc := defScope sRead) (by decide +kernel))
          (fun _ _ _ _ _ => pg_name (i := 8) scRd.nd rfl (.inl rfl)) (fun _ _ _ _ _ => pts_nil) (fun _ _ _ _ _ => pe_callB (id := "len") (r := rLenRow K) cr_lenRow (by rfl) T.len (by decide +kernel) (pa_cons (pv 8) pa_nil)))) pa_nil)))
      (C8.pss_cut (ps_set (i := 4) scRd.nd rfl (.inl rfl) (pe_call GPG (hr.mono (by decide)) (by rfl) TD.gP TD.kP bP .nil pass0 (pa_cons (pe_listValsT rfl (pv 0) (by rfl) T.lst (by decide +kernel)) pa_nil)))
      (C8.pss_cut (ps_if (pt_cmpR op_ne (pe_callB cr_lenRow (by rfl) T.len (by decide +kernel) (pa_cons (pv 4) pa_nil)) (pv 3) (nomark _))
          (pss_cons (ps_set (i := 0) scRd.nd rfl (.inl rfl) (pe_call GW (hr.mono (by decide)) (by rfl) TW.gW TW.kW bW .nil pass0 (pa_cons (pv 0) pa_nil)))
          (pss_one (ps_set (i := 4) scRd.nd rfl (.inl rfl) (pe_call GP (hr.mono (by decide)) (by rfl) TD.gP TD.kP bP .nil pass0 (pa_cons (pe_listValsT rfl (pv 0) (by rfl) T.lst (by decide +kernel)) pa_nil))))) pss_nil)
      (pss_cons (ps_if (pt_cmpR op_ne (pe_callB cr_lenRow (by rfl) T.len (by decide +kernel) (pa_cons (pv 4) pa_nil)) (pv 3) (nomark _)) pss_never pss_nil)
      (pss_cons (ps_set (i := 5) scRd.nd rfl (.inl rfl) (pe_callB (cr_sortedKs rfl) (by rfl) T.sorted (by decide +kernel) (pa_cons
        (pe_scK (own := [("_", 9), ("state", 10)]) (g := gTup K 2 (gCons (gName 9) (gCons (gName 10) gNil))) (tt := tYes) rfl scRd.nd (pi_list (pv 4)) (blkOk_by (own := [("_", 9), ("state", 10)]) (N := rdN) (sc := defScope sRead) (by decide +kernel))
          (fun _ _ _ _ _ => pg_tup rfl (pgs_cons (pg_name (i := 9) scRd.nd rfl (.inl rfl)) (pgs_cons (pg_name (i := 10) scRd.nd rfl (.inl rfl)) pgs_nil))) (fun _ _ _ _ _ => pts_nil) (fun _ _ _ _ _ => pv 10)) pa_nil)))
      (pss_cons (ps_set (i := 6) scRd.nd rfl (.inl rfl) (pe_callB (cr_sortedKs rfl) (by rfl) T.sorted (by decide +kernel) (pa_cons (pe_callTy (cr_setOf rfl) (by rfl) T.set (by decide +kernel) (pa_cons
        (pe_op op_cat (pe_op op_cat (pe_op op_cat (pe_lst (pa_cons (pv 1) pa_nil)) (pe_callTy cr_listRow (by rfl) T.lst (by decide +kernel) (pa_cons (pv 2) pa_nil)))
          (pe_lock (pe_lc (te := tVar 10) (own := [("state", 10), ("_", 9)]) (g := gTup K 2 (gCons (gName 10) (gCons (gName 9) gNil))) (tt := tYes) rfl scRd.nd (pi_keys (pv 0)) (blkOk_by (own := [("state", 10), ("_", 9)]) (N := rdN) (sc := defScope sRead) (by decide +kernel))
            (fun _ _ _ _ _ => pg_tup rfl (pgs_cons (pg_name (i := 10) scRd.nd rfl (.inl rfl)) (pgs_cons (pg_name (i := 9) scRd.nd rfl (.inl rfl)) pgs_nil))) (fun _ _ _ _ _ => pts_nil) (fun _ _ _ _ _ => pv 10)))) (pv 5)) pa_nil)) pa_nil)))
      (pss_cons (ps_set (i := 7) scRd.nd rfl (.inl rfl) (pe_callB (cr_sortedKs rfl) (by rfl) T.sorted (by decide +kernel) (pa_cons
        (pe_lock (pe_scK (own := [("_", 9), ("method", 11)]) (g := gTup K 2 (gCons (gName 9) (gCons (gName 11) gNil))) (tt := tYes) rfl scRd.nd (pi_keys (pv 0)) (blkOk_by (own := [("_", 9), ("method", 11)]) (N := rdN) (sc := defScope sRead) (by decide +kernel))
          (fun _ _ _ _ _ => pg_tup rfl (pgs_cons (pg_name (i := 9) scRd.nd rfl (.inl rfl)) (pgs_cons (pg_name (i := 11) scRd.nd rfl (.inl rfl)) pgs_nil))) (fun _ _ _ _ _ => pts_nil) (fun _ _ _ _ _ => pv 11))) pa_nil)))
      (pss_cons (ps_if (pt_not (pt_val (pe_call GR (hr.mono (by decide)) (by rfl) TD.gR TD.kR bR .nil pass0 (pa_cons (pe_callB (cr_sortedKs rfl) (by rfl) T.sorted (by decide +kernel) (pa_cons
          (pe_scK (own := [("word", 12), ("_", 9)]) (g := gTup K 2 (gCons (gName 12) (gCons (gName 9) gNil))) (tt := tYes) rfl scRd.nd (pi_list (pv 4)) (blkOk_by (own := [("word", 12), ("_", 9)]) (N := rdN) (sc := defScope sRead) (by decide +kernel))
            (fun _ _ _ _ _ => pg_tup rfl (pgs_cons (pg_name (i := 12) scRd.nd rfl (.inl rfl)) (pgs_cons (pg_name (i := 9) scRd.nd rfl (.inl rfl)) pgs_nil))) (fun _ _ _ _ _ => pts_nil) (fun _ _ _ _ _ => pv 12)) pa_nil)) (pa_cons (pv 6) (pa_cons (pv 7) pa_nil))))))
        (pss_one (ps_raise rfl (takes_of rfl rfl rfl rfl) (pmk_oex TE.ox TE.iC TE.tI GI (hr.mono (by omega)) bI .nil pass0 (by rfl) TE.gC (pa_cons pe_str pa_nil)))) pss_nil) pss_never)))))))), ?_⟩
    have len : kvs.length = mv.length := PySem.Paired.length M.ent
    have ls := lens_states st es mv
    have big := S.len
    have lf : (flatO mv).length ≤ 1000000 := by omega
    have le : es.length ≤ 1000000 := by omega
    have few : kvs.length ≤ 1000000 := by omega
    have sz : ∀ n : Nat, n ≤ 4000010 → n < sizeLine := fun n h => by rw [PySem.sizeLine_eq]; omega
    refine ⟨_, rfl, m, kvs, mv, rfl, hm, M, few, fun H1 s1 => ⟨_, rfl, ?_⟩⟩
    by_cases c8 : ∀ e ∈ mv, e.2.length ≤ 8
    case neg =>
      rw [decide_eq_false c8]
      have wrong := way
      refine iteT ⟨(by show 1 ≤ 1000; decide), fun a na => ⟨a, _, rfl, upd_same, fun dx nd ne => ?_⟩⟩
      obtain ⟨r1, r2, r3, r4, r5⟩ := raised (C := CB) (fs := [("part", .str "moves")]) s1 na nd ne
      exact ⟨rfl, dx, _, r1, r2, r3, wrong _ dx r4 r5 upd_same⟩
    rw [decide_eq_true c8]
    refine iteF ?_
    have hm1 := s1 m _ hm
    have M1 := movesG_up s1 M
    -- how many outcomes
    refine ⟨m, .dT kvs, hm1, trivial, fun od => ⟨_, rfl, m, od, kvs, rfl, upd_same, fun D hD => ?_⟩⟩
    have nmD : m ≠ D := ne_of_none upd_same hD
    have freeD : H1 D = none := by rw [upd_ne nmD.symm] at hD; exact hD
    refine lc_it walk_valuesT (fun i H' => H' m = some (.frz od (.dT kvs)) ∧ But m H1 H' ∧ H' D = some (.lst (((mv.take i).map fun e => (e.2.length : Int)).map V.int))) ?_ (fun i H' _ p => p.1) ?_ ?_
    · exact ⟨by rw [upd_ne nmD]; exact upd_same, fun b o ne e => by rw [upd_ne (ne_of_none e freeD), upd_ne ne]; exact e, upd_same⟩
    · rintro i y H2 H3 hi ⟨hm2, bt, hd⟩ ⟨rfl, k0, hk⟩
      obtain ⟨e, hev, ek, vs, row, each⟩ := paired_at M1.ent i _ hk
      have row2 := row_sq (bt.sq hm1) row
      have ll : vs.length = e.2.length := PySem.Paired.length each
      refine ⟨rfl, _, rfl, y, vs, rfl, row2, _, hd, ?_, ?_, fun b o ne z => ?_, ?_⟩
      · rw [List.length_map, List.length_map, List.length_take]; exact sz _ (by omega)
      · rw [upd_ne nmD]; exact hm2
      · rw [upd_ne (ne_of_none z freeD)]; exact bt b o ne z
      · rw [upd_same, take_one_more hev, List.map_append, List.map_append, ll]
        rfl
    rintro H2' ⟨hm2, bt, hd⟩
    rw [len, List.take_length] at hd
    have sb := bt.back hm1
    refine ⟨hm2, D, _, rfl, .of (by rw [upd_ne nmD.symm]; exact hd), ?_⟩
    rw [sum_lens]
    have s2 : Same H (upd H2' m (.dT kvs)) := fun b o z => sb b o (s1 b o z)
    generalize upd H2' m (.dT kvs) = H2 at s2
    clear sb hd bt hm2 freeD nmD hD
    have M2 := movesG_up s2 M
    -- the outcomes that are tuples
    refine ⟨fun σ H4 => ∃ (pp : Addr) (vs : List V), σ = [some (.ref m), some (.str st), some ex, some (.int ((flatO mv).length : Nat)), some (.ref pp), none, none, none, none, none, none, none, none, none] ∧ Same H H4 ∧ H4 pp = some (.lst vs) ∧ vs.length ≤ (flatO mv).length ∧ (vs.length = (flatO mv).length → Paired (OutT K H4) vs (flatO mv) ∧ Paired (OutsT K H4) (kvs.map (·.2)) (rowsO mv)), ?_, ?_⟩
    · refine ⟨_, rfl, m, kvs, rfl, s2 _ _ hm, fun rp nrp => ?_⟩
      have s3 : Same H (upd H2 rp (.lst (kvs.map (·.2)))) := fun b o z => same_upd nrp b o (s2 b o z)
      refine ⟨rp, kvs.map (fun e => e.2), rowsO mv, rfl, .of upd_same, paired_sndG (movesG_up s3 M).ent, lf, fun H4 pp vs s34 hpp lv pvs => ?_⟩
      exact ⟨pp, vs, rfl, fun b o z => s34 b o (s3 b o z), hpp, lv, pvs⟩
    rintro σ H4 ⟨pp, vs, rfl, s4, hpp, lv, pvs⟩
    -- all as tuples
    refine ⟨fun σ Hn => ∃ (m' : Addr) (kvs' : List (List Key × V)) (pp : Addr) (vs : List V), σ = [some (.ref m'), some (.str st), some ex, some (.int ((flatO mv).length : Nat)), some (.ref pp), none, none, none, none, none, none, none, none, none] ∧ Same H Hn ∧ Hn m' = some (.dT kvs') ∧ Moves K Hn kvs' mv ∧ SqL K Hn pp vs ∧ Paired (OutT K Hn) vs (flatO mv), ?_, ?_⟩
    · refine ⟨_, rfl, .ref pp, vs, rfl, ⟨pp, rfl, .inl (.of hpp)⟩, _, rfl, rfl, _, rfl, ?_⟩
      by_cases c : vs.length = (flatO mv).length
      · obtain ⟨a, b⟩ := pvs c
        refine iteNS (by rw [c]) ?_
        exact ⟨m, kvs, pp, vs, rfl, s4, s4 _ _ hm, movesG_t (movesG_up s4 M) b, .of hpp, a⟩
      · have en : (!decide (V.int ((vs.length : Nat) : Int) = V.int (((flatO mv).length : Nat) : Int))) = true := by
          rw [decide_eq_false (fun z => c (by injection z with z; omega))]
          rfl
        rw [en]
        refine iteT ?_
        have lenE : ∀ e ∈ mv, e.2.length ≤ 1000000 := fun e he => Nat.le_trans (c8 e he) (by decide)
        refine ⟨_, rfl, m, kvs, mv, rfl, s4 _ _ hm, movesG_up s4 M, few, lenE, fun H5 m' kvs' s45 hm' M' => ?_⟩
        refine ⟨_, rfl, m', kvs', rfl, hm', fun rp nrp => ?_⟩
        have s56 := same_upd (o := .lst (kvs'.map (·.2))) nrp
        refine ⟨rp, kvs'.map (fun e => e.2), rowsO mv, rfl, .of upd_same, paired_snd (moves_up (Q9.Same.sq s56) M').ent, lf, fun H6 pp2 s67 ⟨pp', vs2, epp, hvs, pvs2⟩ => ?_⟩
        cases epp
        exact ⟨m', kvs', pp2, vs2, rfl, fun b o z => s67 _ _ (s56 _ _ (s45 _ _ (s4 _ _ z))), s67 _ _ (s56 _ _ hm'), moves_up (Q9.Same.sq s67) (moves_up (Q9.Same.sq s56) M'), hvs, pvs2⟩
    clear pvs lv hpp s4 M2 s2 M hm len few hm1 M1 s1
    rintro σ Hn ⟨m, kvs, pp, vs, rfl, sn, hm, M, hvs, pvs⟩
    have old : ∀ {b : Addr}, Hn b = none → H b = none := fun {b} h => by
      cases z : H b with
      | none => rfl
      | some o => rw [sn _ _ z] at h; cases h
    have way2 : ∀ (H' : Hp) (d : Addr), Same Hn H' → Hn d = none → H' d = some (.xd [("part", .str "moves")]) → E (.ref CB) (some d) H' := fun H' d sm n a1 => way H' d (fun b o z => sm _ _ (sn _ _ z)) (old n) a1
    have he := row_up sn he
    clear way old sn
    have way := way2
    clear way2
    have s4 : Same Hn Hn := Same.refl _
    have len : kvs.length = mv.length := PySem.Paired.length M.ent
    have few : kvs.length ≤ 1000000 := by omega
    have lv : vs.length = (flatO mv).length := PySem.Paired.length pvs
    refine ⟨_, rfl, .ref pp, vs, rfl, ⟨pp, rfl, .inl hvs⟩, _, rfl, rfl, _, rfl, iteNS (by rw [lv]) ?_⟩
    -- the states behind
    have subB : ∀ z ∈ (flatO mv).map (·.2), z ∈ statesIn st es mv := fun z hz => by
      obtain ⟨o, h1, h2⟩ := List.mem_map.mp hz
      obtain ⟨e, h3, h4⟩ := mem_flatO.mp h1
      exact mem_states.mpr (.inr (.inr ⟨e, h3, .inr ⟨o, h4, h2.symm⟩⟩))
    have fewB := few_same subB S.states
    refine ⟨_, rfl, pp, rfl, ⟨_, hvs⟩, fun D hD => ?_⟩
    refine coll_it (walk_list (xs := vs)) (fun i Hn' => Same Hn Hn' ∧ ∃ ks, Hn' D = some (SetKs P w D ks) ∧ Coll (((flatO mv).map (·.2)).map kInr) i ks) ⟨same_upd hD, [], upd_same, Coll.zero _⟩ (fun i Hn' _ p => sqL_up (Q9.Same.sq p.1) hvs) ?_ ?_
    · rintro i y H5 H6 hi ⟨s5, ks, hks, cl⟩ ⟨rfl, hy⟩
      obtain ⟨o, ho, q5, rfl, hq5⟩ := paired_at pvs i _ hy
      have at_ : (((flatO mv).map (·.2)).map kInr)[i]? = some (kInr o.2) := by rw [List.getElem?_map, List.getElem?_map, ho]; rfl
      refine ⟨q5, _, rfl, same_sqT s5 hq5, rfl, _, _, rfl, _, _, rfl, rfl, rfl, ?_⟩
      exact ⟨_, rfl, kInr o.2, ks, rfl, hks, fewB ks cl.nd cl.sub, fun ks' ad => ⟨fun b u z => by rw [upd_ne (ne_of_none z hD)]; exact s5 b u z, ks', upd_same, cl.next at_ ad⟩⟩
    rintro H5 ⟨s5, ks, hks, cl⟩
    have el : (((flatO mv).map (·.2)).map kInr).take vs.length = ((flatO mv).map (·.2)).map kInr := List.take_of_length_le (by rw [List.length_map, List.length_map, lv]; exact Nat.le_refl _)
    have memB : ∀ j, j ∈ ks ↔ j ∈ ((flatO mv).map (·.2)).map kInr := fun j => by rw [cl.mem j, el]
    obtain ⟨ss0, e0⟩ := texts_of memB
    refine ⟨D, ss0, rfl, (by rw [hks, e0]; rfl), fun beh bp pmB upB nbp => ?_⟩
    have tB : Told ((flatO mv).map (·.2)) beh := told_of e0 cl.nd memB pmB upB
    have s46 : Same Hn (upd H5 bp (.lst (beh.map V.str))) := fun b o z => same_upd nbp b o (s5 b o z)
    have hbp : (upd H5 bp (.lst (beh.map V.str))) bp = some (.lst (beh.map V.str)) := upd_same
    have lb := told_len tB
    rw [List.length_map] at lb
    generalize upd H5 bp (.lst (beh.map V.str)) = H6 at s46 hbp
    clear nbp upB pmB e0 memB el cl hks s5 hD
    have s6 : Same Hn H6 := fun b o z => s46 b o (s4 b o z)
    -- all states
    refine ⟨_, rfl, (by show 1 ≤ sizeLine; decide), fun f1 hf1 => ?_⟩
    have a1 := same_upd (o := .lst [V.str st]) hf1
    refine ⟨_, rfl, ex, _, rfl, row_up (fun b o z => a1 b o (s6 b o z)) he, fun f2 hf2 => ?_⟩
    have a2 := same_upd (o := .lst (es.map V.str)) hf2
    refine ⟨f1, f2, _, _, rfl, rfl, a2 _ _ upd_same, upd_same, ?_, fun f3 hf3 => ?_⟩
    · rw [List.length_map]; show 1 + es.length ≤ sizeLine; exact Nat.le_of_lt (sz _ (by omega))
    have a3 := same_upd (o := .lst ([V.str st] ++ es.map V.str)) hf3
    have a13 : Same H6 (upd (upd (upd H6 f1 (.lst [V.str st])) f2 (.lst (es.map V.str))) f3 (.lst ([V.str st] ++ es.map V.str))) := fun b o z => a3 b o (a2 b o (a1 b o z))
    have hf3' : (upd (upd (upd H6 f1 (.lst [V.str st])) f2 (.lst (es.map V.str))) f3 (.lst ([V.str st] ++ es.map V.str))) f3 = some (.lst ([V.str st] ++ es.map V.str)) := upd_same
    generalize upd (upd (upd H6 f1 (.lst [V.str st])) f2 (.lst (es.map V.str))) f3 (.lst ([V.str st] ++ es.map V.str)) = H7 at a13 hf3'
    clear a1 a2 a3 hf1 hf2 hf3
    have s7 : Same Hn H7 := fun b o z => a13 b o (s6 b o z)
    have hm7 := s7 m _ hm
    have M7 := moves_up (Q9.Same.sq s7) M
    refine ⟨m, .dT kvs, hm7, trivial, fun od3 => ⟨_, rfl, m, od3, rfl, .inr ⟨kvs, upd_same, fun D3 hD3 => ?_⟩⟩⟩
    have nm3 : m ≠ D3 := ne_of_none upd_same hD3
    have free3 : H7 D3 = none := by rw [upd_ne nm3.symm] at hD3; exact hD3
    refine lc_it walk_keysT (fun i Hn' => Hn' m = some (.frz od3 (.dT kvs)) ∧ But m H7 Hn' ∧ Hn' D3 = some (.lst (((mv.take i).map (·.1.1)).map V.str))) ?_ (fun i Hn' _ p => p.1) ?_ ?_
    · exact ⟨by rw [upd_ne nm3]; exact upd_same, fun b o ne e => by rw [upd_ne (ne_of_none e free3), upd_ne ne]; exact e, upd_same⟩
    · rintro i y H8 H9 hi ⟨hm8, bt, hd⟩ ⟨rfl, k0, v, qa, hk, rfl, hq⟩
      obtain ⟨e, hev, ek, _⟩ := paired_at M7.ent i _ hk
      simp only at ek
      subst ek
      have hq' : H9 qa = some (.tup [.str e.1.1, .str e.1.2]) := hq
      refine ⟨qa, _, rfl, .of hq', rfl, _, _, rfl, _, _, rfl, rfl, rfl, _, rfl, _, hd, ?_, ?_, fun b o ne z => ?_, ?_⟩
      · rw [List.length_map, List.length_map, List.length_take]; exact sz _ (by omega)
      · rw [upd_ne nm3]; exact hm8
      · rw [upd_ne (ne_of_none z free3)]; exact bt b o ne z
      · rw [upd_same, take_one_more hev, List.map_append, List.map_append]; rfl
    rintro H8 ⟨hm8, bt, hd⟩
    rw [len, List.take_length] at hd
    have sb3 := bt.back hm7
    refine ⟨hm8, f3, D3, _, _, rfl, rfl, sb3 _ _ hf3', (by rw [upd_ne nm3.symm]; exact hd), ?_, fun f4 hf4 => ?_⟩
    · rw [List.length_append, List.length_map, List.length_map, List.length_map]; exact Nat.le_of_lt (sz _ (by simp only [List.length_cons, List.length_nil]; omega))
    have a4 := same_upd (o := .lst ([V.str st] ++ es.map V.str ++ (mv.map (·.1.1)).map V.str)) hf4
    refine ⟨_, rfl, f4, bp, _, _, rfl, rfl, upd_same, a4 _ _ (sb3 _ _ (a13 _ _ hbp)), ?_, fun f5 hf5 => ?_⟩
    · rw [List.length_append, List.length_append, List.length_map, List.length_map, List.length_map, List.length_map]; exact Nat.le_of_lt (sz _ (by simp only [List.length_cons, List.length_nil]; omega))
    have tot : ∀ z, z ∈ st :: es ++ mv.map (·.1.1) ++ beh ↔ z ∈ statesIn st es mv := states_told tB
    have etot : ((st :: es ++ mv.map (·.1.1) ++ beh).map kInr).map kV = [V.str st] ++ es.map V.str ++ (mv.map (·.1.1)).map V.str ++ beh.map V.str := by rw [kInr_kV]; simp
    refine ⟨f5, (st :: es ++ mv.map (·.1.1) ++ beh).map kInr, rfl, .inl (.of (by rw [etot]; exact upd_same)), few_same (fun z hz => (tot z).1 hz) S.states, fun p6 ks6 hp6 nd6 mem6 => ?_⟩
    obtain ⟨ss6, e6⟩ := texts_of mem6
    refine ⟨p6, ss6, rfl, by rw [upd_same, e6], fun ss sp pmS upS nsp => ?_⟩
    have tS : Told (statesIn st es mv) ss := by
      have t0 := told_of e6 nd6 mem6 pmS upS
      exact ⟨t0.1, t0.2.1, fun z => (t0.2.2 z).trans (tot z)⟩
    generalize hH9 : upd (upd (upd (upd (upd H8 m (.dT kvs)) f4 _) f5 _) p6 (SetKs _ _ p6 ks6)) sp _ = H9
    have s9 : Same H6 H9 := by rw [← hH9]; exact fun b o z => same_upd nsp b o (same_upd hp6 b o (same_upd hf5 b o (a4 b o (sb3 b o (a13 b o z)))))
    have hsp : H9 sp = some (.lst (ss.map V.str)) := by rw [← hH9]; exact upd_same
    have s9H : Same Hn H9 := fun b o z => s9 b o (s6 b o z)
    have nsH : Hn sp = none := by
      cases z : Hn sp with
      | none => rfl
      | some o => exact absurd (same_upd hp6 _ _ (same_upd hf5 _ _ (a4 _ _ (sb3 _ _ (a13 _ _ (s6 _ _ z)))))) (by rw [nsp]; exact fun h => nomatch h)
    clear hH9 nsp hp6 hf5 a4 sb3 hf4 hd bt hm8 free3 nm3 hD3 M7 hm7 s7 hf3' a13 pmS upS e6 mem6 nd6
    have hm9 := s9H m _ hm
    have M9 := moves_up (Q9.Same.sq s9H) M
    -- the methods
    refine ⟨m, .dT kvs, hm9, trivial, fun od4 => ⟨_, rfl, m, od4, rfl, .inr ⟨kvs, upd_same, fun D4 hD4 => ?_⟩⟩⟩
    have nm4 : m ≠ D4 := ne_of_none upd_same hD4
    have free4 : H9 D4 = none := by rw [upd_ne nm4.symm] at hD4; exact hD4
    refine coll_it walk_keysT (fun i Hn' => Hn' m = some (.frz od4 (.dT kvs)) ∧ But m H9 Hn' ∧ ∃ ks, Hn' D4 = some (SetKs P w D4 ks) ∧ Coll ((methodsIn mv).map kInr) i ks) ?_ (fun i Hn' _ p => p.1) ?_ ?_
    · exact ⟨by rw [upd_ne nm4]; exact upd_same, fun b o ne e => by rw [upd_ne (ne_of_none e free4), upd_ne ne]; exact e, [], upd_same, Coll.zero _⟩
    · rintro i y Ha Hb hi ⟨hm1', bt, ks, hks, cl⟩ ⟨rfl, k0, v, q0, hk, rfl, hq⟩
      obtain ⟨e, hev, ek, _⟩ := paired_at M9.ent i _ hk
      simp only at ek
      subst ek
      have hq' : Hb q0 = some (.tup [.str e.1.1, .str e.1.2]) := hq
      have at_ : ((methodsIn mv).map kInr)[i]? = some (kInr e.1.2) := by
        unfold methodsIn
        rw [List.getElem?_map, List.getElem?_map, hev]
        rfl
      refine ⟨q0, _, rfl, .of hq', rfl, _, _, rfl, _, _, rfl, rfl, rfl, ?_⟩
      refine ⟨_, rfl, kInr e.1.2, ks, rfl, hks, S.methods ks cl.nd cl.sub, fun ks' ad => ?_⟩
      refine ⟨by rw [upd_ne nm4]; exact hm1', fun b o ne z => ?_, ks', upd_same, cl.next at_ ad⟩
      rw [upd_ne (ne_of_none z free4)]
      exact bt b o ne z
    rintro Ha ⟨hma, bt, ks, hks, cl⟩
    have el4 : ((methodsIn mv).map kInr).take kvs.length = (methodsIn mv).map kInr := List.take_of_length_le (by unfold methodsIn; rw [List.length_map, List.length_map, len]; exact Nat.le_refl _)
    have mem4 : ∀ j, j ∈ ks ↔ j ∈ (methodsIn mv).map kInr := fun j => by rw [cl.mem j, el4]
    obtain ⟨ss4, e4⟩ := texts_of mem4
    refine ⟨hma, D4, ss4, rfl, (by rw [upd_ne nm4.symm, hks, e4]; rfl), fun ms mp pmM upM nmp => ?_⟩
    have tM : Told (methodsIn mv) ms := told_of e4 cl.nd mem4 pmM upM
    have sb4 := bt.back hm9
    generalize hH10 : upd (upd Ha m (.dT kvs)) mp _ = H10
    have s10 : Same H9 H10 := by rw [← hH10]; exact fun b o z => same_upd nmp b o (sb4 b o z)
    have hmp : H10 mp = some (.lst (ms.map V.str)) := by rw [← hH10]; exact upd_same
    have nmH : Hn mp = none := by
      cases z : Hn mp with
      | none => rfl
      | some o => exact absurd (sb4 _ _ (s9H _ _ z)) (by rw [nmp]; exact fun h => nomatch h)
    clear hH10 sb4 nmp pmM upM e4 mem4 el4 cl hks bt hma free4 nm4 hD4
    have s10_4 : Same Hn H10 := fun b o z => s10 b o (s9 b o (s46 b o z))
    -- the words
    have fewW : FewIn (((flatO mv).map (·.1)).map kInr) := few_same (fun z hz => flat_words.mp hz) S.words
    refine ⟨_, rfl, pp, rfl, ⟨_, s10_4.seq hvs⟩, fun D5 hD5 => ?_⟩
    refine coll_it (walk_list (xs := vs)) (fun i Hn' => Same H10 Hn' ∧ ∃ ks, Hn' D5 = some (SetKs P w D5 ks) ∧ Coll (((flatO mv).map (·.1)).map kInr) i ks) ⟨same_upd hD5, [], upd_same, Coll.zero _⟩ (fun i Hn' _ p => sqL_up (Q9.Same.sq p.1) (s10_4.seq hvs)) ?_ ?_
    · rintro i y Ha Hb hi ⟨s5, ks, hks, cl⟩ ⟨rfl, hy⟩
      obtain ⟨o, ho, q5, rfl, hq5⟩ := paired_at pvs i _ hy
      have at_ : (((flatO mv).map (·.1)).map kInr)[i]? = some (kInr o.1) := by rw [List.getElem?_map, List.getElem?_map, ho]; rfl
      refine ⟨q5, _, rfl, same_sqT s5 (same_sqT s10_4 hq5), rfl, _, _, rfl, _, _, rfl, rfl, rfl, ?_⟩
      exact ⟨_, rfl, kInr o.1, ks, rfl, hks, fewW ks cl.nd cl.sub, fun ks' ad => ⟨fun b u z => by rw [upd_ne (ne_of_none z hD5)]; exact s5 b u z, ks', upd_same, cl.next at_ ad⟩⟩
    rintro Ha ⟨s5, ks, hks, cl⟩
    have el5 : (((flatO mv).map (·.1)).map kInr).take vs.length = ((flatO mv).map (·.1)).map kInr := List.take_of_length_le (by rw [List.length_map, List.length_map, lv]; exact Nat.le_refl _)
    have mem5 : ∀ j, j ∈ ks ↔ j ∈ ((flatO mv).map (·.1)).map kInr := fun j => by rw [cl.mem j, el5]
    obtain ⟨ss5, e5⟩ := texts_of mem5
    refine ⟨D5, ss5, rfl, (by rw [hks, e5]; rfl), fun ws wp pmW upW nwp => ?_⟩
    have tW : Told ((flatO mv).map (·.1)) ws := told_of e5 cl.nd mem5 pmW upW
    generalize hH11 : upd Ha wp _ = H11
    have s11 : Same H10 H11 := by rw [← hH11]; exact fun b o z => same_upd nwp b o (s5 b o z)
    have hwp : H11 wp = some (.lst (ws.map V.str)) := by rw [← hH11]; exact upd_same
    clear hH11 nwp pmW upW e5 mem5 el5 cl hks s5 hD5
    have s11H : Same Hn H11 := fun b o z => s11 b o (s10 b o (s9H b o z))
    -- they are not right
    have lenS : ∀ z ∈ ss, z.length ≤ sizeLine := fun z hz => TL z (.inl ((tS.2.2 z).1 hz))
    have lenM : ∀ z ∈ ms, z.length ≤ sizeLine := fun z hz => TL z (.inr (.inl ((tM.2.2 z).1 hz)))
    have lenW : ∀ z ∈ ws, z.length ≤ sizeLine := fun z hz => TL z (.inr (.inr (flat_words.mp ((tW.2.2 z).1 hz))))
    have lW := told_len tW
    have lS := told_len tS
    have lM := told_len tM
    rw [List.length_map] at lW
    have lMm : (methodsIn mv).length = mv.length := by unfold methodsIn; rw [List.length_map]
    refine ⟨_, rfl, _, rfl, wp, sp, mp, ws, ss, ms, rfl, .of hwp, .of (s11 _ _ (s10 _ _ hsp)), .of (s11 _ _ hmp), lenW, lenS, lenM, by omega, by omega, by omega, fun H12 s12 => ⟨_, rfl, ?_⟩⟩
    have s12H : Same Hn H12 := fun b o z => s12 b o (s11H b o z)
    have no : (ws.all wordB && (ss.all nameB && ms.all nameB)) = false := by
      obtain ⟨z, h⟩ := NR
      rcases h with ⟨h, n⟩ | ⟨h, n⟩ | ⟨h, n⟩
      · have : ss.all nameB = false := List.all_eq_false.mpr ⟨z, (tS.2.2 z).2 h, by rw [n]; exact Bool.false_ne_true⟩
        rw [this, Bool.false_and, Bool.and_false]
      · have : ms.all nameB = false := List.all_eq_false.mpr ⟨z, (tM.2.2 z).2 h, by rw [n]; exact Bool.false_ne_true⟩
        rw [this, Bool.and_false, Bool.and_false]
      · have : ws.all wordB = false := List.all_eq_false.mpr ⟨z, (tW.2.2 z).2 (flat_words.mpr h), by rw [n]; exact Bool.false_ne_true⟩
        rw [this, Bool.false_and]
    rw [no, Bool.and_false]
    refine iteT ⟨(by show 1 ≤ 1000; decide), fun a na => ⟨a, _, rfl, upd_same, fun dx nd ne => ?_⟩⟩
    obtain ⟨r1, r2, r3, r4, r5⟩ := raised (C := CB) (fs := [("part", .str "moves")]) s12H na nd ne
    exact ⟨rfl, dx, _, r1, r2, r3, way _ dx r4 r5 upd_same⟩
end
end Q9
end
-- QReadD
section
set_option maxRecDepth 100000
set_option maxHeartbeats 8000000
namespace Q9
open PySem L2
/-- the names and words are right -/
structure RightN (st : Str) (es : List Str) (mv : Mv) : Prop where
  start : nameB st = true
  ends : ∀ z ∈ es, nameB z = true
  keys : ∀ e ∈ mv, nameB e.1.1 = true ∧ nameB e.1.2 = true
  outs : ∀ e ∈ mv, ∀ o ∈ e.2, wordB o.1 = true ∧ nameB o.2 = true
/-- moves with an outcome twice in a row -/
def spReadD (CB : Addr) (K : PySem.W.Frag) : Sp := fun vs H Q E => ∃ (m : Addr) (st : Str) (ex : V) (es : List Str) (kvs : List (List Key × V)) (mv : Mv), vs = [.ref m, .str st, ex] ∧ Row K H ex (es.map V.str) ∧ H m = some (.dT kvs) ∧ MovesG K H kvs mv ∧ RightN st es mv ∧ Small st es mv ∧
  (∃ e ∈ mv, ¬ e.2.Nodup) ∧ ∀ (H' : Hp) (d : Addr), Same H H' → H d = none → H' d = some (.xd [("part", .str "moves")]) → E (.ref CB) (some d) H'
section
variable {P : Program} {w : World} {K : PySem.W.Frag} {mg : Str → Option Value} {base : Heap} {C CB fKey fA fP fR fI fW : Addr}
theorem ok_readD {f : Addr} {fd dW dA dP dR dI : FuncData} (F : Fun K "_read_moves" "_read_moves" sRead f fd) (T : TRead K mg fKey) (TD : TRd K mg fA fP fR) (TE : TErr K mg "BadKind" "part" CB fI)
    (GI : FnOk P w K mg base CX0 1 fI dI ["self", "part"] (spErrI CB "part")) (bI : Binds K dI ["self", "part"] [])
    (GA : FnOk P w K mg base CX0 2 fA dA ["moves"] (spAreRowsG K)) (bA : Binds K dA ["moves"] []) (GPG : FnOk P w K mg base CX0 1 fP dP ["rows"] (spPairsG K)) (GP : FnOk P w K mg base CX0 1 fP dP ["rows"] (spPairs K)) (bP : Binds K dP ["rows"] [])
    (TW : TWi K mg fW) (GW : FnOk P w K mg base CX0 1 fW dW ["moves"] (spWithT K)) (bW : Binds K dW ["moves"] [])
    (GR : FnOk P w K mg base CX0 4 fR dR ["words", "states", "methods"] (spRight K)) (bR : Binds K dR ["words", "states", "methods"] []) :
    FnOk P w K mg base (L2.CX P w) 5 f fd ["moves", "start", "ends"] (spReadD CB K) := by
  refine F.okX scRd (fun vs H Q E h => ?_) (fun cdv A outer s H vs Q E hr h => ?_)
  · obtain ⟨m, st, ex, es, kvs, mv, rfl, _⟩ := h
    rfl
  · obtain ⟨m, st, ex, es, kvs, mv, rfl, he, hm, M, R, S, dup, way⟩ := h
    have hu := hu_of hr
    have hu8 : (A.deeper (PyProof.Rows.envOfC (Str.ofString "_read_moves") (defScope sRead) s.heap.objs.size f cdv)).units + 8 < cLine := Nat.lt_of_le_of_lt (Nat.add_le_add_left (by decide : 8 ≤ 64) _) hr.units
    refine ⟨_, pss_cons (ps_if (pt_not (pt_val (pe_call GA (hr.mono (by decide)) (by rfl) TD.gA TD.kA bA .nil pass0 (pa_cons (pv 0) pa_nil))))
        (pss_one (ps_raise rfl (takes_of rfl rfl rfl rfl) (pmk_oex TE.ox TE.iC TE.tI GI (hr.mono (by omega)) bI .nil pass0 (by rfl) TE.gC (pa_cons pe_str pa_nil)))) pss_nil)
      (pss_cons (ps_set (i := 3) scRd.nd rfl (.inl rfl) (pe_callB (cr_sum rfl) (by rfl) T.sum (by decide +kernel) (pa_cons
        (pe_lock (pe_lc (te := tCB (rLenRow K) (tCons (tVar 8) tNil)) (own := [("row", 8)]) (g := gName 8) (tt := tYes) rfl scRd.nd (pi_valuesT (pv 0)) (blkOk_by (own := [("row", 8)]) (N := rdN) (sc := defScope sRead) (by decide +kernel))
          (fun _ _ _ _ _ => pg_name (i := 8) scRd.nd rfl (.inl rfl)) (fun _ _ _ _ _ => pts_nil) (fun _ _ _ _ _ => pe_callB (id := "len") (r := rLenRow K) cr_lenRow (by rfl) T.len (by decide +kernel) (pa_cons (pv 8) pa_nil)))) pa_nil)))
      (C8.pss_cut (ps_set (i := 4) scRd.nd rfl (.inl rfl) (pe_call GPG (hr.mono (by decide)) (by rfl) TD.gP TD.kP bP .nil pass0 (pa_cons (pe_listValsT rfl (pv 0) (by rfl) T.lst (by decide +kernel)) pa_nil)))
      (C8.pss_cut (ps_if (pt_cmpR op_ne (pe_callB cr_lenRow (by rfl) T.len (by decide +kernel) (pa_cons (pv 4) pa_nil)) (pv 3) (nomark _))
          (pss_cons (ps_set (i := 0) scRd.nd rfl (.inl rfl) (pe_call GW (hr.mono (by decide)) (by rfl) TW.gW TW.kW bW .nil pass0 (pa_cons (pv 0) pa_nil)))
          (pss_one (ps_set (i := 4) scRd.nd rfl (.inl rfl) (pe_call GP (hr.mono (by decide)) (by rfl) TD.gP TD.kP bP .nil pass0 (pa_cons (pe_listValsT rfl (pv 0) (by rfl) T.lst (by decide +kernel)) pa_nil))))) pss_nil)
      (pss_cons (ps_if (pt_cmpR op_ne (pe_callB cr_lenRow (by rfl) T.len (by decide +kernel) (pa_cons (pv 4) pa_nil)) (pv 3) (nomark _)) pss_never pss_nil)
      (pss_cons (ps_set (i := 5) scRd.nd rfl (.inl rfl) (pe_callB (cr_sortedKs rfl) (by rfl) T.sorted (by decide +kernel) (pa_cons
        (pe_scK (own := [("_", 9), ("state", 10)]) (g := gTup K 2 (gCons (gName 9) (gCons (gName 10) gNil))) (tt := tYes) rfl scRd.nd (pi_list (pv 4)) (blkOk_by (own := [("_", 9), ("state", 10)]) (N := rdN) (sc := defScope sRead) (by decide +kernel))
          (fun _ _ _ _ _ => pg_tup rfl (pgs_cons (pg_name (i := 9) scRd.nd rfl (.inl rfl)) (pgs_cons (pg_name (i := 10) scRd.nd rfl (.inl rfl)) pgs_nil))) (fun _ _ _ _ _ => pts_nil) (fun _ _ _ _ _ => pv 10)) pa_nil)))
      (pss_cons (ps_set (i := 6) scRd.nd rfl (.inl rfl) (pe_callB (cr_sortedKs rfl) (by rfl) T.sorted (by decide +kernel) (pa_cons (pe_callTy (cr_setOf rfl) (by rfl) T.set (by decide +kernel) (pa_cons
        (pe_op op_cat (pe_op op_cat (pe_op op_cat (pe_lst (pa_cons (pv 1) pa_nil)) (pe_callTy cr_listRow (by rfl) T.lst (by decide +kernel) (pa_cons (pv 2) pa_nil)))
          (pe_lock (pe_lc (te := tVar 10) (own := [("state", 10), ("_", 9)]) (g := gTup K 2 (gCons (gName 10) (gCons (gName 9) gNil))) (tt := tYes) rfl scRd.nd (pi_keys (pv 0)) (blkOk_by (own := [("state", 10), ("_", 9)]) (N := rdN) (sc := defScope sRead) (by decide +kernel))
            (fun _ _ _ _ _ => pg_tup rfl (pgs_cons (pg_name (i := 10) scRd.nd rfl (.inl rfl)) (pgs_cons (pg_name (i := 9) scRd.nd rfl (.inl rfl)) pgs_nil))) (fun _ _ _ _ _ => pts_nil) (fun _ _ _ _ _ => pv 10)))) (pv 5)) pa_nil)) pa_nil)))
      (pss_cons (ps_set (i := 7) scRd.nd rfl (.inl rfl) (pe_callB (cr_sortedKs rfl) (by rfl) T.sorted (by decide +kernel) (pa_cons
        (pe_lock (pe_scK (own := [("_", 9), ("method", 11)]) (g := gTup K 2 (gCons (gName 9) (gCons (gName 11) gNil))) (tt := tYes) rfl scRd.nd (pi_keys (pv 0)) (blkOk_by (own := [("_", 9), ("method", 11)]) (N := rdN) (sc := defScope sRead) (by decide +kernel))
          (fun _ _ _ _ _ => pg_tup rfl (pgs_cons (pg_name (i := 9) scRd.nd rfl (.inl rfl)) (pgs_cons (pg_name (i := 11) scRd.nd rfl (.inl rfl)) pgs_nil))) (fun _ _ _ _ _ => pts_nil) (fun _ _ _ _ _ => pv 11))) pa_nil)))
      (pss_cons (ps_if (pt_not (pt_val (pe_call GR (hr.mono (by decide)) (by rfl) TD.gR TD.kR bR .nil pass0 (pa_cons (pe_callB (cr_sortedKs rfl) (by rfl) T.sorted (by decide +kernel) (pa_cons
          (pe_scK (own := [("word", 12), ("_", 9)]) (g := gTup K 2 (gCons (gName 12) (gCons (gName 9) gNil))) (tt := tYes) rfl scRd.nd (pi_list (pv 4)) (blkOk_by (own := [("word", 12), ("_", 9)]) (N := rdN) (sc := defScope sRead) (by decide +kernel))
            (fun _ _ _ _ _ => pg_tup rfl (pgs_cons (pg_name (i := 12) scRd.nd rfl (.inl rfl)) (pgs_cons (pg_name (i := 9) scRd.nd rfl (.inl rfl)) pgs_nil))) (fun _ _ _ _ _ => pts_nil) (fun _ _ _ _ _ => pv 12)) pa_nil)) (pa_cons (pv 6) (pa_cons (pv 7) pa_nil))))))
        (pss_one (ps_raise rfl (takes_of rfl rfl rfl rfl) (pmk_oex TE.ox TE.iC TE.tI GI (hr.mono (by omega)) bI .nil pass0 (by rfl) TE.gC (pa_cons pe_str pa_nil)))) pss_nil)
      (pss_cons (ps_if (pt_truth (pe_lock (pe_lc (te := tVar 8) (own := [("row", 8)]) (g := gName 8) rfl scRd.nd (pi_valuesT (pv 0)) (blkOk_by (own := [("row", 8)]) (N := rdN) (sc := defScope sRead) (by decide +kernel))
          (fun _ _ _ _ _ => pg_name (i := 8) scRd.nd rfl (.inl rfl))
          (fun _ _ _ _ _ => pts_one (pt_cmpR op_ne (pe_callB (id := "len") (r := rLenTs P w) cr_lenTs (by rfl) T.len (by decide +kernel) (pa_cons (pe_callTy (r := rSetOfT K P w) (cr_setOfT rfl hu8) (by rfl) T.set (by decide +kernel) (pa_cons (pv 8) pa_nil)) pa_nil)) (pe_callB (id := "len") (r := rLenRow K) cr_lenRow (by rfl) T.len (by decide +kernel) (pa_cons (pv 8) pa_nil)) (nomark _)))
          (fun _ _ _ _ _ => pv 8))) (by intro _; rfl)) (pss_one (ps_raise rfl (takes_of rfl rfl rfl rfl) (pmk_oex TE.ox TE.iC TE.tI GI (hr.mono (by omega)) bI .nil pass0 (by rfl) TE.gC (pa_cons pe_str pa_nil)))) pss_nil) pss_never))))))))), ?_⟩
    have len : kvs.length = mv.length := PySem.Paired.length M.ent
    have ls := lens_states st es mv
    have big := S.len
    have lf : (flatO mv).length ≤ 1000000 := by omega
    have le : es.length ≤ 1000000 := by omega
    have few : kvs.length ≤ 1000000 := by omega
    have sz : ∀ n : Nat, n ≤ 4000010 → n < sizeLine := fun n h => by rw [PySem.sizeLine_eq]; omega
    refine ⟨_, rfl, m, kvs, mv, rfl, hm, M, few, fun H1 s1 => ⟨_, rfl, ?_⟩⟩
    by_cases c8 : ∀ e ∈ mv, e.2.length ≤ 8
    case neg =>
      rw [decide_eq_false c8]
      have wrong := way
      refine iteT ⟨(by show 1 ≤ 1000; decide), fun a na => ⟨a, _, rfl, upd_same, fun dx nd ne => ?_⟩⟩
      obtain ⟨r1, r2, r3, r4, r5⟩ := raised (C := CB) (fs := [("part", .str "moves")]) s1 na nd ne
      exact ⟨rfl, dx, _, r1, r2, r3, wrong _ dx r4 r5 upd_same⟩
    rw [decide_eq_true c8]
    refine iteF ?_
    have hm1 := s1 m _ hm
    have M1 := movesG_up s1 M
    -- how many outcomes
    refine ⟨m, .dT kvs, hm1, trivial, fun od => ⟨_, rfl, m, od, kvs, rfl, upd_same, fun D hD => ?_⟩⟩
    have nmD : m ≠ D := ne_of_none upd_same hD
    have freeD : H1 D = none := by rw [upd_ne nmD.symm] at hD; exact hD
    refine lc_it walk_valuesT (fun i H' => H' m = some (.frz od (.dT kvs)) ∧ But m H1 H' ∧ H' D = some (.lst (((mv.take i).map fun e => (e.2.length : Int)).map V.int))) ?_ (fun i H' _ p => p.1) ?_ ?_
    · exact ⟨by rw [upd_ne nmD]; exact upd_same, fun b o ne e => by rw [upd_ne (ne_of_none e freeD), upd_ne ne]; exact e, upd_same⟩
    · rintro i y H2 H3 hi ⟨hm2, bt, hd⟩ ⟨rfl, k0, hk⟩
      obtain ⟨e, hev, ek, vs, row, each⟩ := paired_at M1.ent i _ hk
      have row2 := row_sq (bt.sq hm1) row
      have ll : vs.length = e.2.length := PySem.Paired.length each
      refine ⟨rfl, _, rfl, y, vs, rfl, row2, _, hd, ?_, ?_, fun b o ne z => ?_, ?_⟩
      · rw [List.length_map, List.length_map, List.length_take]; exact sz _ (by omega)
      · rw [upd_ne nmD]; exact hm2
      · rw [upd_ne (ne_of_none z freeD)]; exact bt b o ne z
      · rw [upd_same, take_one_more hev, List.map_append, List.map_append, ll]
        rfl
    rintro H2' ⟨hm2, bt, hd⟩
    rw [len, List.take_length] at hd
    have sb := bt.back hm1
    refine ⟨hm2, D, _, rfl, .of (by rw [upd_ne nmD.symm]; exact hd), ?_⟩
    rw [sum_lens]
    have s2 : Same H (upd H2' m (.dT kvs)) := fun b o z => sb b o (s1 b o z)
    generalize upd H2' m (.dT kvs) = H2 at s2
    clear sb hd bt hm2 freeD nmD hD
    have M2 := movesG_up s2 M
    -- the outcomes that are tuples
    refine ⟨fun σ H4 => ∃ (pp : Addr) (vs : List V), σ = [some (.ref m), some (.str st), some ex, some (.int ((flatO mv).length : Nat)), some (.ref pp), none, none, none, none, none, none, none, none, none] ∧ Same H H4 ∧ H4 pp = some (.lst vs) ∧ vs.length ≤ (flatO mv).length ∧ (vs.length = (flatO mv).length → Paired (OutT K H4) vs (flatO mv) ∧ Paired (OutsT K H4) (kvs.map (·.2)) (rowsO mv)), ?_, ?_⟩
    · refine ⟨_, rfl, m, kvs, rfl, s2 _ _ hm, fun rp nrp => ?_⟩
      have s3 : Same H (upd H2 rp (.lst (kvs.map (·.2)))) := fun b o z => same_upd nrp b o (s2 b o z)
      refine ⟨rp, kvs.map (fun e => e.2), rowsO mv, rfl, .of upd_same, paired_sndG (movesG_up s3 M).ent, lf, fun H4 pp vs s34 hpp lv pvs => ?_⟩
      exact ⟨pp, vs, rfl, fun b o z => s34 b o (s3 b o z), hpp, lv, pvs⟩
    rintro σ H4 ⟨pp, vs, rfl, s4, hpp, lv, pvs⟩
    -- all as tuples
    refine ⟨fun σ Hn => ∃ (m' : Addr) (kvs' : List (List Key × V)) (pp : Addr) (vs : List V), σ = [some (.ref m'), some (.str st), some ex, some (.int ((flatO mv).length : Nat)), some (.ref pp), none, none, none, none, none, none, none, none, none] ∧ Same H Hn ∧ Hn m' = some (.dT kvs') ∧ Moves K Hn kvs' mv ∧ SqL K Hn pp vs ∧ Paired (OutT K Hn) vs (flatO mv), ?_, ?_⟩
    · refine ⟨_, rfl, .ref pp, vs, rfl, ⟨pp, rfl, .inl (.of hpp)⟩, _, rfl, rfl, _, rfl, ?_⟩
      by_cases c : vs.length = (flatO mv).length
      · obtain ⟨a, b⟩ := pvs c
        refine iteNS (by rw [c]) ?_
        exact ⟨m, kvs, pp, vs, rfl, s4, s4 _ _ hm, movesG_t (movesG_up s4 M) b, .of hpp, a⟩
      · have en : (!decide (V.int ((vs.length : Nat) : Int) = V.int (((flatO mv).length : Nat) : Int))) = true := by
          rw [decide_eq_false (fun z => c (by injection z with z; omega))]
          rfl
        rw [en]
        refine iteT ?_
        have lenE : ∀ e ∈ mv, e.2.length ≤ 1000000 := fun e he => Nat.le_trans (c8 e he) (by decide)
        refine ⟨_, rfl, m, kvs, mv, rfl, s4 _ _ hm, movesG_up s4 M, few, lenE, fun H5 m' kvs' s45 hm' M' => ?_⟩
        refine ⟨_, rfl, m', kvs', rfl, hm', fun rp nrp => ?_⟩
        have s56 := same_upd (o := .lst (kvs'.map (·.2))) nrp
        refine ⟨rp, kvs'.map (fun e => e.2), rowsO mv, rfl, .of upd_same, paired_snd (moves_up (Q9.Same.sq s56) M').ent, lf, fun H6 pp2 s67 ⟨pp', vs2, epp, hvs, pvs2⟩ => ?_⟩
        cases epp
        exact ⟨m', kvs', pp2, vs2, rfl, fun b o z => s67 _ _ (s56 _ _ (s45 _ _ (s4 _ _ z))), s67 _ _ (s56 _ _ hm'), moves_up (Q9.Same.sq s67) (moves_up (Q9.Same.sq s56) M'), hvs, pvs2⟩
    clear pvs lv hpp s4 M2 s2 M hm len few hm1 M1 s1
    rintro σ Hn ⟨m, kvs, pp, vs, rfl, sn, hm, M, hvs, pvs⟩
    have old : ∀ {b : Addr}, Hn b = none → H b = none := fun {b} h => by
      cases z : H b with
      | none => rfl
      | some o => rw [sn _ _ z] at h; cases h
    have way2 : ∀ (H' : Hp) (d : Addr), Same Hn H' → Hn d = none → H' d = some (.xd [("part", .str "moves")]) → E (.ref CB) (some d) H' := fun H' d sm n a1 => way H' d (fun b o z => sm _ _ (sn _ _ z)) (old n) a1
    have he := row_up sn he
    clear way old sn
    have way := way2
    clear way2
    have s4 : Same Hn Hn := Same.refl _
    have len : kvs.length = mv.length := PySem.Paired.length M.ent
    have few : kvs.length ≤ 1000000 := by omega
    have lv : vs.length = (flatO mv).length := PySem.Paired.length pvs
    refine ⟨_, rfl, .ref pp, vs, rfl, ⟨pp, rfl, .inl hvs⟩, _, rfl, rfl, _, rfl, iteNS (by rw [lv]) ?_⟩
    -- the states behind
    have subB : ∀ z ∈ (flatO mv).map (·.2), z ∈ statesIn st es mv := fun z hz => by
      obtain ⟨o, h1, h2⟩ := List.mem_map.mp hz
      obtain ⟨e, h3, h4⟩ := mem_flatO.mp h1
      exact mem_states.mpr (.inr (.inr ⟨e, h3, .inr ⟨o, h4, h2.symm⟩⟩))
    have fewB := few_same subB S.states
    refine ⟨_, rfl, pp, rfl, ⟨_, hvs⟩, fun D hD => ?_⟩
    refine coll_it (walk_list (xs := vs)) (fun i Hn' => Same Hn Hn' ∧ ∃ ks, Hn' D = some (SetKs P w D ks) ∧ Coll (((flatO mv).map (·.2)).map kInr) i ks) ⟨same_upd hD, [], upd_same, Coll.zero _⟩ (fun i Hn' _ p => sqL_up (Q9.Same.sq p.1) hvs) ?_ ?_
    · rintro i y H5 H6 hi ⟨s5, ks, hks, cl⟩ ⟨rfl, hy⟩
      obtain ⟨o, ho, q5, rfl, hq5⟩ := paired_at pvs i _ hy
      have at_ : (((flatO mv).map (·.2)).map kInr)[i]? = some (kInr o.2) := by rw [List.getElem?_map, List.getElem?_map, ho]; rfl
      refine ⟨q5, _, rfl, same_sqT s5 hq5, rfl, _, _, rfl, _, _, rfl, rfl, rfl, ?_⟩
      exact ⟨_, rfl, kInr o.2, ks, rfl, hks, fewB ks cl.nd cl.sub, fun ks' ad => ⟨fun b u z => by rw [upd_ne (ne_of_none z hD)]; exact s5 b u z, ks', upd_same, cl.next at_ ad⟩⟩
    rintro H5 ⟨s5, ks, hks, cl⟩
    have el : (((flatO mv).map (·.2)).map kInr).take vs.length = ((flatO mv).map (·.2)).map kInr := List.take_of_length_le (by rw [List.length_map, List.length_map, lv]; exact Nat.le_refl _)
    have memB : ∀ j, j ∈ ks ↔ j ∈ ((flatO mv).map (·.2)).map kInr := fun j => by rw [cl.mem j, el]
    obtain ⟨ss0, e0⟩ := texts_of memB
    refine ⟨D, ss0, rfl, (by rw [hks, e0]; rfl), fun beh bp pmB upB nbp => ?_⟩
    have tB : Told ((flatO mv).map (·.2)) beh := told_of e0 cl.nd memB pmB upB
    have s46 : Same Hn (upd H5 bp (.lst (beh.map V.str))) := fun b o z => same_upd nbp b o (s5 b o z)
    have hbp : (upd H5 bp (.lst (beh.map V.str))) bp = some (.lst (beh.map V.str)) := upd_same
    have lb := told_len tB
    rw [List.length_map] at lb
    generalize upd H5 bp (.lst (beh.map V.str)) = H6 at s46 hbp
    clear nbp upB pmB e0 memB el cl hks s5 hD
    have s6 : Same Hn H6 := fun b o z => s46 b o (s4 b o z)
    -- all states
    refine ⟨_, rfl, (by show 1 ≤ sizeLine; decide), fun f1 hf1 => ?_⟩
    have a1 := same_upd (o := .lst [V.str st]) hf1
    refine ⟨_, rfl, ex, _, rfl, row_up (fun b o z => a1 b o (s6 b o z)) he, fun f2 hf2 => ?_⟩
    have a2 := same_upd (o := .lst (es.map V.str)) hf2
    refine ⟨f1, f2, _, _, rfl, rfl, a2 _ _ upd_same, upd_same, ?_, fun f3 hf3 => ?_⟩
    · rw [List.length_map]; show 1 + es.length ≤ sizeLine; exact Nat.le_of_lt (sz _ (by omega))
    have a3 := same_upd (o := .lst ([V.str st] ++ es.map V.str)) hf3
    have a13 : Same H6 (upd (upd (upd H6 f1 (.lst [V.str st])) f2 (.lst (es.map V.str))) f3 (.lst ([V.str st] ++ es.map V.str))) := fun b o z => a3 b o (a2 b o (a1 b o z))
    have hf3' : (upd (upd (upd H6 f1 (.lst [V.str st])) f2 (.lst (es.map V.str))) f3 (.lst ([V.str st] ++ es.map V.str))) f3 = some (.lst ([V.str st] ++ es.map V.str)) := upd_same
    generalize upd (upd (upd H6 f1 (.lst [V.str st])) f2 (.lst (es.map V.str))) f3 (.lst ([V.str st] ++ es.map V.str)) = H7 at a13 hf3'
    clear a1 a2 a3 hf1 hf2 hf3
    have s7 : Same Hn H7 := fun b o z => a13 b o (s6 b o z)
    have hm7 := s7 m _ hm
    have M7 := moves_up (Q9.Same.sq s7) M
    refine ⟨m, .dT kvs, hm7, trivial, fun od3 => ⟨_, rfl, m, od3, rfl, .inr ⟨kvs, upd_same, fun D3 hD3 => ?_⟩⟩⟩
    have nm3 : m ≠ D3 := ne_of_none upd_same hD3
    have free3 : H7 D3 = none := by rw [upd_ne nm3.symm] at hD3; exact hD3
    refine lc_it walk_keysT (fun i Hn' => Hn' m = some (.frz od3 (.dT kvs)) ∧ But m H7 Hn' ∧ Hn' D3 = some (.lst (((mv.take i).map (·.1.1)).map V.str))) ?_ (fun i Hn' _ p => p.1) ?_ ?_
    · exact ⟨by rw [upd_ne nm3]; exact upd_same, fun b o ne e => by rw [upd_ne (ne_of_none e free3), upd_ne ne]; exact e, upd_same⟩
    · rintro i y H8 H9 hi ⟨hm8, bt, hd⟩ ⟨rfl, k0, v, qa, hk, rfl, hq⟩
      obtain ⟨e, hev, ek, _⟩ := paired_at M7.ent i _ hk
      simp only at ek
      subst ek
      have hq' : H9 qa = some (.tup [.str e.1.1, .str e.1.2]) := hq
      refine ⟨qa, _, rfl, .of hq', rfl, _, _, rfl, _, _, rfl, rfl, rfl, _, rfl, _, hd, ?_, ?_, fun b o ne z => ?_, ?_⟩
      · rw [List.length_map, List.length_map, List.length_take]; exact sz _ (by omega)
      · rw [upd_ne nm3]; exact hm8
      · rw [upd_ne (ne_of_none z free3)]; exact bt b o ne z
      · rw [upd_same, take_one_more hev, List.map_append, List.map_append]; rfl
    rintro H8 ⟨hm8, bt, hd⟩
    rw [len, List.take_length] at hd
    have sb3 := bt.back hm7
    refine ⟨hm8, f3, D3, _, _, rfl, rfl, sb3 _ _ hf3', (by rw [upd_ne nm3.symm]; exact hd), ?_, fun f4 hf4 => ?_⟩
    · rw [List.length_append, List.length_map, List.length_map, List.length_map]; exact Nat.le_of_lt (sz _ (by simp only [List.length_cons, List.length_nil]; omega))
    have a4 := same_upd (o := .lst ([V.str st] ++ es.map V.str ++ (mv.map (·.1.1)).map V.str)) hf4
    refine ⟨_, rfl, f4, bp, _, _, rfl, rfl, upd_same, a4 _ _ (sb3 _ _ (a13 _ _ hbp)), ?_, fun f5 hf5 => ?_⟩
    · rw [List.length_append, List.length_append, List.length_map, List.length_map, List.length_map, List.length_map]; exact Nat.le_of_lt (sz _ (by simp only [List.length_cons, List.length_nil]; omega))
    have tot : ∀ z, z ∈ st :: es ++ mv.map (·.1.1) ++ beh ↔ z ∈ statesIn st es mv := states_told tB
    have etot : ((st :: es ++ mv.map (·.1.1) ++ beh).map kInr).map kV = [V.str st] ++ es.map V.str ++ (mv.map (·.1.1)).map V.str ++ beh.map V.str := by rw [kInr_kV]; simp
    refine ⟨f5, (st :: es ++ mv.map (·.1.1) ++ beh).map kInr, rfl, .inl (.of (by rw [etot]; exact upd_same)), few_same (fun z hz => (tot z).1 hz) S.states, fun p6 ks6 hp6 nd6 mem6 => ?_⟩
    obtain ⟨ss6, e6⟩ := texts_of mem6
    refine ⟨p6, ss6, rfl, by rw [upd_same, e6], fun ss sp pmS upS nsp => ?_⟩
    have tS : Told (statesIn st es mv) ss := by
      have t0 := told_of e6 nd6 mem6 pmS upS
      exact ⟨t0.1, t0.2.1, fun z => (t0.2.2 z).trans (tot z)⟩
    generalize hH9 : upd (upd (upd (upd (upd H8 m (.dT kvs)) f4 _) f5 _) p6 (SetKs _ _ p6 ks6)) sp _ = H9
    have s9 : Same H6 H9 := by rw [← hH9]; exact fun b o z => same_upd nsp b o (same_upd hp6 b o (same_upd hf5 b o (a4 b o (sb3 b o (a13 b o z)))))
    have hsp : H9 sp = some (.lst (ss.map V.str)) := by rw [← hH9]; exact upd_same
    have s9H : Same Hn H9 := fun b o z => s9 b o (s6 b o z)
    have nsH : Hn sp = none := by
      cases z : Hn sp with
      | none => rfl
      | some o => exact absurd (same_upd hp6 _ _ (same_upd hf5 _ _ (a4 _ _ (sb3 _ _ (a13 _ _ (s6 _ _ z)))))) (by rw [nsp]; exact fun h => nomatch h)
    clear hH9 nsp hp6 hf5 a4 sb3 hf4 hd bt hm8 free3 nm3 hD3 M7 hm7 s7 hf3' a13 pmS upS e6 mem6 nd6
    have hm9 := s9H m _ hm
    have M9 := moves_up (Q9.Same.sq s9H) M
    -- the methods
    refine ⟨m, .dT kvs, hm9, trivial, fun od4 => ⟨_, rfl, m, od4, rfl, .inr ⟨kvs, upd_same, fun D4 hD4 => ?_⟩⟩⟩
    have nm4 : m ≠ D4 := ne_of_none upd_same hD4
    have free4 : H9 D4 = none := by rw [upd_ne nm4.symm] at hD4; exact hD4
    refine coll_it walk_keysT (fun i Hn' => Hn' m = some (.frz od4 (.dT kvs)) ∧ But m H9 Hn' ∧ ∃ ks, Hn' D4 = some (SetKs P w D4 ks) ∧ Coll ((methodsIn mv).map kInr) i ks) ?_ (fun i Hn' _ p => p.1) ?_ ?_
    · exact ⟨by rw [upd_ne nm4]; exact upd_same, fun b o ne e => by rw [upd_ne (ne_of_none e free4), upd_ne ne]; exact e, [], upd_same, Coll.zero _⟩
    · rintro i y Ha Hb hi ⟨hm1', bt, ks, hks, cl⟩ ⟨rfl, k0, v, q0, hk, rfl, hq⟩
      obtain ⟨e, hev, ek, _⟩ := paired_at M9.ent i _ hk
      simp only at ek
      subst ek
      have hq' : Hb q0 = some (.tup [.str e.1.1, .str e.1.2]) := hq
      have at_ : ((methodsIn mv).map kInr)[i]? = some (kInr e.1.2) := by
        unfold methodsIn
        rw [List.getElem?_map, List.getElem?_map, hev]
        rfl
      refine ⟨q0, _, rfl, .of hq', rfl, _, _, rfl, _, _, rfl, rfl, rfl, ?_⟩
      refine ⟨_, rfl, kInr e.1.2, ks, rfl, hks, S.methods ks cl.nd cl.sub, fun ks' ad => ?_⟩
      refine ⟨by rw [upd_ne nm4]; exact hm1', fun b o ne z => ?_, ks', upd_same, cl.next at_ ad⟩
      rw [upd_ne (ne_of_none z free4)]
      exact bt b o ne z
    rintro Ha ⟨hma, bt, ks, hks, cl⟩
    have el4 : ((methodsIn mv).map kInr).take kvs.length = (methodsIn mv).map kInr := List.take_of_length_le (by unfold methodsIn; rw [List.length_map, List.length_map, len]; exact Nat.le_refl _)
    have mem4 : ∀ j, j ∈ ks ↔ j ∈ (methodsIn mv).map kInr := fun j => by rw [cl.mem j, el4]
    obtain ⟨ss4, e4⟩ := texts_of mem4
    refine ⟨hma, D4, ss4, rfl, (by rw [upd_ne nm4.symm, hks, e4]; rfl), fun ms mp pmM upM nmp => ?_⟩
    have tM : Told (methodsIn mv) ms := told_of e4 cl.nd mem4 pmM upM
    have sb4 := bt.back hm9
    generalize hH10 : upd (upd Ha m (.dT kvs)) mp _ = H10
    have s10 : Same H9 H10 := by rw [← hH10]; exact fun b o z => same_upd nmp b o (sb4 b o z)
    have hmp : H10 mp = some (.lst (ms.map V.str)) := by rw [← hH10]; exact upd_same
    have nmH : Hn mp = none := by
      cases z : Hn mp with
      | none => rfl
      | some o => exact absurd (sb4 _ _ (s9H _ _ z)) (by rw [nmp]; exact fun h => nomatch h)
    clear hH10 sb4 nmp pmM upM e4 mem4 el4 cl hks bt hma free4 nm4 hD4
    have s10_4 : Same Hn H10 := fun b o z => s10 b o (s9 b o (s46 b o z))
    -- the words
    have fewW : FewIn (((flatO mv).map (·.1)).map kInr) := few_same (fun z hz => flat_words.mp hz) S.words
    refine ⟨_, rfl, pp, rfl, ⟨_, s10_4.seq hvs⟩, fun D5 hD5 => ?_⟩
    refine coll_it (walk_list (xs := vs)) (fun i Hn' => Same H10 Hn' ∧ ∃ ks, Hn' D5 = some (SetKs P w D5 ks) ∧ Coll (((flatO mv).map (·.1)).map kInr) i ks) ⟨same_upd hD5, [], upd_same, Coll.zero _⟩ (fun i Hn' _ p => sqL_up (Q9.Same.sq p.1) (s10_4.seq hvs)) ?_ ?_
    · rintro i y Ha Hb hi ⟨s5, ks, hks, cl⟩ ⟨rfl, hy⟩
      obtain ⟨o, ho, q5, rfl, hq5⟩ := paired_at pvs i _ hy
      have at_ : (((flatO mv).map (·.1)).map kInr)[i]? = some (kInr o.1) := by rw [List.getElem?_map, List.getElem?_map, ho]; rfl
      refine ⟨q5, _, rfl, same_sqT s5 (same_sqT s10_4 hq5), rfl, _, _, rfl, _, _, rfl, rfl, rfl, ?_⟩
      exact ⟨_, rfl, kInr o.1, ks, rfl, hks, fewW ks cl.nd cl.sub, fun ks' ad => ⟨fun b u z => by rw [upd_ne (ne_of_none z hD5)]; exact s5 b u z, ks', upd_same, cl.next at_ ad⟩⟩
    rintro Ha ⟨s5, ks, hks, cl⟩
    have el5 : (((flatO mv).map (·.1)).map kInr).take vs.length = ((flatO mv).map (·.1)).map kInr := List.take_of_length_le (by rw [List.length_map, List.length_map, lv]; exact Nat.le_refl _)
    have mem5 : ∀ j, j ∈ ks ↔ j ∈ ((flatO mv).map (·.1)).map kInr := fun j => by rw [cl.mem j, el5]
    obtain ⟨ss5, e5⟩ := texts_of mem5
    refine ⟨D5, ss5, rfl, (by rw [hks, e5]; rfl), fun ws wp pmW upW nwp => ?_⟩
    have tW : Told ((flatO mv).map (·.1)) ws := told_of e5 cl.nd mem5 pmW upW
    generalize hH11 : upd Ha wp _ = H11
    have s11 : Same H10 H11 := by rw [← hH11]; exact fun b o z => same_upd nwp b o (s5 b o z)
    have hwp : H11 wp = some (.lst (ws.map V.str)) := by rw [← hH11]; exact upd_same
    clear hH11 nwp pmW upW e5 mem5 el5 cl hks s5 hD5
    have s11H : Same Hn H11 := fun b o z => s11 b o (s10 b o (s9H b o z))
    -- are they right
    have rightS : ∀ z ∈ ss, nameB z = true := fun z hz => by
      rcases mem_states.mp ((tS.2.2 z).1 hz) with h | h | ⟨e, h1, h2 | ⟨o, h3, h4⟩⟩
      · rw [h]; exact R.start
      · exact R.ends z h
      · rw [h2]; exact (R.keys e h1).1
      · rw [h4]; exact (R.outs e h1 o h3).2
    have rightM : ∀ z ∈ ms, nameB z = true := fun z hz => by
      obtain ⟨e, h1, h2⟩ := List.mem_map.mp ((tM.2.2 z).1 hz)
      rw [← h2]
      exact (R.keys e h1).2
    have rightW : ∀ z ∈ ws, wordB z = true := fun z hz => by
      obtain ⟨o, h1, h2⟩ := List.mem_map.mp ((tW.2.2 z).1 hz)
      obtain ⟨e, h3, h4⟩ := mem_flatO.mp h1
      rw [← h2]
      exact (R.outs e h3 o h4).1
    have lW := told_len tW
    have lS := told_len tS
    have lM := told_len tM
    rw [List.length_map] at lW
    have lMm : (methodsIn mv).length = mv.length := by unfold methodsIn; rw [List.length_map]
    refine ⟨_, rfl, _, rfl, wp, sp, mp, ws, ss, ms, rfl, .of hwp, .of (s11 _ _ (s10 _ _ hsp)), .of (s11 _ _ hmp), rightW, rightS, rightM, by omega, by omega, by omega, fun H12 s12 => ⟨_, rfl, ?_⟩⟩
    have s12H : Same Hn H12 := fun b o z => s12 b o (s11H b o z)
    by_cases cb : ss.length ≤ 60 ∧ ms.length ≤ 8
    case neg =>
      have e1 : (decide (ss.length ≤ 60) && decide (ms.length ≤ 8)) = false := by rw [Bool.and_eq_false_iff, decide_eq_false_iff_not, decide_eq_false_iff_not]; omega
      rw [e1]
      have wrong := way
      refine iteT ⟨(by show 1 ≤ 1000; decide), fun a na => ⟨a, _, rfl, upd_same, fun dx nd ne => ?_⟩⟩
      obtain ⟨r1, r2, r3, r4, r5⟩ := raised (C := CB) (fs := [("part", .str "moves")]) s12H na nd ne
      exact ⟨rfl, dx, _, r1, r2, r3, wrong _ dx r4 r5 upd_same⟩
    have e1 : (decide (ss.length ≤ 60) && decide (ms.length ≤ 8)) = true := by rw [decide_eq_true cb.1, decide_eq_true cb.2]; rfl
    rw [e1]
    refine iteF ?_
    have hm12 := s12H m _ hm
    have M12 := moves_up (Q9.Same.sq s12H) M
    -- no outcome twice
    refine ⟨m, .dT kvs, hm12, trivial, fun od6 => ⟨_, rfl, m, od6, kvs, rfl, upd_same, fun D6 hD6 => ?_⟩⟩
    have nm6 : m ≠ D6 := ne_of_none upd_same hD6
    have free6 : H12 D6 = none := by rw [upd_ne nm6.symm] at hD6; exact hD6
    refine lc_it walk_valuesT (fun i Hn' => Hn' m = some (.frz od6 (.dT kvs)) ∧ But m H12 Hn' ∧ ∃ acc, Hn' D6 = some (.lst acc) ∧ acc.length ≤ i ∧ (acc = [] → ∀ e ∈ mv.take i, e.2.Nodup)) ?_ (fun i Hn' _ p => p.1) ?_ ?_
    · exact ⟨by rw [upd_ne nm6]; exact upd_same, fun b o ne e => by rw [upd_ne (ne_of_none e free6), upd_ne ne]; exact e, [], upd_same, Nat.le_refl _, fun _ e he => by simp at he⟩
    · rintro i y Ha Hb hi ⟨hma, bt, acc, hd, la, im⟩ ⟨rfl, k0, hk⟩
      obtain ⟨e, hev, ek, us, row, each⟩ := paired_at M12.ent i _ hk
      have he_mv := List.mem_of_getElem? hev
      have row2 := row_sq (bt.sq hm12) row
      have each2 : Paired (OutT K Hb) us e.2 := L2.Paired.mapP each fun _ _ ⟨q, e, h⟩ => ⟨q, e, sqT_up (bt.sq hm12) h⟩
      have lu : us.length = e.2.length := PySem.Paired.length each
      have l8 := c8 e he_mv
      refine ⟨rfl, _, rfl, y, us, e.2.map keyOf, rfl, row2, paired_keys each2, by omega, fun p L hp nd mem => ⟨p, L, rfl, upd_same, ?_⟩⟩
      have sp1 := same_upd (o := SetTs P w p L) hp
      have ul := unlike_len (l := e.2.map keyOf) nd fun k => mem k
      rw [List.length_map] at ul
      have len6 : kvs.length = mv.length := PySem.Paired.length M12.ent
      have tk1 : (∀ x ∈ mv.take i, x.2.Nodup) → e.2.Nodup → ∀ x ∈ mv.take (i + 1), x.2.Nodup := fun h1 h2 x hx => by
        rw [take_one_more hev] at hx
        rcases List.mem_append.mp hx with hx | hx
        · exact h1 x hx
        · rw [List.mem_singleton.mp hx]; exact h2
      refine ⟨_, rfl, y, us, rfl, row_up sp1 row2, rfl, ?_⟩
      by_cases c : L.length = e.2.length
      · have hn : e.2.Nodup := by
          have h := ul.1 (by first | exact c | (rw [List.length_map]; exact c))
          exact List.Pairwise.of_map keyOf (fun a b ne e => ne (congrArg keyOf e)) h
        have eq0 : (!decide (V.int ((L.length : Nat) : Int) = V.int ((us.length : Nat) : Int))) = false := by rw [c, lu, decide_eq_true rfl]; rfl
        first
          | exact ⟨_, congrArg V.bl eq0, iteF ⟨sp1 _ _ hma, bt.trans (But.of sp1), acc, sp1 _ _ hd, by omega, fun z => tk1 (im z) hn⟩⟩
          | exact ⟨_, rfl, by rw [eq0]; exact iteF ⟨sp1 _ _ hma, bt.trans (But.of sp1), acc, sp1 _ _ hd, by omega, fun z => tk1 (im z) hn⟩⟩
      · have eq1 : (!decide (V.int ((L.length : Nat) : Int) = V.int ((us.length : Nat) : Int))) = true := by rw [lu, decide_eq_false (fun z => c (by injection z with z; omega))]; rfl
        have fin : ∃ acc2, (upd Hb p (SetTs P w p L)) D6 = some (.lst acc2) ∧ acc2.length < sizeLine ∧ (upd (upd Hb p (SetTs P w p L)) D6 (.lst (acc2 ++ [y]))) m = some (.frz od6 (.dT kvs)) ∧ But m H12 (upd (upd Hb p (SetTs P w p L)) D6 (.lst (acc2 ++ [y]))) ∧
            ∃ acc3, (upd (upd Hb p (SetTs P w p L)) D6 (.lst (acc2 ++ [y]))) D6 = some (.lst acc3) ∧ acc3.length ≤ i + 1 ∧ (acc3 = [] → ∀ e ∈ mv.take (i + 1), e.2.Nodup) := by
          refine ⟨acc, sp1 _ _ hd, ln6 _ (by omega), ?_, fun b o ne z => ?_, _, upd_same, ?_, fun z => absurd z (by simp)⟩
          · rw [upd_ne nm6]; exact sp1 _ _ hma
          · rw [upd_ne (ne_of_none z free6)]; exact sp1 _ _ (bt b o ne z)
          · rw [List.length_append, List.length_singleton]; omega
        first
          | exact ⟨_, congrArg V.bl eq1, iteT ⟨_, rfl, fin⟩⟩
          | exact ⟨_, rfl, by rw [eq1]; exact iteT ⟨_, rfl, fin⟩⟩
    rintro Ha ⟨hma, bt, acc, hd, la, im⟩
    have sb6 := bt.back hm12
    have len6 : kvs.length = mv.length := PySem.Paired.length M12.ent
    have ne6 : acc ≠ [] := fun z => by
      obtain ⟨e, he, nn⟩ := dup
      exact nn (im z e (by rw [len6, List.take_length]; exact he))
    refine ⟨hma, true, .inl ⟨acc, .of (by rw [upd_ne nm6.symm]; exact hd), ?_⟩, iteT ⟨(by show 1 ≤ 1000; decide), fun a na => ⟨a, _, rfl, upd_same, fun dx nd ne => ?_⟩⟩⟩
    · cases acc with
      | nil => exact (ne6 rfl).elim
      | cons _ _ => rfl
    · obtain ⟨r1, r2, r3, r4, r5⟩ := raised (C := CB) (fs := [("part", .str "moves")]) (s12H.trans sb6) na nd ne
      exact ⟨rfl, dx, _, r1, r2, r3, way _ dx r4 r5 upd_same⟩
end
end Q9
end
-- QInitX
section
set_option maxRecDepth 100000
set_option maxHeartbeats 8000000
namespace Q9
open PySem L2
/-- moves that are none, as far as it is told -/
def BadM (K : PySem.W.Frag) (H : Hp) (x : V) : Prop := BadRows K H x ∨ BadOut K H x
theorem badOut_up {K : PySem.W.Frag} {H H' : Hp} {x : V} (s : Same H H') (h : BadOut K H x) : BadOut K H' x := by
  obtain ⟨m, kvs, bss, e, hm, nd, tw, M, a, b, c, d⟩ := h
  refine ⟨m, kvs, bss, e, s _ _ hm, nd, tw, L2.Paired.mapP M fun _ _ ⟨us, row, its⟩ => ⟨us, row_up (del_same_of s) row, L2.Paired.mapP its fun _ _ h => ?_⟩, a, b, c, d⟩
  rcases h with ⟨o, k⟩ | ⟨q2, us2, e, sq, ku⟩
  · exact .inl ⟨ofTy_up (del_same_of s) o, keyB_up (del_same_of s) k⟩
  · refine .inr ⟨q2, us2, e, sqL_up (Q9.Same.sq (del_same_of s)) sq, ?_⟩
    rcases ku with z | ⟨u, v, c, d, e2, o1, o2, z⟩
    · exact .inl z
    · exact .inr ⟨u, v, c, d, e2, ofTy_up (del_same_of s) o1, ofTy_up (del_same_of s) o2, z⟩
theorem badM_up {K : PySem.W.Frag} {H H' : Hp} {x : V} (s : Same H H') (h : BadM K H x) : BadM K H' x := h.imp (badRows_up s) (badOut_up s)
/-- moves that are none, beside the other parts -/
def BadAll (K : PySem.W.Frag) (H : Hp) (sm : Str) (es : List Str) (m : V) : Prop := BadM K H m ∨
  (∃ (m' : Addr) (kvs : List (List Key × V)) (mv : Mv), m = .ref m' ∧ H m' = some (.dT kvs) ∧ MovesG K H kvs mv ∧ Small sm es mv ∧ (∀ z, z ∈ statesIn sm es mv ∨ z ∈ methodsIn mv ∨ z ∈ wordsIn mv → z.length ≤ sizeLine) ∧ (∃ z, (z ∈ statesIn sm es mv ∧ nameB z = false) ∨ (z ∈ methodsIn mv ∧ nameB z = false) ∨ (z ∈ wordsIn mv ∧ wordB z = false))) ∨
  ∃ (m' : Addr) (kvs : List (List Key × V)) (mv : Mv), m = .ref m' ∧ H m' = some (.dT kvs) ∧ MovesG K H kvs mv ∧ RightN sm es mv ∧ Small sm es mv ∧ ∃ e ∈ mv, ¬ e.2.Nodup
theorem badAll_up {K : PySem.W.Frag} {H H' : Hp} {sm : Str} {es : List Str} {m : V} (s : Same H H') (h : BadAll K H sm es m) : BadAll K H' sm es m := by
  rcases h with h | ⟨m', kvs, mv, e, hm, M, r⟩ | ⟨m', kvs, mv, e, hm, M, r⟩
  · exact .inl (badM_up s h)
  · exact .inr (.inl ⟨m', kvs, mv, e, s _ _ hm, movesG_up s M, r⟩)
  · exact .inr (.inr ⟨m', kvs, mv, e, s _ _ hm, movesG_up s M, r⟩)
/-- Kind(..), refused for its parts or its moves -/
def spInitX (C CB : Addr) (K : PySem.W.Frag) : Sp := fun vs H Q E => ∃ (x dx : Addr) (n st ex m : V) (p : Str), vs = [.ref x, n, st, ex, m] ∧ H x = some (.ins C dx []) ∧
  (BadParts K H n st ex p ∨ (p = "moves" ∧ ∃ (nm sm : Str) (es : List Str), n = .str nm ∧ st = .str sm ∧ Row K H ex (es.map V.str) ∧ nameB nm = true ∧ nameB sm = true ∧ (∀ z ∈ es, nameB z = true) ∧ es.Nodup ∧ es.length + 1 < scanBound ∧ BadAll K (del H x) sm es m)) ∧
  ∀ (H' : Hp) (d : Addr), But x H H' → H d = none → H' d = some (.xd [("part", .str p)]) → E (.ref CB) (some d) H'
section
variable {P : Program} {w : World} {K : PySem.W.Frag} {mg : Str → Option Value} {base : Heap} {C CB fC fRd : Addr}
theorem ok_initX {f : Addr} {fd dC dR : FuncData} (F : Fun K "__init__" "Kind.__init__" (kMeth 0) f fd) (T : TInit K mg C fC fRd) (G : FnOk P w K mg base (L2.CX P w) 4 fC dC ["name", "start", "ends"] (spOr (spCheckX CB K) (spCheckP K))) (b : Binds K dC ["name", "start", "ends"] [])
    (GR : FnOk P w K mg base (L2.CX P w) 5 fRd dR ["moves", "start", "ends"] (spOr (spOr (spReadX CB K) (spReadY CB K)) (spOr (spReadZ CB K) (spReadD CB K)))) (bR : Binds K dR ["moves", "start", "ends"] []) :
    FnOk P w K mg base (L2.CX P w) 6 f fd kindPs (spInitX C CB K) := by
  refine F.okX scK0 (fun vs H Q E h => ?_) (fun cdv A outer s H vs Q E hr h => ?_)
  · obtain ⟨x, dx, n, st, ex, m, p, rfl, _⟩ := h
    rfl
  · obtain ⟨x, dx, n, st, ex, m, p, rfl, hx, no, q⟩ := h
    refine ⟨_, pss_cons (ps_expr (pe_callS G (hr.mono (by decide)) (by rfl) T.gC T.kC b (fun σ => passAt (takes_of rfl rfl rfl rfl) σ) (pa_cons (pv 1) (pa_cons (pv 2) (pa_cons (pv 3) pa_nil)))))
      (pss_cons (ps_fld (pv 0) (pv 1) rfl)
      (pss_cons (ps_fld (pv 0) (pv 2) rfl)
      (pss_cons (ps_fld (pv 0) (pe_callTy cr_tupOf (by rfl) T.tup (by decide +kernel) (pa_cons (pe_callB cr_sortedRs (by rfl) T.sorted (by decide +kernel) (pa_cons (pv 3) pa_nil)) pa_nil)) rfl)
      (pss_one (ps_asg (pe_callS GR hr (by rfl) T.gR T.kR bR (fun σ => passAt (takes_of rfl rfl rfl rfl) σ) (pa_cons (pv 4) (pa_cons (pv 2) (pa_cons (pv 3) pa_nil))))
        (pg_tup rfl (pgs_cons (pg_fld (pv 0)) (pgs_cons (pg_fld (pv 0)) (pgs_cons (pg_fld (pv 0)) pgs_nil))))))))), ?_⟩
    rcases no with bp | ⟨rfl, nm, sm, es, rfl, rfl, he, n1, n2, n3, n4, fewE, bad⟩
    · exact ⟨_, rfl, _, rfl, _, rfl, .inl ⟨n, st, ex, p, rfl, bp, fun H' d s f a => q H' d (But.of s) f a⟩⟩
    refine ⟨_, rfl, _, rfl, _, rfl, .inr ⟨nm, sm, ex, es, rfl, he, n1, n2, n3, n4, fewE, fun H1 s1 => ?_⟩⟩
    refine ⟨_, rfl, _, rfl, x, C, dx, _, rfl, s1 _ _ hx, T.cl, T.nN, by decide, ?_⟩
    refine ⟨_, rfl, _, rfl, x, C, dx, _, rfl, upd_same, T.cl, T.nS, Nat.lt_of_le_of_lt (putF_le (Nat.le_refl _)) (by decide), ?_⟩
    generalize hH2 : upd (upd H1 x _) x _ = H2
    have b2 : But x H H2 := by rw [← hH2]; exact fun b o ne z => by rw [upd_ne ne, upd_ne ne]; exact s1 b o z
    have hx2 : H2 x = some (.ins C dx (putF "_start" (.str sm) (putF "_name" (.str nm) []))) := by rw [← hH2]; exact upd_same
    clear hH2
    refine ⟨_, rfl, ex, es, rfl, row_sq (butIns b2 hx) he, fun ys p pm up hp => ⟨p, _, rfl, .inl ⟨.of upd_same, fun l hl => ?_⟩⟩⟩
    have sp := same_upd (o := .lst (ys.map V.str)) hp
    have sl := same_upd (o := .tup (ys.map V.str)) hl
    have hx3 := sl _ _ (sp _ _ hx2)
    refine ⟨_, rfl, x, C, dx, _, rfl, hx3, T.cl, T.nE, Nat.lt_of_le_of_lt (putF_le (putF_le (Nat.le_refl _))) (by decide), ?_⟩
    generalize hH4 : upd (upd (upd H2 p (.lst (ys.map V.str))) l (.tup (ys.map V.str))) x _ = H4
    have b4 : But x H H4 := by rw [← hH4]; exact fun b o ne z => by rw [upd_ne ne]; exact sl _ _ (sp _ _ (b2 b o ne z))
    have hx4 : ∃ u, H4 x = some u := ⟨_, by rw [← hH4]; exact upd_same⟩
    have up4 : Same (del H x) H4 := fun c o z => del_less _ _ (but_del b4 _ _ z)
    refine ⟨_, rfl, _, rfl, _, rfl, ?_⟩
    have he4 := row_sq (butIns b4 hx) he
    have out : ∀ (H' : Hp) (d : Addr), Same H4 H' → H4 d = none → H' d = some (.xd [("part", .str "moves")]) → E (.ref CB) (some d) H' := fun H' d s4 fd2 a => by
      refine q H' d (fun c o ne z => s4 _ _ (b4 c o ne z)) ?_ a
      cases z : H d with
      | none => rfl
      | some o =>
        by_cases c : d = x
        · obtain ⟨u, hu⟩ := hx4
          rw [← c, fd2] at hu
          cases hu
        · rw [b4 _ _ c z] at fd2
          cases fd2
    rcases badAll_up up4 bad with (bad | bad) | ⟨m', kvs, mv, rfl, hm, M, S, TL, NR⟩ | ⟨m', kvs, mv, rfl, hm, M, R, S, dup⟩
    · exact .inl (.inl ⟨m, _, ex, rfl, bad, out⟩)
    · exact .inl (.inr ⟨m, _, ex, rfl, bad, out⟩)
    · exact .inr (.inl ⟨m', sm, ex, es, kvs, mv, rfl, he4, hm, M, S, TL, NR, out⟩)
    · exact .inr (.inr ⟨m', sm, ex, es, kvs, mv, rfl, he4, hm, M, R, S, dup, out⟩)
end
end Q9
end
-- QIsX
section
set_option maxRecDepth 100000
set_option maxHeartbeats 8000000
namespace Q9
open PySem L2
section
/-! isinstance of a caught error that has fields -/
structure ExcX (K : PySem.W.Frag) (D : Addr) : Prop where
  cl : (PySem.W.clsIn K D).isSome = true
  ga : PySem.W.findIn K (.ref D) "__getattribute__" = some (some (.builtin "BaseException.__getattribute__"))
  gt : PySem.W.findIn K (.ref D) "__getattr__" = some none
  sub : PySem.W.subIn K (.ref D) (.type "BaseException") = some true
  ha : PySem.W.findIn K (.ref D) "__class__" = some (some (.builtin "object.__class__"))
  hn : PySem.W.specialIn K (.builtin "object.__class__") "__get__" = some (some (.builtin "getset_descriptor.__get__"))
  ht : PySem.W.takesIn K (.builtin "object.__class__") = some true
  hm : PySem.W.mroIn K D (.type "object") = some true
/-- of a class that t stands for -/
theorem call_isX {X : Cx} {a D : Addr} {oe : Obj} {cls : Value} {d : Option Addr} {pn : List (Addr × Obj)} {y : V} {t : Value} (hy : ∀ u, RelV y u → u = t) (C : ExcX X.K D) (hz : Zc cls d oe) (hf : ∃ vs, oe.data = .fields vs) : CallR (X.suite a ((a, oe) :: pn)) (.builtin "isinstance")
    (fun xs H Q => cls = .ref D ∧ ∃ (b : Bool), xs = [.ref a, y] ∧ PySem.W.kitOne X.K (.ref D) t = some b ∧ (∃ dd fs, d = some dd ∧ H dd = some (.xd fs)) ∧ Q (.bl b) H) := by
  rintro pins s σ H xs us Q I r ⟨ec, b, rfl, e, ⟨dd, fs, ed, ea⟩, q⟩
  subst ec ed
  cases r with
  | @cons v u vs us r1 r2 =>
  cases r2 with
  | @cons v2 u2 vs2 us2 r3 r4 =>
  cases r4
  obtain rfl : u = Value.ref a := r1
  obtain rfl : u2 = t := hy _ r3
  have at_ : s.heap.get? a = some oe := (I.pin (a, oe) (by simp)).1
  obtain ⟨mA, hns, hr⟩ := (show ObjOk X.prog X.w H s.heap dd (.xd fs) from I.hok dd _ ea)
  obtain ⟨od, ho, hl⟩ := lookIn_ns hns
  obtain ⟨ws, hd⟩ := hf
  have J : PySem.W.InstAt s.heap a oe D (some od) := ⟨at_, hz.1, by unfold PySem.W.notCls; rw [hd] <;> rfl, by rw [hz.2]; exact ho⟩
  refine PySem.W.kia_one (PySem.W.kitx_exc C.cl C.ga C.gt C.sub C.ha C.hn C.ht C.hm) I.kIn J e ?_ fun tk => ⟨.bl b, H, I.kept (t' := tk) fun _ _ z => z, rfl, q⟩
  exact fun z => nomatch z
end

end Q9
end
-- QSaidK
section
set_option maxRecDepth 100000
set_option maxHeartbeats 8000000
namespace Q9
open PySem L2
/-! what is said of four things: the part that is none, or nothing -/
inductive KindR (K : PySem.W.Frag) (H : Hp) (n st ex m : V) : Option Str → Prop
  | part {p : Str} : BadParts K H n st ex p → KindR K H n st ex m (some p)
  | moves {nm sm : Str} {es : List Str} : n = .str nm → st = .str sm → Row K H ex (es.map V.str) → nameB nm = true → nameB sm = true → (∀ z ∈ es, nameB z = true) → es.Nodup → es.length + 1 < scanBound → BadAll K H sm es m → KindR K H n st ex m (some "moves")
  | great {m' : Addr} {nm sm : Str} {es : List Str} {kvs : List (List Key × V)} {mv : Mv} : n = .str nm → st = .str sm → m = .ref m' → Row K H ex (es.map V.str) → H m' = some (.dT kvs) → MovesG K H kvs mv → RightParts nm sm es mv → Small sm es mv → ¬ Fits sm es mv → KindR K H n st ex m (some "moves")
  | right {m' : Addr} {nm sm : Str} {es : List Str} {kvs : List (List Key × V)} {mv : Mv} : n = .str nm → st = .str sm → m = .ref m' → Row K H ex (es.map V.str) → H m' = some (.dT kvs) → MovesG K H kvs mv → RightParts nm sm es mv → Small sm es mv → Fits sm es mv → KindR K H n st ex m none
def spSaidK (K : PySem.W.Frag) : Sp := fun vs H Q _ => ∃ (n st ex m : V) (r : Option Str), vs = [n, st, ex, m] ∧ KindR K H n st ex m r ∧ (r = none → ∀ H', Same H H' → Q .non H') ∧ ∀ p, r = some p → ∀ H', Same H H' → Q (.str p) H'
abbrev skN : List Str := ["_law_name", "_law_start", "_law_ends", "_law_moves", "e"]
theorem scSk : FnScope skN ["_law_name", "_law_start", "_law_ends", "_law_moves"] (defScope sSaid) := ⟨rfl, rfl, rfl, by decide +kernel, rfl, by decide +kernel, by decide +kernel⟩
structure TSk (K : PySem.W.Frag) (mg : Str → Option Value) (CR CB C fI : Addr) : Prop where
  gR : mg "RightError" = some (.ref CR)
  gB : mg "BadKind" = some (.ref CB)
  gC : mg "Kind" = some (.ref C)
  mkK : Mk K C fI
  isi : mg "isinstance" = none
  ve : mg "ValueError" = none
  ex : ExcX K CB
  xf : XfC K CB
  noPa : PySem.W.findIn K (.ref CB) "part" = some none
  te : PySem.W.exmOne K (.ref CB) (.ref CR) = some true
  kB : PySem.W.kitOne K (.ref CB) (.ref CB) = some true
  kV : PySem.W.kitOne K (.ref CB) (.type "ValueError") = some true
section
variable {P : Program} {w : World} {K : PySem.W.Frag} {mg : Str → Option Value} {base : Heap} {C CR CB fI : Addr}
theorem made_up {H0 : Hp} {x2 d2 C : Addr} (n1 : H0 x2 = none) (n2 : H0 d2 = none) : Same H0 (upd (upd H0 d2 (.own x2)) x2 (.ins C d2 [])) := fun b o z => by
  rw [upd_ne (ne_of_none z n1), upd_ne (ne_of_none z n2)]
  exact z
theorem ok_saidK {f : Addr} {fd dI : FuncData} (F : Fun K "_law_said" "_law_said" sSaid f fd) (T : TSk K mg CR CB C fI)
    (GI : FnOk P w K mg base (L2.CX P w) 6 fI dI kindPs (spOr (spInitX C CB K) (spKindG C CB K))) (bI : Binds K dI kindPs []) : FnOk P w K mg base CX0 8 f fd ["_law_name", "_law_start", "_law_ends", "_law_moves"] (spSaidK K) := by
  refine F.ok scSk (fun vs H Q E h => ?_) (fun cdv A outer s H vs Q E hr h => ?_)
  · obtain ⟨n, st, ex, m, r, rfl, _⟩ := h
    rfl
  · obtain ⟨n, st, ex, m, r, rfl, kr, qn, qe⟩ := h
    refine ⟨_, pss_cons (ps_try_as (i := 4) rfl rfl scSk.nd rfl rfl ⟨rfl, by decide, .inl T.gR⟩ takes0
        (fun W pn xe tk _ => pss_one (ps_expr (pe_makeS T.mkK GI (hr.mono (by omega)) (by rfl) T.gC bI (fun σ => passAt tk σ) (pa_cons (pv 0) (pa_cons (pv 1) (pa_cons (pv 2) (pa_cons (pv 3) pa_nil)))))))
        (fun a oe cls d pn hz hf => pss_one (ps_ret (pe_ifExp (PW.pt (pw_and (pt_val (pe_callB (call_isX (y := .ref CB) (t := .ref CB) (fun _ e => e) T.ex hz hf) (by rfl) T.isi (by decide +kernel) (pa_cons (pv 4) (pa_cons (pe_glob (v := .ref CB) (by rfl) T.gB rfl) pa_nil))))
            (pw_and1 (pt_val (pe_callB (call_isX (y := .ty "ValueError") (t := .type "ValueError") (fun _ e => e) T.ex hz hf) (by rfl) T.isi (by decide +kernel) (pa_cons (pv 4) (pa_cons (pe_bltn (v := .ty "ValueError") (by rfl) T.ve (by decide +kernel) rfl) pa_nil)))))))
          (pe_xf T.xf T.noPa hz hf (pv 4)) pe_str))))
      (pss_one (ps_ret pe_non)), ?_⟩
    refine ⟨_, rfl, _, rfl, _, rfl, _, rfl, fun x dx nx ndx ne => ?_⟩
    have s1 := made_up (C := C) nx ndx
    have free : ∀ {b : Addr}, upd (upd H dx (.own x)) x (.ins C dx []) b = none → H b = none := fun {b} h => by
      cases z : H b with
      | none => rfl
      | some o => rw [s1 _ _ z] at h; cases h
    have hx : upd (upd H dx (.own x)) x (.ins C dx []) x = some (.ins C dx []) := upd_same
    have hdx : upd (upd H dx (.own x)) x (.ins C dx []) dx = some (.own x) := by rw [upd_ne ne, upd_same]
    have sd : Same H (del (upd (upd H dx (.own x)) x (.ins C dx [])) x) := fun b o z => by
      rw [del_ne (ne_of_none z nx)]
      exact s1 _ _ z
    have back : ∀ {H' : Hp}, But x (upd (upd H dx (.own x)) x (.ins C dx [])) H' → Same H H' := fun {H'} b c o z => b _ _ (ne_of_none z nx) (s1 _ _ z)
    cases kr with
    | @part p bp =>
      refine .inl ⟨x, dx, n, st, ex, m, p, rfl, hx, .inl (badParts_up s1 bp), fun H' d bt fd2 at_ => ?_⟩
      refine ⟨true, T.te, fun _ a na => ?_, fun z => Bool.noConfusion z⟩
      refine ⟨_, rfl, rfl, true, rfl, T.kB, ⟨d, _, rfl, at_⟩, _, rfl, iteT ?_⟩
      refine ⟨_, rfl, rfl, true, rfl, T.kV, ⟨d, _, rfl, at_⟩, _, rfl, iteT ?_⟩
      exact ⟨_, rfl, rfl, rfl, d, _, .str p, rfl, at_, rfl, qe _ rfl H' (back bt)⟩
    | moves e1 e2 he n1 n2 n3 n4 n5 bad =>
      refine .inl ⟨x, dx, n, st, ex, m, "moves", rfl, hx, .inr ⟨rfl, _, _, _, e1, e2, row_up s1 he, n1, n2, n3, n4, n5, badAll_up sd bad⟩, fun H' d bt fd2 at_ => ?_⟩
      refine ⟨true, T.te, fun _ a na => ?_, fun z => Bool.noConfusion z⟩
      refine ⟨_, rfl, rfl, true, rfl, T.kB, ⟨d, _, rfl, at_⟩, _, rfl, iteT ?_⟩
      refine ⟨_, rfl, rfl, true, rfl, T.kV, ⟨d, _, rfl, at_⟩, _, rfl, iteT ?_⟩
      exact ⟨_, rfl, rfl, rfl, d, _, .str "moves", rfl, at_, rfl, qe _ rfl H' (back bt)⟩
    | great e1 e2 e3 he hm M R S nf =>
      subst e1 e2 e3
      refine .inr ⟨x, dx, _, _, _, ex, _, _, _, rfl, hx, hdx, row_up s1 he, s1 _ _ hm, movesG_up s1 M, R, S, .inr ⟨nf, fun H' d bt fd2 at_ => ?_⟩⟩
      refine ⟨true, T.te, fun _ a na => ?_, fun z => Bool.noConfusion z⟩
      refine ⟨_, rfl, rfl, true, rfl, T.kB, ⟨d, _, rfl, at_⟩, _, rfl, iteT ?_⟩
      refine ⟨_, rfl, rfl, true, rfl, T.kV, ⟨d, _, rfl, at_⟩, _, rfl, iteT ?_⟩
      exact ⟨_, rfl, rfl, rfl, d, _, .str "moves", rfl, at_, rfl, qe _ rfl H' (back bt)⟩
    | right e1 e2 e3 he hm M R S ft =>
      subst e1 e2 e3
      exact .inr ⟨x, dx, _, _, _, ex, _, _, _, rfl, hx, hdx, row_up s1 he, s1 _ _ hm, movesG_up s1 M, R, S, .inl ⟨ft, fun H' s me d bt kf f1 f2 f3 => ⟨rfl, qn rfl H' (back bt)⟩⟩⟩
end
end Q9
end
-- QWords
section
set_option maxRecDepth 100000
set_option maxHeartbeats 4000000
namespace Q9
open PySem L2
abbrev wordsN : List Str := ["_law_well", "_law_many", "_law_some", "_law_signs", "_law_found", "_law_start", "_law_k", "_law_way", "_law_word", "_law_turn", "_law_stem"]
abbrev wordsPs : List Str := ["_law_well", "_law_many", "_law_some"]
theorem scW : FnScope wordsN wordsPs (defScope sWords) := ⟨rfl, rfl, rfl, by decide +kernel, rfl, by decide +kernel, by decide +kernel⟩
/-- unlike words, as many as were asked for -/
def spWords (K : PySem.W.Frag) : Sp := fun vs H Q _ => ∃ (l sm : Addr) (n : Nat) (some_ : List Str), vs = [.ref l, .int (n : Nat), .ref sm] ∧ Well H l ∧ SqL K H sm (some_.map V.str) ∧ sm ≠ l ∧ 1 ≤ some_.length ∧ some_.length ≤ 1000 ∧ n ≤ 20 ∧ (∀ z ∈ some_, LW z) ∧
  ∀ (H' : Hp) (p : Addr) (ws : List Str), But l H H' → Well H' l → H p = none → p ≠ l → H' p = some (.lst (ws.map V.str)) → ws.length = n → ws.Nodup → (∀ z ∈ ws, LW z) → Q (.ref p) H'
structure TWords (K : PySem.W.Frag) (mg : Str → Option Value) (fD fP : Addr) : Prop where
  int : mg "int" = none
  len : mg "len" = none
  range : mg "range" = none
  gD : mg "_law_draw" = some (.ref fD)
  kD : PySem.W.keepIn K (.ref fD) = true
  gP : mg "_law_pick" = some (.ref fP)
  kP : PySem.W.keepIn K (.ref fP) = true
/-- what is wanted behind an expression, told ahead -/
theorem pe_mono {X : Cx} {e : Expr} {te : TE} (he : PE X e te) : PE X e (fun σ H Q => ∃ R : VK, te σ H R ∧ ∀ x H1, R x H1 → Q x H1) :=
  ⟨fun pins s σ H Q I ⟨R, h, imp⟩ => thn (he.run pins s σ H R I h) fun v s1 ⟨x, H1, I1, r1, q1⟩ => ⟨x, H1, I1, r1, imp _ _ q1⟩⟩
/-- what is wanted behind a test, told ahead -/
theorem pt_mono {X : Cx} {e : Expr} {t : TT} (he : PT X e t) : PT X e (fun σ H Q => ∃ R : Bool → Hp → Prop, t σ H R ∧ ∀ b H1, R b H1 → Q b H1) :=
  ⟨fun pins s σ H Q I ⟨R, h, imp⟩ => thn (he.run pins s σ H R I h) fun v s1 ⟨H1, I1, q1⟩ => ⟨H1, I1, imp _ _ q1⟩⟩
theorem ne_nil {ws : List Str} : (!PyData.eqv (.list (dStrs ws)) (.list (dStrs []))) = !ws.isEmpty := by
  cases ws with
  | nil => simp [dStrs, PyData.eqv, PyData.eqvAll]
  | cons a l => simp [dStrs, PyData.eqv, PyData.eqvAll]
/-- what stands while a list of words is made -/
structure WSt (l F : Addr) (ws : List Str) (H H' : Hp) : Prop where
  but : But l H H'
  well : Well H' l
  at_ : H' F = some (.lst (ws.map V.str))
  new : H F = none
  ne : F ≠ l
theorem WSt.draw {l F : Addr} {ws : List Str} {H H' : Hp} {o : HO} (h : WSt l F ws H H') (w : Well (upd H' l o) l) : WSt l F ws H (upd H' l o) :=
  ⟨fun b u ne e => by rw [upd_ne ne]; exact h.but b u ne e, w, by rw [upd_ne h.ne]; exact h.at_, h.new, h.ne⟩
theorem WSt.same {l F : Addr} {ws : List Str} {H H' H2 : Hp} (h : WSt l F ws H H') (s : Same H' H2) : WSt l F ws H H2 :=
  ⟨fun b u ne e => s _ _ (h.but b u ne e), (by obtain ⟨a, b, c, h1, h2⟩ := h.well; exact ⟨a, b, c, s _ _ h1, h2⟩), s _ _ h.at_, h.new, h.ne⟩
theorem WSt.add {l F : Addr} {ws : List Str} {z : Str} {H H' : Hp} (h : WSt l F ws H H') : WSt l F (ws ++ [z]) H (upd H' F (.lst (ws.map V.str ++ [.str z]))) :=
  ⟨fun b u ne e => by rw [upd_ne (ne_of_none e h.new)]; exact h.but b u ne e, (by obtain ⟨a, b, c, h1, h2⟩ := h.well; exact ⟨a, b, c, by rw [upd_ne (fun e => h.ne e.symm)]; exact h1, h2⟩), by rw [upd_same, List.map_append]; rfl, h.new, h.ne⟩
theorem sqL_but {K : PySem.W.Frag} {l m : Addr} {xs : List V} {H H' : Hp} (b : But l H H') (n : m ≠ l) (h : SqL K H m xs) : SqL K H' m xs := by
  rcases h with (h | ⟨o, h⟩) | h
  · exact .inl (.inl (b _ _ n h))
  · exact .inl (.inr ⟨o, b _ _ n h⟩)
  · exact .inr h
section
variable {P : Program} {w : World} {K : PySem.W.Frag} {mg : Str → Option Value} {base : Heap} {fD fP : Addr}
theorem ok_words {f : Addr} {fd dD dP : FuncData} (F : Fun K "_law_words" "_law_words" sWords f fd) (T : TWords K mg fD fP)
    (GD : FnOk P w K mg base CX0 1 fD dD ["_law_well", "_law_many"] spDraw) (bD : Binds K dD ["_law_well", "_law_many"] [])
    (GP : FnOk P w K mg base CX0 2 fP dP ["_law_well", "_law_some"] (spPickL K)) (bP : Binds K dP ["_law_well", "_law_some"] []) : FnOk P w K mg base CX0 3 f fd wordsPs (spWords K) := by
  refine F.ok scW (fun vs H Q E h => ?_) (fun cdv A outer s H vs Q E hr h => ?_)
  · obtain ⟨l, sm, n, some_, rfl, _⟩ := h
    rfl
  · obtain ⟨l, sm, n, some_, rfl, hw, hs, ne, l1, l2, n20, lw, q⟩ := h
    have hu64 := hr.units
    refine ⟨_, pss_cons (ps_par3 (i := 3) (j := 4) (l := 5) (by rfl) scW.nd rfl rfl rfl (by decide) (by decide) (by decide) rfl rfl rfl (pa_cons pe_str (pa_cons (pe_lst pa_nil) (pa_cons (pe_call GD (hr.mono (by omega)) (by rfl) T.gD T.kD bD .nil pass0 (pa_cons (pv 0) (pa_cons (pe_callB call_len (by rfl) T.len (by decide +kernel) (pa_cons (pv 2) pa_nil)) pa_nil))) pa_nil))) (by rfl))
      (pss_cons (ps_for PassesOwn.never rfl (pi_range1 (by rfl) T.range (pa_cons (pv 1) pa_nil)) (pg_name (i := 6) scW.nd rfl (.inl rfl))
        (pss_cons (ps_par (i := 7) (j := 8) (by rfl) scW.nd rfl rfl (by decide) rfl rfl (pa_cons (pe_call GD (hr.mono (by omega)) (by rfl) T.gD T.kD bD .nil pass0 (pa_cons (pv 0) (pa_cons pe_int pa_nil)))
            (pa_cons (pe_ix ix_list (pv 2) (pe_op op_mod (pe_callTy call_int1 (by rfl) T.int (by decide +kernel) (pa_cons (pe_op op_add (pv 5) (pv 6)) pa_nil)) (pe_callB call_len (by rfl) T.len (by decide +kernel) (pa_cons (pv 2) pa_nil))) (fun _ _ => rfl)) pa_nil)) (by rfl))
        (C8.pss_cut (ps_if (pt_mono (PW.pt (pw_or (pt_cmpR op_lt (pv 7) pe_int (nomark _)) (pw_or1 (pt_cmpR op_in_seq (pv 8) (pv 4) rfl)))))
          (pss_cons (ps_set (i := 8) scW.nd rfl (.inl rfl) (pe_mono (pe_ifExp (PW.pt (pw_and (pt_cmpR op_eq (pv 7) pe_int (nomark _)) (pw_and1 (pt_cmpR (op_neD hu64) (pv 4) (pe_lst pa_nil) (nomark _)))))
              (pe_slice sl_str (pe_ix ix_list (pv 4) (pe_un un_neg pe_int) (fun _ _ => rfl)) po_none (po_some pe_int)) pe_str)))
          (pss_one (ps_for PassesOwn.never rfl (pi_range1 (by rfl) T.range (pa_cons (pe_op op_add pe_int (pe_call GD (hr.mono (by omega)) (by rfl) T.gD T.kD bD .nil pass0 (pa_cons (pv 0)
              (pa_cons (pe_call GP (hr.mono (by omega)) (by rfl) T.gP T.kP bP .nil pass0 (pa_cons (pv 0) (pa_cons (pe_lst (pa_cons pe_int (pa_cons pe_int (pa_cons (pe_op op_sub pe_int (pe_callB call_len_str (by rfl) T.len (by decide +kernel) (pa_cons (pv 8) pa_nil))) pa_nil)))) pa_nil))) pa_nil)))) pa_nil))
            (pg_name (i := 9) scW.nd rfl (.inl rfl))
            (pss_one (ps_set (i := 8) scW.nd rfl (.inl rfl) (pe_op op_add_str (pv 8) (pe_ix ix_str (pv 3) (pe_call GD (hr.mono (by omega)) (by rfl) T.gD T.kD bD .nil pass0 (pa_cons (pv 0) (pa_cons pe_int pa_nil))) (fun _ _ => rfl)))))))) pss_nil)
        (pss_cons (ps_set (i := 10) scW.nd rfl (.inl rfl) (pe_slice sl_str (pv 8) po_none (po_some pe_int)))
        (pss_cons (ps_for PassesOwn.never rfl (pi_range1 (by rfl) T.range (pa_cons pe_int pa_nil)) (pg_name (i := 9) scW.nd rfl (.inl rfl))
          (pss_one (ps_if (pt_cmpR op_in_seq (pv 8) (pv 4) rfl) (pss_one (ps_set (i := 8) scW.nd rfl (.inl rfl) (pe_op op_add_str (pv 10) (pe_ix ix_str (pv 3) (pv 9) (fun _ _ => rfl))))) pss_nil)))
        (pss_one (ps_expr (pe_bm PySem.F.plainAttrs_list PySem.F.slot_list_append PySem.F.type_list_append mt_append (pv 4) (pa_cons (pv 8) pa_nil)))))))))
      (pss_one (ps_ret (pv 4)))), ?_⟩
    refine ⟨(by show 0 ≤ sizeLine; decide), fun F0 hF0 => ?_⟩
    have nF : F0 ≠ l := fun e => by obtain ⟨_, _, _, h1, _⟩ := hw; rw [e, h1] at hF0; cases hF0
    have st0 : WSt l F0 [] H (upd H F0 (.lst [])) := ⟨fun b u ne e => by rw [upd_ne (ne_of_none e hF0)]; exact e, (by obtain ⟨a, b, c, h1, h2⟩ := hw; exact ⟨a, b, c, by rw [upd_ne (fun e => nF e.symm)]; exact h1, h2⟩), upd_same, hF0, nF⟩
    generalize upd H F0 (.lst []) = H0 at st0 ⊢
    have slen : (some_.map V.str).length = some_.length := List.length_map ..
    refine ⟨_, rfl, _, rfl, _, _, rfl, .inl ⟨_, sqL_but st0.but ne hs, rfl⟩, ?_⟩
    refine ⟨l, _, rfl, st0.well, by omega, by omega, fun r0 o0 g1 g2 w0 => ?_⟩
    have st1 := st0.draw w0
    generalize upd H0 l o0 = H1 at st1 ⊢
    refine ⟨_, _, _, rfl, ?_⟩
    refine ⟨_, rfl, n, rfl, by omega, by omega, ?_⟩
    refine for_range (n := n) (fun i σ H' => ∃ (v6 v7 v8 v9 v10 : Option V) (ws : List Str), σ = [some (.ref l), some (.int (n : Nat)), some (.ref sm), some (.str Letters), some (.ref F0), some (.int r0), v6, v7, v8, v9, v10] ∧ WSt l F0 ws H H' ∧ ws.length = i ∧ ws.Nodup ∧ ∀ z ∈ ws, LW z)
      ⟨none, none, none, none, none, [], rfl, st1, rfl, List.nodup_nil, fun _ h => nomatch h⟩ ?_ ?_
    · rintro i σ H2 hi ⟨v6, v7, v8, v9, v10, ws, rfl, st2, len, nd, lws⟩
      refine ⟨_, rfl, l, _, rfl, st2.well, by decide, by decide, fun r1 o1 g3 g4 w1 => ?_⟩
      have st3 := st2.draw w1
      generalize upd H2 l o1 = H3 at st3 ⊢
      have hs3 := sqL_but st3.but ne hs
      refine ⟨_, rfl, _, rfl, _, rfl, _, _, rfl, rfl, .inl ⟨_, rfl, _, rfl, _, _, rfl, .inl ⟨_, hs3, rfl⟩, _, _, rfl, rfl, by omega, ?_⟩⟩
      have pick : ∃ z0, some_[((r0 + (0 + (i : Int))) % ((some_.map V.str).length : Nat)).toNat]? = some z0 ∧ LW z0 := by
        have h1 := Int.emod_lt_of_pos (r0 + (0 + (i : Int))) (show (0 : Int) < ((some_.map V.str).length : Nat) by omega)
        have h2 := Int.emod_nonneg (r0 + (0 + (i : Int))) (show ((some_.map V.str).length : Int) ≠ 0 by omega)
        have h3 : ((r0 + (0 + (i : Int))) % ((some_.map V.str).length : Nat)).toNat < some_.length := by omega
        exact ⟨_, List.getElem?_eq_getElem h3, lw _ (List.getElem_mem h3)⟩
      obtain ⟨z0, hz0, lz0⟩ := pick
      refine ⟨sm, _, _, .str z0, rfl, rfl, hs3, ?_, ?_⟩
      · have e := atI_nat (xs := some_.map V.str) (j := ((r0 + (0 + (i : Int))) % ((some_.map V.str).length : Nat)).toNat) (by rw [List.getElem?_map, hz0]; rfl)
        rwa [Int.toNat_of_nonneg (Int.emod_nonneg _ (by omega))] at e
      refine ⟨_, _, rfl, ?_⟩
      refine ⟨fun σ' H' => ∃ (v6 v7 v9 v10 : Option V) (z : Str), σ' = [some (.ref l), some (.int (n : Nat)), some (.ref sm), some (.str Letters), some (.ref F0), some (.int r0), v6, v7, some (.str z), v9, v10] ∧ WSt l F0 ws H H' ∧ LW z, ?_, ?_⟩
      · refine ⟨fun b H' => H' = H3, ⟨_, rfl, _, _, rfl, rfl, _, rfl, ?_⟩, ?_⟩
        · refine ite2 (fun c => rfl) (fun c => ?_)
          exact ⟨_, rfl, _, rfl, F0, _, rfl, .inl (.of st3.at_), rfl, flat_strs _, _, rfl, rfl⟩
        rintro b H' rfl
        refine ite2 (fun c => ?_) (fun c => ?_)
        case refine_2 => exact ⟨_, _, _, _, z0, rfl, st3, lz0⟩
        refine ⟨fun v H' => ∃ z, v = .str z ∧ LP 6 z ∧ WSt l F0 ws H H', ?_, ?_⟩
        · have nil : LP 6 "" := ⟨by decide, fun c hc => by cases hc⟩
          refine ⟨_, rfl, rfl, _, rfl, ?_⟩
          refine ite2 (fun c => ?_) (fun c => ⟨_, rfl, nil, st3⟩)
          refine ⟨_, rfl, (by show 0 ≤ sizeLine; decide), fun p hp => ?_⟩
          have st4 := st3.same (same_upd (o := .lst []) hp)
          have oks : Oks ws := fun z hz => lay_of (lws z hz).2
          refine ⟨_, _, dp_lst st4.at_, dp_lst (l := []) upd_same, shaped_lst oks, shaped_lst (l := []) (fun _ h => nomatch h), _, rfl, ?_⟩
          rw [ne_nil]
          generalize upd H' p (.lst []) = H5 at st4 ⊢
          rcases List.eq_nil_or_concat ws with rfl | ⟨us, y, rfl⟩
          · exact iteF ⟨_, rfl, nil, st4⟩
          · rw [List.concat_eq_append] at st4 lws ⊢
            have e : (!(us ++ [y]).isEmpty) = true := by cases us <;> rfl
            rw [e]
            refine iteT ⟨_, rfl, _, rfl, F0, _, _, .str y, rfl, rfl, .of st4.at_, ?_, 6, rfl, y, rfl, lw_len (lws y (by simp)), _, rfl, (cut_lp (lws y (by simp)).2).1, st4⟩
            rw [List.map_append]
            exact atI_last _ _
        · rintro v H4 ⟨z1, rfl, l6, st4⟩
          have l6' := l6.1
          refine ⟨_, rfl, _, rfl, _, rfl, z1, rfl, lp_line l6 (by decide), _, _, rfl, rfl, (by show 3 ≤ sizeLine; decide), fun p hp => ?_⟩
          have st5 := st4.same (same_upd (o := .lst [.int 1, .int 2, .int (8 - (z1.length : Int))]) hp)
          have npl : p ≠ l := fun e => by obtain ⟨_, _, _, h1, _⟩ := st4.well; rw [e, h1] at hp; cases hp
          refine ⟨l, p, _, rfl, st5.well, .of upd_same, npl, (by show 0 < 3; decide), (by show 3 < 1073741824; decide), fun k x o2 hx w2 => ?_⟩
          have st6 := st5.draw w2
          generalize upd (upd H4 p _) l o2 = H6 at st6 ⊢
          obtain ⟨m, rfl, m1, m2⟩ : ∃ m : Int, x = .int m ∧ 1 ≤ m ∧ m ≤ 8 - (z1.length : Int) := by
            match k, hx with
            | 0, hx => exact ⟨1, (Option.some.inj hx).symm, by omega, by omega⟩
            | 1, hx => exact ⟨2, (Option.some.inj hx).symm, by omega, by omega⟩
            | 2, hx => exact ⟨_, (Option.some.inj hx).symm, by omega, by omega⟩
            | k + 3, hx => cases hx
          refine ⟨l, m, rfl, st6.well, by omega, by omega, fun r3 o3 g5 g6 w3 => ?_⟩
          have st7 := st6.draw w3
          generalize upd H6 l o3 = H7 at st7 ⊢
          refine ⟨_, _, rfl, rfl, _, rfl, by omega, by omega, ?_⟩
          refine for_range (n := (1 + r3).toNat) (fun j σ H' => ∃ (v9 : Option V) (y : Str), σ = [some (.ref l), some (.int (n : Nat)), some (.ref sm), some (.str Letters), some (.ref F0), some (.int r0), some (.int (0 + (i : Int))), some (.int r1), some (.str y), v9, v10] ∧ WSt l F0 ws H H' ∧ LP (z1.length + j) y ∧ (1 ≤ j → 1 ≤ y.length))
            ⟨v9, z1, rfl, st7, ⟨Nat.le_refl _, l6.2⟩, fun h => by omega⟩ ?_ ?_
          · rintro j σ H8 hj ⟨w9, y, rfl, st8, ly, _⟩
            refine ⟨_, rfl, _, rfl, _, rfl, l, _, rfl, st8.well, by decide, by decide, fun r4 o4 g7 g8 w4 => ?_⟩
            have st9 := st8.draw w4
            refine ⟨Letters, r4, 97 + r4.toNat, rfl, rfl, by decide, ?_, _, _, rfl, rfl, ?_, ?_⟩
            · have e := atI_nat (letter_at r4.toNat (by omega))
              rwa [Int.toNat_of_nonneg g7] at e
            · have := ly.1
              exact Nat.le_trans (by omega : y.length + 1 ≤ 20) (by decide : 20 ≤ sizeLine)
            · exact ⟨_, _, rfl, st9, lp_snoc (t := r4.toNat) ly (by omega), fun _ => by rw [app_len]; exact Nat.le_add_left _ _⟩
          · rintro σ H8 ⟨w9, y, rfl, st8, ly, y1⟩
            exact ⟨_, _, _, _, y, rfl, st8, y1 (by omega), lp_le ly (by omega)⟩
      · rintro σ' H4 ⟨v6, v7, v9, v10, z, rfl, st4, lz⟩
        refine ⟨_, rfl, 7, rfl, z, rfl, lw_len lz, ?_⟩
        obtain ⟨ls, ls1⟩ := cut_lp (m := 7) lz.2
        have ls1 := ls1 lz.1 (by decide)
        generalize cutS z none (some (7 : Int)) = stem at ls ls1 ⊢
        refine ⟨26, rfl, by decide, by decide, for_range (n := 26) (fun j σ H' => ∃ (v9 : Option V) (y : Str), σ = [some (.ref l), some (.int (n : Nat)), some (.ref sm), some (.str Letters), some (.ref F0), some (.int r0), v6, v7, some (.str y), v9, some (.str stem)] ∧ H' = H4 ∧ LW y ∧
          (y ∉ ws ∨ ((∀ t, t + 1 < j → stem ++ ltr t ∈ ws) ∧ (1 ≤ j → y = stem ++ ltr (j - 1))))) ⟨v9, z, rfl, rfl, lz, .inr ⟨fun t h => by omega, fun h => by omega⟩⟩ ?_ ?_⟩
        · rintro j σ H5 hj ⟨w9, y, rfl, rfl, ly, way⟩
          refine ⟨_, rfl, _, rfl, F0, _, rfl, .inl (.of st4.at_), rfl, flat_strs _, _, rfl, ?_⟩
          rw [inV_strs]
          refine ite2 (fun c => ?_) (fun c => ?_)
          · have c : y ∈ ws := of_decide_eq_true c
            refine ⟨_, rfl, _, rfl, _, rfl, Letters, _, 97 + j, rfl, rfl, by decide, ?_, _, _, rfl, rfl, ?_, ?_⟩
            · rw [Int.zero_add]
              exact atI_nat (letter_at j hj)
            · exact Nat.le_trans (Nat.add_le_add_right ls.1 _) (by decide : 7 + 1 ≤ sizeLine)
            · refine ⟨_, stem ++ ltr j, rfl, rfl, ⟨by rw [app_len]; omega, lp_snoc ls hj⟩, .inr ⟨fun t ht => ?_, fun _ => rfl⟩⟩
              rcases way with h | ⟨h1, h2⟩
              · exact (h c).elim
              · by_cases e : t + 1 < j
                · exact h1 t e
                · have e2 : t = j - 1 := by omega
                  rw [e2, ← h2 (by omega)]
                  exact c
          · have c : y ∉ ws := by simpa using c
            exact ⟨_, y, rfl, rfl, ly, .inl c⟩
        · rintro σ H5 ⟨w9, y, rfl, rfl, ly, way⟩
          have fresh : y ∉ ws := by
            rcases way with h | ⟨h1, h2⟩
            · exact h
            · exact fun _ => not_all (z := stem) (ws := ws) (by omega) fun t ht => h1 t (by omega)
          refine ⟨_, rfl, .inl ⟨rfl, _, .of st4.at_⟩, _, rfl, F0, _, _, rfl, rfl, st4.at_, ?_, ?_⟩
          · rw [List.length_map]
            exact Nat.lt_of_lt_of_le (by omega : ws.length < 20) (by decide)
          · refine ⟨_, _, _, _, _, ws ++ [y], rfl, st4.add, by rw [List.length_append, len]; rfl, ?_, fun u hu => ?_⟩
            · exact List.nodup_append.mpr ⟨nd, List.nodup_cons.mpr ⟨(fun z => nomatch z), List.nodup_nil⟩, fun a ha b hb e => fresh (by rw [← List.mem_singleton.mp hb, ← e]; exact ha)⟩
            · rcases List.mem_append.mp hu with h | h
              · exact lws u h
              · rw [List.mem_singleton.mp h]
                exact ly
    · rintro σ H2 ⟨v6, v7, v8, v9, v10, ws, rfl, st2, len, nd, lws⟩
      exact ⟨_, rfl, q H2 F0 ws st2.but st2.well hF0 nF st2.at_ len nd lws⟩
end
end Q9
end
-- QSort3
section
set_option maxRecDepth 100000
set_option maxHeartbeats 4000000
namespace Q9
open PySem L2
abbrev sortN : List Str := ["_law_well", "_law_name", "_law_methods", "_law_errors", "_law_size", "_law_states", "_law_moves", "_law_state", "_law_method", "_law_outcomes", "_law_k", "_law_one", "_law_ends"]
abbrev sortPs : List Str := ["_law_well", "_law_name", "_law_methods", "_law_errors", "_law_size"]
theorem scSo : FnScope sortN sortPs (defScope sSort) := ⟨rfl, rfl, rfl, by decide +kernel, rfl, by decide +kernel, by decide +kernel⟩
instance (z : Str) : Decidable (LW z) := by unfold LW LP; infer_instance
/-- the moves of drawn states, methods, words -/
def MvOk (S ms W : List Str) (mv : Mv) : Prop := ∀ e ∈ mv, e.1.1 ∈ S ∧ e.1.2 ∈ ms ∧ e.2.Nodup ∧ e.2.length ≤ 3 ∧ ∀ o ∈ e.2, o.1 ∈ W ∧ o.2 ∈ S
structure SortOk (S ms W : List Str) (st : Str) (es : List Str) (mv : Mv) : Prop where
  nd : S.Nodup
  one : 1 ≤ S.length
  few : S.length ≤ 4
  lw : ∀ z ∈ S, LW z
  head : S.head? = some st
  ends : es.Sublist S
  ok : MvOk S ms W mv
  len : mv.length ≤ S.length * ms.length
theorem new_ne {H : Hp} {l p : Addr} (h : Well H l) (n : H p = none) : p ≠ l := fun e => by
  obtain ⟨_, _, _, h1, _⟩ := h
  rw [e, h1] at n
  cases n
/-- pairs of texts at their places -/
abbrev Ps (H : Hp) (us : List Addr) (os : List (Str × Str)) : Prop := Paired (fun (u : Addr) (o : Str × Str) => H u = some (.tup [.str o.1, .str o.2])) us os
theorem Ps.same {H H' : Hp} {us : List Addr} {os : List (Str × Str)} (p : Ps H us os) (s : Same H H') : Ps H' us os := L2.Paired.mapP p fun _ _ e => s _ _ e
theorem Ps.far {H : Hp} {a : Addr} {u u' : HO} {us : List Addr} {os : List (Str × Str)} (p : Ps H us os) (h : H a = some u') (n : ∀ xs, u' ≠ .tup xs) : Ps (upd H a u) us os := L2.Paired.mapP p fun b _ e => by
  have ne : b ≠ a := fun c => by
    rw [c, h] at e
    exact n _ (Option.some.inj e)
  rw [upd_ne ne]
  exact e
theorem Ps.draw {H : Hp} {l : Addr} {u : HO} {us : List Addr} {os : List (Str × Str)} (p : Ps H us os) (w : Well H l) : Ps (upd H l u) us os := by
  obtain ⟨_, _, _, h1, _⟩ := w
  exact p.far h1 fun _ z => nomatch z
/-- an entry: its list stands exactly -/
def LRow (H : Hp) (v : V) (os : List (Str × Str)) : Prop := ∃ (a : Addr) (us : List Addr), v = .ref a ∧ H a = some (.lst (us.map V.ref)) ∧ Ps H us os
def LEnt (H : Hp) (kv : List Key × V) (e : (Str × Str) × List (Str × Str)) : Prop := kv.1 = [kInr e.1.1, kInr e.1.2] ∧ LRow H kv.2 e.2
structure LM (H : Hp) (kvs : List (List Key × V)) (mv : Mv) : Prop where
  nd : (kvs.map (·.1)).Nodup
  ent : Paired (LEnt H) kvs mv
theorem LM.up {H H' : Hp} {kvs : List (List Key × V)} {mv : Mv} (s : Same H H') (h : LM H kvs mv) : LM H' kvs mv :=
  ⟨h.nd, L2.Paired.mapP h.ent fun _ _ ⟨e, a, us, h1, h2, h3⟩ => ⟨e, a, us, h1, s _ _ h2, h3.same s⟩⟩
theorem lm_nil {H : Hp} : LM H [] [] := ⟨List.nodup_nil, .nil⟩
theorem lrow_outs {K : PySem.W.Frag} {H : Hp} {v : V} {os : List (Str × Str)} (h : LRow H v os) : OutsT K H v os := by
  obtain ⟨a, us, h1, h2, h3⟩ := h
  refine ⟨us.map V.ref, ⟨a, h1, .inl (.of h2)⟩, ?_⟩
  clear h1 h2
  induction h3 with
  | nil => exact .nil
  | @cons u o l m h t ih => exact .cons ⟨u, rfl, .of h⟩ ih
theorem LM.moves {K : PySem.W.Frag} {H : Hp} {kvs : List (List Key × V)} {mv : Mv} (h : LM H kvs mv) : Moves K H kvs mv :=
  ⟨h.nd, L2.Paired.mapP h.ent fun _ _ ⟨e, h⟩ => ⟨e, lrow_outs h⟩⟩
theorem LM.put {H : Hp} {kvs : List (List Key × V)} {mv : Mv} (M : LM H kvs mv) {a b : Str} {v : V} {os : List (Str × Str)} (o : LRow H v os) : LM H (putK kvs [kInr a, kInr b] v) (putM mv (a, b) os) := by
  have ea := ent_any (M.moves (K := ([] : PySem.W.Frag))).ent a b
  have nd := (moves_put (M.moves (K := ([] : PySem.W.Frag))) (a := a) (b := b) (v := v) (os := os) (lrow_outs o)).nd
  refine ⟨nd, ?_⟩
  unfold putK putM
  by_cases c : (kvs.any fun kv => decide (kv.1 = [kInr a, kInr b])) = true
  · rw [if_pos c, if_pos (ea ▸ c)]
    have key : ∀ {l : List (List Key × V)} {m : Mv}, Paired (LEnt H) l m → Paired (LEnt H) (l.map fun kv => if kv.1 = [kInr a, kInr b] then (kv.1, v) else kv) (m.map fun e => if e.1 = (a, b) then (e.1, os) else e) := by
      intro l m p
      induction p with
      | nil => exact .nil
      | @cons kv e l m h t ih =>
        refine .cons ?_ ih
        show LEnt H (if kv.1 = [kInr a, kInr b] then (kv.1, v) else kv) (if e.1 = (a, b) then (e.1, os) else e)
        by_cases z : e.1 = (a, b)
        · have z' : kv.1 = [kInr a, kInr b] := by rw [h.1, z]
          rw [if_pos z', if_pos z]
          exact ⟨h.1, o⟩
        · have z' : ¬ kv.1 = [kInr a, kInr b] := fun y => by
            rw [h.1] at y
            simp only [List.cons.injEq, Sum.inr.injEq, and_true] at y
            exact z (Prod.ext y.1 y.2)
          rw [if_neg z', if_neg z]
          exact h
    exact key M.ent
  · rw [if_neg c, if_neg (ea ▸ c)]
    exact paired_append M.ent (.cons ⟨rfl, o⟩ .nil)
def SortAt (K : PySem.W.Frag) (H : Hp) (v : V) (nm st : Str) (es : List Str) (kvs : List (List Key × V)) (mv : Mv) : Prop :=
  ∃ t e m, v = .ref t ∧ H t = some (.tup [.str nm, .str st, .ref e, .ref m]) ∧ H e = some (.lst (es.map V.str)) ∧ H m = some (.dT kvs) ∧ LM H kvs mv
theorem SortAt.up {K : PySem.W.Frag} {H H' : Hp} {v : V} {nm st : Str} {es : List Str} {kvs : List (List Key × V)} {mv : Mv} (s : Same H H') (h : SortAt K H v nm st es kvs mv) : SortAt K H' v nm st es kvs mv := by
  obtain ⟨t, e, m, h0, h1, h2, h3, h4⟩ := h
  exact ⟨t, e, m, h0, s _ _ h1, s _ _ h2, s _ _ h3, h4.up s⟩
/-- what stands in H and didn't in B -/
def nw (B H : Hp) : Hp := fun b => match B b with
  | none => H b
  | some _ => none
theorem nw_none {B H : Hp} {b : Addr} (h : B b = none) : nw B H b = H b := by
  unfold nw
  rw [h]
theorem nw_of {B H : Hp} {b : Addr} {o : HO} (h : nw B H b = some o) : B b = none ∧ H b = some o := by
  unfold nw at h
  split at h
  · rename_i e
    exact ⟨e, h⟩
  · cases h
theorem nw_but {B H H' : Hp} {l : Addr} (w : Well B l) (s : But l H H') : Same (nw B H) (nw B H') := fun b o e => by
  obtain ⟨e1, e2⟩ := nw_of e
  rw [nw_none e1]
  exact s b o (new_ne w e1) e2
theorem nw_base {B B' H : Hp} {l : Addr} (w : Well B' l) (s : But l B B') : Same (nw B' H) (nw B H) := fun b o e => by
  obtain ⟨e1, e2⟩ := nw_of e
  have : B b = none := by
    cases c : B b with
    | none => rfl
    | some u => rw [s b u (new_ne w e1) c] at e1; cases e1
  rw [nw_none this]
  exact e2
theorem nw_upd {B H : Hp} {D : Addr} {u u' : HO} (h : B D = some u') : nw B (upd H D u) = nw B H := by
  funext b
  unfold nw
  split
  · rename_i e
    rw [upd_ne (fun c => by rw [c, h] at e; cases e)]
  · rfl
theorem nw_del {B H : Hp} {l : Addr} (w : Well B l) : Same (nw B H) (del H l) := fun b o e => by
  obtain ⟨e1, e2⟩ := nw_of e
  rw [del_ne (new_ne w e1)]
  exact e2
def spSort (K : PySem.W.Frag) : Sp := fun vs H Q _ => ∃ (l ma ea : Addr) (nm : Str) (ms er : List Str) (size : Int), vs = [.ref l, .str nm, .ref ma, .ref ea, .int size] ∧ Well H l ∧ SqL K H ma (ms.map V.str) ∧ ma ≠ l ∧ H ea = some (.lst (er.map V.str)) ∧ ea ≠ l ∧ er.length ≤ 2 ∧ Oks er ∧ 0 < size ∧ size ≤ 4 ∧ ms.length ≤ 10 ∧
  ∀ (H' : Hp) (v : V) (st : Str) (S es : List Str) (kvs : List (List Key × V)) (mv : Mv), But l H H' → Well H' l → SortAt K (nw H H') v nm st es kvs mv → SortOk S ms ("no" :: "yes" :: er) st es mv → Q v H'
theorem well_same {H H' : Hp} {l : Addr} (s : Same H H') (h : Well H l) : Well H' l := by
  obtain ⟨a, b, c, h1, h2⟩ := h
  exact ⟨a, b, c, s _ _ h1, h2⟩
/-- a list that is made -/
structure LSt (l D : Addr) (xs : List V) (H H' : Hp) : Prop where
  but : But l H H'
  well : Well H' l
  at_ : H' D = some (.lst xs)
  new : H D = none
  ne : D ≠ l
theorem LSt.draw {l D : Addr} {xs : List V} {H H' : Hp} {o : HO} (h : LSt l D xs H H') (w : Well (upd H' l o) l) : LSt l D xs H (upd H' l o) :=
  ⟨h.but.trans But.upd, w, by rw [upd_ne h.ne]; exact h.at_, h.new, h.ne⟩
theorem LSt.same {l D : Addr} {xs : List V} {H H' H2 : Hp} (h : LSt l D xs H H') (s : Same H' H2) : LSt l D xs H H2 :=
  ⟨h.but.trans (But.of s), well_same s h.well, s _ _ h.at_, h.new, h.ne⟩
theorem LSt.on {l D : Addr} {xs : List V} {H H' H2 : Hp} (h : LSt l D xs H H') (s : But l H' H2) (w : Well H2 l) : LSt l D xs H H2 :=
  ⟨h.but.trans s, w, s _ _ h.ne h.at_, h.new, h.ne⟩
theorem LSt.add {l D : Addr} {xs : List V} {x : V} {H H' : Hp} (h : LSt l D xs H H') : LSt l D (xs ++ [x]) H (upd H' D (.lst (xs ++ [x]))) :=
  ⟨fun b u ne e => by rw [upd_ne (ne_of_none e h.new)]; exact h.but b u ne e, (by obtain ⟨a, b, c, h1, h2⟩ := h.well; exact ⟨a, b, c, by rw [upd_ne (fun e => h.ne e.symm)]; exact h1, h2⟩), upd_same, h.new, h.ne⟩
theorem LSt.start {l D : Addr} {xs : List V} {H : Hp} (w : Well H l) (n : H D = none) : LSt l D xs H (upd H D (.lst xs)) :=
  ⟨But.of (same_upd n), well_same (same_upd n) w, upd_same, n, new_ne w n⟩
/-- the dict of moves while it is made -/
structure SSt (K : PySem.W.Frag) (l M0 : Addr) (kvs : List (List Key × V)) (mv : Mv) (H H' : Hp) : Prop where
  wb : Well H l
  but : But l H H'
  well : Well H' l
  new : H M0 = none
  ne : M0 ≠ l
  at_ : H' M0 = some (.dT kvs)
  mov : LM (del (nw H H') M0) kvs mv
theorem SSt.on {K : PySem.W.Frag} {l M0 : Addr} {kvs : List (List Key × V)} {mv : Mv} {H H' H2 : Hp} (h : SSt K l M0 kvs mv H H') (s : But l H' H2) (w : Well H2 l) : SSt K l M0 kvs mv H H2 :=
  ⟨h.wb, h.but.trans s, w, h.new, h.ne, s _ _ h.ne h.at_, h.mov.up (del_same_of (nw_but h.wb s))⟩
theorem del_upd {B H : Hp} {m : Addr} {o : HO} : del (nw B (upd H m o)) m = del (nw B H) m := by
  funext b
  by_cases h : b = m
  · rw [h, del_same, del_same]
  · rw [del_ne h, del_ne h]
    unfold nw
    rw [upd_ne h]
theorem SSt.put {K : PySem.W.Frag} {l M0 : Addr} {kvs : List (List Key × V)} {mv : Mv} {H H' : Hp} (h : SSt K l M0 kvs mv H H') {a b : Str} {v : V} {os : List (Str × Str)} (o : LRow (del (nw H H') M0) v os) :
    SSt K l M0 (putK kvs [kInr a, kInr b] v) (putM mv (a, b) os) H (upd H' M0 (.dT (putK kvs [kInr a, kInr b] v))) :=
  ⟨h.wb, fun c u ne e => by rw [upd_ne (ne_of_none e h.new)]; exact h.but c u ne e, (by obtain ⟨a, b, c, h1, h2⟩ := h.well; exact ⟨a, b, c, by rw [upd_ne (fun e => h.ne e.symm)]; exact h1, h2⟩), h.new, h.ne, upd_same, by rw [del_upd]; exact h.mov.put o⟩
theorem old_none {l b : Addr} {H H' : Hp} (s : But l H H') (ne : b ≠ l) (n : H' b = none) : H b = none := by
  cases e : H b with
  | none => rfl
  | some o => rw [s b o ne e] at n; cases n
theorem mvok_put {S ms W : List Str} {mv : Mv} (h : MvOk S ms W mv) {a b : Str} {os : List (Str × Str)} (ha : a ∈ S) (hb : b ∈ ms) (nd : os.Nodup) (l3 : os.length ≤ 3) (ho : ∀ o ∈ os, o.1 ∈ W ∧ o.2 ∈ S) : MvOk S ms W (putM mv (a, b) os) := fun e he => by
  rcases mem_putM he with h1 | rfl
  · exact h e h1
  · exact ⟨ha, hb, nd, l3, ho⟩
theorem dp_us {K : PySem.W.Frag} {H : Hp} {us : List Addr} {os : List (Str × Str)} (p : Paired (fun (u : Addr) (o : Str × Str) => H u = some (.tup [.str o.1, .str o.2])) us os) : DpAll K H (us.map V.ref) (os.map dPair) := by
  induction p with
  | nil => exact .nil
  | @cons u o a b h t ih => exact .cons (.tup (.of h) (.cons (.str _) (.cons (.str _) .nil))) ih
theorem shaped_lpairs {l : List (Str × Str)} (h : ∀ o ∈ l, PyData.canLay0 (.str o.1) = true ∧ PyData.canLay0 (.str o.2) = true) : SeqAt.shaped (.list (l.map dPair)) = true := by
  obtain ⟨h1, h2⟩ := lay_pairs h
  unfold SeqAt.shaped
  rw [PyData.canLay0, h1, PyData.depth, Bool.true_and, decide_eq_true_iff]
  omega
theorem shaped_pair {o : Str × Str} (h : PyData.canLay0 (.str o.1) = true ∧ PyData.canLay0 (.str o.2) = true) : SeqAt.shaped (dPair o) = true := shaped_tup (l := [o.1, o.2]) fun z hz => by
  rcases List.mem_cons.mp hz with rfl | hz
  · exact h.1
  · rw [List.mem_singleton.mp hz]
    exact h.2
theorem eqv_strs (a b : Str) : PyData.eqv (.str a) (.str b) = decide (a = b) := by
  rw [PyData.eqv]
  rw [Bool.eq_iff_iff, beq_iff_eq, decide_eq_true_iff]
theorem eqv_pair (a b : Str × Str) : PyData.eqv (dPair a) (dPair b) = decide (b = a) := by
  unfold dPair
  rw [PyData.eqv, PyData.eqvAll, PyData.eqvAll, PyData.eqvAll, eqv_strs, eqv_strs, Bool.and_true, Bool.eq_iff_iff, Bool.and_eq_true, decide_eq_true_iff, decide_eq_true_iff, decide_eq_true_iff]
  constructor
  · rintro ⟨h1, h2⟩
    exact (Prod.ext h1 h2).symm
  · rintro rfl
    exact ⟨rfl, rfl⟩
theorem any_pairs (os : List (Str × Str)) (o : Str × Str) : ((os.map dPair).any fun z => PyData.eqv z (dPair o)) = decide (o ∈ os) := by
  induction os with
  | nil => rfl
  | cons a os ih =>
    rw [List.map_cons, List.any_cons, ih, eqv_pair, Bool.eq_iff_iff]
    simp [List.mem_cons]
structure TSort (K : PySem.W.Frag) (mg : Str → Option Value) (fD fP fW : Addr) : Prop where
  range : mg "range" = none
  gD : mg "_law_draw" = some (.ref fD)
  kD : PySem.W.keepIn K (.ref fD) = true
  gP : mg "_law_pick" = some (.ref fP)
  kP : PySem.W.keepIn K (.ref fP) = true
  gW : mg "_law_words" = some (.ref fW)
  kW : PySem.W.keepIn K (.ref fW) = true
section
variable {P : Program} {w : World} {K : PySem.W.Frag} {mg : Str → Option Value} {base : Heap} {fD fP fW : Addr}
theorem ok_sort {f : Addr} {fd dD dP dW : FuncData} (F : Fun K "_law_sort" "_law_sort" sSort f fd) (T : TSort K mg fD fP fW)
    (GD : FnOk P w K mg base CX0 1 fD dD ["_law_well", "_law_many"] spDraw) (bD : Binds K dD ["_law_well", "_law_many"] [])
    (GP : FnOk P w K mg base CX0 2 fP dP ["_law_well", "_law_some"] (spPickL K)) (bP : Binds K dP ["_law_well", "_law_some"] [])
    (GW : FnOk P w K mg base CX0 3 fW dW wordsPs (spWords K)) (bW : Binds K dW wordsPs []) : FnOk P w K mg base CX0 4 f fd sortPs (spSort K) := by
  refine F.ok scSo (fun vs H Q E h => ?_) (fun cdv A outer s H vs Q E hr h => ?_)
  · obtain ⟨l, ma, ea, nm, ms, er, size, rfl, _⟩ := h
    rfl
  · obtain ⟨l, ma, ea, nm, ms, er, size, rfl, hw, hma, nma, hea, nea, er2, oke, s0, s4, ms10, q⟩ := h
    have hu := hu_of hr
    have hu65 : (A.deeper (PyProof.Rows.envOfC "_law_sort" (defScope sSort) s.heap.objs.size f cdv)).units + 65 < cLine := by have := hr.un; omega
    refine ⟨_, pss_cons (ps_set (i := 5) scSo.nd rfl (.inl rfl) (pe_call GW (hr.mono (by omega)) (by rfl) T.gW T.kW bW .nil pass0 (pa_cons (pv 0) (pa_cons (pe_op op_add pe_int (pe_call GD (hr.mono (by omega)) (by rfl) T.gD T.kD bD .nil pass0 (pa_cons (pv 0) (pa_cons (pv 4) pa_nil))))
        (pa_cons (pe_lst (pa_cons pe_str (pa_cons pe_str (pa_cons pe_str (pa_cons pe_str (pa_cons pe_str pa_nil)))))) pa_nil)))))
      (pss_cons (ps_set (i := 6) scSo.nd rfl (.inl rfl) pe_dnewT)
      (pss_cons (ps_for PassesOwn.never rfl (pi_list (pv 5)) (pg_name (i := 7) scSo.nd rfl (.inl rfl))
        (pss_one (ps_for PassesOwn.never rfl (pi_list (pv 2)) (pg_name (i := 8) scSo.nd rfl (.inl rfl))
          (pss_cons (ps_set (i := 9) scSo.nd rfl (.inl rfl) (pe_lst pa_nil))
          (pss_cons (ps_for PassesOwn.never rfl (pi_range1 (by rfl) T.range (pa_cons (pe_call GP (hr.mono (by omega)) (by rfl) T.gP T.kP bP .nil pass0 (pa_cons (pv 0) (pa_cons (pe_lst (pa_cons pe_int (pa_cons pe_int (pa_cons pe_int (pa_cons pe_int (pa_cons pe_int (pa_cons pe_int (pa_cons pe_int (pa_cons pe_int pa_nil))))))))) pa_nil))) pa_nil)) (pg_name (i := 10) scSo.nd rfl (.inl rfl))
            (pss_cons (ps_set (i := 11) scSo.nd rfl (.inl rfl) (pe_tup (pa_cons (pe_call GP (hr.mono (by omega)) (by rfl) T.gP T.kP bP .nil pass0 (pa_cons (pv 0) (pa_cons (pe_op op_cat (pe_lst (pa_cons pe_str (pa_cons pe_str pa_nil))) (pv 3)) pa_nil)))
              (pa_cons (pe_call GP (hr.mono (by omega)) (by rfl) T.gP T.kP bP .nil pass0 (pa_cons (pv 0) (pa_cons (pv 5) pa_nil))) pa_nil))))
            (pss_one (ps_if (pt_cmpR (op_notInD hu65) (pv 11) (pv 9) rfl) (pss_one (ps_expr (pe_bm PySem.F.plainAttrs_list PySem.F.slot_list_append PySem.F.type_list_append mt_append (pv 9) (pa_cons (pv 11) pa_nil)))) pss_nil))))
          (pss_one (ps_if (pt_cmpR op_gt (pe_call GD (hr.mono (by omega)) (by rfl) T.gD T.kD bD .nil pass0 (pa_cons (pv 0) (pa_cons pe_int pa_nil))) pe_int (nomark _))
            (pss_one (ps_dput hu (pv 6) (pe_tup (pa_cons (pv 7) (pa_cons (pv 8) pa_nil))) (pv 9) rfl)) pss_nil)))))))
      (pss_cons (ps_setLc (i := 12) (own := [("_law_state", 7)]) (g := gName 7) (by rfl) scSo.nd rfl rfl (sw_true rfl rfl rfl (by decide +kernel)) (pi_list (pv 5)) (blkOk_by (own := [("_law_state", 7)]) (N := sortN) (sc := defScope sSort) (by decide +kernel))
          (fun _ _ _ _ _ => pg_name (i := 7) scSo.nd rfl (.inl rfl))
          (fun _ _ _ _ _ => pts_one (pt_cmpR op_gt (pe_call GD (hr.mono (by omega)) (by rfl) T.gD T.kD bD .nil pass0 (pa_cons (pv 0) (pa_cons pe_int pa_nil))) pe_int (nomark _)))
          (fun _ _ _ _ _ => pv 7))
      (pss_one (ps_ret (pe_tup (pa_cons (pv 1) (pa_cons (pe_ix ix_list (pv 5) pe_int (fun _ _ => rfl)) (pa_cons (pv 12) (pa_cons (pv 6) pa_nil)))))))))), ?_⟩
    refine ⟨_, rfl, _, rfl, _, rfl, l, _, rfl, hw, s0, by omega, fun r0 o0 g1 g2 w0 => ?_⟩
    obtain ⟨k0, rfl⟩ := Int.eq_ofNat_of_zero_le g1
    refine ⟨_, _, rfl, rfl, (by show 5 ≤ sizeLine; decide), fun p0 np0 => ?_⟩
    have b0 : But l H (upd (upd H l o0) p0 (.lst [.str "new", .str "open", .str "shut", .str "yes", .str "main"])) := But.upd.trans (But.of (same_upd np0))
    have w1 := well_same (same_upd (o := .lst [.str "new", .str "open", .str "shut", .str "yes", .str "main"]) np0) w0
    have at0 : (upd (upd H l o0) p0 (.lst [.str "new", .str "open", .str "shut", .str "yes", .str "main"])) p0 = some (.lst ((["new", "open", "shut", "yes", "main"] : List Str).map V.str)) := upd_same
    have ne0 := new_ne w0 np0
    generalize upd (upd H l o0) p0 _ = H0 at b0 w1 at0 ⊢
    have e1 : (1 : Int) + (k0 : Int) = ((1 + k0 : Nat) : Int) := by omega
    refine ⟨l, p0, 1 + k0, ["new", "open", "shut", "yes", "main"], by show [V.ref l, V.int (1 + (k0 : Int)), V.ref p0] = _; rw [e1], w1, .of at0, ne0, by decide, by decide, by omega, by decide, fun H1 St0 S b1 w2 nS0 nSl hS lS ndS lwS => ?_⟩
    have bA := b0.trans b1
    refine fun M0 hM0 => ?_
    have ss0 : SSt K l M0 [] [] H1 (upd H1 M0 (.dT [])) := ⟨w2, But.of (same_upd hM0), well_same (same_upd hM0) w2, hM0, new_ne w2 hM0, upd_same, lm_nil⟩
    generalize upd H1 M0 (.dT []) = H2 at ss0 ⊢
    have nSM : St0 ≠ M0 := fun e => by rw [e, hM0] at hS; cases hS
    have lay : ∀ o : Str × Str, o.1 ∈ (("no" : Str) :: "yes" :: er) ∧ o.2 ∈ S → PyData.canLay0 (.str o.1) = true ∧ PyData.canLay0 (.str o.2) = true := fun o ho => by
      refine ⟨?_, lay_of (lwS _ ho.2).2⟩
      rcases List.mem_cons.mp ho.1 with h | h
      · rw [h]; decide +kernel
      · rcases List.mem_cons.mp h with h | h
        · rw [h]; decide +kernel
        · exact oke _ h
    have atS : ∀ {H' : Hp}, But l H1 H' → SqL K H' St0 (S.map V.str) := fun b => .of (b _ _ nSl hS)
    have atM : ∀ {H' : Hp}, But l H1 H' → SqL K H' ma (ms.map V.str) := fun b => sqL_but (bA.trans b) nma hma
    have atE : ∀ {H' : Hp}, But l H1 H' → H' ea = some (.lst (er.map V.str)) := fun b => bA.trans b _ _ nea hea
    refine ⟨_, rfl, St0, rfl, ⟨_, atS ss0.but⟩, for_list (K := K) (a := St0) (xs := S.map V.str) (fun i σ H' => ∃ (v7 v8 v9 v10 v11 : Option V) (kvs : List (List Key × V)) (mv : Mv), σ = [some (.ref l), some (.str nm), some (.ref ma), some (.ref ea), some (.int size), some (.ref St0), some (.ref M0), v7, v8, v9, v10, v11, none] ∧ SSt K l M0 kvs mv H1 H' ∧ MvOk S ms ("no" :: "yes" :: er) mv ∧ mv.length ≤ i * ms.length)
      ⟨_, _, _, _, _, [], [], rfl, ss0, (fun e he => nomatch he), Nat.zero_le _⟩ (fun i σ H' _ ⟨_, _, _, _, _, _, _, _, ss, _⟩ => atS ss.but) ?_ ?_⟩
    · rintro i y σ H3 hi ⟨v7, v8, v9, v10, v11, kvs, mv, rfl, ss, ok, lenM⟩
      obtain ⟨zs, hzs, rfl⟩ : ∃ z, S[i]? = some z ∧ y = V.str z := by
        rw [List.getElem?_map] at hi
        obtain ⟨z, h1, h2⟩ := Option.map_eq_some_iff.mp hi
        exact ⟨z, h1, h2.symm⟩
      have memS : zs ∈ S := List.mem_of_getElem? hzs
      have iS : i < S.length := (List.getElem?_eq_some_iff.mp hzs).1
      refine ⟨_, rfl, ma, rfl, ⟨_, atM ss.but⟩, for_list (K := K) (a := ma) (xs := ms.map V.str) (fun j σ H' => ∃ (v8 v9 v10 v11 : Option V) (kvs : List (List Key × V)) (mv : Mv), σ = [some (.ref l), some (.str nm), some (.ref ma), some (.ref ea), some (.int size), some (.ref St0), some (.ref M0), some (.str zs), v8, v9, v10, v11, none] ∧ SSt K l M0 kvs mv H1 H' ∧ MvOk S ms ("no" :: "yes" :: er) mv ∧ mv.length ≤ i * ms.length + j)
        ⟨_, _, _, _, kvs, mv, rfl, ss, ok, lenM⟩ (fun j σ H' _ ⟨_, _, _, _, _, _, _, ss, _⟩ => atM ss.but) ?_ ?_⟩
      · rintro j y σ H4 hj ⟨v8, v9, v10, v11, kvs, mv, rfl, ss, ok, lenM⟩
        obtain ⟨zm, hzm, rfl⟩ : ∃ z, ms[j]? = some z ∧ y = V.str z := by
          rw [List.getElem?_map] at hj
          obtain ⟨z, h1, h2⟩ := Option.map_eq_some_iff.mp hj
          exact ⟨z, h1, h2.symm⟩
        have memM : zm ∈ ms := List.mem_of_getElem? hzm
        have jM : j < ms.length := (List.getElem?_eq_some_iff.mp hzm).1
        refine ⟨(by show 0 ≤ sizeLine; decide), fun D0 hD0 => ?_⟩
        have ls := LSt.start (xs := []) ss.well hD0
        generalize upd H4 D0 (.lst []) = H5 at ls ⊢
        refine ⟨_, rfl, (by show 8 ≤ sizeLine; decide), fun p1 np1 => ?_⟩
        have ls1 := ls.same (same_upd (o := .lst [.int 1, .int 1, .int 2, .int 1, .int 2, .int 3, .int 0, .int 1]) np1)
        refine ⟨l, p1, _, rfl, ls1.well, .of upd_same, new_ne ls.well np1, by decide, by decide, fun k x o1 hx w3 => ?_⟩
        have ls2 := ls1.draw w3
        generalize upd (upd H5 p1 _) l o1 = H6 at ls2 ⊢
        obtain ⟨t, rfl, t3⟩ : ∃ t : Nat, x = .int (t : Nat) ∧ t ≤ 3 := by
          match k, hx with
          | 0, hx => exact ⟨1, (Option.some.inj hx).symm, by omega⟩
          | 1, hx => exact ⟨1, (Option.some.inj hx).symm, by omega⟩
          | 2, hx => exact ⟨2, (Option.some.inj hx).symm, by omega⟩
          | 3, hx => exact ⟨1, (Option.some.inj hx).symm, by omega⟩
          | 4, hx => exact ⟨2, (Option.some.inj hx).symm, by omega⟩
          | 5, hx => exact ⟨3, (Option.some.inj hx).symm, by omega⟩
          | 6, hx => exact ⟨0, (Option.some.inj hx).symm, by omega⟩
          | 7, hx => exact ⟨1, (Option.some.inj hx).symm, by omega⟩
          | k + 8, hx => cases hx
        refine ⟨_, rfl, by omega, by omega, ?_⟩
        refine for_range (n := t) (fun n σ H' => ∃ (v10 v11 : Option V) (us : List Addr) (os : List (Str × Str)), σ = [some (.ref l), some (.str nm), some (.ref ma), some (.ref ea), some (.int size), some (.ref St0), some (.ref M0), some (.str zs), some (.str zm), some (.ref D0), v10, v11, none] ∧ LSt l D0 (us.map V.ref) H4 H' ∧ Ps H' us os ∧ (∀ u ∈ us, H1 u = none) ∧ os.Nodup ∧ os.length ≤ n ∧ ∀ o ∈ os, o.1 ∈ (("no" : Str) :: "yes" :: er) ∧ o.2 ∈ S)
          ⟨_, _, [], [], rfl, ls2, .nil, (fun _ h => nomatch h), List.nodup_nil, Nat.le_refl _, (fun _ h => nomatch h)⟩ ?_ ?_
        · rintro n σ H7 hn ⟨v10, v11, us, os, rfl, ls7, pu, nu, nd, l3, mo⟩
          have bE := ss.but.trans ls7.but
          refine ⟨_, rfl, (by show 2 ≤ sizeLine; decide), fun p2 np2 => ?_⟩
          have ls8 := ls7.same (same_upd (o := .lst [.str "no", .str "yes"]) np2)
          have at2 : upd H7 p2 (.lst [.str "no", .str "yes"]) p2 = some (.lst [.str "no", .str "yes"]) := upd_same
          have pu8 := Ps.same pu (same_upd (o := .lst [.str "no", .str "yes"]) np2)
          generalize upd H7 p2 (.lst [.str "no", .str "yes"]) = H8 at ls8 at2 pu8 ⊢
          have er2' : (er.map V.str).length ≤ 2 := by rw [List.length_map]; exact er2
          refine ⟨_, rfl, _, _, _, _, rfl, rfl, at2, atE (ss.but.trans ls8.but), ?_, fun p3 np3 => ?_⟩
          · show 2 + _ ≤ sizeLine
            exact Nat.le_trans (Nat.add_le_add_left er2' 2) (by decide)
          have ls9 := ls8.same (same_upd (o := .lst ([.str "no", .str "yes"] ++ er.map V.str)) np3)
          have pu9 := Ps.same pu8 (same_upd (o := .lst ([.str "no", .str "yes"] ++ er.map V.str)) np3)
          have n3 := new_ne ls8.well np3
          have at3 : upd H8 p3 (.lst ([.str "no", .str "yes"] ++ er.map V.str)) p3 = some (.lst ((("no" : Str) :: "yes" :: er).map V.str)) := upd_same
          generalize upd H8 p3 _ = H9 at ls9 pu9 at3 ⊢
          refine ⟨l, p3, _, rfl, ls9.well, .of at3, n3, (by show 0 < _ + 1; omega), ?_, fun k x o2 hx w4 => ?_⟩
          · show (er.map V.str).length + 1 + 1 < 1073741824
            omega
          obtain ⟨wo, hwo, rfl⟩ : ∃ z, (("no" : Str) :: "yes" :: er)[k]? = some z ∧ x = V.str z := by
            rw [List.getElem?_map] at hx
            obtain ⟨z, h1, h2⟩ := Option.map_eq_some_iff.mp hx
            exact ⟨z, h1, h2.symm⟩
          have memW := List.mem_of_getElem? hwo
          have noT : ∀ {G : Hp} {u : Addr} {o : Str × Str}, Well G l → G u = some (.tup [.str o.1, .str o.2]) → u ≠ l := fun w h e => by
            obtain ⟨_, _, _, h1, _⟩ := w
            rw [e, h1] at h
            cases h
          have lsA := ls9.draw w4
          have puA := Ps.draw (u := o2) pu9 ls9.well
          generalize upd H9 l o2 = HA at lsA puA ⊢
          refine ⟨_, rfl, _, rfl, l, St0, _, rfl, lsA.well, atS (ss.but.trans lsA.but), nSl, ?_, ?_, fun k2 x2 o3 hx2 w5 => ?_⟩
          · rw [List.length_map]; omega
          · rw [List.length_map]; omega
          obtain ⟨zt, hzt, rfl⟩ : ∃ z, S[k2]? = some z ∧ x2 = V.str z := by
            rw [List.getElem?_map] at hx2
            obtain ⟨z, h1, h2⟩ := Option.map_eq_some_iff.mp hx2
            exact ⟨z, h1, h2.symm⟩
          have memT := List.mem_of_getElem? hzt
          have lsB := lsA.draw w5
          have puB := Ps.draw (u := o3) puA lsA.well
          generalize upd HA l o3 = HB at lsB puB ⊢
          refine ⟨(by show 2 ≤ sizeLine; decide), fun T0 nT0 => ?_⟩
          have lsC := lsB.same (same_upd (o := .tup [.str wo, .str zt]) nT0)
          have puC := Ps.same puB (same_upd (o := .tup [.str wo, .str zt]) nT0)
          have newT := old_none (ss.but.trans lsB.but) (new_ne lsB.well nT0) nT0
          have atT : upd HB T0 (.tup [.str wo, .str zt]) T0 = some (.tup [.str wo, .str zt]) := upd_same
          generalize upd HB T0 (.tup [.str wo, .str zt]) = HC at lsC puC atT ⊢
          refine ⟨_, rfl, _, rfl, dPair (wo, zt), os.map dPair, .tup (.of atT) (.cons (.str _) (.cons (.str _) .nil)), .lst (.of lsC.at_) (dp_us puC), shaped_pair (lay (wo, zt) ⟨memW, memT⟩), shaped_lpairs fun o ho => lay o (mo o ho), _, rfl, ?_⟩
          rw [any_pairs]
          refine ite2 (fun c => ?_) (fun c => ?_)
          · have c : (wo, zt) ∉ os := by simpa using c
            refine ⟨_, rfl, .inl ⟨rfl, _, .of lsC.at_⟩, _, rfl, D0, _, _, rfl, rfl, lsC.at_, ?_, ?_⟩
            · rw [List.length_map, PySem.Paired.length puC]
              exact Nat.lt_of_le_of_lt (by omega : os.length ≤ 3) (by decide)
            · have dU : ∀ {u : Addr} {o : Str × Str}, HC u = some (.tup [.str o.1, .str o.2]) → u ≠ D0 := fun h e => by rw [e, lsC.at_] at h; cases h
              refine ⟨_, _, us ++ [T0], os ++ [(wo, zt)], rfl, ?_, paired_append (Ps.far puC lsC.at_ fun _ z => nomatch z) (.cons (show upd HC D0 _ T0 = _ by rw [upd_ne (dU (o := (wo, zt)) atT)]; exact atT) .nil), (fun u hu => by rcases List.mem_append.mp hu with h | h; exact nu u h; rw [List.mem_singleton.mp h]; exact newT), ?_, by rw [List.length_append]; exact Nat.succ_le_succ l3, fun o ho => ?_⟩
              · have := lsC.add (x := .ref T0)
                rw [List.map_append]
                exact this
              · exact List.nodup_append.mpr ⟨nd, List.nodup_cons.mpr ⟨(fun z => nomatch z), List.nodup_nil⟩, fun a ha b hb e => c (by rw [← List.mem_singleton.mp hb, ← e]; exact ha)⟩
              · rcases List.mem_append.mp ho with h | h
                · exact mo o h
                · rw [List.mem_singleton.mp h]
                  exact ⟨memW, memT⟩
          · exact ⟨_, _, us, os, rfl, lsC, puC, nu, nd, Nat.le_succ_of_le l3, mo⟩
        · rintro σ H7 ⟨v10, v11, us, os, rfl, ls7, pu, nu, nd, l3, mo⟩
          refine ⟨_, rfl, l, _, rfl, ls7.well, by decide, by decide, fun r5 o5 g5 g6 w6 => ?_⟩
          have noT : ∀ {G : Hp} {u : Addr} {o : Str × Str}, Well G l → G u = some (.tup [.str o.1, .str o.2]) → u ≠ l := fun w h e => by
            obtain ⟨_, _, _, h1, _⟩ := w
            rw [e, h1] at h
            cases h
          have ls8 := ls7.draw w6
          have pu8 := Ps.draw (u := o5) pu ls7.well
          generalize upd H7 l o5 = H8 at ls8 pu8 ⊢
          have ss8 := ss.on ls8.but ls8.well
          refine ⟨_, _, rfl, rfl, _, rfl, ?_⟩
          refine ite2 (fun c => ?_) (fun c => ?_)
          · refine ⟨_, rfl, _, rfl, _, rfl, _, rfl, (by show 2 ≤ sizeLine; decide), fun t0 nt0 => ?_⟩
            have st := same_upd (o := .tup [.str zs, .str zm]) nt0
            have ss9 := ss8.on (But.of st) (well_same st ss8.well)
            have at9 := st _ _ ls8.at_
            have pu9 := Ps.same pu8 st
            have att : upd H8 t0 (.tup [.str zs, .str zm]) t0 = some (.tup [.str zs, .str zm]) := upd_same
            generalize upd H8 t0 (.tup [.str zs, .str zm]) = H9 at ss9 at9 pu9 att ⊢
            have lk : kvs.length < sizeLine := by
              rw [PySem.Paired.length ss9.mov.ent]
              have h1 : i * ms.length ≤ 4 * 10 := Nat.mul_le_mul (by omega) ms10
              exact Nat.lt_of_le_of_lt (by omega : mv.length ≤ 50) (by decide)
            refine ⟨M0, _, rfl, DPut.t (k := [kInr zs, kInr zm]) ss9.at_ att lk, ?_⟩
            have notM : ∀ {u : Addr} {o : HO}, H9 u = some o → (∀ k, o ≠ .dT k) → u ≠ M0 := fun h n e => by rw [e, ss9.at_] at h; exact n _ (Option.some.inj h).symm
            have oT : LRow (del (nw H1 H9) M0) (.ref D0) os := ⟨D0, us, rfl, by rw [del_ne (notM at9 (fun _ z => nomatch z)), nw_none (old_none ss.but ls8.ne ls8.new)]; exact at9, paired_by (PySem.Paired.length pu9) fun j u o g1 g2 => by
              obtain ⟨o', g3, g4⟩ := LiI.paired_get pu9 g1
              rw [g2] at g3
              cases g3
              show del (nw H1 H9) M0 u = _
              rw [del_ne (notM g4 (fun _ z => nomatch z)), nw_none (nu u (List.mem_of_getElem? g1))]
              exact g4⟩
            refine ⟨_, _, _, _, _, _, rfl, ss9.put oT, mvok_put ok memS memM nd (Nat.le_trans l3 t3) mo, ?_⟩
            have := length_putM mv (zs, zm) os
            omega
          · exact ⟨_, _, _, _, kvs, mv, rfl, ss8, ok, by omega⟩
      · rintro σ H4 ⟨v8, v9, v10, v11, kvs, mv, rfl, ss, ok, lenM⟩
        rw [List.length_map] at lenM
        exact ⟨_, _, _, _, _, kvs, mv, rfl, ss, ok, by rw [Nat.succ_mul]; exact lenM⟩
    · rintro σ H3 ⟨v7, v8, v9, v10, v11, kvs, mv, rfl, ss, ok, lenM⟩
      rw [List.length_map] at lenM
      refine ⟨_, rfl, St0, rfl, ⟨_, atS ss.but⟩, fun D hD => ?_⟩
      have ls := LSt.start (xs := []) ss.well hD
      refine lc_it (walk_list (xs := S.map V.str)) (fun i H' => ∃ ws : List Str, LSt l D (ws.map V.str) H3 H' ∧ ws.Sublist (S.take i)) ⟨[], ls, List.nil_sublist _⟩ (fun i H' _ ⟨_, h, _⟩ => atS (ss.but.trans h.but)) ?_ ?_
      · rintro i y H5 H6 hi ⟨ws, ls5, sub⟩ ⟨rfl, hy⟩
        obtain ⟨z, hz, rfl⟩ : ∃ z, S[i]? = some z ∧ y = V.str z := by
          rw [List.getElem?_map] at hy
          obtain ⟨z, h1, h2⟩ := Option.map_eq_some_iff.mp hy
          exact ⟨z, h1, h2.symm⟩
        refine ⟨rfl, _, rfl, l, _, rfl, ls5.well, by decide, by decide, fun r o g1 g2 w7 => ?_⟩
        have ls6 := ls5.draw w7
        generalize upd H6 l o = H7 at ls6 ⊢
        refine ⟨_, _, rfl, rfl, _, rfl, ?_⟩
        have es := take_one_more hz
        refine ite2 (fun c => ?_) (fun c => ?_)
        · refine ⟨_, rfl, _, ls6.at_, ?_, ws ++ [z], ?_, ?_⟩
          · have h1 := sub.length_le
            rw [List.length_take] at h1
            rw [List.length_map]
            exact Nat.lt_of_le_of_lt (by omega : ws.length ≤ 4) (by decide)
          · have := ls6.add (x := .str z)
            rw [List.map_append]
            exact this
          · rw [es]
            exact sub.append (List.Sublist.refl _)
        · exact ⟨ws, ls6, sub.trans (by rw [es]; exact List.sublist_append_left _ _)⟩
      · rintro H5 ⟨ws, ls5, sub⟩
        rw [List.length_map, List.take_length] at sub
        obtain ⟨st, hst⟩ : ∃ st, S[0]? = some st := ⟨_, List.getElem?_eq_getElem (by omega : 0 < S.length)⟩
        have ss5 := ss.on ls5.but ls5.well
        refine ⟨_, rfl, _, rfl, St0, _, _, .str st, rfl, rfl, atS ss5.but, atI_nat (j := 0) (by rw [List.getElem?_map, hst]; rfl), _, rfl, _, rfl, (by show 4 ≤ sizeLine; decide), fun t0 nt0 => ?_⟩
        have s6 := same_upd (o := .tup [.str nm, .str st, .ref D, .ref M0]) nt0
        have nb : ∀ {b : Addr}, b ≠ l → H1 b = none → H b = none := fun ne n => old_none bA ne n
        have nt1 := old_none ss5.but (new_ne ss5.well nt0) nt0
        have nD1 := old_none ss.but ls5.ne ls5.new
        refine q _ (.ref t0) st S ws kvs mv ((bA.trans ss5.but).trans (But.of s6)) (well_same s6 ss5.well) (SortAt.up (nw_base w2 bA) ⟨t0, D, M0, rfl, (by rw [nw_none nt1]; exact upd_same), (by rw [nw_none nD1]; exact s6 _ _ ls5.at_), (by rw [nw_none ss5.new]; exact s6 _ _ ss5.at_), ?_⟩) ⟨ndS, by omega, by omega, lwS, by rw [List.head?_eq_getElem?]; exact hst, sub, ok, lenM⟩
        exact (ss5.mov.up del_less).up (nw_but w2 (But.of s6))
end
end Q9
end
-- QSorts
section
set_option maxRecDepth 100000
set_option maxHeartbeats 4000000
namespace Q9
open PySem L2
abbrev sortsN : List Str := ["_law_well", "_law_many", "_law_size", "_law_names", "_law_methods", "_law_errors", "_law_kinds", "_law_name"]
abbrev sortsPs : List Str := ["_law_well", "_law_many", "_law_size"]
theorem scSs : FnScope sortsN sortsPs (defScope sSorts) := ⟨rfl, rfl, rfl, by decide +kernel, rfl, by decide +kernel, by decide +kernel⟩
/-- a drawn kind -/
structure KR where
  nm : Str
  st : Str
  es : List Str
  S : List Str
  kvs : List (List Key × V)
  mv : Mv
structure KROk (ms er : List Str) (k : KR) : Prop where
  name : LW k.nm
  ok : SortOk k.S ms ("no" :: "yes" :: er) k.st k.es k.mv
abbrev KRAt (K : PySem.W.Frag) (H : Hp) (v : V) (k : KR) : Prop := SortAt K H v k.nm k.st k.es k.kvs k.mv
structure ErOk (er : List Str) : Prop where
  few : er.length ≤ 2
  lay : Oks er
  word : ∀ z ∈ er, wordB z = true
def Five : List Str := ["E", "GUARD", "LOST", "EE", "ZZZZZZZZ"]
theorem five_ok : ∀ z ∈ Five, PyData.canLay0 (.str z) = true ∧ wordB z = true := by decide +kernel
theorem cut2_len (xs : List V) : (cutV xs none (some 2)).length ≤ 2 := by
  unfold cutV
  rw [List.length_take]
  refine Nat.le_trans (Nat.min_le_left _ _) (Nat.le_trans (Nat.sub_le _ _) ?_)
  show min (2 : Int).toNat _ ≤ 2
  exact Nat.min_le_left _ _
def EX : List Str := ["enter", "exit"]
def spSorts (K : PySem.W.Frag) : Sp := fun vs H Q _ => ∃ (l : Addr) (n : Nat) (size : Int), vs = [.ref l, .int (n : Nat), .int size] ∧ Well H l ∧ n ≤ 20 ∧ 0 < size ∧ size ≤ 4 ∧
  ∀ (H' : Hp) (t kp mp ep : Addr) (ks : List V) (krs : List KR) (ms er : List Str), But l H H' → Well H' l → H' t = some (.tup [.ref kp, .ref mp, .ref ep]) → H' kp = some (.lst ks) → kp ≠ l → Paired (KRAt K (del H' l)) ks krs → (∀ k ∈ krs, KROk ms er k) → krs.length = n →
    H' mp = some (.lst (ms.map V.str)) → mp ≠ l → 1 ≤ ms.length → ms.length ≤ 4 → (∀ z ∈ ms, LW z) → H' ep = some (.lst (er.map V.str)) → ep ≠ l → ErOk er → Q (.ref t) H'
structure TSorts (K : PySem.W.Frag) (mg : Str → Option Value) (fD fW fS : Addr) : Prop where
  gD : mg "_law_draw" = some (.ref fD)
  kD : PySem.W.keepIn K (.ref fD) = true
  gW : mg "_law_words" = some (.ref fW)
  kW : PySem.W.keepIn K (.ref fW) = true
  gS : mg "_law_sort" = some (.ref fS)
  kS : PySem.W.keepIn K (.ref fS) = true
section
variable {P : Program} {w : World} {K : PySem.W.Frag} {mg : Str → Option Value} {base : Heap} {fD fW fS : Addr}
theorem ok_sorts {f : Addr} {fd dD dW dS : FuncData} (F : Fun K "_law_sorts" "_law_sorts" sSorts f fd) (T : TSorts K mg fD fW fS)
    (GD : FnOk P w K mg base CX0 1 fD dD ["_law_well", "_law_many"] spDraw) (bD : Binds K dD ["_law_well", "_law_many"] [])
    (GW : FnOk P w K mg base CX0 3 fW dW wordsPs (spWords K)) (bW : Binds K dW wordsPs [])
    (GS : FnOk P w K mg base CX0 4 fS dS sortPs (spSort K)) (bS : Binds K dS sortPs []) : FnOk P w K mg base CX0 5 f fd sortsPs (spSorts K) := by
  refine F.ok scSs (fun vs H Q E h => ?_) (fun cdv A outer s H vs Q E hr h => ?_)
  · obtain ⟨l, n, size, rfl, _⟩ := h
    rfl
  · obtain ⟨l, n, size, rfl, hw, n20, s0, s4, q⟩ := h
    refine ⟨_, pss_cons (ps_set (i := 3) scSs.nd rfl (.inl rfl) (pe_call GW (hr.mono (by omega)) (by rfl) T.gW T.kW bW .nil pass0 (pa_cons (pv 0) (pa_cons (pv 1) (pa_cons (pe_lst (pa_cons pe_str (pa_cons pe_str (pa_cons pe_str (pa_cons pe_str (pa_cons pe_str pa_nil)))))) pa_nil)))))
      (pss_cons (ps_set (i := 4) scSs.nd rfl (.inr rfl) (pe_call GW (hr.mono (by omega)) (by rfl) T.gW T.kW bW .nil pass0 (pa_cons (pv 0) (pa_cons (pe_op op_add pe_int (pe_call GD (hr.mono (by omega)) (by rfl) T.gD T.kD bD .nil pass0 (pa_cons (pv 0) (pa_cons pe_int pa_nil)))) (pa_cons (pe_lst (pa_cons pe_str (pa_cons pe_str (pa_cons pe_str (pa_cons pe_str pa_nil))))) pa_nil)))))
      (pss_cons (ps_set (i := 4) scSs.nd rfl (.inr rfl) (pe_op op_cat (pv 4) (pe_lst (pa_cons pe_str (pa_cons pe_str pa_nil)))))
      (pss_cons (ps_set (i := 5) scSs.nd rfl (.inr rfl) (pe_slice sl_list (pe_slice sl_list (pe_lst (pa_cons pe_str (pa_cons pe_str (pa_cons pe_str (pa_cons pe_str (pa_cons pe_str pa_nil)))))) (po_some (pe_call GD (hr.mono (by omega)) (by rfl) T.gD T.kD bD .nil pass0 (pa_cons (pv 0) (pa_cons pe_int pa_nil)))) po_none) po_none (po_some pe_int)))
      (pss_cons (ps_setLc (i := 6) (own := [("_law_name", 7)]) (g := gName 7) (tt := tYes) (by rfl) scSs.nd rfl rfl (sw_true rfl rfl rfl (by decide +kernel)) (pi_list (pv 3)) (blkOk_by (own := [("_law_name", 7)]) (N := sortsN) (sc := defScope sSorts) (by decide +kernel))
          (fun _ _ _ _ _ => pg_name (i := 7) scSs.nd rfl (.inl rfl)) (fun _ _ _ _ _ => pts_nil)
          (fun _ _ _ _ _ => pe_call GS (hr.mono (by omega)) (by rfl) T.gS T.kS bS .nil pass0 (pa_cons (pv 0) (pa_cons (pv 7) (pa_cons (pv 4) (pa_cons (pv 5) (pa_cons (pv 2) pa_nil)))))))
      (pss_one (ps_ret (pe_tup (pa_cons (pv 6) (pa_cons (pv 4) (pa_cons (pv 5) pa_nil)))))))))), ?_⟩
    refine ⟨_, rfl, _, rfl, (by show 5 ≤ sizeLine; decide), fun p0 np0 => ?_⟩
    have s1 := same_upd (o := .lst [.str "file", .str "lock", .str "main", .str "a", .str "exit"]) np0
    refine ⟨l, p0, n, ["file", "lock", "main", "a", "exit"], rfl, well_same s1 hw, .of upd_same, new_ne hw np0, by decide, by decide, n20, by decide, fun H1 A0 ws b1 w1 nA nAl hA lA ndA lwA => ?_⟩
    have bA : But l H H1 := (But.of s1).trans b1
    clear b1 s1 nA np0
    refine ⟨_, rfl, _, rfl, l, _, rfl, w1, by decide, by decide, fun r0 o0 g1 g2 w2 => ?_⟩
    obtain ⟨k0, rfl⟩ := Int.eq_ofNat_of_zero_le g1
    refine ⟨_, _, rfl, rfl, (by show 4 ≤ sizeLine; decide), fun p1 np1 => ?_⟩
    have bB : But l H (upd (upd H1 l o0) p1 (.lst [.str "read", .str "call", .str "no", .str "ab"])) := (bA.trans But.upd).trans (But.of (same_upd np1))
    have bB1 : But l H1 (upd (upd H1 l o0) p1 (.lst [.str "read", .str "call", .str "no", .str "ab"])) := But.upd.trans (But.of (same_upd np1))
    have w3 := well_same (same_upd (o := .lst [.str "read", .str "call", .str "no", .str "ab"]) np1) w2
    have at1 : (upd (upd H1 l o0) p1 (.lst [.str "read", .str "call", .str "no", .str "ab"])) p1 = some (.lst ((["read", "call", "no", "ab"] : List Str).map V.str)) := upd_same
    have ne1 := new_ne w2 np1
    generalize upd (upd H1 l o0) p1 _ = H2 at bB bB1 w3 at1 ⊢
    have e1 : (1 : Int) + (k0 : Int) = ((1 + k0 : Nat) : Int) := by omega
    refine ⟨l, p1, 1 + k0, ["read", "call", "no", "ab"], by show [V.ref l, V.int (1 + (k0 : Int)), V.ref p1] = _; rw [e1], w3, .of at1, ne1, by decide, by decide, by omega, by decide, fun H3 B0 us b3 w4 nB nBl hB lB ndB lwB => ?_⟩
    have bC := bB.trans b3
    have bC1 := bB1.trans b3
    refine ⟨_, rfl, (by show 2 ≤ sizeLine; decide), fun p2 np2 => ?_⟩
    have s4' := same_upd (o := .lst [.str "enter", .str "exit"]) np2
    refine ⟨_, _, _, _, rfl, rfl, s4' _ _ hB, upd_same, ?_, fun C0 nC => ?_⟩
    · show (us.map V.str).length + 2 ≤ sizeLine
      rw [List.length_map, lB]
      exact Nat.le_trans (by omega : 1 + k0 + 2 ≤ 5) (by decide)
    have s5 := same_upd (o := .lst (us.map V.str ++ [.str "enter", .str "exit"])) nC
    have bD := (bC.trans (But.of s4')).trans (But.of s5)
    have bD1 := (bC1.trans (But.of s4')).trans (But.of s5)
    have w5 := well_same s5 (well_same s4' w4)
    have neC := new_ne (well_same s4' w4) nC
    have hC : upd (upd H3 p2 (.lst [.str "enter", .str "exit"])) C0 (.lst (us.map V.str ++ [.str "enter", .str "exit"])) C0 = some (.lst ((us ++ EX).map V.str)) := by rw [upd_same, List.map_append]; rfl
    generalize upd (upd H3 p2 _) C0 _ = H4 at bD bD1 w5 hC ⊢
    clear s4' s5 nC np2 bC bC1 bB bB1
    have msl : (us ++ EX).length = us.length + 2 := List.length_append ..
    have lwM : ∀ z ∈ us ++ EX, LW z := fun z hz => by
      rcases List.mem_append.mp hz with h | h
      · exact lwB z h
      · exact (by decide : ∀ z ∈ EX, LW z) z h
    -- the errors
    refine ⟨(by show 5 ≤ sizeLine; decide), fun p3 np3 => ?_⟩
    have s6 := same_upd (o := .lst [.str "E", .str "GUARD", .str "LOST", .str "EE", .str "ZZZZZZZZ"]) np3
    have at3 : upd H4 p3 (.lst [.str "E", .str "GUARD", .str "LOST", .str "EE", .str "ZZZZZZZZ"]) p3 = some (.lst (Five.map V.str)) := upd_same
    have ne3 := new_ne w5 np3
    have bE := bD.trans (But.of s6)
    have bE1 := bD1.trans (But.of s6)
    have w6 := well_same s6 w5
    have hC6 := s6 _ _ hC
    generalize upd H4 p3 _ = H5 at bE bE1 w6 hC6 at3 ⊢
    refine ⟨_, rfl, l, _, rfl, w6, by decide, by decide, fun r1 o1 g3 g4 w7 => ?_⟩
    refine ⟨r1, rfl, p3, _, rfl, .of (by rw [upd_ne ne3]; exact at3), fun p4 np4 => ?_⟩
    obtain ⟨es1, ee1, sub1⟩ := cut_sub Five (some r1) none
    rw [ee1]
    refine ⟨2, rfl, p4, _, rfl, .of upd_same, fun E0 nE => ?_⟩
    obtain ⟨er, ee2, sub2⟩ := cut_sub es1 none (some 2)
    rw [ee2]
    have er2 : er.length ≤ 2 := by
      have h := cut2_len (es1.map V.str)
      rw [ee2, List.length_map] at h
      exact h
    have ero : ErOk er := ⟨er2, fun z hz => (five_ok z (sub1.subset (sub2.subset hz))).1, fun z hz => (five_ok z (sub1.subset (sub2.subset hz))).2⟩
    have s8 := same_upd (o := .lst (es1.map V.str)) np4
    have s9 := same_upd (o := .lst (er.map V.str)) nE
    have bF := ((bE.trans But.upd).trans (But.of s8)).trans (But.of s9)
    have bF1 := ((bE1.trans But.upd).trans (But.of s8)).trans (But.of s9)
    have w8 := well_same s9 (well_same s8 w7)
    have neE := new_ne (well_same s8 w7) nE
    have hC8 := s9 _ _ (s8 _ _ (show upd H5 l o1 C0 = _ by rw [upd_ne neC]; exact hC6))
    have hE8 : upd (upd (upd H5 l o1) p4 (.lst (es1.map V.str))) E0 (.lst (er.map V.str)) E0 = some (.lst (er.map V.str)) := upd_same
    generalize upd (upd (upd H5 l o1) p4 _) E0 _ = H6 at bF bF1 w8 hC8 hE8 ⊢
    clear s8 s9 nE np4 bE bE1 w7 np3 at3 s6
    have hA6 := bF1 _ _ nAl hA
    -- the kinds
    refine ⟨_, rfl, A0, rfl, ⟨_, .of hA6⟩, fun D hD => ?_⟩
    have ls := LSt.start (xs := []) w8 hD
    have atD : upd H6 D (.lst []) D = some (.lst []) := upd_same
    have b0 : But l H6 (upd H6 D (.lst [])) := But.of (same_upd hD)
    obtain ⟨B, hB0⟩ : ∃ B, upd H6 D (.lst []) = B := ⟨_, rfl⟩
    rw [hB0] at ls atD b0
    have wB : Well B l := ls.well
    refine lc_it (walk_list (xs := ws.map V.str)) (fun i H' => ∃ (ks : List V) (krs : List KR), LSt l D ks H6 H' ∧ But l B (upd H' D (.lst [])) ∧ Paired (KRAt K (nw B H')) ks krs ∧ (∀ k ∈ krs, KROk (us ++ EX) er k) ∧ krs.length = i) ⟨[], [], by rw [hB0]; exact ls, ?_, .nil, (fun _ h => nomatch h), rfl⟩ (fun i H' _ ⟨_, _, h, _⟩ => .of (h.but _ _ nAl hA6)) ?_ ?_
    · rw [← hB0]
      intro b o ne e
      by_cases c : b = D
      · rw [c, upd_same] at e ⊢; exact e
      · rw [upd_ne c] at e ⊢; rw [upd_ne c]; exact e
    · rintro i y G1 G2 hi ⟨ks, krs, ls1, bb, pk, ok, lk⟩ ⟨rfl, hy⟩
      obtain ⟨z, hz, rfl⟩ : ∃ z, ws[i]? = some z ∧ y = V.str z := by
        rw [List.getElem?_map] at hy
        obtain ⟨z, h1, h2⟩ := Option.map_eq_some_iff.mp hy
        exact ⟨z, h1, h2.symm⟩
      have in_ : i < ws.length := (List.getElem?_eq_some_iff.mp hz).1
      refine ⟨rfl, _, rfl, _, rfl, _, rfl, _, rfl, _, rfl, l, C0, E0, z, us ++ EX, er, size, rfl, ls1.well, .of (ls1.but _ _ neC hC8), neC, ls1.but _ _ neE hE8, neE, er2, ero.lay, s0, s4, by rw [List.length_append, lB]; show 1 + k0 + 2 ≤ 10; omega, fun G3 v st S es kvs mv b3 w9 so ok3 => ?_⟩
      have ls3 := ls1.on b3 w9
      refine ⟨ks, ls3.at_, ?_, ks ++ [v], krs ++ [⟨z, st, es, S, kvs, mv⟩], ls3.add, ?_, paired_append ?_ (.cons ?_ .nil), ?_, by rw [List.length_append, lk]; rfl⟩
      · rw [PySem.Paired.length pk, lk]
        exact Nat.lt_of_lt_of_le (by omega : i < 20) (by decide)
      · intro c o ne e
        by_cases h : c = D
        · rw [h, upd_same]
          rw [h, atD] at e
          exact e
        · rw [upd_ne h, upd_ne h]
          have h1 := bb c o ne e
          rw [upd_ne h] at h1
          exact b3 c o ne h1
      · rw [nw_upd atD]
        exact L2.Paired.mapP pk fun _ _ h => SortAt.up (nw_but wB b3) h
      · rw [nw_upd atD]
        refine SortAt.up (fun c o e => ?_) so
        obtain ⟨g1, g2⟩ := nw_of e
        have cD : c ≠ D := fun h => by rw [h, ls1.at_] at g1; cases g1
        have cl : c ≠ l := new_ne ls1.well g1
        have : B c = none := by
          cases h : B c with
          | none => rfl
          | some u =>
            have h1 := bb c u cl h
            rw [upd_ne cD, g1] at h1
            cases h1
        rw [nw_none this]
        exact g2
      · intro k hk
        rcases List.mem_append.mp hk with h | h
        · exact ok k h
        · rw [List.mem_singleton.mp h]
          exact ⟨lwA z (List.mem_of_getElem? hz), ok3⟩
    · rintro G1 ⟨ks, krs, ls1, bb, pk, ok, lk⟩
      rw [List.length_map, lA] at lk
      refine ⟨_, rfl, _, rfl, _, rfl, (by show 3 ≤ sizeLine; decide), fun t0 nt0 => ?_⟩
      have s10 := same_upd (o := .tup [.ref D, .ref C0, .ref E0]) nt0
      have bZ : But l H6 (upd G1 t0 (.tup [.ref D, .ref C0, .ref E0])) := ls1.but.trans (But.of s10)
      refine q _ t0 D C0 E0 ks krs (us ++ EX) er (bF.trans bZ) (well_same s10 ls1.well) upd_same (s10 _ _ ls1.at_) ls1.ne (L2.Paired.mapP pk fun _ _ h => SortAt.up (fun c o e => del_same_of s10 _ _ (nw_del wB c o e)) h) ok lk (bZ _ _ neC hC8) neC ?_ ?_ lwM (bZ _ _ neE hE8) neE ero
      · rw [List.length_append]
        show 1 ≤ us.length + 2
        omega
      · rw [List.length_append, lB]
        show 1 + k0 + 2 ≤ 4
        omega
end
end Q9
end
-- QFit
section
set_option maxRecDepth 100000
set_option maxHeartbeats 4000000
namespace Q9
open PySem L2
theorem no_yes : wordB "no" = true ∧ wordB "yes" = true ∧ PyData.canLay0 (.str "no") = true ∧ PyData.canLay0 (.str "yes") = true := by decide +kernel
theorem w_ok {er : List Str} (h : ErOk er) : ∀ z ∈ (("no" : Str) :: "yes" :: er), wordB z = true ∧ PyData.canLay0 (.str z) = true := fun z hz => by
  rcases List.mem_cons.mp hz with rfl | hz
  · exact ⟨no_yes.1, no_yes.2.2.1⟩
  · rcases List.mem_cons.mp hz with rfl | hz
    · exact ⟨no_yes.2.1, no_yes.2.2.2⟩
    · exact ⟨h.word z hz, h.lay z hz⟩
theorem st_in {S ms W : List Str} {st : Str} {es : List Str} {mv : Mv} (h : SortOk S ms W st es mv) : st ∈ S := List.mem_of_mem_head? (Option.mem_def.mpr h.head)
theorem states_sub {S ms W : List Str} {st : Str} {es : List Str} {mv : Mv} (h : SortOk S ms W st es mv) : ∀ z ∈ statesIn st es mv, z ∈ S := fun z hz => by
  rcases mem_states.mp hz with rfl | hz | ⟨e, h1, hz⟩
  · exact st_in h
  · exact h.ends.subset hz
  · rcases hz with rfl | ⟨o, h2, rfl⟩
    · exact (h.ok e h1).1
    · exact ((h.ok e h1).2.2.2.2 o h2).2
theorem methods_sub {S ms W : List Str} {st : Str} {es : List Str} {mv : Mv} (h : SortOk S ms W st es mv) : ∀ z ∈ methodsIn mv, z ∈ ms := fun z hz => by
  obtain ⟨e, h1, rfl⟩ := List.mem_map.mp hz
  exact (h.ok e h1).2.1
theorem words_sub {S ms W : List Str} {st : Str} {es : List Str} {mv : Mv} (h : SortOk S ms W st es mv) : ∀ z ∈ wordsIn mv, z ∈ W := fun z hz => by
  obtain ⟨e, h1, h2⟩ := List.mem_flatMap.mp hz
  obtain ⟨o, h3, rfl⟩ := List.mem_map.mp h2
  exact ((h.ok e h1).2.2.2.2 o h3).1
theorem flat_len {α β : Type} {f : α → List β} {c : Nat} : ∀ {l : List α}, (∀ x ∈ l, (f x).length ≤ c) → (l.flatMap f).length ≤ c * l.length
  | [], _ => Nat.zero_le _
  | x :: l, h => by
    have ih := flat_len (l := l) fun y hy => h y (List.mem_cons_of_mem _ hy)
    have h1 := h x List.mem_cons_self
    rw [List.flatMap_cons, List.length_append, List.length_cons, Nat.mul_succ]
    omega
theorem fit_of {ms er : List Str} {k : KR} (ok : KROk ms er k) (ero : ErOk er) (hm : ∀ z ∈ ms, LW z) (ml : ms.length ≤ 4) : RightParts k.nm k.st k.es k.mv ∧ Small k.st k.es k.mv ∧ Fits k.st k.es k.mv := by
  obtain ⟨nm, h⟩ := ok
  have lenM : k.mv.length ≤ 16 := Nat.le_trans h.len (Nat.mul_le_mul h.few ml)
  have lenE : k.es.length ≤ 4 := Nat.le_trans h.ends.length_le h.few
  refine ⟨⟨name_of nm, name_of (h.lw _ (st_in h)), fun z hz => name_of (h.lw z (h.ends.subset hz)), h.ends.nodup h.nd, fun e he => ⟨name_of (h.lw _ (h.ok e he).1), name_of (hm _ (h.ok e he).2.1)⟩, fun e he o ho => ⟨(w_ok ero _ ((h.ok e he).2.2.2.2 o ho).1).1, name_of (h.lw _ ((h.ok e he).2.2.2.2 o ho).2)⟩, fun e he => (h.ok e he).2.2.1⟩,
    ⟨?_, few_sub (states_sub h) (Nat.lt_of_le_of_lt (Nat.succ_le_succ h.few) (by decide)), few_sub (methods_sub h) (Nat.lt_of_le_of_lt (Nat.succ_le_succ ml) (by decide)), few_sub (words_sub h) ?_⟩,
    fun e he => Nat.le_trans (h.ok e he).2.2.2.1 (by decide), fun ys nd sub => ?_, fun zs nd sub => ?_⟩
  · have h1 : (k.mv.flatMap fun e => e.1.1 :: e.2.map (·.2)).length ≤ 4 * k.mv.length := flat_len fun e he => by
      rw [List.length_cons, List.length_map]
      exact Nat.succ_le_succ (h.ok e he).2.2.2.1
    unfold statesIn
    rw [List.length_append, List.length_cons]
    omega
  · have := ero.few
    show er.length + 1 + 1 + 1 < 4096
    omega
  · exact Nat.le_trans (nodup_le ys k.S nd fun z hz => states_sub h z (sub z hz)) (Nat.le_trans h.few (by decide))
  · exact Nat.le_trans (nodup_le zs ms nd fun z hz => methods_sub h z (sub z hz)) (Nat.le_trans ml (by decide))
end Q9
end
-- QOddK
section
set_option maxRecDepth 100000
set_option maxHeartbeats 4000000
namespace Q9
open PySem L2
/-! what is no row of moves, or too great: as data, and as what Kind refuses -/
def OddG (K : PySem.W.Frag) (H : Hp) (sm : Str) (es : List Str) (v : V) : Prop := BadAll K H sm es v ∨
  ∃ (m : Addr) (kvs : List (List Key × V)) (mv : Mv), v = .ref m ∧ H m = some (.dT kvs) ∧ MovesG K H kvs mv ∧ (∀ nm, nameB nm = true → RightParts nm sm es mv) ∧ Small sm es mv ∧ ¬ Fits sm es mv
structure Tell (K : PySem.W.Frag) (H : Hp) (sm : Str) (es : List Str) (v : V) : Prop where
  bad : OddG K H sm es v
  data : ∃ d, Dy H v d ∧ Sh 20000 8 d
theorem Tell.up {K : PySem.W.Frag} {H H' : Hp} {sm : Str} {es : List Str} {v : V} (s : Same H H') (h : Tell K H sm es v) : Tell K H' sm es v := by
  obtain ⟨b, d, h1, h2⟩ := h
  refine ⟨?_, d, dy_up s h1, h2⟩
  rcases b with b | ⟨m, kvs, mv, e, hm, M, r⟩
  · exact .inl (badAll_up s b)
  · exact .inr ⟨m, kvs, mv, e, s _ _ hm, movesG_up s M, r⟩
/-- a short text -/
def SmS (z : Str) : Prop := z.cps.size ≤ 9 ∧ (z.cps.toList.all fun c => decide (c < 16 ^ 8)) = true
instance (z : Str) : Decidable (SmS z) := by unfold SmS; infer_instance
theorem sms_len {z : Str} (h : SmS z) : z.length ≤ sizeLine := Nat.le_trans (show z.cps.size ≤ 9 from h.1) (by decide)
theorem lw_sms {z : Str} (h : LW z) : SmS z := ⟨Nat.le_trans (lw_size h) (by decide), lw_fit h⟩
theorem sh_sms {z : Str} {k : Nat} (h : SmS z) : Sh 9 k (.str z) := ⟨by rw [PyData.showable], by rw [PyData.leavesShort]; exact h.2, by rw [PyData.depth]; exact Nat.zero_le _, by rw [PyData.weight]; exact h.1⟩
/-- the drawn kind's parts -/
structure DrK (B : Hp) (st : Str) (es S ms W : List Str) (kvs : List (List Key × V)) (mv : Mv) : Prop where
  lm : LM B kvs mv
  ok : SortOk S ms W st es mv
  w : ∀ z ∈ W, wordB z = true ∧ SmS z
  m : ∀ z ∈ ms, LW z
  few : ms.length ≤ 4
theorem DrK.up {B B' : Hp} {st : Str} {es S ms W : List Str} {kvs : List (List Key × V)} {mv : Mv} (s : Same B B') (h : DrK B st es S ms W kvs mv) : DrK B' st es S ms W kvs mv := ⟨h.lm.up s, h.ok, h.w, h.m, h.few⟩
section
variable {K : PySem.W.Frag} {B : Hp} {st : Str} {es S ms W : List Str} {kvs : List (List Key × V)} {mv : Mv}
theorem DrK.len (h : DrK B st es S ms W kvs mv) : mv.length ≤ 16 := Nat.le_trans h.ok.len (Nat.mul_le_mul h.ok.few h.few)
theorem DrK.lenE (h : DrK B st es S ms W kvs mv) : es.length ≤ 4 := Nat.le_trans h.ok.ends.length_le h.ok.few
theorem DrK.st_lw (h : DrK B st es S ms W kvs mv) : LW st := h.ok.lw _ (st_in h.ok)
theorem DrK.es_lw (h : DrK B st es S ms W kvs mv) : ∀ z ∈ es, LW z := fun z hz => h.ok.lw z (h.ok.ends.subset hz)
theorem DrK.outs (h : DrK B st es S ms W kvs mv) {e : (Str × Str) × List (Str × Str)} (he : e ∈ mv) : LW e.1.1 ∧ LW e.1.2 ∧ e.2.length ≤ 3 ∧ e.2.Nodup ∧ ∀ o ∈ e.2, wordB o.1 = true ∧ SmS o.1 ∧ LW o.2 := by
  obtain ⟨h1, h2, h3, h4, h5⟩ := h.ok.ok e he
  exact ⟨h.ok.lw _ h1, h.m _ h2, h4, h3, fun o ho => ⟨(h.w _ (h5 o ho).1).1, (h.w _ (h5 o ho).1).2, h.ok.lw _ (h5 o ho).2⟩⟩
/-- few moves are small -/
theorem small_of {st : Str} {es : List Str} {mv : Mv} (he : es.length ≤ 4) (hm : mv.length ≤ 20) (ho : ∀ e ∈ mv, e.2.length ≤ 9) : Small st es mv := by
  have h1 : (mv.flatMap fun e => e.1.1 :: e.2.map (·.2)).length ≤ 10 * mv.length := flat_len fun e he => by
    rw [List.length_cons, List.length_map]
    exact Nat.succ_le_succ (ho e he)
  have h2 : (wordsIn mv).length ≤ 9 * mv.length := flat_len fun e he => by
    rw [List.length_map]
    exact ho e he
  have h3 : (statesIn st es mv).length ≤ 300 := by
    unfold statesIn
    rw [List.length_append, List.length_cons]
    omega
  refine ⟨by omega, few_sub (fun z h => h) (Nat.lt_of_le_of_lt (Nat.succ_le_succ h3) (by decide)), few_sub (l' := methodsIn mv) (fun z h => h) ?_, few_sub (fun z h => h) (Nat.lt_of_le_of_lt (Nat.succ_le_succ (Nat.le_trans h2 (Nat.mul_le_mul_left 9 hm))) (by decide))⟩
  unfold methodsIn
  rw [List.length_map]
  exact Nat.lt_of_le_of_lt (Nat.succ_le_succ hm) (by decide)
theorem len_putM (mv : Mv) (k : Str × Str) (os : List (Str × Str)) : (putM mv k os).length ≤ mv.length + 1 := by
  unfold putM
  split
  · rw [List.length_map]; omega
  · rw [List.length_append]; exact Nat.le_refl _
theorem put_self (mv : Mv) (k : Str × Str) (os : List (Str × Str)) : (k, os) ∈ putM mv k os := by
  unfold putM
  split
  · rename_i h
    obtain ⟨e, h1, h2⟩ := List.any_eq_true.mp h
    have h2 := of_decide_eq_true h2
    exact List.mem_map.mpr ⟨e, h1, by rw [if_pos h2, h2]⟩
  · exact List.mem_append_right _ List.mem_cons_self
/-- a value put under a key: what is told of all values -/
theorem put_paired {β : Type} {F : V → β → Prop} {kvs : List (List Key × V)} {bs : List β} (p : Paired (fun (kv : List Key × V) b => F kv.2 b) kvs bs) (k : List Key) (v : V) (b : β) (h : F v b) :
    ∃ bs', Paired (fun (kv : List Key × V) b => F kv.2 b) (putK kvs k v) bs' ∧ b ∈ bs' ∧ ∀ x ∈ bs', x ∈ bs ∨ x = b := by
  unfold putK
  by_cases c : (kvs.any fun kv => decide (kv.1 = k)) = true
  · rw [if_pos c]
    have key : ∀ {l : List (List Key × V)} {m : List β}, Paired (fun (kv : List Key × V) b => F kv.2 b) l m → ∃ m', Paired (fun (kv : List Key × V) b => F kv.2 b) (l.map fun kv => if kv.1 = k then (kv.1, v) else kv) m' ∧ ((l.any fun kv => decide (kv.1 = k)) = true → b ∈ m') ∧ ∀ x ∈ m', x ∈ m ∨ x = b := by
      intro l m p
      induction p with
      | nil => exact ⟨[], .nil, fun z => (nomatch z), fun x hx => (nomatch hx)⟩
      | @cons kv y l m h1 t ih =>
        obtain ⟨m', q1, q2, q3⟩ := ih
        by_cases z : kv.1 = k
        · refine ⟨b :: m', .cons ?_ q1, fun _ => List.mem_cons_self, fun x hx => ?_⟩
          · show F (if kv.1 = k then (kv.1, v) else kv).2 b
            rw [if_pos z]
            exact h
          · rcases List.mem_cons.mp hx with rfl | hx
            · exact .inr rfl
            · exact (q3 x hx).imp (List.mem_cons_of_mem _) id
        · refine ⟨y :: m', .cons ?_ q1, fun w => ?_, fun x hx => ?_⟩
          · show F (if kv.1 = k then (kv.1, v) else kv).2 y
            rw [if_neg z]
            exact h1
          · rw [List.any_cons, decide_eq_false z, Bool.false_or] at w
            exact List.mem_cons_of_mem _ (q2 w)
          · rcases List.mem_cons.mp hx with rfl | hx
            · exact .inl List.mem_cons_self
            · exact (q3 x hx).imp (List.mem_cons_of_mem _) id
    obtain ⟨m', q1, q2, q3⟩ := key p
    exact ⟨m', q1, q2 c, q3⟩
  · rw [if_neg c]
    refine ⟨bs ++ [b], paired_append p (.cons h .nil), List.mem_append_right _ List.mem_cons_self, fun x hx => ?_⟩
    rcases List.mem_append.mp hx with hx | hx
    · exact .inl hx
    · exact .inr (List.mem_singleton.mp hx)
theorem put_keys (kvs : List (List Key × V)) (k : List Key) (v : V) : ∀ x ∈ putK kvs k v, x.1 = k ∨ ∃ y ∈ kvs, y.1 = x.1 := by
  intro x hx
  unfold putK at hx
  split at hx
  · obtain ⟨y, h1, h2⟩ := List.mem_map.mp hx
    by_cases z : y.1 = k
    · rw [if_pos z] at h2
      exact .inl (by rw [← h2]; exact z)
    · rw [if_neg z] at h2
      exact .inr ⟨y, h1, by rw [h2]⟩
  · rcases List.mem_append.mp hx with hx | hx
    · exact .inr ⟨x, hx, rfl⟩
    · exact .inl (by rw [List.mem_singleton.mp hx])
theorem put_nd {kvs : List (List Key × V)} (nd : (kvs.map (·.1)).Nodup) (k : List Key) (v : V) : ((putK kvs k v).map (·.1)).Nodup := by
  unfold putK
  by_cases c : (kvs.any fun kv => decide (kv.1 = k)) = true
  · rw [if_pos c, List.map_map]
    have e : ((fun x : List Key × V => x.1) ∘ fun kv => if kv.1 = k then (kv.1, v) else kv) = fun x => x.1 := by
      funext x
      show (if x.1 = k then (x.1, v) else x).1 = x.1
      split <;> rfl
    rw [e]
    exact nd
  · rw [if_neg c, List.map_append]
    refine List.nodup_append.mpr ⟨nd, List.nodup_cons.mpr ⟨fun z => (nomatch z), List.nodup_nil⟩, fun a ha b hb z => c ?_⟩
    obtain ⟨y, h1, h2⟩ := List.mem_map.mp ha
    have hb : b = k := List.mem_singleton.mp hb
    exact List.any_eq_true.mpr ⟨y, h1, decide_eq_true (by rw [h2, z, hb])⟩
theorem lm_two (M : LM B kvs mv) : ∀ kv ∈ kvs, ∃ e ∈ mv, kv.1 = [kInr e.1.1, kInr e.1.2] := fun kv hk => by
  obtain ⟨i, hi⟩ := List.mem_iff_getElem?.mp hk
  obtain ⟨e, h1, h2, _⟩ := paired_at M.ent i kv hi
  exact ⟨e, List.mem_of_getElem? h1, h2⟩
theorem lm_put (M : LM B kvs mv) {a b : Str} {v : V} {os : List (Str × Str)} (o : OutsG K B v os) : MovesG K B (putK kvs [kInr a, kInr b] v) (putM mv (a, b) os) := by
  have ea := ent_any (M.moves (K := K)).ent a b
  have MG := (M.moves (K := K)).g
  refine ⟨put_nd M.nd _ _, ?_⟩
  unfold putK putM
  by_cases c : (kvs.any fun kv => decide (kv.1 = [kInr a, kInr b])) = true
  · rw [if_pos c, if_pos (ea ▸ c)]
    have key : ∀ {l : List (List Key × V)} {m : Mv}, Paired (EntG K B) l m → Paired (EntG K B) (l.map fun kv => if kv.1 = [kInr a, kInr b] then (kv.1, v) else kv) (m.map fun e => if e.1 = (a, b) then (e.1, os) else e) := by
      intro l m p
      induction p with
      | nil => exact .nil
      | @cons kv e l m h t ih =>
        refine .cons ?_ ih
        show EntG K B (if kv.1 = [kInr a, kInr b] then (kv.1, v) else kv) (if e.1 = (a, b) then (e.1, os) else e)
        by_cases z : e.1 = (a, b)
        · have z' : kv.1 = [kInr a, kInr b] := by rw [h.1, z]
          rw [if_pos z', if_pos z]
          exact ⟨h.1, o⟩
        · have z' : ¬ kv.1 = [kInr a, kInr b] := fun y => by
            rw [h.1] at y
            simp only [List.cons.injEq, Sum.inr.injEq, and_true] at y
            exact z (Prod.ext y.1 y.2)
          rw [if_neg z', if_neg z]
          exact h
    exact key MG.ent
  · rw [if_neg c, if_neg (ea ▸ c)]
    exact paired_append MG.ent (.cons ⟨rfl, o⟩ .nil)
/-! the values -/
theorem lrow_data {v : V} {os : List (Str × Str)} (h : LRow B v os) (n : os.length ≤ 9) (sm : ∀ o ∈ os, SmS o.1 ∧ SmS o.2) : ∃ d, Dy B v d ∧ Sh 300 3 d := by
  obtain ⟨a, us, rfl, ha, p⟩ := h
  have key : ∀ {us : List Addr} {os : List (Str × Str)}, Ps B us os → DyAll B (us.map V.ref) (os.map fun o => PyData.tuple [.str o.1, .str o.2]) := by
    intro us os p
    induction p with
    | nil => exact .nil
    | cons h t ih => exact .cons (.tup h (.cons (.str _) (.cons (.str _) .nil))) ih
  refine ⟨_, .lst ha (key p), sh_lst ((shA_all (n := 20) (k := 2) fun d hd => ?_).le ?_ (Nat.le_refl _))⟩
  · obtain ⟨o, ho, rfl⟩ := List.mem_map.mp hd
    exact (sh_tup (shA_cons (sh_sms (sm o ho).1) (shA_cons (sh_sms (sm o ho).2) (shA_nil (n := 0))))).le (by omega) (by omega : 0 + 1 ≤ 2)
  · rw [List.length_map]
    omega
theorem lm_data (h : DrK B st es S ms W kvs mv) : ∃ ds : List PyData, Paired (fun (kv : List Key × V) d => Dy B kv.2 d ∧ Sh 300 3 d) kvs ds := by
  have sm : ∀ e ∈ mv, e.2.length ≤ 3 ∧ ∀ o ∈ e.2, SmS o.1 ∧ SmS o.2 := fun e he => ⟨(h.outs he).2.2.1, fun o ho => ⟨((h.outs he).2.2.2.2 o ho).2.1, lw_sms ((h.outs he).2.2.2.2 o ho).2.2⟩⟩
  have p := h.lm.ent
  clear h
  induction p with
  | nil => exact ⟨[], .nil⟩
  | @cons kv e l m h1 t ih =>
    obtain ⟨ds, q⟩ := ih fun e he => sm e (List.mem_cons_of_mem _ he)
    obtain ⟨d, hd⟩ := lrow_data h1.2 (Nat.le_trans (sm e List.mem_cons_self).1 (by omega)) (sm e List.mem_cons_self).2
    exact ⟨d :: ds, .cons hd q⟩
theorem paired_dy {kvs : List (List Key × V)} {ds : List PyData} (p : Paired (fun (kv : List Key × V) d => Dy B kv.2 d ∧ Sh 300 3 d) kvs ds) : DyAll B (kvs.map (·.2)) ds ∧ ∀ d ∈ ds, Sh 300 3 d := by
  induction p with
  | nil => exact ⟨.nil, fun d hd => (nomatch hd)⟩
  | @cons kv d l m h t ih =>
    refine ⟨.cons h.1 ih.1, fun x hx => ?_⟩
    rcases List.mem_cons.mp hx with rfl | hx
    · exact h.2
    · exact ih.2 x hx
/-- a dict of pairs of texts, as data -/
theorem dT_data {p : Addr} {kvs : List (List Key × V)} {ds : List PyData} (hp : B p = some (.dT kvs)) (pd : Paired (fun (kv : List Key × V) d => Dy B kv.2 d ∧ Sh 300 3 d) kvs ds) (few : kvs.length ≤ 20)
    (hk : ∀ kv ∈ kvs, ∃ a b, kv.1 = [kInr a, kInr b] ∧ SmS a ∧ SmS b) : ∃ d, Dy B (.ref p) d ∧ Sh 20000 8 d := by
  obtain ⟨h1, h2⟩ := paired_dy pd
  have l := PySem.Paired.length pd
  refine ⟨_, .dT hp h1, (sh_dct (k := 4) ((shA_all (n := 30) (k := 4) fun d hd => ?_)) ((shA_all (n := 300) (k := 4) fun d hd => (h2 d hd).le (by omega) (by omega)))).le ?_ (by omega)⟩
  · obtain ⟨kv, hkv, rfl⟩ := List.mem_map.mp hd
    obtain ⟨a, b, e, sa, sb⟩ := hk kv hkv
    rw [e]
    exact (sh_tup (shA_cons (sh_sms sa) (shA_cons (sh_sms sb) (shA_nil (n := 0))))).le (by omega) (by omega : 0 + 1 ≤ 4)
  · rw [List.length_map, ← l]
    omega
/-! the value under one key -/
inductive RowBad (K : PySem.W.Frag) (B : Hp) (a b : Str) (r : V) : Prop
  | odd : RowOdd K B r true → RowBad K B a b r
  | pair {bs : List Bool} : RowW K B r bs → false ∈ bs → bs.length ≤ 8 → RowBad K B a b r
  | word {os : List (Str × Str)} : OutsG K B r os → os.length ≤ 3 → (∀ o ∈ os, SmS o.1 ∧ SmS o.2) → (nameB a = false ∨ nameB b = false ∨ ∃ o ∈ os, wordB o.1 = false ∨ nameB o.2 = false) → RowBad K B a b r
  | twice {os : List (Str × Str)} : OutsG K B r os → os.length ≤ 3 → (∀ o ∈ os, wordB o.1 = true ∧ nameB o.2 = true) → nameB a = true → nameB b = true → ¬ os.Nodup → RowBad K B a b r
theorem yes_less : ∀ {bs : List Bool}, false ∈ bs → yesN bs < bs.length
  | b :: bs, h => by
    have e := yesN_append [b] bs
    rw [List.singleton_append, yesN_one] at e
    rw [e, List.length_cons]
    rcases List.mem_cons.mp h with h | h
    · rw [← h]
      have := yesN_le bs
      simp only [Bool.false_eq_true, if_false]
      omega
    · have := yes_less h
      split <;> omega
theorem flat_le : ∀ {bss : List (List Bool)}, (∀ bs ∈ bss, bs.length ≤ 8) → bss.flatten.length ≤ 8 * bss.length
  | [], _ => Nat.zero_le _
  | bs :: bss, h => by
    have ih := flat_le (bss := bss) fun x hx => h x (List.mem_cons_of_mem _ hx)
    have := h bs List.mem_cons_self
    rw [List.flatten_cons, List.length_append, List.length_cons, Nat.mul_succ]
    omega
theorem lrow_w {v : V} {os : List (Str × Str)} (h : LRow B v os) : RowW K B v (List.replicate os.length true) := by
  obtain ⟨a, us, rfl, ha, p⟩ := h
  refine ⟨us.map V.ref, ⟨a, rfl, .inl (.of ha)⟩, ?_⟩
  clear ha
  induction p with
  | nil => exact .nil
  | @cons u o l m h t ih => exact .cons (.inl ⟨⟨_, .base (.tup h), kit_ty (by decide +kernel)⟩, .inr (.inr ⟨u, _, _, true, true, rfl, .of h, ⟨_, .base (.str _), kit_ty (by decide +kernel)⟩, ⟨_, .base (.str _), kit_ty (by decide +kernel)⟩, rfl⟩)⟩) ih
theorem lrow_odd {v : V} {os : List (Str × Str)} (h : LRow B v os) (n : os.length ≤ 8) : RowOdd K B v false := by
  obtain ⟨a, us, rfl, ha, p⟩ := h
  have l := PySem.Paired.length p
  refine .inr ⟨us.map V.ref, ⟨a, rfl, .inl (.of ha)⟩, ?_, ?_⟩
  · rw [List.length_map, l]; exact Nat.le_trans n (by decide)
  · rw [List.length_map, l]; exact (decide_eq_false (by omega)).symm
theorem lm_odd {kvs : List (List Key × V)} {mv : Mv} (q : Paired (LEnt B) kvs mv) : (∀ e ∈ mv, e.2.length ≤ 3) → ∃ bs : List Bool, Paired (fun (kv : List Key × V) b => RowOdd K B kv.2 b) kvs bs := by
  induction q with
  | nil => exact fun _ => ⟨[], .nil⟩
  | @cons kv e l m h1 t ih =>
    intro ho
    obtain ⟨bs, q⟩ := ih fun e he => ho e (List.mem_cons_of_mem _ he)
    exact ⟨false :: bs, .cons (lrow_odd h1.2 (Nat.le_trans (ho e List.mem_cons_self) (by omega))) q⟩
theorem lm_w {kvs : List (List Key × V)} {mv : Mv} (q : Paired (LEnt B) kvs mv) : (∀ e ∈ mv, e.2.length ≤ 3) → ∃ bss : List (List Bool), Paired (fun (kv : List Key × V) b => RowW K B kv.2 b) kvs bss ∧ ∀ bs ∈ bss, bs.length ≤ 8 := by
  induction q with
  | nil => exact fun _ => ⟨[], .nil, fun x hx => (nomatch hx)⟩
  | @cons kv e l m h1 t ih =>
    intro ho
    obtain ⟨bss, q, q2⟩ := ih fun e he => ho e (List.mem_cons_of_mem _ he)
    refine ⟨List.replicate e.2.length true :: bss, .cons (lrow_w h1.2) q, fun x hx => ?_⟩
    rcases List.mem_cons.mp hx with rfl | hx
    · rw [List.length_replicate]
      exact Nat.le_trans (ho e List.mem_cons_self) (by omega)
    · exact q2 x hx
/-- a dict whose value under one key is none -/
theorem tell_put (h : DrK B st es S ms W kvs mv) {p : Addr} {a b : Str} {r : V} {dr : PyData} (hp : B p = none) (sa : SmS a) (sb : SmS b) (dat : Dy B r dr) (sh : Sh 300 3 dr) (bad : RowBad K B a b r) :
    Tell K (upd B p (.dT (putK kvs [kInr a, kInr b] r))) st es (.ref p) := by
  have s := same_upd (o := .dT (putK kvs [kInr a, kInr b] r)) hp
  have sd : Same B (del (upd B p (.dT (putK kvs [kInr a, kInr b] r))) p) := fun x o e => by
    rw [del_ne (ne_of_none e hp)]
    exact s _ _ e
  have len := h.len
  have lk : kvs.length = mv.length := PySem.Paired.length h.lm.ent
  have few : (putK kvs [kInr a, kInr b] r).length ≤ 17 := by have := length_putK kvs [kInr a, kInr b] r; omega
  have lE := h.lenE
  have keys : ∀ kv ∈ putK kvs [kInr a, kInr b] r, ∃ a b, kv.1 = [kInr a, kInr b] ∧ SmS a ∧ SmS b := fun kv hk => by
    rcases put_keys _ _ _ kv hk with e | ⟨y, hy, e⟩
    · exact ⟨a, b, e, sa, sb⟩
    · obtain ⟨f, hf, e2⟩ := lm_two h.lm y hy
      exact ⟨f.1.1, f.1.2, by rw [← e, e2], lw_sms (h.outs hf).1, lw_sms (h.outs hf).2.1⟩
  have two : ∀ kv ∈ putK kvs [kInr a, kInr b] r, TwoT kv.1 := fun kv hk => by
    obtain ⟨a, b, e, _⟩ := keys kv hk
    exact ⟨a, b, e⟩
  have nd := put_nd h.lm.nd [kInr a, kInr b] r
  refine ⟨.inl ?_, ?_⟩
  · cases bad with
    | odd o =>
      have p0 := lm_odd (K := K) h.lm.ent fun e he => (h.outs he).2.2.1
      obtain ⟨bs, q⟩ := p0
      obtain ⟨bs', q1, q2, _⟩ := put_paired q [kInr a, kInr b] r true o
      exact .inl (.inl (.inr ⟨p, _, bs', rfl, upd_same, two, L2.Paired.mapP q1 fun _ _ z => rowOdd_up sd z, Nat.le_trans few (by decide), List.any_eq_true.mpr ⟨true, q2, rfl⟩⟩))
    | @pair bs o no l8 =>
      have p0 := lm_w (K := K) h.lm.ent fun e he => (h.outs he).2.2.1
      obtain ⟨bss, q, e8⟩ := p0
      obtain ⟨bss', q1, q2, q3⟩ := put_paired q [kInr a, kInr b] r bs o
      have e8' : ∀ x ∈ bss', x.length ≤ 8 := fun x hx => by
        rcases q3 x hx with z | rfl
        · exact e8 x z
        · exact l8
      have fl := flat_le e8'
      have l2 := PySem.Paired.length q1
      refine .inl (.inr ⟨p, _, bss', rfl, upd_same, nd, two, L2.Paired.mapP q1 fun _ _ ⟨us, row, its⟩ => ⟨us, row_up sd row, L2.Paired.mapP its fun _ _ z => ?_⟩, Nat.le_trans few (by decide), e8', by omega, yes_less (List.mem_flatten.mpr ⟨bs, q2, no⟩)⟩)
      rcases z with ⟨o, k⟩ | ⟨q2, us2, e, sq, ku⟩
      · exact .inl ⟨ofTy_up sd o, keyB_up sd k⟩
      · refine .inr ⟨q2, us2, e, sqL_up (Q9.Same.sq sd) sq, ?_⟩
        rcases ku with z | ⟨u, v, c, d, e2, o1, o2, z⟩
        · exact .inl z
        · exact .inr ⟨u, v, c, d, e2, ofTy_up sd o1, ofTy_up sd o2, z⟩
    | @word os o l3 sm no =>
      have l := len_putM mv (a, b) os
      refine .inr (.inl ⟨p, _, putM mv (a, b) os, rfl, upd_same, movesG_up s (lm_put h.lm o), small_of lE (by omega) (fun e he => ?_), fun z hz => ?_, ?_⟩)
      · rcases mem_putM he with he | rfl
        · exact Nat.le_trans (h.outs he).2.2.1 (by omega)
        · exact Nat.le_trans l3 (by omega)
      · have each : ∀ e ∈ putM mv (a, b) os, SmS e.1.1 ∧ SmS e.1.2 ∧ ∀ o ∈ e.2, SmS o.1 ∧ SmS o.2 := fun e he => by
          rcases mem_putM he with he | rfl
          · exact ⟨lw_sms (h.outs he).1, lw_sms (h.outs he).2.1, fun o ho => ⟨((h.outs he).2.2.2.2 o ho).2.1, lw_sms ((h.outs he).2.2.2.2 o ho).2.2⟩⟩
          · exact ⟨sa, sb, sm⟩
        rcases hz with hz | hz | hz
        · rcases mem_states.mp hz with rfl | hz | ⟨e, he, rfl | ⟨o, ho, rfl⟩⟩
          · exact sms_len (lw_sms h.st_lw)
          · exact sms_len (lw_sms (h.es_lw z hz))
          · exact sms_len (each e he).1
          · exact sms_len ((each e he).2.2 o ho).2
        · obtain ⟨e, he, rfl⟩ := List.mem_map.mp hz
          exact sms_len (each e he).2.1
        · obtain ⟨e, he, hz⟩ := List.mem_flatMap.mp hz
          obtain ⟨o, ho, rfl⟩ := List.mem_map.mp hz
          exact sms_len ((each e he).2.2 o ho).1
      · have self := put_self mv (a, b) os
        rcases no with no | no | ⟨o, ho, no | no⟩
        · exact ⟨a, .inl ⟨mem_states.mpr (.inr (.inr ⟨_, self, .inl rfl⟩)), no⟩⟩
        · exact ⟨b, .inr (.inl ⟨List.mem_map.mpr ⟨_, self, rfl⟩, no⟩)⟩
        · exact ⟨o.1, .inr (.inr ⟨List.mem_flatMap.mpr ⟨_, self, List.mem_map.mpr ⟨o, ho, rfl⟩⟩, no⟩)⟩
        · exact ⟨o.2, .inl ⟨mem_states.mpr (.inr (.inr ⟨_, self, .inr ⟨o, ho, rfl⟩⟩)), no⟩⟩
    | @twice os o l3 sm na nb no =>
      have l := len_putM mv (a, b) os
      refine .inr (.inr ⟨p, _, putM mv (a, b) os, rfl, upd_same, movesG_up s (lm_put h.lm o), ⟨name_of h.st_lw, fun z hz => name_of (h.es_lw z hz), fun e he => ?_, fun e he x hx => ?_⟩, small_of lE (by omega) (fun e he => ?_), _, put_self mv (a, b) os, no⟩)
      · rcases mem_putM he with he | rfl
        · exact ⟨name_of (h.outs he).1, name_of (h.outs he).2.1⟩
        · exact ⟨na, nb⟩
      · rcases mem_putM he with he | rfl
        · exact ⟨((h.outs he).2.2.2.2 x hx).1, name_of ((h.outs he).2.2.2.2 x hx).2.2⟩
        · exact sm x hx
      · rcases mem_putM he with he | rfl
        · exact Nat.le_trans (h.outs he).2.2.1 (by omega)
        · exact Nat.le_trans l3 (by omega)
  · obtain ⟨ds, q⟩ := lm_data h
    obtain ⟨ds', q1, _, _⟩ := put_paired (F := fun v d => Dy B v d ∧ Sh 300 3 d) q [kInr a, kInr b] r dr ⟨dat, sh⟩
    exact dT_data upd_same (L2.Paired.mapP q1 fun _ _ z => ⟨dy_up s z.1, z.2⟩) (by omega) keys
end
end Q9
end
-- QOddP
section
set_option maxRecDepth 100000
set_option maxHeartbeats 4000000
namespace Q9
open PySem L2
/-! the odd dicts: dict(pairs), the last pair odd -/
theorem putK_last {kvs : List (List Key × V)} (k : List Key) (v : V) : mergeT kvs [(k, v)] = putK kvs k v := rfl
theorem merge_self : ∀ {more kvs : List (List Key × V)}, ((kvs ++ more).map (·.1)).Nodup → mergeT kvs more = kvs ++ more
  | [], kvs, _ => (List.append_nil kvs).symm
  | x :: more, kvs, nd => by
    have e1 : mergeT kvs (x :: more) = mergeT (putK kvs x.1 x.2) more := rfl
    have n1 : ¬ (kvs.any fun kv => decide (kv.1 = x.1)) = true := fun h => by
      obtain ⟨y, h1, h2⟩ := List.any_eq_true.mp h
      rw [List.map_append, List.nodup_append] at nd
      exact nd.2.2 y.1 (List.mem_map.mpr ⟨y, h1, rfl⟩) x.1 (List.mem_map.mpr ⟨x, List.mem_cons_self, rfl⟩) (of_decide_eq_true h2)
    have e2 : putK kvs x.1 x.2 = kvs ++ [x] := by unfold putK; rw [if_neg n1]
    have e3 : kvs ++ [x] ++ more = kvs ++ x :: more := by rw [List.append_assoc]; rfl
    rw [e1, e2, merge_self (by rw [e3]; exact nd), e3]
theorem merge_put {kvs : List (List Key × V)} (nd : (kvs.map (·.1)).Nodup) (k : List Key) (v : V) : mergeT [] (kvs ++ [(k, v)]) = putK kvs k v := by
  have e : mergeT [] (kvs ++ [(k, v)]) = mergeT (mergeT [] kvs) [(k, v)] := List.foldl_append
  rw [e, merge_self (kvs := []) nd, List.nil_append]
  rfl
section
variable {K : PySem.W.Frag} {B H : Hp} {st : Str} {es S ms W : List Str} {kvs : List (List Key × V)} {mv : Mv}
theorem mixT_of {ts : List Addr} {kvs : List (List Key × V)} (p : Paired (PairT B) ts kvs) : ∃ k3 : List (List Key × Addr × V), Paired (MixT B) ts k3 ∧ Paired (fun (x : List Key × Addr × V) (kv : List Key × V) => x.1 = kv.1 ∧ x.2.2 = kv.2 ∧ B x.2.1 = some (.tup (kv.1.map kV))) k3 kvs := by
  induction p with
  | nil => exact ⟨[], .nil, .nil⟩
  | @cons t kv l m h _ ih =>
    obtain ⟨k3, p1, p2⟩ := ih
    obtain ⟨q, h1, h2⟩ := h
    exact ⟨(kv.1, q, kv.2) :: k3, .cons ⟨h1, h2⟩ p1, .cons ⟨rfl, rfl, h2⟩ p2⟩
theorem k3_keys {k3 : List (List Key × Addr × V)} {kvs : List (List Key × V)} (p : Paired (fun (x : List Key × Addr × V) (kv : List Key × V) => x.1 = kv.1 ∧ x.2.2 = kv.2 ∧ B x.2.1 = some (.tup (kv.1.map kV))) k3 kvs) : k3.map (·.1) = kvs.map (·.1) := by
  induction p with
  | nil => rfl
  | cons h t ih => rw [List.map_cons, List.map_cons, ih, h.1]
abbrev AtK (B : Hp) (x : V × V) (kv : List Key × V) : Prop := ∃ q, x.1 = .ref q ∧ B q = some (.tup (kv.1.map kV)) ∧ x.2 = kv.2
theorem k3_at {k3 : List (List Key × Addr × V)} {kvs : List (List Key × V)} (p : Paired (fun (x : List Key × Addr × V) (kv : List Key × V) => x.1 = kv.1 ∧ x.2.2 = kv.2 ∧ B x.2.1 = some (.tup (kv.1.map kV))) k3 kvs) : Paired (AtK B) (k3.map fun kv => (V.ref kv.2.1, kv.2.2)) kvs := by
  induction p with
  | nil => exact .nil
  | cons h t ih => exact .cons ⟨_, rfl, h.2.2, h.2.1⟩ ih
theorem at_keyB {ps : List (V × V)} {kvs : List (List Key × V)} (p : Paired (AtK B) ps kvs) : (∀ kv ∈ kvs, TwoT kv.1) → Paired (fun (x : V × V) b => KeyB K B x.1 b) ps (List.replicate ps.length true) := by
  induction p with
  | nil => exact fun _ => .nil
  | @cons x kv l m h t ih =>
    intro tw
    obtain ⟨q, e1, e2, _⟩ := h
    obtain ⟨a, b, e3⟩ := tw kv List.mem_cons_self
    rw [e3] at e2
    exact .cons (.inr (.inr ⟨q, .str a, .str b, true, true, e1, .of e2, ⟨_, .base (.str _), kit_ty (by decide +kernel)⟩, ⟨_, .base (.str _), kit_ty (by decide +kernel)⟩, rfl⟩)) (ih fun z hz => tw z (List.mem_cons_of_mem _ hz))
theorem keys_dy : ∀ {ks : List Key}, DyAll B (ks.map kV) (ks.map keyD)
  | [] => .nil
  | .inl i :: ks => .cons (.int i) keys_dy
  | .inr x :: ks => .cons (.str x) keys_dy
theorem at_dy {ps : List (V × V)} {kvs : List (List Key × V)} (p : Paired (AtK B) ps kvs) : DyAll B (ps.map (·.1)) (kvs.map fun kv => PyData.tuple (kv.1.map keyD)) ∧ ps.map (·.2) = kvs.map (·.2) := by
  induction p with
  | nil => exact ⟨.nil, rfl⟩
  | @cons x kv l m h t ih =>
    obtain ⟨q, e1, e2, e3⟩ := h
    refine ⟨?_, by rw [List.map_cons, List.map_cons, ih.2, e3]⟩
    rw [List.map_cons, e1]
    exact .cons (.tup e2 keys_dy) ih.1
/-- a dict whose last key is no pair of texts -/
theorem tell_pin (h : DrK B st es S ms W kvs mv) {p e : Addr} {o : Obj} {ps : List (V × V)} {v : V} {dv : PyData} (hp : B p = none) (M : MixR p o (ps ++ [(v, .ref e)])) (pp : Paired (AtK B) ps kvs) (no : KeyB K B v false) (dat : Dy B v dv) (sh : Sh 60 3 dv) (he : B e = some (.lst [])) :
    Tell K (upd B p (PinO p o)) st es (.ref p) := by
  have s := same_upd (o := PinO p o) hp
  have two : ∀ kv ∈ kvs, ∃ a b, kv.1 = [kInr a, kInr b] ∧ SmS a ∧ SmS b := fun kv hk => by
    obtain ⟨f, hf, e2⟩ := lm_two h.lm kv hk
    exact ⟨f.1.1, f.1.2, e2, lw_sms (h.outs hf).1, lw_sms (h.outs hf).2.1⟩
  have len := h.len
  have lk : kvs.length = mv.length := PySem.Paired.length h.lm.ent
  refine ⟨.inl (.inl (.inl (.inl (.inr ⟨p, o, _, List.replicate ps.length true ++ [false], rfl, M, upd_same, ?_, by rw [List.all_append]; simp⟩)))), ?_⟩
  · exact L2.Paired.mapP (paired_append (at_keyB (K := K) pp fun kv hk => let ⟨a, b, e, _⟩ := two kv hk; ⟨a, b, e⟩) (.cons no .nil)) fun _ _ z => keyB_up s z
  · obtain ⟨k1, k2⟩ := at_dy pp
    obtain ⟨ds, q⟩ := lm_data h
    obtain ⟨d1, d2⟩ := paired_dy q
    have l := PySem.Paired.length q
    refine ⟨_, .pin upd_same M (ks := (kvs.map fun kv => PyData.tuple (kv.1.map keyD)) ++ [dv]) (vs := ds ++ [.list []]) ?_ ?_, (sh_dct (k := 4) (n := 1200) (m := 6000) ?_ ?_).le (by omega) (by omega)⟩
    · rw [List.map_append]
      exact dyAll_append (dyAll_up s k1) (.cons (dy_up s dat) .nil)
    · rw [List.map_append, k2]
      exact dyAll_append (dyAll_up s d1) (.cons (.lst (s _ _ he) .nil) .nil)
    · refine (shA_all (n := 60) (k := 4) fun d hd => ?_).le ?_ (Nat.le_refl _)
      · rcases List.mem_append.mp hd with hd | hd
        · obtain ⟨kv, hkv, rfl⟩ := List.mem_map.mp hd
          obtain ⟨a, b, e, sa, sb⟩ := two kv hkv
          rw [e]
          exact (sh_tup (shA_cons (sh_sms sa) (shA_cons (sh_sms sb) (shA_nil (n := 0))))).le (by omega) (by omega : 0 + 1 ≤ 4)
        · rw [List.mem_singleton.mp hd]
          exact sh.le (Nat.le_refl _) (by omega)
      · rw [List.length_append, List.length_map, List.length_singleton]
        omega
    · refine (shA_all (n := 300) (k := 4) fun d hd => ?_).le ?_ (Nat.le_refl _)
      · rcases List.mem_append.mp hd with hd | hd
        · exact (d2 d hd).le (Nat.le_refl _) (by omega)
        · rw [List.mem_singleton.mp hd]
          exact (sh_lst shA_nil).le (Nat.zero_le _) (by omega : 0 + 1 ≤ 4)
      · rw [List.length_append, List.length_singleton, ← l]
        omega
def leafK : Key → Leaf
  | .inl i => .num i
  | .inr x => .text x
theorem leafK_inj : ∀ {a b : Key}, leafK a = leafK b → a = b
  | .inl i, .inl j, h => by cases h; rfl
  | .inr i, .inr j, h => by cases h; rfl
  | .inl i, .inr j, h => by cases h
  | .inr i, .inl j, h => by cases h
theorem mapK_inj : ∀ {a b : List Key}, a.map leafK = b.map leafK → a = b
  | [], [], _ => rfl
  | [], _ :: _, h => by cases h
  | _ :: _, [], h => by cases h
  | x :: a, y :: b, h => by
    rw [List.map_cons, List.map_cons, List.cons.injEq] at h
    rw [leafK_inj h.1, mapK_inj h.2]
theorem leaf_keys : ∀ {ks : List Key}, Paired LeafV (ks.map kV) (ks.map leafK)
  | [] => .nil
  | .inl i :: ks => .cons (.inr (.inl ⟨i, rfl, rfl⟩)) leaf_keys
  | .inr x :: ks => .cons (.inr (.inr (.inr ⟨x, rfl, rfl⟩))) leaf_keys
theorem mixL_of {ts : List Addr} {k3 : List (List Key × Addr × V)} (p : Paired (MixT B) ts k3) : Paired (MixL B) ts (k3.map fun x => (x.1.map leafK, x.2.1, x.2.2)) := by
  induction p with
  | nil => exact .nil
  | cons h t ih => exact .cons ⟨h.1, _, h.2, leaf_keys⟩ ih
/-- the pairs, as they stand -/
structure PrsAt (B H : Hp) (kvs : List (List Key × V)) (q t : Addr) (v r : V) : Prop where
  s : Same B H
  lst : ∃ ts : List Addr, H q = some (.lst ((ts ++ [t]).map V.ref)) ∧ Paired (PairT B) ts kvs
  t : B t = some (.tup [v, r])
theorem mixT_up {B H : Hp} (s : Same B H) {ts : List Addr} {k3 : List (List Key × Addr × V)} (p : Paired (MixT B) ts k3) : Paired (MixT H) ts k3 := L2.Paired.mapP p fun _ _ z => ⟨s _ _ z.1, s _ _ z.2⟩
theorem none_up {B H : Hp} (s : Same B H) {p : Addr} (h : H p = none) : B p = none := by
  cases e : B p with
  | none => rfl
  | some o => rw [s _ _ e] at h; cases h
theorem key_m (h : DrK B st es S ms W kvs mv) {q t e : Addr} {v : V} {dv : PyData} (A : PrsAt B H kvs q t v (.ref e)) (he : B e = some (.lst [])) (lk : v = .non ∨ ∃ x, v = .str x) (no : KeyB K B v false) (dat : Dy B v dv) (sh : Sh 60 3 dv) {Q : VK}
    (way : ∀ p o, H p = none → Tell K (upd B p o) st es (.ref p) → Q (.ref p) (upd H p o)) : rDictM K [.ref q] H Q := by
  obtain ⟨s, ⟨ts, hq, hts⟩, ht⟩ := A
  obtain ⟨k3, m1, m2⟩ := mixT_of hts
  refine ⟨q, t, ts, k3, v, .ref e, rfl, .of hq, mixT_up s m1, by rw [k3_keys m2]; exact h.lm.nd, s _ _ ht, lk, fun p o hp M => way p _ hp (tell_pin h (none_up s hp) M (k3_at m2) no dat sh he)⟩
theorem key_l (h : DrK B st es S ms W kvs mv) {q t e a : Addr} {us : List V} {ls : List Leaf} {dv : PyData} (A : PrsAt B H kvs q t (.ref a) (.ref e)) (he : B e = some (.lst [])) (ha : B a = some (.tup us)) (lf : Paired LeafV us ls) (nl : ∀ a b : Str, ls ≠ [.text a, .text b])
    (no : KeyB K B (.ref a) false) (dat : Dy B (.ref a) dv) (sh : Sh 60 3 dv) {Q : VK} (way : ∀ p o, H p = none → Tell K (upd B p o) st es (.ref p) → Q (.ref p) (upd H p o)) : rDictL K [.ref q] H Q := by
  obtain ⟨s, ⟨ts, hq, hts⟩, ht⟩ := A
  obtain ⟨k3, m1, m2⟩ := mixT_of hts
  refine ⟨q, ts ++ [t], (k3.map fun x => (x.1.map leafK, x.2.1, x.2.2)) ++ [(ls, a, .ref e)], rfl, .of hq, paired_append (mixL_of (mixT_up s m1)) (.cons ⟨s _ _ ht, us, s _ _ ha, lf⟩ .nil), ?_, fun p o hp M => ?_⟩
  · rw [List.map_append, List.map_map]
    have e1 : k3.map ((fun x : List Leaf × Addr × V => x.1) ∘ fun x : List Key × Addr × V => (x.1.map leafK, x.2.1, x.2.2)) = (k3.map (·.1)).map (·.map leafK) := by rw [List.map_map]; rfl
    rw [e1, k3_keys m2]
    refine List.nodup_append.mpr ⟨?_, List.nodup_cons.mpr ⟨fun z => (nomatch z), List.nodup_nil⟩, fun x hx y hy z => ?_⟩
    · exact List.pairwise_map.mpr (h.lm.nd.imp fun n z => n (mapK_inj z))
    · obtain ⟨k, hk, rfl⟩ := List.mem_map.mp hx
      obtain ⟨kv, hkv, rfl⟩ := List.mem_map.mp hk
      obtain ⟨f, hf, e2⟩ := lm_two h.lm kv hkv
      rw [e2] at z
      exact nl f.1.1 f.1.2 ((List.mem_singleton.mp hy).symm.trans (z.symm.trans rfl))
  · rw [List.map_append, List.map_map] at M
    exact way p _ hp (tell_pin h (none_up s hp) (ps := k3.map fun kv : List Key × Addr × V => (V.ref kv.2.1, kv.2.2)) (v := .ref a) (e := e) M (k3_at m2) no dat sh he)
theorem key_t (h : DrK B st es S ms W kvs mv) {q t u : Addr} {a b : Str} {r : V} {dr : PyData} (A : PrsAt B H kvs q t (.ref u) r) (hu : B u = some (.tup [.str a, .str b])) (sa : SmS a) (sb : SmS b) (dat : Dy B r dr) (sh : Sh 300 3 dr) (bad : RowBad K B a b r) {Q : VK}
    (way : ∀ p o, H p = none → Tell K (upd B p o) st es (.ref p) → Q (.ref p) (upd H p o)) : rDictT K [.ref q] H Q := by
  obtain ⟨s, ⟨ts, hq, hts⟩, ht⟩ := A
  refine ⟨q, ts ++ [t], kvs ++ [([kInr a, kInr b], r)], rfl, .of hq, paired_append (L2.Paired.mapP hts fun _ _ ⟨q, h1, h2⟩ => ⟨q, s _ _ h1, s _ _ h2⟩) (.cons ⟨u, s _ _ ht, s _ _ hu⟩ .nil), fun p hp => ?_⟩
  rw [merge_put h.lm.nd]
  exact way p _ hp (tell_put h (none_up s hp) sa sb dat sh bad)
abbrev rDictA (K : PySem.W.Frag) : List V → Hp → VK → Prop := fun xs H Q => (rDictM K xs H Q ∨ rDictL K xs H Q) ∨ rDictT K xs H Q
theorem cr_dictA {X : Cx} (hcalm : X.calm = true) (hu : X.A.in1.in1.units < cLine) : CallR X (.type "dict") (rDictA X.K) := CallR.or (CallR.or (cr_dictM hcalm hu) (cr_dictL hcalm hu)) (cr_dictT hcalm hu)
/-! the eight odd keys -/
def oddKs (st m : Str) : List PyData := [.none, .str "a", .tuple [.str st], .tuple [.str st, .str "A"], .tuple [.str "", .str m], .tuple [.str st, .str m, .str "x"], .tuple [.int 5, .str m], .tuple [.str st, .bool true]]
theorem tup_dz {v : V} {xs : List PyData} (h : Dz B v (.tuple xs)) : ∃ a us, v = .ref a ∧ B a = some (.tup us) ∧ DzAll B us xs := by
  cases h with
  | tup e a => exact ⟨_, _, rfl, e, a⟩
theorem dz1 {us : List V} {d : PyData} (h : DzAll B us [d]) : ∃ v, us = [v] ∧ Dz B v d := by
  cases h with
  | cons a b =>
    cases b
    exact ⟨_, rfl, a⟩
theorem dz2 {us : List V} {d e : PyData} (h : DzAll B us [d, e]) : ∃ v w, us = [v, w] ∧ Dz B v d ∧ Dz B w e := by
  cases h with
  | cons a b =>
    obtain ⟨w, rfl, k⟩ := dz1 b
    exact ⟨_, w, rfl, a, k⟩
theorem dz3 {us : List V} {d e f : PyData} (h : DzAll B us [d, e, f]) : ∃ v w x, us = [v, w, x] ∧ Dz B v d ∧ Dz B w e ∧ Dz B x f := by
  cases h with
  | cons a b =>
    obtain ⟨w, x, rfl, k⟩ := dz2 b
    exact ⟨_, w, x, rfl, a, k⟩
theorem odd_key (h : DrK B st es S ms W kvs mv) {q t e : Addr} {v : V} {d : PyData} {m : Str} (lm : LW m) (hd : d ∈ oddKs st m) (hz : Dz B v d) (A : PrsAt B H kvs q t v (.ref e)) (he : B e = some (.lst [])) {Q : VK}
    (way : ∀ p o, H p = none → Tell K (upd B p o) st es (.ref p) → Q (.ref p) (upd H p o)) : rDictA K [.ref q] H Q := by
  have hy := dz_dy _ _ hz
  have s1 := lw_sms h.st_lw
  have s2 := lw_sms lm
  unfold oddKs at hd
  simp only [List.mem_cons, List.not_mem_nil, or_false] at hd
  have tt : ∀ {x : Str}, OfTy K B (.str x) "str" true := fun {x} => ⟨_, .base (.str _), kit_ty (by decide +kernel)⟩
  rcases hd with rfl | rfl | rfl | rfl | rfl | rfl | rfl | rfl
  · cases hz
    exact .inl (.inl (key_m h A he (.inl rfl) (.inl ⟨⟨_, .base .non, kit_ty (by decide +kernel)⟩, rfl⟩) hy ⟨by decide +kernel, by decide +kernel, by decide +kernel, by decide +kernel⟩ way))
  · cases hz
    exact .inl (.inl (key_m h A he (.inr ⟨_, rfl⟩) (.inl ⟨⟨_, .base (.str _), kit_ty (by decide +kernel)⟩, rfl⟩) hy ⟨by decide +kernel, by decide +kernel, by decide +kernel, by decide +kernel⟩ way))
  · obtain ⟨a, us, rfl, ha, xs⟩ := tup_dz hz
    obtain ⟨v1, rfl, x1⟩ := dz1 xs
    cases x1
    exact .inl (.inr (key_l h A he ha (.cons (.inr (.inr (.inr ⟨_, rfl, rfl⟩))) .nil) (fun _ _ z => (nomatch z)) (.inr (.inl ⟨a, _, rfl, .of ha, by simp, rfl⟩)) hy ((sh_tup (shA_cons (sh_sms s1) (shA_nil (n := 0)))).le (by omega) (by omega : 0 + 1 ≤ 3)) way))
  · obtain ⟨a, us, rfl, ha, xs⟩ := tup_dz hz
    obtain ⟨v1, v2, rfl, x1, y1⟩ := dz2 xs
    cases x1; cases y1
    exact .inr (key_t h A ha s1 (by decide +kernel) (.lst he .nil) ((sh_lst shA_nil).le (Nat.zero_le _) (by omega : 0 + 1 ≤ 3)) (.word (os := []) ⟨[], ⟨e, rfl, .inl (.of he)⟩, .nil⟩ (by decide) (fun _ z => (nomatch z)) (.inr (.inl (by decide +kernel)))) way)
  · obtain ⟨a, us, rfl, ha, xs⟩ := tup_dz hz
    obtain ⟨v1, v2, rfl, x1, y1⟩ := dz2 xs
    cases x1; cases y1
    exact .inr (key_t h A ha (by decide +kernel) s2 (.lst he .nil) ((sh_lst shA_nil).le (Nat.zero_le _) (by omega : 0 + 1 ≤ 3)) (.word (os := []) ⟨[], ⟨e, rfl, .inl (.of he)⟩, .nil⟩ (by decide) (fun _ z => (nomatch z)) (.inl (by decide +kernel))) way)
  · obtain ⟨a, us, rfl, ha, xs⟩ := tup_dz hz
    obtain ⟨v1, v2, v3, rfl, x1, y1, z1⟩ := dz3 xs
    cases x1; cases y1; cases z1
    exact .inl (.inr (key_l h A he ha (.cons (.inr (.inr (.inr ⟨_, rfl, rfl⟩))) (.cons (.inr (.inr (.inr ⟨_, rfl, rfl⟩))) (.cons (.inr (.inr (.inr ⟨_, rfl, rfl⟩))) .nil))) (fun _ _ z => by simp at z) (.inr (.inl ⟨a, _, rfl, .of ha, by simp, rfl⟩)) hy ((sh_tup (shA_cons (sh_sms s1) (shA_cons (sh_sms s2) (shA_cons (sh_sms (by decide +kernel)) (shA_nil (n := 0)))))).le (by omega) (by omega : 0 + 1 ≤ 3)) way))
  · obtain ⟨a, us, rfl, ha, xs⟩ := tup_dz hz
    obtain ⟨v1, v2, rfl, x1, y1⟩ := dz2 xs
    cases x1; cases y1
    exact .inl (.inr (key_l h A he ha (.cons (.inr (.inl ⟨_, rfl, rfl⟩)) (.cons (.inr (.inr (.inr ⟨_, rfl, rfl⟩))) .nil)) (fun _ _ z => by simp at z) (.inr (.inr ⟨a, _, _, false, true, rfl, .of ha, ⟨_, .base (.int _), kit_ty (by decide +kernel)⟩, tt, rfl⟩)) hy ((sh_tup (shA_cons (n := 9) ⟨by decide +kernel, by decide +kernel, by decide +kernel, by decide +kernel⟩ (shA_cons (sh_sms s2) (shA_nil (n := 0))))).le (by omega) (by omega : 0 + 1 ≤ 3)) way))
  · obtain ⟨a, us, rfl, ha, xs⟩ := tup_dz hz
    obtain ⟨v1, v2, rfl, x1, y1⟩ := dz2 xs
    cases x1; cases y1
    exact .inl (.inr (key_l h A he ha (.cons (.inr (.inr (.inr ⟨_, rfl, rfl⟩))) (.cons (.inr (.inr (.inl ⟨true, rfl, rfl⟩))) .nil)) (fun _ _ z => by simp at z) (.inr (.inr ⟨a, _, _, true, false, rfl, .of ha, tt, ⟨_, .base (.bl _), kit_ty (by decide +kernel)⟩, rfl⟩)) hy ((sh_tup (shA_cons (sh_sms s1) (shA_cons (n := 9) ⟨by decide +kernel, by decide +kernel, by decide +kernel, by decide +kernel⟩ (shA_nil (n := 0))))).le (by omega) (by omega : 0 + 1 ≤ 3)) way))
end
end Q9
end
-- QOddQ
section
set_option maxRecDepth 100000
set_option maxHeartbeats 4000000
namespace Q9
open PySem L2
/-! odd values, odd outcomes, nine outcomes, nine methods -/
section
variable {K : PySem.W.Frag} {B H : Hp} {st : Str} {es S ms W : List Str} {kvs : List (List Key × V)} {mv : Mv}
theorem w_yes : wordB ("yes" : Str) = true := by decide +kernel
theorem w_no : wordB ("no" : Str) = true := by decide +kernel
theorem s_yes : SmS ("yes" : Str) := by decide +kernel
theorem s_no : SmS ("no" : Str) := by decide +kernel
theorem lst_dz {v : V} {xs : List PyData} (h : Dz B v (.list xs)) : ∃ a us, v = .ref a ∧ B a = some (.lst us) ∧ DzAll B us xs := by
  cases h with
  | lst e a => exact ⟨_, _, rfl, e, a⟩
theorem pair_dz {v : V} {x y : Str} (h : Dz B v (.tuple [.str x, .str y])) : ∃ a, v = .ref a ∧ B a = some (.tup [.str x, .str y]) := by
  obtain ⟨a, us, rfl, ha, xs⟩ := tup_dz h
  obtain ⟨v1, v2, rfl, x1, y1⟩ := dz2 xs
  cases x1; cases y1
  exact ⟨a, rfl, ha⟩
def oddVs (st : Str) : List PyData := [.none, .int 5, .str "no", .dict [], .list [.tuple [.str "yes", .str st], .tuple [.str "no", .str st], .tuple [.str "yes", .str st]], .list [.list [.str "no", .str st], .tuple [.str "no", .str st]]]
theorem odd_val {v : V} {d : PyData} {m : Str} (ls : LW st) (lm : LW m) (hd : d ∈ oddVs st) (hz : Dz B v d) : RowBad K B st m v ∧ Sh 300 3 d := by
  have s1 := lw_sms ls
  have n1 := name_of ls
  have n2 := name_of lm
  have t2 : ∀ {x : Str}, SmS x → Sh 20 2 (.tuple [.str x, .str st]) := fun h => (sh_tup (shA_cons (sh_sms h) (shA_cons (sh_sms s1) (shA_nil (n := 0))))).le (by omega) (by omega : 0 + 1 ≤ 2)
  have l2 : ∀ {x : Str}, SmS x → Sh 20 2 (.list [.str x, .str st]) := fun h => (sh_lst (shA_cons (sh_sms h) (shA_cons (sh_sms s1) (shA_nil (n := 0))))).le (by omega) (by omega : 0 + 1 ≤ 2)
  unfold oddVs at hd
  simp only [List.mem_cons, List.not_mem_nil, or_false] at hd
  rcases hd with rfl | rfl | rfl | rfl | rfl | rfl
  · exact ⟨.odd (.inl ⟨notRow_dz hz rfl, rfl⟩), by decide +kernel, by decide +kernel, by decide +kernel, by decide +kernel⟩
  · exact ⟨.odd (.inl ⟨notRow_dz hz rfl, rfl⟩), by decide +kernel, by decide +kernel, by decide +kernel, by decide +kernel⟩
  · exact ⟨.odd (.inl ⟨notRow_dz hz rfl, rfl⟩), by decide +kernel, by decide +kernel, by decide +kernel, by decide +kernel⟩
  · exact ⟨.odd (.inl ⟨notRow_dz hz rfl, rfl⟩), by decide +kernel, by decide +kernel, by decide +kernel, by decide +kernel⟩
  · obtain ⟨a, us, rfl, ha, xs⟩ := lst_dz hz
    obtain ⟨v1, v2, v3, rfl, x1, x2, x3⟩ := dz3 xs
    obtain ⟨a1, rfl, h1⟩ := pair_dz x1
    obtain ⟨a2, rfl, h2⟩ := pair_dz x2
    obtain ⟨a3, rfl, h3⟩ := pair_dz x3
    refine ⟨.twice (os := [(("yes" : Str), st), (("no" : Str), st), (("yes" : Str), st)]) ⟨_, ⟨a, rfl, .inl (.of ha)⟩, .cons ⟨a1, rfl, .inr (.of h1)⟩ (.cons ⟨a2, rfl, .inr (.of h2)⟩ (.cons ⟨a3, rfl, .inr (.of h3)⟩ .nil))⟩ (Nat.le_of_ble_eq_true rfl) (fun o ho => ?_) n1 n2 (fun z => ?_), (sh_lst (shA_cons (t2 (by decide +kernel)) (shA_cons (t2 (by decide +kernel)) (shA_cons (t2 (by decide +kernel)) (shA_nil (n := 0)))))).le (by omega) (by omega)⟩
    · simp only [List.mem_cons, List.not_mem_nil, or_false] at ho
      rcases ho with rfl | rfl | rfl
      · exact ⟨w_yes, n1⟩
      · exact ⟨w_no, n1⟩
      · exact ⟨w_yes, n1⟩
    · exact (List.nodup_cons.mp z).1 (List.mem_cons_of_mem _ List.mem_cons_self)
  · obtain ⟨a, us, rfl, ha, xs⟩ := lst_dz hz
    obtain ⟨v1, v2, rfl, x1, x2⟩ := dz2 xs
    obtain ⟨a1, us1, rfl, h1, y1⟩ := lst_dz x1
    obtain ⟨w1, w2, rfl, z1, z2⟩ := dz2 y1
    cases z1; cases z2
    obtain ⟨a2, rfl, h2⟩ := pair_dz x2
    refine ⟨.twice (os := [(("no" : Str), st), (("no" : Str), st)]) ⟨_, ⟨a, rfl, .inl (.of ha)⟩, .cons ⟨a1, rfl, .inl (.of h1)⟩ (.cons ⟨a2, rfl, .inr (.of h2)⟩ .nil)⟩ (Nat.le_of_ble_eq_true rfl) (fun o ho => ?_) n1 n2 (fun z => ?_), (sh_lst (shA_cons (l2 (by decide +kernel)) (shA_cons (t2 (by decide +kernel)) (shA_nil (n := 0))))).le (by omega) (by omega)⟩
    · simp only [List.mem_cons, List.not_mem_nil, or_false] at ho
      rcases ho with rfl | rfl
      · exact ⟨w_no, n1⟩
      · exact ⟨w_no, n1⟩
    · exact (List.nodup_cons.mp z).1 List.mem_cons_self
/-! outcomes -/
def oddOs : List PyData := [.none, .int 5, .str "yes", .tuple [], .tuple [.str "yes"], .tuple [.str "yes", .str "a", .str "b"], .tuple [.str "YES!", .str "a"], .tuple [.str "maybe", .str "a"], .tuple [.str "", .str "a"], .tuple [.str "no", .str "A"],
  .tuple [.str "yes", .none], .tuple [.bool true, .str "a"], .tuple [.str "ABCDEFGHI", .str "a"], .tuple [.str "Yes", .str "a"], .tuple [.dict [], .str "a"], .tuple [.str "no", .str "abcdefghi"]]
theorem row_pair {r u : Addr} {v : V} {m : Str} (hr : B r = some (.lst [.ref u, v])) (hu : B u = some (.tup [.str "no", .str st])) (nl : OfTy K B v "list" false) (no : KeyB K B v false) : RowBad K B st m (.ref r) :=
  .pair (bs := [true, false]) ⟨_, ⟨r, rfl, .inl (.of hr)⟩, .cons (.inl ⟨⟨_, .base (.tup hu), kit_ty (by decide +kernel)⟩, .inr (.inr ⟨u, _, _, true, true, rfl, .of hu, ⟨_, .base (.str _), kit_ty (by decide +kernel)⟩, ⟨_, .base (.str _), kit_ty (by decide +kernel)⟩, rfl⟩)⟩) (.cons (.inl ⟨nl, no⟩) .nil)⟩ (List.mem_cons_of_mem _ List.mem_cons_self) (by decide)
theorem row_word {r u : Addr} {v : V} {m x y : Str} (ls : LW st) (hr : B r = some (.lst [.ref u, v])) (hu : B u = some (.tup [.str "no", .str st])) (hv : Dz B v (.tuple [.str x, .str y])) (sx : SmS x) (sy : SmS y) (no : wordB x = false ∨ nameB y = false) : RowBad K B st m (.ref r) := by
  obtain ⟨a, rfl, ha⟩ := pair_dz hv
  refine .word (os := [(("no" : Str), st), (x, y)]) ⟨_, ⟨r, rfl, .inl (.of hr)⟩, .cons ⟨u, rfl, .inr (.of hu)⟩ (.cons ⟨a, rfl, .inr (.of ha)⟩ .nil)⟩ (Nat.le_of_ble_eq_true rfl) (fun o ho => ?_) (.inr (.inr ⟨(x, y), List.mem_cons_of_mem _ List.mem_cons_self, no⟩))
  simp only [List.mem_cons, List.not_mem_nil, or_false] at ho
  rcases ho with rfl | rfl
  · exact ⟨s_no, lw_sms ls⟩
  · exact ⟨sx, sy⟩
theorem odd_out {r u : Addr} {v : V} {d : PyData} {m : Str} (ls : LW st) (hd : d ∈ oddOs) (hz : Dz B v d) (hr : B r = some (.lst [.ref u, v])) (hu : B u = some (.tup [.str "no", .str st])) : RowBad K B st m (.ref r) ∧ ∃ dr, Dy B (.ref r) dr ∧ Sh 300 3 dr := by
  have s1 := lw_sms ls
  have tt : ∀ {x : Str}, OfTy K B (.str x) "str" true := fun {x} => ⟨_, .base (.str _), kit_ty (by decide +kernel)⟩
  have tl : ∀ {a us}, B a = some (.tup us) → OfTy K B (.ref a) "list" false := fun h => ⟨_, .base (.tup h), kit_ty (by decide +kernel)⟩
  have dat : Sh 60 2 d → ∃ dr, Dy B (.ref r) dr ∧ Sh 300 3 dr := fun sh => ⟨_, .lst hr (.cons (.tup hu (.cons (.str _) (.cons (.str _) .nil))) (.cons (dz_dy _ _ hz) .nil)),
    (sh_lst (shA_cons ((sh_tup (shA_cons (sh_sms s_no) (shA_cons (sh_sms s1) (shA_nil (n := 0))))).le (m := 20) (by omega) (by omega : 0 + 1 ≤ 2)) (shA_cons sh (shA_nil (n := 0))))).le (by omega) (by omega)⟩
  unfold oddOs at hd
  simp only [List.mem_cons, List.not_mem_nil, or_false] at hd
  rcases hd with rfl | rfl | rfl | rfl | rfl | rfl | rfl | rfl | rfl | rfl | rfl | rfl | rfl | rfl | rfl | rfl
  · refine ⟨?_, dat ⟨by decide +kernel, by decide +kernel, by decide +kernel, by decide +kernel⟩⟩
    cases hz
    exact row_pair hr hu ⟨_, .base .non, kit_ty (by decide +kernel)⟩ (.inl ⟨⟨_, .base .non, kit_ty (by decide +kernel)⟩, rfl⟩)
  · refine ⟨?_, dat ⟨by decide +kernel, by decide +kernel, by decide +kernel, by decide +kernel⟩⟩
    cases hz
    exact row_pair hr hu ⟨_, .base (.int _), kit_ty (by decide +kernel)⟩ (.inl ⟨⟨_, .base (.int _), kit_ty (by decide +kernel)⟩, rfl⟩)
  · refine ⟨?_, dat ⟨by decide +kernel, by decide +kernel, by decide +kernel, by decide +kernel⟩⟩
    cases hz
    exact row_pair hr hu ⟨_, .base (.str _), kit_ty (by decide +kernel)⟩ (.inl ⟨⟨_, .base (.str _), kit_ty (by decide +kernel)⟩, rfl⟩)
  · refine ⟨?_, dat ⟨by decide +kernel, by decide +kernel, by decide +kernel, by decide +kernel⟩⟩
    obtain ⟨a, us, rfl, ha, xs⟩ := tup_dz hz
    cases xs
    exact row_pair hr hu (tl ha) (.inr (.inl ⟨a, _, rfl, .of ha, by simp, rfl⟩))
  · refine ⟨?_, dat ⟨by decide +kernel, by decide +kernel, by decide +kernel, by decide +kernel⟩⟩
    obtain ⟨a, us, rfl, ha, xs⟩ := tup_dz hz
    obtain ⟨v1, rfl, _⟩ := dz1 xs
    exact row_pair hr hu (tl ha) (.inr (.inl ⟨a, _, rfl, .of ha, by simp, rfl⟩))
  · refine ⟨?_, dat ⟨by decide +kernel, by decide +kernel, by decide +kernel, by decide +kernel⟩⟩
    obtain ⟨a, us, rfl, ha, xs⟩ := tup_dz hz
    obtain ⟨v1, v2, v3, rfl, _⟩ := dz3 xs
    exact row_pair hr hu (tl ha) (.inr (.inl ⟨a, _, rfl, .of ha, by simp, rfl⟩))
  · exact ⟨row_word ls hr hu hz (by decide +kernel) (by decide +kernel) (.inl (by decide +kernel)), dat ⟨by decide +kernel, by decide +kernel, by decide +kernel, by decide +kernel⟩⟩
  · exact ⟨row_word ls hr hu hz (by decide +kernel) (by decide +kernel) (.inl (by decide +kernel)), dat ⟨by decide +kernel, by decide +kernel, by decide +kernel, by decide +kernel⟩⟩
  · exact ⟨row_word ls hr hu hz (by decide +kernel) (by decide +kernel) (.inl (by decide +kernel)), dat ⟨by decide +kernel, by decide +kernel, by decide +kernel, by decide +kernel⟩⟩
  · exact ⟨row_word ls hr hu hz (by decide +kernel) (by decide +kernel) (.inr (by decide +kernel)), dat ⟨by decide +kernel, by decide +kernel, by decide +kernel, by decide +kernel⟩⟩
  · refine ⟨?_, dat ⟨by decide +kernel, by decide +kernel, by decide +kernel, by decide +kernel⟩⟩
    obtain ⟨a, us, rfl, ha, xs⟩ := tup_dz hz
    obtain ⟨v1, v2, rfl, x1, x2⟩ := dz2 xs
    cases x1
    exact row_pair hr hu (tl ha) (.inr (.inr ⟨a, _, _, true, false, rfl, .of ha, tt, notStr_dz x2 rfl, rfl⟩))
  · refine ⟨?_, dat ⟨by decide +kernel, by decide +kernel, by decide +kernel, by decide +kernel⟩⟩
    obtain ⟨a, us, rfl, ha, xs⟩ := tup_dz hz
    obtain ⟨v1, v2, rfl, x1, x2⟩ := dz2 xs
    cases x2
    exact row_pair hr hu (tl ha) (.inr (.inr ⟨a, _, _, false, true, rfl, .of ha, notStr_dz x1 rfl, tt, rfl⟩))
  · exact ⟨row_word ls hr hu hz (by decide +kernel) (by decide +kernel) (.inl (by decide +kernel)), dat ⟨by decide +kernel, by decide +kernel, by decide +kernel, by decide +kernel⟩⟩
  · exact ⟨row_word ls hr hu hz (by decide +kernel) (by decide +kernel) (.inl (by decide +kernel)), dat ⟨by decide +kernel, by decide +kernel, by decide +kernel, by decide +kernel⟩⟩
  · refine ⟨?_, dat ⟨by decide +kernel, by decide +kernel, by decide +kernel, by decide +kernel⟩⟩
    obtain ⟨a, us, rfl, ha, xs⟩ := tup_dz hz
    obtain ⟨v1, v2, rfl, x1, x2⟩ := dz2 xs
    cases x2
    exact row_pair hr hu (tl ha) (.inr (.inr ⟨a, _, _, false, true, rfl, .of ha, notStr_dz x1 rfl, tt, rfl⟩))
  · exact ⟨row_word ls hr hu hz (by decide +kernel) (by decide +kernel) (.inr (by decide +kernel)), dat ⟨by decide +kernel, by decide +kernel, by decide +kernel, by decide +kernel⟩⟩
/-! nine of them -/
def nineT : List Str := ["a", "b", "c", "d", "e", "f", "g", "h", "i"]
theorem nine_ok : ∀ z ∈ nineT, LW z := by decide +kernel
theorem nine_nd : nineT.Nodup := by decide +kernel
theorem nine_at : ∀ k < 9, (atI ("abcdefghi" : Str).cps.toList (k : Nat)).map (fun c => (⟨#[c]⟩ : Str)) = nineT[k]? := by decide +kernel
theorem nine_row {r : Addr} {us : List Addr} {m : Str} (hr : B r = some (.lst (us.map V.ref))) (p : Ps B us (nineT.map fun z => (("yes" : Str), z))) : RowBad K B st m (.ref r) ∧ ∃ dr, Dy B (.ref r) dr ∧ Sh 300 3 dr := by
  have l := PySem.Paired.length p
  rw [List.length_map] at l
  refine ⟨.odd (.inr ⟨_, ⟨r, rfl, .inl (.of hr)⟩, ?_, ?_⟩), lrow_data ⟨r, us, rfl, hr, p⟩ (by decide) fun o ho => ?_⟩
  · rw [List.length_map, l]; decide
  · rw [List.length_map, l]; rfl
  · obtain ⟨z, hz, rfl⟩ := List.mem_map.mp ho
    exact ⟨s_yes, lw_sms (nine_ok z hz)⟩
def nineM (st : Str) : Mv := nineT.map fun z => ((st, z), [])
theorem tell_nine (h : DrK B st es S ms W kvs mv) {p : Addr} {k9 : List (List Key × V)} (hp : B p = none) (q : Paired (LEnt B) k9 (nineM st)) : (k9.map (·.1)).Nodup ∧ Tell K (upd B p (.dT k9)) st es (.ref p) := by
  have s := same_upd (o := .dT k9) hp
  have keys : ∀ {l : List (List Key × V)} {m : Mv}, Paired (LEnt B) l m → l.map (·.1) = m.map fun e => [kInr e.1.1, kInr e.1.2] := by
    intro l m p
    induction p with
    | nil => rfl
    | cons h t ih => rw [List.map_cons, List.map_cons, ih, h.1]
  have nd : (k9.map (·.1)).Nodup := by
    rw [keys q]
    unfold nineM
    rw [List.map_map]
    refine List.pairwise_map.mpr (nine_nd.imp fun {a b} n z => n ?_)
    have z : [kInr st, kInr a] = [kInr st, kInr b] := z
    simp only [List.cons.injEq, Sum.inr.injEq, and_true, true_and] at z
    exact z
  have M : LM B k9 (nineM st) := ⟨nd, q⟩
  have l := PySem.Paired.length q
  have l9 : (nineM st).length = 9 := by unfold nineM; rw [List.length_map]; rfl
  have each : ∀ e ∈ nineM st, e.1.1 = st ∧ e.1.2 ∈ nineT ∧ e.2 = [] := fun e he => by
    obtain ⟨z, hz, rfl⟩ := List.mem_map.mp he
    exact ⟨rfl, hz, rfl⟩
  refine ⟨nd, .inr ⟨p, k9, nineM st, rfl, upd_same, movesG_up s (M.moves (K := K)).g, fun nm hn => ⟨hn, name_of h.st_lw, fun z hz => name_of (h.es_lw z hz), h.ok.ends.nodup h.ok.nd, fun e he => ?_, fun e he o ho => ?_, fun e he => ?_⟩, small_of h.lenE (by omega) (fun e he => ?_), fun f => ?_⟩, ?_⟩
  · obtain ⟨e1, e2, _⟩ := each e he
    rw [e1]
    exact ⟨name_of h.st_lw, name_of (nine_ok _ e2)⟩
  · rw [(each e he).2.2] at ho
    cases ho
  · rw [(each e he).2.2]
    exact List.nodup_nil
  · rw [(each e he).2.2]
    exact Nat.zero_le _
  · have := f.2.2 nineT nine_nd fun z hz => List.mem_map.mpr ⟨((st, z), []), List.mem_map.mpr ⟨z, hz, rfl⟩, rfl⟩
    exact absurd this (by decide)
  · have pd : ∀ {l : List (List Key × V)} {m : Mv}, Paired (LEnt B) l m → (∀ e ∈ m, e.2 = []) → ∃ ds : List PyData, Paired (fun (kv : List Key × V) d => Dy B kv.2 d ∧ Sh 300 3 d) l ds := by
      intro l m p
      induction p with
      | nil => exact fun _ => ⟨[], .nil⟩
      | @cons kv e l m h t ih =>
        intro he
        obtain ⟨ds, q⟩ := ih fun x hx => he x (List.mem_cons_of_mem _ hx)
        have e0 := he e List.mem_cons_self
        obtain ⟨d, hd⟩ := lrow_data h.2 (by rw [e0]; exact Nat.zero_le _) (fun o ho => by rw [e0] at ho; cases ho)
        exact ⟨d :: ds, .cons hd q⟩
    obtain ⟨ds, pq⟩ := pd q fun e he => (each e he).2.2
    refine dT_data upd_same (L2.Paired.mapP pq fun _ _ z => ⟨dy_up s z.1, z.2⟩) (by omega) fun kv hk => ?_
    obtain ⟨e, he, ek⟩ := lm_two M kv hk
    obtain ⟨e1, e2, _⟩ := each e he
    exact ⟨e.1.1, e.1.2, ek, by rw [e1]; exact lw_sms h.st_lw, lw_sms (nine_ok _ e2)⟩
theorem key_nine (h : DrK B st es S ms W kvs mv) {q : Addr} {ts : List Addr} {k9 : List (List Key × V)} (s : Same B H) (hq : H q = some (.lst (ts.map V.ref))) (hts : Paired (PairT B) ts k9) (e9 : Paired (LEnt B) k9 (nineM st)) {Q : VK}
    (way : ∀ p o, H p = none → Tell K (upd B p o) st es (.ref p) → Q (.ref p) (upd H p o)) : rDictT K [.ref q] H Q := by
  refine ⟨q, ts, k9, rfl, .of hq, L2.Paired.mapP hts fun _ _ ⟨q, h1, h2⟩ => ⟨q, s _ _ h1, s _ _ h2⟩, fun p hp => ?_⟩
  obtain ⟨nd, t⟩ := tell_nine (K := K) h (none_up s hp) e9
  rw [merge_self (kvs := []) nd, List.nil_append]
  exact way p _ hp t
/-! what is no dict at all -/
theorem tell_flat {v : V} {d : PyData} (dat : Dz B v d) (sh : Sh 1000 5 d) (nd : OfTy K B v "dict" false) : Tell K B st es v := ⟨.inl (.inl (.inl (.inl (.inl nd)))), d, dz_dy _ _ dat, sh.le (by omega) (by omega)⟩
end
end Q9
end
-- QOddR
section
set_option maxRecDepth 100000
set_option maxHeartbeats 4000000
namespace Q9
open PySem L2
/-! the list of odd things while it grows -/
abbrev dl (l D : Addr) (H : Hp) : Hp := del (del H D) l
theorem dl_same {l D : Addr} {H H' : Hp} (s : Same H H') : Same (dl l D H) (dl l D H') := del_same_of (del_same_of s)
theorem dl_less {l D : Addr} {H : Hp} : Same (dl l D H) H := fun b o e => del_less _ _ (del_less _ _ e)
theorem dl_in {l D b : Addr} {H : Hp} {o : HO} (n1 : b ≠ l) (n2 : b ≠ D) (e : H b = some o) : dl l D H b = some o := by
  show del (del H D) l b = _
  rw [del_ne n1, del_ne n2]
  exact e
theorem dl_but {l D : Addr} {H H' : Hp} (s : But D H H') : Same (dl l D H) (dl l D H') := fun b o e => by
  have n1 : b ≠ l := fun z => by rw [z] at e; exact nomatch (show del (del H D) l l = some o from e).symm.trans del_same
  have e1 : del H D b = some o := by rw [← e]; show _ = del (del H D) l b; rw [del_ne n1]
  have n2 : b ≠ D := fun z => by rw [z] at e1; exact nomatch e1.symm.trans del_same
  rw [del_ne n2] at e1
  exact dl_in n1 n2 (s b o n2 e1)
theorem dl_new {l D p : Addr} {H : Hp} {o : HO} (n1 : p ≠ l) (n2 : p ≠ D) : Same (upd (dl l D H) p o) (dl l D (upd H p o)) := fun b u e => by
  by_cases z : b = p
  · subst z
    rw [upd_same] at e
    rw [← e]
    exact dl_in n1 n2 upd_same
  · rw [upd_ne z] at e
    have := dl_less _ _ e
    have n3 : b ≠ l := fun z => by rw [z] at e; exact nomatch (show del (del H D) l l = some u from e).symm.trans del_same
    have e1 : del H D b = some u := by rw [← e]; show _ = del (del H D) l b; rw [del_ne n3]
    have n4 : b ≠ D := fun z => by rw [z] at e1; exact nomatch e1.symm.trans del_same
    exact dl_in n3 n4 (by rw [upd_ne z]; exact this)
theorem well_but {l D : Addr} {H H' : Hp} (n : l ≠ D) (w : Well H l) (s : But D H H') : Well H' l := by
  obtain ⟨a, b, c, h1, h2⟩ := w
  exact ⟨a, b, c, s _ _ n h1, h2⟩
theorem well_at {l : Addr} {H : Hp} (w : Well H l) : ∃ xs, H l = some (.lst xs) := by
  obtain ⟨a, b, c, h1, h2⟩ := w
  exact ⟨_, h1⟩
structure Om (K : PySem.W.Frag) (l D : Addr) (st : Str) (es : List Str) (H0 H' : Hp) (n : Nat) : Prop where
  but : But D H0 H'
  at_ : ∃ ws, H' D = some (.lst ws) ∧ ws.length = n ∧ ∀ x ∈ ws, Tell K (dl l D H') st es x
theorem Om.same {K : PySem.W.Frag} {l D : Addr} {st : Str} {es : List Str} {H0 H' H2 : Hp} {n : Nat} (h : Om K l D st es H0 H' n) (s : Same H' H2) : Om K l D st es H0 H2 n := by
  obtain ⟨b, ws, e, len, t⟩ := h
  exact ⟨b.trans (But.of s), ws, s _ _ e, len, fun x hx => (t x hx).up (dl_same s)⟩
section
variable {K : PySem.W.Frag} {st : Str} {es : List Str}
/-- a name set to a list that is written, its items told ahead of it -/
theorem seq_lst {f : Hp → Hp} {t : TA} {g : TG} {rest : TS} {D : Ends} {σ : L2.St} {H : Hp} (ds : List PyData) (a : LitA f t σ H ds) (n : ds.length ≤ 1000) (q : ∀ vs H1, Same H H1 → DzAll (f H1) vs ds → ∀ p, H1 p = none → g (.ref p) σ (upd H1 p (.lst vs)) fun σ' H2 => rest D σ' H2) : tSeq (tAsg (tLst t) g) rest D σ H :=
  a H _ (Same.refl H) fun vs H1 s z => ⟨by rw [dzAll_len z]; exact Nat.le_of_lt (small1000 n), fun p hp => q vs H1 s z p hp⟩
/-- what is new stands aside of the source and the list -/
structure Fr2 (l D : Addr) (H : Hp) : Prop where
  l : ∃ o, H l = some o
  d : ∃ o, H D = some o
theorem Fr2.up {l D : Addr} {H H' : Hp} (s : Same H H') (h : Fr2 l D H) : Fr2 l D H' := ⟨h.l.imp fun _ e => s _ _ e, h.d.imp fun _ e => s _ _ e⟩
theorem ne_at {H : Hp} {p b : Addr} (hp : H p = none) (hb : ∃ o, H b = some o) : p ≠ b := fun z => by
  obtain ⟨o, hb⟩ := hb
  rw [z, hb] at hp
  cases hp
theorem Fr2.new {l D p : Addr} {H : Hp} {o : HO} (h : Fr2 l D H) (hp : H p = none) : dl l D (upd H p o) p = some o := dl_in (ne_at hp h.l) (ne_at hp h.d) upd_same
/-- for .. in a list that is written -/
theorem seq_for {K : PySem.W.Frag} {f : Hp → Hp} {t : TE} {g : TG} {tb rest : TS} {D : Ends} {σ : L2.St} {H : Hp} (ds : List PyData) (a : Lit f t σ H (.list ds)) (q : ∀ p vs H1, Same H H1 → f H1 p = some (.lst vs) → DzAll (f H1) vs ds → tSeq (tFor (iList K (tC (.ref p))) g tb) rest D σ H1) : tSeq (tFor (iList K t) g tb) rest D σ H :=
  a H _ (Same.refl H) fun v H1 s z => by
    obtain ⟨p, vs, rfl, hp, zs⟩ := lst_dz z
    exact q p vs H1 s hp zs
/-- one more dict -/
theorem add_dict {σ : L2.St} {H0 H : Hp} {l D m : Addr} {kvs : List (List Key × V)} {n : Nat} {tP : TE} {Q : VK} (o : Om K l D st es H0 H n) (few : n ≤ 100) (e6 : σ[6]? = some (some (.ref D))) (e1 : σ[1]? = some (some (.ref m))) (hw : Well H l) (nD : D ≠ l) (hm : H m = some (.dT kvs))
    (Fa : Hp → Addr → Prop) (up : ∀ H1 H2 t, Same H1 H2 → Fa H1 t → Fa H2 t) (few2 : kvs.length ≤ 100) (tp : ∀ H1 Q1, Same H H1 → (∀ t H2, Same H1 H2 → Fa H2 t → Q1 (.ref t) H2) → tP σ H1 Q1)
    (way : ∀ H2 q ts t Q2, Same H H2 → H2 q = some (.lst ((ts ++ [t]).map V.ref)) → Paired (PairT (dl l D H2)) ts kvs → Fa H2 t → (∀ p u, H2 p = none → Tell K (upd (dl l D H2) p u) st es (.ref p) → Q2 (.ref p) (upd H2 p u)) → rDictA K [.ref q] H2 Q2)
    (q : ∀ H3, Om K l D st es H0 H3 (n + 1) → But D H H3 → Q .non H3) :
    tBM K "list" rAppend (tVar 6) (tCons (tCB (rDictA K) (tCons (tOp rCat (tListItemsT (tVar 1)) (tLst (tCons tP tNil))) tNil)) tNil) σ H Q := by
  obtain ⟨bt, ws, hD, len, tl⟩ := o
  obtain ⟨xl, hl⟩ := well_at hw
  refine ⟨_, e6, .inl ⟨rfl, _, .of hD⟩, _, e1, m, kvs, rfl, hm, fun H1 p ts s1 np nts npts hp pr => ?_⟩
  refine tp H1 _ s1 fun t H2 s2 fa => ?_
  have lts : ts.length = kvs.length := PySem.Paired.length pr
  refine ⟨by show 1 ≤ sizeLine; decide, fun p2 np2 => ?_⟩
  have s3 := same_upd (o := .lst [.ref t]) np2
  have hp2 : upd H2 p2 (.lst [.ref t]) p2 = some (.lst [.ref t]) := upd_same
  have sA : Same H (upd H2 p2 (.lst [.ref t])) := fun b o z => s3 _ _ (s2 _ _ (s1 _ _ z))
  have sB : Same H1 (upd H2 p2 (.lst [.ref t])) := fun b o z => s3 _ _ (s2 _ _ z)
  have fa3 := up _ _ _ s3 fa
  generalize upd H2 p2 (.lst [.ref t]) = H3 at hp2 sA sB fa3 ⊢
  refine ⟨p, p2, _, _, rfl, rfl, sB _ _ hp, hp2, ?_, fun p3 np3 => ?_⟩
  · rw [List.length_map, lts]
    exact Nat.le_trans (by show kvs.length + 1 ≤ 101; omega) (by decide)
  have s4 := same_upd (o := .lst (ts.map V.ref ++ [V.ref t])) np3
  have hp3 : upd H3 p3 (.lst (ts.map V.ref ++ [V.ref t])) p3 = some (.lst ((ts ++ [t]).map V.ref)) := by rw [List.map_append]; exact upd_same
  have sC : Same H (upd H3 p3 (.lst (ts.map V.ref ++ [V.ref t]))) := fun b o z => s4 _ _ (sA _ _ z)
  have sD : Same H1 (upd H3 p3 (.lst (ts.map V.ref ++ [V.ref t]))) := fun b o z => s4 _ _ (sB _ _ z)
  have fa4 := up _ _ _ s4 fa3
  generalize upd H3 p3 _ = H4 at hp3 sC sD fa4 ⊢
  have hD4 := sC _ _ hD
  have hl4 := sC _ _ hl
  have tup : ∀ b us, H4 b = some (.tup us) → dl l D H4 b = some (.tup us) := fun b us e => dl_in (fun z => by rw [z, hl4] at e; cases e) (fun z => by rw [z, hD4] at e; cases e) e
  refine way H4 p3 ts t _ sC hp3 (L2.Paired.mapP pr fun _ _ ⟨q, h1, h2⟩ => ⟨q, tup _ _ (sD _ _ h1), tup _ _ (sD _ _ h2)⟩) fa4 fun p5 u np5 tell => ?_
  have n1 : p5 ≠ l := fun z => by rw [z, hl4] at np5; cases np5
  have n2 : p5 ≠ D := fun z => by rw [z, hD4] at np5; cases np5
  have s5 := same_upd (o := u) np5
  have tell5 := tell.up (dl_new n1 n2)
  have sE : Same H (upd H4 p5 u) := fun b o z => s5 _ _ (sC _ _ z)
  generalize upd H4 p5 u = H5 at s5 tell5 sE ⊢
  refine ⟨D, ws, .ref p5, rfl, rfl, sE _ _ hD, by rw [len]; exact Nat.lt_of_le_of_lt few (by decide), q _ ⟨fun b o ne e => ?_, ws ++ [.ref p5], upd_same, by rw [List.length_append, len]; rfl, fun x hx => ?_⟩ fun b o ne e => ?_⟩
  · rw [upd_ne ne]
    exact sE _ _ (bt _ _ ne e)
  · rcases List.mem_append.mp hx with hx | hx
    · exact (tl x hx).up (dl_but ((But.of sE).trans But.upd))
    · rw [List.mem_singleton.mp hx]
      exact tell5.up (dl_but But.upd)
  · rw [upd_ne ne]
    exact sE _ _ e
theorem om_add {H0 H : Hp} {l D p : Addr} {n : Nat} {u : HO} {Q : VK} (o : Om K l D st es H0 H n) (few : n ≤ 100) (hw : Well H l) (hp : H p = none) (tell : Tell K (upd (dl l D H) p u) st es (.ref p))
    (q : ∀ H3, Om K l D st es H0 H3 (n + 1) → But D H H3 → Q .non H3) : rAppend (.ref D) [.ref p] (upd H p u) Q := by
  obtain ⟨bt, ws, hD, len, tl⟩ := o
  obtain ⟨xl, hl⟩ := well_at hw
  have tell5 := tell.up (dl_new (ne_at hp ⟨_, hl⟩) (ne_at hp ⟨_, hD⟩))
  have sE := same_upd (o := u) hp
  generalize upd H p u = H5 at tell5 sE ⊢
  refine ⟨D, ws, .ref p, rfl, rfl, sE _ _ hD, by rw [len]; exact Nat.lt_of_le_of_lt few (by decide), q _ ⟨fun b o ne e => ?_, ws ++ [.ref p], upd_same, by rw [List.length_append, len]; rfl, fun x hx => ?_⟩ fun b o ne e => ?_⟩
  · rw [upd_ne ne]
    exact sE _ _ (bt _ _ ne e)
  · rcases List.mem_append.mp hx with hx | hx
    · exact (tl x hx).up (dl_but ((But.of sE).trans But.upd))
    · rw [List.mem_singleton.mp hx]
      exact tell5.up (dl_but But.upd)
  · rw [upd_ne ne]
    exact sE _ _ e
/-- a third one aside -/
abbrev dl3 (l D L : Addr) (H : Hp) : Hp := del (dl l D H) L
theorem dl3_less {l D L : Addr} {H : Hp} : Same (dl3 l D L H) (dl l D H) := del_less
theorem dl3_same {l D L : Addr} {H H' : Hp} (s : Same H H') : Same (dl3 l D L H) (dl3 l D L H') := del_same_of (dl_same s)
theorem dl3_but {l D L : Addr} {H H' : Hp} (s : But L H H') : Same (dl3 l D L H) (dl3 l D L H') := fun b o e => by
  have n1 : b ≠ L := fun z => by rw [z] at e; exact nomatch (show del (dl l D H) L L = some o from e).symm.trans del_same
  have e1 : dl l D H b = some o := by rw [← e]; show _ = del (dl l D H) L b; rw [del_ne n1]
  have n2 : b ≠ l := fun z => by rw [z] at e1; exact nomatch (show del (del H D) l l = some o from e1).symm.trans del_same
  have e2 : del H D b = some o := by rw [← e1]; show _ = del (del H D) l b; rw [del_ne n2]
  have n3 : b ≠ D := fun z => by rw [z] at e2; exact nomatch e2.symm.trans del_same
  rw [del_ne n3] at e2
  show del (dl l D H') L b = some o
  rw [del_ne n1]
  exact dl_in n2 n3 (s b o n1 e2)
theorem Fr2.new3 {l D L p : Addr} {H : Hp} {o : HO} (h : Fr2 l D H) (hL : ∃ o, H L = some o) (hp : H p = none) : dl3 l D L (upd H p o) p = some o := by
  show del (dl l D (upd H p o)) L p = some o
  rw [del_ne (ne_at hp hL)]
  exact h.new hp
end
end Q9
end
-- QOddM
section
set_option maxRecDepth 100000
set_option maxHeartbeats 8000000
namespace Q9
open PySem L2
/-! moves that are none, drawn -/
def spOddM (K : PySem.W.Frag) : Sp := fun vs H Q _ => ∃ (l m sp : Addr) (st : Str) (es S ms W : List Str) (kvs : List (List Key × V)) (mv : Mv), vs = [.ref l, .ref m, .ref sp] ∧ Well H l ∧ m ≠ l ∧ H m = some (.dT kvs) ∧ DrK (del H l) st es S ms W kvs mv ∧ sp ≠ l ∧ H sp = some (.lst [.str st]) ∧
  ∀ (H' : Hp) (v : V), But l H H' → Well H' l → Tell K (del H' l) st es v → Q v H'
abbrev omN : List Str := ["_law_well", "_law_moves", "_law_states", "_law_state", "_law_method", "_law_bad", "_law_some", "_law_odd", "_law_nine", "_law_k"]
theorem scOm : FnScope omN ["_law_well", "_law_moves", "_law_states"] (defScope sOddM) := ⟨rfl, rfl, rfl, by decide +kernel, rfl, by decide +kernel, by decide +kernel⟩
structure TOm (K : PySem.W.Frag) (mg : Str → Option Value) (fP : Addr) : Prop where
  gP : mg "_law_pick" = some (.ref fP)
  kP : PySem.W.keepIn K (.ref fP) = true
  lst : mg "list" = none
  dict : mg "dict" = none
  range : mg "range" = none
theorem flat_six {K : PySem.W.Frag} {B : Hp} {st mt : Str} {es : List Str} {v : V} {d : PyData} (ls : LW st) (lm : LW mt) (hd : d ∈ ([.none, .int 5, .list [], .tuple [], .str "moves", .list [.tuple [.tuple [.str st, .str mt], .list []]]] : List PyData)) (hz : Dz B v d) : Tell K B st es v := by
  have s1 := lw_sms ls
  have s2 := lw_sms lm
  simp only [List.mem_cons, List.not_mem_nil, or_false] at hd
  rcases hd with rfl | rfl | rfl | rfl | rfl | rfl
  · refine tell_flat hz ⟨by decide +kernel, by decide +kernel, by decide +kernel, by decide +kernel⟩ ?_
    cases hz
    exact ⟨_, .base .non, kit_ty (by decide +kernel)⟩
  · refine tell_flat hz ⟨by decide +kernel, by decide +kernel, by decide +kernel, by decide +kernel⟩ ?_
    cases hz
    exact ⟨_, .base (.int _), kit_ty (by decide +kernel)⟩
  · refine tell_flat hz ⟨by decide +kernel, by decide +kernel, by decide +kernel, by decide +kernel⟩ ?_
    obtain ⟨a, us, rfl, ha, _⟩ := lst_dz hz
    exact ⟨_, .base (.lst ha), kit_ty (by decide +kernel)⟩
  · refine tell_flat hz ⟨by decide +kernel, by decide +kernel, by decide +kernel, by decide +kernel⟩ ?_
    obtain ⟨a, us, rfl, ha, _⟩ := tup_dz hz
    exact ⟨_, .base (.tup ha), kit_ty (by decide +kernel)⟩
  · refine tell_flat hz ⟨by decide +kernel, by decide +kernel, by decide +kernel, by decide +kernel⟩ ?_
    cases hz
    exact ⟨_, .base (.str _), kit_ty (by decide +kernel)⟩
  · refine tell_flat hz ((sh_lst (shA_cons (n := 22) (k := 2) (sh_tup (shA_cons (n := 20) (k := 1) ((sh_tup (shA_cons (sh_sms s1) (shA_cons (sh_sms s2) (shA_nil (n := 0))))).le (by omega) (by omega : 0 + 1 ≤ 1)) (shA_cons (n := 0) (sh_lst shA_nil) (shA_nil (n := 0)))) |> fun z => z.le (by omega) (by omega)) (shA_nil (n := 0)))).le (by omega) (by omega)) ?_
    obtain ⟨a, us, rfl, ha, _⟩ := lst_dz hz
    exact ⟨_, .base (.lst ha), kit_ty (by decide +kernel)⟩
section
variable {P : Program} {w : World} {K : PySem.W.Frag} {mg : Str → Option Value} {base : Heap} {fP : Addr}
theorem ok_oddM {f : Addr} {fd dP : FuncData} (F : Fun K "_law_odd_moves" "_law_odd_moves" sOddM f fd) (T : TOm K mg fP) (GP : FnOk P w K mg base CX0 2 fP dP ["_law_well", "_law_some"] (spPickL K)) (bP : Binds K dP ["_law_well", "_law_some"] []) :
    FnOk P w K mg base CX0 3 f fd ["_law_well", "_law_moves", "_law_states"] (spOddM K) := by
  refine F.ok scOm (fun vs H Q E h => ?_) (fun cdv A outer s H vs Q E hr h => ?_)
  · obtain ⟨l, m, sp, st, es, S, ms, W, kvs, mv, rfl, _⟩ := h
    rfl
  · obtain ⟨l, m, sp, st, es, S, ms, W, kvs, mv, rfl, hw, nm, hm, hd, nsp, hsp, q⟩ := h
    have hu65 : (A.deeper (PyProof.Rows.envOfC "_law_odd_moves" (defScope sOddM) s.heap.objs.size f cdv)).units + 65 < cLine := by have := hr.un; omega
    have hu2 : (A.deeper (PyProof.Rows.envOfC "_law_odd_moves" (defScope sOddM) s.heap.objs.size f cdv)).in1.in1.units < cLine := by
      show (A.deeper (PyProof.Rows.envOfC "_law_odd_moves" (defScope sOddM) s.heap.objs.size f cdv)).units + 1 + 1 < cLine
      omega
    refine ⟨_, pss_cons (ps_asg (pe_tup (pa_cons (pe_ix ix_list (pv 2) pe_int (fun _ _ => rfl)) (pa_cons (pe_call GP (hr.mono (by omega)) (by rfl) T.gP T.kP bP .nil pass0 (pa_cons (pv 0) (pa_cons (pe_lst (pa_cons pe_str (pa_cons pe_str pa_nil))) pa_nil))) pa_nil))) (pg_tup rfl (pgs_cons (pg_name (i := 3) scOm.nd rfl (.inr rfl)) (pgs_cons (pg_name (i := 4) scOm.nd rfl (.inl rfl)) pgs_nil))))
      (pss_cons (ps_set (i := 5) scOm.nd rfl (.inl rfl) (pe_lst (pa_cons pe_non (pa_cons pe_int (pa_cons pe_str (pa_cons (pe_tup pa_nil) (pa_cons (pe_tup (pa_cons pe_str pa_nil)) (pa_cons (pe_tup (pa_cons pe_str (pa_cons pe_str (pa_cons pe_str pa_nil)))) (pa_cons (pe_tup (pa_cons pe_str (pa_cons pe_str pa_nil))) (pa_cons (pe_tup (pa_cons pe_str (pa_cons pe_str pa_nil))) (pa_cons (pe_tup (pa_cons pe_str (pa_cons pe_str pa_nil))) (pa_cons (pe_tup (pa_cons pe_str (pa_cons pe_str pa_nil))) pa_nil))))))))))))
      (pss_cons (ps_set (i := 5) scOm.nd rfl (.inl rfl) (pe_op op_cat (pv 5) (pe_lst (pa_cons (pe_tup (pa_cons pe_str (pa_cons pe_non pa_nil))) (pa_cons (pe_tup (pa_cons pe_bl (pa_cons pe_str pa_nil))) (pa_cons (pe_tup (pa_cons pe_str (pa_cons pe_str pa_nil))) (pa_cons (pe_tup (pa_cons pe_str (pa_cons pe_str pa_nil))) (pa_cons (pe_tup (pa_cons pe_dnewT (pa_cons pe_str pa_nil))) (pa_cons (pe_tup (pa_cons pe_str (pa_cons pe_str pa_nil))) pa_nil)))))))))
      (pss_cons (ps_set (i := 6) scOm.nd rfl (.inl rfl) (pe_lst (pa_cons pe_non (pa_cons pe_int (pa_cons (pe_lst pa_nil) (pa_cons (pe_tup pa_nil) (pa_cons pe_str (pa_cons (pe_lst (pa_cons (pe_tup (pa_cons (pe_tup (pa_cons (pv 3) (pa_cons (pv 4) pa_nil))) (pa_cons (pe_lst pa_nil) pa_nil))) pa_nil)) pa_nil))))))))
      (pss_cons (ps_for PassesOwn.never rfl (pi_list (pe_lst (pa_cons pe_non (pa_cons pe_str (pa_cons (pe_tup (pa_cons (pv 3) pa_nil)) (pa_cons (pe_tup (pa_cons (pv 3) (pa_cons pe_str pa_nil))) (pa_cons (pe_tup (pa_cons pe_str (pa_cons (pv 4) pa_nil))) (pa_cons (pe_tup (pa_cons (pv 3) (pa_cons (pv 4) (pa_cons pe_str pa_nil)))) (pa_cons (pe_tup (pa_cons pe_int (pa_cons (pv 4) pa_nil))) (pa_cons (pe_tup (pa_cons (pv 3) (pa_cons pe_bl pa_nil))) pa_nil)))))))))) (pg_name (i := 7) scOm.nd rfl (.inl rfl))
        (pss_one (ps_expr (pe_bm PySem.F.plainAttrs_list PySem.F.slot_list_append PySem.F.type_list_append mt_append (pv 6) (pa_cons (pe_callTy (cr_dictA (by rfl) hu2) (by rfl) T.dict (by decide +kernel) (pa_cons (pe_op op_cat (pe_listItemsT (by rfl) (pv 1) (by rfl) T.lst (by decide +kernel)) (pe_lst (pa_cons (pe_tup (pa_cons (pv 7) (pa_cons (pe_lst pa_nil) pa_nil))) pa_nil))) pa_nil)) pa_nil)))))
      (pss_cons (ps_for PassesOwn.never rfl (pi_list (pe_lst (pa_cons pe_non (pa_cons pe_int (pa_cons pe_str (pa_cons pe_dnewT (pa_cons (pe_lst (pa_cons (pe_tup (pa_cons pe_str (pa_cons (pv 3) pa_nil))) (pa_cons (pe_tup (pa_cons pe_str (pa_cons (pv 3) pa_nil))) (pa_cons (pe_tup (pa_cons pe_str (pa_cons (pv 3) pa_nil))) pa_nil)))) (pa_cons (pe_lst (pa_cons (pe_lst (pa_cons pe_str (pa_cons (pv 3) pa_nil))) (pa_cons (pe_tup (pa_cons pe_str (pa_cons (pv 3) pa_nil))) pa_nil))) pa_nil)))))))) (pg_name (i := 7) scOm.nd rfl (.inl rfl))
        (pss_one (ps_expr (pe_bm PySem.F.plainAttrs_list PySem.F.slot_list_append PySem.F.type_list_append mt_append (pv 6) (pa_cons (pe_callTy (cr_dictA (by rfl) hu2) (by rfl) T.dict (by decide +kernel) (pa_cons (pe_op op_cat (pe_listItemsT (by rfl) (pv 1) (by rfl) T.lst (by decide +kernel)) (pe_lst (pa_cons (pe_tup (pa_cons (pe_tup (pa_cons (pv 3) (pa_cons (pv 4) pa_nil))) (pa_cons (pv 7) pa_nil))) pa_nil))) pa_nil)) pa_nil)))))
      (pss_cons (ps_for PassesOwn.never rfl (pi_list (pv 5)) (pg_name (i := 7) scOm.nd rfl (.inl rfl))
        (pss_one (ps_expr (pe_bm PySem.F.plainAttrs_list PySem.F.slot_list_append PySem.F.type_list_append mt_append (pv 6) (pa_cons (pe_callTy (cr_dictA (by rfl) hu2) (by rfl) T.dict (by decide +kernel) (pa_cons (pe_op op_cat (pe_listItemsT (by rfl) (pv 1) (by rfl) T.lst (by decide +kernel)) (pe_lst (pa_cons (pe_tup (pa_cons (pe_tup (pa_cons (pv 3) (pa_cons (pv 4) pa_nil))) (pa_cons (pe_lst (pa_cons (pe_tup (pa_cons pe_str (pa_cons (pv 3) pa_nil))) (pa_cons (pv 7) pa_nil))) pa_nil))) pa_nil))) pa_nil)) pa_nil)))))
      (pss_cons (ps_setLc (i := 8) (te := tTup (tCons (tC (.str "yes")) (tCons (tOp rIxS (tC (.str "abcdefghi")) (tVar 9)) tNil))) (own := [("_law_k", 9)]) (g := gName 9) (tt := tYes) (by rfl) scOm.nd rfl rfl (sw_true rfl rfl rfl (by decide +kernel)) (pi_range1 (by rfl) T.range (pa_cons pe_int pa_nil)) (blkOk_by (own := [("_law_k", 9)]) (N := omN) (sc := defScope sOddM) (by decide +kernel))
          (fun _ _ _ _ _ => pg_name (i := 9) scOm.nd rfl (.inl rfl)) (fun _ _ _ _ _ => pts_nil)
          (fun _ _ _ _ _ => pe_tup (pa_cons pe_str (pa_cons (pe_ix ix_str pe_str (pv 9) (fun _ _ => rfl)) pa_nil))))
      (pss_cons (ps_expr (pe_bm PySem.F.plainAttrs_list PySem.F.slot_list_append PySem.F.type_list_append mt_append (pv 6) (pa_cons (pe_callTy (cr_dictA (by rfl) hu2) (by rfl) T.dict (by decide +kernel) (pa_cons (pe_op op_cat (pe_listItemsT (by rfl) (pv 1) (by rfl) T.lst (by decide +kernel)) (pe_lst (pa_cons (pe_tup (pa_cons (pe_tup (pa_cons (pv 3) (pa_cons (pv 4) pa_nil))) (pa_cons (pv 8) pa_nil))) pa_nil))) pa_nil)) pa_nil)))
      (pss_cons (ps_expr (pe_bm PySem.F.plainAttrs_list PySem.F.slot_list_append PySem.F.type_list_append mt_append (pv 6) (pa_cons (pe_callTy (cr_dictA (by rfl) hu2) (by rfl) T.dict (by decide +kernel)
          (pa_cons (pe_lc (te := tTup (tCons (tTup (tCons (tVar 3) (tCons (tOp rIxS (tC (.str "abcdefghi")) (tVar 9)) tNil))) (tCons (tLst tNil) tNil))) (own := [("_law_k", 9)]) (g := gName 9) (tt := tYes) rfl scOm.nd (pi_range1 (by rfl) T.range (pa_cons pe_int pa_nil)) (blkOk_by (own := [("_law_k", 9)]) (N := omN) (sc := defScope sOddM) (by decide +kernel))
            (fun _ _ _ _ _ => pg_name (i := 9) scOm.nd rfl (.inl rfl)) (fun _ _ _ _ _ => pts_nil)
            (fun _ _ _ _ _ => pe_tup (pa_cons (pe_tup (pa_cons (pv 3) (pa_cons (pe_ix ix_str pe_str (pv 9) (fun _ _ => rfl)) pa_nil))) (pa_cons (pe_lst pa_nil) pa_nil)))) pa_nil)) pa_nil)))
      (pss_one (ps_ret (pe_call GP (hr.mono (by omega)) (by rfl) T.gP T.kP bP .nil pass0 (pa_cons (pv 0) (pa_cons (pv 6) pa_nil)))))))))))))), ?_⟩
    refine ⟨_, rfl, sp, [.str st], 0, .str st, rfl, rfl, .of hsp, rfl, ?_⟩
    refine ⟨_, rfl, (by show 2 ≤ sizeLine; decide), fun p0 np0 => ?_⟩
    have s0 := same_upd (o := .lst [.str "read", .str "zz"]) np0
    refine ⟨l, p0, [.str "read", .str "zz"], rfl, well_same s0 hw, .of upd_same, new_ne hw np0, by decide, by decide, fun k x o1 hx w1 => ?_⟩
    have b1 : But l H (upd (upd H p0 (.lst [.str "read", .str "zz"])) l o1) := (But.of s0).trans But.upd
    generalize upd (upd H p0 _) l o1 = H1 at b1 w1 ⊢
    obtain ⟨mt, rfl, lmt⟩ : ∃ mt : Str, x = .str mt ∧ LW mt := by
      match k, hx with
      | 0, hx => exact ⟨"read", (Option.some.inj hx).symm, by decide +kernel⟩
      | 1, hx => exact ⟨"zz", (Option.some.inj hx).symm, by decide +kernel⟩
      | k + 2, hx => cases hx
    refine ⟨by show 2 ≤ sizeLine; decide, fun p1 np1 => ?_⟩
    have s1 := same_upd (o := .tup [.str st, .str mt]) np1
    have h1 : upd H1 p1 (.tup [.str st, .str mt]) p1 = some (.tup [.str st, .str mt]) := upd_same
    have b2 := b1.trans (But.of s1)
    have w2 := well_same s1 w1
    generalize upd H1 p1 _ = H2 at h1 b2 w2 ⊢
    clear s0 s1 b1 w1
    refine ⟨p1, _, rfl, .of h1, rfl, _, _, rfl, _, _, rfl, rfl, ?_⟩
    have ld : ∃ xl, H2 l = some (.lst xl) := well_at w2
    obtain ⟨xl, hl⟩ := ld
    have A2 : Aside H2 (fun H => del H l) := aside1 hl
    dsimp only
    refine seq_lit (f := fun H => del H l) (.list ([.none, .int 5, .str "yes", .tuple [], .tuple [.str "yes"], .tuple [.str "yes", .str "a", .str "b"], .tuple [.str "YES!", .str "a"], .tuple [.str "maybe", .str "a"], .tuple [.str "", .str "a"], .tuple [.str "no", .str "A"]] : List PyData)) ?_ fun v1 H3 s3 z3 => ?_
    · exact lit_lst A2 (litA_cons A2 (lit_c fun _ => .non) (litA_cons A2 (lit_c fun _ => .int 5) (litA_cons A2 (lit_c fun _ => .str _) (litA_cons A2 (lit_tup A2 litA_nil (by decide)) (litA_cons A2 (lit_tup A2 (litA_cons A2 (lit_c fun _ => .str _) litA_nil) (by decide)) (litA_cons A2 (lit_tup A2 (litA_cons A2 (lit_c fun _ => .str _) (litA_cons A2 (lit_c fun _ => .str _) (litA_cons A2 (lit_c fun _ => .str _) litA_nil))) (by decide))
        (litA_cons A2 (lit_tup A2 (litA_cons A2 (lit_c fun _ => .str _) (litA_cons A2 (lit_c fun _ => .str _) litA_nil)) (by decide)) (litA_cons A2 (lit_tup A2 (litA_cons A2 (lit_c fun _ => .str _) (litA_cons A2 (lit_c fun _ => .str _) litA_nil)) (by decide)) (litA_cons A2 (lit_tup A2 (litA_cons A2 (lit_c fun _ => .str _) (litA_cons A2 (lit_c fun _ => .str _) litA_nil)) (by decide)) (litA_cons A2 (lit_tup A2 (litA_cons A2 (lit_c fun _ => .str _) (litA_cons A2 (lit_c fun _ => .str _) litA_nil)) (by decide)) litA_nil)))))))))) (by decide)
    have A3 : Aside H3 (fun H => del H l) := aside1 (s3 _ _ hl)
    dsimp only [gName]
    refine seq_lit (f := fun H => del H l) (.list oddOs) ?_ fun v2 H4 s4 z4 => ?_
    · exact lit_cat A3 (lit_var A3 rfl z3) (lit_lst A3 (litA_cons A3 (lit_tup A3 (litA_cons A3 (lit_c fun _ => .str _) (litA_cons A3 (lit_c fun _ => .non) litA_nil)) (by decide)) (litA_cons A3 (lit_tup A3 (litA_cons A3 (lit_c fun _ => .bl _) (litA_cons A3 (lit_c fun _ => .str _) litA_nil)) (by decide)) (litA_cons A3 (lit_tup A3 (litA_cons A3 (lit_c fun _ => .str _) (litA_cons A3 (lit_c fun _ => .str _) litA_nil)) (by decide))
        (litA_cons A3 (lit_tup A3 (litA_cons A3 (lit_c fun _ => .str _) (litA_cons A3 (lit_c fun _ => .str _) litA_nil)) (by decide)) (litA_cons A3 (lit_tup A3 (litA_cons A3 (lit_dic A3) (litA_cons A3 (lit_c fun _ => .str _) litA_nil)) (by decide)) (litA_cons A3 (lit_tup A3 (litA_cons A3 (lit_c fun _ => .str _) (litA_cons A3 (lit_c fun _ => .str _) litA_nil)) (by decide)) litA_nil)))))) (by decide)) (by decide)
    have s24 : Same H2 H4 := fun b o z => s4 _ _ (s3 _ _ z)
    have b4 := b2.trans (But.of s24)
    have w4 := well_same s24 w2
    have hl4 := s24 _ _ hl
    clear A2 A3 z3 s3 s4 s24 b2 w2 h1 hl
    have A4 : Aside H4 (fun H => del H l) := aside1 hl4
    dsimp only [gName]
    obtain ⟨bad, bs, rfl, hbad, zbad⟩ := lst_dz z4
    clear z4
    refine seq_lst (f := fun H => del H l) [.none, .int 5, .list [], .tuple [], .str "moves", .list [.tuple [.tuple [.str st, .str mt], .list []]]] ?_ (Nat.le_of_ble_eq_true rfl) fun vs H5 s5 z5 D nD => ?_
    · exact litA_cons A4 (lit_c fun _ => .non) (litA_cons A4 (lit_c fun _ => .int 5) (litA_cons A4 (lit_lst A4 litA_nil (by decide)) (litA_cons A4 (lit_tup A4 litA_nil (by decide)) (litA_cons A4 (lit_c fun _ => .str _)
      (litA_cons A4 (lit_lst A4 (litA_cons A4 (lit_tup A4 (litA_cons A4 (lit_tup A4 (litA_cons A4 (lit_var A4 rfl (.str st)) (litA_cons A4 (lit_var A4 rfl (.str mt)) litA_nil)) (Nat.le_of_ble_eq_true rfl)) (litA_cons A4 (lit_lst A4 litA_nil (by decide)) litA_nil)) (Nat.le_of_ble_eq_true rfl)) litA_nil) (Nat.le_of_ble_eq_true rfl)) litA_nil)))))
    clear A4
    have hl5 := s5 _ _ hl4
    have nDl : D ≠ l := fun z => by rw [z, hl5] at nD; cases nD
    have dl5 : ∀ {G : Hp}, Same G (del H5 l) → Same G (dl l D (upd H5 D (.lst vs))) := fun s b o e => by
      have e1 := s _ _ e
      have n1 : b ≠ l := fun z => by rw [z, del_same] at e1; cases e1
      rw [del_ne n1] at e1
      exact dl_in n1 (ne_of_none e1 nD) (by rw [upd_ne (ne_of_none e1 nD)]; exact e1)
    have dr : DrK (dl l D (upd H5 D (.lst vs))) st es S ms W kvs mv := hd.up (dl5 fun b o e => by
      have n1 : b ≠ l := fun z => by rw [z, del_same] at e; cases e
      rw [del_ne n1] at e ⊢
      exact s5 _ _ (b4 _ _ n1 e))
    have zb : DzAll (dl l D (upd H5 D (.lst vs))) bs oddOs := dzAll_same (dl5 (same_del s5)) zbad
    have hb : dl l D (upd H5 D (.lst vs)) bad = some (.lst bs) := dl5 (same_del s5) _ _ hbad
    have om : Om K l D st es (upd H5 D (.lst vs)) (upd H5 D (.lst vs)) 6 := ⟨fun b o _ e => e, vs, upd_same, dzAll_len z5, fun x hx => by
      obtain ⟨d, hd, hz⟩ := dzAll_mem (dzAll_same (dl5 (Same.refl _)) z5) hx
      exact flat_six dr.st_lw lmt hd hz⟩
    have hm6 : dl l D (upd H5 D (.lst vs)) m = some (.dT kvs) := dl5 (Same.refl _) _ _ (by rw [del_ne nm]; exact s5 _ _ (b4 _ _ nm hm))
    have w6 : Well (upd H5 D (.lst vs)) l := well_but (fun z => nDl z.symm) (well_same s5 w4) But.upd
    have b6 : But l H (upd H5 D (.lst vs)) := b4.trans (But.of fun b o e => by rw [upd_ne (ne_of_none (s5 _ _ e) nD)]; exact s5 _ _ e)
    have lk : kvs.length ≤ 100 := by have := dr.len; have := PySem.Paired.length dr.lm.ent; omega
    have nHD : H D = none := by
      cases e : H D with
      | none => rfl
      | some o => rw [s5 _ _ (b4 _ _ nDl e)] at nD; cases nD
    generalize upd H5 D (.lst vs) = H6 at dr zb hb om hm6 w6 b6 ⊢
    clear dl5 z5 s5 hl5 hl4 w4 b4 zbad hbad nD
    have hl6 : ∃ xs, H6 l = some (.lst xs) := well_at w6
    dsimp only [gName]
    obtain ⟨xl6, hl6⟩ := hl6
    have dk : ∀ {H' : Hp}, Om K l D st es H6 H' 6 → True := fun _ => trivial
    obtain ⟨ws6, hD6, _, _⟩ := om.at_
    have A6 : Aside H6 (dl l D) := aside2 hl6 hD6
    refine seq_for (f := dl l D) (oddKs st mt) ?_ fun p7 xs7 H7 s7 h7 z7 => ?_
    · exact (lit_lst A6 (litA_cons A6 (lit_c fun _ => .non) (litA_cons A6 (lit_c fun _ => .str _) (litA_cons A6 (lit_tup A6 (litA_cons A6 (lit_var A6 rfl (.str st)) litA_nil) (Nat.le_of_ble_eq_true rfl)) (litA_cons A6 (lit_tup A6 (litA_cons A6 (lit_var A6 rfl (.str st)) (litA_cons A6 (lit_c fun _ => .str _) litA_nil)) (Nat.le_of_ble_eq_true rfl)) (litA_cons A6 (lit_tup A6 (litA_cons A6 (lit_c fun _ => .str _) (litA_cons A6 (lit_var A6 rfl (.str mt)) litA_nil)) (Nat.le_of_ble_eq_true rfl)) (litA_cons A6 (lit_tup A6 (litA_cons A6 (lit_var A6 rfl (.str st)) (litA_cons A6 (lit_var A6 rfl (.str mt)) (litA_cons A6 (lit_c fun _ => .str _) litA_nil))) (Nat.le_of_ble_eq_true rfl)) (litA_cons A6 (lit_tup A6 (litA_cons A6 (lit_c fun _ => .int _) (litA_cons A6 (lit_var A6 rfl (.str mt)) litA_nil)) (Nat.le_of_ble_eq_true rfl)) (litA_cons A6 (lit_tup A6 (litA_cons A6 (lit_var A6 rfl (.str st)) (litA_cons A6 (lit_c fun _ => .bl _) litA_nil)) (Nat.le_of_ble_eq_true rfl)) litA_nil)))))))) (Nat.le_of_ble_eq_true rfl))
    have lx7 := dzAll_len z7
    have om7 : Om K l D st es H6 H7 6 := om.same s7
    have w7 := well_same s7 w6
    have hp7 := dl_less _ _ h7
    have np7 : p7 ≠ D := fun z => by
      have e := h7
      rw [z] at e
      have n1 : D ≠ l := nDl
      have e : del (del H7 D) l D = some (.lst xs7) := e
      rw [del_ne n1, del_same] at e
      cases e
    refine ⟨p7, rfl, ⟨_, .of hp7⟩, for_list (K := K) (a := p7) (xs := xs7) (fun i σ H' => ∃ v7 : Option V, σ = [some (.ref l), some (.ref m), some (.ref sp), some (.str st), some (.str mt), some (.ref bad), some (.ref D), v7, none, none] ∧ Om K l D st es H6 H' (6 + i) ∧ But D H7 H')
      ⟨_, rfl, om7, fun b o _ e => e⟩ (fun i σ H' _ ⟨_, _, _, b⟩ => .of (b _ _ np7 hp7)) ?_ ?_⟩
    · rintro i y σ H' hi ⟨v7, rfl, om', b⟩
      obtain ⟨d, hd, hz⟩ := dzAll_at z7 hi
      have li : i < (oddKs st mt).length := (List.getElem?_eq_some_iff.mp hd).1
      have li : i < 8 := li
      have dr' := dr.up (dl_but om'.but)
      have w' := well_but (fun z => nDl z.symm) w7 b
      have hm' : H' m = some (.dT kvs) := dl_less _ _ (dl_but (l := l) om'.but _ _ hm6)
      have hz' := dz_same (dl_but (l := l) b) hz
      obtain ⟨xl', hl'⟩ := well_at w'
      obtain ⟨ws', hD', _, _⟩ := om'.at_
      refine add_dict om' (by omega) rfl rfl w' nDl hm' (fun H t => ∃ e, dl l D H t = some (.tup [y, .ref e]) ∧ dl l D H e = some (.lst [])) (fun H1 H2 t s ⟨e, a, b⟩ => ⟨e, dl_same s _ _ a, dl_same s _ _ b⟩) lk (fun H1 Q1 s k => ?_) (fun H2 q2 ts t Q2 s hq pr ⟨e, ht, he⟩ k => ?_) (fun H3 o3 b3 => ⟨_, rfl, o3, b.trans b3⟩)
      · have fr : Fr2 l D H1 := Fr2.up s ⟨⟨_, hl'⟩, ⟨_, hD'⟩⟩
        exact ⟨_, rfl, Nat.zero_le _, fun e ne => ⟨by show 2 ≤ sizeLine; decide, fun t nt => k t _ ((same_upd ne).trans (same_upd nt)) ⟨e, (fr.up (same_upd ne)).new nt, dl_same (same_upd nt) _ _ (fr.new ne)⟩⟩⟩
      · exact odd_key (dr'.up (dl_same s)) lmt (List.mem_of_getElem? hd) (dz_same (dl_same s) hz') ⟨dl_less, ⟨ts, hq, pr⟩, ht⟩ he k
    rintro σ H8 ⟨v8, rfl, om8, b78⟩
    rw [lx7] at om8
    have om8 : Om K l D st es H6 H8 14 := om8
    clear A6 z7 lx7 om7 w7 hp7 np7 h7 s7 b78 hD6
    have s8 := dl_but (l := l) om8.but
    have w8 := well_but (fun z => nDl z.symm) w6 om8.but
    obtain ⟨xl8, hl8⟩ := well_at w8
    obtain ⟨ws8, hD8, _, _⟩ := id om8.at_
    have A8 : Aside H8 (dl l D) := aside2 hl8 hD8
    dsimp only
    refine seq_for (f := dl l D) (oddVs st) ?_ fun p9 xs9 H9 s9 h9 z9 => ?_
    · exact (lit_lst A8 (litA_cons A8 (lit_c fun _ => .non) (litA_cons A8 (lit_c fun _ => .int _) (litA_cons A8 (lit_c fun _ => .str _) (litA_cons A8 (lit_dic A8) (litA_cons A8 (lit_lst A8 (litA_cons A8 (lit_tup A8 (litA_cons A8 (lit_c fun _ => .str _) (litA_cons A8 (lit_var A8 rfl (.str st)) litA_nil)) (Nat.le_of_ble_eq_true rfl)) (litA_cons A8 (lit_tup A8 (litA_cons A8 (lit_c fun _ => .str _) (litA_cons A8 (lit_var A8 rfl (.str st)) litA_nil)) (Nat.le_of_ble_eq_true rfl)) (litA_cons A8 (lit_tup A8 (litA_cons A8 (lit_c fun _ => .str _) (litA_cons A8 (lit_var A8 rfl (.str st)) litA_nil)) (Nat.le_of_ble_eq_true rfl)) litA_nil))) (Nat.le_of_ble_eq_true rfl)) (litA_cons A8 (lit_lst A8 (litA_cons A8 (lit_lst A8 (litA_cons A8 (lit_c fun _ => .str _) (litA_cons A8 (lit_var A8 rfl (.str st)) litA_nil)) (Nat.le_of_ble_eq_true rfl)) (litA_cons A8 (lit_tup A8 (litA_cons A8 (lit_c fun _ => .str _) (litA_cons A8 (lit_var A8 rfl (.str st)) litA_nil)) (Nat.le_of_ble_eq_true rfl)) litA_nil)) (Nat.le_of_ble_eq_true rfl)) litA_nil)))))) (Nat.le_of_ble_eq_true rfl))
    have lx9 := dzAll_len z9
    have om9 : Om K l D st es H6 H9 14 := om8.same s9
    have w9 := well_same s9 w8
    have hp9 := dl_less _ _ h9
    have np9 : p9 ≠ D := fun z => by
      have e := h9
      rw [z] at e
      have n1 : D ≠ l := nDl
      have e : del (del H9 D) l D = some (.lst xs9) := e
      rw [del_ne n1, del_same] at e
      cases e
    refine ⟨p9, rfl, ⟨_, .of hp9⟩, for_list (K := K) (a := p9) (xs := xs9) (fun i σ H' => ∃ v7 : Option V, σ = [some (.ref l), some (.ref m), some (.ref sp), some (.str st), some (.str mt), some (.ref bad), some (.ref D), v7, none, none] ∧ Om K l D st es H6 H' (14 + i) ∧ But D H9 H')
      ⟨_, rfl, om9, fun b o _ e => e⟩ (fun i σ H' _ ⟨_, _, _, b⟩ => .of (b _ _ np9 hp9)) ?_ ?_⟩
    · rintro i y σ H' hi ⟨v7, rfl, om', b⟩
      obtain ⟨d, hd, hz⟩ := dzAll_at z9 hi
      have li : i < (oddVs st).length := (List.getElem?_eq_some_iff.mp hd).1
      have li : i < 6 := li
      have dr' := dr.up (dl_but om'.but)
      have w' := well_but (fun z => nDl z.symm) w9 b
      have hm' : H' m = some (.dT kvs) := dl_less _ _ (dl_but (l := l) om'.but _ _ hm6)
      have hz' := dz_same (dl_but (l := l) b) hz
      obtain ⟨xl', hl'⟩ := well_at w'
      obtain ⟨ws', hD', _, _⟩ := id om'.at_
      refine add_dict om' (by omega) rfl rfl w' nDl hm' (fun H t => ∃ u, dl l D H t = some (.tup [.ref u, y]) ∧ dl l D H u = some (.tup [.str st, .str mt])) (fun H1 H2 t s ⟨e, a, b⟩ => ⟨e, dl_same s _ _ a, dl_same s _ _ b⟩) lk (fun H1 Q1 s k => ?_) (fun H2 q2 ts t Q2 s hq pr ⟨u, ht, hu⟩ k => ?_) (fun H3 o3 b3 => ⟨_, rfl, o3, b.trans b3⟩)
      · have fr : Fr2 l D H1 := Fr2.up s ⟨⟨_, hl'⟩, ⟨_, hD'⟩⟩
        exact ⟨_, rfl, _, rfl, by show 2 ≤ sizeLine; decide, fun u nu => ⟨_, rfl, by show 2 ≤ sizeLine; decide, fun t nt => k t _ ((same_upd nu).trans (same_upd nt)) ⟨u, (fr.up (same_upd nu)).new nt, dl_same (same_upd nt) _ _ (fr.new nu)⟩⟩⟩
      · have dr2 := dr'.up (dl_same s)
        have z2 := dz_same (dl_same (l := l) (D := D) s) hz'
        obtain ⟨bad2, sh2⟩ := odd_val (K := K) dr2.st_lw lmt (List.mem_of_getElem? hd) z2
        exact .inr (key_t dr2 ⟨dl_less, ⟨ts, hq, pr⟩, ht⟩ hu (lw_sms dr2.st_lw) (lw_sms lmt) (dz_dy _ _ z2) sh2 bad2 k)
    rintro σ H10 ⟨v10, rfl, om10, b910⟩
    rw [lx9] at om10
    have om10 : Om K l D st es H6 H10 20 := om10
    clear A8 z9 lx9 om9 w9 hp9 np9 h9 s9 b910 hD8 hl8 w8 s8 om8 hl6
    have w10 := well_but (fun z => nDl z.symm) w6 om10.but
    dsimp only
    have hb10 : H10 bad = some (.lst bs) := dl_less _ _ (dl_but (l := l) om10.but _ _ hb)
    have nbD : bad ≠ D := fun z => by
      have e := hb
      rw [z] at e
      have n1 : D ≠ l := nDl
      have e : del (del H6 D) l D = some (.lst bs) := e
      rw [del_ne n1, del_same] at e
      cases e
    have lxb := dzAll_len zb
    refine ⟨_, rfl, bad, rfl, ⟨_, .of hb10⟩, for_list (K := K) (a := bad) (xs := bs) (fun i σ H' => ∃ v7 : Option V, σ = [some (.ref l), some (.ref m), some (.ref sp), some (.str st), some (.str mt), some (.ref bad), some (.ref D), v7, none, none] ∧ Om K l D st es H6 H' (20 + i))
      ⟨_, rfl, om10⟩ (fun i σ H' _ ⟨_, _, o⟩ => .of (dl_less _ _ (dl_but (l := l) o.but _ _ hb))) ?_ ?_⟩
    · rintro i y σ H' hi ⟨v7, rfl, om'⟩
      obtain ⟨d, hd, hz⟩ := dzAll_at zb hi
      have li : i < oddOs.length := (List.getElem?_eq_some_iff.mp hd).1
      have li : i < 16 := li
      have dr' := dr.up (dl_but om'.but)
      have w' := well_but (fun z => nDl z.symm) w6 om'.but
      have hm' : H' m = some (.dT kvs) := dl_less _ _ (dl_but (l := l) om'.but _ _ hm6)
      have hz' := dz_same (dl_but (l := l) om'.but) hz
      obtain ⟨xl', hl'⟩ := well_at w'
      obtain ⟨ws', hD', _, _⟩ := id om'.at_
      refine add_dict om' (by omega) rfl rfl w' nDl hm' (fun H t => ∃ u r n, dl l D H t = some (.tup [.ref u, .ref r]) ∧ dl l D H u = some (.tup [.str st, .str mt]) ∧ dl l D H r = some (.lst [.ref n, y]) ∧ dl l D H n = some (.tup [.str "no", .str st]))
        (fun H1 H2 t s ⟨u, r, n, a, b, c, d⟩ => ⟨u, r, n, dl_same s _ _ a, dl_same s _ _ b, dl_same s _ _ c, dl_same s _ _ d⟩) lk (fun H1 Q1 s k => ?_) (fun H2 q2 ts t Q2 s hq pr ⟨u, r, n, ht, hu, hr2, hn⟩ k => ?_) (fun H3 o3 b3 => ⟨_, rfl, o3⟩)
      · have fr : Fr2 l D H1 := Fr2.up s ⟨⟨_, hl'⟩, ⟨_, hD'⟩⟩
        refine ⟨_, rfl, _, rfl, by show 2 ≤ sizeLine; decide, fun u nu => ?_⟩
        have fu := fr.new (o := .tup [.str st, .str mt]) nu
        have su := same_upd (o := .tup [.str st, .str mt]) nu
        have fr := fr.up su
        refine ⟨_, rfl, by show 2 ≤ sizeLine; decide, fun n nn => ⟨_, rfl, by show 2 ≤ sizeLine; decide, fun r nr => ⟨by show 2 ≤ sizeLine; decide, fun t nt => ?_⟩⟩⟩
        have fn := fr.new (o := .tup [.str "no", .str st]) nn
        have sn := same_upd (o := .tup [.str "no", .str st]) nn
        have fr := fr.up sn
        have fr2 := fr.new (o := .lst [.ref n, y]) nr
        have sr := same_upd (o := .lst [.ref n, y]) nr
        have fr := fr.up sr
        have ft := fr.new (o := .tup [.ref u, .ref r]) nt
        have stt := same_upd (o := .tup [.ref u, .ref r]) nt
        exact k t _ (su.trans (sn.trans (sr.trans stt))) ⟨u, r, n, ft, dl_same (sn.trans (sr.trans stt)) _ _ fu, dl_same stt _ _ fr2, dl_same (sr.trans stt) _ _ fn⟩
      · have dr2 := dr'.up (dl_same s)
        have z2 := dz_same (dl_same (l := l) (D := D) s) hz'
        obtain ⟨bad2, dd, dy2, sh2⟩ := odd_out (K := K) (m := mt) dr2.st_lw (List.mem_of_getElem? hd) z2 hr2 hn
        exact .inr (key_t dr2 ⟨dl_less, ⟨ts, hq, pr⟩, ht⟩ hu (lw_sms dr2.st_lw) (lw_sms lmt) dy2 sh2 bad2 k)
    rintro σ H11 ⟨v11, rfl, om11⟩
    rw [lxb] at om11
    have om11 : Om K l D st es H6 H11 36 := om11
    clear hb10 om10 w10
    have w11 := well_but (fun z => nDl z.symm) w6 om11.but
    dsimp only
    refine ⟨9, rfl, by decide, by decide, fun L nL => ?_⟩
    have fr11 : Fr2 l D H11 := ⟨(by obtain ⟨xs, e⟩ := well_at w11; exact ⟨_, e⟩), (by obtain ⟨ws, e, _⟩ := om11.at_; exact ⟨_, e⟩)⟩
    refine lc_range (n := 9) (fun j H' => Same H11 H' ∧ ∃ us : List Addr, H' L = some (.lst (us.map V.ref)) ∧ Ps (dl3 l D L H') us ((nineT.take j).map fun z => (("yes" : Str), z))) ⟨same_upd nL, [], upd_same, .nil⟩ ?_ ?_
    · rintro j H' lt ⟨sj, us, hL, ps⟩
      refine ⟨rfl, ?_⟩
      dsimp only [tYes]
      rw [if_pos rfl]
      have e9 := nine_at j lt
      rw [List.getElem?_eq_getElem (show j < nineT.length from lt)] at e9
      obtain ⟨c, hc, e9⟩ := Option.map_eq_some_iff.mp e9
      refine ⟨_, rfl, _, _, c, rfl, rfl, by decide +kernel, by rw [Int.zero_add]; exact hc, by show 2 ≤ sizeLine; decide, fun u nu => ?_⟩
      have fr := fr11.up sj
      have fu := fr.new3 (o := .tup [.str "yes", .str ⟨#[c]⟩]) ⟨_, hL⟩ nu
      have su := same_upd (o := .tup [.str "yes", .str ⟨#[c]⟩]) nu
      have lu := PySem.Paired.length ps
      rw [List.length_map, List.length_take] at lu
      have k2 : Same (dl3 l D L (upd H' u (.tup [.str "yes", .str ⟨#[c]⟩]))) (dl3 l D L (upd (upd H' u (.tup [.str "yes", .str ⟨#[c]⟩])) L (.lst (us.map V.ref ++ [.ref u])))) := dl3_but But.upd
      refine ⟨_, su _ _ hL, by rw [List.length_map, PySem.sizeLine_eq]; omega, fun b o e => by rw [upd_ne (ne_of_none e nL)]; exact su _ _ (sj _ _ e), us ++ [u], by rw [List.map_append]; exact upd_same, ?_⟩
      rw [take_one_more (List.getElem?_eq_getElem (show j < nineT.length from lt)), List.map_append, ← e9]
      exact paired_append (L2.Paired.mapP ps fun _ _ z => k2 _ _ (dl3_same su _ _ z)) (.cons (k2 _ _ fu) .nil)
    rintro H12 ⟨s12, us, hL, ps⟩
    have om12 := om11.same s12
    have w12 := well_same s12 w11
    clear om11 w11
    dsimp only [gName]
    have hLd : dl l D H12 L = some (.lst (us.map V.ref)) := dl_in (ne_at nL fr11.l) (ne_at nL fr11.d) hL
    have ps : Ps (dl l D H12) us (nineT.map fun z => (("yes" : Str), z)) := L2.Paired.mapP ps fun _ _ z => dl3_less _ _ z
    have fr12 := fr11.up s12
    have dr12 := dr.up (dl_but om12.but)
    have hm12 : H12 m = some (.dT kvs) := dl_less _ _ (dl_but (l := l) om12.but _ _ hm6)
    refine add_dict om12 (by omega) rfl rfl w12 nDl hm12 (fun H t => ∃ u, dl l D H t = some (.tup [.ref u, .ref L]) ∧ dl l D H u = some (.tup [.str st, .str mt])) (fun H1 H2 t s ⟨e, a, b⟩ => ⟨e, dl_same s _ _ a, dl_same s _ _ b⟩) lk (fun H1 Q1 s k => ?_) (fun H2 q2 ts t Q2 s hq pr ⟨u, ht, hu⟩ k => ?_) (fun H13 om13 b13 => ?_)
    · have fr := fr12.up s
      exact ⟨_, rfl, _, rfl, by show 2 ≤ sizeLine; decide, fun u nu => ⟨_, rfl, by show 2 ≤ sizeLine; decide, fun t nt => k t _ ((same_upd nu).trans (same_upd nt)) ⟨u, (fr.up (same_upd nu)).new nt, dl_same (same_upd nt) _ _ (fr.new nu)⟩⟩⟩
    · have dr2 := dr12.up (dl_same s)
      obtain ⟨bad2, dd, dy2, sh2⟩ := nine_row (K := K) (st := st) (m := mt) (dl_same s _ _ hLd) (L2.Paired.mapP ps fun _ _ z => dl_same (l := l) (D := D) s _ _ z)
      exact .inr (key_t dr2 ⟨dl_less, ⟨ts, hq, pr⟩, ht⟩ hu (lw_sms dr2.st_lw) (lw_sms lmt) dy2 sh2 bad2 k)
    have w13 := well_but (fun z => nDl z.symm) w12 b13
    have om13 : Om K l D st es H6 H13 37 := om13
    clear fr11 nL s12 hL ps hLd fr12 dr12 hm12 om12 w12 b13
    dsimp only
    have fr13 : Fr2 l D H13 := ⟨(by obtain ⟨xs, e⟩ := well_at w13; exact ⟨_, e⟩), (by obtain ⟨ws, e, _⟩ := om13.at_; exact ⟨_, e⟩)⟩
    obtain ⟨ws13, hD13, _, _⟩ := id om13.at_
    refine ⟨_, rfl, .inl ⟨rfl, _, .of hD13⟩, 9, rfl, by decide, by decide, fun LL nLL => ?_⟩
    refine lc_range (n := 9) (fun j H' => Same H13 H' ∧ ∃ (ts : List Addr) (k9 : List (List Key × V)), H' LL = some (.lst (ts.map V.ref)) ∧ Paired (PairT (dl3 l D LL H')) ts k9 ∧ Paired (LEnt (dl3 l D LL H')) k9 ((nineT.take j).map fun z => ((st, z), []))) ⟨same_upd nLL, [], [], upd_same, .nil, .nil⟩ ?_ ?_
    · rintro j H' lt ⟨sj, ts, k9, hL, pt, pe⟩
      refine ⟨rfl, ?_⟩
      dsimp only [tYes]
      rw [if_pos rfl]
      have e9 := nine_at j lt
      rw [List.getElem?_eq_getElem (show j < nineT.length from lt)] at e9
      obtain ⟨c, hc, e9⟩ := Option.map_eq_some_iff.mp e9
      refine ⟨_, rfl, _, rfl, _, _, c, rfl, rfl, by decide +kernel, by rw [Int.zero_add]; exact hc, by show 2 ≤ sizeLine; decide, fun u nu => ⟨Nat.zero_le _, fun e ne => ⟨by show 2 ≤ sizeLine; decide, fun t nt => ?_⟩⟩⟩
      have fr := fr13.up sj
      have fu := fr.new3 (o := .tup [.str st, .str ⟨#[c]⟩]) ⟨_, hL⟩ nu
      have su := same_upd (o := .tup [.str st, .str ⟨#[c]⟩]) nu
      have fe := (fr.up su).new3 (o := .lst []) ⟨_, su _ _ hL⟩ ne
      have se := same_upd (o := .lst []) ne
      have ft := ((fr.up su).up se).new3 (o := .tup [.ref u, .ref e]) ⟨_, se _ _ (su _ _ hL)⟩ nt
      have stt := same_upd (o := .tup [.ref u, .ref e]) nt
      have fu := dl3_same (se.trans stt) _ _ fu
      have fe := dl3_same stt _ _ fe
      have sA : Same H' (upd (upd (upd H' u (.tup [.str st, .str ⟨#[c]⟩])) e (.lst [])) t (.tup [.ref u, .ref e])) := su.trans (se.trans stt)
      generalize upd (upd (upd H' u (.tup [.str st, .str ⟨#[c]⟩])) e (.lst [])) t (.tup [.ref u, .ref e]) = H9 at fu fe ft sA ⊢
      have lu := PySem.Paired.length pe
      have lt2 := PySem.Paired.length pt
      rw [List.length_map, List.length_take] at lu
      have k2 : Same (dl3 l D LL H9) (dl3 l D LL (upd H9 LL (.lst (ts.map V.ref ++ [.ref t])))) := dl3_but But.upd
      have k1 : Same (dl3 l D LL H') (dl3 l D LL (upd H9 LL (.lst (ts.map V.ref ++ [.ref t])))) := (dl3_same sA).trans k2
      refine ⟨_, sA _ _ hL, by rw [List.length_map, PySem.sizeLine_eq]; omega, fun b o e => by rw [upd_ne (ne_of_none e nLL)]; exact sA _ _ (sj _ _ e), ts ++ [t], k9 ++ [([kInr st, kInr ⟨#[c]⟩], .ref e)], by rw [List.map_append]; exact upd_same, paired_append (L2.Paired.mapP pt fun _ _ ⟨q, a, b⟩ => ⟨q, k1 _ _ a, k1 _ _ b⟩) (.cons ⟨u, k2 _ _ ft, k2 _ _ fu⟩ .nil), ?_⟩
      rw [take_one_more (List.getElem?_eq_getElem (show j < nineT.length from lt)), List.map_append, ← e9]
      exact paired_append (L2.Paired.mapP pe fun _ _ ⟨a, b, us, h1, h2, h3⟩ => ⟨a, b, us, h1, k1 _ _ h2, h3.same k1⟩) (.cons ⟨rfl, e, [], rfl, k2 _ _ fe, .nil⟩ .nil)
    rintro H14 ⟨s14, ts, k9, hL, pt, pe⟩
    have om14 := om13.same s14
    have w14 := well_same s14 w13
    have dr14 := dr.up (dl_but om14.but)
    refine .inr (key_nine dr14 dl_less hL (L2.Paired.mapP pt fun _ _ ⟨q, a, b⟩ => ⟨q, dl3_less _ _ a, dl3_less _ _ b⟩) (L2.Paired.mapP pe fun _ _ ⟨a, b, us, h1, h2, h3⟩ => ⟨a, b, us, h1, dl3_less _ _ h2, h3.same dl3_less⟩) fun p u np tell => ?_)
    dsimp only [tNil]
    refine om_add om14 (by omega) w14 np tell fun H15 om15 b15 => ?_
    have w15 := well_but (fun z => nDl z.symm) w14 b15
    obtain ⟨bt, ws, hD, lw, tl⟩ := om15
    refine ⟨_, rfl, _, rfl, l, D, ws, rfl, w15, .of hD, nDl, by omega, by omega, fun k x o hx w16 => ?_⟩
    refine q _ x (fun b o ne e => ?_) w16 ((tl x (List.mem_of_getElem? hx)).up fun b u e => ?_)
    · rw [upd_ne ne]
      exact bt _ _ (ne_of_none e nHD) (b6 _ _ ne e)
    · have e1 := dl_less _ _ e
      have n1 : b ≠ l := fun z => by rw [z] at e; exact nomatch (show del (del H15 D) l l = some u from e).symm.trans del_same
      rw [del_ne n1, upd_ne n1]
      exact e1
end
end Q9
end
-- QPartsX
section
set_option maxRecDepth 100000
set_option maxHeartbeats 4000000
namespace Q9
open PySem L2
theorem asg_lit {f : Hp → Hp} {t : TE} {g : TG} {D : Ends} {σ : L2.St} {H : Hp} (d : PyData) (a : Lit f t σ H d) (q : ∀ v H', Same H H' → Dz (f H') v d → g v σ H' D.nx) : tAsg t g D σ H := a H _ (Same.refl H) q
/-! names and ends that are none -/
section
variable {K : PySem.W.Frag} {B H : Hp}
def oddNs : List PyData := [.str "", .str "Ab", .str "abcdefghi", .none, .int 5, .str "a b", .str "a1", .list [.str "a"], .bool true, .tuple [.str "a"], .dict []]
theorem odd_name {v : V} {d : PyData} (hd : d ∈ oddNs) (hz : Dz B v d) : NoName K B v := by
  have tx : ∀ {z : Str}, d = .str z → z.length ≤ sizeLine → nameB z = false → NoName K B v := fun e l n => by
    subst e
    cases hz
    exact .inl ⟨_, rfl, l, n⟩
  have nx : textD d = none → NoName K B v := fun e => .inr (notStr_dz hz e)
  unfold oddNs at hd
  simp only [List.mem_cons, List.not_mem_nil, or_false] at hd
  rcases hd with rfl | rfl | rfl | rfl | rfl | rfl | rfl | rfl | rfl | rfl | rfl
  · exact tx rfl (by decide +kernel) (by decide +kernel)
  · exact tx rfl (by decide +kernel) (by decide +kernel)
  · exact tx rfl (by decide +kernel) (by decide +kernel)
  · exact nx rfl
  · exact nx rfl
  · exact tx rfl (by decide +kernel) (by decide +kernel)
  · exact tx rfl (by decide +kernel) (by decide +kernel)
  · exact nx rfl
  · exact nx rfl
  · exact nx rfl
  · exact nx rfl
def lostDs (st : Str) : List PyData := [.none, .int 5, .str "ab", .dict [], .list [.str "A"], .list [.str st, .str st], .list [.none], .tuple [.str ""], .list [.list [.str "a"]], .list [.str st, .int 5], .list [.bool true], .list [.str "abcdefghi"]]
theorem lost_ends {nm st : Str} {v : V} {d : PyData} (ln : nameB nm = true) (ls : LW st) (hd : d ∈ lostDs st) (hz : Dz B v d) : BadParts K B (.str nm) (.str st) v "ends" ∧ Sh 60 3 d := by
  have s1 := lw_sms ls
  have n1 := name_of ls
  have nx : rowD d = none → BadParts K B (.str nm) (.str st) v "ends" := fun e => .ends rfl ln rfl n1 (.inl (notRow_dz hz e))
  have rx : ∀ {xs : List PyData}, rowD d = some xs → xs.all smD = true → xs.length ≤ 10 → ((xs.map nmD).all id) = false → BadParts K B (.str nm) (.str st) v "ends" := fun e sm l no => by
    obtain ⟨vs, row, zs⟩ := row_dz (K := K) hz e
    exact .ends rfl ln rfl n1 (.inr ⟨vs, _, row, itemsB zs sm, by rw [dzAll_len zs]; exact Nat.lt_of_le_of_lt (Nat.succ_le_succ l) (by decide), no⟩)
  unfold lostDs at hd
  simp only [List.mem_cons, List.not_mem_nil, or_false] at hd
  rcases hd with rfl | rfl | rfl | rfl | rfl | rfl | rfl | rfl | rfl | rfl | rfl | rfl
  · exact ⟨nx rfl, by decide +kernel, by decide +kernel, by decide +kernel, by decide +kernel⟩
  · exact ⟨nx rfl, by decide +kernel, by decide +kernel, by decide +kernel, by decide +kernel⟩
  · exact ⟨nx rfl, by decide +kernel, by decide +kernel, by decide +kernel, by decide +kernel⟩
  · exact ⟨nx rfl, by decide +kernel, by decide +kernel, by decide +kernel, by decide +kernel⟩
  · exact ⟨rx rfl (by decide +kernel) (by decide +kernel) (by decide +kernel), by decide +kernel, by decide +kernel, by decide +kernel, by decide +kernel⟩
  · obtain ⟨a, us, rfl, ha, xs⟩ := lst_dz hz
    obtain ⟨v1, v2, rfl, x1, x2⟩ := dz2 xs
    cases x1; cases x2
    refine ⟨.twice (ss := [st, st]) rfl ln rfl n1 ⟨a, rfl, .inl (.of ha)⟩ (fun z hz => ?_) (by show 2 + 1 < scanBound; decide) ?_, (sh_lst (shA_cons (sh_sms s1) (shA_cons (sh_sms s1) (shA_nil (n := 0))))).le (by omega) (by omega : 0 + 1 ≤ 3)⟩
    · simp only [List.mem_cons, List.not_mem_nil, or_false] at hz
      rcases hz with rfl | rfl
      · exact sms_len s1
      · exact sms_len s1
    · rw [decide_eq_false (fun z => (List.nodup_cons.mp z).1 List.mem_cons_self), Bool.and_false]
  · exact ⟨rx rfl (by decide +kernel) (by decide +kernel) (by decide +kernel), by decide +kernel, by decide +kernel, by decide +kernel, by decide +kernel⟩
  · exact ⟨rx rfl (by decide +kernel) (by decide +kernel) (by decide +kernel), by decide +kernel, by decide +kernel, by decide +kernel, by decide +kernel⟩
  · exact ⟨rx rfl (by decide +kernel) (by decide +kernel) (by decide +kernel), by decide +kernel, by decide +kernel, by decide +kernel, by decide +kernel⟩
  · refine ⟨rx (xs := [.str st, .int 5]) rfl ?_ (Nat.le_of_ble_eq_true rfl) ?_, (sh_lst (shA_cons (sh_sms s1) (shA_cons (n := 9) (k := 0) ⟨by decide +kernel, by decide +kernel, by decide +kernel, by decide +kernel⟩ (shA_nil (n := 0))))).le (by omega) (by omega : 0 + 1 ≤ 3)⟩
    · rw [List.all_cons]
      have : smD (.str st) = true := decide_eq_true (Nat.le_trans (show st.cps.size ≤ 9 from s1.1) (by decide))
      rw [this]
      rfl
    · show (nmD (.str st) && (false && true)) = false
      rw [Bool.false_and, Bool.and_false]
  · exact ⟨rx rfl (by decide +kernel) (by decide +kernel) (by decide +kernel), by decide +kernel, by decide +kernel, by decide +kernel, by decide +kernel⟩
  · exact ⟨rx rfl (by decide +kernel) (by decide +kernel) (by decide +kernel), by decide +kernel, by decide +kernel, by decide +kernel, by decide +kernel⟩
/-! what is said: five things -/
def saidD : List PyData := [.str "name", .str "start", .str "ends", .str "moves", .none]
theorem dp_said {a : Addr} (h : H a = some (.lst [.str "name", .str "start", .str "ends", .str "moves", .non])) : Dp K H (.ref a) (.list saidD) := .lst (.of h) (.cons (.str _) (.cons (.str _) (.cons (.str _) (.cons (.str _) (.cons .non .nil)))))
theorem said_shaped : SeqAt.shaped (.list saidD) = true := by decide +kernel
theorem said_same : (!PyData.eqv (.list saidD) (.list saidD)) = false := same_data said_shaped
end
/-! the two that are right -/
def eightT : List Str := ["a", "b", "c", "d", "e", "f", "g", "h"]
theorem eight_at : ∀ k < 8, (atI ("abcdefgh" : Str).cps.toList (k : Nat)).map (fun c => (⟨#[c]⟩ : Str)) = eightT[k]? := by decide +kernel
def rowE : List (Str × Str) := eightT.map fun y => (("no" : Str), y)
def eightM : Mv := eightT.map fun z => ((("a" : Str), z), rowE)
theorem e_names : ∀ z ∈ eightT, nameB z = true := by decide +kernel
theorem e_a : nameB ("a" : Str) = true := by decide +kernel
theorem e_z : nameB ("z" : Str) = true := by decide +kernel
theorem e_mem : ∀ e ∈ eightM, e.1.1 = "a" ∧ e.1.2 ∈ eightT ∧ e.2 = rowE := fun e he => by
  obtain ⟨z, hz, rfl⟩ := List.mem_map.mp he
  exact ⟨rfl, hz, rfl⟩
theorem row_mem : ∀ o ∈ rowE, wordB o.1 = true ∧ o.2 ∈ eightT := fun o ho => by
  obtain ⟨z, hz, rfl⟩ := List.mem_map.mp ho
  exact ⟨w_no, hz⟩
theorem eight_fit : RightParts "abcdefgh" "z" [] eightM ∧ Small "z" [] eightM ∧ Fits "z" [] eightM := by
  refine ⟨⟨by decide +kernel, e_z, fun z hz => (nomatch hz), List.nodup_nil, fun e he => ?_, fun e he o ho => ?_, fun e he => ?_⟩, small_of (Nat.zero_le _) (by decide +kernel) (fun e he => ?_), fun e he => ?_, fun ys nd sub => ?_, fun zs nd sub => ?_⟩
  · obtain ⟨e1, e2, _⟩ := e_mem e he
    rw [e1]
    exact ⟨e_a, e_names _ e2⟩
  · rw [(e_mem e he).2.2] at ho
    exact ⟨(row_mem o ho).1, e_names _ (row_mem o ho).2⟩
  · rw [(e_mem e he).2.2]
    decide +kernel
  · rw [(e_mem e he).2.2]
    decide +kernel
  · rw [(e_mem e he).2.2]
    decide +kernel
  · refine Nat.le_trans (nodup_le ys ("z" :: eightT) nd fun z hz => ?_) (by decide +kernel)
    rcases mem_states.mp (sub z hz) with rfl | hz | ⟨e, he, rfl | ⟨o, ho, rfl⟩⟩
    · exact List.mem_cons_self
    · cases hz
    · rw [(e_mem e he).1]
      decide +kernel
    · rw [(e_mem e he).2.2] at ho
      exact List.mem_cons_of_mem _ (row_mem o ho).2
  · refine Nat.le_trans (nodup_le zs eightT nd fun z hz => ?_) (by decide +kernel)
    obtain ⟨e, he, rfl⟩ := List.mem_map.mp (sub z hz)
    exact (e_mem e he).2.1
theorem zero_fit : RightParts "a" "a" [] [] ∧ Small "a" [] [] ∧ Fits "a" [] [] := by
  refine ⟨⟨e_a, e_a, fun z hz => (nomatch hz), List.nodup_nil, fun e he => (nomatch he), fun e he => (nomatch he), fun e he => (nomatch he)⟩, small_of (Nat.zero_le _) (Nat.zero_le _) (fun e he => (nomatch he)), fun e he => (nomatch he), fun ys nd sub => ?_, fun zs nd sub => ?_⟩
  · exact Nat.le_trans (nodup_le ys ["a"] nd sub) (by decide +kernel)
  · exact Nat.le_trans (nodup_le zs [] nd sub) (by decide +kernel)
theorem eight_nd {B : Hp} {k8 : List (List Key × V)} (q : Paired (LEnt B) k8 eightM) : (k8.map (·.1)).Nodup := by
  have keys : ∀ {l : List (List Key × V)} {m : Mv}, Paired (LEnt B) l m → l.map (·.1) = m.map fun e => [kInr e.1.1, kInr e.1.2] := by
    intro l m p
    induction p with
    | nil => rfl
    | cons h t ih => rw [List.map_cons, List.map_cons, ih, h.1]
  rw [keys q]
  decide +kernel
end Q9
end
-- QLawB
section
set_option maxRecDepth 100000
set_option maxHeartbeats 8000000
namespace Q9
open PySem L2
abbrev lawN : List Str := ["_law_script", "_law_cell", "_law_well", "_law_kinds", "_law_methods", "_law_errors", "_law_name", "_law_start", "_law_ends", "_law_moves", "_law_turn", "_law_odd", "_law_lost", "_law_bad", "_law_kept", "_law_said_here", "_law_eight", "_law_k", "_law_j"]
abbrev sck8x : Scope := { kind := .function, names := [(".0", .local), ("_law_k", .local), ("range", .globalImplicit)], isGenerator := false, isCoroutine := false }
abbrev scj8x : Scope := { kind := .function, names := [(".0", .local), ("_law_j", .local)], isGenerator := false, isCoroutine := false }
theorem scLw : FnScope lawN ["_law_script"] (defScope sLaw) := ⟨rfl, rfl, rfl, by decide +kernel, rfl, by decide +kernel, by decide +kernel⟩
/-- a word is short -/
theorem word_sms {z : Str} (h : wordB z = true) (c : PyData.canLay0 (.str z) = true) : SmS z := by
  refine ⟨?_, ?_⟩
  · unfold wordB at h
    rcases Bool.or_eq_true_iff.mp h with h | h
    · exact Nat.le_trans (error_len8 h) (by decide)
    · rcases Bool.or_eq_true_iff.mp h with h | h
      · rw [of_decide_eq_true h]; decide +kernel
      · rw [of_decide_eq_true h]; decide +kernel
  · rw [PyData.canLay0] at c
    unfold PyData.strOk at c
    rw [← Array.all_toList] at c
    exact List.all_eq_true.mpr fun x hx => decide_eq_true (Nat.lt_trans (of_decide_eq_true (List.all_eq_true.mp c x hx)) (by decide))
theorem word_all {er : List Str} (h : ErOk er) : ∀ z ∈ (("no" : Str) :: "yes" :: er), wordB z = true ∧ SmS z := fun z hz => ⟨(w_ok h z hz).1, word_sms (w_ok h z hz).1 (w_ok h z hz).2⟩
/-- the drawn kind's parts, in the heap -/
structure KP (G : Hp) (k : KR) (ms er : List Str) (e m : Addr) : Prop where
  e : G e = some (.lst (k.es.map V.str))
  m : G m = some (.dT k.kvs)
  lm : LM G k.kvs k.mv
  ok : SortOk k.S ms ("no" :: "yes" :: er) k.st k.es k.mv
theorem KP.up {G G' : Hp} {k : KR} {ms er : List Str} {e m : Addr} (s : Same G G') (h : KP G k ms er e m) : KP G' k ms er e m := ⟨s _ _ h.e, s _ _ h.m, h.lm.up s, h.ok⟩
theorem KP.st_lw {G : Hp} {k : KR} {ms er : List Str} {e m : Addr} (h : KP G k ms er e m) : LW k.st := h.ok.lw _ (st_in h.ok)
structure TLaw2 (K : PySem.W.Frag) (mg : Str → Option Value) (fSrc fP fSs fOm fSd : Addr) : Prop where
  rep : mg "repr" = none
  range : mg "range" = none
  dict : mg "dict" = none
  gSrc : mg "_law_source" = some (.ref fSrc)
  kSrc : PySem.W.keepIn K (.ref fSrc) = true
  gP : mg "_law_pick" = some (.ref fP)
  kP : PySem.W.keepIn K (.ref fP) = true
  gSs : mg "_law_sorts" = some (.ref fSs)
  kSs : PySem.W.keepIn K (.ref fSs) = true
  gOm : mg "_law_odd_moves" = some (.ref fOm)
  kOm : PySem.W.keepIn K (.ref fOm) = true
  gSd : mg "_law_said" = some (.ref fSd)
  kSd : PySem.W.keepIn K (.ref fSd) = true
section
variable {P : Program} {w : World} {K : PySem.W.Frag} {mg : Str → Option Value} {base : Heap} {fSrc fP fSs fOm fSd : Addr}
theorem ok_law2 {f : Addr} {fd dSrc dP dSs dOm dSd : FuncData} (F : Fun K "law" "law" sLaw f fd) (T : TLaw2 K mg fSrc fP fSs fOm fSd) (lo : ∃ o, base.get? sysModules = some o)
    (GSrc : FnOk P w K mg base CX0 1 fSrc dSrc ["_law_cell"] spSource) (bSrc : Binds K dSrc ["_law_cell"] [])
    (GP : FnOk P w K mg base CX0 2 fP dP ["_law_well", "_law_some"] (spPickL K)) (bP : Binds K dP ["_law_well", "_law_some"] [])
    (GSs : FnOk P w K mg base CX0 5 fSs dSs sortsPs (spSorts K)) (bSs : Binds K dSs sortsPs [])
    (GOm : FnOk P w K mg base CX0 3 fOm dOm ["_law_well", "_law_moves", "_law_states"] (spOddM K)) (bOm : Binds K dOm ["_law_well", "_law_moves", "_law_states"] [])
    (GSd : FnOk P w K mg base CX0 8 fSd dSd ["_law_name", "_law_start", "_law_ends", "_law_moves"] (spSaidK K)) (bSd : Binds K dSd ["_law_name", "_law_start", "_law_ends", "_law_moves"] []) :
    FnOkG P w K mg base 9 f fd ["_law_script"] (fun vs H Q _ => ∃ (a : Addr) (xs : List Int), vs = [.ref a] ∧ SqL K H a (xs.map V.int) ∧ xs.length ≤ 1000 ∧ ∀ H', Same H H' → Q (.bl true) H') := by
  refine F.okG scLw (fun vs H Q E h => ?_) (fun cdv A outer s H vs Q E hg hr h => ?_)
  · obtain ⟨a, xs, rfl, _⟩ := h
    rfl
  · obtain ⟨a, xs, rfl, ha, len, q⟩ := h
    have hu := hu_of hr
    have hu64 := hr.units
    have hu2 : (A.deeper (PyProof.Rows.envOfC "law" (defScope sLaw) s.heap.objs.size f cdv)).in1.in1.units < cLine := by
      show (A.deeper (PyProof.Rows.envOfC "law" (defScope sLaw) s.heap.objs.size f cdv)).units + 1 + 1 < cLine
      have := hr.un
      omega
    refine ⟨_, (pss_cons (ps_for PassesOwn.never rfl (pi_list (pe_op op_cat (pe_slice sl_list (pv 0) po_none (po_some pe_int)) (pe_lst (pa_cons pe_int pa_nil)))) (pg_name (i := 1) scLw.nd rfl (.inl rfl))
        (C8.pss_cut (ps_set (i := 2) scLw.nd rfl (.inl rfl) (pe_call GSrc (hr.mono (by omega)) (by rfl) T.gSrc T.kSrc bSrc .nil pass0 (pa_cons (pv 1) pa_nil)))
        (C8.pss_cut (ps_asg (pe_call GSs (hr.mono (by omega)) (by rfl) T.gSs T.kSs bSs .nil pass0 (pa_cons (pv 2) (pa_cons pe_int (pa_cons pe_int pa_nil)))) (pg_tup rfl (pgs_cons (pg_name (i := 3) scLw.nd rfl (.inl rfl)) (pgs_cons (pg_name (i := 4) scLw.nd rfl (.inl rfl)) (pgs_cons (pg_name (i := 5) scLw.nd rfl (.inl rfl)) pgs_nil)))))
        (C8.pss_cut (ps_asg (pe_ix ix_list (pv 3) pe_int (fun _ _ => rfl)) (pg_tup rfl (pgs_cons (pg_name (i := 6) scLw.nd rfl (.inl rfl)) (pgs_cons (pg_name (i := 7) scLw.nd rfl (.inl rfl)) (pgs_cons (pg_name (i := 8) scLw.nd rfl (.inl rfl)) (pgs_cons (pg_name (i := 9) scLw.nd rfl (.inl rfl)) pgs_nil))))))
        (pss_one (ps_for PassesOwn.never rfl (pi_range1 (by rfl) T.range (pa_cons pe_int pa_nil)) (pg_name (i := 10) scLw.nd rfl (.inl rfl))
          (C8.pss_cut (ps_set (i := 11) scLw.nd rfl (.inl rfl) (pe_call GP (hr.mono (by omega)) (by rfl) T.gP T.kP bP .nil pass0 (pa_cons (pv 2) (pa_cons (pe_lst (pa_cons pe_str (pa_cons pe_str (pa_cons pe_str (pa_cons pe_non (pa_cons pe_int (pa_cons pe_str (pa_cons pe_str (pa_cons (pe_lst (pa_cons pe_str pa_nil)) (pa_cons pe_bl (pa_cons (pe_tup (pa_cons pe_str pa_nil)) (pa_cons pe_dnewT pa_nil)))))))))))) pa_nil))))
          (C8.pss_cut (ps_set (i := 12) scLw.nd rfl (.inl rfl) (pe_lst (pa_cons pe_non (pa_cons pe_int (pa_cons pe_str (pa_cons pe_dnewT (pa_cons (pe_lst (pa_cons pe_str pa_nil)) (pa_cons (pe_lst (pa_cons (pv 7) (pa_cons (pv 7) pa_nil))) (pa_cons (pe_lst (pa_cons pe_non pa_nil)) (pa_cons (pe_tup (pa_cons pe_str pa_nil)) (pa_cons (pe_lst (pa_cons (pe_lst (pa_cons pe_str pa_nil)) pa_nil)) (pa_cons (pe_lst (pa_cons (pv 7) (pa_cons pe_int pa_nil))) (pa_cons (pe_lst (pa_cons pe_bl pa_nil)) (pa_cons (pe_lst (pa_cons pe_str pa_nil)) pa_nil))))))))))))))
          (C8.pss_cut (ps_set (i := 12) scLw.nd rfl (.inl rfl) (pe_call GP (hr.mono (by omega)) (by rfl) T.gP T.kP bP .nil pass0 (pa_cons (pv 2) (pa_cons (pv 12) pa_nil))))
          (C8.pss_cut (ps_set (i := 13) scLw.nd rfl (.inl rfl) (pe_call GOm (hr.mono (by omega)) (by rfl) T.gOm T.kOm bOm .nil pass0 (pa_cons (pv 2) (pa_cons (pv 9) (pa_cons (pe_lst (pa_cons (pv 7) pa_nil)) pa_nil)))))
          (C8.pss_cut (ps_set (i := 14) scLw.nd rfl (.inl rfl) (pe_callB (call_reprX hg hu64 lo) (by rfl) T.rep (by decide +kernel) (pa_cons (pe_tup (pa_cons (pv 12) (pa_cons (pv 13) pa_nil))) pa_nil)))
          (C8.pss_cut (ps_set (i := 15) scLw.nd rfl (.inl rfl) (pe_lst (pa_cons (pe_call GSd (hr.mono (by omega)) (by rfl) T.gSd T.kSd bSd .nil pass0 (pa_cons (pv 11) (pa_cons (pv 11) (pa_cons (pv 12) (pa_cons (pv 13) pa_nil))))) (pa_cons (pe_call GSd (hr.mono (by omega)) (by rfl) T.gSd T.kSd bSd .nil pass0 (pa_cons (pv 6) (pa_cons (pv 11) (pa_cons (pv 12) (pa_cons (pv 13) pa_nil))))) (pa_cons (pe_call GSd (hr.mono (by omega)) (by rfl) T.gSd T.kSd bSd .nil pass0 (pa_cons (pv 6) (pa_cons (pv 7) (pa_cons (pv 12) (pa_cons (pv 13) pa_nil))))) pa_nil)))))
          (C8.pss_cut (ps_set (i := 15) scLw.nd rfl (.inl rfl) (pe_op op_cat (pv 15) (pe_lst (pa_cons (pe_call GSd (hr.mono (by omega)) (by rfl) T.gSd T.kSd bSd .nil pass0 (pa_cons (pv 6) (pa_cons (pv 7) (pa_cons (pv 8) (pa_cons (pv 13) pa_nil))))) (pa_cons (pe_call GSd (hr.mono (by omega)) (by rfl) T.gSd T.kSd bSd .nil pass0 (pa_cons (pv 6) (pa_cons (pv 7) (pa_cons (pv 8) (pa_cons (pv 9) pa_nil))))) pa_nil)))))
          (pss_one (ps_if (PW.pt (pw_or (pt_cmpR (op_neD hu64) (pv 15) (pe_lst (pa_cons pe_str (pa_cons pe_str (pa_cons pe_str (pa_cons pe_str (pa_cons pe_non pa_nil)))))) (nomark _)) (pw_or1 (pt_cmpR op_ne (pe_callB (call_reprX hg hu64 lo) (by rfl) T.rep (by decide +kernel) (pa_cons (pe_tup (pa_cons (pv 12) (pa_cons (pv 13) pa_nil))) pa_nil)) (pv 14) (nomark _))))) (pss_one (ps_ret pe_bl)) pss_nil)))))))))))))))
      (C8.pss_cut (ps_set (i := 16) scLw.nd rfl (.inl rfl) (pe_callTy (cr_dictA (by rfl) hu2) (by rfl) T.dict (by decide +kernel) (pa_cons (pe_lc (te := tTup (tCons (tTup (tCons (tC (.str "a")) (tCons (tOp rIxS (tC (.str "abcdefgh")) (tVar 17)) tNil))) (tCons (tLc (iRng1 (tCons (tC (.int 8)) tNil)) (gName 18) tYes (tTup (tCons (tC (.str "no")) (tCons (tOp rIxS (tC (.str "abcdefgh")) (tVar 18)) tNil))) [18]) tNil))) (own := [("_law_k", 17)]) (g := gName 17) (tt := tYes) rfl scLw.nd (pi_range1 (by rfl) T.range (pa_cons pe_int pa_nil)) (blkOk_by (own := [("_law_k", 17)]) (N := lawN) (sc := defScope sLaw) (by decide +kernel)) (fun _ _ _ _ _ => pg_name (i := 17) scLw.nd rfl (.inl rfl)) (fun _ _ _ _ _ => pts_nil) (fun _ _ _ _ _ => pe_tup (pa_cons (pe_tup (pa_cons pe_str (pa_cons (pe_ix ix_str pe_str (pv 17) (fun _ _ => rfl)) pa_nil))) (pa_cons (pe_lc (te := tTup (tCons (tC (.str "no")) (tCons (tOp rIxS (tC (.str "abcdefgh")) (tVar 18)) tNil))) (own := [("_law_j", 18)]) (g := gName 18) (tt := tYes) rfl scLw.nd (pi_range1 (by rfl) T.range (pa_cons pe_int pa_nil)) (show BlkOk lawN sck8x scj8x _ from blkOk_by (own := [("_law_j", 18)]) (N := lawN) (sc := sck8x) (by decide +kernel)) (fun _ _ _ _ _ => pg_name (i := 18) scLw.nd rfl (.inl rfl)) (fun _ _ _ _ _ => pts_nil) (fun _ _ _ _ _ => pe_tup (pa_cons pe_str (pa_cons (pe_ix ix_str pe_str (pv 18) (fun _ _ => rfl)) pa_nil)))) pa_nil)))) pa_nil)))
      (pss_one (ps_ret (pe_and (pe_cmp (pc_isN (pe_call GSd (hr.mono (by omega)) (by rfl) T.gSd T.kSd bSd .nil pass0 (pa_cons pe_str (pa_cons pe_str (pa_cons (pe_lst pa_nil) (pa_cons (pv 16) pa_nil))))))) (pe_one (pe_cmp (pc_isN (pe_call GSd (hr.mono (by omega)) (by rfl) T.gSd T.kSd bSd .nil pass0 (pa_cons pe_str (pa_cons pe_str (pa_cons (pe_lst pa_nil) (pa_cons pe_dnewT pa_nil))))))))))))), ?_⟩
    refine ⟨_, rfl, 6, rfl, a, _, rfl, ha, fun p hp => ?_⟩
    refine ⟨(by show 1 ≤ sizeLine; decide), fun z hz => ⟨p, z, _, _, rfl, rfl, same_upd hz _ _ upd_same, upd_same, ?_, fun c hc => ?_⟩⟩
    · have := cutV_length (xs.map V.int) none (some 6)
      rw [List.length_map] at this
      show _ + 1 ≤ sizeLine
      exact Nat.le_trans (Nat.succ_le_succ (Nat.le_trans this len)) (by decide)
    obtain ⟨ys, ey⟩ : ∃ ys : List Int, cutV (xs.map V.int) none (some 6) ++ [V.int 0] = ys.map V.int := by
      refine ⟨((xs.drop (HT.sIx (xs.map V.int).length 0 none)).take (HT.sIx (xs.map V.int).length (xs.map V.int).length (some 6) - HT.sIx (xs.map V.int).length 0 none)) ++ [0], ?_⟩
      unfold cutV
      rw [List.map_append, List.map_take, List.map_drop]
      rfl
    have s0 : Same H (upd (upd (upd H p (.lst (cutV (xs.map V.int) none (some 6)))) z (.lst [.int 0])) c (.lst (cutV (xs.map V.int) none (some 6) ++ [.int 0]))) := fun b o e => by
      exact same_upd hc b o (same_upd hz b o (same_upd hp b o e))
    have hc0 : (upd (upd (upd H p (.lst (cutV (xs.map V.int) none (some 6)))) z (.lst [.int 0])) c (.lst (cutV (xs.map V.int) none (some 6) ++ [.int 0]))) c = some (.lst (ys.map V.int)) := by rw [upd_same, ey]
    generalize upd (upd (upd H p (.lst (cutV (xs.map V.int) none (some 6)))) z (.lst [.int 0])) c (.lst (cutV (xs.map V.int) none (some 6) ++ [.int 0])) = H0 at s0 hc0 ⊢
    clear hp hz hc
    refine ⟨c, rfl, ⟨_, .of hc0⟩, for_list (K := K) (a := c) (xs := ys.map V.int) (fun i σ H' => ∃ y1 y2 y3 y4 y5 y6 y7 y8 y9 y10 y11 y12 y13 y14 y15 y16 y17 y18 : Option V, σ = [some (.ref a), y1, y2, y3, y4, y5, y6, y7, y8, y9, y10, y11, y12, y13, y14, y15, y16, y17, y18] ∧ Same H0 H')
      ⟨_, _, _, _, _, _, _, _, _, _, _, _, _, _, _, _, _, _, rfl, Same.refl _⟩ (fun i σ H' _ ⟨_, _, _, _, _, _, _, _, _, _, _, _, _, _, _, _, _, _, _, s⟩ => .of (s _ _ hc0)) ?_ ?_⟩
    case refine_2 =>
      rintro σ H1 ⟨y1, y2, y3, y4, y5, y6, y7, y8, y9, y10, y11, y12, y13, y14, y15, y16, y17, y18, rfl, s1⟩
      have sH := s0.trans s1
      clear s0 s1 hc0
      -- eight states, eight methods, eight outcomes
      dsimp only
      refine ⟨fun σ H' => ∃ (m8 : Addr) (k8 : List (List Key × V)), σ = [some (.ref a), y1, y2, y3, y4, y5, y6, y7, y8, y9, y10, y11, y12, y13, y14, y15, some (.ref m8), y17, y18] ∧ Same H1 H' ∧ H' m8 = some (.dT k8) ∧ MovesG K H' k8 eightM, ?_, ?_⟩
      · refine ⟨8, rfl, by decide, by decide, fun L nL => ?_⟩
        refine lc_range (n := 8) (fun j H' => Same H1 H' ∧ ∃ (ts : List Addr) (k8 : List (List Key × V)), H' L = some (.lst (ts.map V.ref)) ∧ Paired (PairT (del H' L)) ts k8 ∧ Paired (LEnt (del H' L)) k8 ((eightT.take j).map fun z => ((("a" : Str), z), rowE))) ⟨same_upd nL, [], [], upd_same, .nil, .nil⟩ ?_ ?_
        · rintro j H' lt ⟨sj, ts, k8, hL, pt, pe⟩
          refine ⟨rfl, ?_⟩
          dsimp only [tYes]
          rw [if_pos rfl]
          have e9 := eight_at j lt
          rw [List.getElem?_eq_getElem (show j < eightT.length from lt)] at e9
          obtain ⟨c, hc, e9⟩ := Option.map_eq_some_iff.mp e9
          refine ⟨_, rfl, _, _, c, rfl, rfl, by decide +kernel, by rw [Int.zero_add]; exact hc, by show 2 ≤ sizeLine; decide, fun u nu => ?_⟩
          have su := same_upd (o := .tup [.str "a", .str ⟨#[c]⟩]) nu
          have hu' : upd H' u (.tup [.str "a", .str ⟨#[c]⟩]) u = some (.tup [.str "a", .str ⟨#[c]⟩]) := upd_same
          have nuL : u ≠ L := ne_at nu ⟨_, hL⟩
          have hLu := su _ _ hL
          generalize upd H' u (.tup [.str "a", .str ⟨#[c]⟩]) = H2 at su hu' hLu ⊢
          refine ⟨8, rfl, by decide, by decide, fun I nI => ?_⟩
          have nIL : I ≠ L := ne_at nI ⟨_, hLu⟩
          refine lc_range (n := 8) (fun i H3 => Same H2 H3 ∧ ∃ us : List Addr, H3 I = some (.lst (us.map V.ref)) ∧ Ps (del H3 L) us ((eightT.take i).map fun y => (("no" : Str), y))) ⟨same_upd nI, [], upd_same, .nil⟩ ?_ ?_
          · rintro i H3 lt2 ⟨si, us, hI, ps⟩
            refine ⟨rfl, ?_⟩
            dsimp only [tYes]
            rw [if_pos rfl]
            have f9 := eight_at i lt2
            rw [List.getElem?_eq_getElem (show i < eightT.length from lt2)] at f9
            obtain ⟨d, hd, f9⟩ := Option.map_eq_some_iff.mp f9
            refine ⟨_, rfl, _, _, d, rfl, rfl, by decide +kernel, by rw [Int.zero_add]; exact hd, by show 2 ≤ sizeLine; decide, fun v nv => ?_⟩
            have sv := same_upd (o := .tup [.str "no", .str ⟨#[d]⟩]) nv
            have nvL : v ≠ L := ne_at nv ⟨_, si _ _ hLu⟩
            have nvI : v ≠ I := ne_at nv ⟨_, hI⟩
            have lu := PySem.Paired.length ps
            rw [List.length_map, List.length_take] at lu
            refine ⟨_, sv _ _ hI, by rw [List.length_map, PySem.sizeLine_eq]; omega, fun b o e => by rw [upd_ne (ne_of_none e nI)]; exact sv _ _ (si _ _ e), us ++ [v], by rw [List.map_append]; exact upd_same, ?_⟩
            rw [take_one_more (List.getElem?_eq_getElem (show i < eightT.length from lt2)), List.map_append, ← f9]
            refine paired_append (L2.Paired.mapP ps fun b o z => ?_) (.cons (by rw [del_ne nvL, upd_ne nvI]; exact upd_same) .nil)
            have z2 := del_less _ _ z
            have nbI : b ≠ I := fun y => by rw [y, hI] at z2; cases z2
            have nbL : b ≠ L := fun y => by rw [y, del_same] at z; cases z
            rw [del_ne nbL, upd_ne nbI]
            exact sv _ _ z2
          rintro H3 ⟨s3, us, hI, ps⟩
          refine ⟨by show 2 ≤ sizeLine; decide, fun t nt => ?_⟩
          have stt := same_upd (o := .tup [.ref u, .ref I]) nt
          have ntL : t ≠ L := ne_at nt ⟨_, s3 _ _ hLu⟩
          have sA : Same H' (upd H3 t (.tup [.ref u, .ref I])) := fun b o z => stt _ _ (s3 _ _ (su _ _ z))
          have ht : upd H3 t (.tup [.ref u, .ref I]) t = some (.tup [.ref u, .ref I]) := upd_same
          have hu9 := stt _ _ (s3 _ _ hu')
          have hI9 := stt _ _ hI
          have ps9 := ps.same (del_same_of (D := L) stt)
          generalize upd H3 t (.tup [.ref u, .ref I]) = H9 at ht sA hu9 hI9 ps9 ⊢
          have lu := PySem.Paired.length pe
          have lt3 := PySem.Paired.length pt
          rw [List.length_map, List.length_take] at lu
          have k2 : Same (del H9 L) (del (upd H9 L (.lst (ts.map V.ref ++ [.ref t]))) L) := fun b o e => by
            have n : b ≠ L := fun y => by rw [y, del_same] at e; cases e
            rw [del_ne n] at e ⊢
            rw [upd_ne n]
            exact e
          have k1 : Same (del H' L) (del (upd H9 L (.lst (ts.map V.ref ++ [.ref t]))) L) := (del_same_of sA).trans k2
          refine ⟨_, sA _ _ hL, by rw [List.length_map, PySem.sizeLine_eq]; omega, fun b o e => by rw [upd_ne (ne_of_none e nL)]; exact sA _ _ (sj _ _ e), ts ++ [t], k8 ++ [([kInr "a", kInr ⟨#[c]⟩], .ref I)], by rw [List.map_append]; exact upd_same, paired_append (L2.Paired.mapP pt fun _ _ ⟨q, a, b⟩ => ⟨q, k1 _ _ a, k1 _ _ b⟩) (.cons ⟨u, k2 _ _ (by rw [del_ne ntL]; exact ht), k2 _ _ (by rw [del_ne nuL]; exact hu9)⟩ .nil), ?_⟩
          rw [take_one_more (List.getElem?_eq_getElem (show j < eightT.length from lt)), List.map_append, ← e9]
          exact paired_append (L2.Paired.mapP pe fun _ _ ⟨a, b, us, h1, h2, h3⟩ => ⟨a, b, us, h1, k1 _ _ h2, h3.same k1⟩) (.cons ⟨rfl, I, us, rfl, k2 _ _ (by rw [del_ne nIL]; exact hI9), ps9.same k2⟩ .nil)
        rintro H2 ⟨s2, ts, k8, hL, pt, pe⟩
        have nd := eight_nd pe
        refine .inr ⟨L, ts, k8, rfl, .of hL, L2.Paired.mapP pt fun _ _ ⟨q, a, b⟩ => ⟨q, del_less _ _ a, del_less _ _ b⟩, fun p hp => ?_⟩
        rw [merge_self (kvs := []) nd, List.nil_append]
        have sp := same_upd (o := .dT k8) hp
        refine ⟨p, k8, rfl, s2.trans sp, upd_same, ?_⟩
        have M : LM (del H2 L) k8 eightM := ⟨nd, pe⟩
        exact movesG_up (del_less.trans sp) (M.moves (K := K)).g
      rintro σ H2 ⟨m8, k8, rfl, s2, hm8, M8⟩
      obtain ⟨f1, f2, f3⟩ := eight_fit
      obtain ⟨g1, g2, g3⟩ := zero_fit
      refine ⟨Nat.zero_le _, fun p hp => ⟨_, rfl, ?_⟩⟩
      have sp := same_upd (o := .lst []) hp
      refine ⟨_, _, _, _, none, rfl, .right rfl rfl rfl ⟨p, rfl, .inl (.of upd_same)⟩ (sp _ _ hm8) (movesG_up sp M8) f1 f2 f3, fun _ H3 s3 => ⟨true, rfl, iteT ?_⟩, fun q1 e1 => (nomatch e1)⟩
      refine ⟨Nat.zero_le _, fun p2 hp2 => fun p3 hp3 => ?_⟩
      have sp2 := same_upd (o := .lst []) hp2
      have sp3 := same_upd (o := .dT []) hp3
      refine ⟨_, _, _, _, none, rfl, .right rfl rfl rfl ⟨p2, rfl, .inl (.of (sp3 _ _ upd_same))⟩ upd_same ⟨List.nodup_nil, .nil⟩ g1 g2 g3, fun _ H4 s4 => ?_, fun q1 e1 => (nomatch e1)⟩
      exact q H4 (fun b o z => s4 _ _ (sp3 _ _ (sp2 _ _ (s3 _ _ (sp _ _ (s2 _ _ (sH _ _ z)))))))
    rintro i x σ H1 hx ⟨y1, y2, y3, y4, y5, y6, y7, y8, y9, y10, y11, y12, y13, y14, y15, y16, y17, y18, rfl, s1⟩
    obtain ⟨n, rfl⟩ : ∃ n : Int, x = V.int n := by
      rw [List.getElem?_map] at hx
      obtain ⟨n, _, h2⟩ := Option.map_eq_some_iff.mp hx
      exact ⟨n, h2.symm⟩
    clear hx
    -- the well
    refine ⟨fun σ H' => ∃ l, σ = [some (.ref a), some (.int n), some (.ref l), y3, y4, y5, y6, y7, y8, y9, y10, y11, y12, y13, y14, y15, y16, y17, y18] ∧ Same H1 H' ∧ H1 l = none ∧ Well H' l, ?_, ?_⟩
    · exact ⟨_, rfl, n, rfl, fun l w nl wB => ⟨l, rfl, same_upd nl, nl, wB⟩⟩
    rintro σ H2 ⟨l, rfl, s2, nl1, w2⟩
    -- the kind
    refine ⟨fun σ H' => ∃ (kp mp ep : Addr) (kv : V) (k : KR) (ms er : List Str), σ = [some (.ref a), some (.int n), some (.ref l), some (.ref kp), some (.ref mp), some (.ref ep), y6, y7, y8, y9, y10, y11, y12, y13, y14, y15, y16, y17, y18] ∧ Same H1 H' ∧ Well H' l ∧ H' kp = some (.lst [kv]) ∧ KRAt K (del H' l) kv k ∧ KROk ms er k ∧ ms.length ≤ 4 ∧ (∀ z ∈ ms, LW z) ∧ ErOk er, ?_, ?_⟩
    · refine ⟨_, rfl, l, 1, 3, rfl, w2, by decide, by decide, by decide, fun H' t kp mp ep ks krs ms er b w ht hk nk pk ok lk hm nm l1 l4 lw he ne ero => ?_⟩
      obtain ⟨k, rfl⟩ : ∃ k, krs = [k] := List.length_eq_one_iff.mp lk
      cases pk with
      | @cons kv k' _ _ k1 k2 =>
        cases k2
        exact ⟨t, _, rfl, .of ht, rfl, _, _, rfl, _, _, rfl, _, _, rfl, rfl, kp, mp, ep, kv, k, ms, er, rfl, fun c o e => b _ _ (ne_of_none e nl1) (s2 _ _ e), w, hk, k1, ok k List.mem_cons_self, l4, lw, ero⟩
    rintro σ H3 ⟨kp, mp, ep, kv, k, ms, er, rfl, s3, w3, hk3, at3, ok, l4, lwm, ero⟩
    clear w2 s2
    obtain ⟨fit1, fit2, fit3⟩ := fit_of ok ero lwm l4
    -- its parts
    refine ⟨fun σ H' => ∃ (e m : Addr), σ = [some (.ref a), some (.int n), some (.ref l), some (.ref kp), some (.ref mp), some (.ref ep), some (.str k.nm), some (.str k.st), some (.ref e), some (.ref m), y10, y11, y12, y13, y14, y15, y16, y17, y18] ∧ Same H1 H' ∧ Well H' l ∧ KP (del H' l) k ms er e m, ?_, ?_⟩
    · obtain ⟨t, e, m, rfl, ht, he, hm, lm⟩ := at3
      exact ⟨_, rfl, kp, [.ref t], 0, .ref t, rfl, rfl, .of hk3, rfl, t, _, rfl, .of (del_less _ _ ht), rfl, _, _, rfl, _, _, rfl, _, _, rfl, _, _, rfl, rfl, e, m, rfl, s3, w3, ⟨he, hm, lm, ok.ok⟩⟩
    rintro σ H4 ⟨e, m, rfl, s4, w4, kp4⟩
    clear at3 hk3 s3 w3
    have kpUp : ∀ {G G' : Hp}, Same G G' → KP G k ms er e m → KP G' k ms er e m := fun s h => h.up s
    -- eight turns
    refine ⟨8, rfl, by decide, by decide, for_range (n := 8) (fun i σ H' => ∃ y10 y11 y12 y13 y14 y15 : Option V, σ = [some (.ref a), some (.int n), some (.ref l), some (.ref kp), some (.ref mp), some (.ref ep), some (.str k.nm), some (.str k.st), some (.ref e), some (.ref m), y10, y11, y12, y13, y14, y15, y16, y17, y18] ∧ Same H1 H' ∧ Well H' l ∧ KP (del H' l) k ms er e m) ⟨_, _, _, _, _, _, rfl, s4, w4, kp4⟩ ?_ ?_⟩
    case refine_2 =>
      rintro σ H5 ⟨y10, y11, y12, y13, y14, y15, rfl, s5, _⟩
      exact ⟨_, _, _, _, _, _, _, _, _, _, _, _, _, _, _, _, _, _, rfl, s1.trans s5⟩
    clear s4 w4 kp4
    rintro i σ H4 hi ⟨y10, y11, y12, y13, y14, y15, rfl, s4, w4, kp4⟩
    have turn := (0 : Int) + (i : Int)
    -- a name that is none
    refine ⟨fun σ H' => ∃ (ov : V) (d : PyData), σ = [some (.ref a), some (.int n), some (.ref l), some (.ref kp), some (.ref mp), some (.ref ep), some (.str k.nm), some (.str k.st), some (.ref e), some (.ref m), some (.int (0 + (i : Int))), some (ov), y12, y13, y14, y15, y16, y17, y18] ∧ d ∈ oddNs ∧ Dz (del H' l) ov d ∧ Same H1 H' ∧ Well H' l ∧ KP (del H' l) k ms er e m, ?_, ?_⟩
    · obtain ⟨xl, hl⟩ := well_at w4
      have A4 : Aside H4 (fun H => del H l) := aside1 hl
      refine ⟨_, rfl, lit_run (f := fun H => del H l) (.list oddNs) ?_ fun v H2 s2 z2 => ?_⟩
      · exact (lit_lst A4 (litA_cons A4 (lit_c fun _ => .str _) (litA_cons A4 (lit_c fun _ => .str _) (litA_cons A4 (lit_c fun _ => .str _) (litA_cons A4 (lit_c fun _ => .non) (litA_cons A4 (lit_c fun _ => .int _) (litA_cons A4 (lit_c fun _ => .str _) (litA_cons A4 (lit_c fun _ => .str _) (litA_cons A4 (lit_lst A4 (litA_cons A4 (lit_c fun _ => .str _) litA_nil) (Nat.le_of_ble_eq_true rfl)) (litA_cons A4 (lit_c fun _ => .bl _) (litA_cons A4 (lit_tup A4 (litA_cons A4 (lit_c fun _ => .str _) litA_nil) (Nat.le_of_ble_eq_true rfl)) (litA_cons A4 (lit_dic A4) litA_nil))))))))))) (Nat.le_of_ble_eq_true rfl))
      obtain ⟨p, xs, rfl, hp, zs⟩ := lst_dz z2
      have pl : p ≠ l := fun z => by rw [z, del_same] at hp; cases hp
      refine ⟨l, p, xs, rfl, well_same s2 w4, .of (del_less _ _ hp), pl, ?_, ?_, fun j x o hx w => ?_⟩
      · rw [dzAll_len zs]; decide
      · rw [dzAll_len zs]; decide
      obtain ⟨d, hd, hz⟩ := dzAll_at zs hx
      have b2 : But l H4 (upd H2 l o) := (But.of s2).trans But.upd
      exact ⟨x, d, rfl, List.mem_of_getElem? hd, dz_same (but_del But.upd) hz, fun b o e => b2 _ _ (ne_of_none e nl1) (s4 _ _ e), w, kpUp (but_del b2) kp4⟩
    rintro σ H5 ⟨ov, d, rfl, hd, zo5, s5, w5, kp5⟩
    clear s4 w4 kp4
    -- the ends that are none
    refine ⟨fun σ H' => ∃ (p : Addr) (xs : List V), σ = [some (.ref a), some (.int n), some (.ref l), some (.ref kp), some (.ref mp), some (.ref ep), some (.str k.nm), some (.str k.st), some (.ref e), some (.ref m), some (.int (0 + (i : Int))), some (ov), some (.ref p), y13, y14, y15, y16, y17, y18] ∧ Dz (del H' l) ov d ∧ del H' l p = some (.lst xs) ∧ DzAll (del H' l) xs (lostDs k.st) ∧ Same H1 H' ∧ Well H' l ∧ KP (del H' l) k ms er e m, ?_, ?_⟩
    · obtain ⟨xl, hl⟩ := well_at w5
      have A5 : Aside H5 (fun H => del H l) := aside1 hl
      refine asg_lit (f := fun H => del H l) (.list (lostDs k.st)) ?_ fun v H2 s2 z2 => ?_
      · exact (lit_lst A5 (litA_cons A5 (lit_c fun _ => .non) (litA_cons A5 (lit_c fun _ => .int _) (litA_cons A5 (lit_c fun _ => .str _) (litA_cons A5 (lit_dic A5) (litA_cons A5 (lit_lst A5 (litA_cons A5 (lit_c fun _ => .str _) litA_nil) (Nat.le_of_ble_eq_true rfl)) (litA_cons A5 (lit_lst A5 (litA_cons A5 (lit_var A5 rfl (.str k.st)) (litA_cons A5 (lit_var A5 rfl (.str k.st)) litA_nil)) (Nat.le_of_ble_eq_true rfl)) (litA_cons A5 (lit_lst A5 (litA_cons A5 (lit_c fun _ => .non) litA_nil) (Nat.le_of_ble_eq_true rfl)) (litA_cons A5 (lit_tup A5 (litA_cons A5 (lit_c fun _ => .str _) litA_nil) (Nat.le_of_ble_eq_true rfl)) (litA_cons A5 (lit_lst A5 (litA_cons A5 (lit_lst A5 (litA_cons A5 (lit_c fun _ => .str _) litA_nil) (Nat.le_of_ble_eq_true rfl)) litA_nil) (Nat.le_of_ble_eq_true rfl)) (litA_cons A5 (lit_lst A5 (litA_cons A5 (lit_var A5 rfl (.str k.st)) (litA_cons A5 (lit_c fun _ => .int _) litA_nil)) (Nat.le_of_ble_eq_true rfl)) (litA_cons A5 (lit_lst A5 (litA_cons A5 (lit_c fun _ => .bl _) litA_nil) (Nat.le_of_ble_eq_true rfl)) (litA_cons A5 (lit_lst A5 (litA_cons A5 (lit_c fun _ => .str _) litA_nil) (Nat.le_of_ble_eq_true rfl)) litA_nil)))))))))))) (Nat.le_of_ble_eq_true rfl))
      obtain ⟨p, xs, rfl, hp, zs⟩ := lst_dz z2
      exact ⟨p, xs, rfl, dz_same (same_del s2) zo5, hp, zs, s5.trans s2, well_same s2 w5, kpUp (same_del s2) kp5⟩
    rintro σ H6 ⟨p, xs6, rfl, zo6, hp6, zs6, s6, w6, kp6⟩
    clear s5 w5 kp5 zo5
    refine ⟨fun σ H' => ∃ (lv : V) (dl : PyData), σ = [some (.ref a), some (.int n), some (.ref l), some (.ref kp), some (.ref mp), some (.ref ep), some (.str k.nm), some (.str k.st), some (.ref e), some (.ref m), some (.int (0 + (i : Int))), some (ov), some (lv), y13, y14, y15, y16, y17, y18] ∧ Dz (del H' l) ov d ∧ dl ∈ lostDs k.st ∧ Dz (del H' l) lv dl ∧ Same H1 H' ∧ Well H' l ∧ KP (del H' l) k ms er e m, ?_, ?_⟩
    · have pl : p ≠ l := fun z => by rw [z, del_same] at hp6; cases hp6
      refine ⟨_, rfl, _, rfl, l, p, xs6, rfl, w6, .of (del_less _ _ hp6), pl, ?_, ?_, fun j x o hx w => ?_⟩
      · rw [dzAll_len zs6]; exact Nat.le_of_ble_eq_true rfl
      · rw [dzAll_len zs6]; exact Nat.le_of_ble_eq_true rfl
      obtain ⟨dl, hdl, hz⟩ := dzAll_at zs6 hx
      have b2 : But l H6 (upd H6 l o) := But.upd
      exact ⟨x, dl, rfl, dz_same (but_del b2) zo6, List.mem_of_getElem? hdl, dz_same (but_del b2) hz, fun b o e => b2 _ _ (ne_of_none e nl1) (s6 _ _ e), w, kpUp (but_del b2) kp6⟩
    rintro σ H7 ⟨lv, dl, rfl, zo7, hdl, zl7, s7, w7, kp7⟩
    clear s6 w6 kp6 zo6 hp6 zs6
    -- the moves that are none
    refine ⟨fun σ H' => ∃ (bv : V), σ = [some (.ref a), some (.int n), some (.ref l), some (.ref kp), some (.ref mp), some (.ref ep), some (.str k.nm), some (.str k.st), some (.ref e), some (.ref m), some (.int (0 + (i : Int))), some (ov), some (lv), some (bv), y14, y15, y16, y17, y18] ∧ Dz (del H' l) ov d ∧ Dz (del H' l) lv dl ∧ Tell K (del H' l) k.st k.es bv ∧ Same H1 H' ∧ Well H' l ∧ KP (del H' l) k ms er e m, ?_, ?_⟩
    · refine ⟨_, rfl, _, rfl, _, rfl, by show 1 ≤ sizeLine; decide, fun p hp => ?_⟩
      have s2 := same_upd (o := .lst [.str k.st]) hp
      have w2 := well_same s2 w7
      have pl := new_ne w7 hp
      have k2 := kpUp (same_del s2) kp7
      have nm : m ≠ l := fun z => by have e := kp7.m; rw [z, del_same] at e; cases e
      refine ⟨l, m, p, k.st, k.es, k.S, ms, _, k.kvs, k.mv, rfl, w2, nm, del_less _ _ k2.m, ⟨k2.lm, k2.ok, word_all ero, lwm, l4⟩, pl, upd_same, fun H' v b w t => ?_⟩
      have b2 : But l H7 H' := (But.of s2).trans b
      exact ⟨v, rfl, dz_same (but_del b2) zo7, dz_same (but_del b2) zl7, t, fun b o e => b2 _ _ (ne_of_none e nl1) (s7 _ _ e), w, kpUp (but_del b2) kp7⟩
    rintro σ H8 ⟨bv, rfl, zo8, zl8, t8, s8, w8, kp8⟩
    clear s7 w7 kp7 zo7 zl7
    obtain ⟨ends8, shl⟩ := lost_ends (K := K) fit1.name kp8.st_lw hdl zl8
    obtain ⟨db, hdb, shb⟩ := t8.data
    have bad8 := t8.bad
    have nam8 := odd_name (K := K) hd zo8
    have shT : ShowsX (.tuple [dl, db]) := (sh_tup (shA_cons (shl.le (Nat.le_refl _) (by omega : 3 ≤ 8)) (shA_cons shb (shA_nil (n := 0))))).shows (by omega) (by omega)
    -- how they are shown
    refine ⟨fun σ H' => σ = [some (.ref a), some (.int n), some (.ref l), some (.ref kp), some (.ref mp), some (.ref ep), some (.str k.nm), some (.str k.st), some (.ref e), some (.ref m), some (.int (0 + (i : Int))), some (ov), some (lv), some (bv), some (.str (PyData.shown (.tuple [dl, db]))), y15, y16, y17, y18] ∧ Same H8 H', ?_, ?_⟩
    · refine ⟨_, rfl, _, rfl, by show 2 ≤ sizeLine; decide, fun p hp => ⟨p, .tuple [dl, db], rfl, ?_, shT, rfl, same_upd hp⟩⟩
      have sp : Same (del H8 l) (upd H8 p (.tup [lv, bv])) := fun b o e => same_upd hp _ _ (del_less _ _ e)
      exact .tup upd_same (.cons (dz_dy _ _ (dz_same sp zl8)) (.cons (dy_up sp hdb) .nil))
    rintro σ H9 ⟨rfl, s9⟩
    have sd : ∀ {H'}, Same H9 H' → Same (del H8 l) H' := fun s b o e => s _ _ (s9 _ _ (del_less _ _ e))
    -- what is said of three
    refine ⟨fun σ H' => ∃ p, σ = [some (.ref a), some (.int n), some (.ref l), some (.ref kp), some (.ref mp), some (.ref ep), some (.str k.nm), some (.str k.st), some (.ref e), some (.ref m), some (.int (0 + (i : Int))), some (ov), some (lv), some (bv), some (.str (PyData.shown (.tuple [dl, db]))), some (.ref p), y16, y17, y18] ∧ Same H9 H' ∧ H' p = some (.lst [.str "name", .str "start", .str "ends"]), ?_, ?_⟩
    · refine ⟨_, rfl, _, rfl, _, rfl, _, rfl, _, _, _, _, _, rfl, .part (.name (noName_up (sd (Same.refl _)) nam8)), fun z => (nomatch z), fun q1 e1 H2 s2 => ?_⟩
      cases e1
      refine ⟨_, rfl, _, rfl, _, rfl, _, rfl, _, _, _, _, _, rfl, .part (.start rfl fit1.name (noName_up (sd s2) nam8)), fun z => (nomatch z), fun q1 e1 H3 s3 => ?_⟩
      cases e1
      have s23 := s2.trans s3
      refine ⟨_, rfl, _, rfl, _, rfl, _, rfl, _, _, _, _, _, rfl, .part (badParts_up (sd s23) ends8), fun z => (nomatch z), fun q1 e1 H4 s4 => ?_⟩
      cases e1
      have s24 := s23.trans s4
      exact ⟨by show 3 ≤ sizeLine; decide, fun p hp => ⟨p, rfl, s24.trans (same_upd hp), upd_same⟩⟩
    rintro σ H10 ⟨p, rfl, s10, hp10⟩
    -- of five
    refine ⟨fun σ H' => ∃ p, σ = [some (.ref a), some (.int n), some (.ref l), some (.ref kp), some (.ref mp), some (.ref ep), some (.str k.nm), some (.str k.st), some (.ref e), some (.ref m), some (.int (0 + (i : Int))), some (ov), some (lv), some (bv), some (.str (PyData.shown (.tuple [dl, db]))), some (.ref p), y16, y17, y18] ∧ Same H9 H' ∧ H' p = some (.lst [.str "name", .str "start", .str "ends", .str "moves", .non]), ?_, ?_⟩
    · have row : ∀ {H'}, Same (del H8 l) H' → Row K H' (.ref e) (k.es.map V.str) := fun s => ⟨e, rfl, .inl (.of (s _ _ kp8.e))⟩
      have few : k.es.length + 1 < scanBound := Nat.lt_of_le_of_lt (Nat.succ_le_succ (Nat.le_trans kp8.ok.ends.length_le kp8.ok.few)) (by decide)
      have kr : KindR K H10 (.str k.nm) (.str k.st) (.ref e) bv (some "moves") := by
        rcases bad8 with bad | ⟨m', kvs', mv', rfl, hm', M', rp, sm, nf⟩
        · exact .moves rfl rfl (row (sd s10)) fit1.name fit1.start fit1.ends fit1.unlike few (badAll_up (sd s10) bad)
        · exact .great rfl rfl rfl (row (sd s10)) (sd s10 _ _ hm') (movesG_up (sd s10) M') (rp _ fit1.name) sm nf
      refine ⟨_, rfl, _, rfl, _, rfl, _, rfl, _, rfl, _, _, _, _, _, rfl, kr, fun z => (nomatch z), fun q1 e1 H2 s2 => ?_⟩
      cases e1
      have s92 := s10.trans s2
      refine ⟨_, rfl, _, rfl, _, rfl, _, rfl, _, _, _, _, _, rfl, .right rfl rfl rfl (row (sd s92)) (sd s92 _ _ kp8.m) (movesG_up (sd s92) (kp8.lm.moves (K := K)).g) fit1 fit2 fit3, fun _ H3 s3 => ?_, fun q1 e1 => (nomatch e1)⟩
      refine ⟨by show 2 ≤ sizeLine; decide, fun p2 hp2 => ⟨p, p2, _, _, rfl, rfl, same_upd hp2 _ _ (s3 _ _ (s2 _ _ hp10)), upd_same, by show 5 ≤ sizeLine; decide, fun p3 hp3 => ⟨p3, rfl, ?_, upd_same⟩⟩⟩
      exact fun b o z => same_upd hp3 _ _ (same_upd hp2 _ _ (s3 _ _ (s92 _ _ z)))
    rintro σ H11 ⟨p, rfl, s11, hp11⟩
    -- compared
    have d11 := sd s11
    refine ⟨_, rfl, by show 5 ≤ sizeLine; decide, fun p2 hp2 => ?_⟩
    have sp2 := same_upd (o := .lst [.str "name", .str "start", .str "ends", .str "moves", .non]) hp2
    refine ⟨.list saidD, .list saidD, dp_said (sp2 _ _ hp11), dp_said upd_same, said_shaped, said_shaped, _, rfl, ?_⟩
    rw [said_same]
    refine iteF ⟨_, rfl, _, rfl, by show 2 ≤ sizeLine; decide, fun p3 hp3 => ⟨p3, .tuple [dl, db], rfl, ?_, shT, ?_⟩⟩
    · have sp : Same (del H8 l) (upd (upd H11 p2 (.lst [.str "name", .str "start", .str "ends", .str "moves", .non])) p3 (.tup [lv, bv])) := fun b o z => same_upd hp3 _ _ (sp2 _ _ (d11 _ _ z))
      exact .tup upd_same (.cons (dz_dy _ _ (dz_same sp zl8)) (.cons (dy_up sp hdb) .nil))
    have same0 : (!decide (V.str (PyData.shown (.tuple [dl, db])) = V.str (PyData.shown (.tuple [dl, db])))) = false := by rw [decide_eq_true rfl]; rfl
    have sE : Same H8 (upd (upd H11 p2 (.lst [.str "name", .str "start", .str "ends", .str "moves", .non])) p3 (.tup [lv, bv])) := fun b o z => same_upd hp3 _ _ (sp2 _ _ (s11 _ _ (s9 _ _ z)))
    exact ⟨_, rfl, rfl, false, congrArg V.bl same0, iteF ⟨_, _, _, _, _, _, rfl, s8.trans sE, well_same sE w8, kpUp (same_del sE) kp8⟩⟩
end
end Q9
end
-- QAllA
section
set_option maxRecDepth 100000
set_option maxHeartbeats 8000000
namespace Q9
open PySem L2
/-- law's promise as the statement wants it -/
def spLaw4 (K : PySem.W.Frag) : Sp := fun vs H Q _ => ∃ (a : Addr) (xs : List Int), vs = [.ref a] ∧ SqL K H a (xs.map V.int) ∧ xs.length ≤ 1000 ∧ ∀ H', Same H H' → Q (.bl true) H'
theorem walk2 {l : PySem.W.OpenLaw} {q : Program} {loose : List Str} {XP : (Str → Option Value) → Heap → Prop} {YP : World → Heap → Prop} {d : DefRec} {K : Params → PySem.W.Frag} (hn : l.most = some 63) (hdf : d.params.defaults = []) (hi : PyProof.Rows.importsNone q = true)
    (hY : ∀ (w : World) (h : Heap), YP w h → (K w.params).In h)
    (F : ∀ (w : World) (mg : Str → Option Value) (fa : Addr) (h : Heap), (K w.params).In h → h.Ns mainGlobals mg → mg d.name = some (.ref fa) →
      ∃ fd : FuncData, (∀ (s : Shared) (u : Value), BindsTo s fd ⟨[u], []⟩ [("_law_script", u)]) ∧ ∀ base : Heap, (K w.params).In base → base.Ns mainGlobals mg → (∃ o, base.get? sysModules = some o) → FnOkG l.prog w (K w.params) mg base 9 fa fd ["_law_script"] (spLaw4 (K w.params))) :
    PySem.W.WalkO q loose XP YP l.row.toRowW d [] (fun f vs => PySem.call f vs) :=
  Q9.walkG (n := 63) (k := 9) (x := "_law_script") (sp := fun w => spLaw4 (K w.params)) hn (by decide) hdf ⟨rfl, by decide, by decide⟩ hi hY F (fun _ _ a ns hl _ hS => ⟨a, ns, rfl, hS, Nat.le_trans hl (by decide), fun _ _ => rfl⟩)
theorem all_mk {l : PySem.W.OpenLaw} {w : World} {K : PySem.W.Frag} {h : Heap} {mg : Str → Option Value} {fa C CR CB NCB : Addr} (X : K.In h) (G : h.Ns mainGlobals mg) (hfa : mg "law" = some (.ref fa))
    {fRow fName fErr fWord fUn fKey fAR fWi fPa fRi fRd fCP fSrc fD fP fWd fSo fSts fSd fOm fLaw fBI fI : Addr}
    {odRow anRow odName anName odErr anErr odWord anWord odUn anUn odKey anKey odAR anAR odWi anWi odPa anPa odRi anRi odRd anRd odCP anCP odSrc anSrc odD anD odP anP odWd anWd odSo anSo odSts anSts odSd anSd odOm anOm odLaw anLaw odBI anBI odI anI : Option Addr}
    {slRow slName slErr slWord slUn slKey slAR slWi slPa slRi slRd slCP slSrc slD slP slWd slSo slSts slSd slOm slLaw slBI slI : Array (Option Value)}
    {ocRow kVRow dcRow pmRow cdRow ctRow ocName kVName dcName pmName cdName ctName ocErr kVErr dcErr pmErr cdErr ctErr ocWord kVWord dcWord pmWord cdWord ctWord ocUn kVUn dcUn pmUn cdUn ctUn ocKey kVKey dcKey pmKey cdKey ctKey ocAR kVAR dcAR pmAR cdAR ctAR ocWi kVWi dcWi pmWi cdWi ctWi ocPa kVPa dcPa pmPa cdPa ctPa ocRi kVRi dcRi pmRi cdRi ctRi ocRd kVRd dcRd pmRd cdRd ctRd ocCP kVCP dcCP pmCP cdCP ctCP ocSrc kVSrc dcSrc pmSrc cdSrc ctSrc ocD kVD dcD pmD cdD ctD ocP kVP dcP pmP cdP ctP ocWd kVWd dcWd pmWd cdWd ctWd ocSo kVSo dcSo pmSo cdSo ctSo ocSts kVSts dcSts pmSts cdSts ctSts ocSd kVSd dcSd pmSd cdSd ctSd ocOm kVOm dcOm pmOm cdOm ctOm ocLaw kVLaw dcLaw pmLaw cdLaw ctLaw ocBI kVBI dcBI pmBI cdBI ctBI ocI kVI dcI pmI cdI ctI : Value}
    {tt_MOST_SIGNS tt_MOST_STATES tt_MOST_METHODS tt_MOST_OUTCOMES : Tok}
    {nmCB qCB : Str} {bsCB bmCB : List Value} {snCB : List Str} {subCB : List Value} {abCB : Bool} {colCB : Option Bool} {ddCB : Option Addr} {m0CB m1CB m2CB m3CB m5CB : Option Value}
    (aRow : PySem.W.nsIn K mainGlobals "is_row" = some (some (.ref fRow)))
    (lRow : K.lookup fRow = some ⟨ocRow, odRow, .func (PySem.W.fnOf "is_row" "is_row" (defArgs sIsRow) (defBody sIsRow) (defScope sIsRow) .none kVRow dcRow pmRow anRow cdRow ctRow), slRow⟩)
    (cRow : PySem.W.codeIn K cdRow "is_row" = true)
    (kRow : PySem.W.keepIn K (.ref fRow) = true)
    (aName : PySem.W.nsIn K mainGlobals "is_name" = some (some (.ref fName)))
    (lName : K.lookup fName = some ⟨ocName, odName, .func (PySem.W.fnOf "is_name" "is_name" (defArgs sIsName) (defBody sIsName) (defScope sIsName) .none kVName dcName pmName anName cdName ctName), slName⟩)
    (cName : PySem.W.codeIn K cdName "is_name" = true)
    (kName : PySem.W.keepIn K (.ref fName) = true)
    (aErr : PySem.W.nsIn K mainGlobals "is_error" = some (some (.ref fErr)))
    (lErr : K.lookup fErr = some ⟨ocErr, odErr, .func (PySem.W.fnOf "is_error" "is_error" (defArgs sIsError) (defBody sIsError) (defScope sIsError) .none kVErr dcErr pmErr anErr cdErr ctErr), slErr⟩)
    (cErr : PySem.W.codeIn K cdErr "is_error" = true)
    (kErr : PySem.W.keepIn K (.ref fErr) = true)
    (aWord : PySem.W.nsIn K mainGlobals "is_word" = some (some (.ref fWord)))
    (lWord : K.lookup fWord = some ⟨ocWord, odWord, .func (PySem.W.fnOf "is_word" "is_word" (defArgs sIsWord) (defBody sIsWord) (defScope sIsWord) .none kVWord dcWord pmWord anWord cdWord ctWord), slWord⟩)
    (cWord : PySem.W.codeIn K cdWord "is_word" = true)
    (kWord : PySem.W.keepIn K (.ref fWord) = true)
    (aUn : PySem.W.nsIn K mainGlobals "are_unlike_names" = some (some (.ref fUn)))
    (lUn : K.lookup fUn = some ⟨ocUn, odUn, .func (PySem.W.fnOf "are_unlike_names" "are_unlike_names" (defArgs sUnlike) (defBody sUnlike) (defScope sUnlike) .none kVUn dcUn pmUn anUn cdUn ctUn), slUn⟩)
    (cUn : PySem.W.codeIn K cdUn "are_unlike_names" = true)
    (kUn : PySem.W.keepIn K (.ref fUn) = true)
    (aKey : PySem.W.nsIn K mainGlobals "_is_key" = some (some (.ref fKey)))
    (lKey : K.lookup fKey = some ⟨ocKey, odKey, .func (PySem.W.fnOf "_is_key" "_is_key" (defArgs sIsKey) (defBody sIsKey) (defScope sIsKey) .none kVKey dcKey pmKey anKey cdKey ctKey), slKey⟩)
    (cKey : PySem.W.codeIn K cdKey "_is_key" = true)
    (kKey : PySem.W.keepIn K (.ref fKey) = true)
    (aAR : PySem.W.nsIn K mainGlobals "_are_rows" = some (some (.ref fAR)))
    (lAR : K.lookup fAR = some ⟨ocAR, odAR, .func (PySem.W.fnOf "_are_rows" "_are_rows" (defArgs sAreRows) (defBody sAreRows) (defScope sAreRows) .none kVAR dcAR pmAR anAR cdAR ctAR), slAR⟩)
    (cAR : PySem.W.codeIn K cdAR "_are_rows" = true)
    (kAR : PySem.W.keepIn K (.ref fAR) = true)
    (aWi : PySem.W.nsIn K mainGlobals "_with_tuples" = some (some (.ref fWi)))
    (lWi : K.lookup fWi = some ⟨ocWi, odWi, .func (PySem.W.fnOf "_with_tuples" "_with_tuples" (defArgs sWith) (defBody sWith) (defScope sWith) .none kVWi dcWi pmWi anWi cdWi ctWi), slWi⟩)
    (cWi : PySem.W.codeIn K cdWi "_with_tuples" = true)
    (kWi : PySem.W.keepIn K (.ref fWi) = true)
    (aPa : PySem.W.nsIn K mainGlobals "_pairs_of_texts" = some (some (.ref fPa)))
    (lPa : K.lookup fPa = some ⟨ocPa, odPa, .func (PySem.W.fnOf "_pairs_of_texts" "_pairs_of_texts" (defArgs sPairs) (defBody sPairs) (defScope sPairs) .none kVPa dcPa pmPa anPa cdPa ctPa), slPa⟩)
    (cPa : PySem.W.codeIn K cdPa "_pairs_of_texts" = true)
    (kPa : PySem.W.keepIn K (.ref fPa) = true)
    (aRi : PySem.W.nsIn K mainGlobals "_are_right" = some (some (.ref fRi)))
    (lRi : K.lookup fRi = some ⟨ocRi, odRi, .func (PySem.W.fnOf "_are_right" "_are_right" (defArgs sRight) (defBody sRight) (defScope sRight) .none kVRi dcRi pmRi anRi cdRi ctRi), slRi⟩)
    (cRi : PySem.W.codeIn K cdRi "_are_right" = true)
    (kRi : PySem.W.keepIn K (.ref fRi) = true)
    (aRd : PySem.W.nsIn K mainGlobals "_read_moves" = some (some (.ref fRd)))
    (lRd : K.lookup fRd = some ⟨ocRd, odRd, .func (PySem.W.fnOf "_read_moves" "_read_moves" (defArgs sRead) (defBody sRead) (defScope sRead) .none kVRd dcRd pmRd anRd cdRd ctRd), slRd⟩)
    (cRd : PySem.W.codeIn K cdRd "_read_moves" = true)
    (kRd : PySem.W.keepIn K (.ref fRd) = true)
    (aCP : PySem.W.nsIn K mainGlobals "_check_parts" = some (some (.ref fCP)))
    (lCP : K.lookup fCP = some ⟨ocCP, odCP, .func (PySem.W.fnOf "_check_parts" "_check_parts" (defArgs sCheckP) (defBody sCheckP) (defScope sCheckP) .none kVCP dcCP pmCP anCP cdCP ctCP), slCP⟩)
    (cCP : PySem.W.codeIn K cdCP "_check_parts" = true)
    (kCP : PySem.W.keepIn K (.ref fCP) = true)
    (aSrc : PySem.W.nsIn K mainGlobals "_law_source" = some (some (.ref fSrc)))
    (lSrc : K.lookup fSrc = some ⟨ocSrc, odSrc, .func (PySem.W.fnOf "_law_source" "_law_source" (defArgs sSource) (defBody sSource) (defScope sSource) .none kVSrc dcSrc pmSrc anSrc cdSrc ctSrc), slSrc⟩)
    (cSrc : PySem.W.codeIn K cdSrc "_law_source" = true)
    (kSrc : PySem.W.keepIn K (.ref fSrc) = true)
    (aD : PySem.W.nsIn K mainGlobals "_law_draw" = some (some (.ref fD)))
    (lD : K.lookup fD = some ⟨ocD, odD, .func (PySem.W.fnOf "_law_draw" "_law_draw" (defArgs sDraw) (defBody sDraw) (defScope sDraw) .none kVD dcD pmD anD cdD ctD), slD⟩)
    (cD : PySem.W.codeIn K cdD "_law_draw" = true)
    (kD : PySem.W.keepIn K (.ref fD) = true)
    (aP : PySem.W.nsIn K mainGlobals "_law_pick" = some (some (.ref fP)))
    (lP : K.lookup fP = some ⟨ocP, odP, .func (PySem.W.fnOf "_law_pick" "_law_pick" (defArgs sPick) (defBody sPick) (defScope sPick) .none kVP dcP pmP anP cdP ctP), slP⟩)
    (cP : PySem.W.codeIn K cdP "_law_pick" = true)
    (kP : PySem.W.keepIn K (.ref fP) = true)
    (aWd : PySem.W.nsIn K mainGlobals "_law_words" = some (some (.ref fWd)))
    (lWd : K.lookup fWd = some ⟨ocWd, odWd, .func (PySem.W.fnOf "_law_words" "_law_words" (defArgs sWords) (defBody sWords) (defScope sWords) .none kVWd dcWd pmWd anWd cdWd ctWd), slWd⟩)
    (cWd : PySem.W.codeIn K cdWd "_law_words" = true)
    (kWd : PySem.W.keepIn K (.ref fWd) = true)
    (aSo : PySem.W.nsIn K mainGlobals "_law_sort" = some (some (.ref fSo)))
    (lSo : K.lookup fSo = some ⟨ocSo, odSo, .func (PySem.W.fnOf "_law_sort" "_law_sort" (defArgs sSort) (defBody sSort) (defScope sSort) .none kVSo dcSo pmSo anSo cdSo ctSo), slSo⟩)
    (cSo : PySem.W.codeIn K cdSo "_law_sort" = true)
    (kSo : PySem.W.keepIn K (.ref fSo) = true)
    (aSts : PySem.W.nsIn K mainGlobals "_law_sorts" = some (some (.ref fSts)))
    (lSts : K.lookup fSts = some ⟨ocSts, odSts, .func (PySem.W.fnOf "_law_sorts" "_law_sorts" (defArgs sSorts) (defBody sSorts) (defScope sSorts) .none kVSts dcSts pmSts anSts cdSts ctSts), slSts⟩)
    (cSts : PySem.W.codeIn K cdSts "_law_sorts" = true)
    (kSts : PySem.W.keepIn K (.ref fSts) = true)
    (aSd : PySem.W.nsIn K mainGlobals "_law_said" = some (some (.ref fSd)))
    (lSd : K.lookup fSd = some ⟨ocSd, odSd, .func (PySem.W.fnOf "_law_said" "_law_said" (defArgs sSaid) (defBody sSaid) (defScope sSaid) .none kVSd dcSd pmSd anSd cdSd ctSd), slSd⟩)
    (cSd : PySem.W.codeIn K cdSd "_law_said" = true)
    (kSd : PySem.W.keepIn K (.ref fSd) = true)
    (aOm : PySem.W.nsIn K mainGlobals "_law_odd_moves" = some (some (.ref fOm)))
    (lOm : K.lookup fOm = some ⟨ocOm, odOm, .func (PySem.W.fnOf "_law_odd_moves" "_law_odd_moves" (defArgs sOddM) (defBody sOddM) (defScope sOddM) .none kVOm dcOm pmOm anOm cdOm ctOm), slOm⟩)
    (cOm : PySem.W.codeIn K cdOm "_law_odd_moves" = true)
    (kOm : PySem.W.keepIn K (.ref fOm) = true)
    (aLaw : PySem.W.nsIn K mainGlobals "law" = some (some (.ref fLaw)))
    (lLaw : K.lookup fLaw = some ⟨ocLaw, odLaw, .func (PySem.W.fnOf "law" "law" (defArgs sLaw) (defBody sLaw) (defScope sLaw) .none kVLaw dcLaw pmLaw anLaw cdLaw ctLaw), slLaw⟩)
    (cLaw : PySem.W.codeIn K cdLaw "law" = true)
    (kLaw : PySem.W.keepIn K (.ref fLaw) = true)
    (aC : PySem.W.nsIn K mainGlobals "Kind" = some (some (.ref C)))
    (aCR : PySem.W.nsIn K mainGlobals "RightError" = some (some (.ref CR)))
    (aCB : PySem.W.nsIn K mainGlobals "BadKind" = some (some (.ref CB)))
    (xCB : K.lookup CB = some (excClassObj nmCB qCB CB NCB bsCB bmCB true snCB subCB abCB colCB ddCB m0CB m1CB m2CB m3CB m5CB "ValueError.__new__"))
    (rCB : PySem.HandSPX.refsVE bmCB = true)
    (saCB : PySem.W.findIn K (.ref CB) "__setattr__" = some (some (.builtin "object.__setattr__")))
    (exCB : PySem.W.subIn K (.ref CB) (.type "BaseException") = some true)
    (tyCB : PySem.W.typeIn K (.ref CB) = some (.type "type"))
    (kCB : PySem.W.keepIn K (.ref CB) = true)
    (noCB : PySem.W.findIn K (.ref CB) "part" = some none)
    (aBI : PySem.W.findIn K (.ref CB) "__init__" = some (some (.ref fBI)))
    (tBI : PySem.W.typeIn K (.ref fBI) = some (.type "function"))
    (lBI : K.lookup fBI = some ⟨ocBI, odBI, .func (PySem.W.fnOf "__init__" "BadKind.__init__" (defArgs sIBadKind) (defBody sIBadKind) (defScope sIBadKind) .none kVBI dcBI pmBI anBI cdBI ctBI), slBI⟩)
    (cBI : PySem.W.codeIn K cdBI "BadKind.__init__" = true)
    (kBI : PySem.W.keepIn K (.ref fBI) = true)
    (gaBp : PySem.W.findIn K (.ref CB) "__getattribute__" = some (some (.builtin "BaseException.__getattribute__")))
    (ggBp : PySem.W.findIn K (.ref CB) "__getattr__" = some none)
    (hdBp : PySem.W.hasDictIn K CB = true)
    (teBp : PySem.W.exmOne K (.ref CB) (.ref CR) = some true)
    (clBp : (PySem.W.clsIn K CB).isSome = true)
    (ccBp : PySem.W.findIn K (.ref CB) "__class__" = some (some (.builtin "object.__class__")))
    (moBp : PySem.W.mroIn K CB (.type "object") = some true)
    (kiBp : PySem.W.kitOne K (.ref CB) (.ref CB) = some true)
    (kvBp : PySem.W.kitOne K (.ref CB) (.type "ValueError") = some true)
    (aI : PySem.W.findIn K (.ref C) "__init__" = some (some (.ref fI)))
    (iI : PySem.W.isFn K (.ref fI) = true)
    (lI : K.lookup fI = some ⟨ocI, odI, .func (PySem.W.fnOf "__init__" "Kind.__init__" (defArgs (kMeth 0)) (defBody (kMeth 0)) (defScope (kMeth 0)) .none kVI dcI pmI anI cdI ctI), slI⟩)
    (cI : PySem.W.codeIn K cdI "Kind.__init__" = true)
    (kI : PySem.W.keepIn K (.ref fI) = true)
    (pgC : PySem.W.plainGet K C Str.empty = true)
    (hdC : PySem.W.hasDictIn K C = true)
    (poC : PySem.W.plainOver K C = true)
    (saC : PySem.W.findIn K (.ref C) "__setattr__" = some (some (.builtin "object.__setattr__")))
    (mkC : PySem.W.makesIn K C = true)
    (kcC : PySem.W.keepIn K (.ref C) = true)
    (spK : PySem.W.specialIn K (.builtin "object.__class__") "__get__" = some (some (.builtin "getset_descriptor.__get__")))
    (tkK : PySem.W.takesIn K (.builtin "object.__class__") = some true)
    (no_name : PySem.W.findIn K (.ref C) "_name" = some none)
    (no_start : PySem.W.findIn K (.ref C) "_start" = some none)
    (no_ends : PySem.W.findIn K (.ref C) "_ends" = some none)
    (no_states : PySem.W.findIn K (.ref C) "_states" = some none)
    (no_methods : PySem.W.findIn K (.ref C) "_methods" = some none)
    (no_moves : PySem.W.findIn K (.ref C) "_moves" = some none)
    (z_isinstance : PySem.W.nsIn K mainGlobals "isinstance" = some none)
    (z_list : PySem.W.nsIn K mainGlobals "list" = some none)
    (z_tuple : PySem.W.nsIn K mainGlobals "tuple" = some none)
    (z_str : PySem.W.nsIn K mainGlobals "str" = some none)
    (z_len : PySem.W.nsIn K mainGlobals "len" = some none)
    (z_all : PySem.W.nsIn K mainGlobals "all" = some none)
    (z_set : PySem.W.nsIn K mainGlobals "set" = some none)
    (z_dict : PySem.W.nsIn K mainGlobals "dict" = some none)
    (z_sum : PySem.W.nsIn K mainGlobals "sum" = some none)
    (z_sorted : PySem.W.nsIn K mainGlobals "sorted" = some none)
    (z_range : PySem.W.nsIn K mainGlobals "range" = some none)
    (z_int : PySem.W.nsIn K mainGlobals "int" = some none)
    (z_repr : PySem.W.nsIn K mainGlobals "repr" = some none)
    (z_ValueError : PySem.W.nsIn K mainGlobals "ValueError" = some none)
    (v_MOST_SIGNS : PySem.W.nsIn K mainGlobals "MOST_SIGNS" = some (some (.int 8 tt_MOST_SIGNS)))
    (v_MOST_STATES : PySem.W.nsIn K mainGlobals "MOST_STATES" = some (some (.int 60 tt_MOST_STATES)))
    (v_MOST_METHODS : PySem.W.nsIn K mainGlobals "MOST_METHODS" = some (some (.int 8 tt_MOST_METHODS)))
    (v_MOST_OUTCOMES : PySem.W.nsIn K mainGlobals "MOST_OUTCOMES" = some (some (.int 8 tt_MOST_OUTCOMES)))
    : ∃ fd : FuncData, (∀ (s : Shared) (v : Value), BindsTo s fd ⟨[v], []⟩ [("_law_script", v)]) ∧ ∀ base : Heap, K.In base → base.Ns mainGlobals mg → (∃ o, base.get? sysModules = some o) → FnOkG l.prog w K mg base 9 fa fd ["_law_script"] (spLaw4 K) := by
  have e := hfa.symm.trans (PySem.W.mg_of X G aLaw)
  cases e
  have FRow := fun_mk (st := sIsRow) lRow cRow kRow
  have gRow := PySem.W.mg_of X G aRow
  have FName := fun_mk (st := sIsName) lName cName kName
  have gName := PySem.W.mg_of X G aName
  have FErr := fun_mk (st := sIsError) lErr cErr kErr
  have gErr := PySem.W.mg_of X G aErr
  have FWord := fun_mk (st := sIsWord) lWord cWord kWord
  have gWord := PySem.W.mg_of X G aWord
  have FUn := fun_mk (st := sUnlike) lUn cUn kUn
  have gUn := PySem.W.mg_of X G aUn
  have FKey := fun_mk (st := sIsKey) lKey cKey kKey
  have gKey := PySem.W.mg_of X G aKey
  have FAR := fun_mk (st := sAreRows) lAR cAR kAR
  have gAR := PySem.W.mg_of X G aAR
  have FWi := fun_mk (st := sWith) lWi cWi kWi
  have gWi := PySem.W.mg_of X G aWi
  have FPa := fun_mk (st := sPairs) lPa cPa kPa
  have gPa := PySem.W.mg_of X G aPa
  have FRi := fun_mk (st := sRight) lRi cRi kRi
  have gRi := PySem.W.mg_of X G aRi
  have FRd := fun_mk (st := sRead) lRd cRd kRd
  have gRd := PySem.W.mg_of X G aRd
  have FCP := fun_mk (st := sCheckP) lCP cCP kCP
  have gCP := PySem.W.mg_of X G aCP
  have FSrc := fun_mk (st := sSource) lSrc cSrc kSrc
  have gSrc := PySem.W.mg_of X G aSrc
  have FD := fun_mk (st := sDraw) lD cD kD
  have gD := PySem.W.mg_of X G aD
  have FP := fun_mk (st := sPick) lP cP kP
  have gP := PySem.W.mg_of X G aP
  have FWd := fun_mk (st := sWords) lWd cWd kWd
  have gWd := PySem.W.mg_of X G aWd
  have FSo := fun_mk (st := sSort) lSo cSo kSo
  have gSo := PySem.W.mg_of X G aSo
  have FSts := fun_mk (st := sSorts) lSts cSts kSts
  have gSts := PySem.W.mg_of X G aSts
  have FSd := fun_mk (st := sSaid) lSd cSd kSd
  have gSd := PySem.W.mg_of X G aSd
  have FOm := fun_mk (st := sOddM) lOm cOm kOm
  have gOm := PySem.W.mg_of X G aOm
  have FLaw := fun_mk (st := sLaw) lLaw cLaw kLaw
  have gLaw := PySem.W.mg_of X G aLaw
  have FBI := fun_mk (st := sIBadKind) lBI cBI kBI
  have FI := fun_mk (st := (kMeth 0)) lI cI kI
  have bRow := FRow.binds (ps := ["thing"]) fun _ _ _ _ _ _ us hl => match us, hl with | [_], _ => rfl
  have bName := FName.binds (ps := ["thing"]) fun _ _ _ _ _ _ us hl => match us, hl with | [_], _ => rfl
  have bErr := FErr.binds (ps := ["thing"]) fun _ _ _ _ _ _ us hl => match us, hl with | [_], _ => rfl
  have bWord := FWord.binds (ps := ["thing"]) fun _ _ _ _ _ _ us hl => match us, hl with | [_], _ => rfl
  have bUn := FUn.binds (ps := ["thing"]) fun _ _ _ _ _ _ us hl => match us, hl with | [_], _ => rfl
  have bKey := FKey.binds (ps := ["thing"]) fun _ _ _ _ _ _ us hl => match us, hl with | [_], _ => rfl
  have bAR := FAR.binds (ps := ["moves"]) fun _ _ _ _ _ _ us hl => match us, hl with | [_], _ => rfl
  have bWi := FWi.binds (ps := ["moves"]) fun _ _ _ _ _ _ us hl => match us, hl with | [_], _ => rfl
  have bPa := FPa.binds (ps := ["rows"]) fun _ _ _ _ _ _ us hl => match us, hl with | [_], _ => rfl
  have bRi := FRi.binds (ps := ["words", "states", "methods"]) fun _ _ _ _ _ _ us hl => match us, hl with | [_, _, _], _ => rfl
  have bRd := FRd.binds (ps := ["moves", "start", "ends"]) fun _ _ _ _ _ _ us hl => match us, hl with | [_, _, _], _ => rfl
  have bCP := FCP.binds (ps := ["name", "start", "ends"]) fun _ _ _ _ _ _ us hl => match us, hl with | [_, _, _], _ => rfl
  have bSrc := FSrc.binds (ps := ["_law_cell"]) fun _ _ _ _ _ _ us hl => match us, hl with | [_], _ => rfl
  have bD := FD.binds (ps := ["_law_well", "_law_many"]) fun _ _ _ _ _ _ us hl => match us, hl with | [_, _], _ => rfl
  have bP := FP.binds (ps := ["_law_well", "_law_some"]) fun _ _ _ _ _ _ us hl => match us, hl with | [_, _], _ => rfl
  have bWd := FWd.binds (ps := ["_law_well", "_law_many", "_law_some"]) fun _ _ _ _ _ _ us hl => match us, hl with | [_, _, _], _ => rfl
  have bSo := FSo.binds (ps := ["_law_well", "_law_name", "_law_methods", "_law_errors", "_law_size"]) fun _ _ _ _ _ _ us hl => match us, hl with | [_, _, _, _, _], _ => rfl
  have bSts := FSts.binds (ps := ["_law_well", "_law_many", "_law_size"]) fun _ _ _ _ _ _ us hl => match us, hl with | [_, _, _], _ => rfl
  have bSd := FSd.binds (ps := ["_law_name", "_law_start", "_law_ends", "_law_moves"]) fun _ _ _ _ _ _ us hl => match us, hl with | [_, _, _, _], _ => rfl
  have bOm := FOm.binds (ps := ["_law_well", "_law_moves", "_law_states"]) fun _ _ _ _ _ _ us hl => match us, hl with | [_, _, _], _ => rfl
  have bLaw := FLaw.binds (ps := ["_law_script"]) fun _ _ _ _ _ _ us hl => match us, hl with | [_], _ => rfl
  have bBI := FBI.binds (ps := ["self", "part"]) fun _ _ _ _ _ _ us hl => match us, hl with | [_, _], _ => rfl
  have bI := FI.binds (ps := ["self", "name", "start", "ends", "moves"]) fun _ _ _ _ _ _ us hl => match us, hl with | [_, _, _, _, _], _ => rfl
  have y_isinstance := PySem.W.mg_none_of X G z_isinstance
  have y_list := PySem.W.mg_none_of X G z_list
  have y_tuple := PySem.W.mg_none_of X G z_tuple
  have y_str := PySem.W.mg_none_of X G z_str
  have y_len := PySem.W.mg_none_of X G z_len
  have y_all := PySem.W.mg_none_of X G z_all
  have y_set := PySem.W.mg_none_of X G z_set
  have y_dict := PySem.W.mg_none_of X G z_dict
  have y_sum := PySem.W.mg_none_of X G z_sum
  have y_sorted := PySem.W.mg_none_of X G z_sorted
  have y_range := PySem.W.mg_none_of X G z_range
  have y_int := PySem.W.mg_none_of X G z_int
  have y_repr := PySem.W.mg_none_of X G z_repr
  have y_ValueError := PySem.W.mg_none_of X G z_ValueError
  have u_MOST_SIGNS := PySem.W.mg_of X G v_MOST_SIGNS
  have u_MOST_STATES := PySem.W.mg_of X G v_MOST_STATES
  have u_MOST_METHODS := PySem.W.mg_of X G v_MOST_METHODS
  have u_MOST_OUTCOMES := PySem.W.mg_of X G v_MOST_OUTCOMES
  have gC := PySem.W.mg_of X G aC
  have gCB := PySem.W.mg_of X G aCB
  have gCR := PySem.W.mg_of X G aCR
  have cl : Cls K C := ⟨pgC, hdC, poC, saC⟩
  have TF : TForm K mg fRow := ⟨y_isinstance, y_list, y_tuple, y_str, y_len, y_all, y_set, ⟨_, u_MOST_SIGNS⟩, gRow, kRow⟩
  have TE1 : TErr K mg "BadKind" "part" CB fBI := ⟨gCB, ⟨⟨_, _, _, _, _, _, _, _, _, _, _, _, _, _, _, xCB, rCB⟩, saCB, exCB, tyCB, kCB⟩, aBI, tBI, noCB⟩
  have TR : TRead K mg fKey := ⟨y_isinstance, y_dict, y_list, y_tuple, y_str, y_len, y_all, y_sum, y_set, y_sorted, ⟨_, u_MOST_OUTCOMES⟩, ⟨_, u_MOST_STATES⟩, ⟨_, u_MOST_METHODS⟩, gKey, kKey⟩
  have TRi : TRight K mg fName fWord := ⟨gName, kName, gWord, kWord⟩
  have TD : TRd K mg fAR fPa fRi := ⟨gAR, kAR, gPa, kPa, gRi, kRi⟩
  have TW : TWi K mg fWi := ⟨gWi, kWi⟩
  have TCP : TCheckP K mg fName fUn := ⟨gName, kName, gUn, kUn⟩
  have TI : TInit K mg C fCP fRd := ⟨gCP, kCP, gRd, kRd, y_tuple, y_sorted, cl, no_name, no_start, no_ends, no_states, no_methods, no_moves⟩
  have MkK : Mk K C fI := ⟨mkC, aI, iI, kcC⟩
  have TS1 : TSk K mg CR CB C fI := ⟨gCR, gCB, gC, MkK, y_isinstance, y_ValueError, ⟨clBp, gaBp, ggBp, exCB, ccBp, spK, tkK, moBp⟩, ⟨gaBp, ggBp, exCB, hdBp⟩, noCB, teBp, kiBp, kvBp⟩
  have TLw : TLaw K mg fD := ⟨y_int, y_len, gD, kD⟩
  have TWd : TWords K mg fD fP := ⟨y_int, y_len, y_range, gD, kD, gP, kP⟩
  have TSo : TSort K mg fD fP fWd := ⟨y_range, gD, kD, gP, kP, gWd, kWd⟩
  have TSs : TSorts K mg fD fWd fSo := ⟨gD, kD, gWd, kWd, gSo, kSo⟩
  have TOm1 : TOm K mg fP := ⟨gP, kP, y_list, y_dict, y_range⟩
  have TL2 : TLaw2 K mg fSrc fP fSts fOm fSd := ⟨y_repr, y_range, y_dict, gSrc, kSrc, gP, kP, gSts, kSts, gOm, kOm, gSd, kSd⟩
  refine ⟨PySem.W.fnOf "law" "law" (defArgs sLaw) (defBody sLaw) (defScope sLaw) .none kVLaw dcLaw pmLaw anLaw cdLaw ctLaw, fun s v => .of_eq rfl, fun base _ _ lo => ?_⟩
  have hRow := ok_row (P := l.prog) (w := w) (base := base) FRow TF
  have hName := ok_name (P := l.prog) (w := w) (base := base) FName TF
  have hErr := ok_error (P := l.prog) (w := w) (base := base) FErr TF
  have hWord := ok_word (P := l.prog) (w := w) (base := base) FWord TF gErr kErr hErr bErr
  have hUn := ok_unlike (P := l.prog) (w := w) (base := base) FUn TF gName kName hRow bRow hName bName
  have hUnN := ok_unlikeN (P := l.prog) (w := w) (base := base) FUn TF gName kName hRow bRow hName bName
  have hKey := ok_key (P := l.prog) (w := w) (base := base) FKey TF
  have hAR := ok_areRowsG (P := l.prog) (w := w) (base := base) FAR TR hKey bKey
  have hARV := ok_areRowsV (P := l.prog) (w := w) (base := base) FAR TR hKey bKey
  have hARX := ok_areRowsX (P := l.prog) (w := w) (base := base) FAR TR hKey bKey
  have hPaG := ok_pairsG (P := l.prog) (w := w) (base := base) FPa TR
  have hPaX := ok_pairsX (P := l.prog) (w := w) (base := base) FPa TR
  have hPa := ok_pairs (P := l.prog) (w := w) (base := base) FPa TR
  have hWi := ok_with (P := l.prog) (w := w) (base := base) FWi TR
  have hWiX := ok_withX (P := l.prog) (w := w) (base := base) FWi TR
  have hRi := ok_right (P := l.prog) (w := w) (base := base) FRi TR TRi hName bName hWord bWord
  have hRiW := ok_rightW (P := l.prog) (w := w) (base := base) FRi TR TRi hName bName hWord bWord
  have hBI := ok_badI (P := l.prog) (w := w) (base := base) FBI TE1
  have hRdG := ok_readG (P := l.prog) (w := w) (base := base) FRd TR TD TE1 hBI bBI hAR bAR hPaG hPa bPa TW hWi bWi hRi bRi
  have hRdX := ok_readX (P := l.prog) (w := w) (base := base) FRd TD TE1 hBI bBI (FnOk.or hARX hARV) bAR
  have hRdY := ok_readY (P := l.prog) (w := w) (base := base) FRd TR TD TE1 hBI bBI hARV bAR hPaX bPa TW hWiX bWi
  have hRdZ := ok_readZ (P := l.prog) (w := w) (base := base) FRd TR TD TE1 hBI bBI hAR bAR hPaG hPa bPa TW hWi bWi hRiW bRi
  have hRdD := ok_readD (P := l.prog) (w := w) (base := base) FRd TR TD TE1 hBI bBI hAR bAR hPaG hPa bPa TW hWi bWi hRi bRi
  have hCP := ok_checkP (P := l.prog) (w := w) (base := base) FCP TCP TE1 hBI bBI hName bName hUn bUn
  have hCPX := ok_checkX (P := l.prog) (w := w) (base := base) FCP TCP TE1 hBI bBI hName bName (FnOk.or hUnN hUn) bUn
  have hIG := ok_initG (P := l.prog) (w := w) (base := base) FI TI hCP bCP hRdG bRd
  have hIX := ok_initX (P := l.prog) (w := w) (base := base) FI TI (FnOk.or hCPX hCP) bCP (FnOk.or (FnOk.or hRdX hRdY) (FnOk.or hRdZ hRdD)) bRd
  have hSd := ok_saidK (P := l.prog) (w := w) (base := base) FSd TS1 (FnOk.or hIX hIG) bI
  have hSrc := ok_source (P := l.prog) (w := w) (base := base) FSrc TLw
  have hD := ok_draw (P := l.prog) (w := w) (base := base) FD TLw
  have hP := ok_pick (P := l.prog) (w := w) (base := base) FP TLw hD bD
  have hWd := ok_words (P := l.prog) (w := w) (base := base) FWd TWd hD bD hP bP
  have hSo := ok_sort (P := l.prog) (w := w) (base := base) FSo TSo hD bD hP bP hWd bWd
  have hSts := ok_sorts (P := l.prog) (w := w) (base := base) FSts TSs hD bD hWd bWd hSo bSo
  have hOm := ok_oddM (P := l.prog) (w := w) (base := base) FOm TOm1 hP bP
  exact ok_law2 (P := l.prog) (w := w) (base := base) FLaw TL2 lo hSrc bSrc hP bP hSts bSts hOm bOm hSd bSd
end Q9
end
-- QAll
section
set_option maxRecDepth 100000
open PySem PySem.W PyProof.Rows
set_option maxHeartbeats 0 in
theorem PySem.Challenge.cw_rightstate_k02_what_is_no_kind_holds : PySem.Challenge.rw_rightstate_k02_what_is_no_kind.Holds := by
  w_on; o_law; k_head; (case hw => w_witness2)
  k_fill
  refine Q9.walk2 (l := PySem.Challenge.rw_rightstate_k02_what_is_no_kind) rfl rfl (by decide +kernel) (fun w h Y => PySem.W.kIn_of Y) ?F
  case F =>
    intro w mg fa h KX G hmg
    refine' Q9.all_mk KX G hmg ?aRow ?lRow ?cRow ?kRow ?aName ?lName ?cName ?kName ?aErr ?lErr ?cErr ?kErr ?aWord ?lWord ?cWord ?kWord ?aUn ?lUn ?cUn ?kUn ?aKey ?lKey ?cKey ?kKey ?aAR ?lAR ?cAR ?kAR ?aWi ?lWi ?cWi ?kWi ?aPa ?lPa ?cPa ?kPa ?aRi ?lRi ?cRi ?kRi ?aRd ?lRd ?cRd ?kRd ?aCP ?lCP ?cCP ?kCP ?aSrc ?lSrc ?cSrc ?kSrc ?aD ?lD ?cD ?kD ?aP ?lP ?cP ?kP ?aWd ?lWd ?cWd ?kWd ?aSo ?lSo ?cSo ?kSo ?aSts ?lSts ?cSts ?kSts ?aSd ?lSd ?cSd ?kSd ?aOm ?lOm ?cOm ?kOm ?aLaw ?lLaw ?cLaw ?kLaw ?aC ?aCR ?aCB ?xCB ?rCB ?saCB ?exCB ?tyCB ?kCB ?noCB ?aBI ?tBI ?lBI ?cBI ?kBI ?gaBp ?ggBp ?hdBp ?teBp ?clBp ?ccBp ?moBp ?kiBp ?kvBp ?aI ?iI ?lI ?cI ?kI ?pgC ?hdC ?poC ?saC ?mkC ?kcC ?spK ?tkK ?no_name ?no_start ?no_ends ?no_states ?no_methods ?no_moves ?z_isinstance ?z_list ?z_tuple ?z_str ?z_len ?z_all ?z_set ?z_dict ?z_sum ?z_sorted ?z_range ?z_int ?z_repr ?z_ValueError ?v_MOST_SIGNS ?v_MOST_STATES ?v_MOST_METHODS ?v_MOST_OUTCOMES
    (case aRow => k_is)
    (case lRow => k_is)
    (case cRow => k_is)
    (case kRow => k_is)
    (case aName => k_is)
    (case lName => k_is)
    (case cName => k_is)
    (case kName => k_is)
    (case aErr => k_is)
    (case lErr => k_is)
    (case cErr => k_is)
    (case kErr => k_is)
    (case aWord => k_is)
    (case lWord => k_is)
    (case cWord => k_is)
    (case kWord => k_is)
    (case aUn => k_is)
    (case lUn => k_is)
    (case cUn => k_is)
    (case kUn => k_is)
    (case aKey => k_is)
    (case lKey => k_is)
    (case cKey => k_is)
    (case kKey => k_is)
    (case aAR => k_is)
    (case lAR => k_is)
    (case cAR => k_is)
    (case kAR => k_is)
    (case aWi => k_is)
    (case lWi => k_is)
    (case cWi => k_is)
    (case kWi => k_is)
    (case aPa => k_is)
    (case lPa => k_is)
    (case cPa => k_is)
    (case kPa => k_is)
    (case aRi => k_is)
    (case lRi => k_is)
    (case cRi => k_is)
    (case kRi => k_is)
    (case aRd => k_is)
    (case lRd => k_is)
    (case cRd => k_is)
    (case kRd => k_is)
    (case aCP => k_is)
    (case lCP => k_is)
    (case cCP => k_is)
    (case kCP => k_is)
    (case aSrc => k_is)
    (case lSrc => k_is)
    (case cSrc => k_is)
    (case kSrc => k_is)
    (case aD => k_is)
    (case lD => k_is)
    (case cD => k_is)
    (case kD => k_is)
    (case aP => k_is)
    (case lP => k_is)
    (case cP => k_is)
    (case kP => k_is)
    (case aWd => k_is)
    (case lWd => k_is)
    (case cWd => k_is)
    (case kWd => k_is)
    (case aSo => k_is)
    (case lSo => k_is)
    (case cSo => k_is)
    (case kSo => k_is)
    (case aSts => k_is)
    (case lSts => k_is)
    (case cSts => k_is)
    (case kSts => k_is)
    (case aSd => k_is)
    (case lSd => k_is)
    (case cSd => k_is)
    (case kSd => k_is)
    (case aOm => k_is)
    (case lOm => k_is)
    (case cOm => k_is)
    (case kOm => k_is)
    (case aLaw => k_is)
    (case lLaw => k_is)
    (case cLaw => k_is)
    (case kLaw => k_is)
    (case aC => k_is)
    (case aCR => k_is)
    (case aCB => k_is)
    (case xCB => k_is)
    (case rCB => decide +kernel)
    (case saCB => k_is)
    (case exCB => k_is)
    (case tyCB => k_is)
    (case kCB => k_is)
    (case noCB => k_is)
    (case aBI => k_is)
    (case tBI => k_is)
    (case lBI => k_is)
    (case cBI => k_is)
    (case kBI => k_is)
    (case gaBp => k_is)
    (case ggBp => k_is)
    (case hdBp => k_is)
    (case teBp => first | rfl | k_is)
    (case clBp => first | rfl | k_is)
    (case ccBp => k_is)
    (case moBp => k_is)
    (case kiBp => first | rfl | k_is)
    (case kvBp => first | rfl | k_is)
    (case aI => k_is)
    (case iI => k_is)
    (case lI => k_is)
    (case cI => k_is)
    (case kI => k_is)
    (case pgC => k_is)
    (case hdC => k_is)
    (case poC => k_is)
    (case saC => k_is)
    (case mkC => k_is)
    (case kcC => k_is)
    (case spK => k_is)
    (case tkK => k_is)
    (case no_name => k_is)
    (case no_start => k_is)
    (case no_ends => k_is)
    (case no_states => k_is)
    (case no_methods => k_is)
    (case no_moves => k_is)
    (case z_isinstance => k_is)
    (case z_list => k_is)
    (case z_tuple => k_is)
    (case z_str => k_is)
    (case z_len => k_is)
    (case z_all => k_is)
    (case z_set => k_is)
    (case z_dict => k_is)
    (case z_sum => k_is)
    (case z_sorted => k_is)
    (case z_range => k_is)
    (case z_int => k_is)
    (case z_repr => k_is)
    (case z_ValueError => k_is)
    (case v_MOST_SIGNS => k_is)
    (case v_MOST_STATES => k_is)
    (case v_MOST_METHODS => k_is)
    (case v_MOST_OUTCOMES => k_is)
end
