import PyProof.Rows.All
import HandS.ForMost
import HandS.Walk
import HandS.IsInst
import HandS.Conv
import HandS.Deep
import PyProof.ReprRoads
import HandS.TupAny
import HandS.TupMul
import HandS.Wide
import HandS.Zip
import KE.GoesEnum
import HandS.More
import HandS.Dict
import HandS.Style
import PyProof.ReprBulk
import HandS.SortInts
import KE.DataCmp
import HandS.ExcOwn
import HandS.WordsExc
import HandS.Flow
import KE.KExcIs
import KE.KIsAll
import HandS.WordsDict
import HandS.Strs
import HandS.SetBool
import KE.GoesSet
import HandS.SetFor
import PyProof.Rows.SetFrom
import PyProof.DictCalls
import HandS.TryMany
import HandS.ExcField
import HandS.ExcInit
import KE.SortData
import HandS.Text
import HandS.StrMore
import PySem.Challenge.RW_guardbooks_k24_whole_texts_of_deeds
set_option Elab.async false
set_option linter.all false
namespace GB
open PySem PySem.Spec PyProof.Rows L2

/-! data in the abstract heap: what lies there for good -/
def Firm : HO → Prop
  | .tup _ => True
  | .frz _ _ => True
  | .ext _ => True
  | .xd _ => True
  | _ => False
def Keep (H H' : Hp) : Prop := ∀ a o, H a = some o → Firm o → H' a = some o
theorem Keep.rfl' (H : Hp) : Keep H H := fun _ _ h _ => h
theorem Keep.tr {H H1 H2 : Hp} (p : Keep H H1) (q : Keep H1 H2) : Keep H H2 := fun a o h f => q a o (p a o h f) f
theorem keep_of_same {H H' : Hp} (p : Same H H') : Keep H H' := fun a o h _ => p a o h
theorem same_new {H : Hp} {p : Addr} {o : HO} (h : H p = none) : Same H (upd H p o) := fun b x e => by
  rw [upd_ne (ne_of_none e h)]; exact e

/-- a tuple that stays as it is, without a dict -/
def TqT (K : PySem.W.Frag) (H : Hp) (a : Addr) (vs : List V) : Prop :=
  (∃ o : Obj, H a = some (.frz o (.tup vs)) ∧ o.dict = none) ∨ ∃ (o : Obj) (its : Array Value) (n : Nat), K.lookup a = some o ∧ o.cls = .type "tuple" ∧ o.dict = none ∧ o.data = .seq its n ∧ its.size ≤ sizeLine ∧ Vals vs its.toList
theorem TqT.sq {K : PySem.W.Frag} {H : Hp} {a : Addr} {vs : List V} (h : TqT K H a vs) : SqT K H a vs := by
  rcases h with ⟨o, h, _⟩ | ⟨o, its, n, h1, h2, _, h3⟩
  · exact .inl (.inr ⟨o, h⟩)
  · exact .inr ⟨o, its, n, h1, h2, h3⟩
instance {K : PySem.W.Frag} {H : Hp} {a : Addr} {vs : List V} : Coe (TqT K H a vs) (SqT K H a vs) := ⟨TqT.sq⟩
abbrev tupO (us : List Value) : Obj := { cls := .type "tuple", data := .seq us.toArray }
theorem tq_new {K : PySem.W.Frag} {H : Hp} {a : Addr} {vs : List V} {us : List Value} : TqT K (upd H a (.frz (tupO us) (.tup vs))) a vs := .inl ⟨_, upd_same, rfl⟩
def keyD : Key → PyData
  | .inl i => .int i
  | .inr z => .str z
mutual
inductive Br (K : PySem.W.Frag) (H : Hp) : V → PyData → Prop
  | non : Br K H .non .none
  | bl (b : Bool) : Br K H (.bl b) (.bool b)
  | int (i : Int) : Br K H (.int i) (.int i)
  | str (z : Str) : Br K H (.str z) (.str z)
  | tup {a : Addr} {vs : List V} {ds : List PyData} : TqT K H a vs → BrA K H vs ds → Br K H (.ref a) (.tuple ds)
  | lst {a : Addr} {o : Obj} {vs : List V} {ds : List PyData} : H a = some (.frz o (.lst vs)) → (a == sysModules) = false → BrA K H vs ds → Br K H (.ref a) (.list ds)
  | dct {a : Addr} {o : Obj} {vks : List (Key × V)} {kvs : List (PyData × PyData)} : H a = some (.frz o (.dK vks)) → kvs.map (·.1) = vks.map (fun p => keyD p.1) → BrA K H (vks.map (·.2)) (kvs.map (·.2)) → Br K H (.ref a) (.dict kvs)
inductive BrA (K : PySem.W.Frag) (H : Hp) : List V → List PyData → Prop
  | nil : BrA K H [] []
  | cons {v : V} {vs : List V} {d : PyData} {ds : List PyData} : Br K H v d → BrA K H vs ds → BrA K H (v :: vs) (d :: ds)
end
section
variable {K : PySem.W.Frag} {H H' : Hp}
theorem tqT_keep (k : Keep H H') {a : Addr} {vs : List V} (h : TqT K H a vs) : TqT K H' a vs := by
  rcases h with ⟨o, h, e⟩ | h
  · exact .inl ⟨o, k _ _ h trivial, e⟩
  · exact .inr h
theorem sqT_keep (k : Keep H H') {a : Addr} {vs : List V} (h : SqT K H a vs) : SqT K H' a vs := by
  rcases h with (h | ⟨o, h⟩) | h
  · exact .inl (.inl (k _ _ h trivial))
  · exact .inl (.inr ⟨o, k _ _ h trivial⟩)
  · exact .inr h
mutual
theorem Br.keep (k : Keep H H') : ∀ (d : PyData) (v : V), Br K H v d → Br K H' v d
  | .none, _, h => by cases h; exact .non
  | .bool _, _, h => by cases h; exact .bl _
  | .int _, _, h => by cases h; exact .int _
  | .str _, _, h => by cases h; exact .str _
  | .tuple ds, _, h => by cases h with | tup h1 h2 => exact .tup (tqT_keep k h1) (BrA.keep k ds _ h2)
  | .list ds, _, h => by cases h with | lst h1 h2 h3 => exact .lst (k _ _ h1 trivial) h2 (BrA.keep k ds _ h3)
  | .dict kvs, _, h => by cases h with | dct h1 h2 h3 => exact .dct (k _ _ h1 trivial) h2 (BrK.keep k kvs _ h3)
theorem BrA.keep (k : Keep H H') : ∀ (ds : List PyData) (vs : List V), BrA K H vs ds → BrA K H' vs ds
  | [], _, h => by cases h; exact .nil
  | d :: ds, _, h => by cases h with | cons h1 h2 => exact .cons (Br.keep k d _ h1) (BrA.keep k ds _ h2)
theorem BrK.keep (k : Keep H H') : ∀ (kvs : List (PyData × PyData)) (vs : List V), BrA K H vs (kvs.map (·.2)) → BrA K H' vs (kvs.map (·.2))
  | [], _, h => by cases h; exact .nil
  | (_, d) :: kvs, _, h => by cases h with | cons h1 h2 => exact .cons (Br.keep k d _ h1) (BrK.keep k kvs _ h2)
end
theorem BrA.len : ∀ {vs : List V} {ds : List PyData}, BrA K H vs ds → vs.length = ds.length
  | _, [], h => by cases h; rfl
  | _, _ :: _, h => by cases h with | cons _ t => simp [BrA.len t]
theorem BrA.get : ∀ {vs : List V} {ds : List PyData} {i : Nat} {d : PyData}, BrA K H vs ds → ds[i]? = some d → ∃ v, vs[i]? = some v ∧ Br K H v d
  | _, [], _, _, _, e => by simp at e
  | _, _ :: _, 0, _, h, e => by cases h with | cons h1 _ => exact ⟨_, rfl, by simpa using (Option.some.inj e) ▸ h1⟩
  | _, _ :: _, i + 1, _, h, e => by cases h with | cons _ t => obtain ⟨v, h1, h2⟩ := BrA.get (i := i) t (by simpa using e); exact ⟨v, by simpa using h1, h2⟩
theorem BrA.getV : ∀ {vs : List V} {ds : List PyData} {i : Nat} {v : V}, BrA K H vs ds → vs[i]? = some v → ∃ d, ds[i]? = some d ∧ Br K H v d
  | _, [], _, _, h, e => by cases h; simp at e
  | _, _ :: _, 0, _, h, e => by cases h with | cons h1 _ => exact ⟨_, rfl, by simpa using (Option.some.inj e) ▸ h1⟩
  | _, _ :: _, i + 1, _, h, e => by cases h with | cons _ t => obtain ⟨v, h1, h2⟩ := BrA.getV (i := i) t (by simpa using e); exact ⟨v, by simpa using h1, h2⟩
theorem BrA.app : ∀ {vs ws : List V} {ds es : List PyData}, BrA K H vs ds → BrA K H ws es → BrA K H (vs ++ ws) (ds ++ es)
  | _, _, [], _, h, q => by cases h; exact q
  | _, _, _ :: _, _, h, q => by cases h with | cons h1 t => exact .cons h1 (BrA.app t q)
theorem BrA.take : ∀ {vs : List V} {ds : List PyData} (n : Nat), BrA K H vs ds → BrA K H (vs.take n) (ds.take n)
  | _, _, 0, _ => .nil
  | _, [], n + 1, h => by cases h; exact .nil
  | _, _ :: _, n + 1, h => by cases h with | cons h1 t => exact .cons h1 (BrA.take n t)
theorem BrA.drop : ∀ {vs : List V} {ds : List PyData} (n : Nat), BrA K H vs ds → BrA K H (vs.drop n) (ds.drop n)
  | _, _, 0, h => h
  | _, [], n + 1, h => by cases h; exact .nil
  | _, _ :: _, n + 1, h => by cases h with | cons _ t => exact BrA.drop n t
theorem BrA.one {v : V} {d : PyData} (h : Br K H v d) : BrA K H [v] [d] := .cons h .nil
theorem BrA.rep {vs : List V} {ds : List PyData} (h : BrA K H vs ds) : ∀ n : Nat, BrA K H (List.replicate n vs).flatten (List.replicate n ds).flatten
  | 0 => .nil
  | n + 1 => by simp only [List.replicate_succ, List.flatten_cons]; exact h.app (BrA.rep h n)
theorem BrA.set : ∀ {vs : List V} {ds : List PyData} (i : Nat) {v : V} {d : PyData}, BrA K H vs ds → Br K H v d → BrA K H (vs.set i v) (ds.set i d)
  | _, [], _, _, _, h, _ => by cases h; exact .nil
  | _, _ :: _, 0, _, _, h, q => by cases h with | cons _ t => exact .cons q t
  | _, _ :: _, i + 1, _, _, h, q => by cases h with | cons h1 t => exact .cons h1 (BrA.set i t q)
theorem BrA.erase : ∀ {vs : List V} {ds : List PyData} (i : Nat), BrA K H vs ds → BrA K H (vs.eraseIdx i) (ds.eraseIdx i)
  | _, [], _, h => by cases h; exact .nil
  | _, _ :: _, 0, h => by cases h with | cons _ t => exact t
  | _, _ :: _, i + 1, h => by cases h with | cons h1 t => exact .cons h1 (BrA.erase i t)
theorem BrA.dropLast {vs : List V} {ds : List PyData} (h : BrA K H vs ds) : BrA K H vs.dropLast ds.dropLast := by
  rw [List.dropLast_eq_take, List.dropLast_eq_take, h.len]; exact h.take _
end
/-! back to the library's readings of the plain heap -/
section
variable {X : Cx} {pins : List (Addr × Obj)} {σ : L2.St} {H : Hp} {s : Shared}
theorem kv_keys : ∀ {es : List DictEntry} {P : Program} {w : World} {vs : List (Key × Value)} {h : Heap}, Pairs (mixKind P w) es vs → ReadsAll h (es.map (·.key)) (vs.map fun p => keyD p.1) []
  | [], _, _, _, _, h => by cases h; exact .nil
  | e :: es, P, w, _, hp, h => by
    cases h with
    | @cons _ kv _ kvs h1 h2 h3 =>
      have t := kv_keys (h := hp) h3
      rcases keyIs_shape h1 with ⟨i, tk, q1, q2⟩ | ⟨i, tk, q1, q2⟩
      · have := ReadsAll.cons (Reads.int (h := hp) i tk) t
        simpa [q1, q2, keyD] using this
      · have := ReadsAll.cons (Reads.str (h := hp) i tk) t
        simpa [q1, q2, keyD] using this
theorem pairs_vals : ∀ {es : List DictEntry} {P : Program} {w : World} {vs : List (Key × Value)}, Pairs (mixKind P w) es vs → es.map (·.val) = vs.map (·.2)
  | [], _, _, _, h => by cases h; rfl
  | e :: es, _, _, _, h => by cases h with | cons h1 h2 h3 => simp [h2, pairs_vals h3]
theorem kv_vals : ∀ {vks : List (Key × V)} {vs : List (Key × Value)}, KV vks vs → Vals (vks.map (·.2)) (vs.map (·.2)) ∧ vks.map (·.1) = vs.map (·.1)
  | [], _, h => by cases h; exact ⟨.nil, rfl⟩
  | p :: r, _, h => by cases h with | cons h1 h2 => have q := kv_vals h2; exact ⟨.cons h1.2 q.1, by simp [h1.1, q.2]⟩
theorem not_sys {a : Addr} {as : List Addr} (h : (a == sysModules) = false) (h2 : sysModules ∉ as) : sysModules ∉ a :: as := fun m => by
  rcases List.mem_cons.mp m with e | e
  · exact absurd e.symm (beq_eq_false_iff_ne.mp h)
  · exact h2 e
mutual
theorem Br.reads (I : Inv X pins σ H s) : ∀ (d : PyData) (v : V) (u : Value), Br X.K H v d → RelV v u → ∃ as, Reads s.heap u d as ∧ sysModules ∉ as
  | .none, _, _, h, r => by cases h; cases r; exact ⟨_, .none, by simp⟩
  | .bool b, _, _, h, r => by cases h; cases r; exact ⟨_, .bool b, by simp⟩
  | .int i, _, _, h, r => by cases h; obtain ⟨t, rfl⟩ := r; exact ⟨_, .int i t, by simp⟩
  | .str z, _, _, h, r => by cases h; obtain ⟨t, rfl⟩ := r; exact ⟨_, .str z t, by simp⟩
  | .tuple ds, _, _, h, r => by
    cases h with
    | tup h1 h2 =>
      cases r
      obtain ⟨its, rv, ⟨o, ho, hc, n, hd⟩, _⟩ := I.tuple h1.sq
      obtain ⟨as, q1, q2⟩ := BrA.reads I ds _ its h2 rv
      exact ⟨_, .tuple ho hc hd q1, q2⟩
  | .list ds, _, _, h, r => by
    cases h with
    | lst h1 h2 h3 =>
      cases r
      obtain ⟨its, rv, ⟨o, n, ho, hc, _, hd⟩, _⟩ := I.list (.inl (.inr ⟨_, h1⟩))
      obtain ⟨as, q1, q2⟩ := BrA.reads I ds _ its h3 rv
      exact ⟨_, .list ho hc hd q1, not_sys h2 q2⟩
  | .dict kvs, _, _, h, r => by
    cases h with
    | dct h1 h2 h3 =>
      cases r
      obtain ⟨hd, z, hs, vs, kv, o', es, ep, ho, hx, hdt, hk, hp, hn⟩ := I.hok _ _ h1
      obtain ⟨k1, k2⟩ := kv_vals kv
      obtain ⟨bs, q1, q2⟩ := BrK.reads I kvs _ (vs.map (·.2)) h3 k1
      have e1 : kvs.map (·.1) = vs.map fun p => keyD p.1 := by
        have e := congrArg (List.map keyD) k2
        rw [List.map_map, List.map_map] at e
        rw [h2]; exact e
      refine ⟨_, .dict ho hx.1 hdt (as := []) (by rw [e1]; exact kv_keys hp) (by rw [pairs_vals hp]; exact q1), ?_⟩
      simpa using not_sys hs q2
theorem BrA.reads (I : Inv X pins σ H s) : ∀ (ds : List PyData) (vs : List V) (us : List Value), BrA X.K H vs ds → Vals vs us → ∃ as, ReadsAll s.heap us ds as ∧ sysModules ∉ as
  | [], _, _, h, r => by cases h; cases r; exact ⟨_, .nil, by simp⟩
  | d :: ds, _, _, h, r => by
    cases h with
    | cons h1 h2 =>
      cases r with
      | cons r1 r2 =>
        obtain ⟨as, q1, z1⟩ := Br.reads I d _ _ h1 r1
        obtain ⟨bs, q2, z2⟩ := BrA.reads I ds _ _ h2 r2
        exact ⟨_, .cons q1 q2, by simp [z1, z2]⟩
theorem BrK.reads (I : Inv X pins σ H s) : ∀ (kvs : List (PyData × PyData)) (vs : List V) (us : List Value), BrA X.K H vs (kvs.map (·.2)) → Vals vs us → ∃ as, ReadsAll s.heap us (kvs.map (·.2)) as ∧ sysModules ∉ as
  | [], _, _, h, r => by cases h; cases r; exact ⟨_, .nil, by simp⟩
  | (_, d) :: kvs, _, _, h, r => by
    cases h with
    | cons h1 h2 =>
      cases r with
      | cons r1 r2 =>
        obtain ⟨as, q1, z1⟩ := Br.reads I d _ _ h1 r1
        obtain ⟨bs, q2, z2⟩ := BrK.reads I kvs _ _ h2 r2
        exact ⟨_, .cons q1 q2, by simp [z1, z2]⟩
end
end
end GB

set_option maxRecDepth 100000
/-! tuples that are made: they lie there for good, and have no dict -/
namespace GB
open PySem PySem.Spec PyProof.Rows L2
/-- a new tuple -/
abbrev frT (us : List Value) (vs : List V) : HO := .frz (tupO us) (.tup vs)
theorem tq_at {K : PySem.W.Frag} {H : Hp} {a : Addr} {vs : List V} {us : List Value} (h : H a = some (frT us vs)) : TqT K H a vs := .inl ⟨_, h, rfl⟩
theorem ok_frT {P : Program} {w : World} {H : Hp} {h : Heap} {a : Addr} {us : List Value} {vs : List V} (e : h.get? a = some (tupO us)) (z : vs.length ≤ sizeLine) (r : Vals vs us) : ObjOk P w H h a (frT us vs) := ⟨e, z, us, r, ⟨_, e, rfl, _, rfl⟩⟩
section
variable {X : Cx} {pins : List (Addr × Obj)} {σ : L2.St} {H : Hp} {s : Shared}
theorem Inv.tnew {us : List Value} {vs : List V} {t' : Nat} (I : Inv X pins σ H s) (r : Vals vs us) (z : vs.length ≤ sizeLine) :
    Inv X pins σ (upd H s.heap.objs.size (frT us vs)) { s with heap := s.heap.push (tupO us), toks := t' } :=
  I.laid (fun _ _ q => Heap.get?_push_of_some _ q) (Nat.le_refl _) (ok_frT (Heap.get?_push_size _ rfl) z r)
end
section
variable {X : Cx} {es : List Expr} {t : TA} {pos : Pos}
def tTupF (t : TA) : TE := fun σ H Q => t σ H fun xs H1 => xs.length ≤ sizeLine ∧ ∀ p us, H1 p = none → Q (.ref p) (upd H1 p (frT us xs))
theorem pe_tupF {x1} (h : PA X es t) : PE X (.Tuple es x1 pos) (tTupF t) := by
  constructor
  intro pins s σ H Q I hq
  refine wpAny_Tuple_spliced (thn (h.run pos pins s σ H _ I hq) fun us s1 z => ?_)
  obtain ⟨xs, H1, I1, r, hz, q⟩ := z
  exact ⟨by rw [← r.length]; exact hz, .ref s1.heap.objs.size, _, Inv.tnew (t' := s1.toks) I1 r hz, rfl, q _ us (I1.hok.fresh (Nat.le_refl _))⟩
/-- t + u -/
def rCatF (K : PySem.W.Frag) : R2 := fun x y H Q => ∃ a b xs ys, x = .ref a ∧ y = .ref b ∧ SqT K H a xs ∧ SqT K H b ys ∧ xs.length + ys.length ≤ sizeLine ∧ (xs = [] → Q (.ref b) H) ∧ (xs ≠ [] → ys = [] → Q (.ref a) H) ∧ (xs ≠ [] → ys ≠ [] → ∀ p us, H p = none → Q (.ref p) (upd H p (frT us (xs ++ ys))))
theorem op_catF : OpR X (binaryOp .Add) (rCatF X.K) := by
  intro pins s σ H x y v u Q I rx ry ⟨a, b, xs, ys, ex, ey, ha, hb, hz, q0, q1, q2⟩
  subst ex ey
  by_cases hx : xs = []
  · refine op_catA pins s σ H _ _ v u Q I rx ry ⟨a, b, xs, ys, rfl, rfl, ha, hb, hz, q0, q1, fun n _ p hp => (n hx).elim⟩
  · cases rx; cases ry
    obtain ⟨is1, r1, p1, _⟩ := I.tuple ha
    obtain ⟨is2, r2, p2, _⟩ := I.tuple hb
    refine HT.cat_tup p1 p2 (fun n => hx (r1.nil_iff.mp n)) (fun n => ⟨.ref a, H, I, rfl, q1 hx (r2.nil_iff.mp n)⟩) (fun n => ?_) (by rw [← r1.length, ← r2.length]; exact hz)
    exact ⟨.ref s.heap.objs.size, _, Inv.tnew (t' := s.toks) I (r1.append r2) (by rw [List.length_append]; exact hz), rfl, q2 hx (fun m => n (r2.nil_iff.mpr m)) _ _ (I.hok.fresh (Nat.le_refl _))⟩
/-- t[lo:hi] -/
def rSlF (K : PySem.W.Frag) : V → Option Int → Option Int → Hp → VK → Prop := fun x lo hi H Q => ∃ a xs, x = .ref a ∧ SqT K H a xs ∧
  (HT.sIx xs.length 0 lo = 0 ∧ HT.sIx xs.length xs.length hi = xs.length → Q (.ref a) H) ∧ (¬ (HT.sIx xs.length 0 lo = 0 ∧ HT.sIx xs.length xs.length hi = xs.length) → ∀ p us, H p = none → Q (.ref p) (upd H p (frT us (cutV xs lo hi))))
theorem sl_tupF : SlR X (rSlF X.K) := by
  intro pins s σ H x v vl vu lo hi sl Q I rx hs pl pu ⟨a, xs, ex, hx, q1, q2⟩
  by_cases hw : HT.sIx xs.length 0 lo = 0 ∧ HT.sIx xs.length xs.length hi = xs.length
  · exact sl_tupA pins s σ H x v vl vu lo hi sl Q I rx hs pl pu ⟨a, xs, ex, hx, q1, fun n => (n hw).elim⟩
  · subst ex
    cases rx
    obtain ⟨its, r, ht, hz⟩ := I.tuple hx
    have hn : its.toArray.size = xs.length := by rw [List.size_toArray]; exact r.length.symm
    refine ⟨"tuple", _, PyProof.Rows.slot_tuple_getitem.lookup, ht.typeIs, HT.getItem_tuple_cut ht hs pl pu (by rw [hn]; exact hw) ?_ (by rw [hn]; exact hz)⟩
    rw [hn]
    exact ⟨.ref s.heap.objs.size, _, Inv.tnew (t' := s.toks) I ((r.drop (HT.sIx xs.length 0 lo)).take (HT.sIx xs.length xs.length hi - HT.sIx xs.length 0 lo)) (Nat.le_trans (cutV_length xs lo hi) hz), rfl, q2 hw _ _ (I.hok.fresh (Nat.le_refl _))⟩
/-- tuple(l) -/
theorem call_tupleF : CallR X (.type "tuple") (fun xs H Q => ∃ p ys, xs = [.ref p] ∧ ((SqL X.K H p ys ∧ ∀ l us, H l = none → Q (.ref l) (upd H l (frT us ys))) ∨ (SqT X.K H p ys ∧ Q (.ref p) H))) := by
  intro pins s σ H xs us Q I r ⟨p, ys, ex, h⟩
  subst ex
  rcases h with ⟨hq, q⟩ | ⟨hq, q⟩
  · obtain ⟨u, rfl, rx⟩ := vals1 r
    cases rx
    obtain ⟨its, r', pl, hz⟩ := I.list hq
    have hlen := r'.length
    refine call_tuple_list pl.isList (fun h' kp => ?_) (by simp only [List.size_toArray] <;> omega)
    have I1 : Inv X pins σ H { s with heap := h' } := I.kept (t' := s.toks) kp
    exact ⟨.ref h'.objs.size, _, Inv.tnew (t' := s.toks) I1 r' hz, rfl, q _ _ (I1.hok.fresh (Nat.le_refl _))⟩
  · exact call_tuple_of pins s σ H _ us Q I r ⟨p, ys, rfl, .inr ⟨hq, q⟩⟩
end
end GB

namespace GB
open PySem PySem.Spec PyProof.Rows L2
section
variable {X : Cx} {pins : List (Addr × Obj)} {σ : L2.St} {H : Hp} {s : Shared}
/-! a list or dict of one's own is declared to be as it is for good -/
def Loose : HO → Prop
  | .lst _ => True
  | .dK _ => True
  | .dT _ => True
  | _ => False
theorem fix_inv (I : Inv X pins σ H s) {a : Addr} {u : HO} (h : H a = some u) (l : Loose u) : ∃ o, Inv X pins σ (upd H a (.frz o u)) s := by
  have ok := I.hok a u h
  obtain ⟨o, ho⟩ : ∃ o, s.heap.get? a = some o := by
    cases u with
    | lst xs => obtain ⟨_, _, _, _, e⟩ := ok; exact ⟨_, e⟩
    | dK kvs => obtain ⟨_, _, _, _, o, _, _, e, _⟩ := ok; exact ⟨_, e⟩
    | dT kvs => obtain ⟨_, _, _, _, o, _, _, e, _⟩ := ok; exact ⟨_, e⟩
    | _ => exact l.elim
  have nt : ∀ c xs, H c = some (.tup xs) → c ≠ a := fun c xs q z => by rw [z, h] at q; cases q; exact l
  have no : ∀ c y, H c = some (.own y) → c ≠ a := fun c y q z => by rw [z, h] at q; cases q; exact l
  have nf : ∀ c o' u', H c = some (.frz o' u') → c ≠ a := fun c o' u' q z => by rw [z, h] at q; cases q; exact l
  have nb : ∀ c ps, H c = some (.tbl ps) → c ≠ a := fun c ps q z => by rw [z, h] at q; cases q; exact l
  refine ⟨o, ?_⟩
  have un : Un X.fs [] H (upd H a (.frz o u)) s.heap s.heap := by
    refine ⟨fun b ob q _ _ _ => q, fun b ob q _ _ _ => ⟨ob.slots, q⟩, fun b ob q n _ => ?_, fun b ob q _ => ⟨ob, q⟩, fun b xs q => ?_, fun b ob xs q => ?_, fun b ps q => ⟨#[], ?_⟩⟩
    · rw [upd_ne (fun z => by rw [z, h] at n; cases n)]; exact n
    · rw [upd_ne (nt _ _ q)]; exact q
    · rw [upd_ne (nf _ _ _ q)]; exact q
    · rw [upd_ne (nb _ _ q), q]; simp
  have hok : HOk X.prog X.w (upd H a (.frz o u)) s.heap := fun b v q => by
    by_cases hb : b = a
    · subst hb
      rw [upd_same] at q; cases q
      refine ⟨ho, ok.stay (fun _ _ _ z => z) (fun c q => ?_) fun c xs q => ?_⟩
      · rw [upd_ne (no _ _ q)]; exact q
      · rw [upd_ne (nt _ _ q)]; exact q
    · rw [upd_ne hb] at q
      refine (I.hok b v q).stay (fun _ _ _ z => z) (fun c q => ?_) fun c xs q => ?_
      · rw [upd_ne (no _ _ q)]; exact q
      · rw [upd_ne (nt _ _ q)]; exact q
  exact I.un (t' := s.toks) un hok
theorem keep_fix {H : Hp} {a : Addr} {u : HO} {o : Obj} (h : H a = some u) (l : Loose u) : Keep H (upd H a (.frz o u)) := fun b v q f => by
  rw [upd_ne (fun z => by rw [z, h] at q; cases q; cases u <;> first | exact l.elim | exact f.elim)]; exact q
theorem keep_put {H : Hp} {a : Addr} {u v : HO} (h : H a = some u) (l : Loose u) : Keep H (upd H a v) := fun b w q f => by
  rw [upd_ne (fun z => by rw [z, h] at q; cases q; cases u <;> first | exact l.elim | exact f.elim)]; exact q
end

/-! a def's promise, where no repr is under way -/
structure FnG (P : Program) (w : World) (K : PySem.W.Frag) (mg : Str → Option Value) (base : Heap) (CX : CXT) (k : Nat) (f : Addr) (fd : FuncData) (ps : List Str) (sp : Sp) : Prop where
  arity : ∀ vs H Q E, sp vs H Q E → vs.length = ps.length
  go : ∀ (A : Around) (outer : List Env) (s : Shared) (H : Hp) (args : Args) (us : List Value) (vs : List V) (Q : VK) (E : XK), A.guards = some [] → Room k A → Env0 P w K mg base A outer s H →
    BindsTo s fd args (ps.zip us) → Vals vs us → sp vs H Q E → codeAny (model P w) A (.call (.ref f) args) (CR CX outer P w H s Q E) s
section
variable {P : Program} {w : World} {K : PySem.W.Frag} {mg : Str → Option Value} {base : Heap} {CX : CXT}
theorem FnG.up {j k : Nat} {f : Addr} {fd : FuncData} {ps : List Str} {sp : Sp} (F : FnG P w K mg base CX j f fd ps sp) (h : j ≤ k) : FnG P w K mg base CX k f fd ps sp :=
  ⟨F.arity, fun A outer s H args us vs Q E hg hr => F.go A outer s H args us vs Q E hg (hr.mono h)⟩
theorem FnG.weak {k : Nat} {f : Addr} {fd : FuncData} {ps : List Str} {sp sp' : Sp} (F : FnG P w K mg base CX k f fd ps sp) (h : ∀ vs H Q E, sp' vs H Q E → sp vs H Q E) : FnG P w K mg base CX k f fd ps sp' :=
  ⟨fun vs H Q E q => F.arity vs H Q E (h _ _ _ _ q), fun A outer s H args us vs Q E hg hr he hb hv hs => F.go A outer s H args us vs Q E hg hr he hb hv (h _ _ _ _ hs)⟩
theorem deeper_guards (A : Around) (env : Env) (h : A.guards = some []) : (A.deeper env).guards = some [] := h
theorem fng_of {k : Nat} {f : Addr} {fd : FuncData} {x qual : Str} {st : Stmt} {N ps : List Str} {sp : Sp} (F : Fun K x qual st f fd) (S : FnScope N ps (defScope st))
    (ar : ∀ vs H Q E, sp vs H Q E → vs.length = ps.length)
    (bd : ∀ (cdv : Value) (A : Around) (outer : List Env) (s : Shared) (H : Hp) (vs : List V) (Q : VK) (E : XK), A.guards = some [] →
      Room k (A.deeper (envOfC qual (defScope st) s.heap.objs.size f cdv)) → sp vs H Q E →
      ∃ t, PSs (cxOf CX P w K mg base N qual (defScope st) f cdv A outer s H E) (defBody st) t ∧ t { nx := fun _ H' => Q .non H', rt := Q } (L2.start N vs) H) :
    FnG P w K mg base CX (k + 1) f fd ps sp := by
  obtain ⟨oc, od, kV, doc, pm, an, cdv, ct, osl, rfl, lk, hcd⟩ := F.ex
  refine ⟨ar, fun A outer s H args us vs Q E hg hr e0 hb r hsp => ?_⟩
  have kept : ∀ b o, base.get? b = some o → s.heap.get? b = some o := fun b o e => (e0.bs b o e).1
  have KX : K.In s.heap := e0.mod.kin.keeps kept
  have lim : s.heap.NoLimit := e0.mod.nolimit.keeps kept
  refine codeAny_call_function hr.depth (KX _ _ lk) rfl S.co S.gen rfl (PySem.W.codeRec_of KX hcd) (hb _ _ _ _ ?_)
  refine wpAny_newFunctionEnv_cells S.kind (fun ⟨n, v⟩ hy => ?_) fun env he s1 x => ?_
  · rcases S.par n (List.of_mem_zip hy).1 with q | q
    · exact .inl q
    · exact .inr ⟨q, PySem.W.cellsFrom_some _ _ _ (.inl q)⟩
  subst he
  refine ⟨lim.keeps x.toInCall.keep, codeAny_func ?_⟩
  obtain ⟨t, ht, hq⟩ := bd cdv A outer s H vs Q E hg (hr.deeper _) hsp
  have I := inv_start (CX := CX) (E := E) (N := N) (mg := mg) (base := base) S hr.hd e0 (ar _ _ _ _ hsp) r x
  refine wpAny_mono (ht.run [] s1 (L2.start N vs) H _ I hq) (fun fl s' hs => ?_) fun e s' hs => hs
  cases fl with
  | ret u =>
    obtain ⟨v, σ', H', J, rv, q⟩ := hs
    exact ⟨v, H', J.os, J.bare, J.base, J.hok, rv, q⟩
  | next =>
    obtain ⟨σ', H', J, q⟩ := hs
    exact ⟨V.non, H', J.os, J.bare, J.base, J.hok, rfl, q⟩
  | brk => obtain ⟨_, _, _, q⟩ := hs; exact False.elim q
  | cont => obtain ⟨_, _, _, q⟩ := hs; exact False.elim q
/-- where no exception leaves -/
theorem fng_nox {k : Nat} {f : Addr} {fd : FuncData} {x qual : Str} {st : Stmt} {N ps : List Str} {sp : Sp} (F : Fun K x qual st f fd) (S : FnScope N ps (defScope st))
    (ar : ∀ vs H Q E, sp vs H Q E → vs.length = ps.length)
    (bd : ∀ (cdv : Value) (A : Around) (outer : List Env) (s : Shared) (H : Hp) (vs : List V) (Q : VK) (E : XK), A.guards = some [] →
      Room k (A.deeper (envOfC qual (defScope st) s.heap.objs.size f cdv)) → sp vs H Q E →
      ∃ t, PSs (cxOf CX P w K mg base N qual (defScope st) f cdv A outer s H E).nox (defBody st) t ∧ t { nx := fun _ H' => Q .non H', rt := Q } (L2.start N vs) H) :
    FnG P w K mg base CX (k + 1) f fd ps sp :=
  fng_of F S ar fun cdv A outer s H vs Q E hg hr hsp => let ⟨t, h, q⟩ := bd cdv A outer s H vs Q E hg hr hsp; ⟨t, h.nox, q⟩
end
section
variable {X : Cx} {CX : CXT} {k : Nat} {f : Addr} {fd : FuncData} {ps ks : List Str} {sp : Sp} {E : XK} {x : Str} {p pos : Pos} {e : Expr} {es : List Expr} {kws : List Keyword} {t tk : TA}
/-- a call by places -/
theorem g_call (F : FnG X.prog X.w X.K X.mg X.base CX k f fd ps sp) (hr : Room k X.A) (gd : X.A.guards = some []) (hg : Gl X x) (hm : X.mg x = some (.ref f)) (hk : PySem.W.keepIn X.K (.ref f) = true) (hb : Binds X.K fd ps []) (hx : Passes CX X E)
    (ha : PA X (e :: es) t) (hdb : (x == ("__debug__" : Str)) = false := by decide) (he : starEach (e :: es) X.env = (false, eval e X.env) :: starEach es X.env := by rfl)
    (hpl : (backTo pos (starEach es X.env)).any (·.1) = false := by rfl) : PE X (.Call (.Name x p) (e :: es) [] pos) (tCall sp [] E t) := by
  constructor
  intro pins s σ H Q I h
  refine wpAny_Call_Name_kw (ld_glob I hg hm ?_ hdb)
  refine PySem.W.callWith_K (h₀ := X.base) I.ok.mod.kin hk (thn (ha.run pos pins s σ H _ I h) fun us s1 z => ?_) he hpl
  obtain ⟨vs, H1, I1, r, q⟩ := z
  refine ⟨I1.kIn, ?_⟩
  have q : sp (vs ++ []) H1 Q E := q
  rw [List.append_nil] at q
  have hl : us.length = ps.length := by rw [← r.length]; exact F.arity _ _ _ _ q
  have bb := hb s1 us I1.kIn (by simpa using hl)
  rw [List.append_nil] at bb
  refine wpAny_call (codeAny_mono (F.go X.A X.stack s1 H1 ⟨us, []⟩ us vs Q E gd hr I1.env0 bb r q) fun r2 s' hq => ?_)
  match r2, hq with
  | .error e, hq => exact hx pins σ H1 s1 e s' I1 hq
  | .ok (.ret u), hq => exact I1.after hq
  | .ok .next, hq => exact False.elim hq
  | .ok .brk, hq => exact False.elim hq
  | .ok .cont, hq => exact False.elim hq
theorem g_call0 (F : FnG X.prog X.w X.K X.mg X.base CX k f fd ps sp) (hr : Room k X.A) (gd : X.A.guards = some []) (hg : Gl X x) (hm : X.mg x = some (.ref f)) (hk : PySem.W.keepIn X.K (.ref f) = true) (hb : Binds X.K fd ps []) (hx : Passes CX X E)
    (hdb : (x == ("__debug__" : Str)) = false := by decide) : PE X (.Call (.Name x p) [] [] pos) (tCall sp [] E tNil) := by
  constructor
  intro pins s σ H Q I q
  refine wpAny_Call_Name_kw (ld_glob I hg hm ?_ hdb)
  refine PySem.W.callWith_K0 I.kIn hk ?_
  have q : sp [] H Q E := q
  have hl := F.arity _ _ _ _ q
  have bb := hb s [] I.kIn (by simpa using hl)
  refine wpAny_call (codeAny_mono (F.go X.A X.stack s H ⟨[], []⟩ [] [] Q E gd hr I.env0 bb .nil q) fun r2 s' hq => ?_)
  match r2, hq with
  | .error e, hq => exact hx pins σ H s e s' I hq
  | .ok (.ret u), hq => exact I.after hq
  | .ok .next, hq => exact False.elim hq
  | .ok .brk, hq => exact False.elim hq
  | .ok .cont, hq => exact False.elim hq
/-- a call with keywords alone (some in front by place) -/
theorem g_callK {g : List Value → List Value → List Value} {gV : List V → List V → List V} (F : FnG X.prog X.w X.K X.mg X.base CX k f fd ps sp) (hr : Room k X.A) (gd : X.A.guards = some []) (hg : Gl X x) (hm : X.mg x = some (.ref f)) (hk : PySem.W.keepIn X.K (.ref f) = true)
    (hb : KBinds X.K fd ps ks g gV) (hx : Passes CX X E) (ha : PA X es t) (hkw : PK X kws tk)
    (run : ∀ {pins : List (Addr × Obj)} {s : Shared} {σ : L2.St} {H : Hp} {Q : VK}, Inv X pins σ H s → (∀ us s1, AP X pins σ (fun vs H1 => tk σ H1 fun zs H2 => sp (gV vs zs) H2 Q E) us s1 →
        wpAny (model X.prog X.w) X.A (evalAll ((backToKw pos (keywordEach kws X.env)).map (·.2))) (fun ws s2 => X.K.In s2.heap ∧ wpAny (model X.prog X.w) X.A (call (.ref f) us (ks.zip ws)) (EP X pins σ Q) X.xe s2) X.xe s1) →
      wpAny (model X.prog X.w) X.A (spliced (backTo pos (starEach es X.env))) (AP X pins σ fun vs H1 => tk σ H1 fun zs H2 => sp (gV vs zs) H2 Q E) X.xe s →
      wpAny (model X.prog X.w) X.A (eval (.Call (.Name x p) es kws pos) X.env) (EP X pins σ Q) X.xe s) :
    PE X (.Call (.Name x p) es kws pos) (tCallK sp gV E t tk) := by
  constructor
  intro pins s σ H Q I h
  refine run I (fun us s1 z => ?_) (ha.run pos pins s σ H _ I h)
  obtain ⟨vs, H1, I1, r, q⟩ := z
  refine thn (hkw.run pos pins s1 σ H1 _ I1 q) fun ws s2 z2 => ?_
  obtain ⟨zs, H2, I2, rz, q2⟩ := z2
  refine ⟨I2.kIn, ?_⟩
  have r2 := hb.rel r rz
  have hl : (g us ws).length = ps.length := by rw [← r2.length]; exact F.arity _ _ _ _ q2
  refine wpAny_call (codeAny_mono (F.go X.A X.stack s2 H2 ⟨us, ks.zip ws⟩ (g us ws) (gV vs zs) Q E gd hr I2.env0 (hb.to s2 us ws I2.kIn hl) r2 q2) fun r2 s' hq => ?_)
  match r2, hq with
  | .error e, hq => exact hx pins σ H2 s2 e s' I2 hq
  | .ok (.ret u), hq => exact I2.after hq
  | .ok .next, hq => exact False.elim hq
  | .ok .brk, hq => exact False.elim hq
  | .ok .cont, hq => exact False.elim hq
end
end GB

namespace GB
open PySem PySem.Spec PyProof.Rows L2

/-- the errors of the package, and what they bear -/
inductive Ec where
  | unfit | badHeap | badStanding | badBook | badText | badLog | refused | lost | tooMany | tooManyEdits | nothingToUndo
deriving DecidableEq
abbrev Xc := Ec × Option PyData
/-- a firm thing that is no datum: the draws' store, the script, others -/
inductive Tk where
  | jar
  | scr (ns : List Int)
  | more (n : Nat)
  | exc (x : Xc)
  | bor (xs : List PyData)
/-- what a slot, or a value, is as data -/
inductive Ow where
  | l (xs : List PyData)
  | k (kvs : List (Key × PyData))
  | io (m : Nat) (xs : List PyData)
inductive S where
  | un
  | d (x : PyData)
  | ow (o : Ow)
  | ob (t : Tk)
abbrev S.own (xs : List PyData) : S := .ow (.l xs)
abbrev S.od (kvs : List (Key × PyData)) : S := .ow (.k kvs)
abbrev S.io (m : Nat) (xs : List PyData) : S := .ow (.io m xs)
abbrev En := List S
/-- the draws' store, known by a fact that firm things bear -/
structure Jar where
  ok : Tk → Addr → Hp → Prop
  keep : ∀ t a H H', Keep H H' → ok t a H → ok t a H'
/-- the written part, the store, the heap at the def's entry -/
structure Lay where
  K : PySem.W.Frag
  J : Jar
  H0 : Hp
  io : Nat → Option Addr
abbrev lay (K : PySem.W.Frag) (J : Jar) (H : Hp) : Lay := ⟨K, J, H, fun _ => none⟩
/-- firm values -/
def FR (L : Lay) (H : Hp) (v : V) : S → Prop
  | .un => False
  | .d x => Br L.K H v x
  | .ow _ => False
  | .ob t => ∃ a, v = .ref a ∧ L.J.ok t a H
def OR (L : Lay) (H : Hp) (v : V) : Ow → Prop
  | .l xs => ∃ l vs, v = .ref l ∧ H l = some (.lst vs) ∧ BrA L.K H vs xs ∧ L.H0 l = none
  | .k kvs => ∃ l, ∃ vks : List (Key × V), v = .ref l ∧ H l = some (.dK vks) ∧ (kvs.map (·.1) = vks.map (·.1) ∧ BrA L.K H (vks.map (·.2)) (kvs.map (·.2))) ∧ L.H0 l = none
  | .io m xs => ∃ l vs, v = .ref l ∧ H l = some (.lst vs) ∧ (BrA L.K H vs xs ∧ L.io m = some l) ∧ L.H0 l = none
def SR (L : Lay) (H : Hp) (o : Option V) : S → Prop
  | .un => True
  | .d x => ∃ v, o = some v ∧ Br L.K H v x
  | .ow xs => ∃ v, o = some v ∧ OR L H v xs
  | .ob t => ∃ a, o = some (.ref a) ∧ L.J.ok t a H
structure Rel (L : Lay) (H : Hp) (σ : L2.St) (ρ : En) : Prop where
  len : σ.length = ρ.length
  at' : ∀ (i : Nat) (s : S), ρ[i]? = some s → SR L H (σ[i]?.getD none) s
  sep : ∀ (i j : Nat) (xs ys : Ow), ρ[i]? = some (.ow xs) → ρ[j]? = some (.ow ys) → σ[i]? = σ[j]? → i = j
  same : Same L.H0 H
/-- a value that an expression gave, begun at Hs -/
def VR (L : Lay) (Hs H : Hp) (v : V) : S → Prop
  | .ow xs => OR L H v xs ∧ ∀ l, v = .ref l → Hs l = none
  | s => FR L H v s
/-- what an expression leaves as it is: all but the lists that slots own -/
structure Go (σ : L2.St) (ρ ρ' : En) (H H' : Hp) : Prop where
  stay : ∀ a o, H a = some o → (∀ (i : Nat) (xs : Ow), ρ[i]? = some (.ow xs) → σ[i]? ≠ some (some (.ref a))) → H' a = some o
  less : ∀ (i : Nat) (xs : Ow), ρ'[i]? = some (.ow xs) → ∃ ys, ρ[i]? = some (.ow ys)
  dom : ∀ a, H' a = none → H a = none
def RR (L : Lay) (H : Hp) (v : V) : S → Prop
  | .ow xs => OR L H v xs
  | s => FR L H v s

abbrev TEd := En → (S → En → Prop) → Prop
abbrev TTd := En → (Bool → En → Prop) → Prop
abbrev TAd := En → (List S → En → Prop) → Prop
structure EndsD where
  nx : En → Prop
  rt : S → Prop
  bk : En → Prop := fun _ => False
  ct : En → Prop := fun _ => False
abbrev TSd := EndsD → En → Prop
inductive FRs (L : Lay) (H : Hp) : List V → List S → Prop
  | nil : FRs L H [] []
  | cons {v : V} {vs : List V} {s : S} {ss : List S} : FR L H v s → FRs L H vs ss → FRs L H (v :: vs) (s :: ss)
def tE (L : Lay) (t : TEd) : TE := fun σ H Q' => ∃ ρ Q, Rel L H σ ρ ∧ t ρ Q ∧ ∀ v H' s ρ', Go σ ρ ρ' H H' → Rel L H' σ ρ' → VR L H H' v s → Q s ρ' → Q' v H'
def tT (L : Lay) (t : TTd) : TT := fun σ H Q' => ∃ ρ Q, Rel L H σ ρ ∧ t ρ Q ∧ ∀ b H' ρ', Go σ ρ ρ' H H' → Rel L H' σ ρ' → Q b ρ' → Q' b H'
def tA (L : Lay) (t : TAd) : TA := fun σ H Q' => ∃ ρ Q, Rel L H σ ρ ∧ t ρ Q ∧ ∀ vs H' ss ρ', Go σ ρ ρ' H H' → Rel L H' σ ρ' → FRs L H' vs ss → Q ss ρ' → Q' vs H'
def tS (L : Lay) (t : TSd) : TS := fun D σ H => ∃ ρ De, Rel L H σ ρ ∧ t De ρ ∧ (∀ σ' H' ρ', Keep H H' → Rel L H' σ' ρ' → De.nx ρ' → D.nx σ' H') ∧ (∀ v H' s, Keep H H' → Same L.H0 H' → RR L H' v s → De.rt s → D.rt v H') ∧
  (∀ σ' H' ρ', Keep H H' → Rel L H' σ' ρ' → De.bk ρ' → D.bk σ' H') ∧ (∀ σ' H' ρ', Keep H H' → Rel L H' σ' ρ' → De.ct ρ' → D.ct σ' H')

section
variable {L : Lay} {H H' : Hp} {σ : L2.St} {ρ : En}
theorem FR.keep (k : Keep H H') {v : V} : ∀ {s : S}, FR L H v s → FR L H' v s
  | .d x, h => Br.keep k x v h
  | .ob t, ⟨a, e, h⟩ => ⟨a, e, L.J.keep t a _ _ k h⟩
theorem FRs.keep (k : Keep H H') {vs : List V} {ss : List S} (h : FRs L H vs ss) : FRs L H' vs ss := by
  induction h with
  | nil => exact .nil
  | cons h1 _ ih => exact .cons (h1.keep k) ih
theorem OR.keep (k : Keep H H') {v : V} {xs : Ow} (h : OR L H v xs) (hv : ∀ l u, v = .ref l → H l = some u → H' l = some u) : OR L H' v xs := by
  cases xs with
  | l xs =>
    obtain ⟨l, vs, e, h1, h2, h3⟩ := h
    exact ⟨l, vs, e, hv l _ e h1, BrA.keep k _ _ h2, h3⟩
  | k kvs =>
    obtain ⟨l, vs, e, h1, h2, h3⟩ := h
    exact ⟨l, vs, e, hv l _ e h1, ⟨h2.1, BrA.keep k _ _ h2.2⟩, h3⟩
  | io m xs =>
    obtain ⟨l, vs, e, h1, h2, h3⟩ := h
    exact ⟨l, vs, e, hv l _ e h1, ⟨BrA.keep k _ _ h2.1, h2.2⟩, h3⟩
theorem OR.same (k : Same H H') {v : V} {xs : Ow} (h : OR L H v xs) : OR L H' v xs := h.keep (keep_of_same k) fun l u _ e => k _ _ e
/-- what all own things have in common -/
theorem OR.any {v : V} {xs : Ow} (h : OR L H v xs) : ∃ l u, v = .ref l ∧ H l = some u ∧ Loose u ∧ L.H0 l = none := by
  cases xs with
  | l xs => obtain ⟨l, vs, e, h1, h2, h3⟩ := h; exact ⟨l, _, e, h1, trivial, h3⟩
  | k kvs => obtain ⟨l, vs, e, h1, h2, h3⟩ := h; exact ⟨l, _, e, h1, trivial, h3⟩
  | io m xs => obtain ⟨l, vs, e, h1, h2, h3⟩ := h; exact ⟨l, _, e, h1, trivial, h3⟩
theorem SR.same (k : Same H H') {o : Option V} : ∀ {s : S}, SR L H o s → SR L H' o s
  | .un, _ => trivial
  | .d x, ⟨v, e, h⟩ => ⟨v, e, Br.keep (keep_of_same k) x v h⟩
  | .ow xs, ⟨v, e, h⟩ => ⟨v, e, h.same k⟩
  | .ob t, ⟨a, e, h⟩ => ⟨a, e, L.J.keep t a _ _ (keep_of_same k) h⟩
/-- all that was tracked stays -/
theorem Rel.go (r : Rel L H σ ρ) (k : Same H H') : Rel L H' σ ρ := ⟨r.len, fun i s e => (r.at' i s e).same k, r.sep, r.same.trans k⟩
theorem Rel.get (r : Rel L H σ ρ) {i : Nat} {s : S} (h : ρ[i]? = some s) : ∃ o, σ[i]? = some o ∧ SR L H o s := by
  have hi : i < σ.length := by rw [r.len]; exact (List.getElem?_eq_some_iff.mp h).1
  have q := r.at' i s h
  rw [List.getElem?_eq_getElem hi] at q ⊢
  exact ⟨_, rfl, q⟩
theorem Rel.getD (r : Rel L H σ ρ) {i : Nat} {x : PyData} (h : ρ[i]? = some (.d x)) : ∃ v, σ[i]? = some (some v) ∧ Br L.K H v x := by
  obtain ⟨o, e, v, e2, q⟩ := r.get h
  exact ⟨v, by rw [e, e2], q⟩
theorem Rel.getO (r : Rel L H σ ρ) {i : Nat} {xs : List PyData} (h : ρ[i]? = some (.own xs)) : ∃ l vs, σ[i]? = some (some (.ref l)) ∧ H l = some (.lst vs) ∧ BrA L.K H vs xs ∧ L.H0 l = none := by
  obtain ⟨o, e, v, e2, l, vs, e3, h1, h2, h3⟩ := r.get h
  exact ⟨l, vs, by rw [e, e2, e3], h1, h2, h3⟩
theorem Rel.getW (r : Rel L H σ ρ) {i : Nat} {xs : Ow} (h : ρ[i]? = some (.ow xs)) : ∃ l u, σ[i]? = some (some (.ref l)) ∧ H l = some u ∧ Loose u ∧ L.H0 l = none := by
  obtain ⟨o, e, v, e2, q⟩ := r.get h
  obtain ⟨l, u, e3, h1, h2, h3⟩ := q.any
  exact ⟨l, u, by rw [e, e2, e3], h1, h2, h3⟩
theorem loose_not_firm {u : HO} (h : Loose u) (f : Firm u) : False := by cases u <;> first | exact h.elim | exact f.elim
theorem Go.rf : Go σ ρ ρ H H := ⟨fun _ _ h _ => h, fun _ xs h => ⟨xs, h⟩, fun _ h => h⟩
theorem Go.sm (k : Same H H') : Go σ ρ ρ H H' := ⟨fun a o h _ => k a o h, fun _ xs h => ⟨xs, h⟩, fun _ h => k.free h⟩
theorem Go.tr {ρ1 ρ2 : En} {H1 H2 : Hp} (p : Go σ ρ ρ1 H H1) (q : Go σ ρ1 ρ2 H1 H2) : Go σ ρ ρ2 H H2 :=
  ⟨fun a o h n => q.stay a o (p.stay a o h n) fun i xs e => let ⟨ys, e'⟩ := p.less i xs e; n i ys e', fun i xs e => let ⟨ys, e'⟩ := q.less i xs e; p.less i ys e', fun a h => p.dom a (q.dom a h)⟩
theorem Go.keep {ρ' : En} (p : Go σ ρ ρ' H H') (r : Rel L H σ ρ) : Keep H H' := fun a o h f => p.stay a o h fun i xs e z => by
  obtain ⟨l, vs, h1, h2, ls, _⟩ := r.getW e
  rw [h1] at z; cases z
  rw [h] at h2; cases h2; exact loose_not_firm ls f
theorem VR.of {Hs : Hp} {v : V} {s : S} (h : FR L H v s) : VR L Hs H v s := by
  cases s with
  | un => exact h
  | d x => exact h
  | ow xs => exact False.elim h
  | ob t => exact h
theorem get_set {α : Type} {l : List α} {i j : Nat} {x : α} : (l.set i x)[j]? = if i = j then (if j < l.length then some x else none) else l[j]? := by
  rw [List.getElem?_set]
  by_cases h : i = j
  · subst h; rfl
  · rw [if_neg h, if_neg h]
/-- a slot takes a firm value -/
theorem Rel.setF (r : Rel L H σ ρ) {i : Nat} {v : V} {s : S} (h : FR L H v s) : Rel L H (σ.set i (some v)) (ρ.set i s) := by
  have nown : ∀ xs, s ≠ .ow xs := fun xs e => by subst e; exact h
  refine ⟨by simp [r.len], fun j z e => ?_, fun j k xs ys e1 e2 e3 => ?_, r.same⟩
  · by_cases hj : i = j
    · subst hj
      rw [get_set, if_pos rfl] at e
      split at e
      · rename_i hl
        cases e
        rw [get_set, if_pos rfl, if_pos (by rw [r.len]; exact hl)]
        cases s with
        | un => exact h.elim
        | d x => exact ⟨v, rfl, h⟩
        | ow xs => exact h.elim
        | ob t => obtain ⟨a, rfl, q⟩ := h; exact ⟨a, rfl, q⟩
      · cases e
    · rw [get_set, if_neg hj] at e ⊢
      exact r.at' j z e
  · have h1 : i ≠ j := fun z => by
      subst z; rw [get_set, if_pos rfl] at e1; split at e1
      · exact nown xs (Option.some.inj e1)
      · cases e1
    have h2 : i ≠ k := fun z => by
      subst z; rw [get_set, if_pos rfl] at e2; split at e2
      · exact nown ys (Option.some.inj e2)
      · cases e2
    rw [get_set, if_neg h1] at e1 e3
    rw [get_set, if_neg h2] at e2 e3
    exact r.sep j k xs ys e1 e2 e3
/-- a slot takes a list of one's own -/
theorem Rel.setO (r : Rel L H σ ρ) {i : Nat} {v : V} {xs : Ow} (h : OR L H v xs) (hs : ∀ (i : Nat) (ys : Ow), ρ[i]? = some (.ow ys) → σ[i]? ≠ some (some v)) : Rel L H (σ.set i (some v)) (ρ.set i (.ow xs)) := by
  refine ⟨by simp [r.len], fun j z e => ?_, fun j k xs ys e1 e2 e3 => ?_, r.same⟩
  · by_cases hj : i = j
    · subst hj
      rw [get_set, if_pos rfl] at e
      split at e
      · rename_i hl
        cases e
        rw [get_set, if_pos rfl, if_pos (by rw [r.len]; exact hl)]
        exact ⟨v, rfl, h⟩
      · cases e
    · rw [get_set, if_neg hj] at e ⊢
      exact r.at' j z e
  · by_cases hj : i = j
    · subst hj
      by_cases hk : i = k
      · exact hk
      · exfalso
        have hl : i < ρ.length := by
          rw [get_set, if_pos rfl] at e1
          split at e1
          · assumption
          · cases e1
        rw [get_set, if_neg hk] at e2
        rw [get_set, if_pos rfl, if_pos (by rw [r.len]; exact hl), get_set, if_neg hk] at e3
        exact hs k ys e2 e3.symm
    · by_cases hk : i = k
      · subst hk
        exfalso
        have hl : i < ρ.length := by
          rw [get_set, if_pos rfl] at e2
          split at e2
          · assumption
          · cases e2
        rw [get_set, if_neg hj] at e1
        rw [get_set, if_neg hj, get_set, if_pos rfl, if_pos (by rw [r.len]; exact hl)] at e3
        exact hs j xs e1 e3
      · rw [get_set, if_neg hj] at e1 e3
        rw [get_set, if_neg hk] at e2 e3
        exact r.sep j k xs ys e1 e2 e3
/-- a list of one's own is changed in place -/
theorem Rel.putW (r : Rel L H σ ρ) {i : Nat} {xs ys : Ow} {l : Addr} {u w : HO} (h : ρ[i]? = some (.ow xs)) (hi : σ[i]? = some (some (.ref l))) (hl : H l = some u) (ls : Loose u) (hw : Keep H (upd H l w) → L.H0 l = none → OR L (upd H l w) (.ref l) ys) :
    Rel L (upd H l w) σ (ρ.set i (.ow ys)) ∧ Keep H (upd H l w) := by
  have k : Keep H (upd H l w) := keep_put hl ls
  obtain ⟨l', vs', hi', hl', _, h0⟩ := r.getW h
  rw [hi] at hi'; cases hi'
  refine ⟨⟨by simp [r.len], fun j z e => ?_, fun j m as bs e1 e2 e3 => ?_, fun b o q => ?_⟩, k⟩
  · by_cases hj : i = j
    · subst hj
      rw [get_set, if_pos rfl] at e
      split at e
      · cases e
        rw [hi]
        exact ⟨.ref l, rfl, hw k h0⟩
      · cases e
    · rw [get_set, if_neg hj] at e
      have q := r.at' j z e
      cases z with
      | un => trivial
      | d x => obtain ⟨v, e2, q⟩ := q; exact ⟨v, e2, Br.keep k _ _ q⟩
      | ow zs =>
        obtain ⟨v, e2, q⟩ := q
        refine ⟨v, e2, q.keep k fun m u' em hu => (upd_ne fun z => hj (r.sep i j xs zs h e ?_)).trans hu⟩
        subst em; subst z
        obtain ⟨o, e4, _⟩ := r.get e
        rw [hi, e4]
        rw [e4] at e2
        exact congrArg some (show some (V.ref m) = o from e2.symm)
      | ob t => obtain ⟨a, e2, q⟩ := q; exact ⟨a, e2, L.J.keep _ _ _ _ k q⟩
  · have f : ∀ (m : Nat) (as : Ow), (ρ.set i (.ow ys))[m]? = some (.ow as) → ∃ cs, ρ[m]? = some (.ow cs) := fun m as e => by
      by_cases hm : i = m
      · subst hm; exact ⟨xs, h⟩
      · rw [get_set, if_neg hm] at e; exact ⟨as, e⟩
    obtain ⟨cs, q1⟩ := f j as e1
    obtain ⟨ds, q2⟩ := f m bs e2
    exact r.sep j m cs ds q1 q2 e3
  · rw [upd_ne (fun z => by rw [z] at q; rw [q] at h0; cases h0)]
    exact r.same _ _ q
theorem Rel.put (r : Rel L H σ ρ) {i : Nat} {xs ys : List PyData} {l : Addr} {vs ws : List V} (h : ρ[i]? = some (.own xs)) (hi : σ[i]? = some (some (.ref l))) (hl : H l = some (.lst vs)) (hw : BrA L.K H ws ys) :
    Rel L (upd H l (.lst ws)) σ (ρ.set i (.own ys)) ∧ Keep H (upd H l (.lst ws)) :=
  r.putW h hi hl trivial fun k h0 => ⟨l, ws, rfl, upd_same, BrA.keep k _ _ hw, h0⟩
/-- a value goes into a slot -/
theorem Rel.set {ρ' : En} {H1 : Hp} (r : Rel L H σ ρ) (r1 : Rel L H1 σ ρ') (g : Go σ ρ ρ' H H1) {i : Nat} {v : V} {s : S} (h : VR L H H1 v s) : Rel L H1 (σ.set i (some v)) (ρ'.set i s) := by
  cases s with
  | un => exact h.elim
  | d x => exact r1.setF h
  | ob t => exact r1.setF h
  | ow xs =>
    refine r1.setO h.1 fun j ys e z => ?_
    obtain ⟨zs, e'⟩ := g.less j ys e
    obtain ⟨l, vs, h1, h2, _⟩ := r.getW e'
    rw [h1] at z; cases z
    rw [h.2 l rfl] at h2; cases h2
end
end GB

namespace GB
open PySem PySem.Spec PyProof.Rows L2

theorem _root_.L2.PE.less {X : Cx} {e : Expr} {t t2 : TE} (h : PE X e t) (w : ∀ σ H Q, t2 σ H Q → t σ H Q) : PE X e t2 := ⟨fun pins s σ H Q I q => h.run pins s σ H Q I (w _ _ _ q)⟩
theorem _root_.L2.PT.less {X : Cx} {e : Expr} {t t2 : TT} (h : PT X e t) (w : ∀ σ H Q, t2 σ H Q → t σ H Q) : PT X e t2 := ⟨fun pins s σ H Q I q => h.run pins s σ H Q I (w _ _ _ q)⟩
theorem _root_.L2.PW.less {X : Cx} {e : Expr} {t t2 : TT} (h : PW X e t) (w : ∀ σ H Q, t2 σ H Q → t σ H Q) : PW X e t2 := ⟨fun wh pins s σ H Q I q => h.run wh pins s σ H Q I (w _ _ _ q)⟩
theorem _root_.L2.PA.less {X : Cx} {e : List Expr} {t t2 : TA} (h : PA X e t) (w : ∀ σ H Q, t2 σ H Q → t σ H Q) : PA X e t2 := ⟨fun pos pins s σ H Q I q => h.run pos pins s σ H Q I (w _ _ _ q)⟩
theorem _root_.L2.PK.less' {X : Cx} {e : List Keyword} {t t2 : TA} (h : PK X e t) (w : ∀ σ H Q, t2 σ H Q → t σ H Q) : PK X e t2 := ⟨fun pos pins s σ H Q I q => h.run pos pins s σ H Q I (w _ _ _ q)⟩
theorem _root_.L2.PS.less {X : Cx} {e : Stmt} {t t2 : TS} (h : PS X e t) (w : ∀ D σ H, t2 D σ H → t D σ H) : PS X e t2 := ⟨fun pins s σ H D I q => h.run pins s σ H D I (w _ _ _ q)⟩
theorem _root_.L2.PSs.less {X : Cx} {e : List Stmt} {t t2 : TS} (h : PSs X e t) (w : ∀ D σ H, t2 D σ H → t D σ H) : PSs X e t2 := ⟨fun pins s σ H D I q => h.run pins s σ H D I (w _ _ _ q)⟩

/-- what a rule wants of its context -/
structure Good (X : Cx) : Prop where
  calm : X.calm = true
  gd : X.A.guards = some []
  sys : ∃ o, X.base.get? sysModules = some o
  un : X.A.units + 200 < cLine
  nd : X.N.Nodup

def S.firm : S → Prop
  | .d _ => True
  | .ob _ => True
  | _ => False
def Ow.fz : Ow → PyData
  | .l xs => .list xs
  | .k kvs => .dict (kvs.map fun p => (keyD p.1, p.2))
  | .io _ xs => .list xs
def S.fz : S → S
  | .ow xs => .d xs.fz
  | s => s
/-! names, constants -/
def dVar (i : Nat) : TEd := fun ρ Q => ∃ s, ρ[i]? = some s ∧ s.firm ∧ Q s ρ
def dK (x : PyData) : TEd := fun ρ Q => Q (.d x) ρ
def dFz (t : TEd) : TEd := fun ρ Q => t ρ fun s ρ' => Q s.fz ρ'
def dFix (i : Nat) : TEd := fun ρ Q => ∃ xs, ρ[i]? = some (.own xs) ∧ Q (.d (.list xs)) (ρ.set i (.d (.list xs)))
section
variable {X : Cx} {L : Lay} {pos : Pos} {e a b c : Expr} {t ta tb tc : TEd}
theorem firm_of {H : Hp} {o : Option V} {s : S} (f : s.firm) (h : SR L H o s) : ∃ v, o = some v ∧ FR L H v s := by
  cases s with
  | un => exact f.elim
  | d x => obtain ⟨v, e, q⟩ := h; exact ⟨v, e, q⟩
  | ow xs => exact f.elim
  | ob t => obtain ⟨a, e, q⟩ := h; exact ⟨_, e, a, rfl, q⟩
theorem de_var {x : Str} (i : Nat) (hN : X.N[i]? = some x := by rfl) (hv : Vis X.env.scope x := by first | exact Or.inl rfl | exact Or.inr (Or.inl rfl) | exact Or.inr (Or.inr rfl))
    (hd : (x == ("__debug__" : Str)) = false := by decide) (hcd : (x == ("__classdict__" : Str)) = false := by decide) : PE X (.Name x pos) (tE L (dVar i)) := by
  refine (pe_var hN hv hd hcd).less fun σ H Q' h => ?_
  obtain ⟨ρ, Q, r, ⟨s, e, f, q⟩, fin⟩ := h
  obtain ⟨o, e2, h2⟩ := r.get e
  obtain ⟨v, rfl, hv⟩ := firm_of f h2
  exact ⟨v, e2, fin v H s ρ Go.rf r (VR.of hv) q⟩
theorem de_k {t0 : TE} {x : PyData} {v : V} (h : PE X e t0) (ht : ∀ σ H Q, Q v H → t0 σ H Q) (hb : ∀ H, Br L.K H v x) : PE X e (tE L (dK x)) := by
  refine h.less fun σ H Q' h => ?_
  obtain ⟨ρ, Q, r, q, fin⟩ := h
  exact ht _ _ _ (fin v H (.d x) ρ Go.rf r (hb H) q)
theorem de_int {i j} : PE X (.Constant (.int i) j pos) (tE L (dK (.int i))) := de_k pe_int (fun _ _ _ q => q) fun _ => .int _
theorem de_bl {b j} : PE X (.Constant (.bool b) j pos) (tE L (dK (.bool b))) := de_k pe_bl (fun _ _ _ q => q) fun _ => .bl _
theorem de_non {j} : PE X (.Constant .none j pos) (tE L (dK .none)) := de_k pe_non (fun _ _ _ q => q) fun _ => .non
theorem de_str {x j} : PE X (.Constant (.str x) j pos) (tE L (dK (.str x))) := de_k pe_str (fun _ _ _ q => q) fun _ => .str _
/-- a constant of the module -/
theorem de_glob {x : Str} {d : PyData} {v : V} {u : Value} (hg : Gl X x) (hm : X.mg x = some u) (r : RelV v u) (hb : ∀ H, Br L.K H v d) (hd : (x == ("__debug__" : Str)) = false := by decide) : PE X (.Name x pos) (tE L (dK d)) :=
  de_k (pe_glob hg hm r hd) (fun _ _ _ q => q) hb

theorem ne_sysS {pins : List (Addr × Obj)} {σ : L2.St} {H : Hp} {s : Shared} (I : Inv X pins σ H s) (sy : ∃ o, X.base.get? sysModules = some o) {l : Addr} {u : HO} (h : H l = some u) : (l == sysModules) = false := by
  obtain ⟨o, ho⟩ := sy
  refine beq_eq_false_iff_ne.mpr fun z => ?_
  subst z
  rw [(I.bs _ _ ho).2] at h; cases h
theorem ne_sys {pins : List (Addr × Obj)} {σ : L2.St} {H : Hp} {s : Shared} (I : Inv X pins σ H s) (g : Good X) {l : Addr} {u : HO} (h : H l = some u) : (l == sysModules) = false := by
  obtain ⟨o, ho⟩ := g.sys
  refine beq_eq_false_iff_ne.mpr fun z => ?_
  subst z
  rw [(I.bs _ _ ho).2] at h; cases h
theorem same_fix {H0 H : Hp} {l : Addr} {o : HO} (k : Same H0 H) (h0 : H0 l = none) : Same H0 (upd H l o) := fun b u q => by
  rw [upd_ne (fun z => by rw [z] at q; rw [q] at h0; cases h0)]; exact k _ _ q
/-- what else stays when a list of one's own, in no slot, is fixed -/
theorem Rel.fixOut {H : Hp} {σ : L2.St} {ρ : En} (r : Rel L H σ ρ) {l : Addr} {u : HO} {o : Obj} (hl : H l = some u) (ls : Loose u) (h0 : L.H0 l = none)
    (hs : ∀ (i : Nat) (ys : Ow), ρ[i]? = some (.ow ys) → σ[i]? ≠ some (some (.ref l))) : Rel L (upd H l (.frz o u)) σ ρ := by
  have k := keep_fix (o := o) hl ls
  refine ⟨r.len, fun j z e => ?_, r.sep, same_fix r.same h0⟩
  have q := r.at' j z e
  cases z with
  | un => trivial
  | d x => obtain ⟨v, e2, q⟩ := q; exact ⟨v, e2, Br.keep k _ _ q⟩
  | ow zs =>
    obtain ⟨v, e2, q⟩ := q
    refine ⟨v, e2, q.keep k fun m u' em hu => (upd_ne fun z => ?_).trans hu⟩
    subst em; subst z
    obtain ⟨w, e4, _⟩ := r.get e
    rw [e4] at e2
    refine hs j zs e ?_
    rw [e4]
    exact congrArg some (show w = some (V.ref m) from e2)
  | ob t => obtain ⟨a, e2, q⟩ := q; exact ⟨a, e2, L.J.keep _ _ _ _ k q⟩
theorem Rel.fixW {H : Hp} {σ : L2.St} {ρ : En} (r : Rel L H σ ρ) {i : Nat} {xs : Ow} {l : Addr} {u : HO} {o : Obj} {x : PyData} (h : ρ[i]? = some (.ow xs)) (hi : σ[i]? = some (some (.ref l))) (hl : H l = some u) (ls : Loose u)
    (br0 : Keep H (upd H l (.frz o u)) → Br L.K (upd H l (.frz o u)) (.ref l) x) : Rel L (upd H l (.frz o u)) σ (ρ.set i (.d x)) ∧ Br L.K (upd H l (.frz o u)) (.ref l) x := by
  obtain ⟨l', vs', hi', hl', _, h0⟩ := r.getW h
  rw [hi] at hi'; cases hi'
  rw [hl] at hl'; cases hl'
  have k := keep_fix (o := o) hl ls
  have br := br0 k
  have other : ∀ (j : Nat) (as : Ow), (ρ.set i (.d x))[j]? = some (.ow as) → i ≠ j ∧ ρ[j]? = some (.ow as) := fun j as e => by
    by_cases hj : i = j
    · subst hj
      rw [get_set, if_pos rfl] at e
      split at e <;> cases e
    · rw [get_set, if_neg hj] at e
      exact ⟨hj, e⟩
  refine ⟨⟨by simp [r.len], fun j z e => ?_, fun j m as bs e1 e2 e3 => ?_, same_fix r.same h0⟩, br⟩
  · by_cases hj : i = j
    · subst hj
      rw [get_set, if_pos rfl] at e
      split at e
      · cases e; rw [hi]; exact ⟨_, rfl, br⟩
      · cases e
    · rw [get_set, if_neg hj] at e
      have q := r.at' j z e
      cases z with
      | un => trivial
      | d x => obtain ⟨v, e2, q⟩ := q; exact ⟨v, e2, Br.keep k _ _ q⟩
      | ow zs =>
        obtain ⟨v, e2, q⟩ := q
        refine ⟨v, e2, q.keep k fun m u' em hu => (upd_ne fun z => hj (r.sep i j xs zs h e ?_)).trans hu⟩
        subst em; subst z
        obtain ⟨w, e4, _⟩ := r.get e
        rw [hi, e4]
        rw [e4] at e2
        exact congrArg some (show some (V.ref m) = w from e2.symm)
      | ob t => obtain ⟨a, e2, q⟩ := q; exact ⟨a, e2, L.J.keep _ _ _ _ k q⟩
  · obtain ⟨_, q1⟩ := other j as e1
    obtain ⟨_, q2⟩ := other m bs e2
    exact r.sep j m as bs q1 q2 e3
theorem Rel.fixIn {H : Hp} {σ : L2.St} {ρ : En} (r : Rel L H σ ρ) {i : Nat} {xs : List PyData} {l : Addr} {vs : List V} {o : Obj} (h : ρ[i]? = some (.own xs)) (hi : σ[i]? = some (some (.ref l))) (hl : H l = some (.lst vs)) (ns : (l == sysModules) = false) :
    Rel L (upd H l (.frz o (.lst vs))) σ (ρ.set i (.d (.list xs))) ∧ Br L.K (upd H l (.frz o (.lst vs))) (.ref l) (.list xs) := by
  obtain ⟨l', vs', hi', hl', hb, h0⟩ := r.getO h
  rw [hi] at hi'; cases hi'
  rw [hl] at hl'; cases hl'
  exact r.fixW h hi hl trivial fun k => .lst upd_same ns (BrA.keep k _ _ hb)
theorem dk_br {K : PySem.W.Frag} {H : Hp} {l : Addr} {o : Obj} {vks : List (Key × V)} {kvs : List (Key × PyData)} (h : H l = some (.frz o (.dK vks))) (e : kvs.map (·.1) = vks.map (·.1)) (b : BrA K H (vks.map (·.2)) (kvs.map (·.2))) :
    Br K H (.ref l) (.dict (kvs.map fun p => (keyD p.1, p.2))) := by
  refine .dct h ?_ ?_
  · have := congrArg (List.map keyD) e
    rw [List.map_map, List.map_map] at this
    rw [List.map_map]
    exact this
  · rw [List.map_map]
    exact b
theorem Rel.fixInK {H : Hp} {σ : L2.St} {ρ : En} (r : Rel L H σ ρ) {i : Nat} {kvs : List (Key × PyData)} {l : Addr} {u : HO} {o : Obj} (h : ρ[i]? = some (.od kvs)) (hi : σ[i]? = some (some (.ref l))) (hl : H l = some u) :
    Rel L (upd H l (.frz o u)) σ (ρ.set i (.d (.dict (kvs.map fun p => (keyD p.1, p.2))))) ∧ Br L.K (upd H l (.frz o u)) (.ref l) (.dict (kvs.map fun p => (keyD p.1, p.2))) := by
  obtain ⟨o', e, v, e2, l', vks, e3, hl', hb, h0⟩ := r.get h
  rw [hi, e2, e3] at e; cases e
  rw [hl] at hl'; cases hl'
  exact r.fixW h hi hl trivial fun k => dk_br upd_same hb.1 (BrA.keep k _ _ hb.2)
/-- a fresh list becomes a firm one -/
theorem de_fzS (sy : ∃ o, X.base.get? sysModules = some o) (h : PE X e (tE L t)) : PE X e (tE L (dFz t)) := by
  constructor
  intro pins s σ H Q' I q
  obtain ⟨ρ, Q, r, q, fin⟩ := q
  have q : t ρ fun s ρ' => Q s.fz ρ' := q
  refine thn (h.run pins s σ H (fun v H1 => ∃ s ρ', Go σ ρ ρ' H H1 ∧ Rel L H1 σ ρ' ∧ VR L H H1 v s ∧ Q s.fz ρ') I ⟨ρ, _, r, q, fun v H' s ρ' k r' hv q' => ⟨s, ρ', k, r', hv, q'⟩⟩) fun u s1 z => ?_
  obtain ⟨v, H1, I1, rv, sv, ρ', k, r', hv, q'⟩ := z
  cases sv with
  | un => exact False.elim hv
  | d x => exact ⟨v, H1, I1, rv, fin v H1 (.d x) ρ' k r' hv q'⟩
  | ob t => exact ⟨v, H1, I1, rv, fin v H1 (.ob t) ρ' k r' hv q'⟩
  | ow xs =>
    obtain ⟨hw, hs⟩ := hv
    obtain ⟨l, u, rfl, hl, ls, h0⟩ := hw.any
    obtain ⟨o, I2⟩ := fix_inv I1 hl ls
    have k2 := keep_fix (o := o) hl ls
    have hn : H l = none := hs l rfl
    have br : Br L.K (upd H1 l (.frz o u)) (.ref l) xs.fz := by
      cases xs with
      | l xs => obtain ⟨_, _, e, q1, q2, _⟩ := hw; cases e; rw [hl] at q1; cases q1; exact .lst upd_same (ne_sysS I1 sy hl) (BrA.keep k2 _ _ q2)
      | k kvs => obtain ⟨_, _, e, q1, q2, _⟩ := hw; cases e; rw [hl] at q1; cases q1; exact dk_br upd_same q2.1 (BrA.keep k2 _ _ q2.2)
      | io m xs => obtain ⟨_, _, e, q1, q2, _⟩ := hw; cases e; rw [hl] at q1; cases q1; exact .lst upd_same (ne_sysS I1 sy hl) (BrA.keep k2 _ _ q2.1)
    have out : ∀ (i : Nat) (ys : Ow), ρ'[i]? = some (.ow ys) → σ[i]? ≠ some (some (.ref l)) := fun i ys e z => by
      obtain ⟨zs, e'⟩ := k.less i ys e
      obtain ⟨l', vs', h1, h2, _⟩ := r.getW e'
      rw [h1] at z; cases z
      rw [hn] at h2; cases h2
    have go : Go σ ρ ρ' H (upd H1 l (.frz o u)) := by
      refine ⟨fun a o' q n => ?_, k.less, fun a q => ?_⟩
      · rw [upd_ne (fun z => by rw [z, hn] at q; cases q)]; exact k.stay a o' q n
      · by_cases z : a = l
        · rw [z]; exact hn
        · rw [upd_ne z] at q; exact k.dom a q
    exact ⟨.ref l, _, I2, rv, fin (.ref l) _ (.d xs.fz) ρ' go (r'.fixOut hl ls h0 out) br q'⟩
theorem de_fz (g : Good X) (h : PE X e (tE L t)) : PE X e (tE L (dFz t)) := de_fzS g.sys h
theorem de_fix (g : Good X) {x : Str} (i : Nat) (hN : X.N[i]? = some x := by rfl) (hv : Vis X.env.scope x := by first | exact Or.inl rfl | exact Or.inr (Or.inl rfl) | exact Or.inr (Or.inr rfl))
    (hd : (x == ("__debug__" : Str)) = false := by decide) (hcd : (x == ("__classdict__" : Str)) = false := by decide) : PE X (.Name x pos) (tE L (dFix i)) := by
  constructor
  intro pins s σ H Q' I q
  obtain ⟨ρ, Q, r, ⟨xs, e, q⟩, fin⟩ := q
  obtain ⟨l, vs, hi, hl, hb, h0⟩ := r.getO e
  obtain ⟨o, I2⟩ := fix_inv I hl trivial
  obtain ⟨r2, b2⟩ := r.fixIn (o := o) e hi hl (ne_sys I g hl)
  refine (pe_var (pos := pos) hN hv hd hcd).run pins s σ _ Q' I2 ⟨.ref l, hi, fin _ _ (.d (.list xs)) _ ?_ r2 b2 q⟩
  refine ⟨fun a o' q n => ?_, fun j ys q => ?_, fun a q => ?_⟩
  · rw [upd_ne (fun z => n i _ e (by rw [z]; exact hi))]; exact q
  · by_cases hj : i = j
    · subst hj; rw [get_set, if_pos rfl] at q; split at q <;> cases q
    · rw [get_set, if_neg hj] at q; exact ⟨ys, q⟩
  · by_cases z : a = l
    · rw [z, upd_same] at q; cases q
    · rw [upd_ne z] at q; exact q
end

/-! operations by value -/
def NR (L : Lay) (H H' : Hp) (v : V) : S → Prop
  | .ow (.l xs) => ∃ l vs, v = .ref l ∧ H l = none ∧ H' l = some (.lst vs) ∧ BrA L.K H' vs xs
  | .ow (.k kvs) => ∃ l, ∃ vks : List (Key × V), v = .ref l ∧ H l = none ∧ H' l = some (.dK vks) ∧ kvs.map (·.1) = vks.map (·.1) ∧ BrA L.K H' (vks.map (·.2)) (kvs.map (·.2))
  | s => FR L H' v s
abbrev F2 := PyData → PyData → (S → Prop) → Prop
abbrev FN := List PyData → (S → Prop) → Prop
/-- a value read now: a firm one, or a list of one's own -/
def Bk (L : Lay) (H : Hp) (v : V) : PyData → Prop
  | .list xs => ∃ a vs, v = .ref a ∧ (H a = some (.lst vs) ∨ ∃ o, H a = some (.frz o (.lst vs))) ∧ BrA L.K H vs xs
  | x => Br L.K H v x
theorem Bk.of {L : Lay} {H : Hp} {v : V} {x : PyData} (h : Br L.K H v x) : Bk L H v x := by
  cases h with
  | lst h1 h2 h3 => exact ⟨_, _, rfl, .inr ⟨_, h1⟩, h3⟩
  | non => exact .non
  | bl b => exact .bl b
  | int i => exact .int i
  | str z => exact .str z
  | tup h1 h2 => exact .tup h1 h2
  | dct h1 h2 h3 => exact .dct h1 h2 h3
inductive BkA (L : Lay) (H : Hp) : List V → List PyData → Prop
  | nil : BkA L H [] []
  | cons {v : V} {vs : List V} {x : PyData} {xs : List PyData} : Bk L H v x → BkA L H vs xs → BkA L H (v :: vs) (x :: xs)
theorem BkA.of {L : Lay} {H : Hp} : ∀ {vs : List V} {xs : List PyData}, BrA L.K H vs xs → BkA L H vs xs
  | _, [], h => by cases h; exact .nil
  | _, _ :: _, h => by cases h with | cons h1 h2 => exact .cons (Bk.of h1) (BkA.of h2)
def rD (L : Lay) (f : F2) : R2 := fun v u H Q' => ∃ x y Q, Bk L H v x ∧ Bk L H u y ∧ f x y Q ∧ ∀ w H' s, Same H H' → NR L H H' w s → Q s → Q' w H'
def rN (L : Lay) (f : FN) : List V → Hp → VK → Prop := fun vs H Q' => ∃ xs Q, BkA L H vs xs ∧ f xs Q ∧ ∀ w H' s, Same H H' → NR L H H' w s → Q s → Q' w H'
section
variable {L : Lay} {H H' : Hp} {σ : L2.St} {ρ : En}
theorem NR.vr {Hs : Hp} {ρ0 : En} (r : Rel L H σ ρ) (k : Same H H') (g : Go σ ρ0 ρ Hs H) {v : V} {s : S} (h : NR L H H' v s) : VR L Hs H' v s := by
  cases s with
  | un => exact h
  | d x => exact h
  | ob t => exact h
  | ow o =>
    cases o with
    | l xs =>
      obtain ⟨l, vs, rfl, h1, h2, h3⟩ := h
      exact ⟨⟨l, vs, rfl, h2, h3, r.same.free h1⟩, fun l' e => by cases e; exact g.dom _ h1⟩
    | k kvs =>
      obtain ⟨l, vs, rfl, h1, h2, h3⟩ := h
      exact ⟨⟨l, vs, rfl, h2, h3, r.same.free h1⟩, fun l' e => by cases e; exact g.dom _ h1⟩
    | io m xs => exact h.elim
theorem VR.back {Hs H1 H2 : Hp} {ρ' : En} (g : Go σ ρ ρ' Hs H1) {v : V} {s : S} (h : VR L H1 H2 v s) : VR L Hs H2 v s := by
  cases s with
  | un => exact h
  | d x => exact h
  | ob t => exact h
  | ow xs => exact ⟨h.1, fun l e => g.dom _ (h.2 l e)⟩
end
def dOp (f : F2) (ta tb : TEd) : TEd := fun ρ Q => ta ρ fun s1 ρ1 => tb ρ1 fun s2 ρ2 => ∃ x y, s1 = .d x ∧ s2 = .d y ∧ f x y fun s => Q s ρ2
def dN (f : FN) (ta : TAd) : TEd := fun ρ Q => ta ρ fun ss ρ1 => ∃ xs, ss = xs.map S.d ∧ f xs fun s => Q s ρ1
section
variable {X : Cx} {L : Lay} {pos p : Pos} {e a b c : Expr} {es : List Expr} {t ta tb tc : TEd} {tas : TAd}
theorem tE_op {r : R2} {f : F2} (hr : ∀ v u H Q, rD L f v u H Q → r v u H Q) : ∀ σ H Q, tE L (dOp f ta tb) σ H Q → tOp r (tE L ta) (tE L tb) σ H Q := fun σ H Q' h => by
  obtain ⟨ρ, Q, r0, q, fin⟩ := h
  refine ⟨ρ, _, r0, q, fun v H1 s ρ1 k1 r1 hv q1 => ?_⟩
  refine ⟨ρ1, _, r1, q1, fun u H2 s2 ρ2 k2 r2 hu q2 => ?_⟩
  obtain ⟨x, y, rfl, rfl, q3⟩ := q2
  exact hr _ _ _ _ ⟨x, y, _, Bk.of (Br.keep (k2.keep r1) _ _ hv), Bk.of hu, q3, fun w H3 s3 sm nr q4 => fin w H3 s3 ρ2 ((k1.tr k2).tr (Go.sm sm)) (r2.go sm) (nr.vr r2 sm (k1.tr k2)) q4⟩
theorem de_op {op : Operator} {f : F2} (ho : OpR X (binaryOp op) (rD L f)) (ha : PE X a (tE L ta)) (hb : PE X b (tE L tb)) : PE X (.BinOp a op b pos) (tE L (dOp f ta tb)) :=
  (pe_op ho ha hb).less (tE_op fun _ _ _ _ q => q)
theorem de_cmp {op : CmpOp} {f : F2} (ho : OpR X (compareOp op) (rD L f)) (ha : PE X a (tE L ta)) (hb : PE X b (tE L tb)) (hm : behindInMarks op b = false) : PE X (.Compare a [op] [b] pos) (tE L (dOp f ta tb)) :=
  (pe_cmpR ho ha hb hm).less (tE_op fun _ _ _ _ q => q)
theorem de_ix {f : F2} (ho : IxR X (rD L f)) (ha : PE X a (tE L ta)) (hb : PE X b (tE L tb)) (hs : PlainIx b) : PE X (.Subscript a b pos) (tE L (dOp f ta tb)) :=
  (pe_ix ho ha hb hs).less (tE_op fun _ _ _ _ q => q)
/-- tests -/
def dB (t : TEd) : TTd := fun ρ Q => t ρ fun s ρ1 => ∃ b, s = .d (.bool b) ∧ Q b ρ1
theorem tT_of {t0 : TE} (h0 : ∀ σ H Q, tE L t σ H Q → t0 σ H Q) : ∀ σ H Q, tT L (dB t) σ H Q → tTest t0 σ H Q := fun σ H Q' h => by
  obtain ⟨ρ, Q, r0, q, fin⟩ := h
  refine h0 _ _ _ ⟨ρ, _, r0, q, fun v H1 s ρ1 k1 r1 hv q1 => ?_⟩
  obtain ⟨b, rfl, q2⟩ := q1
  have hv : Br L.K H1 v (.bool b) := hv
  cases hv
  exact ⟨b, rfl, fin b H1 ρ1 k1 r1 q2⟩
theorem dt_cmp {op : CmpOp} {f : F2} (ho : OpR X (compareOp op) (rD L f)) (ha : PE X a (tE L ta)) (hb : PE X b (tE L tb)) (hm : behindInMarks op b = false) : PT X (.Compare a [op] [b] pos) (tT L (dB (dOp f ta tb))) :=
  (pt_cmpR ho ha hb hm).less (tT_of (tE_op fun _ _ _ _ q => q))
theorem dt_val (h : PE X e (tE L t)) (he : ∀ whole, isTrue e X.env whole = (do let v ← whole; standAt e.pos; holding [v] (truthy v)) := by intro _; rfl) : PT X e (tT L (dB t)) :=
  (pt_val h he).less (tT_of fun _ _ _ q => q)
def dNot (t : TTd) : TTd := fun ρ Q => t ρ fun b ρ1 => Q (!b) ρ1
def dAnd (t u : TTd) : TTd := fun ρ Q => t ρ fun b ρ1 => if b = true then u ρ1 Q else Q false ρ1
def dOr (t u : TTd) : TTd := fun ρ Q => t ρ fun b ρ1 => if b = true then Q true ρ1 else u ρ1 Q
variable {tq tr : TTd} {rest : List Expr}
theorem dt_not (h : PT X a (tT L tq)) : PT X (.UnaryOp .Not a pos) (tT L (dNot tq)) := by
  refine (pt_not h).less fun σ H Q' h => ?_
  obtain ⟨ρ, Q, r0, q, fin⟩ := h
  exact ⟨ρ, _, r0, q, fun b H1 ρ1 k1 r1 q1 => fin (!b) H1 ρ1 k1 r1 q1⟩
theorem dw_and1 (h : PT X a (tT L tq)) : PW X (.BoolOp .And [a] pos) (tT L tq) := pw_and1 h
theorem dw_or1 (h : PT X a (tT L tq)) : PW X (.BoolOp .Or [a] pos) (tT L tq) := pw_or1 h
theorem dw_and (h : PT X a (tT L tq)) (h2 : PW X (.BoolOp .And (b :: rest) pos) (tT L tr)) : PW X (.BoolOp .And (a :: b :: rest) pos) (tT L (dAnd tq tr)) := by
  refine (pw_and h h2).less fun σ H Q' h => ?_
  obtain ⟨ρ, Q, r0, q, fin⟩ := h
  refine ⟨ρ, _, r0, q, fun b H1 ρ1 k1 r1 q1 => ?_⟩
  cases b with
  | true => exact ⟨ρ1, _, r1, by simpa using q1, fun b H2 ρ2 k2 r2 q2 => fin b H2 ρ2 (k1.tr k2) r2 q2⟩
  | false => exact fin false H1 ρ1 k1 r1 (by simpa using q1)
theorem dw_or (h : PT X a (tT L tq)) (h2 : PW X (.BoolOp .Or (b :: rest) pos) (tT L tr)) : PW X (.BoolOp .Or (a :: b :: rest) pos) (tT L (dOr tq tr)) := by
  refine (pw_or h h2).less fun σ H Q' h => ?_
  obtain ⟨ρ, Q, r0, q, fin⟩ := h
  refine ⟨ρ, _, r0, q, fun b H1 ρ1 k1 r1 q1 => ?_⟩
  cases b with
  | false => exact ⟨ρ1, _, r1, by simpa using q1, fun b H2 ρ2 k2 r2 q2 => fin b H2 ρ2 (k1.tr k2) r2 q2⟩
  | true => exact fin true H1 ρ1 k1 r1 (by simpa using q1)
/-- a test's outcome as a value -/
def dTV (t : TTd) : TEd := fun ρ Q => t ρ fun b ρ1 => Q (.d (.bool b)) ρ1
def dAndV (ta tb : TEd) : TEd := fun ρ Q => ta ρ fun s ρ1 => ∃ b, s = .d (.bool b) ∧ if b = true then tb ρ1 Q else Q (.d (.bool false)) ρ1
def dOrV (ta tb : TEd) : TEd := fun ρ Q => ta ρ fun s ρ1 => ∃ b, s = .d (.bool b) ∧ if b = true then Q (.d (.bool true)) ρ1 else tb ρ1 Q
def dNotV (ta : TEd) : TEd := fun ρ Q => ta ρ fun s ρ1 => ∃ b, s = .d (.bool b) ∧ Q (.d (.bool (!b))) ρ1
theorem de_one {op} (h : PE X a (tE L t)) : PE X (.BoolOp op [a] pos) (tE L t) := pe_one h
theorem de_and (h : PE X a (tE L ta)) (h2 : PE X (.BoolOp .And (b :: rest) pos) (tE L tb)) : PE X (.BoolOp .And (a :: b :: rest) pos) (tE L (dAndV ta tb)) := by
  refine (pe_and h h2).less fun σ H Q' h => ?_
  obtain ⟨ρ, Q, r0, q, fin⟩ := h
  refine ⟨ρ, _, r0, q, fun v H1 s ρ1 k1 r1 hv q1 => ?_⟩
  obtain ⟨b, rfl, q2⟩ := q1
  have hv : Br L.K H1 v (.bool b) := hv
  cases hv
  refine ⟨b, rfl, ?_⟩
  cases b with
  | true => exact ⟨ρ1, _, r1, by simpa using q2, fun v H2 s ρ2 k2 r2 hv q3 => fin v H2 s ρ2 (k1.tr k2) r2 (hv.back k1) q3⟩
  | false => exact fin _ H1 (.d (.bool false)) ρ1 k1 r1 (.bl _) (by simpa using q2)
theorem de_or (h : PE X a (tE L ta)) (h2 : PE X (.BoolOp .Or (b :: rest) pos) (tE L tb)) : PE X (.BoolOp .Or (a :: b :: rest) pos) (tE L (dOrV ta tb)) := by
  refine (pe_or h h2).less fun σ H Q' h => ?_
  obtain ⟨ρ, Q, r0, q, fin⟩ := h
  refine ⟨ρ, _, r0, q, fun v H1 s ρ1 k1 r1 hv q1 => ?_⟩
  obtain ⟨b, rfl, q2⟩ := q1
  have hv : Br L.K H1 v (.bool b) := hv
  cases hv
  refine ⟨b, rfl, ?_⟩
  cases b with
  | false => exact ⟨ρ1, _, r1, by simpa using q2, fun v H2 s ρ2 k2 r2 hv q3 => fin v H2 s ρ2 (k1.tr k2) r2 (hv.back k1) q3⟩
  | true => exact fin _ H1 (.d (.bool true)) ρ1 k1 r1 (.bl _) (by simpa using q2)
theorem de_not (h : PE X a (tE L ta)) : PE X (.UnaryOp .Not a pos) (tE L (dNotV ta)) := by
  refine (pe_not h).less fun σ H Q' h => ?_
  obtain ⟨ρ, Q, r0, q, fin⟩ := h
  refine ⟨ρ, _, r0, q, fun v H1 s ρ1 k1 r1 hv q1 => ?_⟩
  obtain ⟨b, rfl, q2⟩ := q1
  have hv : Br L.K H1 v (.bool b) := hv
  cases hv
  exact ⟨b, rfl, fin _ H1 (.d (.bool (!b))) ρ1 k1 r1 (.bl _) q2⟩
def dIf (t : TTd) (ta tb : TEd) : TEd := fun ρ Q => t ρ fun b ρ1 => if b = true then ta ρ1 Q else tb ρ1 Q
theorem de_if (h : PT X c (tT L tq)) (ha : PE X a (tE L ta)) (hb : PE X b (tE L tb)) : PE X (.IfExp c a b pos) (tE L (dIf tq ta tb)) := by
  refine (pe_ifExp h ha hb).less fun σ H Q' h => ?_
  obtain ⟨ρ, Q, r0, q, fin⟩ := h
  refine ⟨ρ, _, r0, q, fun b H1 ρ1 k1 r1 q1 => ?_⟩
  cases b with
  | true => exact ⟨ρ1, _, r1, by simpa using q1, fun v H2 s ρ2 k2 r2 hv q2 => fin v H2 s ρ2 (k1.tr k2) r2 (hv.back k1) q2⟩
  | false => exact ⟨ρ1, _, r1, by simpa using q1, fun v H2 s ρ2 k2 r2 hv q2 => fin v H2 s ρ2 (k1.tr k2) r2 (hv.back k1) q2⟩
/-! argument lists -/
def dNil : TAd := fun ρ Q => Q [] ρ
def dCons (t : TEd) (tr : TAd) : TAd := fun ρ Q => t ρ fun s ρ1 => s.firm ∧ tr ρ1 fun ss ρ2 => Q (s :: ss) ρ2
theorem fr_of {Hs H : Hp} {v : V} {s : S} (f : s.firm) (h : VR L Hs H v s) : FR L H v s := by
  cases s with
  | un => exact f.elim
  | d x => exact h
  | ow xs => exact f.elim
  | ob t => exact h
theorem da_nil : PA X [] (tA L dNil) := by
  refine pa_nil.less fun σ H Q' h => ?_
  obtain ⟨ρ, Q, r0, q, fin⟩ := h
  exact fin [] H [] ρ Go.rf r0 .nil q
theorem da_cons (h : PE X e (tE L t)) (hr : PA X es (tA L tas)) (hs : starEach (e :: es) X.env = (false, eval e X.env) :: starEach es X.env := by rfl) : PA X (e :: es) (tA L (dCons t tas)) := by
  refine (pa_cons h hr hs).less fun σ H Q' h => ?_
  obtain ⟨ρ, Q, r0, q, fin⟩ := h
  refine ⟨ρ, _, r0, q, fun v H1 s ρ1 k1 r1 hv q1 => ?_⟩
  obtain ⟨f, q2⟩ := q1
  refine ⟨ρ1, _, r1, q2, fun vs H2 ss ρ2 k2 r2 hvs q3 => ?_⟩
  exact fin (v :: vs) H2 (s :: ss) ρ2 (k1.tr k2) r2 (.cons ((fr_of f hv).keep (k2.keep r1)) hvs) q3
theorem frs_brA {H : Hp} {vs : List V} {xs : List PyData} (h : FRs L H vs (xs.map S.d)) : BrA L.K H vs xs := by
  induction xs generalizing vs with
  | nil => cases h; exact .nil
  | cons x xs ih => cases h with | cons h1 h2 => exact .cons h1 (ih h2)
/-- displays -/
def dTup (ta : TAd) : TEd := fun ρ Q => ta ρ fun ss ρ1 => ∃ xs, ss = xs.map S.d ∧ xs.length ≤ sizeLine ∧ Q (.d (.tuple xs)) ρ1
def dLst (ta : TAd) : TEd := fun ρ Q => ta ρ fun ss ρ1 => ∃ xs, ss = xs.map S.d ∧ xs.length ≤ sizeLine ∧ Q (.own xs) ρ1
theorem de_tup {x1} (h : PA X es (tA L tas)) : PE X (.Tuple es x1 pos) (tE L (dTup tas)) := by
  refine (pe_tupF h).less fun σ H Q' h => ?_
  obtain ⟨ρ, Q, r0, q, fin⟩ := h
  refine ⟨ρ, _, r0, q, fun vs H1 ss ρ1 k1 r1 hv q1 => ?_⟩
  obtain ⟨xs, rfl, hz, q2⟩ := q1
  have hb := frs_brA hv
  refine ⟨by rw [hb.len]; exact hz, fun p us hp => ?_⟩
  have sm := same_new (o := frT us vs) hp
  exact fin _ _ (.d (.tuple xs)) ρ1 (k1.tr (Go.sm sm)) (r1.go sm) (.tup (tq_at upd_same) (BrA.keep (keep_of_same sm) _ _ hb)) q2
theorem de_lst (h : PA X es (tA L tas)) : PE X (.List es pos) (tE L (dLst tas)) := by
  refine (pe_lst h).less fun σ H Q' h => ?_
  obtain ⟨ρ, Q, r0, q, fin⟩ := h
  refine ⟨ρ, _, r0, q, fun vs H1 ss ρ1 k1 r1 hv q1 => ?_⟩
  obtain ⟨xs, rfl, hz, q2⟩ := q1
  have hb := frs_brA hv
  refine ⟨by rw [hb.len]; exact hz, fun p hp => ?_⟩
  have sm := same_new (o := .lst vs) hp
  exact fin _ _ (.own xs) ρ1 (k1.tr (Go.sm sm)) (r1.go sm) (NR.vr (s := .own xs) r1 sm k1 ⟨p, vs, rfl, hp, upd_same, BrA.keep (keep_of_same sm) _ _ hb⟩) q2
/-- calls of built-in things -/
theorem tE_n {r : List V → Hp → VK → Prop} {f : FN} (hr : ∀ v H Q, rN L f v H Q → r v H Q) : ∀ σ H Q, tE L (dN f tas) σ H Q → tCB r (tA L tas) σ H Q := fun σ H Q' h => by
  obtain ⟨ρ, Q, r0, q, fin⟩ := h
  refine ⟨ρ, _, r0, q, fun vs H1 ss ρ1 k1 r1 hv q1 => ?_⟩
  obtain ⟨xs, rfl, q2⟩ := q1
  exact hr _ _ _ ⟨xs, _, BkA.of (frs_brA hv), q2, fun w H2 s sm nr q3 => fin w H2 s ρ1 (k1.tr (Go.sm sm)) (r1.go sm) (nr.vr r1 sm k1) q3⟩
theorem de_callB {x : Str} {id : String} {f : FN} (hc : CallR X (.builtin id) (rN L f)) (hg : Gl X x) (hm : X.mg x = none) (hv : bootBuiltins x = some (.builtin id)) (ha : PA X (e :: es) (tA L tas)) (hn : x ≠ "__name__" := by decide)
    (hdb : (x == ("__debug__" : Str)) = false := by decide) (he : starEach (e :: es) X.env = (false, eval e X.env) :: starEach es X.env := by rfl) (hpl : (backTo pos (starEach es X.env)).any (·.1) = false := by rfl) :
    PE X (.Call (.Name x p) (e :: es) [] pos) (tE L (dN f tas)) := (pe_callB hc hg hm hv ha hn hdb he hpl).less (tE_n fun _ _ _ q => q)
theorem de_callT {x : Str} {T : String} {f : FN} (hc : CallR X (.type T) (rN L f)) (hg : Gl X x) (hm : X.mg x = none) (hv : bootBuiltins x = some (.type T)) (ha : PA X (e :: es) (tA L tas)) (hn : x ≠ "__name__" := by decide)
    (hdb : (x == ("__debug__" : Str)) = false := by decide) (he : starEach (e :: es) X.env = (false, eval e X.env) :: starEach es X.env := by rfl) (hpl : (backTo pos (starEach es X.env)).any (·.1) = false := by rfl) :
    PE X (.Call (.Name x p) (e :: es) [] pos) (tE L (dN f tas)) := (pe_callTy hc hg hm hv ha hn hdb he hpl).less (tE_n fun _ _ _ q => q)
/-! with lists of one's own, read in place -/
theorem pk_own {H : Hp} {σ : L2.St} {ρ : En} (r : Rel L H σ ρ) {i : Nat} {xs : List PyData} (h : ρ[i]? = some (.own xs)) : ∃ v, σ[i]? = some (some v) ∧ Bk L H v (.list xs) := by
  obtain ⟨l, vs, h1, h2, h3, _⟩ := r.getO h
  exact ⟨_, h1, l, vs, rfl, .inl h2, h3⟩
def dOpL (i : Nat) (f : F2) (tb : TEd) : TEd := fun ρ Q => (∃ ys, ρ[i]? = some (.own ys)) ∧ tb ρ fun s2 ρ2 => ∃ xs y, ρ2[i]? = some (.own xs) ∧ s2 = .d y ∧ f (.list xs) y fun s => Q s ρ2
def dOpR (f : F2) (ta : TEd) (i : Nat) : TEd := fun ρ Q => ta ρ fun s1 ρ1 => ∃ x ys, s1 = .d x ∧ ρ1[i]? = some (.own ys) ∧ f x (.list ys) fun s => Q s ρ1
def dN1 (f : FN) (i : Nat) : TEd := fun ρ Q => ∃ xs, ρ[i]? = some (.own xs) ∧ f [.list xs] fun s => Q s ρ
theorem tE_opL {r : R2} {f : F2} {i : Nat} (hr : ∀ v u H Q, rD L f v u H Q → r v u H Q) : ∀ σ H Q, tE L (dOpL i f tb) σ H Q → tOp r (tVar i) (tE L tb) σ H Q := fun σ H Q' h => by
  obtain ⟨ρ, Q, r0, ⟨⟨ys, ey⟩, q⟩, fin⟩ := h
  obtain ⟨l, vs, h1, _⟩ := r0.getO ey
  refine ⟨_, h1, ρ, _, r0, q, fun u H2 s2 ρ2 k2 r2 hu q2 => ?_⟩
  obtain ⟨xs, y, ex, rfl, q3⟩ := q2
  obtain ⟨v, h2, hv⟩ := pk_own r2 ex
  rw [h1] at h2; cases h2
  exact hr _ _ _ _ ⟨.list xs, y, _, hv, Bk.of hu, q3, fun w H3 s3 sm nr q4 => fin w H3 s3 ρ2 (k2.tr (Go.sm sm)) (r2.go sm) (nr.vr r2 sm k2) q4⟩
theorem tE_opR {r : R2} {f : F2} {i : Nat} (hr : ∀ v u H Q, rD L f v u H Q → r v u H Q) : ∀ σ H Q, tE L (dOpR f ta i) σ H Q → tOp r (tE L ta) (tVar i) σ H Q := fun σ H Q' h => by
  obtain ⟨ρ, Q, r0, q, fin⟩ := h
  refine ⟨ρ, _, r0, q, fun v H1 s ρ1 k1 r1 hv q1 => ?_⟩
  obtain ⟨x, ys, rfl, ey, q3⟩ := q1
  obtain ⟨u, h2, hu⟩ := pk_own r1 ey
  exact ⟨u, h2, hr _ _ _ _ ⟨x, .list ys, _, Bk.of hv, hu, q3, fun w H3 s3 sm nr q4 => fin w H3 s3 ρ1 (k1.tr (Go.sm sm)) (r1.go sm) (nr.vr r1 sm k1) q4⟩⟩
theorem tE_n1 {r : List V → Hp → VK → Prop} {f : FN} {i : Nat} (hr : ∀ v H Q, rN L f v H Q → r v H Q) : ∀ σ H Q, tE L (dN1 f i) σ H Q → tCB r (tCons (tVar i) tNil) σ H Q := fun σ H Q' h => by
  obtain ⟨ρ, Q, r0, ⟨xs, ex, q⟩, fin⟩ := h
  obtain ⟨v, h1, hv⟩ := pk_own r0 ex
  exact ⟨v, h1, hr _ _ _ ⟨[.list xs], _, .cons hv .nil, q, fun w H2 s sm nr q3 => fin w H2 s ρ (Go.sm sm) (r0.go sm) (nr.vr r0 sm Go.rf) q3⟩⟩
section
variable {px : Pos} {x y : Str} {i : Nat} {op : Operator} {cop : CmpOp} {f : F2} {fn : FN}
theorem de_opL (ho : OpR X (binaryOp op) (rD L f)) (hx : PE X a (tVar i)) (hb : PE X b (tE L tb)) : PE X (.BinOp a op b pos) (tE L (dOpL i f tb)) := (pe_op ho hx hb).less (tE_opL fun _ _ _ _ q => q)
theorem de_opR (ho : OpR X (binaryOp op) (rD L f)) (ha : PE X a (tE L ta)) (hx : PE X b (tVar i)) : PE X (.BinOp a op b pos) (tE L (dOpR f ta i)) := (pe_op ho ha hx).less (tE_opR fun _ _ _ _ q => q)
theorem de_cmpL (ho : OpR X (compareOp cop) (rD L f)) (hx : PE X a (tVar i)) (hb : PE X b (tE L tb)) (hm : behindInMarks cop b = false) : PE X (.Compare a [cop] [b] pos) (tE L (dOpL i f tb)) := (pe_cmpR ho hx hb hm).less (tE_opL fun _ _ _ _ q => q)
theorem de_cmpR (ho : OpR X (compareOp cop) (rD L f)) (ha : PE X a (tE L ta)) (hx : PE X b (tVar i)) (hm : behindInMarks cop b = false) : PE X (.Compare a [cop] [b] pos) (tE L (dOpR f ta i)) := (pe_cmpR ho ha hx hm).less (tE_opR fun _ _ _ _ q => q)
theorem dt_cmpL (ho : OpR X (compareOp cop) (rD L f)) (hx : PE X a (tVar i)) (hb : PE X b (tE L tb)) (hm : behindInMarks cop b = false) : PT X (.Compare a [cop] [b] pos) (tT L (dB (dOpL i f tb))) := (pt_cmpR ho hx hb hm).less (tT_of (tE_opL fun _ _ _ _ q => q))
theorem dt_cmpR (ho : OpR X (compareOp cop) (rD L f)) (ha : PE X a (tE L ta)) (hx : PE X b (tVar i)) (hm : behindInMarks cop b = false) : PT X (.Compare a [cop] [b] pos) (tT L (dB (dOpR f ta i))) := (pt_cmpR ho ha hx hm).less (tT_of (tE_opR fun _ _ _ _ q => q))
theorem de_ixL (ho : IxR X (rD L f)) (hx : PE X a (tVar i)) (hb : PE X b (tE L tb)) (hs : PlainIx b) : PE X (.Subscript a b pos) (tE L (dOpL i f tb)) := (pe_ix ho hx hb hs).less (tE_opL fun _ _ _ _ q => q)
theorem de_callB1 {id : String} (hc : CallR X (.builtin id) (rN L fn)) (hg : Gl X x) (hm : X.mg x = none) (hv : bootBuiltins x = some (.builtin id)) (hx : PE X a (tVar i)) (hn : x ≠ "__name__" := by decide) (hdb : (x == ("__debug__" : Str)) = false := by decide)
    (h1 : starEach (a :: []) X.env = (false, eval a X.env) :: starEach [] X.env := by rfl) (he : starEach (a :: []) X.env = (false, eval a X.env) :: starEach [] X.env := by rfl) (hpl : (backTo pos (starEach [] X.env)).any (·.1) = false := by rfl) :
    PE X (.Call (.Name x p) [a] [] pos) (tE L (dN1 fn i)) := (pe_callB hc hg hm hv (pa_cons hx pa_nil h1) hn hdb he hpl).less (tE_n1 fun _ _ _ q => q)
theorem de_callT1 {T : String} (hc : CallR X (.type T) (rN L fn)) (hg : Gl X x) (hm : X.mg x = none) (hv : bootBuiltins x = some (.type T)) (hx : PE X a (tVar i)) (hn : x ≠ "__name__" := by decide) (hdb : (x == ("__debug__" : Str)) = false := by decide)
    (h1 : starEach (a :: []) X.env = (false, eval a X.env) :: starEach [] X.env := by rfl) (he : starEach (a :: []) X.env = (false, eval a X.env) :: starEach [] X.env := by rfl) (hpl : (backTo pos (starEach [] X.env)).any (·.1) = false := by rfl) :
    PE X (.Call (.Name x p) [a] [] pos) (tE L (dN1 fn i)) := (pe_callTy hc hg hm hv (pa_cons hx pa_nil h1) hn hdb he hpl).less (tE_n1 fun _ _ _ q => q)
end
end
end GB

namespace GB
open PySem PySem.Spec PyProof.Rows L2 HT

/-! rows times numbers -/
theorem tmul_same (l : Addr) (items : Array Value) (n : Nat) (dd : Option Addr) (sl : Array (Option Value)) (x : Int) (u : Tok) (c0 : (decide (x < -(2 ^ 63)) || decide (x ≥ 2 ^ 63)) = false) (c1 : (items.isEmpty || x == 1) = true) :
    Meets (Builtin.«tuple.__mul__» ⟨[.ref l, .int x u], []⟩) (fun _ R s => s.heap.get? l = some { cls := .type "tuple", dict := dd, data := .seq items n, slots := sl } ∧ R (.ok (.ret (Value.ref l))) s) :=
  .of_wp fun prog w A R s h => by
    obtain ⟨hp, g, d, tk, os⟩ := s
    obtain ⟨hl, h⟩ := h
    have f1 := AutoSeq1.idx_int
    wp_walk using wpAny_loadPart' hl
    refine wpAny_ite_false (decide_eq_false (by rw [c0]; exact Bool.false_ne_true)) ?_
    wp_walk using wpAny_loadPart' hl
    exact ⟨_, rfl, h⟩
theorem tmul_none (l : Addr) (items : Array Value) (n : Nat) (dd : Option Addr) (sl : Array (Option Value)) (x : Int) (u : Tok) (c0 : (decide (x < -(2 ^ 63)) || decide (x ≥ 2 ^ 63)) = false) (c1 : (items.isEmpty || x == 1) = false) (c2 : (decide (x ≤ 0) || items.isEmpty) = true) :
    Meets (Builtin.«tuple.__mul__» ⟨[.ref l, .int x u], []⟩) (fun _ R s => s.heap.get? l = some { cls := .type "tuple", dict := dd, data := .seq items n, slots := sl } ∧ R (.ok (.ret (Value.ref s.heap.objs.size))) { s with heap := s.heap.push { cls := Value.type "tuple", data := Data.seq #[] }, toks := s.toks }) :=
  .of_wp fun prog w A R s h => by
    obtain ⟨hp, g, d, tk, os⟩ := s
    obtain ⟨hl, h⟩ := h
    have f1 := AutoSeq1.idx_int
    wp_walk using wpAny_loadPart' hl
    refine wpAny_ite_false (decide_eq_false (by rw [c0]; exact Bool.false_ne_true)) ?_
    wp_walk using wpAny_loadPart' hl
    exact ⟨_, rfl, h⟩

/-! arithmetic -/
def fI2 (g : Int → Int → PyData) (c : Int → Int → Prop) : F2 := fun x y Q => ∃ i j, x = .int i ∧ y = .int j ∧ c i j ∧ Q (.d (g i j))
def fAdd : F2 := fun x y Q => match x, y with
  | .int i, .int j => Q (.d (.int (i + j)))
  | .str a, .str b => a.length + b.length ≤ sizeLine ∧ Q (.d (.str (a ++ b)))
  | .tuple xs, .tuple ys => xs.length + ys.length ≤ sizeLine ∧ Q (.d (.tuple (xs ++ ys)))
  | .list xs, .list ys => xs.length + ys.length ≤ sizeLine ∧ Q (.own (xs ++ ys))
  | _, _ => False
abbrev fSub : F2 := fI2 (fun i j => .int (i - j)) fun _ _ => True
abbrev fDiv : F2 := fI2 (fun i j => .int (i / j)) fun _ j => 0 < j ∧ j < 2 ^ 2000
abbrev fMod : F2 := fI2 (fun i j => .int (i % j)) fun _ j => 0 < j
abbrev fPow : F2 := fI2 (fun i j => .int (i ^ j.toNat)) CPow
/-- numbers of a million bits together; rows times small numbers -/
def fMul : F2 := fun x y Q => match x, y with
  | .int i, .int j => (CMul i j ∨ CMulW i j) ∧ Q (.d (.int (i * j)))
  | .tuple xs, .int k => -(2 ^ 62) < k ∧ k < 2 ^ 62 ∧ xs.length * k.toNat ≤ sizeLine ∧ Q (.d (.tuple (List.replicate k.toNat xs).flatten))
  | .list xs, .int k => -(2 ^ 62) < k ∧ k < 2 ^ 62 ∧ xs.length * k.toNat ≤ sizeLine ∧ Q (.own (List.replicate k.toNat xs).flatten)
  | _, _ => False
/-- what == is asked of: rows without dicts, and any two texts -/
def eqOk : PyData → PyData → Bool
  | .str _, .str _ => true
  | x, y => SeqAt.shaped x && SeqAt.shaped y
def fEq : F2 := fun x y Q => eqOk x y = true ∧ Q (.d (.bool (PyData.eqv x y)))
def fNe : F2 := fun x y Q => eqOk x y = true ∧ Q (.d (.bool (!PyData.eqv x y)))
theorem eqOk_cases {x y : PyData} (h : eqOk x y = true) : (∃ a b, x = .str a ∧ y = .str b) ∨ (SeqAt.shaped x = true ∧ SeqAt.shaped y = true) := by
  cases x <;> cases y <;> first
    | exact .inl ⟨_, _, rfl, rfl⟩
    | exact .inr (by simpa [eqOk] using h)
abbrev fLt : F2 := fI2 (fun i j => .bool (decide (i < j))) fun _ _ => True
abbrev fLe : F2 := fI2 (fun i j => .bool (decide (i ≤ j))) fun _ _ => True
abbrev fGt : F2 := fI2 (fun i j => .bool (decide (j < i))) fun _ _ => True
abbrev fGe : F2 := fI2 (fun i j => .bool (decide (j ≤ i))) fun _ _ => True
def isNon : PyData → Bool
  | .none => true
  | _ => false
def fIs : F2 := fun x y Q => y = .none ∧ Q (.d (.bool (isNon x)))
def fIsNot : F2 := fun x y Q => y = .none ∧ Q (.d (.bool (!isNon x)))
/-- x in c -/
def inD (x : PyData) (c : PyData) : Option Bool := match c with
  | .list xs => if SeqAt.shaped x = true ∧ SeqAt.shaped (.list xs) = true then some (xs.any fun z => PyData.eqv z x) else none
  | .tuple xs => if SeqAt.shaped x = true ∧ SeqAt.shaped (.tuple xs) = true then some (xs.any fun z => PyData.eqv z x) else none
  | _ => none
def fIn : F2 := fun x c Q => ∃ b, inD x c = some b ∧ Q (.d (.bool b))
def fNotIn : F2 := fun x c Q => ∃ b, inD x c = some b ∧ Q (.d (.bool (!b)))
def fIx : F2 := fun x y Q => ∃ i, y = .int i ∧ match x with
  | .list xs => ∃ v, atI xs i = some v ∧ Q (.d v)
  | .tuple xs => ∃ v, atI xs i = some v ∧ Q (.d v)
  | .str z => z.length ≤ sizeLine ∧ ∃ c, atI z.cps.toList i = some c ∧ Q (.d (.str ⟨#[c]⟩))
  | _ => False
def fLen : FN := fun xs Q => match xs with
  | [.list ys] => Q (.d (.int ys.length))
  | [.tuple ys] => Q (.d (.int ys.length))
  | [.str z] => z.length ≤ sizeLine ∧ Q (.d (.int z.length))
  | _ => False
def fAbs : FN := fun xs Q => ∃ i, xs = [.int i] ∧ Q (.d (.int i.natAbs))
def fInt : FN := fun xs Q => match xs with
  | [.int i] => Q (.d (.int i))
  | [.bool b] => Q (.d (.int (if b then 1 else 0)))
  | _ => False
def fTuple : FN := fun xs Q => match xs with
  | [.list ys] => Q (.d (.tuple ys))
  | [.tuple ys] => Q (.d (.tuple ys))
  | _ => False
def fList : FN := fun xs Q => match xs with
  | [.list ys] => Q (.own ys)
  | [.tuple ys] => Q (.own ys)
  | _ => False
def fRepr : FN := fun xs Q => ∃ x, xs = [x] ∧ x.showable = true ∧ x.shown.length ≤ sizeLine ∧ x.depth ≤ 60 ∧ Q (.d (.str x.shown))
section
variable {X : Cx} {L : Lay}
theorem nr_d {H : Hp} {v : V} {x : PyData} (h : Br L.K H v x) : NR L H H v (.d x) := h
theorem op2_int {g : Value → Value → Sem Value} {gi : Int → Int → V} {gd : Int → Int → PyData} {c : Int → Int → Prop} {r : R2} (h : OpR X g r) (hr : ∀ v u H Q, (∃ i j, v = .int i ∧ u = .int j ∧ c i j ∧ Q (gi i j) H) → r v u H Q) (hb : ∀ H i j, Br L.K H (gi i j) (gd i j)) :
    OpR X g (rD L (fI2 gd c)) := by
  intro pins s σ H x y v u Q' I rx ry q
  obtain ⟨dx, dy, Q, bx, by_, ⟨i, j, rfl, rfl, hc, q⟩, fin⟩ := q
  have bx : Br L.K H x (.int i) := bx
  have by_ : Br L.K H y (.int j) := by_
  cases bx
  cases by_
  exact h pins s σ H _ _ v u Q' I rx ry (hr _ _ _ _ ⟨i, j, rfl, rfl, hc, fin _ H _ (Same.refl H) (nr_d (hb H i j)) q⟩)
theorem o_sub : OpR X (binaryOp .Sub) (rD L fSub) := op2_int op_sub (fun _ _ _ _ ⟨i, j, e1, e2, _, q⟩ => ⟨i, j, e1, e2, q⟩) fun _ _ _ => .int _
theorem o_mod : OpR X (binaryOp .Mod) (rD L fMod) := op2_int op_mod (fun _ _ _ _ h => h) fun _ _ _ => .int _
theorem o_div : OpR X (binaryOp .FloorDiv) (rD L fDiv) := op2_int op_fdivW (fun _ _ _ _ ⟨i, j, e1, e2, ⟨h1, h2⟩, q⟩ => ⟨i, j, e1, e2, wide_div (b := 2000) h1 (by omega) (by decide) (by decide), q⟩) fun _ _ _ => .int _
theorem o_pow : OpR X (binaryOp .Pow) (rD L fPow) := op2_int op_pow (fun _ _ _ _ h => h) fun _ _ _ => .int _
theorem o_lt : OpR X (compareOp .Lt) (rD L fLt) := op2_int op_lt (fun _ _ _ _ ⟨i, j, e1, e2, _, q⟩ => ⟨i, j, e1, e2, q⟩) fun _ _ _ => .bl _
theorem o_le : OpR X (compareOp .LtE) (rD L fLe) := op2_int op_le (fun _ _ _ _ ⟨i, j, e1, e2, _, q⟩ => ⟨i, j, e1, e2, q⟩) fun _ _ _ => .bl _
theorem o_gt : OpR X (compareOp .Gt) (rD L fGt) := op2_int op_gt (fun _ _ _ _ ⟨i, j, e1, e2, _, q⟩ => ⟨i, j, e1, e2, q⟩) fun _ _ _ => .bl _
theorem o_ge : OpR X (compareOp .GtE) (rD L fGe) := op2_int op_ge (fun _ _ _ _ ⟨i, j, e1, e2, _, q⟩ => ⟨i, j, e1, e2, q⟩) fun _ _ _ => .bl _
theorem isNon_v {H : Hp} {v : V} {x : PyData} (h : Bk L H v x) : decide (v = .non) = isNon x := by
  cases x with
  | list xs => obtain ⟨a, vs, rfl, _⟩ := h; rfl
  | _ => (have h : Br L.K H v _ := h; cases h <;> rfl)
theorem o_is : OpR X (compareOp .Is) (rD L fIs) := by
  intro pins s σ H x y v u Q' I rx ry q
  obtain ⟨dx, dy, Q, bx, by_, ⟨rfl, q⟩, fin⟩ := q
  have by_ : Br L.K H y .none := by_
  cases by_
  refine op_isN pins s σ H _ _ v u Q' I rx ry ⟨rfl, ?_⟩
  rw [isNon_v bx]
  exact fin _ H _ (Same.refl H) (nr_d (.bl _)) q
theorem o_isnot : OpR X (compareOp .IsNot) (rD L fIsNot) := by
  intro pins s σ H x y v u Q' I rx ry q
  obtain ⟨dx, dy, Q, bx, by_, ⟨rfl, q⟩, fin⟩ := q
  have by_ : Br L.K H y .none := by_
  cases by_
  refine op_notN pins s σ H _ _ v u Q' I rx ry ⟨rfl, ?_⟩
  rw [isNon_v bx]
  exact fin _ H _ (Same.refl H) (nr_d (.bl _)) q
variable (hK : L.K = X.K)
include hK
theorem Bk.reads {pins : List (Addr × Obj)} {s : Shared} {σ : L2.St} {H : Hp} (I : Inv X pins σ H s) {v : V} {u : Value} {d : PyData} (h : Bk L H v d) (r : RelV v u) : ∃ as, Reads s.heap u d as := by
  cases d with
  | list xs =>
    obtain ⟨a, vs, rfl, h1, h2⟩ := h
    have sq : SqL X.K H a vs := by
      rcases h1 with h1 | ⟨o, h1⟩
      · exact .inl (.inl h1)
      · exact .inl (.inr ⟨o, h1⟩)
    obtain ⟨its, rv, ⟨o, n, ho, hc, _, hd⟩, _⟩ := I.list sq
    cases r
    rw [hK] at h2
    obtain ⟨as, q1, q2⟩ := BrA.reads I xs _ its h2 rv
    exact ⟨_, .list ho hc hd q1⟩
  | _ =>
    (have h : Br L.K H v _ := h
     rw [hK] at h
     obtain ⟨as, q, _⟩ := Br.reads I _ v u h r
     exact ⟨as, q⟩)
theorem o_eq (g : Good X) : OpR X (compareOp .Eq) (rD L fEq) := by
  intro pins s σ H x y v u Q' I rx ry q
  obtain ⟨dx, dy, Q, bx, by_, ⟨s0, q⟩, fin⟩ := q
  rcases eqOk_cases s0 with ⟨a, b, rfl, rfl⟩ | ⟨s1, s2⟩
  · have bx : Br L.K H x (.str a) := bx
    have by_ : Br L.K H y (.str b) := by_
    cases bx; cases by_
    refine op_eq pins s σ H _ _ v u Q' I rx ry ⟨rfl, fin _ H (.d (.bool _)) (Same.refl H) (nr_d (.bl _)) ?_⟩
    have e : decide (V.str a = V.str b) = PyData.eqv (.str a) (.str b) := by
      by_cases h : a = b
      · subst h; simp [PyData.eqv]
      · simp [PyData.eqv, h]
    rw [e]; exact q
  obtain ⟨as, r1⟩ := Bk.reads hK I bx rx
  obtain ⟨bs, r2⟩ := Bk.reads hK I by_ ry
  exact eq_dataH r1 r2 s1 s2 (by have := g.un; omega) ⟨.bl _, H, I, rfl, fin _ H _ (Same.refl H) (nr_d (.bl _)) q⟩
theorem o_ne (g : Good X) : OpR X (compareOp .NotEq) (rD L fNe) := by
  intro pins s σ H x y v u Q' I rx ry q
  obtain ⟨dx, dy, Q, bx, by_, ⟨s0, q⟩, fin⟩ := q
  rcases eqOk_cases s0 with ⟨a, b, rfl, rfl⟩ | ⟨s1, s2⟩
  · have bx : Br L.K H x (.str a) := bx
    have by_ : Br L.K H y (.str b) := by_
    cases bx; cases by_
    refine op_ne pins s σ H _ _ v u Q' I rx ry ⟨rfl, fin _ H (.d (.bool _)) (Same.refl H) (nr_d (.bl _)) ?_⟩
    have e : decide (V.str a = V.str b) = PyData.eqv (.str a) (.str b) := by
      by_cases h : a = b
      · subst h; simp [PyData.eqv]
      · simp [PyData.eqv, h]
    rw [e]; exact q
  obtain ⟨as, r1⟩ := Bk.reads hK I bx rx
  obtain ⟨bs, r2⟩ := Bk.reads hK I by_ ry
  exact ne_dataH r1 r2 s1 s2 (by have := g.un; omega) ⟨.bl _, H, I, rfl, fin _ H _ (Same.refl H) (nr_d (.bl _)) q⟩
theorem lay_list {xs : List PyData} (h : SeqAt.shaped (.list xs) = true) : PyData.canLayAll0 xs = true := SeqAt.canLay_of_shaped h
theorem lay_tup {xs : List PyData} (h : SeqAt.shaped (.tuple xs) = true) : PyData.canLayAll0 xs = true := SeqAt.canLay_of_shaped h
theorem in_run (g : Good X) {pins : List (Addr × Obj)} {s : Shared} {σ : L2.St} {H : Hp} {x y : V} {v u : Value} {dx dy : PyData} {b : Bool} (I : Inv X pins σ H s) (rx : RelV x v) (ry : RelV y u) (bx : Bk L H x dx) (by_ : Bk L H y dy) (e : inD dx dy = some b)
    {E Q : Value → Shared → Prop} : (Q (.bool b) s → wpAny (model X.prog X.w) X.A (compareOp .In v u) Q E s) ∧ (Q (.bool (!b)) s → wpAny (model X.prog X.w) X.A (compareOp .NotIn v u) Q E s) := by
  obtain ⟨as, r1⟩ := Bk.reads hK I bx rx
  obtain ⟨bs, r2⟩ := Bk.reads hK I by_ ry
  cases dy with
  | list xs =>
    unfold inD at e
    simp only at e
    split at e
    · rename_i h
      cases e
      have hr := room_in_shaped (A := X.A) (xs := xs) h.1 (by have := g.un; omega)
      exact ⟨fun q => SeqAt.in_list_reads r2 r1 (SeqAt.canLay_of_shaped h.2) (SeqAt.canLay_of_shaped h.1) hr q, fun q => SeqAt.notIn_list_reads r2 r1 (SeqAt.canLay_of_shaped h.2) (SeqAt.canLay_of_shaped h.1) hr q⟩
    · cases e
  | tuple xs =>
    unfold inD at e
    simp only at e
    split at e
    · rename_i h
      cases e
      have hr := room_in_shaped (A := X.A) (xs := xs) h.1 (by have := g.un; omega)
      exact ⟨fun q => SeqAt.in_tuple_reads r2 r1 (SeqAt.canLay_of_shaped h.2) (SeqAt.canLay_of_shaped h.1) hr q, fun q => SeqAt.notIn_tuple_reads r2 r1 (SeqAt.canLay_of_shaped h.2) (SeqAt.canLay_of_shaped h.1) hr q⟩
    · cases e
  | _ => cases e
theorem o_in (g : Good X) : OpR X (compareOp .In) (rD L fIn) := by
  intro pins s σ H x y v u Q' I rx ry q
  obtain ⟨dx, dy, Q, bx, by_, ⟨b, e, q⟩, fin⟩ := q
  exact (in_run hK g I rx ry bx by_ e).1 ⟨.bl _, H, I, rfl, fin _ H _ (Same.refl H) (nr_d (.bl _)) q⟩
theorem o_notin (g : Good X) : OpR X (compareOp .NotIn) (rD L fNotIn) := by
  intro pins s σ H x y v u Q' I rx ry q
  obtain ⟨dx, dy, Q, bx, by_, ⟨b, e, q⟩, fin⟩ := q
  exact (in_run hK g I rx ry bx by_ e).2 ⟨.bl _, H, I, rfl, fin _ H _ (Same.refl H) (nr_d (.bl _)) q⟩
/-- a firm list in the plain heap -/
theorem list_at {pins : List (Addr × Obj)} {s : Shared} {σ : L2.St} {H : Hp} (I : Inv X pins σ H s) {v : V} {ds : List PyData} (b : Bk L H v (.list ds)) :
    ∃ a vs its n, v = .ref a ∧ BrA L.K H vs ds ∧ Vals vs its ∧ s.heap.get? a = some { cls := .type "list", data := .seq its.toArray n } ∧ vs.length ≤ sizeLine := by
  obtain ⟨a, vs, rfl, h1, h3⟩ := b
  rcases h1 with h1 | ⟨o, h1⟩
  · obtain ⟨hz, its, n, r, e⟩ := I.hok _ _ h1
    exact ⟨_, _, its, n, rfl, h3, r, e, hz⟩
  · obtain ⟨_, hz, its, n, r, e⟩ := I.hok _ _ h1
    exact ⟨_, _, its, n, rfl, h3, r, e, hz⟩
theorem Bk.readsN (g : Good X) {pins : List (Addr × Obj)} {s : Shared} {σ : L2.St} {H : Hp} (I : Inv X pins σ H s) {v : V} {u : Value} {d : PyData} (h : Bk L H v d) (r : RelV v u) : ∃ as, Reads s.heap u d as ∧ sysModules ∉ as := by
  cases d with
  | list xs =>
    obtain ⟨a, vs, rfl, h1, h2⟩ := h
    have ⟨sq, ns⟩ : SqL X.K H a vs ∧ (a == sysModules) = false := by
      rcases h1 with h1 | ⟨o, h1⟩
      · exact ⟨.inl (.inl h1), ne_sys I g h1⟩
      · exact ⟨.inl (.inr ⟨o, h1⟩), ne_sys I g h1⟩
    obtain ⟨its, rv, ⟨o, n, ho, hc, _, hd⟩, _⟩ := I.list sq
    cases r
    rw [hK] at h2
    obtain ⟨as, q1, q2⟩ := BrA.reads I xs _ its h2 rv
    exact ⟨_, .list ho hc hd q1, not_sys ns q2⟩
  | _ =>
    (have h : Br L.K H v _ := h
     rw [hK] at h
     exact Br.reads I _ v u h r)
theorem list_sq {H : Hp} {v : V} {ds : List PyData} (b : Bk L H v (.list ds)) : ∃ a vs, v = .ref a ∧ SqL X.K H a vs ∧ BrA L.K H vs ds := by
  obtain ⟨a, vs, rfl, h1, h3⟩ := b
  rcases h1 with h1 | ⟨o, h1⟩
  · exact ⟨a, vs, rfl, .inl (.inl h1), h3⟩
  · exact ⟨a, vs, rfl, .inl (.inr ⟨o, h1⟩), h3⟩
theorem o_add : OpR X (binaryOp .Add) (rD L fAdd) := by
  intro pins s σ H x y v u Q' I rx ry q
  obtain ⟨dx, dy, Q, bx, by_, q, fin⟩ := q
  unfold fAdd at q
  split at q
  · rename_i i j
    have bx : Br L.K H x (.int i) := bx
    have by_ : Br L.K H y (.int j) := by_
    cases bx; cases by_
    exact op_add pins s σ H _ _ v u Q' I rx ry ⟨_, _, rfl, rfl, fin _ H _ (Same.refl H) (nr_d (.int _)) q⟩
  · rename_i i j
    have bx : Br L.K H x (.str i) := bx
    have by_ : Br L.K H y (.str j) := by_
    cases bx; cases by_
    exact op_add_str pins s σ H _ _ v u Q' I rx ry ⟨_, _, rfl, rfl, q.1, fin _ H _ (Same.refl H) (nr_d (.str _)) q.2⟩
  · rename_i xs ys
    have bx : Br L.K H x (.tuple xs) := bx
    have by_ : Br L.K H y (.tuple ys) := by_
    cases bx with
    | tup h1 h2 =>
      cases by_ with
      | tup h3 h4 =>
        rw [hK] at h1 h3
        refine op_catF pins s σ H _ _ v u Q' I rx ry ⟨_, _, _, _, rfl, rfl, h1.sq, h3.sq, by rw [h2.len, h4.len]; exact q.1, fun e => ?_, fun e1 e2 => ?_, fun _ _ p us hp => ?_⟩
        · have ex : xs = [] := by have := h2.len; rw [e] at this; exact List.length_eq_zero_iff.mp this.symm
          subst ex
          exact fin _ H _ (Same.refl H) (nr_d (.tup (by rw [hK]; exact h3) h4)) (by simpa using q.2)
        · have ex : ys = [] := by have := h4.len; rw [e2] at this; exact List.length_eq_zero_iff.mp this.symm
          subst ex
          exact fin _ H _ (Same.refl H) (nr_d (.tup (by rw [hK]; exact h1) h2)) (by simpa using q.2)
        · exact fin _ _ (.d _) (same_new hp) (.tup (tq_at upd_same) (BrA.keep (keep_of_same (same_new hp)) _ _ (h2.app h4))) q.2
  · rename_i xs ys
    obtain ⟨a, vs, its, n, rfl, b1, r1, e1, z1⟩ := list_at hK I bx
    obtain ⟨b, ws, its2, n2, rfl, b2, r2, e2, z2⟩ := list_at hK I by_
    cases rx; cases ry
    have l1 := r1.length
    have l2 := r2.length
    have hz : vs.length + ws.length ≤ sizeLine := by rw [b1.len, b2.len]; exact q.1
    refine PySem.P.add_list e1 e2 ?_ (by rw [List.size_toArray, List.size_toArray]; omega)
    rw [List.append_toArray]
    have sm := same_new (o := .lst (vs ++ ws)) I.fresh
    exact ⟨.ref _, _, I.lnew (t' := s.toks) (r1.append r2) (by rw [List.length_append]; exact hz), rfl, fin _ _ (.own _) sm ⟨_, _, rfl, I.fresh, upd_same, BrA.keep (keep_of_same sm) _ _ (b1.app b2)⟩ q.2⟩
  · exact q.elim
theorem o_mul : OpR X (binaryOp .Mult) (rD L fMul) := by
  intro pins s σ H x y v u Q' I rx ry q
  obtain ⟨dx, dy, Q, bx, by_, q, fin⟩ := q
  unfold fMul at q
  split at q
  · rename_i i j
    have bx : Br L.K H x (.int i) := bx
    have by_ : Br L.K H y (.int j) := by_
    cases bx; cases by_
    rcases q.1 with hc | hc
    · exact op_mul pins s σ H _ _ v u Q' I rx ry ⟨_, _, rfl, rfl, hc, fin _ H _ (Same.refl H) (nr_d (.int _)) q.2⟩
    · exact op_mulW pins s σ H _ _ v u Q' I rx ry ⟨_, _, rfl, rfl, hc, fin _ H _ (Same.refl H) (nr_d (.int _)) q.2⟩
  · rename_i xs k
    obtain ⟨hk1, hk2, hk3, q⟩ : -(2 ^ 62) < k ∧ k < 2 ^ 62 ∧ xs.length * k.toNat ≤ sizeLine ∧ Q (.d (.tuple (List.replicate k.toNat xs).flatten)) := q
    have bx : Br L.K H x (.tuple xs) := bx
    have by_ : Br L.K H y (.int k) := by_
    cases by_
    obtain ⟨t, rfl⟩ := ry
    cases bx with
    | tup h1 h2 =>
      rename_i l vs
      cases rx
      have h1' := h1
      rw [hK] at h1
      obtain ⟨its, r, ⟨⟨cls, dd, data, sl⟩, ho, hc, n, hd⟩, hs⟩ := I.tuple h1.sq
      simp only at hc hd
      subst hc hd
      have hv := r.length
      have hx := h2.len
      have sz : its.toArray.size = xs.length := by rw [List.size_toArray]; omega
      have c0 : (decide (k < -(2 ^ 63)) || decide (k ≥ 2 ^ 63)) = false := by
        rw [decide_eq_false (by omega), decide_eq_false (by omega)]; rfl
      refine wpAny_binaryOp_repeat_ref (T := "tuple") (U := "int") (by decide) ⟨_, ho, rfl⟩ (fun s' => typeIs_int s' k t) noFill_tuple_mul F.fills_int_mul F.slot_int_rmul repeat_tuple F.slot_int_index.lookup
        (call_meets F.slot_int_rmul (typeIs_int s k t) F.entry_int_rmul (F.args_int_rmul_2 _ _) (int_rmul_tuple k t l its.toArray n dd sl) ⟨ho, rfl, ⟨_, ho, rfl⟩, ?_⟩)
      by_cases c1 : (its.toArray.isEmpty || k == 1) = true
      · refine call_meets F.slot_tuple_mul ⟨_, ho, rfl⟩ F.entry_tuple_mul (F.args_tuple_mul_2 _ _) (tmul_same l its.toArray n dd sl k t c0 c1) ⟨ho, ?_⟩
        have e : (List.replicate k.toNat xs).flatten = xs := by
          rcases Bool.or_eq_true_iff.mp c1 with z | z
          · have : xs = [] := by
              have : its.toArray.size = 0 := by simpa using z
              exact List.length_eq_zero_iff.mp (by omega)
            subst this; simp
          · have : k = 1 := by simpa using z
            subst this; simp
        rw [e] at q
        exact ⟨.ref l, H, I, rfl, fin _ H (.d (.tuple xs)) (Same.refl H) (nr_d (.tup h1' h2)) q⟩
      · have c1 : (its.toArray.isEmpty || k == 1) = false := by simpa using c1
        by_cases c2 : (decide (k ≤ 0) || its.toArray.isEmpty) = true
        · refine call_meets F.slot_tuple_mul ⟨_, ho, rfl⟩ F.entry_tuple_mul (F.args_tuple_mul_2 _ _) (tmul_none l its.toArray n dd sl k t c0 c1 c2) ⟨ho, ?_⟩
          have hk0 : k ≤ 0 := by
            rcases Bool.or_eq_true_iff.mp c2 with z | z
            · exact of_decide_eq_true z
            · rw [z, Bool.true_or] at c1; cases c1
          have e : (List.replicate k.toNat xs).flatten = [] := by
            have : k.toNat = 0 := by omega
            rw [this]; rfl
          rw [e] at q
          refine ⟨.ref s.heap.objs.size, _, Inv.tnew (t' := s.toks) (us := []) (vs := []) I .nil (Nat.zero_le _), rfl, ?_⟩
          exact fin _ _ (.d (.tuple [])) (same_new I.fresh) (.tup (tq_at upd_same) .nil) q
        · have c2 : (decide (k ≤ 0) || its.toArray.isEmpty) = false := by simpa using c2
          have hk0 : 0 < k := by
            have := (Bool.or_eq_false_iff.mp c2).1
            have := of_decide_eq_false this
            omega
          have hm : ((its.toArray.size : Nat) : Int) * k = ((xs.length * k.toNat : Nat) : Int) := by
            rw [sz]; push_cast; rw [Int.toNat_of_nonneg (by omega)]
          have sl16 := sizeLine_eq
          have c4 : Builtin.Tuple.tupleTooMany (((its.toArray.size : Nat) : Int) * k) = false := by
            unfold Builtin.Tuple.tupleTooMany
            rw [hm]
            exact decide_eq_false (by omega)
          have lf : (List.replicate k.toNat its).flatten.length ≤ sizeLine := by
            rw [PyProof.Rows.lm_len_rep_flat, Nat.mul_comm, show its.length = xs.length by omega]; exact hk3
          refine call_meets F.slot_tuple_mul ⟨_, ho, rfl⟩ F.entry_tuple_mul (F.args_tuple_mul_2 _ _) (tuple_mulW l its.toArray n dd sl k t c0 c1 c2 (by rw [hm]; omega) c4 (by rw [size_rep, List.size_toArray]; exact lf)) ⟨ho, ?_⟩
          rw [size_rep]
          have lv : (List.replicate k.toNat vs).flatten.length ≤ sizeLine := by
            rw [PyProof.Rows.lm_len_rep_flat, Nat.mul_comm, show vs.length = xs.length by omega]; exact hk3
          refine ⟨.ref s.heap.objs.size, _, Inv.tnew (t' := s.toks) I (r.rep k.toNat) lv, rfl, ?_⟩
          exact fin _ _ (.d _) (same_new I.fresh) (.tup (tq_at upd_same) (BrA.keep (keep_of_same (same_new I.fresh)) _ _ (h2.rep _))) q
  · rename_i xs k
    obtain ⟨hk1, hk2, hk3, q⟩ : -(2 ^ 62) < k ∧ k < 2 ^ 62 ∧ xs.length * k.toNat ≤ sizeLine ∧ Q (.own (List.replicate k.toNat xs).flatten) := q
    have by_ : Br L.K H y (.int k) := by_
    cases by_
    obtain ⟨t, rfl⟩ := ry
    obtain ⟨l, vs, its, n, rfl, b1, r, e, hz⟩ := list_at hK I bx
    cases rx
    have hv := r.length
    have hx := b1.len
    have sl16 := sizeLine_eq
    have sz : its.toArray.size = xs.length := by rw [List.size_toArray]; omega
    have fill : List.foldl (fun x1 x2 => x1 ++ x2) #[] (List.replicate (if its.toArray.isEmpty = true then 0 else k.toNat) its.toArray) = (List.replicate k.toNat its).flatten.toArray := by
      rw [size_rep]
      cases its with
      | nil => simp
      | cons a r' => rw [if_neg (by simp)]
    refine wpAny_binaryOp_repeat_ref (T := "list") (U := "int") (by decide) ⟨_, e, rfl⟩ (fun s' => typeIs_int s' k t) noFill_list_mul F.fills_int_mul F.slot_int_rmul repeat_list F.slot_int_index.lookup
      (call_meets F.slot_int_rmul (typeIs_int s k t) F.entry_int_rmul (F.args_int_rmul_2 _ _) (int___rmul___int_list k t l its.toArray n)
        ⟨e, rfl, ⟨_, e, rfl⟩, call_meets F.slot_list_mul ⟨_, e, rfl⟩ F.entry_list_mul (F.args_list_mul_2 _ _) (AutoListH.list___mul___list_int_3 l its.toArray n k t ?_ ?_ ?_) ⟨e, ?_⟩⟩)
    · rw [fitsIndex_both (by omega) (by omega)]; exact Bool.false_ne_true
    · rw [sz]; omega
    · rw [notLongL (by rw [sz]; exact hk3)]; exact Bool.false_ne_true
    · rw [fill]
      have lv : (List.replicate k.toNat vs).flatten.length ≤ sizeLine := by
        rw [PyProof.Rows.lm_len_rep_flat, Nat.mul_comm, show vs.length = xs.length by omega]; exact hk3
      exact ⟨.ref _, _, I.lnew (t' := s.toks) (r.rep k.toNat) lv, rfl, fin _ _ (.own _) (same_new I.fresh) ⟨_, _, rfl, I.fresh, upd_same, BrA.keep (keep_of_same (same_new I.fresh)) _ _ (b1.rep _)⟩ q⟩
  · exact q.elim
theorem i_at : IxR X (rD L fIx) := by
  intro ev es pins s σ H x y v u Q' I rx ry q hs
  obtain ⟨dx, dy, Q, bx, by_, ⟨i, rfl, q⟩, fin⟩ := q
  have by_ : Br L.K H y (.int i) := by_
  cases by_
  cases dx with
  | list xs =>
    obtain ⟨d, e, q⟩ := q
    obtain ⟨a, vs, rfl, h1, h3⟩ := list_sq hK bx
    · obtain ⟨j, hj, e3, _⟩ := atI_get e
      obtain ⟨v1, e4, b1⟩ := h3.get e3
      have e5 : atI vs i = some v1 := by
        unfold atI at e ⊢
        rw [h3.len]
        cases hx : ixN xs.length i with
        | none => rw [hx] at e; cases e
        | some k =>
          obtain ⟨q1, _, _, _⟩ := ixN_seq hx
          have : k = j := Option.some.inj (q1.symm.trans hj)
          subst this
          exact e4
      exact ix_list ev es pins s σ H _ _ v u Q' I rx ry ⟨_, _, i, v1, rfl, rfl, h1, e5, fin _ H _ (Same.refl H) (nr_d b1) q⟩ hs
  | tuple xs =>
    obtain ⟨d, e, q⟩ := q
    have bx : Br L.K H x (.tuple xs) := bx
    cases bx with
    | tup h1 h3 =>
      rename_i a vs
      rw [hK] at h1
      obtain ⟨j, hj, e3, _⟩ := atI_get e
      obtain ⟨v1, e4, b1⟩ := h3.get e3
      have e5 : atI vs i = some v1 := by
        unfold atI at e ⊢
        rw [h3.len]
        cases hx : ixN xs.length i with
        | none => rw [hx] at e; cases e
        | some k =>
          obtain ⟨q1, _, _, _⟩ := ixN_seq hx
          have : k = j := Option.some.inj (q1.symm.trans hj)
          subst this
          exact e4
      exact ix_tup ev es pins s σ H _ _ v u Q' I rx ry ⟨_, _, i, v1, rfl, rfl, h1, e5, fin _ H _ (Same.refl H) (nr_d b1) q⟩ hs
  | str z =>
    obtain ⟨hz, c, e, q⟩ := q
    have bx : Br L.K H x (.str z) := bx
    cases bx
    exact ix_str ev es pins s σ H _ _ v u Q' I rx ry ⟨z, i, c, rfl, rfl, hz, e, fin _ H _ (Same.refl H) (nr_d (.str _)) q⟩ hs
  | _ => exact q.elim
theorem brA1 {H : Hp} {vs : List V} {x : PyData} (h : BkA L H vs [x]) : ∃ v, vs = [v] ∧ Bk L H v x := by
  cases h with | cons h1 h2 => cases h2; exact ⟨_, rfl, h1⟩
theorem c_len : CallR X (.builtin "len") (rN L fLen) := by
  intro pins s σ H vs us Q' I r q
  obtain ⟨xs, Q, b, q, fin⟩ := q
  unfold fLen at q
  split at q
  · obtain ⟨v, rfl, b1⟩ := brA1 hK b
    obtain ⟨a, vs, rfl, h1, h3⟩ := list_sq hK b1
    exact call_len_seq pins s σ H _ us Q' I r ⟨_, _, rfl, .inl h1, fin _ H _ (Same.refl H) (nr_d (.int _)) (by rw [h3.len]; exact q)⟩
  · obtain ⟨v, rfl, b1⟩ := brA1 hK b
    cases b1 with
    | tup h1 h3 => rw [hK] at h1; exact call_len_seq pins s σ H _ us Q' I r ⟨_, _, rfl, .inr h1, fin _ H _ (Same.refl H) (nr_d (.int _)) (by rw [h3.len]; exact q)⟩
  · obtain ⟨v, rfl, b1⟩ := brA1 hK b
    cases b1
    exact call_len_str pins s σ H _ us Q' I r ⟨_, rfl, q.1, fin _ H _ (Same.refl H) (nr_d (.int _)) q.2⟩
  · exact q.elim
theorem c_abs : CallR X (.builtin "abs") (rN L fAbs) := by
  intro pins s σ H vs us Q' I r q
  obtain ⟨xs, Q, b, ⟨i, rfl, q⟩, fin⟩ := q
  obtain ⟨v, rfl, b1⟩ := brA1 hK b
  cases b1
  refine call_abs pins s σ H _ us Q' I r ⟨i, rfl, fin _ H (.d (.int i.natAbs)) (Same.refl H) ?_ q⟩
  have : (if i < 0 then -i else i) = (i.natAbs : Int) := by split <;> omega
  rw [this]; exact nr_d (.int _)
theorem c_int : CallR X (.type "int") (rN L fInt) := by
  intro pins s σ H vs us Q' I r q
  obtain ⟨xs, Q, b, q, fin⟩ := q
  unfold fInt at q
  split at q
  · obtain ⟨v, rfl, b1⟩ := brA1 hK b
    cases b1
    exact call_int1 pins s σ H _ us Q' I r (.inl ⟨_, rfl, fin _ H _ (Same.refl H) (nr_d (.int _)) q⟩)
  · obtain ⟨v, rfl, b1⟩ := brA1 hK b
    cases b1
    exact call_int1 pins s σ H _ us Q' I r (.inr ⟨_, rfl, fin _ H _ (Same.refl H) (nr_d (.int _)) q⟩)
  · exact q.elim
theorem c_tuple : CallR X (.type "tuple") (rN L fTuple) := by
  intro pins s σ H vs us Q' I r q
  obtain ⟨xs, Q, b, q, fin⟩ := q
  unfold fTuple at q
  split at q
  · obtain ⟨v, rfl, b1⟩ := brA1 hK b
    obtain ⟨a, vs, rfl, h1, h3⟩ := list_sq hK b1
    · refine call_tupleF pins s σ H _ us Q' I r ⟨_, _, rfl, .inl ⟨h1, fun l us hl => ?_⟩⟩
      exact fin _ _ (.d _) (same_new hl) (.tup (tq_at upd_same) (BrA.keep (keep_of_same (same_new hl)) _ _ h3)) q
  · obtain ⟨v, rfl, b1⟩ := brA1 hK b
    cases b1 with
    | tup h1 h3 =>
      rw [hK] at h1
      exact call_tupleF pins s σ H _ us Q' I r ⟨_, _, rfl, .inr ⟨h1.sq, fin _ H _ (Same.refl H) (nr_d (.tup (by rw [hK]; exact h1) h3)) q⟩⟩
  · exact q.elim
theorem c_list : CallR X (.type "list") (rN L fList) := by
  intro pins s σ H vs us Q' I r q
  obtain ⟨xs, Q, b, q, fin⟩ := q
  unfold fList at q
  split at q
  · obtain ⟨v, rfl, b1⟩ := brA1 hK b
    obtain ⟨a, vs, rfl, h1, h3⟩ := list_sq hK b1
    · refine call_list_of pins s σ H _ us Q' I r ⟨_, _, rfl, .inl h1, fun l hl => ?_⟩
      exact fin _ _ (.own _) (same_new hl) ⟨_, _, rfl, hl, upd_same, BrA.keep (keep_of_same (same_new hl)) _ _ h3⟩ q
  · obtain ⟨v, rfl, b1⟩ := brA1 hK b
    cases b1 with
    | tup h1 h3 =>
      rw [hK] at h1
      refine call_list_of pins s σ H _ us Q' I r ⟨_, _, rfl, .inr h1.sq, fun l hl => ?_⟩
      exact fin _ _ (.own _) (same_new hl) ⟨_, _, rfl, hl, upd_same, BrA.keep (keep_of_same (same_new hl)) _ _ h3⟩ q
  · exact q.elim
theorem c_repr (g : Good X) : CallR X (.builtin "repr") (rN L fRepr) := by
  intro pins s σ H vs us Q' I r q
  obtain ⟨xs, Q, b, ⟨x, rfl, h1, h2, h3, q⟩, fin⟩ := q
  obtain ⟨v, rfl, b1⟩ := brA1 hK b
  obtain ⟨u, rfl, ru⟩ := vals1 r
  obtain ⟨as, rd, ns⟩ := Bk.readsN hK g I b1 ru
  have fn : Q' (.str x.shown) H := fin _ H (.d (.str x.shown)) (Same.refl H) (nr_d (.str _)) q
  have un := g.un
  have byRef : ∀ a, u = .ref a → wpAny (model X.prog X.w) X.A (call (.builtin "repr") [u]) (EP X pins σ Q') X.xe s := fun a e => by
    subst e
    exact repr_of_reads' rd h1 (fun _ => ns) g.gd (by omega) (fun _ _ e => e) (fun h' t tk hk => ⟨.str _, H, I.kept (t' := tk) hk, ⟨t, rfl⟩, fn⟩) h2
  cases x with
  | none => cases b1; cases ru; exact PySem.P.repr_of_none ⟨.str _, H, I.tok _, ⟨_, rfl⟩, by simpa [PyData.shown] using fn⟩
  | bool b => cases b1; cases ru; exact PySem.P.repr_of_bool ⟨.str _, H, I.tok _, ⟨_, rfl⟩, by cases b <;> simpa [PyData.shown] using fn⟩
  | int i => cases b1; obtain ⟨t, rfl⟩ := ru; exact PySem.P.repr_of_int (by simpa [PyData.showable] using h1) ⟨.str _, H, I.tok _, ⟨_, rfl⟩, by simpa [PyData.shown] using fn⟩
  | str z => cases b1; obtain ⟨t, rfl⟩ := ru; exact PySem.P.repr_of_str ⟨.str _, H, I.tok _, ⟨_, rfl⟩, by simpa [PyData.shown] using fn⟩ (by simpa [PyData.shown] using h2)
  | tuple ds => cases b1; exact byRef _ ru
  | list ds => obtain ⟨a, vs, rfl, _⟩ := b1; exact byRef _ ru
  | dict kvs => cases b1; exact byRef _ ru
end
end GB

namespace GB
open PySem PySem.Spec PyProof.Rows L2

/-! statements -/
def dNext : TSd := fun D ρ => D.nx ρ
def dSeq (t u : TSd) : TSd := fun D ρ => t { D with nx := u D } ρ
def dSet (i : Nat) (t : TEd) : TSd := fun D ρ => t ρ fun s ρ1 => D.nx (ρ1.set i s)
def dDrop (t : TEd) : TSd := fun D ρ => t ρ fun _ ρ1 => D.nx ρ1
def dRet (t : TEd) : TSd := fun D ρ => t ρ fun s _ => D.rt s
def dIfS (c : TTd) (t u : TSd) : TSd := fun D ρ => c ρ fun b ρ1 => if b = true then t D ρ1 else u D ρ1
def dBrk : TSd := fun D ρ => D.bk ρ
def dCnt : TSd := fun D ρ => D.ct ρ
/-- from here on the slot's list is as it is for good -/
def dFixS (i : Nat) (t : TSd) : TSd := fun D ρ => ∃ xs, ρ[i]? = some (.own xs) ∧ t D (ρ.set i (.d (.list xs)))
section
variable {X : Cx} {L : Lay} {pos : Pos} {e c : Expr} {st : Stmt} {sts sts2 : List Stmt} {t u : TSd} {te : TEd} {tc : TTd}
theorem tS_mono {D D' : Ends} {σ : L2.St} {H : Hp} (h : tS L t D σ H) (nx : ∀ σ' H' ρ', Keep H H' → Rel L H' σ' ρ' → D.nx σ' H' → D'.nx σ' H') (rt : ∀ v H', D.rt v H' → D'.rt v H') (bk : ∀ σ' H', D.bk σ' H' → D'.bk σ' H') (ct : ∀ σ' H', D.ct σ' H' → D'.ct σ' H') : tS L t D' σ H := by
  obtain ⟨ρ, De, r, q, h1, h2, h3, h4⟩ := h
  exact ⟨ρ, De, r, q, fun σ' H' ρ' k r' n => nx _ _ ρ' k r' (h1 σ' H' ρ' k r' n), fun v H' s k sm rr n => rt _ _ (h2 v H' s k sm rr n), fun σ' H' ρ' k r' n => bk _ _ (h3 σ' H' ρ' k r' n), fun σ' H' ρ' k r' n => ct _ _ (h4 σ' H' ρ' k r' n)⟩
theorem VR.rr {Hs H : Hp} {v : V} {s : S} (h : VR L Hs H v s) : RR L H v s := by
  cases s with
  | un => exact h
  | d x => exact h
  | ob t => exact h
  | ow xs => exact h.1
theorem dss_nil : PSs X [] (tS L dNext) := pss_nil.less fun D σ H h => by
  obtain ⟨ρ, De, r, q, h1, _⟩ := h
  exact h1 σ H ρ (Keep.rfl' H) r q
theorem dss_cons (h : PS X st (tS L t)) (h2 : PSs X sts (tS L u)) : PSs X (st :: sts) (tS L (dSeq t u)) := (pss_cons h h2).less fun D σ H q => by
  obtain ⟨ρ, De, r, q, h1, h2, h3, h4⟩ := q
  refine ⟨ρ, { De with nx := u De }, r, q, fun σ' H' ρ' k r' n => ?_, h2, h3, h4⟩
  exact ⟨ρ', De, r', n, fun σ2 H2 ρ2 k2 => h1 σ2 H2 ρ2 (k.tr k2), fun v H2 s k2 => h2 v H2 s (k.tr k2), fun σ2 H2 ρ2 k2 => h3 σ2 H2 ρ2 (k.tr k2), fun σ2 H2 ρ2 k2 => h4 σ2 H2 ρ2 (k.tr k2)⟩
theorem dss_one (h : PS X st (tS L t)) : PSs X [st] (tS L t) := pss_one h
theorem ds_set {i : Nat} {x : Str} {pos' : Pos} (g : Good X) (hi : X.N[i]? = some x) (hx : Loc X.env.scope x) (he : PE X e (tE L te)) (hs : swapsWith e (some (.Name x pos')) pos.line X.env = pure false := by rfl)
    (hf : X.fn x = true ∨ X.env.scope.names.lookup x = some .local := by first | exact .inl rfl | exact .inr rfl | assumption) : PS X (.Assign [.Name x pos'] e pos) (tS L (dSet i te)) :=
  (ps_set g.nd hi hx he hs hf).less fun D σ H q => by
    obtain ⟨ρ, De, r, q, h1, h2, h3, h4⟩ := q
    exact ⟨ρ, _, r, q, fun v H' s ρ' go r' hv n => h1 _ _ _ (go.keep r) (r.set r' go hv) n⟩
theorem ds_expr (he : PE X e (tE L te)) (hs : swapsWith e none pos.line X.env = pure false := by rfl) : PS X (.Expr e pos) (tS L (dDrop te)) := (ps_expr he hs).less fun D σ H q => by
  obtain ⟨ρ, De, r, q, h1, h2, h3, h4⟩ := q
  exact ⟨ρ, _, r, q, fun v H' s ρ' go r' hv n => h1 _ _ _ (go.keep r) r' n⟩
theorem ds_ret (he : PE X e (tE L te)) : PS X (.Return (some e) pos) (tS L (dRet te)) := (ps_ret he).less fun D σ H q => by
  obtain ⟨ρ, De, r, q, h1, h2, h3, h4⟩ := q
  exact ⟨ρ, _, r, q, fun v H' s ρ' go r' hv n => h2 _ _ _ (go.keep r) r'.same hv.rr n⟩
theorem ds_if (hc : PT X c (tT L tc)) (h : PSs X sts (tS L t)) (h2 : PSs X sts2 (tS L u)) : PS X (.If c sts sts2 pos) (tS L (dIfS tc t u)) := (ps_if hc h h2).less fun D σ H q => by
  obtain ⟨ρ, De, r, q, h1, h2, h3, h4⟩ := q
  refine ⟨ρ, _, r, q, fun b H' ρ' go r' n => ?_⟩
  have k := go.keep r
  cases b with
  | true => exact ⟨ρ', De, r', by simpa using n, fun σ2 H2 ρ2 k2 => h1 σ2 H2 ρ2 (k.tr k2), fun v H2 s k2 => h2 v H2 s (k.tr k2), fun σ2 H2 ρ2 k2 => h3 σ2 H2 ρ2 (k.tr k2), fun σ2 H2 ρ2 k2 => h4 σ2 H2 ρ2 (k.tr k2)⟩
  | false => exact ⟨ρ', De, r', by simpa using n, fun σ2 H2 ρ2 k2 => h1 σ2 H2 ρ2 (k.tr k2), fun v H2 s k2 => h2 v H2 s (k.tr k2), fun σ2 H2 ρ2 k2 => h3 σ2 H2 ρ2 (k.tr k2), fun σ2 H2 ρ2 k2 => h4 σ2 H2 ρ2 (k.tr k2)⟩
theorem ds_brk : PS X (.Break pos) (tS L dBrk) := ps_break.less fun D σ H q => by
  obtain ⟨ρ, De, r, q, h1, h2, h3, h4⟩ := q
  exact h3 _ _ _ (Keep.rfl' H) r q
theorem ds_cnt : PS X (.Continue pos) (tS L dCnt) := ps_continue.less fun D σ H q => by
  obtain ⟨ρ, De, r, q, h1, h2, h3, h4⟩ := q
  exact h4 _ _ _ (Keep.rfl' H) r q
theorem dss_fix (g : Good X) (i : Nat) (h : PSs X sts (tS L t)) : PSs X sts (tS L (dFixS i t)) := by
  constructor
  intro pins s σ H D I q
  obtain ⟨ρ, De, r, ⟨xs, e, q⟩, h1, h2, h3, h4⟩ := q
  obtain ⟨l, vs, hi, hl, hb, h0⟩ := r.getO e
  obtain ⟨o, I2⟩ := fix_inv I hl trivial
  obtain ⟨r2, b2⟩ := r.fixIn (o := o) e hi hl (ne_sys I g hl)
  have k := keep_fix (o := o) hl trivial
  exact h.run pins s σ _ D I2 ⟨_, De, r2, q, fun σ2 H2 ρ2 k2 => h1 σ2 H2 ρ2 (k.tr k2), fun v H2 s k2 => h2 v H2 s (k.tr k2), fun σ2 H2 ρ2 k2 => h3 σ2 H2 ρ2 (k.tr k2), fun σ2 H2 ρ2 k2 => h4 σ2 H2 ρ2 (k.tr k2)⟩
end

/-! defs: promises over data -/
abbrev FnD := List S → (S → Prop) → Prop
def spD (K : PySem.W.Frag) (J : Jar) (n : Nat) (F : FnD) : Sp := fun vs H Q _ => ∃ ss R, FRs (lay K J H) H vs ss ∧ ss.length = n ∧ F ss R ∧ ∀ v H' s, Same H H' → RR (lay K J H) H' v s → R s → Q v H'
def dCall (F : FnD) (n : Nat) (ta : TAd) : TEd := fun ρ Q => ta ρ fun ss ρ1 => ss.length = n ∧ F ss fun s => Q s ρ1
theorem FRs.len {L : Lay} {H : Hp} {vs : List V} {ss : List S} (h : FRs L H vs ss) : vs.length = ss.length := by
  induction h with
  | nil => rfl
  | cons _ _ ih => simp [ih]
theorem FRs.lay {L : Lay} {H H0 : Hp} {vs : List V} {ss : List S} (h : FRs L H vs ss) : FRs (lay L.K L.J H0) H vs ss := by
  induction h with
  | nil => exact .nil
  | @cons v vs s ss h1 _ ih => exact .cons (by cases s <;> exact h1) ih
section
variable {X : Cx} {L : Lay} {pos p : Pos} {e : Expr} {es : List Expr} {tas tks : TAd} {F : FnD} {x : Str} {f : Addr} {fd : FuncData} {ps ks : List Str} {k : Nat} {CX : CXT} {E : XK} {kws : List Keyword}
theorem rr_vr {H H1 H2 : Hp} {σ : L2.St} {ρ ρ1 : En} (r1 : Rel L H1 σ ρ1) (go : Go σ ρ ρ1 H H1) {v : V} {s : S} (h : RR (lay L.K L.J H1) H2 v s) : VR L H H2 v s := by
  cases s with
  | un => exact h
  | d x => exact h
  | ob t => exact h
  | ow xs =>
    cases xs with
    | l xs =>
      obtain ⟨l, vs, rfl, h1, h2, h3⟩ := h
      exact ⟨⟨l, vs, rfl, h1, h2, r1.same.free h3⟩, fun l' e => by cases e; exact go.dom _ h3⟩
    | k xs =>
      obtain ⟨l, vs, rfl, h1, h2, h3⟩ := h
      exact ⟨⟨l, vs, rfl, h1, h2, r1.same.free h3⟩, fun l' e => by cases e; exact go.dom _ h3⟩
    | io m xs =>
      obtain ⟨l, vs, rfl, h1, h2, h3⟩ := h
      exact absurd h2.2 (by simp)
theorem de_call (hK : L.K = X.K) (Fn : FnG X.prog X.w X.K X.mg X.base CX k f fd ps (spD X.K L.J ps.length F)) (hr : Room k X.A) (g : Good X) (hg : Gl X x) (hm : X.mg x = some (.ref f)) (hk : PySem.W.keepIn X.K (.ref f) = true) (hb : Binds X.K fd ps [])
    (hx : Passes CX X E) (ha : PA X (e :: es) (tA L tas)) (hdb : (x == ("__debug__" : Str)) = false := by decide) (he : starEach (e :: es) X.env = (false, eval e X.env) :: starEach es X.env := by rfl)
    (hpl : (backTo pos (starEach es X.env)).any (·.1) = false := by rfl) : PE X (.Call (.Name x p) (e :: es) [] pos) (tE L (dCall F ps.length tas)) :=
  (g_call Fn hr g.gd hg hm hk hb hx ha hdb he hpl).less fun σ H Q' h => by
    obtain ⟨ρ, Q, r, q, fin⟩ := h
    refine ⟨ρ, _, r, q, fun vs H1 ss ρ1 go r1 hv q1 => ?_⟩
    show spD X.K L.J ps.length F (vs ++ []) H1 Q' E
    rw [List.append_nil]
    refine ⟨ss, _, ?_, q1.1, q1.2, fun v H2 s sm rr q2 => fin v H2 s ρ1 (go.tr (Go.sm sm)) (r1.go sm) (rr_vr r1 go (by rw [hK]; exact rr)) q2⟩
    rw [← hK]; exact hv.lay
theorem de_call0 (hK : L.K = X.K) (Fn : FnG X.prog X.w X.K X.mg X.base CX k f fd ps (spD X.K L.J ps.length F)) (hr : Room k X.A) (g : Good X) (hg : Gl X x) (hm : X.mg x = some (.ref f)) (hk : PySem.W.keepIn X.K (.ref f) = true) (hb : Binds X.K fd ps [])
    (hx : Passes CX X E) (hdb : (x == ("__debug__" : Str)) = false := by decide) : PE X (.Call (.Name x p) [] [] pos) (tE L (dCall F ps.length dNil)) :=
  (g_call0 Fn hr g.gd hg hm hk hb hx hdb).less fun σ H Q' h => by
    obtain ⟨ρ, Q, r, q, fin⟩ := h
    show spD X.K L.J ps.length F [] H Q' E
    have q : ([] : List S).length = ps.length ∧ F [] fun s => Q s ρ := q
    exact ⟨[], _, .nil, q.1, q.2, fun v H2 s sm rr q2 => fin v H2 s ρ (Go.sm sm) (r.go sm) (rr_vr r Go.rf (by rw [hK]; exact rr)) q2⟩
/-- keywords: their places among the parameters -/
def dCallK (F : FnD) (n : Nat) (gS : List S → List S) (ta : TAd) : TEd := fun ρ Q => ta ρ fun ss ρ1 => (gS ss).length = n ∧ F (gS ss) fun s => Q s ρ1
theorem dk_nil : PK X [] (tA L dNil) := pk_nil.less' fun σ H Q' h => by
  obtain ⟨ρ, Q, r, q, fin⟩ := h
  exact fin [] H [] ρ Go.rf r .nil q
theorem dk_cons {te : TEd} {nm : Option Str} {kpos : Pos} (h : PE X e (tE L te)) (hr : PK X kws (tA L tks)) : PK X (⟨nm, e, kpos⟩ :: kws) (tA L (dCons te tks)) := (pk_cons h hr).less' fun σ H Q' h => by
  obtain ⟨ρ, Q, r0, q, fin⟩ := h
  refine ⟨ρ, _, r0, q, fun v H1 s ρ1 k1 r1 hv q1 => ?_⟩
  obtain ⟨f, q2⟩ := q1
  refine ⟨ρ1, _, r1, q2, fun vs H2 ss ρ2 k2 r2 hvs q3 => ?_⟩
  exact fin (v :: vs) H2 (s :: ss) ρ2 (k1.tr k2) r2 (.cons ((fr_of f hv).keep (k2.keep r1)) hvs) q3
/-- how names given bind: a permutation of what is given -/
structure Perm (K : PySem.W.Frag) (fd : FuncData) (ps ks : List Str) (g : List Value → List Value) (gV : List V → List V) (gS : List S → List S) : Prop where
  to : ∀ (s : Shared) (ws : List Value), (g ws).length = ps.length → BindsTo s fd ⟨[], ks.zip ws⟩ (ps.zip (g ws))
  rel : ∀ {zs : List V} {ws : List Value}, Vals zs ws → Vals (gV zs) (g ws)
  fr : ∀ {L : Lay} {H : Hp} {zs : List V} {ss : List S}, FRs L H zs ss → FRs L H (gV zs) (gS ss)
theorem g_kw {gV : List V → List V} {g : List Value → List Value} {sp : Sp} {tk : TA} (Fn : FnG X.prog X.w X.K X.mg X.base CX k f fd ps sp) (hr : Room k X.A) (gd : X.A.guards = some []) (hg : Gl X x) (hm : X.mg x = some (.ref f)) (hk : PySem.W.keepIn X.K (.ref f) = true)
    (hto : ∀ (s : Shared) (ws : List Value), (g ws).length = ps.length → BindsTo s fd ⟨[], ks.zip ws⟩ (ps.zip (g ws))) (hrel : ∀ {zs : List V} {ws : List Value}, Vals zs ws → Vals (gV zs) (g ws)) (hx : Passes CX X E) (hkw : PK X kws tk) (hall : (backToKw pos (keywordEach kws X.env)).all (·.1.isSome) = true := by rfl)
    (hks : (backToKw pos (keywordEach kws X.env)).filterMap (·.1) = ks := by rfl) (hdb : (x == ("__debug__" : Str)) = false := by decide)
    (hpl : ((backTo pos (starEach [] X.env)).any (·.1) || (backToKw pos (keywordEach kws X.env)).any (·.1.isNone)) = false := by rfl) :
    PE X (.Call (.Name x p) [] kws pos) fun σ H Q => tk σ H fun zs H2 => sp (gV zs) H2 Q E := by
  constructor
  intro pins s σ H Q I h
  refine wpAny_Call_Name_kw (ld_glob I hg hm ?_ hdb)
  refine PySem.W.callWith_KW0 (h₀ := X.base) I.ok.mod.kin hk hall (thn (hkw.run pos pins s σ H _ I h) fun ws s2 z => ?_) hpl
  obtain ⟨zs, H2, I2, rz, q⟩ := z
  refine ⟨I2.kIn, ?_⟩
  rw [hks]
  have r2 := hrel rz
  have hl : (g ws).length = ps.length := by rw [← r2.length]; exact Fn.arity _ _ _ _ q
  refine wpAny_call (codeAny_mono (Fn.go X.A X.stack s2 H2 ⟨[], ks.zip ws⟩ (g ws) (gV zs) Q E gd hr I2.env0 (hto s2 ws hl) r2 q) fun r3 s' hq => ?_)
  match r3, hq with
  | .error e, hq => exact hx pins σ H2 s2 e s' I2 hq
  | .ok (.ret u), hq => exact I2.after hq
  | .ok .next, hq => exact False.elim hq
  | .ok .brk, hq => exact False.elim hq
  | .ok .cont, hq => exact False.elim hq
theorem de_callK {gV : List V → List V} {g : List Value → List Value} {gS : List S → List S} (hK : L.K = X.K) (Fn : FnG X.prog X.w X.K X.mg X.base CX k f fd ps (spD X.K L.J ps.length F)) (hr : Room k X.A) (gd : Good X) (hg : Gl X x) (hm : X.mg x = some (.ref f)) (hk : PySem.W.keepIn X.K (.ref f) = true)
    (hb : Perm X.K fd ps ks g gV gS) (hx : Passes CX X E) (hkw : PK X kws (tA L tks)) (hall : (backToKw pos (keywordEach kws X.env)).all (·.1.isSome) = true := by rfl)
    (hks : (backToKw pos (keywordEach kws X.env)).filterMap (·.1) = ks := by rfl) (hdb : (x == ("__debug__" : Str)) = false := by decide)
    (hpl : ((backTo pos (starEach [] X.env)).any (·.1) || (backToKw pos (keywordEach kws X.env)).any (·.1.isNone)) = false := by rfl) :
    PE X (.Call (.Name x p) [] kws pos) (tE L (dCallK F ps.length gS tks)) :=
  (g_kw Fn hr gd.gd hg hm hk hb.to hb.rel hx hkw hall hks hdb hpl).less fun σ H Q' h => by
    obtain ⟨ρ, Q, r, q, fin⟩ := h
    refine ⟨ρ, _, r, q, fun vs H1 ss ρ1 go r1 hv q1 => ?_⟩
    refine ⟨gS ss, _, ?_, q1.1, q1.2, fun v H2 s sm rr q2 => fin v H2 s ρ1 (go.tr (Go.sm sm)) (r1.go sm) (rr_vr r1 go (by rw [hK]; exact rr)) q2⟩
    rw [← hK]; exact hb.fr hv.lay
end
theorem brA_start {L : Lay} {H : Hp} : ∀ {vs : List V} {ss : List S} {n : Nat}, FRs L H vs ss → L.H0 = H → Rel L H (vs.map some ++ List.replicate n none) (ss ++ List.replicate n S.un) := by
  intro vs ss n h h0
  have hl := h.len
  have nown : ∀ {vs : List V} {ss : List S}, FRs L H vs ss → ∀ (i : Nat) (s : S), ss[i]? = some s → ∃ v, vs[i]? = some v ∧ FR L H v s := by
    intro vs ss h
    induction h with
    | nil => intro i s e; simp at e
    | @cons v vs s ss h1 h2 ih =>
      intro i s' e
      cases i with
      | zero => simp at e; subst e; exact ⟨v, rfl, h1⟩
      | succ i => simp at e ⊢; exact ih i s' e
  have at0 : ∀ (i : Nat) (s : S), (ss ++ List.replicate n S.un)[i]? = some s → s = .un ∨ ∃ v, vs[i]? = some v ∧ FR L H v s := fun i s e => by
    by_cases hi : i < ss.length
    · rw [List.getElem?_append_left hi] at e
      exact .inr (nown h i s e)
    · rw [List.getElem?_append_right (by omega), List.getElem?_replicate] at e
      split at e
      · cases e; exact .inl rfl
      · cases e
  refine ⟨by simp [hl], fun i s e => ?_, fun i j xs ys e1 _ _ => ?_, by rw [h0]; exact Same.refl H⟩
  · rcases at0 i s e with rfl | ⟨v, hv, fr⟩
    · trivial
    · have hi : i < vs.length := (List.getElem?_eq_some_iff.mp hv).1
      have eq : ((vs.map some ++ List.replicate n none)[i]?).getD none = some v := by
        rw [List.getElem?_append_left (by simpa using hi), List.getElem?_map, hv]; rfl
      rw [eq]
      cases s with
      | un => trivial
      | d x => exact ⟨v, rfl, fr⟩
      | ow xs => exact fr.elim
      | ob t => obtain ⟨a, rfl, q⟩ := fr; exact ⟨a, rfl, q⟩
  · rcases at0 i _ e1 with q | ⟨v, _, fr⟩
    · cases q
    · exact fr.elim
section
variable {P : Program} {w : World} {K : PySem.W.Frag} {mg : Str → Option Value} {base : Heap} {J : Jar}
theorem good_of {CX : CXT} {N : List Str} {qual : Str} {scope : Scope} {f : Addr} {cdv : Value} {A : Around} {outer : List Env} {s : Shared} {H : Hp} {E : XK} {k : Nat} (hs : ∃ o, base.get? sysModules = some o) (nd : N.Nodup) (hg : A.guards = some [])
    (hr : Room k (A.deeper (envOfC qual scope s.heap.objs.size f cdv))) : Good (cxOf CX P w K mg base N qual scope f cdv A outer s H E).nox := ⟨rfl, hg, hs, by have := hr.un; show (A.deeper (envOfC qual scope s.heap.objs.size f cdv)).units + 200 < cLine; omega, nd⟩
/-- a def that lets no exception out -/
theorem fn_ok {f : Addr} {fd : FuncData} {x qual : Str} {st : Stmt} {N ps : List Str} {k : Nat} {F : FnD} {t : TSd} (Fn : Fun K x qual st f fd) (S0 : FnScope N ps (defScope st)) (hs : ∃ o, base.get? sysModules = some o)
    (body : ∀ (cdv : Value) (A : Around) (outer : List Env) (s : Shared) (H : Hp) (E : XK), A.guards = some [] → Room k (A.deeper (envOfC qual (defScope st) s.heap.objs.size f cdv)) → Good (cxOf CX0 P w K mg base N qual (defScope st) f cdv A outer s H E).nox →
      PSs (cxOf CX0 P w K mg base N qual (defScope st) f cdv A outer s H E).nox (defBody st) (tS (lay K J H) t))
    (math : ∀ ss R, ss.length = ps.length → F ss R → t { nx := fun _ => R (.d .none), rt := R } (ss ++ List.replicate (N.length - ps.length) .un)) :
    FnG P w K mg base CX0 (k + 1) f fd ps (spD K J ps.length F) := by
  refine fng_nox Fn S0 (fun vs H Q E h => ?_) fun cdv A outer s H vs Q E hg hr h => ?_
  · obtain ⟨ss, R, fr, hl, _⟩ := h
    rw [fr.len, hl]
  · obtain ⟨ss, R, fr, hl, hF, fin⟩ := h
    refine ⟨_, body cdv A outer s H E hg hr (good_of hs S0.nd hg hr), ss ++ List.replicate (N.length - ps.length) .un, { nx := fun _ => R (.d .none), rt := R }, ?_, math ss R hl hF, fun σ' H' ρ' k r n => ?_, fun v H' s k sm rr n => fin v H' s sm rr n, fun _ _ _ _ _ n => n, fun _ _ _ _ _ n => n⟩
    · have hv := fr.len
      unfold L2.start
      rw [hv, hl]
      exact brA_start fr rfl
    · exact fin .non H' (.d .none) r.same .non n
end
end GB

namespace GB
open PySem PySem.Spec PyProof.Rows L2

/-! targets -/
abbrev DTG := PyData → En → (En → Prop) → Prop
abbrev DTGs := List PyData → En → (En → Prop) → Prop
def tG (L : Lay) (g : DTG) : TG := fun v σ H Q' => ∃ ρ d Q, Rel L H σ ρ ∧ Br L.K H v d ∧ g d ρ Q ∧ ∀ σ' ρ', Rel L H σ' ρ' → Q ρ' → Q' σ' H
def tGs (L : Lay) (g : DTGs) : TGs := fun vs σ H Q' => ∃ ρ ds Q, Rel L H σ ρ ∧ BrA L.K H vs ds ∧ g ds ρ Q ∧ ∀ σ' ρ', Rel L H σ' ρ' → Q ρ' → Q' σ' H
def dgName (i : Nat) : DTG := fun d ρ Q => Q (ρ.set i (.d d))
def dgNil : DTGs := fun ds ρ Q => ds = [] ∧ Q ρ
def dgCons (g : DTG) (gs : DTGs) : DTGs := fun ds ρ Q => ∃ d r, ds = d :: r ∧ g d ρ fun ρ1 => gs r ρ1 Q
def dgTup (n : Nat) (gs : DTGs) : DTG := fun d ρ Q => ∃ ds, d = .tuple ds ∧ ds.length = n ∧ gs ds ρ Q
theorem _root_.L2.PG.less {X : Cx} {e : Expr} {t t2 : TG} (h : PG X e t) (w : ∀ v σ H Q, t2 v σ H Q → t v σ H Q) : PG X e t2 := ⟨fun pins s σ H v u Q I r q => h.run pins s σ H v u Q I r (w _ _ _ _ q)⟩
theorem _root_.L2.PGs.less {X : Cx} {e : List Expr} {t t2 : TGs} (h : PGs X e t) (w : ∀ v σ H Q, t2 v σ H Q → t v σ H Q) : PGs X e t2 := ⟨fun pins s σ H v u Q I r q => h.run pins s σ H v u Q I r (w _ _ _ _ q)⟩
section
variable {X : Cx} {L : Lay} {pos : Pos} {e : Expr} {es : List Expr} {g : DTG} {gs : DTGs}
theorem dg_name {i : Nat} {x : Str} (gd : Good X) (hi : X.N[i]? = some x) (hx : Loc X.env.scope x) (hf : X.fn x = true ∨ X.env.scope.names.lookup x = some .local := by first | exact .inl rfl | exact .inr rfl | assumption) : PG X (.Name x pos) (tG L (dgName i)) :=
  (pg_name gd.nd hi hx hf).less fun v σ H Q' h => by
    obtain ⟨ρ, d, Q, r, b, q, fin⟩ := h
    exact fin _ _ (r.setF (s := .d d) b) q
theorem dgs_nil : PGs X [] (tGs L dgNil) := pgs_nil.less fun vs σ H Q' h => by
  obtain ⟨ρ, ds, Q, r, b, ⟨rfl, q⟩, fin⟩ := h
  cases b
  exact ⟨rfl, fin _ _ r q⟩
theorem dgs_cons (h : PG X e (tG L g)) (h2 : PGs X es (tGs L gs)) (hs : (assignEach (e :: es) X.env).map (·.2) = assign e X.env :: (assignEach es X.env).map (·.2) := by rfl) : PGs X (e :: es) (tGs L (dgCons g gs)) := (pgs_cons h h2 hs).less fun vs σ H Q' h => by
  obtain ⟨ρ, ds, Q, r, b, ⟨d, rs, rfl, q⟩, fin⟩ := h
  cases b with
  | cons b1 b2 => exact ⟨_, _, rfl, ρ, d, _, r, b1, q, fun σ' ρ' r' n => ⟨ρ', rs, Q, r', b2, n, fin⟩⟩
theorem dg_tup {k : Nat} {n : Nat} (gd : Good X) (hK : L.K = X.K) (h : PGs X es (tGs L gs)) (hn : (assignEach es X.env).length = n := by rfl) (hst : (assignEach es X.env).findIdx? (·.1) = none := by rfl) : PG X (.Tuple es k pos) (tG L (dgTup n gs)) := (pg_tup gd.calm h hn hst).less fun v σ H Q' h => by
  obtain ⟨ρ, d, Q, r, b, ⟨ds, rfl, hl, q⟩, fin⟩ := h
  cases b with
  | tup h1 h2 =>
    rw [hK] at h1
    exact ⟨_, _, rfl, h1, by rw [h2.len]; exact hl, ρ, ds, Q, r, by rw [hK] at h2 ⊢; exact h2, q, fin⟩
end
end GB

namespace GB
open PySem PySem.Spec PyProof.Rows L2

set_option maxHeartbeats 1000000 in
theorem meets_enum_one {v : Value} {o : Obj} {H : Heap → Prop} (B : Begins v o H) :
    Meets (Builtin.«enumerate.__new__» ⟨[.type "enumerate", v], []⟩) (fun _ R s => H s.heap ∧
      R (.ok (.ret (.ref (s.heap.push o).objs.size))) { s with heap := (s.heap.push o).push { cls := .type "enumerate", data := .fields #[.none, .bool false, .ref s.heap.objs.size, rawInt 0, .none, .none] } }) :=
  .of_wp fun prog w A R s h => by
    obtain ⟨hp, g, d, tk, os⟩ := s
    obtain ⟨h1, h⟩ := h
    have hsub := sub_enumerate
    have q1 : ∀ {A' : Around} {E : Value → Shared → Prop} {Q : Value → Shared → Prop}, Q (.ref hp.objs.size) ⟨hp.push o, g, d, tk, os⟩ → wpAny (model prog w) A' (pyIter v) Q E ⟨hp, g, d, tk, os⟩ := fun q => B.iter prog w _ _ ⟨hp, g, d, tk, os⟩ _ h1 q
    wp_walk using q1
    refine wpAny_stack_any fun st => wpAny_pure ?_
    split
    · rename_i c _ _ _ _ _
      cases (c == Value.type "enumerate")
      · wp_walk using q1
        exact ⟨_, rfl, h⟩
      · wp_walk using q1
        exact ⟨_, rfl, h⟩
    · wp_walk using q1
      exact ⟨_, rfl, h⟩
theorem call_enum_one {prog : Program} {w : World} {A : Around} {E : Value → Shared → Prop} {s : Shared} {v : Value} {o : Obj} {H : Heap → Prop} {Q : Value → Shared → Prop} (B : Begins v o H) (h1 : H s.heap)
    (h : ∀ h', IsEnum h' (s.heap.objs.size + 1) s.heap.objs.size 0 .none → h'.get? s.heap.objs.size = some o → (∀ b o', s.heap.get? b = some o' → h'.get? b = some o') → Q (.ref (s.heap.objs.size + 1)) { s with heap := h' }) :
    wpAny (model prog w) A (call (.type "enumerate") [v]) Q E s := by
  refine callType_new F.called_enumerate (by decide) (F.typeCall_enumerate_1 _) (F.newCall_enumerate_1 _) (fun obj => F.args_object_init_2 obj _) F.entry_enumerate_new (meets_enum_one B) ⟨h1, ?_⟩
  have hz : (s.heap.push o).objs.size = s.heap.objs.size + 1 := Heap.size_push ..
  show _ ∧ _
  rw [hz]
  have he : IsEnum ((s.heap.push o).push { cls := .type "enumerate", data := .fields #[.none, .bool false, .ref s.heap.objs.size, rawInt 0, .none, .none] }) (s.heap.objs.size + 1) s.heap.objs.size 0 .none := by
    have q := Heap.get?_push_size (s.heap.push o) (o := { cls := .type "enumerate", data := .fields #[.none, .bool false, .ref s.heap.objs.size, rawInt 0, .none, .none] }) rfl
    rw [hz] at q; exact q
  exact ⟨⟨_, he, rfl⟩, h _ he (Heap.get?_push_of_some _ (Heap.get?_push_size _ B.free)) fun b o' x => Heap.get?_push_of_some _ (Heap.get?_push_of_some _ x)⟩

/-- the tuple at a, each item in a new pair with its place -/
def IteT (K : PySem.W.Frag) (a : Addr) : It where
  go := fun i H => ∃ (xs : List V) (x : V), SqT K H a xs ∧ xs[i]? = some x
  yld := fun i H v H' => ∃ T us x, v = .ref T ∧ H T = none ∧ H' = upd H T (frT us [.int (i : Nat), x]) ∧ ∀ xs, SqT K H a xs → xs[i]? = some x
  stop := fun i H => ∃ xs : List V, SqT K H a xs ∧ xs.length ≤ i
theorem turn_enumT {P : Program} {w : World} {K : PySem.W.Frag} {elts : List Expr} {kk : Nat} {tpos : Pos} (a e it : Addr) :
    Turn P w K (.Tuple elts kk tpos) (IteT K a) [e, it] e (fun i h => (∃ old, IsEnum h e it ((i : Nat) : Int) old) ∧ h.IsTupleIter it a i ∧ e ≠ it) where
  mem := List.mem_cons_self
  obj := fun i h st b hb => by
    obtain ⟨⟨old, he⟩, ⟨o, ho, hc, hd⟩, _⟩ := st
    rcases List.mem_cons.mp hb with z | z
    · rw [z]; exact ⟨_, he, fun v q => nomatch q⟩
    · rw [List.mem_singleton.mp z]; exact ⟨o, ho, fun v q => by rw [hd] at q; cases q⟩
  keep := fun i h h' st k => let ⟨⟨old, he⟩, hi, hne⟩ := st; ⟨⟨old, k e (by simp) _ he⟩, hi.at fun o q => k it (by simp) o q, hne⟩
  item := by
    intro X hP hw hK hc i pins s σ H E I hf st hg
    subst hP hw hK
    obtain ⟨⟨old, he⟩, hit, hne⟩ := st
    obtain ⟨xs, x, hq, hx⟩ := hg
    obtain ⟨its, rv, p, hz⟩ := I.tuple hq
    obtain ⟨u, hu, ru⟩ := rv.get hx
    have hel : e < s.heap.objs.size := Heap.lt_size he
    have hil : it < s.heap.objs.size := by obtain ⟨_, q, _⟩ := hit; exact Heap.lt_size q
    have pa : s.heap.IsTuple a its.toArray := p
    have hai : a ≠ it := fun z => by
      obtain ⟨o1, e1, c1, _⟩ := p
      obtain ⟨o2, e2, c2, _⟩ := hit
      rw [z, e2] at e1; cases e1
      rw [c2] at c1; simp at c1
    have hae : a ≠ e := fun z => by
      obtain ⟨o1, e1, c1, _⟩ := p
      rw [z, he] at e1; cases e1
      simp at c1
    have D := Draws.tuple (prog := X.prog) (w := X.w) (A := X.A.in1) (I.ok.hd hc) it a hai its.toArray
    have hlt : i < its.toArray.size := by
      have := (List.getElem?_eq_some_iff.mp hu).1
      simpa using this
    refine wpAny_pyNext_enum_itemD D he ⟨hit, pa⟩ hlt hne (by simp [hne, hae.symm]) fun x' h' tk px ho st' hT hsz hk => ?_
    have ex : x' = u := by
      have : its.toArray[i]? = some u := by simpa using hu
      rw [this] at px; exact (Option.some.inj px).symm
    subst ex
    refine ⟨_, rfl, wpAny_letOwnedTupleGo_enum (s := { s with heap := h', toks := tk + 1 }) ho fun h'' he' sb => ?_⟩
    have hT2 : h''.get? s.heap.objs.size = some { cls := .type "tuple", data := .seq #[.int i tk, x'] } := (sb.2 _ (Nat.ne_of_gt hel)).trans hT
    have new : ObjOk X.prog X.w (upd H s.heap.objs.size (frT [.int i tk, x'] [.int (i : Nat), x])) h'' s.heap.objs.size (frT [.int i tk, x'] [.int (i : Nat), x]) := ok_frT hT2 (by show 2 ≤ sizeLine; decide) (.cons ⟨_, rfl⟩ (.cons ru .nil))
    have I1 : Inv X pins σ (upd H s.heap.objs.size (frT [.int i tk, x'] [.int (i : Nat), x])) { s with heap := h'', toks := tk + 1 } :=
      I.turnedNew (ch := [e, it]) (fun b ob hb q => (sb.2 b (fun z => hb (by simp [z]))).trans (hk b ob (fun z => hb (by simp [z])) (fun z => hb (by simp [z])) q)) hf (Nat.le_refl _) new
    refine ⟨.ref s.heap.objs.size, _, I1, rfl, ⟨_, _, x, rfl, I.hok.fresh (Nat.le_refl _), rfl, fun ys hy => by rw [I.tuple_inj hy hq]; exact hx⟩, ⟨⟨x', ?_⟩, st'.1.at fun o q => (sb.2 it (Ne.symm hne)).trans q, hne⟩, fun b hb => ?_⟩
    · have e1 : ((i + 1 : Nat) : Int) = (i : Int) + 1 := by omega
      rw [e1]; exact he'
    · have hb' : b < s.heap.objs.size := by
        rcases List.mem_cons.mp hb with z | z
        · rw [z]; exact hel
        · rw [List.mem_singleton.mp z]; exact hil
      rw [upd_ne (Nat.ne_of_lt hb')]
      exact (hf b hb).1
  done := by
    intro X hP hw hK hc i pins s σ H E I hf st hg
    subst hP hw hK
    obtain ⟨⟨old, he⟩, hit, hne⟩ := st
    obtain ⟨xs, hq, hx⟩ := hg
    obtain ⟨its, rv, p, hz⟩ := I.tuple hq
    obtain ⟨f0, f1, f2, f3, f4, f5⟩ := hf it (by simp)
    have pa : s.heap.IsTuple a its.toArray := p
    have hai : a ≠ it := fun z => by
      obtain ⟨o1, e1, c1, _⟩ := p
      obtain ⟨o2, e2, c2, _⟩ := hit
      rw [z, e2] at e1; cases e1
      rw [c2] at c1; simp at c1
    have hl := rv.length
    have hT : s.TypeIs (.ref e) "enumerate" := ⟨_, he, rfl⟩
    unfold pyNext
    refine wpAny_bind (wpAny_attempt (wpAny_callSpecial?_slot (name := Str.ofString "__next__") hT F.slot_enumerate_next (wpAny_call_entry F.slot_enumerate_next hT F.entry_enumerate_next ?_ (F.args_enumerate_next_1 _))))
    show wpAny _ _ (field (.ref e) 2 >>= _) _ _ _
    refine wpAny_bind (wpAny_field he rfl (x := .ref it) rfl ?_)
    refine wpAny_bind (wpAny_nextOf_tuple_end (I.ok.hd hc) hit pa (by simp; omega) fun h' x he' hx' => ?_)
    obtain ⟨o, ho, hc'⟩ := hx'
    refine wpAny_bind (wpAny_isInstance (T := "StopIteration") (b := true) ⟨o, ho, hc'⟩ isSubtype_stop ?_)
    exact wpAny_pure ⟨rfl, I.turned (t' := s.toks) (fun b o hb q => he' b o hb q) f0 f1 f3 f4 f5⟩
  self := fun A i s Q E st h => let ⟨⟨_, he⟩, _⟩ := st; wpAny_pyIter_enum he h
end GB

set_option maxRecDepth 100000
/-! enumerate and zip: each pair lies there for good -/
namespace GB
open PySem PySem.Spec PyProof.Rows L2 RZ
def IteF (K : PySem.W.Frag) (a : Addr) : It where
  go := fun i H => ∃ (xs : List V) (x : V), SqL K H a xs ∧ xs[i]? = some x
  yld := fun i H v H' => ∃ T us x, v = .ref T ∧ H T = none ∧ H' = upd H T (frT us [.int (i : Nat), x]) ∧ ∀ xs, SqL K H a xs → xs[i]? = some x
  stop := fun i H => ∃ xs : List V, SqL K H a xs ∧ xs.length ≤ i
def ItzF (K : PySem.W.Frag) (a b : Addr) : It where
  go := fun i H => ∃ (xs ys : List V) (x y : V), SqL K H a xs ∧ SqL K H b ys ∧ xs[i]? = some x ∧ ys[i]? = some y
  yld := fun i H v H' => ∃ T us x y, v = .ref T ∧ H T = none ∧ H' = upd H T (frT us [x, y]) ∧ (∀ xs, SqL K H a xs → xs[i]? = some x) ∧ ∀ ys, SqL K H b ys → ys[i]? = some y
  stop := fun i H => ∃ xs ys : List V, SqL K H a xs ∧ SqL K H b ys ∧ (xs.length ≤ i ∨ ys.length ≤ i)
def ItzFT (K : PySem.W.Frag) (a b : Addr) : It where
  go := fun i H => ∃ (xs ys : List V) (x y : V), SqT K H a xs ∧ SqT K H b ys ∧ xs[i]? = some x ∧ ys[i]? = some y
  yld := fun i H v H' => ∃ T us x y, v = .ref T ∧ H T = none ∧ H' = upd H T (frT us [x, y]) ∧ (∀ xs, SqT K H a xs → xs[i]? = some x) ∧ ∀ ys, SqT K H b ys → ys[i]? = some y
  stop := fun i H => ∃ xs ys : List V, SqT K H a xs ∧ SqT K H b ys ∧ (xs.length ≤ i ∨ ys.length ≤ i)
/-- what is handed out: a new pair -/
def YPairF (f g : Nat → Option V) : Nat → Hp → V → Hp → Prop := fun i H v H' => ∃ T us x y, v = .ref T ∧ H T = none ∧ H' = upd H T (frT us [x, y]) ∧ f i = some x ∧ g i = some y
theorem turn_enF {P : Program} {w : World} {K : PySem.W.Frag} {elts : List Expr} {kk : Nat} {tpos : Pos} (a e it : Addr) :
    Turn P w K (.Tuple elts kk tpos) (IteF K a) [e, it] e (fun i h => (∃ ol, IsEnum h e it ((i : Nat) : Int) ol) ∧ h.IsListIter it a i ∧ e ≠ it) where
  mem := by simp
  obj := fun i h sx b mb => by
    obtain ⟨⟨ol, ee⟩, ⟨o, eo, cc, hd⟩, _⟩ := sx
    have e' : b = e ∨ b = it := by simpa using mb
    rcases e' with z | z
    · rw [z]; exact ⟨_, ee, fun v q => nomatch q⟩
    · rw [z]; exact ⟨o, eo, fun v q => by rw [hd] at q; cases q⟩
  keep := fun i h h' sx k => let ⟨⟨ol, ee⟩, hi, ne⟩ := sx; ⟨⟨ol, k e (by simp) _ ee⟩, hi.at fun o q => k it (by simp) o q, ne⟩
  item := by
    intro X pP pw pK cc i pins s σ H E I ff sx gg
    subst pP pw pK
    obtain ⟨⟨ol, ee⟩, ti, ne⟩ := sx
    obtain ⟨xs, x, qx, fx⟩ := gg
    obtain ⟨ia, va, pa, ez⟩ := I.list qx
    obtain ⟨ua, ga, ra⟩ := va.get fx
    have le : e < s.heap.objs.size := Heap.lt_size ee
    have li : it < s.heap.objs.size := by obtain ⟨_, q, _⟩ := ti; exact Heap.lt_size q
    refine wpAny_pyNext_enum_item ee ti pa.isList (x := ua) (by simpa using ga) ne fun h' eo ti' nT sz kp => ?_
    refine ⟨_, rfl, wpAny_letOwnedTupleGo_enum (s := { s with heap := h', toks := s.toks + 1 }) eo fun h'' ee' ub => ?_⟩
    have nT2 : h''.get? s.heap.objs.size = some { cls := .type "tuple", data := .seq #[.int i s.toks, ua] } := (ub.2 _ (Nat.ne_of_gt le)).trans nT
    have okn : ObjOk X.prog X.w (upd H s.heap.objs.size (frT [.int i s.toks, ua] [.int (i : Nat), x])) h'' s.heap.objs.size (frT [.int i s.toks, ua] [.int (i : Nat), x]) :=
      ok_frT nT2 (by show 2 ≤ sizeLine; decide) (.cons ⟨_, rfl⟩ (.cons ra .nil))
    have J1 : Inv X pins σ (upd H s.heap.objs.size (frT [.int i s.toks, ua] [.int (i : Nat), x])) { s with heap := h'', toks := s.toks + 1 } :=
      I.turnedNew (ch := [e, it]) (fun b ob mb q => (ub.2 b (fun z => mb (by simp [z]))).trans (kp b ob (fun z => mb (by simp [z])) (fun z => mb (by simp [z])) q)) ff (Nat.le_refl _) okn
    refine ⟨.ref s.heap.objs.size, _, J1, rfl, ⟨_, _, x, rfl, I.hok.fresh (Nat.le_refl _), rfl, fun ws fy => by rw [I.list_inj fy qx]; exact fx⟩, ⟨⟨ua, ?_⟩, ti'.at fun o q => (ub.2 it (Ne.symm ne)).trans q, ne⟩, fun b mb => ?_⟩
    · have d1 : ((i + 1 : Nat) : Int) = (i : Int) + 1 := by omega
      rw [d1]; exact ee'
    · have mb' : b < s.heap.objs.size := by
        have e' : b = e ∨ b = it := by simpa using mb
        rcases e' with z | z
        · rw [z]; exact le
        · rw [z]; exact li
      rw [upd_ne (Nat.ne_of_lt mb')]
      exact (ff b mb).1
  done := by
    intro X pP pw pK cc i pins s σ H E I ff sx gg
    subst pP pw pK
    obtain ⟨⟨ol, ee⟩, ti, ne⟩ := sx
    obtain ⟨xs, qx, fx⟩ := gg
    obtain ⟨ia, va, pa, ez⟩ := I.list qx
    obtain ⟨f0, f1, f2, f3, f4, f5⟩ := ff it (by simp)
    have ln := va.length
    exact wpAny_pyNext_enum_end (I.ok.hd cc) ee ti pa.isList (by simp; omega) fun h' eb => ⟨rfl, I.turned (t' := s.toks) (fun b o mb q => eb b o mb q) f0 f1 f3 f4 f5⟩
  self := fun A i s Q E sx h => let ⟨⟨_, ee⟩, _⟩ := sx; wpAny_pyIter_enum ee h
theorem turn_zF {P : Program} {w : World} {K : PySem.W.Frag} {elts : List Expr} {kk : Nat} {tpos : Pos} {a b z TI TO i1 i2 : Addr} (D : ZipApart z TI TO i1 i2 a b) :
    Turn P w K (.Tuple elts kk tpos) (ItzF K a b) [z, TI, TO, i1, i2] z (fun i h => IsZip h z TI TO .none ∧ IsPair h TI (.ref i1) (.ref i2) ∧ (∃ x y, IsPair h TO x y) ∧ h.IsListIter i1 a i ∧ h.IsListIter i2 b i) where
  mem := by simp
  obj := fun i h sx c cc => by
    obtain ⟨ez, eTI, ⟨x, y, eTO⟩, ⟨o1, c1, _, d1⟩, ⟨o2, e2, _, d2⟩⟩ := sx
    have e' : c = z ∨ c = TI ∨ c = TO ∨ c = i1 ∨ c = i2 := by simpa using cc
    rcases e' with q | q | q | q | q
    · rw [q]; exact ⟨_, ez, fun v q => nomatch q⟩
    · rw [q]; exact ⟨_, eTI, fun v q => nomatch q⟩
    · rw [q]; exact ⟨_, eTO, fun v q => nomatch q⟩
    · rw [q]; exact ⟨o1, c1, fun v q => by rw [d1] at q; cases q⟩
    · rw [q]; exact ⟨o2, e2, fun v q => by rw [d2] at q; cases q⟩
  keep := fun i h h' sx k => by
    obtain ⟨ez, eTI, ⟨x, y, eTO⟩, k1, k2⟩ := sx
    exact ⟨k z (by simp) _ ez, k TI (by simp) _ eTI, ⟨x, y, k TO (by simp) _ eTO⟩, k1.at fun o q => k i1 (by simp) o q, k2.at fun o q => k i2 (by simp) o q⟩
  item := by
    intro X pP pw pK cc i pins s σ H E I ff sx gg
    subst pP pw pK
    obtain ⟨ez, eTI, ⟨x9, y9, eTO⟩, k1, k2⟩ := sx
    obtain ⟨xs, ws, x, y, gx, gy, fx, fy⟩ := gg
    obtain ⟨ia, va, pa, _⟩ := I.list gx
    obtain ⟨ib, vb, pb, _⟩ := I.list gy
    obtain ⟨ua, ga, ra⟩ := va.get fx
    obtain ⟨ub2, gb, rb⟩ := vb.get fy
    have zl : z < s.heap.objs.size := Heap.lt_size ez
    refine wpAny_pyNext_zip_item D ez eTI eTO k1 k2 pa.isList pb.isList (x := ua) (y := ub2) (by simpa using ga) (by simpa using gb) fun h' z' TO' k1' k2' nT sz kp => ?_
    refine ⟨_, rfl, wpAny_letOwnedTupleGo_zip (s := { s with heap := h' }) z' fun h'' z'' ub => ?_⟩
    have nT2 : h''.get? s.heap.objs.size = some { cls := .type "tuple", data := .seq #[ua, ub2] } := (ub.2 _ (Nat.ne_of_gt zl)).trans nT
    have okn : ObjOk X.prog X.w (upd H s.heap.objs.size (frT [ua, ub2] [x, y])) h'' s.heap.objs.size (frT [ua, ub2] [x, y]) := ok_frT nT2 (by show 2 ≤ sizeLine; decide) (.cons ra (.cons rb .nil))
    have J1 : Inv X pins σ (upd H s.heap.objs.size (frT [ua, ub2] [x, y])) { s with heap := h'' } :=
      I.turnedNew (t' := s.toks) (ch := [z, TI, TO, i1, i2]) (fun c o mb q => (ub.2 c (fun q' => mb (by simp [q']))).trans (kp c o (fun q' => mb (by simp [q'])) (fun q' => mb (by simp [q'])) (fun q' => mb (by simp [q'])) (fun q' => mb (by simp [q'])) q)) ff (Nat.le_refl _) okn
    refine ⟨.ref s.heap.objs.size, _, J1, rfl, ⟨_, _, x, y, rfl, I.hok.fresh (Nat.le_refl _), rfl, fun l ln => by rw [I.list_inj ln gx]; exact fx, fun l ln => by rw [I.list_inj ln gy]; exact fy⟩, ⟨z'', ?_, ⟨ua, ub2, ?_⟩, ?_, ?_⟩, fun c cm => ?_⟩
    · exact (ub.2 _ D.TIz).trans (kp _ _ D.TIz D.TITO D.TIi1 D.TIi2 eTI)
    · exact (ub.2 _ D.TOz).trans TO'
    · exact k1'.at fun o q => (ub.2 _ D.i1z).trans q
    · exact k2'.at fun o q => (ub.2 _ D.i2z).trans q
    · have lt : c < s.heap.objs.size := by
        have e' : c = z ∨ c = TI ∨ c = TO ∨ c = i1 ∨ c = i2 := by simpa using cm
        rcases e' with q | q | q | q | q
        · rw [q]; exact zl
        · rw [q]; exact Heap.lt_size eTI
        · rw [q]; exact Heap.lt_size eTO
        · rw [q]; obtain ⟨_, d1, _⟩ := k1; exact Heap.lt_size d1
        · rw [q]; obtain ⟨_, e2, _⟩ := k2; exact Heap.lt_size e2
      rw [upd_ne (Nat.ne_of_lt lt)]
      exact (ff c cm).1
  done := by
    intro X pP pw pK cc i pins s σ H E I ff sx gg
    subst pP pw pK
    obtain ⟨ez, eTI, ⟨x9, y9, eTO⟩, k1, k2⟩ := sx
    obtain ⟨xs, ws, gx, gy, en⟩ := gg
    obtain ⟨ia, va, pa, _⟩ := I.list gx
    obtain ⟨ib, vb, pb, _⟩ := I.list gy
    have n1 := va.length
    have n2 := vb.length
    have ee : ia.toArray[i]? = none ∨ ib.toArray[i]? = none := by
      rcases en with q | q
      · exact .inl (by simp; omega)
      · exact .inr (by simp; omega)
    exact wpAny_pyNext_zip_end (I.ok.hd cc) D ez eTI eTO k1 k2 pa.isList pb.isList ee fun h' kp => ⟨rfl, I.turnedL (t' := s.toks) (ch := [z, TI, TO, i1, i2]) (fun c o mb q =>
      kp c o (fun q' => mb (by simp [q'])) (fun q' => mb (by simp [q'])) (fun q' => mb (by simp [q'])) (fun q' => mb (by simp [q'])) q) ff⟩
  self := fun A i s Q E sx h => wpAny_pyIter_zip sx.1 h
theorem turn_zFT {P : Program} {w : World} {K : PySem.W.Frag} {elts : List Expr} {kk : Nat} {tpos : Pos} {a b z TI TO i1 i2 : Addr} (D : ZipApart z TI TO i1 i2 a b) :
    Turn P w K (.Tuple elts kk tpos) (ItzFT K a b) [z, TI, TO, i1, i2] z (fun i h => IsZip h z TI TO .none ∧ IsPair h TI (.ref i1) (.ref i2) ∧ (∃ x y, IsPair h TO x y) ∧ h.IsTupleIter i1 a i ∧ h.IsTupleIter i2 b i) where
  mem := by simp
  obj := fun i h sx c cc => by
    obtain ⟨ez, eTI, ⟨x, y, eTO⟩, ⟨o1, c1, _, d1⟩, ⟨o2, e2, _, d2⟩⟩ := sx
    have e' : c = z ∨ c = TI ∨ c = TO ∨ c = i1 ∨ c = i2 := by simpa using cc
    rcases e' with q | q | q | q | q
    · rw [q]; exact ⟨_, ez, fun v q => nomatch q⟩
    · rw [q]; exact ⟨_, eTI, fun v q => nomatch q⟩
    · rw [q]; exact ⟨_, eTO, fun v q => nomatch q⟩
    · rw [q]; exact ⟨o1, c1, fun v q => by rw [d1] at q; cases q⟩
    · rw [q]; exact ⟨o2, e2, fun v q => by rw [d2] at q; cases q⟩
  keep := fun i h h' sx k => by
    obtain ⟨ez, eTI, ⟨x, y, eTO⟩, k1, k2⟩ := sx
    exact ⟨k z (by simp) _ ez, k TI (by simp) _ eTI, ⟨x, y, k TO (by simp) _ eTO⟩, k1.at fun o q => k i1 (by simp) o q, k2.at fun o q => k i2 (by simp) o q⟩
  item := by
    intro X pP pw pK cc i pins s σ H E I ff sx gg
    subst pP pw pK
    obtain ⟨ez, eTI, ⟨x9, y9, eTO⟩, k1, k2⟩ := sx
    obtain ⟨xs, ws, x, y, gx, gy, fx, fy⟩ := gg
    obtain ⟨ia, va, pa, _⟩ := I.tuple gx
    obtain ⟨ib, vb, pb, _⟩ := I.tuple gy
    obtain ⟨ua, ga, ra⟩ := va.get fx
    obtain ⟨ub2, gb, rb⟩ := vb.get fy
    have zl : z < s.heap.objs.size := Heap.lt_size ez
    refine pyNext_zipT_item D ez eTI eTO k1 k2 pa pb (x := ua) (y := ub2) (by simpa using ga) (by simpa using gb) fun h' z' TO' k1' k2' nT sz kp => ?_
    refine ⟨_, rfl, wpAny_letOwnedTupleGo_zip (s := { s with heap := h' }) z' fun h'' z'' ub => ?_⟩
    have nT2 : h''.get? s.heap.objs.size = some { cls := .type "tuple", data := .seq #[ua, ub2] } := (ub.2 _ (Nat.ne_of_gt zl)).trans nT
    have okn : ObjOk X.prog X.w (upd H s.heap.objs.size (frT [ua, ub2] [x, y])) h'' s.heap.objs.size (frT [ua, ub2] [x, y]) := ok_frT nT2 (by show 2 ≤ sizeLine; decide) (.cons ra (.cons rb .nil))
    have J1 : Inv X pins σ (upd H s.heap.objs.size (frT [ua, ub2] [x, y])) { s with heap := h'' } :=
      I.turnedNew (t' := s.toks) (ch := [z, TI, TO, i1, i2]) (fun c o mb q => (ub.2 c (fun q' => mb (by simp [q']))).trans (kp c o (fun q' => mb (by simp [q'])) (fun q' => mb (by simp [q'])) (fun q' => mb (by simp [q'])) (fun q' => mb (by simp [q'])) q)) ff (Nat.le_refl _) okn
    refine ⟨.ref s.heap.objs.size, _, J1, rfl, ⟨_, _, x, y, rfl, I.hok.fresh (Nat.le_refl _), rfl, fun l ln => by rw [I.tuple_inj ln gx]; exact fx, fun l ln => by rw [I.tuple_inj ln gy]; exact fy⟩, ⟨z'', ?_, ⟨ua, ub2, ?_⟩, ?_, ?_⟩, fun c cm => ?_⟩
    · exact (ub.2 _ D.TIz).trans (kp _ _ D.TIz D.TITO D.TIi1 D.TIi2 eTI)
    · exact (ub.2 _ D.TOz).trans TO'
    · exact k1'.at fun o q => (ub.2 _ D.i1z).trans q
    · exact k2'.at fun o q => (ub.2 _ D.i2z).trans q
    · have lt : c < s.heap.objs.size := by
        have e' : c = z ∨ c = TI ∨ c = TO ∨ c = i1 ∨ c = i2 := by simpa using cm
        rcases e' with q | q | q | q | q
        · rw [q]; exact zl
        · rw [q]; exact Heap.lt_size eTI
        · rw [q]; exact Heap.lt_size eTO
        · rw [q]; obtain ⟨_, d1, _⟩ := k1; exact Heap.lt_size d1
        · rw [q]; obtain ⟨_, e2, _⟩ := k2; exact Heap.lt_size e2
      rw [upd_ne (Nat.ne_of_lt lt)]
      exact (ff c cm).1
  done := by
    intro X pP pw pK cc i pins s σ H E I ff sx gg
    subst pP pw pK
    obtain ⟨ez, eTI, ⟨x9, y9, eTO⟩, k1, k2⟩ := sx
    obtain ⟨xs, ws, gx, gy, en⟩ := gg
    obtain ⟨ia, va, pa, _⟩ := I.tuple gx
    obtain ⟨ib, vb, pb, _⟩ := I.tuple gy
    have n1 := va.length
    have n2 := vb.length
    have ee : ia.toArray[i]? = none ∨ ib.toArray[i]? = none := by
      rcases en with q | q
      · exact .inl (by simp; omega)
      · exact .inr (by simp; omega)
    exact pyNext_zipT_end (I.ok.hd cc) D ez eTI eTO k1 k2 pa pb ee fun h' kp => ⟨rfl, I.turnedL (t' := s.toks) (ch := [z, TI, TO, i1, i2]) (fun c o mb q =>
      kp c o (fun q' => mb (by simp [q'])) (fun q' => mb (by simp [q'])) (fun q' => mb (by simp [q'])) (fun q' => mb (by simp [q'])) q) ff⟩
  self := fun A i s Q E sx h => wpAny_pyIter_zip sx.1 h

def iZF (K : PySem.W.Frag) (ta : TA) : TI := fun σ H R => ta σ H fun vs H1 => ∃ a b xs ys, vs = [.ref a, .ref b] ∧
  ((SqL K H1 a xs ∧ SqL K H1 b ys ∧ R (ItzF K a b) H1) ∨ (SqT K H1 a xs ∧ SqT K H1 b ys ∧ R (ItzFT K a b) H1))
theorem pi_zF {X : Cx} {e e2 : Expr} {ta : TA} {pa pos tpos : Pos} {elts : List Expr} {kk : Nat} (gg : Gl X "zip") (hm : X.mg "zip" = none) (ha : PA X [e, e2] ta)
    (hs : starEach [e, e2] X.env = (false, eval e X.env) :: starEach [e2] X.env := by rfl) (hpl : (backTo pos (starEach [e2] X.env)).any (·.1) = false := by rfl) :
    PI X (.Tuple elts kk tpos) (.Call (.Name "zip" pa) [e, e2] [] pos) (iZF X.K ta) := by
  refine ⟨fun pins s σ H R I h => ?_⟩
  refine Call_ (ld_blt I gg hm PyProof.Rows.boot_zip (PyProof.Rows.callWith_type1 (thn (ha.run pos pins s σ H _ I h) fun us s1 ⟨vs, H1, J1, r1, w1⟩ => ?_) hs hpl))
  obtain ⟨a, b, xs, ws, ex, w1⟩ := w1
  subst ex
  cases r1 with
  | cons rr0 rr =>
    cases rr with
    | cons r' rr =>
      cases rr
      cases rr0
      cases r'
      have fr5 : ∀ c, c ∈ [s1.heap.objs.size + 4, s1.heap.objs.size + 2, s1.heap.objs.size + 3, s1.heap.objs.size, s1.heap.objs.size + 1] → FpOk X pins H1 c := fun c cm => by
        have e' : c = s1.heap.objs.size + 4 ∨ c = s1.heap.objs.size + 2 ∨ c = s1.heap.objs.size + 3 ∨ c = s1.heap.objs.size ∨ c = s1.heap.objs.size + 1 := by simpa using cm
        have hh : s1.heap.objs.size ≤ c := by
          rcases e' with z | z | z | z | z
          · rw [z]; exact Nat.le_add_right _ _
          · rw [z]; exact Nat.le_add_right _ _
          · rw [z]; exact Nat.le_add_right _ _
          · rw [z]; exact Nat.le_refl _
          · rw [z]; exact Nat.le_add_right _ _
        exact J1.fpOk hh (J1.hok.fresh hh)
      rcases w1 with ⟨gx, gy, q⟩ | ⟨gx, gy, q⟩
      · obtain ⟨ia, va, p1, _⟩ := J1.list gx
        obtain ⟨ib, vb, pb, _⟩ := J1.list gy
        refine call_zip_2 p1.isList pb.isList fun h' ez eTI eTO k1 k2 sz kp => wpAny_pyIter_zip ez ?_
        have J2 : Inv X pins σ H1 { s1 with heap := h' } := J1.kept (t' := s1.toks) kp
        exact ⟨s1.heap.objs.size + 4, [s1.heap.objs.size + 4, s1.heap.objs.size + 2, s1.heap.objs.size + 3, s1.heap.objs.size, s1.heap.objs.size + 1], _, _, H1, rfl, J2, turn_zF (PySem.W.ktu_apart s1.heap.objs.size a b p1.lt pb.lt), ⟨ez, eTI, ⟨_, _, eTO⟩, k1, k2⟩, fr5, q⟩
      · obtain ⟨ia, va, p1, _⟩ := J1.tuple gx
        obtain ⟨ib, vb, pb, _⟩ := J1.tuple gy
        obtain ⟨o1, ho1, _⟩ := id p1
        obtain ⟨o2, ho2, _⟩ := id pb
        refine call_zipT (show s1.heap.IsTuple a ia.toArray from p1) (show s1.heap.IsTuple b ib.toArray from pb) fun h' ez eTI eTO k1 k2 sz kp => wpAny_pyIter_zip ez ?_
        have J2 : Inv X pins σ H1 { s1 with heap := h' } := J1.kept (t' := s1.toks) kp
        exact ⟨s1.heap.objs.size + 4, [s1.heap.objs.size + 4, s1.heap.objs.size + 2, s1.heap.objs.size + 3, s1.heap.objs.size, s1.heap.objs.size + 1], _, _, H1, rfl, J2, turn_zFT (PySem.W.ktu_apart s1.heap.objs.size a b (Heap.lt_size ho1) (Heap.lt_size ho2)), ⟨ez, eTI, ⟨_, _, eTO⟩, k1, k2⟩, fr5, q⟩

section
variable {K : PySem.W.Frag} {a b : Addr} {xs ys : List V}
theorem walk_eF : Walk (IteF K a) xs.length (fun H => SqL K H a xs) (YPairF (fun i => some (.int (i : Nat))) (fun i => xs[i]?)) := by
  constructor
  · exact fun i _ hi q => ⟨xs, xs[i], q, by simp [hi]⟩
  · exact fun _ q => ⟨xs, q, Nat.le_refl _⟩
  · rintro i H v H' _ q ⟨T, us, x, e1, e2, e3, e4⟩
    exact ⟨T, us, .int (i : Nat), x, e1, e2, e3, rfl, e4 xs q⟩
theorem walk_zF : Walk (ItzF K a b) (min xs.length ys.length) (fun H => SqL K H a xs ∧ SqL K H b ys) (YPairF (fun i => xs[i]?) (fun i => ys[i]?)) := by
  constructor
  · exact fun i _ hi q => ⟨xs, ys, xs[i]'(by omega), ys[i]'(by omega), q.1, q.2, by simp [show i < xs.length by omega], by simp [show i < ys.length by omega]⟩
  · exact fun _ q => ⟨xs, ys, q.1, q.2, by omega⟩
  · rintro i H v H' _ q ⟨T, us, x, y, e1, e2, e3, e4, e5⟩
    exact ⟨T, us, x, y, e1, e2, e3, e4 xs q.1, e5 ys q.2⟩
end
end GB

namespace GB
open PySem PySem.Spec PyProof.Rows L2

/-! what is walked -/
def ItD (L : Lay) (J : It) (H : Hp) (ds : List PyData) : Prop := ∃ G Y, Walk J ds.length G Y ∧ G H ∧ (∀ H1 H2, Keep H1 H2 → G H1 → G H2) ∧
  ∀ i H1 x H2, i < ds.length → Keep H H1 → G H1 → Y i H1 x H2 → Same H1 H2 ∧ ∃ d, ds[i]? = some d ∧ Br L.K H2 x d
abbrev TId := En → (List PyData → En → Prop) → Prop
def tI (L : Lay) (t : TId) : TI := fun σ H R => ∃ ρ Q, Rel L H σ ρ ∧ t ρ Q ∧ ∀ J H' ds ρ', Go σ ρ ρ' H H' → Rel L H' σ ρ' → Q ds ρ' → ItD L J H' ds → R J H'
theorem _root_.L2.PI.less {X : Cx} {tg e : Expr} {t t2 : TI} (h : PI X tg e t) (w : ∀ σ H R, t2 σ H R → t σ H R) : PI X tg e t2 := ⟨fun pins s σ H R I q => h.run pins s σ H R I (w _ _ _ q)⟩
section
variable {L : Lay} {H : Hp} {a : Addr} {vs : List V} {ds : List PyData}
theorem it_frz {o : Obj} (h : H a = some (.frz o (.lst vs))) (b : BrA L.K H vs ds) : ItD L (Itl L.K a) H ds := by
  refine ⟨fun H1 => H1 a = some (.frz o (.lst vs)), YAt vs, ?_, h, fun H1 H2 k q => k _ _ q trivial, fun i H1 x H2 hi k q y => ?_⟩
  · rw [← b.len]
    exact (walk_list (K := L.K) (a := a) (xs := vs)).mono (fun H q => .inl (.inr ⟨o, q⟩)) fun i H x H' _ _ y => y
  · obtain ⟨rfl, hx⟩ := y
    obtain ⟨d, e, bd⟩ := b.getV hx
    exact ⟨Same.refl _, d, e, Br.keep k _ _ bd⟩
theorem it_tup (h : SqT L.K H a vs) (b : BrA L.K H vs ds) : ItD L (Itt L.K a) H ds := by
  refine ⟨fun H1 => SqT L.K H1 a vs, YAt vs, ?_, h, fun H1 H2 k q => sqT_keep k q, fun i H1 x H2 hi k q y => ?_⟩
  · rw [← b.len]; exact walk_tup
  · obtain ⟨rfl, hx⟩ := y
    obtain ⟨d, e, bd⟩ := b.getV hx
    exact ⟨Same.refl _, d, e, Br.keep k _ _ bd⟩
/-- 0, lo + 1, .. -/
def irow (lo : Int) (n : Nat) : List PyData := (List.range n).map fun (i : Nat) => .int (lo + i)
theorem irow_len (lo : Int) (n : Nat) : (irow lo n).length = n := by simp [irow]
theorem it_rng {lo : Int} {n : Nat} : ItD L (Itr lo n) H (irow lo n) := by
  refine ⟨fun _ => True, YFn fun i => .int (lo + i), ?_, trivial, fun _ _ _ q => q, fun i H1 x H2 hi k q y => ?_⟩
  · rw [irow_len]; exact walk_range
  · obtain ⟨rfl, rfl⟩ := y
    rw [irow_len] at hi
    exact ⟨Same.refl _, .int (lo + i), by simp [irow, hi], .int _⟩
/-- pairs of places and items -/
def pairsOf (ds : List PyData) : List PyData := (List.range ds.length).map fun (i : Nat) => .tuple [.int i, ds.getD i .none]
theorem pairs_len (ds : List PyData) : (pairsOf ds).length = ds.length := by simp [pairsOf]
theorem pairs_get {ds : List PyData} {i : Nat} {d : PyData} (h : ds[i]? = some d) : (pairsOf ds)[i]? = some (.tuple [.int i, d]) := by
  obtain ⟨hi, e⟩ := List.getElem?_eq_some_iff.mp h
  simp [pairsOf, hi, e]
theorem walk_enT {K : PySem.W.Frag} {xs : List V} : Walk (IteT K a) xs.length (fun H => SqT K H a xs) (YPairF (fun i => some (.int (i : Nat))) (fun i => xs[i]?)) := by
  refine ⟨fun i _ hi q => ⟨xs, xs[i], q, by simp [hi]⟩, fun _ q => ⟨xs, q, Nat.le_refl _⟩, fun i H v H' _ q y => ?_⟩
  obtain ⟨T, us, x, h1, h2, h3, h4⟩ := y
  exact ⟨T, us, .int (i : Nat), x, h1, h2, h3, rfl, h4 xs q⟩
theorem yp_enum {i : Nat} {H1 H2 : Hp} {x : V} (b : BrA L.K H vs ds) (k : Keep H H1) (y : YPairF (fun i => some (.int (i : Nat))) (fun i => vs[i]?) i H1 x H2) : Same H1 H2 ∧ ∃ d, (pairsOf ds)[i]? = some d ∧ Br L.K H2 x d := by
  obtain ⟨T, us, z, u, rfl, hT, rfl, hz, hu⟩ := y
  cases hz
  obtain ⟨d, e, bd⟩ := b.getV hu
  have sm := same_new (o := frT us [.int (i : Nat), u]) hT
  exact ⟨sm, _, pairs_get e, .tup (tq_at upd_same) (.cons (.int _) (.cons (Br.keep (k.tr (keep_of_same sm)) _ _ bd) .nil))⟩
theorem it_enF {o : Obj} (h : H a = some (.frz o (.lst vs))) (b : BrA L.K H vs ds) : ItD L (IteF L.K a) H (pairsOf ds) := by
  refine ⟨fun H1 => H1 a = some (.frz o (.lst vs)), _, ?_, h, fun H1 H2 k q => k _ _ q trivial, fun i H1 x H2 hi k q y => yp_enum b k y⟩
  rw [pairs_len, ← b.len]
  exact (walk_eF (K := L.K) (a := a) (xs := vs)).mono (fun H q => .inl (.inr ⟨o, q⟩)) fun i H x H' _ _ y => y
theorem it_enT (h : TqT L.K H a vs) (b : BrA L.K H vs ds) : ItD L (IteT L.K a) H (pairsOf ds) := by
  refine ⟨fun H1 => SqT L.K H1 a vs, _, ?_, h.sq, fun H1 H2 k q => sqT_keep k q, fun i H1 x H2 hi k q y => yp_enum b k y⟩
  rw [pairs_len, ← b.len]; exact walk_enT
end
def dISeq (t : TEd) : TId := fun ρ Q => t ρ fun s ρ1 => ∃ ds, (s = .d (.list ds) ∨ s = .d (.tuple ds)) ∧ Q ds ρ1
def dIEnum (t : TEd) : TId := fun ρ Q => t ρ fun s ρ1 => ∃ ds, (s = .d (.list ds) ∨ s = .d (.tuple ds)) ∧ Q (pairsOf ds) ρ1
def dIRng (t : TEd) : TId := fun ρ Q => t ρ fun s ρ1 => ∃ j, s = .d (.int j) ∧ j < 2 ^ 60 ∧ -(2 ^ 60) < j ∧ Q (irow 0 j.toNat) ρ1
def dIRng2 (t u : TEd) : TId := fun ρ Q => t ρ fun s ρ1 => u ρ1 fun s2 ρ2 => ∃ i j, s = .d (.int i) ∧ s2 = .d (.int j) ∧ (-(2 ^ 60) < i ∧ i < 2 ^ 60 ∧ -(2 ^ 60) < j ∧ j < 2 ^ 60) ∧ Q (irow i (j - i).toNat) ρ2
section
variable {X : Cx} {L : Lay} {tg e a b : Expr} {t u : TEd} {pos p : Pos}
theorem di_seq (hK : L.K = X.K) (h : PE X e (tE L t)) : PI X tg e (tI L (dISeq t)) := by
  constructor
  intro pins s σ H R I q
  obtain ⟨ρ, Q, r, q, fin⟩ := q
  refine thn (h.run pins s σ H (fun v H1 => ∃ ds ρ', Go σ ρ ρ' H H1 ∧ Rel L H1 σ ρ' ∧ (Br L.K H1 v (.list ds) ∨ Br L.K H1 v (.tuple ds)) ∧ Q ds ρ') I ⟨ρ, _, r, q, fun v H' sv ρ' go r' hv q' => ?_⟩) fun uv s1 z => ?_
  · obtain ⟨ds, hd, q2⟩ := q'
    rcases hd with rfl | rfl
    · exact ⟨ds, ρ', go, r', .inl hv, q2⟩
    · exact ⟨ds, ρ', go, r', .inr hv, q2⟩
  · obtain ⟨v, H1, I1, rv, ds, ρ', go, r', hd, q2⟩ := z
    have fp : ∀ b ∈ [s1.heap.objs.size], FpOk X pins H1 b := fun b hb => by
      rw [List.mem_singleton.mp hb]
      exact I1.fpOk (Nat.le_refl _) (I1.hok.fresh (Nat.le_refl _))
    rcases hd with hd | hd
    · cases hd with
      | lst h1 h2 h3 =>
        cases rv
        obtain ⟨its, rv, pl, hz⟩ := I1.list (.inl (.inr ⟨_, h1⟩))
        refine wpAny_pyIter_list pl.isList ?_
        have it := fin _ H1 ds ρ' go r' q2 (it_frz h1 h3)
        rw [hK] at it
        exact ⟨s1.heap.objs.size, [s1.heap.objs.size], _, _, H1, rfl, I1.kept (t' := s1.toks) fun b o e => Heap.get?_push_of_some _ e, turn_list _ _, ⟨_, Heap.get?_push_size _ rfl, rfl, rfl⟩, fp, it⟩
    · cases hd with
      | tup h1 h3 =>
        cases rv
        have h1' := h1
        rw [hK] at h1
        obtain ⟨its, rv, pl, hz⟩ := I1.tuple h1.sq
        refine wpAny_pyIter_tuple (show s1.heap.IsTuple _ its.toArray from pl) ?_
        have it := fin _ H1 ds ρ' go r' q2 (it_tup h1'.sq h3)
        rw [hK] at it
        exact ⟨s1.heap.objs.size, [s1.heap.objs.size], _, _, H1, rfl, I1.kept (t' := s1.toks) fun b o e => Heap.get?_push_of_some _ e, turn_tuple _ _, ⟨_, Heap.get?_push_size _ rfl, rfl, rfl⟩, fp, it⟩
theorem di_enum {elts : List Expr} {kk : Nat} {tpos : Pos} (hK : L.K = X.K) (hg : Gl X "enumerate") (hm : X.mg "enumerate" = none) (h : PE X e (tE L t)) (hs : starEach [e] X.env = [(false, eval e X.env)] := by rfl) :
    PI X (.Tuple elts kk tpos) (.Call (.Name "enumerate" p) [e] [] pos) (tI L (dIEnum t)) := by
  constructor
  intro pins s σ H R I q
  obtain ⟨ρ, Q, r, q, fin⟩ := q
  refine Call_ (ld_blt I hg hm boot_enumerate (PyProof.Rows.callWith_type1 (thn ((pa_cons h pa_nil (by rw [hs]; rfl)).run pos pins s σ H (fun vs H1 => ∃ v ds ρ', vs = [v] ∧ Go σ ρ ρ' H H1 ∧ Rel L H1 σ ρ' ∧ (Br L.K H1 v (.list ds) ∨ Br L.K H1 v (.tuple ds)) ∧ Q (pairsOf ds) ρ') I ⟨ρ, _, r, q, fun v H' sv ρ' go r' hv q' => ?_⟩) fun us s1 z => ?_) hs rfl))
  · obtain ⟨ds, hd, q2⟩ := q'
    rcases hd with rfl | rfl
    · exact ⟨v, ds, ρ', rfl, go, r', .inl hv, q2⟩
    · exact ⟨v, ds, ρ', rfl, go, r', .inr hv, q2⟩
  · obtain ⟨vs, H1, I1, rvs, v, ds, ρ', rfl, go, r', hd, q2⟩ := z
    obtain ⟨uv, rfl, rv⟩ := vals1 rvs
    have fp : ∀ b ∈ [s1.heap.objs.size + 1, s1.heap.objs.size], FpOk X pins H1 b := fun b hb => by
      have hle : s1.heap.objs.size ≤ b := by
        rcases List.mem_cons.mp hb with z | z
        · rw [z]; exact Nat.le_add_right _ _
        · rw [List.mem_singleton.mp z]; exact Nat.le_refl _
      exact I1.fpOk hle (I1.hok.fresh hle)
    rcases hd with hd | hd
    · cases hd with
      | lst h1 h2 h3 =>
        cases rv
        obtain ⟨its, rv, pl, hz⟩ := I1.list (.inl (.inr ⟨_, h1⟩))
        have it := fin _ H1 _ ρ' go r' q2 (it_enF h1 h3)
        rw [hK] at it
        refine call_enum_one (begins_list _ its.toArray) pl.isList fun h' he hit hk => wpAny_pyIter_enum he ?_
        exact ⟨s1.heap.objs.size + 1, _, _, _, H1, rfl, I1.kept (t' := s1.toks) hk, turn_enF _ (s1.heap.objs.size + 1) s1.heap.objs.size, ⟨⟨.none, he⟩, ⟨_, hit, rfl, rfl⟩, Nat.succ_ne_self _⟩, fp, it⟩
    · cases hd with
      | tup h1 h3 =>
        cases rv
        have h1' := h1
        rw [hK] at h1
        obtain ⟨its, rv, pl, hz⟩ := I1.tuple h1.sq
        have it := fin _ H1 _ ρ' go r' q2 (it_enT h1' h3)
        rw [hK] at it
        refine call_enum_one (begins_tuple _ its.toArray) (show s1.heap.IsTuple _ its.toArray from pl) fun h' he hit hk => wpAny_pyIter_enum he ?_
        exact ⟨s1.heap.objs.size + 1, _, _, _, H1, rfl, I1.kept (t' := s1.toks) hk, turn_enumT _ (s1.heap.objs.size + 1) s1.heap.objs.size, ⟨⟨.none, he⟩, ⟨_, hit, rfl, rfl⟩, Nat.succ_ne_self _⟩, fp, it⟩
theorem di_rng (hg : Gl X "range") (hm : X.mg "range" = none) (h : PE X a (tE L t)) (hs : starEach [a] X.env = [(false, eval a X.env)] := by rfl) : PI X tg (.Call (.Name "range" p) [a] [] pos) (tI L (dIRng t)) :=
  (pi_range1 hg hm (pa_cons h pa_nil (by rw [hs]; rfl)) hs).less fun σ H R q => by
    obtain ⟨ρ, Q, r, q, fin⟩ := q
    refine ⟨ρ, _, r, q, fun v H1 sv ρ1 go r1 hv q1 => ?_⟩
    obtain ⟨j, rfl, h1, h2, q2⟩ := q1
    have hv : Br L.K H1 v (.int j) := hv
    cases hv
    exact ⟨j, rfl, by omega, by omega, fin _ H1 _ ρ1 go r1 q2 it_rng⟩
theorem di_rng2 (hg : Gl X "range") (hm : X.mg "range" = none) (h : PE X a (tE L t)) (h2 : PE X b (tE L u)) (hs : starEach [a, b] X.env = [(false, eval a X.env), (false, eval b X.env)] := by rfl) (hs2 : starEach [b] X.env = [(false, eval b X.env)] := by rfl) :
    PI X tg (.Call (.Name "range" p) [a, b] [] pos) (tI L (dIRng2 t u)) :=
  (pi_range2 hg hm (pa_cons h (pa_cons h2 pa_nil (by rw [hs2]; rfl)) (by rw [hs, hs2])) hs hs2).less fun σ H R q => by
    obtain ⟨ρ, Q, r, q, fin⟩ := q
    refine ⟨ρ, _, r, q, fun v H1 sv ρ1 go r1 hv q1 => ⟨ρ1, _, r1, q1, fun w H2 sw ρ2 go2 r2 hw q2 => ?_⟩⟩
    obtain ⟨i, j, rfl, rfl, hb, q3⟩ := q2
    have hv : Br L.K H1 v (.int i) := hv
    have hw : Br L.K H2 w (.int j) := hw
    cases hv; cases hw
    exact ⟨i, j, rfl, by omega, fin _ H2 _ ρ2 (go.tr go2) r2 q3 it_rng⟩
end
/-! loops -/
def dLoop (g : DTG) (tb : TSd) (D : EndsD) : List PyData → En → Prop
  | [], ρ => D.nx ρ
  | d :: ds, ρ => g d ρ fun ρ1 => tb { nx := dLoop g tb D ds, ct := dLoop g tb D ds, bk := D.nx, rt := D.rt } ρ1
def dFor (ti : TId) (g : DTG) (tb : TSd) : TSd := fun D ρ => ti ρ fun ds ρ1 => dLoop g tb D ds ρ1
def dWhile (c : TTd) (tb : TSd) : TSd := fun D ρ => ∃ W : Nat → En → Prop, (∃ m, W m ρ) ∧ ∀ m ρ, W m ρ → c ρ fun b ρ1 => if b = true then tb { nx := fun ρ' => ∃ m', m' < m ∧ W m' ρ', ct := fun ρ' => ∃ m', m' < m ∧ W m' ρ', bk := D.nx, rt := D.rt } ρ1 else D.nx ρ1
section
variable {X : Cx} {L : Lay} {tg iter c : Expr} {body : List Stmt} {ti : TId} {g : DTG} {tb : TSd} {tc : TTd} {pos : Pos}
theorem ds_for (gd : Good X) (hp : PassesOwn (model X.prog X.w) X.A X.env X.xe) (hi : PI X tg iter (tI L ti)) (hg : PG X tg (tG L g)) (hb : PSs X body (tS L tb)) (hs : ∀ x, foldedSetIterable iter X.env x = pure x := by intro _; rfl) :
    PS X (.For tg iter body [] pos) (tS L (dFor ti g tb)) := (ps_for hp gd.calm hi hg hb hs).less fun D σ H q => by
  obtain ⟨ρ, De, r, q, h1, h2, h3, h4⟩ := q
  refine ⟨ρ, _, r, q, fun J H1 ds ρ1 go r1 q1 it => ?_⟩
  have k0 := go.keep r
  obtain ⟨G, Y, wk, g0, gk, step⟩ := it
  refine for_it wk (fun i σ' H' => Keep H1 H' ∧ ∃ ρ', Rel L H' σ' ρ' ∧ dLoop g tb De (ds.drop i) ρ') ⟨Keep.rfl' H1, ρ1, r1, q1⟩ (fun i σ' H' _ ⟨k, _⟩ => gk _ _ k g0) (fun i x σ' H' H2 hi ⟨k, ρ', r', ql⟩ hy => ?_) fun σ' H' ⟨k, ρ', r', ql⟩ => ?_
  · obtain ⟨sm, d, hd, bd⟩ := step i H' x H2 hi k (gk _ _ k g0) hy
    have e : ds.drop i = d :: ds.drop (i + 1) := by
      obtain ⟨hi', e⟩ := List.getElem?_eq_some_iff.mp hd
      rw [List.drop_eq_getElem_cons hi', e]
    rw [e] at ql
    have kk := (k.tr (keep_of_same sm))
    refine ⟨ρ', d, _, r'.go sm, bd, ql, fun σ2 ρ2 r2 n => ⟨ρ2, _, r2, n, fun σ3 H4 ρ3 k4 r3 n3 => ⟨kk.tr k4, ρ3, r3, n3⟩, fun v H4 s k4 => h2 v H4 s (k0.tr (kk.tr k4)), fun σ3 H4 ρ3 k4 r3 n3 => h1 _ _ ρ3 (k0.tr (kk.tr k4)) r3 n3, fun σ3 H4 ρ3 k4 r3 n3 => ⟨kk.tr k4, ρ3, r3, n3⟩⟩⟩
  · rw [List.drop_length] at ql
    exact h1 _ _ ρ' (k0.tr k) r' ql
theorem ds_while (hp : PassesOwn (model X.prog X.w) X.A X.env X.xe) (hc : PT X c (tT L tc)) (hb : PSs X body (tS L tb)) : PS X (.While c body [] pos) (tS L (dWhile tc tb)) := (ps_while hp hc hb).less fun D σ H q => by
  obtain ⟨ρ, De, r, ⟨W, ⟨m0, w0⟩, turn⟩, h1, h2, h3, h4⟩ := q
  refine ⟨fun m σ' H' => Keep H H' ∧ ∃ ρ', Rel L H' σ' ρ' ∧ W m ρ', ⟨m0, Keep.rfl' H, ρ, r, w0⟩, fun m σ' H' ⟨k, ρ', r', w⟩ => ?_⟩
  refine ⟨ρ', _, r', turn m ρ' w, fun b H2 ρ2 go r2 n => ?_⟩
  have kk := k.tr (go.keep r')
  cases b with
  | false =>
    refine iteF ?_
    exact h1 _ _ ρ2 kk r2 (by simpa using n)
  | true =>
    refine iteT ?_
    refine ⟨fun σ3 H3 => ∃ m', m' < m ∧ Keep H H3 ∧ ∃ ρ3, Rel L H3 σ3 ρ3 ∧ W m' ρ3, fun σ3 H3 ⟨m', hm, z⟩ => ⟨m', hm, z⟩, ρ2, { nx := fun ρ' => ∃ m', m' < m ∧ W m' ρ', ct := fun ρ' => ∃ m', m' < m ∧ W m' ρ', bk := De.nx, rt := De.rt }, r2, by simpa using n, fun σ3 H3 ρ3 k3 r3 ⟨m', hm, w3⟩ => ⟨m', hm, kk.tr k3, ρ3, r3, w3⟩, fun v H3 s k3 => h2 v H3 s (kk.tr k3), fun σ3 H3 ρ3 k3 r3 n3 => h1 _ _ ρ3 (kk.tr k3) r3 n3, fun σ3 H3 ρ3 k3 r3 ⟨m', hm, w3⟩ => ⟨m', hm, kk.tr k3, ρ3, r3, w3⟩⟩
end
end GB

namespace GB
open PySem PySem.Spec PyProof.Rows L2

/-! methods of lists of one's own -/
def dAppend (i : Nat) (t : TEd) : TEd := fun ρ Q => (∃ ys, ρ[i]? = some (.own ys)) ∧ t ρ fun s ρ1 => ∃ x xs, s = .d x ∧ ρ1[i]? = some (.own xs) ∧ xs.length < sizeLine ∧ Q (.d .none) (ρ1.set i (.own (xs ++ [x])))
def dPop (i : Nat) : TEd := fun ρ Q => ∃ xs x, ρ[i]? = some (.own xs) ∧ xs[xs.length - 1]? = some x ∧ Q (.d x) (ρ.set i (.own xs.dropLast))
def dPopAt (i : Nat) (t : TEd) : TEd := fun ρ Q => (∃ ys, ρ[i]? = some (.own ys)) ∧ t ρ fun s ρ1 => ∃ j k x xs, s = .d (.int j) ∧ ρ1[i]? = some (.own xs) ∧ -(2 ^ 62) < j ∧ j < 2 ^ 62 ∧ seqIndex? j xs.length = some k ∧ xs[k]? = some x ∧ Q (.d x) (ρ1.set i (.own (xs.eraseIdx k)))
def dExtend (i : Nat) (t : TEd) : TEd := fun ρ Q => (∃ ys, ρ[i]? = some (.own ys)) ∧ t ρ fun s ρ1 => ∃ zs xs, s = .d (.list zs) ∧ ρ1[i]? = some (.own xs) ∧ xs.length + zs.length ≤ sizeLine ∧ Q (.d .none) (ρ1.set i (.own (xs ++ zs)))
section
variable {L : Lay} {H H1 : Hp} {σ : L2.St} {ρ ρ1 : En}
theorem Go.putW (go : Go σ ρ ρ1 H H1) {i : Nat} {xs ys zs : Ow} {l : Addr} {w : HO} (h0 : ρ[i]? = some (.ow zs)) (h : ρ1[i]? = some (.ow xs)) (hi : σ[i]? = some (some (.ref l))) :
    Go σ ρ (ρ1.set i (.ow ys)) H (upd H1 l w) := by
  refine ⟨fun a o q n => ?_, fun j as q => ?_, fun a q => ?_⟩
  · rw [upd_ne (fun z => n i zs h0 (by rw [z]; exact hi))]; exact go.stay a o q n
  · by_cases hj : i = j
    · subst hj; exact ⟨zs, h0⟩
    · rw [get_set, if_neg hj] at q; exact go.less j as q
  · by_cases z : a = l
    · rw [z, upd_same] at q; cases q
    · rw [upd_ne z] at q; exact go.dom a q
theorem Go.put (go : Go σ ρ ρ1 H H1) {i : Nat} {xs ys zs : List PyData} {l : Addr} {vs ws : List V} (h0 : ρ[i]? = some (.own zs)) (h : ρ1[i]? = some (.own xs)) (hi : σ[i]? = some (some (.ref l))) (hl : H1 l = some (.lst vs)) :
    Go σ ρ (ρ1.set i (.own ys)) H (upd H1 l (.lst ws)) := go.putW h0 h hi
end
section
variable {X : Cx} {L : Lay} {pos p apos cpos : Pos} {o e : Expr} {t : TEd} {i : Nat}
theorem own_ty {pins : List (Addr × Obj)} {K : PySem.W.Frag} {H : Hp} {l : Addr} {vs : List V} (h : H l = some (.lst vs)) : tyV K "list" (.ref l) H := .inl ⟨rfl, _, .inl (.inl h)⟩
theorem mr_of {id : String} {r : V → List V → Hp → VK → Prop} (h : MtM X id r) : MtR X id r := h
theorem de_append (ho : PE X o (tVar i)) (he : PE X e (tE L t)) (hs : starEach [e] X.env = (false, eval e X.env) :: starEach [] X.env := by rfl) (hbase : attributeBase o "append" X.env (eval o X.env) = eval o X.env := by rfl)
    (hfew : ((backTo cpos (starEach [e] X.env)).all (fun x => !x.1) && (backToKw cpos (keywordEach [] X.env)).all (fun x => x.1.isSome) && decide ([e].length + ([] : List Keyword).length + (if ([] : List Keyword).isEmpty then 0 else 1) < 30)) = true := by rfl)
    (hline : (apos.endLine == cpos.line) = true := by rfl) (hpl : (backTo cpos (starEach [] X.env)).any (·.1) = false := by rfl) : PE X (.Call (.Attribute o "append" apos) [e] [] cpos) (tE L (dAppend i t)) :=
  (pe_bm PySem.F.plainAttrs_list PySem.F.slot_list_append PySem.F.type_list_append mt_append ho (pa_cons he pa_nil hs) hbase hfew hline hs hpl).less fun σ H Q' q => by
    obtain ⟨ρ, Q, r, ⟨⟨ys, ey⟩, q⟩, fin⟩ := q
    obtain ⟨l, vs, hi, hl, _⟩ := r.getO ey
    refine ⟨_, hi, own_ty (pins := []) hl, ρ, _, r, q, fun v H1 s ρ1 go r1 hv q1 => ?_⟩
    obtain ⟨x, xs, rfl, ex, hz, q2⟩ := q1
    obtain ⟨l', ws, hi', hl', hb, _⟩ := r1.getO ex
    rw [hi] at hi'; cases hi'
    obtain ⟨r2, k2⟩ := r1.put ex hi hl' (hb.app (BrA.one hv))
    exact ⟨l, ws, v, rfl, rfl, hl', by rw [hb.len]; exact hz, fin .non _ (.d .none) _ (go.put ey ex hi hl') r2 .non q2⟩
theorem de_pop (ho : PE X o (tVar i)) (hbase : attributeBase o "pop" X.env (eval o X.env) = eval o X.env := by rfl) (hline : (apos.endLine == cpos.line) = true := by rfl) : PE X (.Call (.Attribute o "pop" apos) [] [] cpos) (tE L (dPop i)) :=
  (pe_bm0 PySem.F.plainAttrs_list PySem.F.slot_list_pop PySem.F.type_list_pop mt_pop ho hbase hline).less fun σ H Q' q => by
    obtain ⟨ρ, Q, r, ⟨xs, x, ex, hx, q⟩, fin⟩ := q
    obtain ⟨l, vs, hi, hl, hb, _⟩ := r.getO ex
    obtain ⟨v, hv, bv⟩ := hb.get hx
    obtain ⟨r2, k2⟩ := r.put ex hi hl hb.dropLast
    refine ⟨_, hi, own_ty (pins := []) hl, l, vs, v, rfl, rfl, hl, by rw [hb.len]; exact hv, fin v _ (.d x) _ (Go.rf.put ex ex hi hl) r2 (Br.keep k2 _ _ bv) q⟩
theorem de_popAt (ho : PE X o (tVar i)) (he : PE X e (tE L t)) (hs : starEach [e] X.env = (false, eval e X.env) :: starEach [] X.env := by rfl) (hbase : attributeBase o "pop" X.env (eval o X.env) = eval o X.env := by rfl)
    (hfew : ((backTo cpos (starEach [e] X.env)).all (fun x => !x.1) && (backToKw cpos (keywordEach [] X.env)).all (fun x => x.1.isSome) && decide ([e].length + ([] : List Keyword).length + (if ([] : List Keyword).isEmpty then 0 else 1) < 30)) = true := by rfl)
    (hline : (apos.endLine == cpos.line) = true := by rfl) (hpl : (backTo cpos (starEach [] X.env)).any (·.1) = false := by rfl) : PE X (.Call (.Attribute o "pop" apos) [e] [] cpos) (tE L (dPopAt i t)) :=
  (pe_bm PySem.F.plainAttrs_list PySem.F.slot_list_pop PySem.F.type_list_pop mt_popAt ho (pa_cons he pa_nil hs) hbase hfew hline hs hpl).less fun σ H Q' q => by
    obtain ⟨ρ, Q, r, ⟨⟨ys, ey⟩, q⟩, fin⟩ := q
    obtain ⟨l, vs, hi, hl, _⟩ := r.getO ey
    refine ⟨_, hi, own_ty (pins := []) hl, ρ, _, r, q, fun v H1 s ρ1 go r1 hv q1 => ?_⟩
    obtain ⟨j, k, x, xs, rfl, ex, b1, b2, hk, hx, q2⟩ := q1
    have hv : Br L.K H1 v (.int j) := hv
    cases hv
    obtain ⟨l', ws, hi', hl', hb, _⟩ := r1.getO ex
    rw [hi] at hi'; cases hi'
    obtain ⟨v, hv, bv⟩ := hb.get hx
    obtain ⟨r2, k2⟩ := r1.put ex hi hl' (hb.erase k)
    exact ⟨l, ws, j, k, v, rfl, rfl, hl', by omega, by omega, by rw [hb.len]; exact hk, hv, fin v _ (.d x) _ (go.put ey ex hi hl') r2 (Br.keep k2 _ _ bv) q2⟩
end

/-! a, b = x, y with plain local names -/
def dPar (i j : Nat) (t1 t2 : TEd) : TSd := fun D ρ => t1 ρ fun s1 ρ1 => t2 ρ1 fun s2 ρ2 => D.nx ((ρ2.set i s1).set j s2)
section
variable {L : Lay} {H H1 H2 : Hp} {σ : L2.St} {ρ ρ1 ρ2 : En}
theorem VR.later (r : Rel L H σ ρ) (g1 : Go σ ρ ρ1 H H1) (r1 : Rel L H1 σ ρ1) (g2 : Go σ ρ1 ρ2 H1 H2) {v : V} {s : S} (h : VR L H H1 v s) : VR L H H2 v s := by
  cases s with
  | un => exact h
  | d x => exact Br.keep (g2.keep r1) _ _ h
  | ob t => exact FR.keep (s := .ob t) (g2.keep r1) h
  | ow xs =>
    obtain ⟨hw, hn⟩ := h
    refine ⟨hw.keep (g2.keep r1) fun l u el h1 => g2.stay l _ h1 fun i ys e z => ?_, hn⟩
    subst el
    obtain ⟨zs, e'⟩ := g1.less i ys e
    obtain ⟨l', vs', q1, q2, _⟩ := r.getW e'
    rw [q1] at z; cases z
    rw [hn l rfl] at q2; cases q2
/-- the slots' own lists stood at Hs already -/
def Old (Hs : Hp) (σ : L2.St) (ρ : En) : Prop := ∀ (k : Nat) (ys : Ow), ρ[k]? = some (.ow ys) → ∀ l, σ[k]? = some (some (.ref l)) → Hs l ≠ none
theorem Rel.old (r : Rel L H σ ρ) (g : Go σ ρ ρ1 H H1) : Old H σ ρ1 := fun k ys e l hl hn => by
  obtain ⟨zs, e'⟩ := g.less k ys e
  obtain ⟨l', vs', q1, q2, _⟩ := r.getW e'
  rw [hl] at q1; cases q1
  rw [hn] at q2; cases q2
theorem Rel.put1 {Hs : Hp} {σ' : L2.St} {ρ' : En} (r : Rel L H2 σ' ρ') (o : Old Hs σ' ρ') {j : Nat} {v : V} {s : S} (h : VR L Hs H2 v s) : Rel L H2 (σ'.set j (some v)) (ρ'.set j s) := by
  cases s with
  | un => exact h.elim
  | d x => exact r.setF h
  | ob t => exact r.setF h
  | ow xs =>
    refine r.setO h.1 fun k ys e z => ?_
    obtain ⟨l, vs, rfl, _⟩ := h.1.any
    exact o k ys e l z (h.2 l rfl)
theorem Old.set {Hs Hm : Hp} {σ' : L2.St} {ρ' : En} (o : Old Hs σ' ρ') (up : ∀ a, Hm a = none → Hs a = none) {i : Nat} {v : V} {s : S} (h : ∀ l, v = .ref l → ∀ xs, s = .ow xs → Hm l ≠ none) : Old Hm (σ'.set i (some v)) (ρ'.set i s) := fun k ys e l z => by
  by_cases hk : i = k
  · subst hk
    rw [get_set, if_pos rfl] at e z
    split at e
    · split at z
      · cases e; cases z
        exact h l rfl ys rfl
      · cases z
    · cases e
  · rw [get_set, if_neg hk] at e z
    exact fun q => o k ys e l z (up l q)
theorem VR.there {Hs Hm : Hp} {v : V} {s : S} (h : VR L Hs Hm v s) : ∀ l, v = .ref l → ∀ xs, s = .ow xs → Hm l ≠ none := fun l e xs es q => by
  subst es
  obtain ⟨l', vs, e2, h1, _⟩ := h.1.any
  rw [e2] at e; cases e
  rw [q] at h1; cases h1
end
section
variable {X : Cx} {L : Lay} {a b : Expr} {t1 t2 : TEd} {pos : Pos}
theorem ds_par {i j : Nat} {x y : Str} {px py pt : Pos} {kt k2 pt2} (g : Good X) (hi : X.N[i]? = some x) (hj : X.N[j]? = some y) (hij : i ≠ j) (hx : X.env.scope.names.lookup x = some .local) (hy : X.env.scope.names.lookup y = some .local)
    (ha : PE X a (tE L t1)) (hb : PE X b (tE L t2)) (hw : swappedStores [.Tuple [.Name x px, .Name y py] kt pt] (.Tuple [a, b] k2 pt2) X.env = pure (some [x, y]))
    (h1 : starEach [a, b] X.env = (false, eval a X.env) :: starEach [b] X.env := by rfl) (h2 : starEach [b] X.env = (false, eval b X.env) :: starEach [] X.env := by rfl)
    (hs : swapsWithSole [.Tuple [.Name x px, .Name y py] kt pt] (.Tuple [a, b] k2 pt2) pos.line X.env = pure false := by rfl) :
    PS X (.Assign [.Tuple [.Name x px, .Name y py] kt pt] (.Tuple [a, b] k2 pt2) pos) (tS L (dPar i j t1 t2)) :=
  (ps_par g.calm g.nd hi hj hij hx hy (pa_cons ha (pa_cons hb pa_nil h2) h1) hw hs).less fun D σ H q => by
    obtain ⟨ρ, De, r, q, n1, _⟩ := q
    refine ⟨ρ, _, r, q, fun v H1 s ρ1 go r1 hv q1 => ⟨ρ1, _, r1, q1, fun w H2 s2 ρ2 go2 r2 hw q2 => ⟨v, w, rfl, ?_⟩⟩⟩
    have hv2 := hv.later r go r1 go2
    have ra := r2.put1 (j := i) (r.old (go.tr go2)) hv2
    have rb := ra.put1 (j := j) ((r.old (go.tr go2)).set (Hm := H1) (go.dom) hv.there) hw
    exact n1 _ _ _ ((go.tr go2).keep r) rb q2
end
end GB

namespace GB
open PySem PySem.Spec PyProof.Rows L2

/-! comprehensions -/
def wipeD (ρ : En) : List Nat → En
  | [] => ρ
  | v :: vs => (wipeD ρ vs).set v .un
theorem wipeD_get (ρ : En) (j : Nat) : ∀ vs : List Nat, (wipeD ρ vs)[j]? = if j ∈ vs then (if j < ρ.length then some .un else none) else ρ[j]?
  | [] => by simp [wipeD]
  | v :: vs => by
    have hl : ∀ vs : List Nat, (wipeD ρ vs).length = ρ.length := fun vs => by
      induction vs with
      | nil => rfl
      | cons a r ih => simp [wipeD, ih]
    unfold wipeD
    rw [get_set, hl, wipeD_get ρ j vs]
    by_cases h : v = j
    · subst h; simp
    · have : ¬ j = v := fun e => h e.symm
      simp [h, this]
theorem wipeD_len (ρ : En) : ∀ vs : List Nat, (wipeD ρ vs).length = ρ.length
  | [] => rfl
  | v :: vs => by simp [wipeD, wipeD_len ρ vs]
theorem wipe_get (σ : L2.St) (j : Nat) : ∀ vs : List Nat, (wipe σ vs)[j]? = if j ∈ vs then (if j < σ.length then some none else none) else σ[j]?
  | [] => by simp [wipe]
  | v :: vs => by
    unfold wipe
    rw [get_set, wipe_length, wipe_get σ j vs]
    by_cases h : v = j
    · subst h; simp
    · have : ¬ j = v := fun e => h e.symm
      simp [h, this]
section
variable {L : Lay} {H H' : Hp} {σ σ' : L2.St} {ρ : En} {vs : List Nat}
/-- only what is not forgotten counts -/
theorem Rel.move (r : Rel L H σ (wipeD ρ vs)) (hl : σ'.length = σ.length) (h : ∀ j, j ∉ vs → σ'[j]? = σ[j]?) : Rel L H σ' (wipeD ρ vs) := by
  have out : ∀ (j : Nat) (s : S), (wipeD ρ vs)[j]? = some s → s ≠ .un → j ∉ vs := fun j s e n m => by
    rw [wipeD_get, if_pos m] at e
    split at e
    · cases e; exact n rfl
    · cases e
  refine ⟨by rw [hl]; exact r.len, fun j s e => ?_, fun i j xs ys e1 e2 e3 => ?_, r.same⟩
  · by_cases hs : s = .un
    · subst hs; trivial
    · rw [h j (out j s e hs)]; exact r.at' j s e
  · rw [h i (out i _ e1 (by intro z; cases z)), h j (out j _ e2 (by intro z; cases z))] at e3
    exact r.sep i j xs ys e1 e2 e3
theorem Rel.wiped (r : Rel L H σ ρ) : Rel L H σ (wipeD ρ vs) := by
  have sub : ∀ (j : Nat) (s : S), (wipeD ρ vs)[j]? = some s → s = .un ∨ ρ[j]? = some s := fun j s e => by
    rw [wipeD_get] at e
    split at e
    · split at e
      · cases e; exact .inl rfl
      · cases e
    · exact .inr e
  refine ⟨by rw [wipeD_len]; exact r.len, fun j s e => ?_, fun i j xs ys e1 e2 e3 => ?_, r.same⟩
  · rcases sub j s e with rfl | e
    · trivial
    · exact r.at' j s e
  · rcases sub i _ e1 with q | q1
    · cases q
    · rcases sub j _ e2 with q | q2
      · cases q
      · exact r.sep i j xs ys q1 q2 e3
theorem wipe_out (σ : L2.St) (vs : List Nat) : ∀ j, j ∉ vs → (wipe σ vs)[j]? = σ[j]? := fun j h => by rw [wipe_get, if_neg h]
/-- outside of the lists that slots own -/
theorem Go.wiped (go : Go σ ρ ρ H H') : Go σ ρ (wipeD ρ vs) H H' := ⟨go.stay, fun i xs e => by
  rw [wipeD_get] at e
  split at e
  · split at e <;> cases e
  · exact ⟨xs, e⟩, go.dom⟩
end
def dLcGo (vs : List Nat) (g : DTG) (tt : TTd) (te : TEd) (ρw : En) (Q : List PyData → Prop) : List PyData → List PyData → Prop
  | [], acc => Q acc
  | d :: ds, acc => g d ρw fun ρ2 => wipeD ρ2 vs = ρw ∧ tt ρ2 fun b ρ3 => ρ3 = ρ2 ∧ if b = true then te ρ2 fun s ρ4 => ρ4 = ρ2 ∧ ∃ y, s = .d y ∧ dLcGo vs g tt te ρw Q ds (acc ++ [y]) else dLcGo vs g tt te ρw Q ds acc
def dLc (ti : TId) (vs : List Nat) (g : DTG) (tt : TTd) (te : TEd) : TEd := fun ρ Q => ti ρ fun ds ρ1 => ds.length ≤ sizeLine ∧ dLcGo vs g tt te (wipeD ρ1 vs) (fun acc => Q (.own acc) (wipeD ρ1 vs)) ds []
def dYes : TTd := fun ρ Q => Q true ρ
theorem _root_.L2.PTs.less {X : Cx} {e : List Expr} {t t2 : TT} (h : PTs X e t) (w : ∀ σ H Q, t2 σ H Q → t σ H Q) : PTs X e t2 := ⟨fun pins s σ H Q I q => h.run pins s σ H Q I (w _ _ _ q)⟩
theorem dts_nil {X : Cx} {L : Lay} : PTs X [] (tT L dYes) := pts_nil.less fun σ H Q' h => by
  obtain ⟨ρ, Q, r, q, fin⟩ := h
  exact fin true H ρ Go.rf r q
theorem dts_one {X : Cx} {L : Lay} {c : Expr} {t : TTd} (h : PT X c (tT L t)) : PTs X [c] (tT L t) := pts_one h
section
variable {L : Lay} {ti : TId} {vs : List Nat} {g : DTG} {tt : TTd} {te : TEd}
/-- in these slots there is no list of one's own -/
def NoOwn (vs : List Nat) (ρ : En) : Prop := ∀ j, j ∈ vs → ∀ xs, ρ[j]? ≠ some (.ow xs)
theorem noOwn_wiped (ρ : En) : NoOwn vs (wipeD ρ vs) := fun j hj xs e => by
  rw [wipeD_get, if_pos hj] at e
  split at e <;> cases e
/-- target assignments touch no slot but the block's own -/
def GOwn (L : Lay) (vs : List Nat) (tg : TG) (g : DTG) : Prop := ∀ {H : Hp} {σ : L2.St} {ρ : En} {v : V} {d : PyData} {Q : En → Prop} {Q' : L2.St → Hp → Prop}, Rel L H σ ρ → NoOwn vs ρ → Br L.K H v d → g d ρ Q →
  (∀ σ' ρ', Rel L H σ' ρ' → NoOwn vs ρ' → Q ρ' → wipe σ' vs = wipe σ vs → Q' σ' H) → tg v σ H Q'
theorem wipe_set {σ : L2.St} {i : Nat} {o : Option V} (h : i ∈ vs) : wipe (σ.set i o) vs = wipe σ vs := by
  apply List.ext_getElem?
  intro j
  rw [wipe_get, wipe_get, List.length_set]
  split
  · rfl
  · rename_i hj
    rw [get_set, if_neg (show ¬ i = j from fun e => hj (e ▸ h))]
theorem gown_name {i : Nat} (h : i ∈ vs) : GOwn L vs (gName i) (dgName i) := fun r n b q fin => by
  refine fin _ _ (r.setF (s := .d _) b) (fun j hj xs e => ?_) q (wipe_set h)
  by_cases hij : i = j
  · subst hij; rw [get_set, if_pos rfl] at e; split at e <;> cases e
  · rw [get_set, if_neg hij] at e; exact n j hj xs e
def GOwns (L : Lay) (vs : List Nat) (tg : TGs) (g : DTGs) : Prop := ∀ {H : Hp} {σ : L2.St} {ρ : En} {us : List V} {ds : List PyData} {Q : En → Prop} {Q' : L2.St → Hp → Prop}, Rel L H σ ρ → NoOwn vs ρ → BrA L.K H us ds → g ds ρ Q →
  (∀ σ' ρ', Rel L H σ' ρ' → NoOwn vs ρ' → Q ρ' → wipe σ' vs = wipe σ vs → Q' σ' H) → tg us σ H Q'
theorem gowns_nil : GOwns L vs gNil dgNil := fun r n b q fin => by
  obtain ⟨rfl, q⟩ := q
  cases b
  exact ⟨rfl, fin _ _ r n q rfl⟩
theorem gowns_cons {tg : TG} {tgs : TGs} {g : DTG} {gs : DTGs} (h : GOwn L vs tg g) (h2 : GOwns L vs tgs gs) : GOwns L vs (gCons tg tgs) (dgCons g gs) := fun r n b q fin => by
  obtain ⟨d, rs, rfl, q⟩ := q
  cases b with
  | cons b1 b2 => exact ⟨_, _, rfl, h r n b1 q fun σ' ρ' r' n' q' e => h2 r' n' b2 q' fun σ2 ρ2 r2 n2 q2 e2 => fin σ2 ρ2 r2 n2 q2 (e2.trans e)⟩
theorem gown_tup {k : Nat} {tgs : TGs} {gs : DTGs} (h : GOwns L vs tgs gs) : GOwn L vs (gTup L.K k tgs) (dgTup k gs) := fun r n b q fin => by
  obtain ⟨ds, rfl, hl, q⟩ := q
  cases b with
  | tup h1 h2 => exact ⟨_, _, rfl, h1, by rw [h2.len]; exact hl, h r n h2 q fin⟩
theorem Rel.other {H : Hp} {σ : L2.St} {ρ : En} (r : Rel L H σ ρ) {l : Addr} {us ws : List V} (hl : H l = some (.lst us)) (h0 : L.H0 l = none) (hs : ∀ (i : Nat) (ys : Ow), ρ[i]? = some (.ow ys) → σ[i]? ≠ some (some (.ref l))) : Rel L (upd H l (.lst ws)) σ ρ := by
  have k : Keep H (upd H l (.lst ws)) := keep_put hl trivial
  refine ⟨r.len, fun j z e => ?_, r.sep, same_fix r.same h0⟩
  have q := r.at' j z e
  cases z with
  | un => trivial
  | d x => obtain ⟨v, e2, q⟩ := q; exact ⟨v, e2, Br.keep k _ _ q⟩
  | ow zs =>
    obtain ⟨v, e2, q⟩ := q
    refine ⟨v, e2, q.keep k fun m u' em hu => (upd_ne fun z => ?_).trans hu⟩
    subst em; subst z
    obtain ⟨w, e4, _⟩ := r.get e
    rw [e4] at e2
    refine hs j zs e ?_
    rw [e4]
    exact congrArg some (show w = some (V.ref m) from e2)
  | ob t => obtain ⟨a, e2, q⟩ := q; exact ⟨a, e2, L.J.keep _ _ _ _ k q⟩
theorem lc_read {gt : TG} (hg : GOwn L vs gt g) : ∀ σ H Q', tE L (dLc ti vs g tt te) σ H Q' → tLc (tI L ti) gt (tT L tt) (tE L te) vs σ H Q' := by
  intro σ H Q' q
  obtain ⟨ρ, Q, r, q, fin⟩ := q
  refine ⟨ρ, _, r, q, fun J H1 ds ρ1 go r1 q1 it D hD => ?_⟩
  obtain ⟨hz, q1⟩ := q1
  obtain ⟨G, Y, wk, g0, gk, step⟩ := it
  have rw1 : Rel L H1 (wipe σ vs) (wipeD ρ1 vs) := r1.wiped.move (wipe_length σ vs) (wipe_out σ vs)
  have sD := same_new (o := .lst []) hD
  have d0 : L.H0 D = none := r1.same.free hD
  have dSlot : ∀ (i : Nat) (ys : Ow), (wipeD ρ1 vs)[i]? = some (.ow ys) → (wipe σ vs)[i]? ≠ some (some (.ref D)) := fun i ys e z => by
    obtain ⟨l', us', q1, q2, _⟩ := rw1.getW e
    rw [z] at q1; cases q1
    rw [hD] at q2; cases q2
  refine lc_it wk (fun i H2 => i ≤ ds.length ∧ Keep H1 H2 ∧ Go (wipe σ vs) (wipeD ρ1 vs) (wipeD ρ1 vs) H1 H2 ∧ Rel L H2 (wipe σ vs) (wipeD ρ1 vs) ∧ ∃ acc us, H2 D = some (.lst us) ∧ BrA L.K H2 us acc ∧ acc.length ≤ i ∧ dLcGo vs g tt te (wipeD ρ1 vs) (fun acc => Q (.own acc) (wipeD ρ1 vs)) (ds.drop i) acc)
    ⟨Nat.zero_le _, keep_of_same sD, Go.sm sD, rw1.go sD, [], [], upd_same, .nil, Nat.le_refl _, q1⟩ (fun i H2 _ ⟨_, k, _⟩ => gk _ _ k g0) (fun i x H2 H3 hi ⟨_, k, goi, r2, acc, us, hDl, hb, hacc, ql⟩ hy => ?_) fun H2 ⟨_, k, goi, r2, acc, us, hDl, hb, hacc, ql⟩ => ?_
  · obtain ⟨sm, d, hd, bd⟩ := step i H2 x H3 hi k (gk _ _ k g0) hy
    have e : ds.drop i = d :: ds.drop (i + 1) := by
      obtain ⟨hi', e⟩ := List.getElem?_eq_some_iff.mp hd
      rw [List.drop_eq_getElem_cons hi', e]
    rw [e] at ql
    refine hg (r2.go sm) (noOwn_wiped ρ1) bd ql fun σ2 ρ2 r3 no2 q3 ew => ⟨?_, ?_⟩
    · rw [ew]
      apply List.ext_getElem?
      intro j
      rw [wipe_get, wipe_length, wipe_get]
      split <;> rfl
    · obtain ⟨e2, q3⟩ := q3
      have ew2 : wipe σ2 vs = wipe σ vs := by
        rw [ew]
        apply List.ext_getElem?
        intro j
        rw [wipe_get, wipe_length, wipe_get]
        split <;> rfl
      have lw : σ2.length = σ.length := by
        have := congrArg List.length ew2
        rw [wipe_length, wipe_length] at this; exact this
      have outw : ∀ j, j ∉ vs → (wipe σ vs)[j]? = σ2[j]? := fun j hj => by
        rw [← ew2]; exact wipe_out σ2 vs j hj
      have goback : ∀ {H4 : Hp}, Go σ2 ρ2 ρ2 H3 H4 → Rel L H4 σ2 ρ2 → Go (wipe σ vs) (wipeD ρ1 vs) (wipeD ρ1 vs) H1 H4 ∧ Rel L H4 (wipe σ vs) (wipeD ρ1 vs) ∧ H4 D = some (.lst us) := fun {H4} g4 r4 => by
        have own2 : ∀ (j : Nat) (xs : Ow), ρ2[j]? = some (.ow xs) → j ∉ vs ∧ (wipeD ρ1 vs)[j]? = some (.ow xs) := fun j xs ej => by
          have nj : j ∉ vs := fun m => no2 j m xs ej
          exact ⟨nj, by rw [← e2, wipeD_get, if_neg nj]; exact ej⟩
        refine ⟨⟨fun a o h n => ?_, fun j xs ej => ⟨xs, ej⟩, fun a h => goi.dom a (sm.free (g4.dom a h))⟩, ?_, ?_⟩
        · refine g4.stay a o (sm a o (goi.stay a o h n)) fun j xs ej z => ?_
          obtain ⟨nj, ej'⟩ := own2 j xs ej
          exact n j xs ej' (by rw [outw j nj]; exact z)
        · have := (r4.wiped (vs := vs)).move (σ' := wipe σ vs) (by rw [wipe_length, lw]) outw
          rw [e2] at this; exact this
        · refine g4.stay D _ (sm D _ hDl) fun j xs ej z => ?_
          obtain ⟨nj, ej'⟩ := own2 j xs ej
          exact dSlot j xs ej' (by rw [outw j nj]; exact z)
      refine ⟨ρ2, _, r3, q3, fun b H4 ρ3 go4 r4 q4 => ?_⟩
      obtain ⟨e3, q4⟩ := q4
      subst e3
      obtain ⟨goA, rA, dA⟩ := goback go4 r4
      have k4 : Keep H2 H4 := (keep_of_same sm).tr (go4.keep r3)
      cases b with
      | false => exact iteF ⟨hi, k.tr k4, goA, rA, acc, us, dA, BrA.keep k4 _ _ hb, by omega, by simpa using q4⟩
      | true =>
        refine iteT ⟨ρ3, _, r4, by simpa using q4, fun y H5 s ρ4 go5 r5 hv q5 => ?_⟩
        obtain ⟨e4, y', rfl, q6⟩ := q5
        subst e4
        obtain ⟨goB, rB, dB⟩ := goback (go4.tr go5) r5
        have k5 : Keep H2 H5 := k4.tr (go5.keep r4)
        have kD : Keep H5 (upd H5 D (.lst (us ++ [y]))) := keep_put dB trivial
        have lu := hb.len
        refine ⟨us, dB, by omega, hi, (k.tr k5).tr kD, ⟨fun a o h n => ?_, fun j xs ej => ⟨xs, ej⟩, fun a h => ?_⟩, rB.other dB d0 dSlot, acc ++ [y'], us ++ [y], upd_same, ((BrA.keep (k5.tr kD) _ _ hb).app (BrA.one (Br.keep kD _ _ hv))), by simp; omega, q6⟩
        · rw [upd_ne (fun z => by rw [z, hD] at h; cases h)]; exact goB.stay a o h n
        · by_cases z : a = D
          · rw [z]; exact hD
          · rw [upd_ne z] at h; exact goB.dom a h
  · rw [List.drop_length] at ql
    have goF : Go σ ρ1 (wipeD ρ1 vs) H1 H2 := ⟨fun a o h n => goi.stay a o h fun j xs ej z => by
        by_cases nj : j ∈ vs
        · exact noOwn_wiped ρ1 j nj xs ej
        · rw [wipeD_get, if_neg nj] at ej
          rw [wipe_out σ vs j nj] at z
          exact n j xs ej z, fun j xs ej => by
        by_cases nj : j ∈ vs
        · exact absurd ej (noOwn_wiped ρ1 j nj xs)
        · rw [wipeD_get, if_neg nj] at ej; exact ⟨xs, ej⟩, goi.dom⟩
    exact fin (.ref D) H2 (.own acc) _ (go.tr goF) (r2.move (wipe_length σ vs).symm fun j hj => (wipe_out σ vs j hj).symm) ⟨⟨D, us, rfl, hDl, hb, d0⟩, fun l e => by cases e; exact go.dom _ hD⟩ ql
end
section
variable {X : Cx} {L : Lay} {elt tg iter : Expr} {ifs : List Expr} {scope : Scope} {own : List (Str × Nat)} {pos : Pos} {ti : TId} {g : DTG} {gt : TG} {tt : TTd} {te : TEd}
theorem de_lc (gd : Good X) (hi : PI X tg iter (tI L ti)) (ok : BlkOk X.N X.env.scope scope own)
    (hg : ∀ (s : Shared) (H : Hp) (C : Addr) (cl : List (Str × Addr)) (fp : List Addr), PG (X.blk s H scope (compEnvC scope cl C X.env) fp) tg gt) (ho : GOwn L (own.map (·.2)) gt g)
    (ht : ∀ (s : Shared) (H : Hp) (C : Addr) (cl : List (Str × Addr)) (fp : List Addr), Good (X.blk s H scope (compEnvC scope cl C X.env) fp) → PTs (X.blk s H scope (compEnvC scope cl C X.env) fp) ifs (tT L tt))
    (he : ∀ (s : Shared) (H : Hp) (C : Addr) (cl : List (Str × Addr)) (fp : List Addr), Good (X.blk s H scope (compEnvC scope cl C X.env) fp) → PE (X.blk s H scope (compEnvC scope cl C X.env) fp) elt (tE L te))
    (hs : ∀ x, foldedSetIterable iter X.env x = pure x := by intro _; rfl) : PE X (.ListComp elt [⟨tg, iter, ifs, 0⟩] scope pos) (tE L (dLc ti (own.map (·.2)) g tt te)) :=
  (pe_lc gd.calm gd.nd hi ok hg (fun s H C cl fp => ht s H C cl fp ⟨gd.calm, gd.gd, gd.sys, gd.un, gd.nd⟩) (fun s H C cl fp => he s H C cl fp ⟨gd.calm, gd.gd, gd.sys, gd.un, gd.nd⟩) hs).less (lc_read ho)
theorem ds_setLc {i : Nat} {y : Str} {py spos : Pos} (gd : Good X) (hy : X.N[i]? = some y) (hyl : X.env.scope.names.lookup y = some .local) (hsw : swapsWith (.ListComp elt [⟨tg, iter, ifs, 0⟩] scope pos) (some (.Name y py)) spos.line X.env = pure true)
    (hi : PI X tg iter (tI L ti)) (ok : BlkOk X.N X.env.scope scope own)
    (hg : ∀ (s : Shared) (H : Hp) (C : Addr) (cl : List (Str × Addr)) (fp : List Addr), PG (X.blk s H scope (compEnvC scope cl C X.env) fp) tg gt) (ho : GOwn L (own.map (·.2)) gt g)
    (ht : ∀ (s : Shared) (H : Hp) (C : Addr) (cl : List (Str × Addr)) (fp : List Addr), Good (X.blk s H scope (compEnvC scope cl C X.env) fp) → PTs (X.blk s H scope (compEnvC scope cl C X.env) fp) ifs (tT L tt))
    (he : ∀ (s : Shared) (H : Hp) (C : Addr) (cl : List (Str × Addr)) (fp : List Addr), Good (X.blk s H scope (compEnvC scope cl C X.env) fp) → PE (X.blk s H scope (compEnvC scope cl C X.env) fp) elt (tE L te))
    (hs : ∀ x, foldedSetIterable iter X.env x = pure x := by intro _; rfl) : PS X (.Assign [.Name y py] (.ListComp elt [⟨tg, iter, ifs, 0⟩] scope pos) spos) (tS L (dSet i (dLc ti (own.map (·.2)) g tt te))) :=
  (ps_setLc gd.calm gd.nd hy hyl hsw hi ok hg (fun s H C cl fp => ht s H C cl fp ⟨gd.calm, gd.gd, gd.sys, gd.un, gd.nd⟩) (fun s H C cl fp => he s H C cl fp ⟨gd.calm, gd.gd, gd.sys, gd.un, gd.nd⟩) hs).less fun D σ H q => by
    obtain ⟨ρ, De, r, q, n1, _⟩ := q
    exact lc_read ho σ H _ ⟨ρ, _, r, q, fun v H' s ρ' go r' hv n => n1 _ _ _ (go.keep r) (r.set r' go hv) n⟩
end
end GB

namespace GB
open PySem PySem.Spec PyProof.Rows L2

/-- the script: a firm list of ints, or one of the written part -/
def ScrOk (K : PySem.W.Frag) (a : Addr) (ns : List Int) (H : Hp) : Prop := (∃ o, H a = some (.frz o (.lst (ns.map V.int)))) ∨ SqL K (fun _ => none) a (ns.map V.int)
theorem sq_scr {K : PySem.W.Frag} {a : Addr} {ns : List Int} {H : Hp} (h : ScrOk K a ns H) : SqL K H a (ns.map V.int) := by
  rcases h with ⟨o, h⟩ | h
  · exact .inl (.inr ⟨o, h⟩)
  · rcases h with (h | ⟨o, h⟩) | h
    · cases h
    · cases h
    · exact .inr h
/-- the store's fact, the script's -/
def mkJar (K : PySem.W.Frag) (j : Addr → Hp → Prop) (hj : ∀ a H H', Keep H H' → j a H → j a H') : Jar where
  ok := fun t a H => match t with
    | .jar => j a H
    | .scr ns => ScrOk K a ns H
    | .more _ => False
    | .exc _ => False
    | .bor _ => False
  keep := fun t a H H' k h => by
    cases t with
    | jar => exact hj a H H' k h
    | scr ns =>
      rcases h with ⟨o, h⟩ | h
      · exact .inl ⟨o, k _ _ h trivial⟩
      · exact .inr h
    | more _ => exact h
    | exc _ => exact h
    | bor _ => exact h
section
variable {P : Program} {w : World} {K : PySem.W.Frag} {mg mb : Str → Option Value} {k : Nat} {fa a : Addr} {fd : FuncData} {x : Str} {J : Jar} {F : FnD} {s1 : Shared} {vs : List Value} {ns : List Int}
theorem end_call (KX : K.In s1.heap) (hns : s1.heap.Ns mainGlobals mg) (hb : s1.heap.Ns builtinsNs mb) (hbb : ∀ y : Str, y ≠ "__name__" → mb y = bootBuiltins y) (hlim : s1.heap.NoLimit) (sy : ∃ mm, s1.heap.Ns sysModules mm) (hg : s1.gens = #[])
    (ha : s1.heap.get? a = some { cls := .type "list", data := .seq vs.toArray }) (hi : IntsAre vs ns) (hl : ns.length ≤ sizeLine) (hr : Room k callerA)
    (hF : ∀ base : Heap, K.In base → base.Ns mainGlobals mg → (∃ o, base.get? sysModules = some o) → FnG P w K mg base CX0 k fa fd [x] (spD K J 1 F))
    (hbind : ∀ (s : Shared) (u : Value), BindsTo s fd ⟨[u], []⟩ [(x, u)]) (hJ : ∀ H, ScrOk K a ns H → J.ok (.scr ns) a H)
    (go : F [.ob (.scr ns)] fun s => s = .d (.bool true)) :
    codeAny (model P w) callerA (.call (.ref fa) ⟨[.ref a], []⟩) (fun r s' => r = .ok (.ret (.bool true)) ∧ OldK s1.heap s'.heap ∧ s'.os = s1.os ∧ AllBare s'.gens) s1 := by
  have rv := vals_ints hi
  have lv := hi.length
  have main : ∀ H : Hp, Only H → ScrOk K a ns H → HOk P w H s1.heap → (∀ b, H b ≠ none → b = a) → (H a ≠ none → K.lookup a = none) →
      codeAny (model P w) callerA (.call (.ref fa) ⟨[.ref a], []⟩) (fun r s' => r = .ok (.ret (.bool true)) ∧ OldK s1.heap s'.heap ∧ s'.os = s1.os ∧ AllBare s'.gens) s1 := by
    intro H hO hS ok hA hK
    have low : ∀ {b : Addr} {o : Obj}, s1.heap.get? b = some o → H b = none → (hidT s1.heap H).get? b = some o := fun e n => hidT_get e n
    have dictFree : ∀ {b : Addr} {o : Obj} {es : Array DictEntry} {ep : Nat}, s1.heap.get? b = some o → o.data = .dict es ep → H b = none := fun {b o es ep} e d => by
      cases q : H b with
      | none => rfl
      | some u =>
        obtain rfl : b = a := hA b (by rw [q]; simp)
        rw [ha] at e; cases e; cases d
    have ns0 : ∀ {b : Addr} {m : Str → Option Value}, s1.heap.Ns b m → (hidT s1.heap H).Ns b m := fun {b m} ⟨o, es, ep, e, d, r⟩ => ⟨o, es, ep, low e (dictFree e d), d, r⟩
    have kin : K.In (hidT s1.heap H) := fun b o e => low (KX b o e) (by
      cases q : H b with
      | none => rfl
      | some u =>
        obtain rfl : b = a := hA b (by rw [q]; simp)
        rw [hK (by rw [q]; simp)] at e; cases e)
    have md : Mod K mg (hidT s1.heap H) := ⟨kin, ns0 hns, ⟨mb, ns0 hb, hbb⟩, let ⟨mc, h1, h2⟩ := hlim; ⟨mc, ns0 h1, h2⟩⟩
    have sm : ∃ o, (hidT s1.heap H).get? sysModules = some o := let ⟨mm, q⟩ := sy; let ⟨o, _, _, e, _⟩ := ns0 q; ⟨o, e⟩
    have e0 : Env0 P w K mg (hidT s1.heap H) callerA [] s1 H := ⟨rfl, md, fun b o e => of_hidT e, Nat.le_of_eq (hidT_size _ _), trivial, fun b hb => (nomatch hb), ok, .of_eq hg⟩
    refine codeAny_mono ((hF _ kin (ns0 hns) sm).go callerA [] s1 H ⟨[.ref a], []⟩ [.ref a] [.ref a] (fun v _ => v = .bl true) (fun _ _ _ => False) rfl hr e0 (hbind s1 (.ref a)) (.cons rfl .nil) ⟨[.ob (.scr ns)], _, .cons ⟨a, rfl, hJ H hS⟩ .nil, rfl, go, fun v H' s _ rr e => ?_⟩) fun r s' h => ?_
    · subst e
      have rr : Br K H' v (.bool true) := rr
      cases rr; rfl
    match r, h with
    | .error e, h => exact False.elim h
    | .ok .next, h => exact False.elim h
    | .ok .brk, h => exact False.elim h
    | .ok .cont, h => exact False.elim h
    | .ok (.ret u), h =>
      obtain ⟨v, H', os, bare, un, hok', r', q⟩ := h
      obtain rfl : v = .bl true := q
      obtain rfl : u = Value.bool true := r'
      refine ⟨rfl, OldK.of_keep fun b o e => ?_, os, bare⟩
      cases q : H b with
      | none => exact un.keep b o e q (fun z => nomatch z) (fun z => nomatch z)
      | some u =>
        rcases hO b with z | ⟨ob, xs, z⟩
        · rw [q] at z; cases z
        · obtain ⟨e1, _⟩ := ok b _ z
          obtain ⟨e2, _⟩ := hok' b _ (un.frzs b ob _ z)
          rw [e] at e1; cases e1
          exact e2
  cases hk : K.lookup a with
  | some o =>
    have e := KX a o hk
    rw [ha] at e; cases e
    exact main (fun _ => none) (fun _ => .inl rfl) (.inr (.inr ⟨_, vs.toArray, _, hk, rfl, rfl, rfl, by rw [List.size_toArray, lv]; exact hl, by simpa using rv⟩)) (fun b u z => (nomatch z)) (fun b z => absurd rfl z) fun z => absurd rfl z
  | none =>
    refine main (upd (fun _ => none) a (.frz { cls := .type "list", data := .seq vs.toArray } (.lst (ns.map V.int)))) (fun b => ?_) (.inl ⟨_, upd_same⟩) (fun b u z => ?_) (fun b z => ?_) fun _ => hk
    · by_cases hb : b = a
      · subst hb; exact .inr ⟨_, _, upd_same⟩
      · exact .inl (upd_ne hb)
    · by_cases hb : b = a
      · subst hb
        rw [upd_same] at z; cases z
        exact ⟨ha, by rw [List.length_map]; exact hl, vs, _, rv, ha⟩
      · rw [upd_ne hb] at z; cases z
    · by_cases hb : b = a
      · exact hb
      · rw [upd_ne hb] at z; exact absurd rfl z
end
/-- THE END of a law's row -/
theorem end_of {l : PySem.W.OpenLaw} {n k : Nat} {q : Program} {loose : List Str} {XP : (Str → Option Value) → Heap → Prop} {YP : World → Heap → Prop} {d : DefRec} {Kp : Params → PySem.W.Frag} {x : Str} {J : World → Jar} {F : FnD}
    (hn : l.most = some n) (hn2 : n ≤ sizeLine) (hdf : d.params.defaults = []) (hr : Room k callerA) (hq : importsNone q = true) (hY : ∀ (w : World) (h : Heap), YP w h → (Kp w.params).In h)
    (hF : ∀ (w : World) (mg : Str → Option Value) (fa : Addr) (h : Heap), (Kp w.params).In h → h.Ns mainGlobals mg → mg d.name = some (.ref fa) → ∃ fd : FuncData, (∀ (s : Shared) (u : Value), BindsTo s fd ⟨[u], []⟩ [(x, u)]) ∧
      ∀ base : Heap, (Kp w.params).In base → base.Ns mainGlobals mg → (∃ o, base.get? sysModules = some o) → FnG l.prog w (Kp w.params) mg base CX0 k fa fd [x] (spD (Kp w.params) (J w) 1 F))
    (hJ : ∀ w a ns H, ScrOk (Kp w.params) a ns H → (J w).ok (.scr ns) a H) (go : ∀ ns : List Int, ns.length ≤ n → F [.ob (.scr ns)] fun s => s = .d (.bool true)) :
    PySem.W.WalkO q loose XP YP l.row.toRowW d [] (fun f vs => PySem.call f vs) := by
  refine Att.attach_call hn hdf fun w s0 s1 mg mb fa o pm cd doc a vs ns G Y ho hd hcd hmg hobj hints hlen hg => ?_
  obtain ⟨fd, hb, hF'⟩ := hF w mg fa _ (hY w _ Y) G.T.g hmg
  exact end_call (hY w _ Y) G.T.g G.T.b G.T.builtins G.T.nolimit (let ⟨mm, q, _⟩ := (G.T.seer hq).mods; ⟨mm, q⟩) hg hobj hints (Nat.le_trans hlen hn2) hr hF' hb (hJ _ a ns) (go ns hlen)
end GB

namespace GB
open PySem PySem.Spec PyProof.Rows L2

/-! slices -/
def cutD {α : Type} (xs : List α) (lo hi : Option Int) : List α := (xs.drop (HT.sIx xs.length 0 lo)).take (HT.sIx xs.length xs.length hi - HT.sIx xs.length 0 lo)
abbrev F3 := PyData → Option Int → Option Int → (S → Prop) → Prop
def fCut : F3 := fun x lo hi Q => match x with
  | .list xs => Q (.own (cutD xs lo hi))
  | .tuple xs => Q (.d (.tuple (cutD xs lo hi)))
  | _ => False
abbrev TOd := En → (Option Int → En → Prop) → Prop
def tO (L : Lay) (t : TOd) : TO := fun σ H Q' => ∃ ρ Q, Rel L H σ ρ ∧ t ρ Q ∧ ∀ o H' ρ', Go σ ρ ρ' H H' → Rel L H' σ ρ' → Q o ρ' → Q' o H'
theorem _root_.L2.PO.less {X : Cx} {e : Option Expr} {t t2 : TO} (h : PO X e t) (w : ∀ σ H Q, t2 σ H Q → t σ H Q) : PO X e t2 := ⟨fun pins s σ H Q I q => h.run pins s σ H Q I (w _ _ _ q)⟩
def dONone : TOd := fun ρ Q => Q none ρ
def dOSome (t : TEd) : TOd := fun ρ Q => t ρ fun s ρ1 => ∃ i, s = .d (.int i) ∧ Q (some i) ρ1
def dCut (t : TEd) (l u : TOd) : TEd := fun ρ Q => t ρ fun s ρ1 => l ρ1 fun lo ρ2 => u ρ2 fun hi ρ3 => ∃ x, s = .d x ∧ fCut x lo hi fun s => Q s ρ3
def dCutO (i : Nat) (l u : TOd) : TEd := fun ρ Q => (∃ ys, ρ[i]? = some (.own ys)) ∧ l ρ fun lo ρ2 => u ρ2 fun hi ρ3 => ∃ xs, ρ3[i]? = some (.own xs) ∧ Q (.own (cutD xs lo hi)) ρ3
section
variable {X : Cx} {L : Lay} {pos p2 p px : Pos} {e o : Expr} {lo hi : Option Expr} {t : TEd} {l u : TOd}
theorem do_none : PO X none (tO L dONone) := po_none.less fun σ H Q' q => by
  obtain ⟨ρ, Q, r, q, fin⟩ := q
  exact fin none H ρ Go.rf r q
theorem do_some (h : PE X e (tE L t)) : PO X (some e) (tO L (dOSome t)) := (po_some h).less fun σ H Q' q => by
  obtain ⟨ρ, Q, r, q, fin⟩ := q
  refine ⟨ρ, _, r, q, fun v H1 s ρ1 go r1 hv q1 => ?_⟩
  obtain ⟨i, rfl, q2⟩ := q1
  have hv : Br L.K H1 v (.int i) := hv
  cases hv
  exact ⟨i, rfl, fin (some i) H1 ρ1 go r1 q2⟩
theorem cut_br {K : PySem.W.Frag} {H : Hp} {vs : List V} {xs : List PyData} (h : BrA K H vs xs) (lo hi : Option Int) : BrA K H (cutV vs lo hi) (cutD xs lo hi) := by
  unfold cutV cutD
  rw [h.len]
  exact (h.drop _).take _
theorem sl_fin {H1 H2 H3 : Hp} {σ : L2.St} {ρ ρ3 : En} {H : Hp} {x : PyData} {v : V} {a b : Option Int} {Q : S → En → Prop} {Q' : VK} (hK : L.K = X.K) (r3 : Rel L H3 σ ρ3) (go : Go σ ρ ρ3 H H3) (hv : Bk L H3 v x) (q : fCut x a b fun s => Q s ρ3)
    (fin : ∀ (v : V) (H' : Hp) (s : S) (ρ' : En), Go σ ρ ρ' H H' → Rel L H' σ ρ' → VR L H H' v s → Q s ρ' → Q' v H') : rSlL X.K v a b H3 Q' ∨ rSlF X.K v a b H3 Q' := by
  cases x with
  | list xs =>
    obtain ⟨al, vs, rfl, h1, h3⟩ := list_sq hK hv
    refine .inl ⟨al, vs, rfl, h1, fun p hp => ?_⟩
    exact fin _ _ (.own _) ρ3 (go.tr (Go.sm (same_new hp))) (r3.go (same_new hp)) (NR.vr (s := .own _) r3 (same_new hp) go ⟨p, _, rfl, hp, upd_same, BrA.keep (keep_of_same (same_new hp)) _ _ (cut_br h3 a b)⟩) q
  | tuple xs =>
    have hv : Br L.K H3 v (.tuple xs) := hv
    cases hv with
    | tup h1 h3 =>
      rename_i al vs
      have h1' := h1
      rw [hK] at h1
      refine .inr ⟨al, vs, rfl, h1.sq, fun hw => ?_, fun hw p us hp => ?_⟩
      · have e : cutD xs a b = xs := by
          unfold cutD
          rw [← h3.len, hw.1, hw.2]
          simp [h3.len]
        have q : Q (.d (.tuple (cutD xs a b))) ρ3 := q
        rw [e] at q
        exact fin _ _ (.d (.tuple xs)) ρ3 go r3 (.tup h1' h3) q
      · exact fin _ _ (.d _) ρ3 (go.tr (Go.sm (same_new hp))) (r3.go (same_new hp)) (.tup (tq_at upd_same) (BrA.keep (keep_of_same (same_new hp)) _ _ (cut_br h3 a b))) q
  | _ => exact False.elim q
theorem de_cut (hK : L.K = X.K) (he : PE X e (tE L t)) (hl : PO X lo (tO L l)) (hu : PO X hi (tO L u)) : PE X (.Subscript e (.Slice lo hi none p2) pos) (tE L (dCut t l u)) :=
  (pe_slice (sl_list.or sl_tupF) he hl hu).less fun σ H Q' q => by
    obtain ⟨ρ, Q, r, q, fin⟩ := q
    refine ⟨ρ, _, r, q, fun v H1 s ρ1 g1 r1 hv q1 => ⟨ρ1, _, r1, q1, fun a H2 ρ2 g2 r2 q2 => ⟨ρ2, _, r2, q2, fun b H3 ρ3 g3 r3 q3 => ?_⟩⟩⟩
    obtain ⟨x, rfl, q4⟩ := q3
    exact sl_fin (H1 := H1) (H2 := H2) hK r3 ((g1.tr g2).tr g3) (Bk.of (Br.keep ((g2.tr g3).keep r1) _ _ hv)) q4 fin
theorem de_cutO {i : Nat} (hK : L.K = X.K) (he : PE X e (tVar i)) (hl : PO X lo (tO L l)) (hu : PO X hi (tO L u)) : PE X (.Subscript e (.Slice lo hi none p2) pos) (tE L (dCutO i l u)) :=
  (pe_slice (sl_list.or sl_tupF) he hl hu).less fun σ H Q' q => by
    obtain ⟨ρ, Q, r, ⟨⟨ys, ey⟩, q⟩, fin⟩ := q
    obtain ⟨la, vs, h1, _⟩ := r.getO ey
    refine ⟨_, h1, ρ, _, r, q, fun a H2 ρ2 g2 r2 q2 => ⟨ρ2, _, r2, q2, fun b H3 ρ3 g3 r3 q3 => ?_⟩⟩
    obtain ⟨xs, ex, q4⟩ := q3
    obtain ⟨v, h2, hv⟩ := pk_own r3 ex
    rw [h1] at h2; cases h2
    exact sl_fin (H1 := H) (H2 := H2) (x := .list xs) hK r3 (g2.tr g3) hv q4 fin
/-! isinstance of one built-in class -/
def kindOf : PyData → String
  | .none => "NoneType"
  | .bool _ => "bool"
  | .int _ => "int"
  | .str _ => "str"
  | .list _ => "list"
  | .tuple _ => "tuple"
  | .dict _ => "dict"
def isK (T : String) (x : PyData) : Bool := (kitB (kindOf x) T).getD false
theorem ty_of (hK : L.K = X.K) {H : Hp} {v : V} {x : PyData} (h : Bk L H v x) : TyX X.K H v (.type (kindOf x)) := by
  cases x with
  | none => cases h; exact .base .non
  | bool b => cases h; exact .base (.bl b)
  | int i => cases h; exact .base (.int i)
  | str z => cases h; exact .base (.str z)
  | list xs =>
    obtain ⟨a, vs, rfl, h1, _⟩ := h
    rcases h1 with h1 | ⟨o, h1⟩
    · exact .base (.lst h1)
    · exact .base (.frz h1)
  | tuple xs =>
    cases h with
    | tup h1 h2 =>
      rw [hK] at h1
      rcases h1 with ⟨o, h1, _⟩ | ⟨o, its, n, h1, h3, _⟩
      · exact .fTuple h1
      · exact .kTuple h1 h3
  | dict kvs => cases h with | dct h1 _ _ => exact .fDict h1
def dIsi (T : String) (t : TEd) : TEd := fun ρ Q => t ρ fun s ρ1 => ∃ x, s = .d x ∧ Q (.d (.bool (isK T x))) ρ1
theorem kit_all {T : String} (h : T = "int" ∨ T = "bool" ∨ T = "str" ∨ T = "tuple" ∨ T = "list" ∨ T = "dict") (x : PyData) : kitB (kindOf x) T = some (isK T x) := by
  have dk : ∀ a ∈ ["NoneType", "bool", "int", "str", "list", "tuple", "dict"], ∀ b ∈ ["int", "bool", "str", "tuple", "list", "dict"], (kitB a b).isSome = true := by decide +kernel
  have hx : kindOf x ∈ ["NoneType", "bool", "int", "str", "list", "tuple", "dict"] := by cases x <;> simp [kindOf]
  have hT : T ∈ ["int", "bool", "str", "tuple", "list", "dict"] := by rcases h with h | h | h | h | h | h <;> subst h <;> simp
  have q := dk _ hx _ hT
  unfold isK
  cases e : kitB (kindOf x) T with
  | none => rw [e] at q; cases q
  | some b => rfl
theorem de_isi {T : Str} {Ts : String} (hK : L.K = X.K) (hg : Gl X "isinstance") (hm : X.mg "isinstance" = none) (hgT : Gl X T) (hmT : X.mg T = none) (hvT : bootBuiltins T = some (.type Ts)) (hT : Ts = "int" ∨ Ts = "bool" ∨ Ts = "str" ∨ Ts = "tuple" ∨ Ts = "list" ∨ Ts = "dict")
    (he : PE X e (tE L t)) (hv : bootBuiltins "isinstance" = some (.builtin "isinstance") := by decide +kernel) (hnT : T ≠ "__name__" := by decide) (hdT : (T == ("__debug__" : Str)) = false := by decide)
    (h1 : starEach (e :: [.Name T px]) X.env = (false, eval e X.env) :: starEach [.Name T px] X.env := by rfl) (h2 : starEach ([.Name T px]) X.env = (false, eval (.Name T px) X.env) :: starEach [] X.env := by rfl)
    (hpl : (backTo pos (starEach [.Name T px] X.env)).any (·.1) = false := by rfl) : PE X (.Call (.Name "isinstance" p) [e, .Name T px] [] pos) (tE L (dIsi Ts t)) :=
  (pe_callB call_isi hg hm hv (pa_cons he (pa_cons (pe_bltn (v := .ty Ts) hgT hmT hvT rfl hnT hdT) pa_nil h2) h1) (by decide) (by decide) h1 hpl).less fun σ H Q' q => by
    obtain ⟨ρ, Q, r, q, fin⟩ := q
    refine ⟨ρ, _, r, q, fun v H1 s ρ1 go r1 hv q1 => ?_⟩
    obtain ⟨x, rfl, q2⟩ := q1
    exact ⟨v, .ty Ts, .type (kindOf x), .type Ts, _, rfl, .ty Ts, ty_of hK (Bk.of hv), kit_ty (kit_all hT x), fin _ H1 (.d (.bool _)) ρ1 go r1 (.bl _) q2⟩
/-! a op b op' c -/
variable {a b c : Expr} {ta tb tc : TEd} {op op' : CmpOp} {f f' : F2}
def dChain (f f' : F2) (ta tb tc : TEd) : TEd := fun ρ Q => ta ρ fun s1 ρ1 => tb ρ1 fun s2 ρ2 => ∃ x y, s1 = .d x ∧ s2 = .d y ∧ f x y fun s => ∃ k, s = .d (.bool k) ∧
  if k = true then tc ρ2 fun s3 ρ3 => ∃ z, s3 = .d z ∧ f' y z fun s => Q s ρ3 else Q (.d (.bool false)) ρ2
theorem chain_read : ∀ σ H Q, tE L (dChain f f' ta tb tc) σ H Q → tChain (rD L f) (rD L f') (tE L ta) (tE L tb) (tE L tc) σ H Q := fun σ H Q' q => by
  obtain ⟨ρ, Q, r, q, fin⟩ := q
  refine ⟨ρ, _, r, q, fun v H1 s ρ1 k1 r1 hv q1 => ⟨ρ1, _, r1, q1, fun u H2 s2 ρ2 k2 r2 hu q2 => ?_⟩⟩
  obtain ⟨x, y, rfl, rfl, q3⟩ := q2
  refine ⟨x, y, _, Bk.of (Br.keep (k2.keep r1) _ _ hv), Bk.of hu, q3, fun w H3 s3 sm nr q4 => ?_⟩
  obtain ⟨k, rfl, q5⟩ := q4
  have nr : Br L.K H3 w (.bool k) := nr
  cases nr
  have g3 := (k1.tr k2).tr (Go.sm sm)
  have r3 := r2.go sm
  refine ⟨k, rfl, ?_⟩
  cases k with
  | false => exact iteF (fin _ H3 (.d (.bool false)) ρ2 g3 r3 (.bl _) (by simpa using q5))
  | true =>
    refine iteT ⟨ρ2, _, r3, by simpa using q5, fun z H4 s4 ρ4 k4 r4 hz q6 => ?_⟩
    obtain ⟨zd, rfl, q7⟩ := q6
    exact ⟨y, zd, _, Bk.of (Br.keep ((keep_of_same sm).tr (k4.keep r3)) _ _ hu), Bk.of hz, q7, fun w5 H5 s5 sm5 nr5 q8 => fin w5 H5 s5 ρ4 ((g3.tr k4).tr (Go.sm sm5)) (r4.go sm5) (nr5.vr r4 sm5 (g3.tr k4)) q8⟩
theorem de_chain (ho : OpR X (compareOp op) (rD L f)) (ho' : OpR X (compareOp op') (rD L f')) (ha : PE X a (tE L ta)) (hb : PE X b (tE L tb)) (hc : PE X c (tE L tc)) (hm : lastMarks [op, op'] [b, c] = false := by with_unfolding_all rfl) :
    PE X (.Compare a [op, op'] [b, c] pos) (tE L (dChain f f' ta tb tc)) := (pe_chain ho ho' ha hb hc hm).less chain_read
theorem dt_chain (ho : OpR X (compareOp op) (rD L f)) (ho' : OpR X (compareOp op') (rD L f')) (ha : PE X a (tE L ta)) (hb : PE X b (tE L tb)) (hc : PE X c (tE L tc)) (hm : lastMarks [op, op'] [b, c] = false := by with_unfolding_all rfl) :
    PT X (.Compare a [op, op'] [b, c] pos) (tT L (dB (dChain f f' ta tb tc))) := (pt_chain ho ho' ha hb hc hm).less (tT_of chain_read)
/-! -x -/
def dNeg (t : TEd) : TEd := fun ρ Q => t ρ fun s ρ1 => ∃ i, s = .d (.int i) ∧ Q (.d (.int (-i))) ρ1
theorem de_neg (h : PE X e (tE L t)) : PE X (.UnaryOp .USub e pos) (tE L (dNeg t)) := (pe_un un_neg h).less fun σ H Q' q => by
  obtain ⟨ρ, Q, r, q, fin⟩ := q
  refine ⟨ρ, _, r, q, fun v H1 s ρ1 go r1 hv q1 => ?_⟩
  obtain ⟨i, rfl, q2⟩ := q1
  have hv : Br L.K H1 v (.int i) := hv
  cases hv
  exact ⟨i, rfl, fin _ H1 (.d (.int (-i))) ρ1 go r1 (.int _) q2⟩
end
/-! what else lists do -/
section
variable {X : Cx} {L : Lay} {apos cpos : Pos} {o e e2 : Expr} {t t2 : TEd} {i : Nat}
def rExt (L : Lay) : V → List V → Hp → VK → Prop := fun x vs H Q => ∃ l xs z zs zv, x = .ref l ∧ vs = [z] ∧ H l = some (.lst xs) ∧ Bk L H z (.list zs) ∧ xs.length + zs.length ≤ sizeLine ∧ (∀ ws, BrA L.K H ws zs → ws.length = zs.length → zv = ws → Q .non (upd H l (.lst (xs ++ ws))))
theorem m_extend (hK : L.K = X.K) : MtM X "list.extend" (fun x vs H Q => ∃ l xs z zs, x = .ref l ∧ vs = [z] ∧ H l = some (.lst xs) ∧ Bk L H z (.list zs) ∧ xs.length + zs.length ≤ sizeLine ∧ ∀ ws, BrA L.K H ws zs → Q .non (upd H l (.lst (xs ++ ws)))) := by
  intro pins s σ H x vs v us Q I rx rv h
  obtain ⟨l, xs, z, zs, rfl, rfl, hH, hb, hz, q⟩ := h
  cases rx
  obtain ⟨u, rfl, ru⟩ := rv.one
  obtain ⟨b, ws, its2, n2, rfl, b2, r2, e2, z2⟩ := list_at hK I hb
  cases ru
  obtain ⟨z1, its, n, r, hl, e1⟩ := I.lstM hH
  have l2 := r2.length
  have lb := b2.len
  have hsz : its.toArray.size + its2.toArray.size ≤ sizeLine := by rw [List.size_toArray, List.size_toArray]; omega
  refine call_meets F.slot_list_extend ⟨_, e1, rfl⟩ F.entry_list_extend (F.args_list_extend_2 _ _)
    (AutoSeq1.list_extend_list_list_0 l its.toArray n b its2.toArray n2 (by rw [notLongL hsz, Bool.and_false]; exact Bool.false_ne_true) (by rw [List.size_toArray]; omega) (by omega)) ⟨e1, e2, ?_⟩
  exact ⟨.non, _, I.lset (its' := its ++ its2) hH e1 (by simp) (r.append r2) (by rw [List.length_append]; omega), rfl, q ws b2⟩
theorem de_extend (hK : L.K = X.K) (ho : PE X o (tVar i)) (he : PE X e (tE L t)) (hs : starEach [e] X.env = (false, eval e X.env) :: starEach [] X.env := by rfl) (hbase : attributeBase o "extend" X.env (eval o X.env) = eval o X.env := by rfl)
    (hfew : ((backTo cpos (starEach [e] X.env)).all (fun x => !x.1) && (backToKw cpos (keywordEach [] X.env)).all (fun x => x.1.isSome) && decide ([e].length + ([] : List Keyword).length + (if ([] : List Keyword).isEmpty then 0 else 1) < 30)) = true := by rfl)
    (hline : (apos.endLine == cpos.line) = true := by rfl) (hpl : (backTo cpos (starEach [] X.env)).any (·.1) = false := by rfl) : PE X (.Call (.Attribute o "extend" apos) [e] [] cpos) (tE L (dExtend i t)) :=
  (pe_bm PySem.F.plainAttrs_list PySem.F.slot_list_extend PySem.F.type_list_extend (mr_of (m_extend hK)) ho (pa_cons he pa_nil hs) hbase hfew hline hs hpl).less fun σ H Q' q => by
    obtain ⟨ρ, Q, r, ⟨⟨ys, ey⟩, q⟩, fin⟩ := q
    obtain ⟨l, vs, hi, hl, _⟩ := r.getO ey
    refine ⟨_, hi, own_ty (pins := []) hl, ρ, _, r, q, fun v H1 s ρ1 go r1 hv q1 => ?_⟩
    obtain ⟨zs, xs, rfl, ex, hz, q2⟩ := q1
    obtain ⟨l', ws, hi', hl', hb, _⟩ := r1.getO ex
    rw [hi] at hi'; cases hi'
    refine ⟨l, ws, v, zs, rfl, rfl, hl', Bk.of hv, by rw [hb.len]; exact hz, fun us hu => ?_⟩
    obtain ⟨r2, k2⟩ := r1.put ex hi hl' (hb.app hu)
    exact fin .non _ (.d .none) _ (go.put ey ex hi hl') r2 .non q2
def dInsert (i : Nat) (t t2 : TEd) : TEd := fun ρ Q => (∃ ys, ρ[i]? = some (.own ys)) ∧ t ρ fun s ρ1 => t2 ρ1 fun s2 ρ2 => ∃ j x xs, s = .d (.int j) ∧ s2 = .d x ∧ ρ2[i]? = some (.own xs) ∧ xs.length < sizeLine ∧ 0 ≤ j ∧ j < 2 ^ 62 ∧ Q (.d .none) (ρ2.set i (.own (xs.take j.toNat ++ [x] ++ xs.drop j.toNat)))
end
end GB

namespace GB
open PySem PySem.Spec PyProof.Rows L2

/-! the draws' store: a dict of one list and one int, known by name alone outside of the draws -/
def Shy : HO → Prop
  | .lst _ => True
  | .dK _ => True
  | .dT _ => True
  | .ext _ => True
  | _ => False
theorem swap_inv {X : Cx} {pins : List (Addr × Obj)} {σ : L2.St} {H : Hp} {s : Shared} (I : Inv X pins σ H s) {a : Addr} {u v : HO} (h : H a = some u) (l : Shy u) (new : ObjOk X.prog X.w (upd H a v) s.heap a v) : Inv X pins σ (upd H a v) s := by
  have nt : ∀ c xs, H c = some (.tup xs) → c ≠ a := fun c xs q z => by rw [z, h] at q; cases q; exact l
  have no : ∀ c y, H c = some (.own y) → c ≠ a := fun c y q z => by rw [z, h] at q; cases q; exact l
  have nf : ∀ c o' u', H c = some (.frz o' u') → c ≠ a := fun c o' u' q z => by rw [z, h] at q; cases q; exact l
  have nb : ∀ c ps, H c = some (.tbl ps) → c ≠ a := fun c ps q z => by rw [z, h] at q; cases q; exact l
  have un : Un X.fs [] H (upd H a v) s.heap s.heap := by
    refine ⟨fun b ob q _ _ _ => q, fun b ob q _ _ _ => ⟨ob.slots, q⟩, fun b ob q n _ => ?_, fun b ob q _ => ⟨ob, q⟩, fun b xs q => ?_, fun b ob xs q => ?_, fun b ps q => ⟨#[], ?_⟩⟩
    · rw [upd_ne (fun z => by rw [z, h] at n; cases n)]; exact n
    · rw [upd_ne (nt _ _ q)]; exact q
    · rw [upd_ne (nf _ _ _ q)]; exact q
    · rw [upd_ne (nb _ _ q), q]; simp
  have hok : HOk X.prog X.w (upd H a v) s.heap := fun b z q => by
    by_cases hb : b = a
    · subst hb
      rw [upd_same] at q; cases q
      exact new
    · rw [upd_ne hb] at q
      refine (I.hok b z q).stay (fun _ _ _ z => z) (fun c q => ?_) fun c xs q => ?_
      · rw [upd_ne (no _ _ q)]; exact q
      · rw [upd_ne (nt _ _ q)]; exact q
  exact I.un (t' := s.toks) un hok
/-- the store's dict, the list's place in it -/
def kvJ (nd ns : Str) (l : Addr) (st : Int) : List (Key × V) := [(.inr nd, .ref l), (.inr ns, .int st)]
def hoD (P : Program) (w : World) (nd ns : Str) (a l : Addr) : HO := .ext fun h => ∃ st : Int, (kvJ nd ns l st).length ≤ sizeLine ∧ (a == sysModules) = false ∧ ∃ vs, KV (kvJ nd ns l st) vs ∧ h.DictOf (mixKind P w) a vs
def hoL (l : Addr) : HO := .ext fun h => ∃ is : List Int, is.length ≤ sizeLine ∧ ∃ (its : List Value) (n : Nat), Vals (is.map V.int) its ∧ h.get? l = some { cls := .type "list", data := .seq its.toArray n }
section
variable {P : Program} {w : World} {nd ns : Str} {a l : Addr} {H : Hp} {h : Heap}
theorem hoD_ok {st : Int} (q : ObjOk P w H h a (.dK (kvJ nd ns l st))) : ObjOk P w H h a (hoD P w nd ns a l) := by
  obtain ⟨z, hs, vs, r, o, es, ep, e, c⟩ := q
  refine ⟨⟨st, z, hs, vs, r, o, es, ep, e, c⟩, ⟨o, e⟩, fun h1 h2 ⟨st', z', hs', vs', r', o', es', ep', e', c'⟩ k => ⟨st', z', hs', vs', r', o', es', ep', k _ e', c'⟩⟩
theorem hoL_ok {is : List Int} (q : ObjOk P w H h l (.lst (is.map V.int))) : ObjOk P w H h l (hoL l) := by
  obtain ⟨z, its, n, r, e⟩ := q
  rw [List.length_map] at z
  exact ⟨⟨is, z, its, n, r, e⟩, ⟨_, e⟩, fun h1 h2 ⟨is', z', its', n', r', e'⟩ k => ⟨is', z', its', n', r', k _ e'⟩⟩
end
/-- the store's fact -/
def JarOk (P : Program) (w : World) (nd ns : Str) (a : Addr) (H : Hp) : Prop := ∃ l, H a = some (hoD P w nd ns a l) ∧ H l = some (hoL l) ∧ l ≠ a
theorem jar_keep {P : Program} {w : World} {nd ns : Str} : ∀ a H H', Keep H H' → JarOk P w nd ns a H → JarOk P w nd ns a H' := fun a H H' k ⟨l, h1, h2, h3⟩ => ⟨l, k _ _ h1 trivial, k _ _ h2 trivial, h3⟩
section
variable {X : Cx} {nd ns : Str} {sts : List Stmt} {t : TS}
/-- a body that works on the store: opened at its begin, closed where it returns -/
def tOpen (P : Program) (w : World) (nd ns : Str) (t : TS) : TS := fun D σ H => ∃ a l, H a = some (hoD P w nd ns a l) ∧ H l = some (hoL l) ∧ l ≠ a ∧ ∀ (st : Int) (is : List Int),
  t { nx := fun _ _ => False, bk := fun _ _ => False, ct := fun _ _ => False, rt := fun v H' => (∃ (st' : Int) (is' : List Int), H' a = some (.dK (kvJ nd ns l st')) ∧ H' l = some (.lst (is'.map V.int))) ∧ D.rt v (upd (upd H' a (hoD P w nd ns a l)) l (hoL l)) } σ
    (upd (upd H a (.dK (kvJ nd ns l st))) l (.lst (is.map V.int)))
theorem close_inv {pins : List (Addr × Obj)} {σ : L2.St} {H : Hp} {s : Shared} (I : Inv X pins σ H s) {a l : Addr} {st : Int} {is : List Int} (h1 : H a = some (.dK (kvJ nd ns l st))) (h2 : H l = some (.lst (is.map V.int))) :
    Inv X pins σ (upd (upd H a (hoD X.prog X.w nd ns a l)) l (hoL l)) s := by
  have ne : l ≠ a := fun z => by rw [z, h1] at h2; cases h2
  have I1 := swap_inv I (v := hoD X.prog X.w nd ns a l) h1 trivial (hoD_ok (st := st) ((I.hok a _ h1).stay (fun _ _ _ z => z) (fun c q => by rw [upd_ne (fun z => by rw [z, h1] at q; cases q)]; exact q) fun c xs q => by rw [upd_ne (fun z => by rw [z, h1] at q; cases q)]; exact q))
  have e2 : (upd H a (hoD X.prog X.w nd ns a l)) l = some (.lst (is.map V.int)) := by rw [upd_ne ne]; exact h2
  exact swap_inv I1 (v := hoL l) e2 trivial (hoL_ok (is := is) ((I1.hok l _ e2).stay (fun _ _ _ z => z) (fun c q => by rw [upd_ne (fun z => by rw [z, e2] at q; cases q)]; exact q) fun c xs q => by rw [upd_ne (fun z => by rw [z, e2] at q; cases q)]; exact q))
theorem pss_open (h : PSs X sts t) : PSs X sts (tOpen X.prog X.w nd ns t) := by
  constructor
  intro pins s σ H D I q
  obtain ⟨a, l, ha, hl, ne, q⟩ := q
  obtain ⟨⟨st, z1, z2, vs, z3, o, es, ep, z4, z5⟩, _⟩ := I.hok a _ ha
  have I1 := swap_inv I (v := .dK (kvJ nd ns l st)) ha trivial ⟨z1, z2, vs, z3, o, es, ep, z4, z5⟩
  have e2 : (upd H a (.dK (kvJ nd ns l st))) l = some (hoL l) := by rw [upd_ne ne]; exact hl
  obtain ⟨⟨is, y1, its, n, y2, y3⟩, _⟩ := I1.hok l _ e2
  have I2 := swap_inv I1 (v := .lst (is.map V.int)) e2 trivial ⟨by rw [List.length_map]; exact y1, its, n, y2, y3⟩
  refine thn (h.run pins s σ _ _ I2 (q st is)) fun f s1 z => ?_
  match f, z with
  | .next, ⟨_, _, _, z⟩ => exact z.elim
  | .brk, ⟨_, _, _, z⟩ => exact z.elim
  | .cont, ⟨_, _, _, z⟩ => exact z.elim
  | .ret u, ⟨v, σ', H', I', rv, ⟨st', is', h1, h2⟩, q'⟩ => exact ⟨v, σ', _, close_inv I' h1 h2, rv, q'⟩
/-- a body that makes the store and returns it -/
def tMake (P : Program) (w : World) (nd ns : Str) (t : TS) : TS := fun D σ H =>
  t { nx := fun _ _ => False, bk := fun _ _ => False, ct := fun _ _ => False, rt := fun v H' => ∃ (a l : Addr) (st' : Int) (is' : List Int), v = .ref a ∧ H' a = some (.dK (kvJ nd ns l st')) ∧ H' l = some (.lst (is'.map V.int)) ∧ D.rt v (upd (upd H' a (hoD P w nd ns a l)) l (hoL l)) } σ H
theorem pss_make (h : PSs X sts t) : PSs X sts (tMake X.prog X.w nd ns t) := by
  constructor
  intro pins s σ H D I q
  refine thn (h.run pins s σ _ _ I q) fun f s1 z => ?_
  match f, z with
  | .next, ⟨_, _, _, z⟩ => exact z.elim
  | .brk, ⟨_, _, _, z⟩ => exact z.elim
  | .cont, ⟨_, _, _, z⟩ => exact z.elim
  | .ret u, ⟨v, σ', H', I', rv, a, l, st', is', e, h1, h2, q'⟩ => exact ⟨v, σ', _, close_inv I' h1 h2, rv, q'⟩
end
end GB

namespace GB
open PySem PySem.Spec PyProof.Rows L2

/-! more assignments -/
def dAsg (t : TEd) (g : DTG) : TSd := fun D ρ => t ρ fun s ρ1 => ∃ x, s = .d x ∧ g x ρ1 D.nx
def dPar3 (i j l : Nat) (t1 t2 t3 : TEd) : TSd := fun D ρ => t1 ρ fun s1 ρ1 => t2 ρ1 fun s2 ρ2 => t3 ρ2 fun s3 ρ3 => D.nx (((ρ3.set i s1).set j s2).set l s3)
section
variable {X : Cx} {L : Lay} {pos : Pos} {tg e a b c : Expr} {t t1 t2 t3 : TEd} {g : DTG}
theorem ds_asg (he : PE X e (tE L t)) (hg : PG X tg (tG L g)) (hw : swappedStores [tg] e X.env = pure none := by rfl) (hs : swapsWithSole [tg] e pos.line X.env = pure false := by rfl) (h1 : (assignEach [tg] X.env).map (·.2) = [assign tg X.env] := by rfl) :
    PS X (.Assign [tg] e pos) (tS L (dAsg t g)) := (ps_asg he hg hs hw h1).less fun D σ H q => by
  obtain ⟨ρ, De, r, q, n1, _⟩ := q
  refine ⟨ρ, _, r, q, fun v H1 s ρ1 go r1 hv q1 => ?_⟩
  obtain ⟨x, rfl, q2⟩ := q1
  exact ⟨ρ1, x, _, r1, hv, q2, fun σ' ρ' r' n => n1 _ _ _ (go.keep r) r' n⟩
theorem ds_par3 {i j l : Nat} {x y z : Str} {px py pz pt : Pos} {kt k2 pt2} (gd : Good X) (hi : X.N[i]? = some x) (hj : X.N[j]? = some y) (hl : X.N[l]? = some z) (hij : i ≠ j) (hil : i ≠ l) (hjl : j ≠ l)
    (hx : X.env.scope.names.lookup x = some .local) (hy : X.env.scope.names.lookup y = some .local) (hz : X.env.scope.names.lookup z = some .local) (ha : PE X a (tE L t1)) (hb : PE X b (tE L t2)) (hc : PE X c (tE L t3))
    (hw : swappedStores [.Tuple [.Name x px, .Name y py, .Name z pz] kt pt] (.Tuple [a, b, c] k2 pt2) X.env = pure (some [x, y, z]))
    (h1 : starEach [a, b, c] X.env = (false, eval a X.env) :: starEach [b, c] X.env := by rfl) (h2 : starEach [b, c] X.env = (false, eval b X.env) :: starEach [c] X.env := by rfl) (h3 : starEach [c] X.env = (false, eval c X.env) :: starEach [] X.env := by rfl)
    (hs : swapsWithSole [.Tuple [.Name x px, .Name y py, .Name z pz] kt pt] (.Tuple [a, b, c] k2 pt2) pos.line X.env = pure false := by rfl) :
    PS X (.Assign [.Tuple [.Name x px, .Name y py, .Name z pz] kt pt] (.Tuple [a, b, c] k2 pt2) pos) (tS L (dPar3 i j l t1 t2 t3)) :=
  (ps_par3 gd.calm gd.nd hi hj hl hij hil hjl hx hy hz (pa_cons ha (pa_cons hb (pa_cons hc pa_nil h3) h2) h1) hw hs).less fun D σ H q => by
    obtain ⟨ρ, De, r, q, n1, _⟩ := q
    refine ⟨ρ, _, r, q, fun v H1 s ρ1 go r1 hv q1 => ⟨ρ1, _, r1, q1, fun w H2 s2 ρ2 go2 r2 hw q2 => ⟨ρ2, _, r2, q2, fun u H3 s3 ρ3 go3 r3 hu q3 => ⟨v, w, u, rfl, ?_⟩⟩⟩⟩
    have gg := (go.tr go2).tr go3
    have hv3 := hv.later r go r1 (go2.tr go3)
    have hw3 := hw.later r1 go2 r2 go3
    have ra := r3.put1 (j := i) (r.old gg) hv3
    have oa := (r.old gg).set (Hm := H1) (i := i) go.dom hv.there
    have rb := ra.put1 (j := j) oa hw3
    have ob := oa.set (Hm := H2) (i := j) go2.dom hw.there
    have rc := rb.put1 (j := l) ob hu
    exact n1 _ _ _ (gg.keep r) rc q3
/-! rows of numbers -/
def dListRng (t : TEd) : TEd := fun ρ Q => t ρ fun s ρ1 => ∃ n, s = .d (.int n) ∧ 0 ≤ n ∧ n ≤ 16777216 ∧ Q (.own (irow 0 n.toNat)) ρ1
theorem rg_br {K : PySem.W.Frag} {H : Hp} : ∀ (is : List Nat) (lo : Int), BrA K H (is.map fun i => V.int (lo + (i : Nat))) (is.map fun (i : Nat) => PyData.int (lo + i))
  | [], _ => .nil
  | _ :: is, lo => .cons (.int _) (rg_br is lo)
theorem de_listRng {p p2 pos pos2 : Pos} (gd : Good X) (hl : Gl X "list") (ml : X.mg "list" = none) (hg : Gl X "range") (hm : X.mg "range" = none) (he : PE X e (tE L t)) (na : starEach [e] X.env = (false, eval e X.env) :: starEach [] X.env := by rfl)
    (nb : starEach [.Call (.Name "range" p) [e] [] pos] X.env = (false, eval (.Call (.Name "range" p) [e] [] pos) X.env) :: starEach [] X.env := by rfl) : PE X (.Call (.Name "list" p2) [.Call (.Name "range" p) [e] [] pos] [] pos2) (tE L (dListRng t)) :=
  (pe_listRg gd.calm hl ml (prg_1 hg hm he na) nb).less fun σ H Q' q => by
    obtain ⟨ρ, Q, r, q, fin⟩ := q
    refine ⟨ρ, _, r, q, fun v H1 s ρ1 go r1 hv q1 => ?_⟩
    obtain ⟨n, rfl, h0, hn, q2⟩ := q1
    have hv : Br L.K H1 v (.int n) := hv
    cases hv
    refine ⟨n, rfl, ?_⟩
    · refine ⟨.of_le (by omega) hn (by omega) h0, fun p hp => ?_⟩
      have e : rgV 0 n = (List.range n.toNat).map fun i => V.int (0 + (i : Nat)) := by unfold rgV; rw [Int.sub_zero]
      exact fin _ _ (.own _) ρ1 (go.tr (Go.sm (same_new hp))) (r1.go (same_new hp)) (NR.vr (s := .own _) r1 (same_new hp) go ⟨p, _, rfl, hp, upd_same, by rw [e]; exact rg_br _ 0⟩) q2
end
/-! dicts as they stand -/
def dDict0 : TEd := fun ρ Q => Q (.d (.dict [])) ρ
def dDict1 (k : Str) (t : TEd) : TEd := fun ρ Q => t ρ fun s ρ1 => ∃ x, s = .d x ∧ Q (.d (.dict [(.str k, x)])) ρ1
section
variable {X : Cx} {L : Lay} {pos p2 : Pos} {e : Expr} {t : TEd} {σ : L2.St} {ρ : En} {H : Hp}
theorem Rel.fixNew {l : Addr} {u : HO} {o : Obj} (r : Rel L H σ ρ) (hn : H l = none) : Rel L (upd H l (.frz o u)) σ ρ ∧ Same H (upd H l (.frz o u)) := ⟨r.go (same_new hn), same_new hn⟩
theorem de_dict0 (gd : Good X) : PE X (.Dict [] [] pos) (tE L dDict0) := by
  constructor
  intro pins s σ H Q' I q
  obtain ⟨ρ, Q, r, q, fin⟩ := q
  refine thn (pe_dnewK.run pins s σ H (fun v H1 => ∃ p, v = .ref p ∧ H p = none ∧ H1 = upd H p (.dK [])) I fun p hp => ⟨p, rfl, hp, rfl⟩) fun u s1 z => ?_
  obtain ⟨v, H1, I1, rv, p, rfl, hp, rfl⟩ := z
  obtain ⟨o, I2⟩ := fix_inv I1 upd_same trivial
  rw [upd_upd] at I2
  obtain ⟨r2, sm⟩ := r.fixNew (u := .dK []) (o := o) hp
  exact ⟨.ref p, _, I2, rv, fin _ _ (.d (.dict [])) ρ (Go.sm sm) r2 (.dct upd_same rfl .nil) q⟩
theorem de_dict1 {k : Str} {j : Nat} (gd : Good X) (h : PE X e (tE L t)) : PE X (.Dict [some (.Constant (.str k) j p2)] [e] pos) (tE L (dDict1 k t)) := by
  constructor
  intro pins s σ H Q' I q
  obtain ⟨ρ, Q, r, q, fin⟩ := q
  have core := (pe_disp (pos := pos) (pps_cons (pos := pos) (pe_str (x := k) (j := j) (pos := p2)) h pps_nil) rfl rfl (by simp) (by simp)).run pins s σ H
    (fun v H1 => ∃ p w x ρ' H2, v = .ref p ∧ H p = none ∧ H1 = upd H2 p (.dK [(.inr k, w)]) ∧ H2 p = some (.dK []) ∧ Go σ ρ ρ' (upd H p (.dK [])) H2 ∧ Rel L H2 σ ρ' ∧ Br L.K H2 w x ∧ Q (.d (.dict [(.str k, x)])) ρ') I fun p hp => ?_
  · refine thn core fun u s1 z => ?_
    obtain ⟨v, H1, I1, rv, p, w, x, ρ', H2, rfl, hp, rfl, h2, go, r2, hw, q2⟩ := z
    obtain ⟨o, I2⟩ := fix_inv I1 upd_same trivial
    rw [upd_upd] at I2
    have kp : Keep H2 (upd H2 p (.frz o (.dK [(.inr k, w)]))) := keep_put h2 trivial
    have h0 : L.H0 p = none := r.same.free hp
    have out : ∀ (i : Nat) (ys : Ow), ρ'[i]? = some (.ow ys) → σ[i]? ≠ some (some (.ref p)) := fun i ys e z => by
      obtain ⟨zs, e'⟩ := go.less i ys e
      obtain ⟨l', vs', q1, q2, _⟩ := r.getW e'
      rw [z] at q1; cases q1
      rw [hp] at q2; cases q2
    have rel : Rel L (upd H2 p (.frz o (.dK [(.inr k, w)]))) σ ρ' := by
      refine ⟨r2.len, fun j z e => ?_, r2.sep, same_fix r2.same h0⟩
      have q := r2.at' j z e
      cases z with
      | un => trivial
      | d x => obtain ⟨v, e2, q⟩ := q; exact ⟨v, e2, Br.keep kp _ _ q⟩
      | ow zs =>
        obtain ⟨v, e2, q⟩ := q
        refine ⟨v, e2, q.keep kp fun m u' em hu => (upd_ne fun z => ?_).trans hu⟩
        subst em; subst z
        obtain ⟨w', e4, _⟩ := r2.get e
        rw [e4] at e2
        refine out j zs e ?_
        rw [e4]
        exact congrArg some (show w' = some (V.ref m) from e2)
      | ob t => obtain ⟨a, e2, q⟩ := q; exact ⟨a, e2, L.J.keep _ _ _ _ kp q⟩
    refine ⟨.ref p, _, I2, rv, fin _ _ (.d (.dict [(.str k, x)])) ρ' ⟨fun a o' q n => ?_, go.less, fun a q => ?_⟩ rel (.dct upd_same rfl (.cons (Br.keep kp _ _ hw) .nil)) q2⟩
    · have ne : a ≠ p := fun z => by rw [z, hp] at q; cases q
      rw [upd_ne ne]
      exact go.stay a o' (by rw [upd_ne ne]; exact q) n
    · by_cases z : a = p
      · rw [z]; exact hp
      · rw [upd_ne z] at q
        have := go.dom a q
        rw [upd_ne z] at this; exact this
  · refine ⟨ρ, _, r.go (same_new hp), q, fun w H2 s ρ' go r2 hw q2 => ?_⟩
    obtain ⟨x, rfl, q3⟩ := q2
    have h2 : H2 p = some (.dK []) := go.stay p _ upd_same fun i ys e z => by
      obtain ⟨l', vs', q1, q2, _⟩ := r.getW e
      rw [z] at q1; cases q1
      rw [hp] at q2; cases q2
    exact ⟨h2, [(.inr k, w)], rfl, by simp, p, w, x, ρ', H2, rfl, hp, rfl, h2, go, r2, hw, q3⟩
end
end GB

namespace GB
open PySem PySem.Spec PyProof.Rows L2

/-! the draws' store: a dict with one list of ints and some ints; closed (known by name alone) outside of each step -/
def KvOk (nd : Str) (ks : List Str) (l : Addr) (kvs : List (Key × V)) : Prop := kvs.length ≤ 15 ∧ valV kvs (.inr nd) = some (.ref l) ∧ ∀ k ∈ ks, ∃ n : Int, valV kvs (.inr k) = some (.int n)
def hoQ (P : Program) (w : World) (nd : Str) (ks : List Str) (a l : Addr) : HO := .ext fun h => ∃ kvs, KvOk nd ks l kvs ∧ (a == sysModules) = false ∧ ∃ vs, KV kvs vs ∧ h.DictOf (mixKind P w) a vs
def StoOk (P : Program) (w : World) (nd : Str) (ks : List Str) (a : Addr) (H : Hp) : Prop := ∃ l, H a = some (hoQ P w nd ks a l) ∧ H l = some (hoL l) ∧ l ≠ a
theorem sto_keep {P : Program} {w : World} {nd : Str} {ks : List Str} : ∀ a H H', Keep H H' → StoOk P w nd ks a H → StoOk P w nd ks a H' := fun a H H' k ⟨l, h1, h2, h3⟩ => ⟨l, k _ _ h1 trivial, k _ _ h2 trivial, h3⟩
theorem le_line {n : Nat} (h : n ≤ 15) : n ≤ sizeLine := Nat.le_trans h (by decide)
theorem hoQ_ok {P : Program} {w : World} {nd : Str} {ks : List Str} {a l : Addr} {H : Hp} {h : Heap} {kvs : List (Key × V)} (k : KvOk nd ks l kvs) (q : ObjOk P w H h a (.dK kvs)) : ObjOk P w H h a (hoQ P w nd ks a l) := by
  obtain ⟨z, hs, vs, r, o, es, ep, e, c⟩ := q
  refine ⟨⟨kvs, k, hs, vs, r, o, es, ep, e, c⟩, ⟨o, e⟩, fun h1 h2 ⟨kvs', k', hs', vs', r', o', es', ep', e', c'⟩ kk => ⟨kvs', k', hs', vs', r', o', es', ep', kk _ e', c'⟩⟩
def opn (H : Hp) (a l : Addr) (kvs : List (Key × V)) (is : List Int) : Hp := upd (upd H a (.dK kvs)) l (.lst (is.map V.int))
def cls (P : Program) (w : World) (nd : Str) (ks : List Str) (H : Hp) (a l : Addr) : Hp := upd (upd H a (hoQ P w nd ks a l)) l (hoL l)
/-- the store stands open at a, l -/
structure Opn (nd : Str) (ks : List Str) (H : Hp) (a l : Addr) (kvs : List (Key × V)) (is : List Int) : Prop where
  ha : H a = some (.dK kvs)
  hl : H l = some (.lst (is.map V.int))
  kv : KvOk nd ks l kvs
theorem Opn.ne {nd : Str} {ks : List Str} {H : Hp} {a l : Addr} {kvs : List (Key × V)} {is : List Int} (o : Opn nd ks H a l kvs is) : l ≠ a := fun z => by
  have h := o.hl
  rw [z, o.ha] at h; cases h
section
variable {X : Cx} {nd : Str} {ks : List Str} {e : Expr} {st : Stmt} {sts : List Stmt} {t : TE} {tt : TT} {ts : TS}
theorem close_of {pins : List (Addr × Obj)} {σ : L2.St} {H : Hp} {s : Shared} (I : Inv X pins σ H s) {a l : Addr} {kvs : List (Key × V)} {is : List Int} (o : Opn nd ks H a l kvs is) : Inv X pins σ (cls X.prog X.w nd ks H a l) s := by
  have h1 := o.ha
  have h2 := o.hl
  have ne := o.ne
  have I1 := swap_inv I (v := hoQ X.prog X.w nd ks a l) h1 trivial (hoQ_ok o.kv ((I.hok a _ h1).stay (fun _ _ _ z => z) (fun c q => by rw [upd_ne (fun z => by rw [z, h1] at q; cases q)]; exact q) fun c xs q => by rw [upd_ne (fun z => by rw [z, h1] at q; cases q)]; exact q))
  have e2 : (upd H a (hoQ X.prog X.w nd ks a l)) l = some (.lst (is.map V.int)) := by rw [upd_ne ne]; exact h2
  exact swap_inv I1 (v := hoL l) e2 trivial (hoL_ok (is := is) ((I1.hok l _ e2).stay (fun _ _ _ z => z) (fun c q => by rw [upd_ne (fun z => by rw [z, e2] at q; cases q)]; exact q) fun c xs q => by rw [upd_ne (fun z => by rw [z, e2] at q; cases q)]; exact q))
theorem open_of {pins : List (Addr × Obj)} {σ : L2.St} {H : Hp} {s : Shared} (I : Inv X pins σ H s) {a l : Addr} (ha : H a = some (hoQ X.prog X.w nd ks a l)) (hl : H l = some (hoL l)) (ne : l ≠ a) :
    ∃ kvs is, KvOk nd ks l kvs ∧ is.length ≤ sizeLine ∧ Inv X pins σ (opn H a l kvs is) s := by
  obtain ⟨⟨kvs, z1, z2, vs, z3, o, es, ep, z4, z5⟩, _⟩ := I.hok a _ ha
  have I1 := swap_inv I (v := .dK kvs) ha trivial ⟨le_line z1.1, z2, vs, z3, o, es, ep, z4, z5⟩
  have e2 : (upd H a (.dK kvs)) l = some (hoL l) := by rw [upd_ne ne]; exact hl
  obtain ⟨⟨is, y1, its, n, y2, y3⟩, _⟩ := I1.hok l _ e2
  have I2 := swap_inv I1 (v := .lst (is.map V.int)) e2 trivial ⟨by rw [List.length_map]; exact y1, its, n, y2, y3⟩
  exact ⟨kvs, is, z1, y1, I2⟩
/-- what is read of an opened store -/
def Opens (P : Program) (w : World) (nd : Str) (ks : List Str) (H : Hp) (go : Hp → Addr → Addr → List (Key × V) → List Int → Prop) : Prop :=
  ∃ a l, H a = some (hoQ P w nd ks a l) ∧ H l = some (hoL l) ∧ l ≠ a ∧ ∀ kvs is, is.length ≤ sizeLine → Opn nd ks (opn H a l kvs is) a l kvs is → go (opn H a l kvs is) a l kvs is
theorem opens_inv {pins : List (Addr × Obj)} {σ : L2.St} {H : Hp} {s : Shared} (I : Inv X pins σ H s) {go : Hp → Addr → Addr → List (Key × V) → List Int → Prop} (h : Opens X.prog X.w nd ks H go) :
    ∃ a l kvs is, Inv X pins σ (opn H a l kvs is) s ∧ go (opn H a l kvs is) a l kvs is := by
  obtain ⟨a, l, ha, hl, ne, q⟩ := h
  obtain ⟨kvs, is, k, z, I2⟩ := open_of I ha hl ne
  exact ⟨a, l, kvs, is, I2, q kvs is z ⟨by unfold opn; rw [upd_ne (Ne.symm ne), upd_same], upd_same, k⟩⟩
theorem pe_open (h : PE X e t) : PE X e (fun σ H Q => Opens X.prog X.w nd ks H fun H1 _ _ _ _ => t σ H1 Q) := ⟨fun pins s σ H Q I q => by
  obtain ⟨a, l, kvs, is, I2, q⟩ := opens_inv I q
  exact h.run pins s σ _ Q I2 q⟩
theorem pe_opened (h : PE X e t) : PE X e (fun σ H Q => t σ H fun v H1 => Opens X.prog X.w nd ks H1 fun H2 _ _ _ _ => Q v H2) := ⟨fun pins s σ H Q I q => by
  refine thn (h.run pins s σ H _ I q) fun u s1 z => ?_
  obtain ⟨v, H1, I1, rv, q1⟩ := z
  obtain ⟨a, l, kvs, is, I2, q2⟩ := opens_inv I1 q1
  exact ⟨v, _, I2, rv, q2⟩⟩
theorem pe_closed (h : PE X e t) : PE X e (fun σ H Q => t σ H fun v H1 => ∃ a l kvs is, Opn nd ks H1 a l kvs is ∧ Q v (cls X.prog X.w nd ks H1 a l)) := ⟨fun pins s σ H Q I q => by
  refine thn (h.run pins s σ H _ I q) fun u s1 z => ?_
  obtain ⟨v, H1, I1, rv, a, l, kvs, is, o, q2⟩ := z
  exact ⟨v, _, close_of I1 o, rv, q2⟩⟩
theorem pss_closing (h : PSs X sts ts) : PSs X sts (fun D σ H => ∃ a l kvs is, Opn nd ks H a l kvs is ∧ ts D σ (cls X.prog X.w nd ks H a l)) := ⟨fun pins s σ H D I q => by
  obtain ⟨a, l, kvs, is, o, q⟩ := q
  exact h.run pins s σ _ D (close_of I o) q⟩
theorem ps_open (h : PS X st ts) : PS X st (fun D σ H => Opens X.prog X.w nd ks H fun H1 _ _ _ _ => ts D σ H1) := ⟨fun pins s σ H D I q => by
  obtain ⟨a, l, kvs, is, I2, q⟩ := opens_inv I q
  exact h.run pins s σ _ D I2 q⟩
theorem ps_closed (h : PS X st ts) : PS X st (fun D σ H => ts { D with nx := fun σ1 H1 => ∃ a l kvs is, Opn nd ks H1 a l kvs is ∧ D.nx σ1 (cls X.prog X.w nd ks H1 a l) } σ H) := ⟨fun pins s σ H D I q => by
  refine thn (h.run pins s σ H _ I q) fun f s1 z => ?_
  match f, z with
  | .next, ⟨σ1, H1, I1, a, l, kvs, is, o, q2⟩ => exact ⟨σ1, _, close_of I1 o, q2⟩
  | .brk, z => exact z
  | .cont, z => exact z
  | .ret u, z => exact z⟩
end
/-- closed again: the heap as it was, but for what is new -/
theorem cls_opn {P : Program} {w : World} {nd : Str} {ks : List Str} {H H1 : Hp} {a l : Addr} (ha : H a = some (hoQ P w nd ks a l)) (hl : H l = some (hoL l)) (h : ∀ b, b ≠ a → b ≠ l → H1 b = H b) : cls P w nd ks H1 a l = H := by
  funext b
  unfold cls
  by_cases h1 : b = l
  · subst h1; rw [upd_same, hl]
  · rw [upd_ne h1]
    by_cases h2 : b = a
    · subst h2; rw [upd_same, ha]
    · rw [upd_ne h2]; exact h b h2 h1
theorem opn_off {H : Hp} {a l : Addr} {kvs : List (Key × V)} {is : List Int} {b : Addr} (h1 : b ≠ a) (h2 : b ≠ l) : opn H a l kvs is b = H b := by unfold opn; rw [upd_ne h2, upd_ne h1]
end GB

namespace GB
open PySem PySem.Spec PyProof.Rows L2

theorem ints_lay : ∀ is : List Int, PyData.canLayAll0 (is.map PyData.int) = true
  | [] => rfl
  | i :: is => by simp [PyData.canLayAll0, PyData.canLay0, ints_lay is]
theorem ints_deep : ∀ is : List Int, PyData.depthAll (is.map PyData.int) ≤ 1
  | [] => by simp [PyData.depthAll]
  | i :: is => by have := ints_deep is; simp [PyData.depthAll, PyData.depth]; omega
theorem ints_shaped (is : List Int) : SeqAt.shaped (.list (is.map PyData.int)) = true := by
  have := ints_deep is
  simp [SeqAt.shaped, PyData.canLay0, PyData.depth, ints_lay is]; omega
theorem ints_dp {K : PySem.W.Frag} {H : Hp} : ∀ is : List Int, DpAll K H (is.map V.int) (is.map PyData.int)
  | [] => .nil
  | _ :: is => .cons (.int _) (ints_dp is)
theorem ints_empty : ∀ is : List Int, PyData.eqv (.list (is.map PyData.int)) (.list []) = is.isEmpty
  | [] => rfl
  | _ :: _ => rfl
/-- a number of the store -/
def dJInt (i : Nat) : TEd := fun ρ Q => ρ[i]? = some (.ob .jar) ∧ ∀ n : Int, Q (.d (.int n)) ρ
/-- a number put into the store -/
def dJPut (i : Nat) (t : TEd) : TSd := fun D ρ => t ρ fun s ρ1 => ∃ n, s = .d (.int n) ∧ ρ1[i]? = some (.ob .jar) ∧ D.nx ρ1
/-- a digit of the store's last (first) number, where there is one -/
def dJPop (i iw im : Nat) (tb : TSd) : TSd := fun D ρ => ρ[i]? = some (.ob .jar) ∧ (∃ m : Int, ρ[im]? = some (.d (.int m)) ∧ 0 < m ∧ m < 1073741824) ∧ iw < ρ.length ∧ iw ≠ i ∧ iw ≠ im ∧ (∀ n : Int, tb { D with nx := fun _ => False } (ρ.set iw (.d (.int n)))) ∧ D.nx ρ
section
variable {X : Cx} {L : Lay} {nd : Str} {ks : List Str} {e o o1 o2 o3 : Expr} {pos p1 p2 : Pos} {i j : Nat} {t : TEd} {H : Hp} {σ : L2.St} {ρ : En}
theorem de_jint {k : Str} (gd : Good X) (hJ : ∀ a H, L.J.ok .jar a H → StoOk X.prog X.w nd ks a H) (hk : k ∈ ks) (ho : PE X o (tVar i)) (hs : NoSl (.Constant (.str k) j p1) := by intro _ _; rfl) : PE X (.Subscript o (.Constant (.str k) j p1) pos) (tE L (dJInt i)) :=
  (pe_open (nd := nd) (ks := ks) (pe_closed (nd := nd) (ks := ks) (pe_dget (by have := gd.un; omega) ho pe_str hs))).less fun σ H Q' q => by
    obtain ⟨ρ, Q, r, ⟨ej, q⟩, fin⟩ := q
    obtain ⟨o, e2, a, rfl, ja⟩ := r.get ej
    obtain ⟨l, ha, hl, ne⟩ := hJ a H ja
    refine ⟨a, l, ha, hl, ne, fun kvs is z op => ?_⟩
    obtain ⟨n, hn⟩ := op.kv.2.2 k hk
    refine ⟨.ref a, e2, a, .int n, rfl, ?_, a, l, kvs, is, op, ?_⟩
    · rw [← hn]; exact DGet.k (k := .inr k) op.ha
    · rw [cls_opn ha hl fun b h1 h2 => opn_off h1 h2]
      exact fin _ _ (.d (.int n)) ρ Go.rf r (.int n) (q n)
theorem kv_put {l : Addr} {kvs : List (Key × V)} {k : Str} {n : Int} (h : KvOk nd ks l kvs) (hk : k ∈ ks) (hn : k ≠ nd) : KvOk nd ks l (putK kvs (.inr k) (.int n)) := by
  obtain ⟨h1, h2, h3⟩ := h
  obtain ⟨n0, e0⟩ := h3 k hk
  refine ⟨?_, ?_, fun k' hk' => ?_⟩
  · unfold putK; rw [if_pos (by rw [valV_any, e0]; rfl), List.length_map]; exact h1
  · rw [valV_put, if_neg (fun z => by cases z; exact hn rfl)]; exact h2
  · rw [valV_put]
    split
    · exact ⟨n, rfl⟩
    · exact h3 k' hk'
theorem ds_jput {k : Str} {v : Expr} (gd : Good X) (hJ : ∀ a H, L.J.ok .jar a H → StoOk X.prog X.w nd ks a H) (hk : k ∈ ks) (hn : k ≠ nd) (ho : PE X o (tVar i)) (hv : PE X v (tE L t))
    (hw : swapsWith v (some (.Subscript o (.Constant (.str k) j p1) p2)) pos.line X.env = pure false := by rfl) (hs : NoSl (.Constant (.str k) j p1) := by intro _ _; rfl) :
    PS X (.Assign [.Subscript o (.Constant (.str k) j p1) p2] v pos) (tS L (dJPut i t)) :=
  (ps_closed (nd := nd) (ks := ks) (ps_dput (by have := gd.un; omega) ho pe_str (pe_opened (nd := nd) (ks := ks) hv) hw)).less fun D σ H q => by
    obtain ⟨ρ, De, r, q, n1, _⟩ := q
    refine ⟨ρ, _, r, q, fun v H1 s ρ1 go r1 hv q1 => ?_⟩
    obtain ⟨n, rfl, ej, q2⟩ := q1
    have hv : Br L.K H1 v (.int n) := hv
    cases hv
    obtain ⟨o, e2, a, rfl, ja⟩ := r1.get ej
    obtain ⟨l, ha, hl, ne⟩ := hJ a H1 ja
    refine ⟨a, l, ha, hl, ne, fun kvs is z op => ⟨.ref a, e2, a, _, rfl, DPut.k (k := .inr k) op.ha (Nat.lt_of_le_of_lt op.kv.1 (by decide)), a, l, _, is, ⟨upd_same, by rw [upd_ne op.ne]; exact op.hl, kv_put op.kv hk hn⟩, ?_⟩⟩
    rw [cls_opn ha hl fun b h1 h2 => by rw [upd_ne h1]; exact opn_off h1 h2]
    exact n1 _ _ _ (go.keep r) r1 q2
/-- what comes behind the digit -/
theorem jpop_end {P : Program} {w : World} (r : Rel L H σ ρ) {a l p : Addr} {kvs : List (Key × V)} {is js : List Int} {iw : Nat} {n : Int} {H3 : Hp} {tb : TSd} {D : Ends} {De : EndsD} (ha : H a = some (hoQ P w nd ks a l)) (hl : H l = some (hoL l)) (op : Opn nd ks (opn H a l kvs is) a l kvs is) (hp : opn H a l kvs is p = none)
    (h3 : H3 = upd (upd (opn H a l kvs is) p (.lst [])) l (.lst (js.map V.int))) (qn : tb { De with nx := fun _ => False } (ρ.set iw (.d (.int n))))
    (n2 : ∀ v H' s, Keep H H' → Same L.H0 H' → RR L H' v s → De.rt s → D.rt v H') (n3 : ∀ σ' H' ρ', Keep H H' → Rel L H' σ' ρ' → De.bk ρ' → D.bk σ' H') (n4 : ∀ σ' H' ρ', Keep H H' → Rel L H' σ' ρ' → De.ct ρ' → D.ct σ' H') (nx : L2.St → Hp → Prop) :
    ∃ a l kvs is, Opn nd ks H3 a l kvs is ∧ tS L tb { D with nx := nx } (σ.set iw (some (.int n))) (cls P w nd ks H3 a l) := by
  have pa : p ≠ a := fun z => by rw [z, op.ha] at hp; cases hp
  have pl : p ≠ l := fun z => by rw [z, op.hl] at hp; cases hp
  have hp0 : H p = none := (opn_off pa pl).symm.trans hp
  refine ⟨a, l, kvs, js, ⟨?_, ?_, op.kv⟩, ?_⟩
  · rw [h3, upd_ne (Ne.symm op.ne), upd_ne (Ne.symm pa)]; exact op.ha
  · rw [h3, upd_same]
  · have ec : cls P w nd ks H3 a l = upd H p (.lst []) := cls_opn (H := upd H p (.lst [])) (by rw [upd_ne (Ne.symm pa)]; exact ha) (by rw [upd_ne (Ne.symm pl)]; exact hl) fun b h1 h2 => by
      rw [h3, upd_ne h2]
      by_cases hb : b = p
      · subst hb; rw [upd_same, upd_same]
      · rw [upd_ne hb, upd_ne hb]; exact opn_off h1 h2
    have sm : Same H (upd H p (.lst [])) := same_new hp0
    have kp : Keep H (upd H p (.lst [])) := keep_of_same sm
    rw [ec]
    exact ⟨_, _, (r.go sm).setF (s := .d (.int n)) (.int n), qn, fun _ _ _ _ _ n => n.elim, fun v H' s k => n2 v H' s (kp.tr k), fun σ' H' ρ' k => n3 σ' H' ρ' (kp.tr k), fun σ' H' ρ' k => n4 σ' H' ρ' (kp.tr k)⟩
end
end GB

namespace GB
open PySem PySem.Spec PyProof.Rows L2

section
variable {X : Cx} {L : Lay} {nd x : Str} {ks : List Str} {o1 o2 o3 w1 m1 w2 m2 : Expr} {pos p1 p2 p3 p4 p5 p6 p7 p8 p9 p10 p11 p12 p13 p14 p15 p16 p17 p18 p19 p20 : Pos} {i j1 j2 j3 j4 j5 iw im : Nat} {rest : List Stmt} {tb : TSd}
/-- while there is a great number, a digit of the last one -/
theorem ds_jpop (gd : Good X) (hJ : ∀ a H, L.J.ok .jar a H → StoOk X.prog X.w nd ks a H) (hx : X.N[iw]? = some x) (hxl : X.env.scope.names.lookup x = some .local)
    (ho1 : PE X o1 (tVar i)) (ho2 : PE X o2 (tVar i)) (ho3 : PE X o3 (tVar i)) (hw1 : PE X w1 (tVar iw)) (hm1 : PE X m1 (tVar im)) (hw2 : PE X w2 (tVar iw)) (hm2 : PE X m2 (tVar im)) (hr : PSs X rest (tS L tb))
    (hn1 : NoSl (.Constant (.str nd) j1 p1) := by intro _ _; rfl) (hn2 : NoSl (.Constant (.str nd) j2 p6) := by intro _ _; rfl) (hn3 : NoSl (.Constant (.str nd) j3 p12) := by intro _ _; rfl)
    (hb1 : attributeBase (.Subscript o2 (.Constant (.str nd) j2 p6) p7) "pop" X.env (eval (.Subscript o2 (.Constant (.str nd) j2 p6) p7) X.env) = eval (.Subscript o2 (.Constant (.str nd) j2 p6) p7) X.env := by rfl) (li1 : (p8.endLine == p9.line) = true := by rfl)
    (hb2 : attributeBase (.Subscript o3 (.Constant (.str nd) j3 p12) p13) "append" X.env (eval (.Subscript o3 (.Constant (.str nd) j3 p12) p13) X.env) = eval (.Subscript o3 (.Constant (.str nd) j3 p12) p13) X.env := by rfl)
    (fw2 : ((backTo p16 (starEach [.BinOp w2 .FloorDiv m2 p15] X.env)).all (fun x => !x.1) && (backToKw p16 (keywordEach [] X.env)).all (fun x => x.1.isSome) && decide (([.BinOp w2 .FloorDiv m2 p15] : List Expr).length + ([] : List Keyword).length + (if ([] : List Keyword).isEmpty then 0 else 1) < 30)) = true := by rfl)
    (li2 : (p14.endLine == p16.line) = true := by rfl) (st2 : starEach [.BinOp w2 .FloorDiv m2 p15] X.env = (false, eval (.BinOp w2 .FloorDiv m2 p15) X.env) :: starEach [] X.env := by rfl) (pl2 : (backTo p16 (starEach [] X.env)).any (·.1) = false := by rfl)
    (sw1 : swapsWith (.Call (.Attribute (.Subscript o2 (.Constant (.str nd) j2 p6) p7) "pop" p8) [] [] p9) (some (.Name x p5)) p10.line X.env = pure false := by rfl)
    (sw2 : swapsWith (.Call (.Attribute (.Subscript o3 (.Constant (.str nd) j3 p12) p13) "append" p14) [.BinOp w2 .FloorDiv m2 p15] [] p16) none p17.line X.env = pure false := by rfl) :
    PS X (.If (.Compare (.Subscript o1 (.Constant (.str nd) j1 p1) p2) [.NotEq] [.List [] p3] p4)
      (.Assign [.Name x p5] (.Call (.Attribute (.Subscript o2 (.Constant (.str nd) j2 p6) p7) "pop" p8) [] [] p9) p10 ::
        .If (.Compare w1 [.GtE] [m1] p11) [.Expr (.Call (.Attribute (.Subscript o3 (.Constant (.str nd) j3 p12) p13) "append" p14) [.BinOp w2 .FloorDiv m2 p15] [] p16) p17] [] p18 :: rest) [] pos)
      (tS L (dJPop i iw im tb)) :=
  (ps_open (nd := nd) (ks := ks) (ps_closed (nd := nd) (ks := ks) (ps_if (pt_cmpR (op_neD (by have := gd.un; omega)) (pe_dget (by have := gd.un; omega) ho1 pe_str hn1) (pe_lst pa_nil) (nomark _))
    (pss_cons (ps_set (i := iw) gd.nd hx (.inl hxl) (pe_bm0 PySem.F.plainAttrs_list PySem.F.slot_list_pop PySem.F.type_list_pop mt_pop (pe_dget (by have := gd.un; omega) ho2 pe_str hn2) hb1 li1) sw1 (.inr hxl))
      (pss_cons (ps_if (pt_cmpR op_ge hw1 hm1 (nomark _)) (pss_one (ps_expr (pe_bm PySem.F.plainAttrs_list PySem.F.slot_list_append PySem.F.type_list_append mt_append (pe_dget (by have := gd.un; omega) ho3 pe_str hn3) (pa_cons (pe_op op_fdiv hw2 hm2) pa_nil st2) hb2 fw2 li2 st2 pl2) sw2)) pss_nil) (pss_closing (nd := nd) (ks := ks) hr))) pss_nil))).less fun D σ H q => by
    obtain ⟨ρ, De, r, ⟨ej, ⟨m, em, m0, m1⟩, hlen, hi, hm, qn, qx⟩, n1, n2, n3, n4⟩ := q
    obtain ⟨ov, e2, a, rfl, ja⟩ := r.get ej
    obtain ⟨vm, em2, bm⟩ := r.getD em
    cases bm
    obtain ⟨l, ha, hl, ne⟩ := hJ a H ja
    refine ⟨a, l, ha, hl, ne, fun kvs is z op => ?_⟩
    have rd : DGet (opn H a l kvs is) a (.str nd) (some (.ref l)) := by
      have q := DGet.k (k := .inr nd) op.ha
      rw [op.kv.2.1] at q; exact q
    refine ⟨.ref a, e2, a, .ref l, rfl, rd, Nat.zero_le _, fun p hp => ?_⟩
    have pa : p ≠ a := fun z => by rw [z, op.ha] at hp; cases hp
    have pl : p ≠ l := fun z => by rw [z, op.hl] at hp; cases hp
    refine ⟨.list (is.map .int), .list [], .lst (.inl (.inl (by rw [upd_ne (Ne.symm pl)]; exact op.hl))) (ints_dp is), .lst (.inl (.inl upd_same)) .nil, ints_shaped is, rfl, _, rfl, ?_⟩
    rw [ints_empty]
    have hl1 : (upd (opn H a l kvs is) p (.lst [])) l = some (.lst (is.map V.int)) := by rw [upd_ne (Ne.symm pl)]; exact op.hl
    have ha1 : (upd (opn H a l kvs is) p (.lst [])) a = some (.dK kvs) := by rw [upd_ne (Ne.symm pa)]; exact op.ha
    have rd2 : ∀ {H2 : Hp}, H2 a = some (.dK kvs) → DGet H2 a (.str nd) (some (.ref l)) := fun h => by
      have q := DGet.k (k := .inr nd) h
      rw [op.kv.2.1] at q; exact q
    cases is with
    | nil =>
      have hp0 : H p = none := (opn_off pa pl).symm.trans hp
      have sm : Same H (upd H p (.lst [])) := same_new hp0
      refine ⟨a, l, kvs, [], ⟨ha1, hl1, op.kv⟩, ?_⟩
      have ec : cls X.prog X.w nd ks (upd (opn H a l kvs []) p (.lst [])) a l = upd H p (.lst []) := cls_opn (H := upd H p (.lst [])) (by rw [upd_ne (Ne.symm pa)]; exact ha) (by rw [upd_ne (Ne.symm pl)]; exact hl) fun b h1 h2 => by
        by_cases hb : b = p
        · subst hb; rw [upd_same, upd_same]
        · rw [upd_ne hb, upd_ne hb]; exact opn_off h1 h2
      rw [ec]
      exact n1 _ _ _ (keep_of_same sm) (r.go sm) qx
    | cons y is =>
      have hne : (y :: is).map V.int ≠ [] := by simp
      have hlast : ((y :: is).map V.int)[((y :: is).map V.int).length - 1]? = some (.int ((y :: is).getLast (by simp))) := by
        rw [List.length_map, List.getElem?_map, ← List.getLast?_eq_getElem?, List.getLast?_eq_getLast (by simp)]; rfl
      refine ⟨.ref a, e2, ?_⟩
      refine ⟨a, .ref l, rfl, rd2 ha1, own_ty (pins := []) hl1, l, _, _, rfl, rfl, hl1, hlast, ?_⟩
      have ei : (σ.set iw (some (V.int ((y :: is).getLast (by simp)))))[i]? = some (some (.ref a)) := by
        rw [List.getElem?_set_ne hi]; exact e2
      have ew : (σ.set iw (some (V.int ((y :: is).getLast (by simp)))))[iw]? = some (some (V.int ((y :: is).getLast (by simp)))) := List.getElem?_set_self (by rw [r.len]; exact hlen)
      have emm : (σ.set iw (some (V.int ((y :: is).getLast (by simp)))))[im]? = some (some (.int m)) := by
        rw [List.getElem?_set_ne hm]; exact em2
      have dl : ((y :: is).map V.int).dropLast = ((y :: is).dropLast).map V.int := by rw [List.map_dropLast]
      have hl2 : (upd (upd (opn H a l kvs (y :: is)) p (.lst [])) l (.lst ((y :: is).map V.int).dropLast)) l = some (.lst (((y :: is).dropLast).map V.int)) := by rw [upd_same, dl]
      have ha2 : (upd (upd (opn H a l kvs (y :: is)) p (.lst [])) l (.lst ((y :: is).map V.int).dropLast)) a = some (.dK kvs) := by rw [upd_ne (Ne.symm op.ne)]; exact ha1
      refine ⟨_, ew, _, emm, _, m, rfl, rfl, _, rfl, ite2 (fun _ => ?_) fun _ => ?_⟩
      · refine ⟨.ref a, ei, a, .ref l, rfl, rd2 ha2, own_ty (pins := []) hl2, _, ew, _, emm, _, m, rfl, rfl, ⟨m0, m1⟩, l, _, _, rfl, rfl, hl2, ?_, ?_⟩
        · rw [List.length_map, List.length_dropLast]
          have : (y :: is).length ≤ sizeLine := z
          have : 0 < (y :: is).length := by simp
          omega
        · refine jpop_end (js := (y :: is).dropLast ++ [(y :: is).getLast (by simp) / m]) r ha hl op hp ?_ (qn _) n2 n3 n4 _
          rw [upd_upd, List.map_append]; rfl
      · exact jpop_end (js := (y :: is).dropLast) r ha hl op hp (by rw [dl]) (qn _) n2 n3 n4 _
/-- the same with the first one -/
theorem ds_jpop0 (gd : Good X) (hJ : ∀ a H, L.J.ok .jar a H → StoOk X.prog X.w nd ks a H) (hx : X.N[iw]? = some x) (hxl : X.env.scope.names.lookup x = some .local)
    (ho1 : PE X o1 (tVar i)) (ho2 : PE X o2 (tVar i)) (ho3 : PE X o3 (tVar i)) (hw1 : PE X w1 (tVar iw)) (hm1 : PE X m1 (tVar im)) (hw2 : PE X w2 (tVar iw)) (hm2 : PE X m2 (tVar im)) (hr : PSs X rest (tS L tb))
    (hn1 : NoSl (.Constant (.str nd) j1 p1) := by intro _ _; rfl) (hn2 : NoSl (.Constant (.str nd) j2 p6) := by intro _ _; rfl) (hn3 : NoSl (.Constant (.str nd) j3 p12) := by intro _ _; rfl)
    (hb1 : attributeBase (.Subscript o2 (.Constant (.str nd) j2 p6) p7) "pop" X.env (eval (.Subscript o2 (.Constant (.str nd) j2 p6) p7) X.env) = eval (.Subscript o2 (.Constant (.str nd) j2 p6) p7) X.env := by rfl) (li1 : (p8.endLine == p9.line) = true := by rfl)
    (hb2 : attributeBase (.Subscript o3 (.Constant (.str nd) j3 p12) p13) "insert" X.env (eval (.Subscript o3 (.Constant (.str nd) j3 p12) p13) X.env) = eval (.Subscript o3 (.Constant (.str nd) j3 p12) p13) X.env := by rfl)
    (fw2 : ((backTo p16 (starEach [.Constant (.int 0) j5 p20, .BinOp w2 .FloorDiv m2 p15] X.env)).all (fun x => !x.1) && (backToKw p16 (keywordEach [] X.env)).all (fun x => x.1.isSome) && decide (([.Constant (.int 0) j5 p20, .BinOp w2 .FloorDiv m2 p15] : List Expr).length + ([] : List Keyword).length + (if ([] : List Keyword).isEmpty then 0 else 1) < 30)) = true := by rfl)
    (li2 : (p14.endLine == p16.line) = true := by rfl) (st2 : starEach [.BinOp w2 .FloorDiv m2 p15] X.env = (false, eval (.BinOp w2 .FloorDiv m2 p15) X.env) :: starEach [] X.env := by rfl) (st3 : starEach [.Constant (.int 0) j5 p20, .BinOp w2 .FloorDiv m2 p15] X.env = (false, eval (.Constant (.int 0) j5 p20) X.env) :: starEach [.BinOp w2 .FloorDiv m2 p15] X.env := by rfl) (pl2 : (backTo p16 (starEach [.BinOp w2 .FloorDiv m2 p15] X.env)).any (·.1) = false := by rfl)
    (fw1 : ((backTo p9 (starEach [.Constant (.int 0) j4 p19] X.env)).all (fun x => !x.1) && (backToKw p9 (keywordEach [] X.env)).all (fun x => x.1.isSome) && decide (([.Constant (.int 0) j4 p19] : List Expr).length + ([] : List Keyword).length + (if ([] : List Keyword).isEmpty then 0 else 1) < 30)) = true := by rfl)
    (st1 : starEach [.Constant (.int 0) j4 p19] X.env = (false, eval (.Constant (.int 0) j4 p19) X.env) :: starEach [] X.env := by rfl) (pl1 : (backTo p9 (starEach [] X.env)).any (·.1) = false := by rfl)
    (sw1 : swapsWith (.Call (.Attribute (.Subscript o2 (.Constant (.str nd) j2 p6) p7) "pop" p8) [.Constant (.int 0) j4 p19] [] p9) (some (.Name x p5)) p10.line X.env = pure false := by rfl)
    (sw2 : swapsWith (.Call (.Attribute (.Subscript o3 (.Constant (.str nd) j3 p12) p13) "insert" p14) [.Constant (.int 0) j5 p20, .BinOp w2 .FloorDiv m2 p15] [] p16) none p17.line X.env = pure false := by rfl) :
    PS X (.If (.Compare (.Subscript o1 (.Constant (.str nd) j1 p1) p2) [.NotEq] [.List [] p3] p4)
      (.Assign [.Name x p5] (.Call (.Attribute (.Subscript o2 (.Constant (.str nd) j2 p6) p7) "pop" p8) [.Constant (.int 0) j4 p19] [] p9) p10 ::
        .If (.Compare w1 [.GtE] [m1] p11) [.Expr (.Call (.Attribute (.Subscript o3 (.Constant (.str nd) j3 p12) p13) "insert" p14) [.Constant (.int 0) j5 p20, .BinOp w2 .FloorDiv m2 p15] [] p16) p17] [] p18 :: rest) [] pos)
      (tS L (dJPop i iw im tb)) :=
  (ps_open (nd := nd) (ks := ks) (ps_closed (nd := nd) (ks := ks) (ps_if (pt_cmpR (op_neD (by have := gd.un; omega)) (pe_dget (by have := gd.un; omega) ho1 pe_str hn1) (pe_lst pa_nil) (nomark _))
    (pss_cons (ps_set (i := iw) gd.nd hx (.inl hxl) (pe_bm PySem.F.plainAttrs_list PySem.F.slot_list_pop PySem.F.type_list_pop mt_popAt (pe_dget (by have := gd.un; omega) ho2 pe_str hn2) (pa_cons pe_int pa_nil st1) hb1 fw1 li1 st1 pl1) sw1 (.inr hxl))
      (pss_cons (ps_if (pt_cmpR op_ge hw1 hm1 (nomark _)) (pss_one (ps_expr (pe_bm PySem.F.plainAttrs_list PySem.F.slot_list_insert PySem.F.type_list_insert mt_insert (pe_dget (by have := gd.un; omega) ho3 pe_str hn3) (pa_cons pe_int (pa_cons (pe_op op_fdiv hw2 hm2) pa_nil st2) st3) hb2 fw2 li2 st3 pl2) sw2)) pss_nil) (pss_closing (nd := nd) (ks := ks) hr))) pss_nil))).less fun D σ H q => by
    obtain ⟨ρ, De, r, ⟨ej, ⟨m, em, m0, m1⟩, hlen, hi, hm, qn, qx⟩, n1, n2, n3, n4⟩ := q
    obtain ⟨ov, e2, a, rfl, ja⟩ := r.get ej
    obtain ⟨vm, em2, bm⟩ := r.getD em
    cases bm
    obtain ⟨l, ha, hl, ne⟩ := hJ a H ja
    refine ⟨a, l, ha, hl, ne, fun kvs is z op => ?_⟩
    have rd : DGet (opn H a l kvs is) a (.str nd) (some (.ref l)) := by
      have q := DGet.k (k := .inr nd) op.ha
      rw [op.kv.2.1] at q; exact q
    refine ⟨.ref a, e2, a, .ref l, rfl, rd, Nat.zero_le _, fun p hp => ?_⟩
    have pa : p ≠ a := fun z => by rw [z, op.ha] at hp; cases hp
    have pl : p ≠ l := fun z => by rw [z, op.hl] at hp; cases hp
    refine ⟨.list (is.map .int), .list [], .lst (.inl (.inl (by rw [upd_ne (Ne.symm pl)]; exact op.hl))) (ints_dp is), .lst (.inl (.inl upd_same)) .nil, ints_shaped is, rfl, _, rfl, ?_⟩
    rw [ints_empty]
    have hl1 : (upd (opn H a l kvs is) p (.lst [])) l = some (.lst (is.map V.int)) := by rw [upd_ne (Ne.symm pl)]; exact op.hl
    have ha1 : (upd (opn H a l kvs is) p (.lst [])) a = some (.dK kvs) := by rw [upd_ne (Ne.symm pa)]; exact op.ha
    have rd2 : ∀ {H2 : Hp}, H2 a = some (.dK kvs) → DGet H2 a (.str nd) (some (.ref l)) := fun h => by
      have q := DGet.k (k := .inr nd) h
      rw [op.kv.2.1] at q; exact q
    cases is with
    | nil =>
      have hp0 : H p = none := (opn_off pa pl).symm.trans hp
      have sm : Same H (upd H p (.lst [])) := same_new hp0
      refine ⟨a, l, kvs, [], ⟨ha1, hl1, op.kv⟩, ?_⟩
      have ec : cls X.prog X.w nd ks (upd (opn H a l kvs []) p (.lst [])) a l = upd H p (.lst []) := cls_opn (H := upd H p (.lst [])) (by rw [upd_ne (Ne.symm pa)]; exact ha) (by rw [upd_ne (Ne.symm pl)]; exact hl) fun b h1 h2 => by
        by_cases hb : b = p
        · subst hb; rw [upd_same, upd_same]
        · rw [upd_ne hb, upd_ne hb]; exact opn_off h1 h2
      rw [ec]
      exact n1 _ _ _ (keep_of_same sm) (r.go sm) qx
    | cons y is =>
      have hne : (y :: is).map V.int ≠ [] := by simp
      refine ⟨.ref a, e2, ?_⟩
      refine ⟨a, .ref l, rfl, rd2 ha1, own_ty (pins := []) hl1, l, _, 0, 0, .int y, rfl, rfl, hl1, by decide, by decide, by simp [seqIndex?], by simp, ?_⟩
      have ei : (σ.set iw (some (V.int y)))[i]? = some (some (.ref a)) := by
        rw [List.getElem?_set_ne hi]; exact e2
      have ew : (σ.set iw (some (V.int y)))[iw]? = some (some (V.int y)) := List.getElem?_set_self (by rw [r.len]; exact hlen)
      have emm : (σ.set iw (some (V.int y)))[im]? = some (some (.int m)) := by
        rw [List.getElem?_set_ne hm]; exact em2
      have dl : ((y :: is).map V.int).eraseIdx 0 = is.map V.int := rfl
      have hl2 : (upd (upd (opn H a l kvs (y :: is)) p (.lst [])) l (.lst (((y :: is).map V.int).eraseIdx 0))) l = some (.lst (is.map V.int)) := by rw [upd_same, dl]
      have ha2 : (upd (upd (opn H a l kvs (y :: is)) p (.lst [])) l (.lst (((y :: is).map V.int).eraseIdx 0))) a = some (.dK kvs) := by rw [upd_ne (Ne.symm op.ne)]; exact ha1
      refine ⟨_, ew, _, emm, _, m, rfl, rfl, _, rfl, ite2 (fun _ => ?_) fun _ => ?_⟩
      · refine ⟨.ref a, ei, a, .ref l, rfl, rd2 ha2, own_ty (pins := []) hl2, _, ew, _, emm, _, m, rfl, rfl, ⟨m0, m1⟩, l, _, 0, _, rfl, rfl, hl2, ?_, by decide, by decide, ?_⟩
        · rw [List.length_map]
          have : (y :: is).length ≤ sizeLine := z
          simp at this; omega
        · refine jpop_end (js := (y / m) :: is) r ha hl op hp ?_ (qn _) n2 n3 n4 _
          rw [upd_upd]; rfl
      · exact jpop_end (js := is) r ha hl op hp (by rw [dl]) (qn _) n2 n3 n4 _
end
end GB

namespace GB
open PySem PySem.Spec PyProof.Rows L2

theorem BrA.put {K : PySem.W.Frag} {H : Hp} : ∀ {vs : List V} {ds : List PyData} (j : Nat) {v : V} {x : PyData}, BrA K H vs ds → Br K H v x → BrA K H (vs.set j v) (ds.set j x)
  | _, _, _, _, _, .nil, _ => .nil
  | _, _, 0, _, _, .cons _ h2, b => .cons b h2
  | _, _, j + 1, _, _, .cons h1 h2, b => .cons h1 (BrA.put j h2 b)
/-- an item of a list of one's own put in another's place -/
def dPutAt (i : Nat) (ti tv : TEd) : TSd := fun D ρ => tv ρ fun s ρ1 => ∃ x ys, s = .d x ∧ ρ1[i]? = some (.own ys) ∧ ti ρ1 fun s2 ρ2 => ∃ k j xs, s2 = .d (.int k) ∧ ρ2[i]? = some (.own xs) ∧ ixN xs.length k = some j ∧ D.nx (ρ2.set i (.own (xs.set j x)))
section
variable {X : Cx} {L : Lay} {o ix v : Expr} {pos p1 : Pos} {i : Nat} {ti tv : TEd}
theorem ds_putAt (ho : PE X o (tVar i)) (hi : PE X ix (tE L ti)) (hv : PE X v (tE L tv)) (hw : swappedStores [.Subscript o ix p1] v X.env = pure none := by rfl) (hs : swapsWithSole [.Subscript o ix p1] v pos.line X.env = pure false := by rfl)
    (h1 : (assignEach [.Subscript o ix p1] X.env).map (·.2) = [assign (.Subscript o ix p1) X.env] := by rfl)
    (ha : ∀ v, assign (.Subscript o ix p1) X.env v = (do
      let ov ← holding [v] (eval o X.env)
      let iv ← holding [v, ov] (eval ix X.env)
      standAt p1
      holding [v, ov, iv] (setItem ov iv v)
      release [v, ov, iv] []) := by intro _; rfl) :
    PS X (.Assign [.Subscript o ix p1] v pos) (tS L (dPutAt i ti tv)) :=
  (ps_asg hv (pg_sub ho hi set_list ha) hs hw h1).less fun D σ H q => by
    obtain ⟨ρ, De, r, q, n1, _⟩ := q
    refine ⟨ρ, _, r, q, fun v H1 s ρ1 go r1 hv q1 => ?_⟩
    obtain ⟨x, ys, rfl, ey, q2⟩ := q1
    obtain ⟨l, us, hi, hl, _⟩ := r1.getO ey
    refine ⟨.ref l, hi, ρ1, _, r1, q2, fun u H2 s2 ρ2 go2 r2 hu q3 => ?_⟩
    obtain ⟨k, j, xs, rfl, ex, hj, q4⟩ := q3
    have hu : Br L.K H2 u (.int k) := hu
    cases hu
    obtain ⟨l', ws, hi', hl', hb, _⟩ := r2.getO ex
    rw [hi] at hi'; cases hi'
    have hv2 : Br L.K H2 v x := Br.keep (go2.keep r1) _ _ hv
    obtain ⟨r3, k3⟩ := r2.put ex hi hl' (hb.put j hv2)
    exact ⟨l, ws, k, j, rfl, rfl, hl', by rw [hb.len]; exact hj, n1 _ _ _ (((go.keep r).tr (go2.keep r1)).tr k3) r3 q4⟩
end
end GB

namespace GB
open PySem PySem.Spec PyProof.Rows L2

/-! what is given by name -/
def pick {α : Type} (is : List Nat) (l : List α) : List α := is.filterMap fun i => l[i]?
theorem pick_vals {is : List Nat} {zs : List V} {ws : List Value} (h : Vals zs ws) : Vals (pick is zs) (pick is ws) := by
  induction is with
  | nil => exact .nil
  | cons i is ih =>
    unfold pick at ih ⊢
    rw [List.filterMap_cons, List.filterMap_cons]
    cases e : zs[i]? with
    | none =>
      have : ws[i]? = none := by
        rw [List.getElem?_eq_none_iff] at e ⊢
        rw [← h.length]; exact e
      rw [this]; exact ih
    | some v =>
      obtain ⟨u, hu, r⟩ := h.get e
      rw [hu]; exact .cons r ih
theorem fr_get {L : Lay} {H : Hp} {vs : List V} {ss : List S} (h : FRs L H vs ss) : ∀ (i : Nat) (v : V), vs[i]? = some v → ∃ s, ss[i]? = some s ∧ FR L H v s := by
  induction h with
  | nil => intro i v e; simp at e
  | @cons v vs s ss h1 h2 ih =>
    intro i w e
    cases i with
    | zero => simp at e; subst e; exact ⟨s, rfl, h1⟩
    | succ i => simp at e ⊢; exact ih i w e
theorem pick_frs {L : Lay} {H : Hp} {is : List Nat} {vs : List V} {ss : List S} (h : FRs L H vs ss) : FRs L H (pick is vs) (pick is ss) := by
  induction is with
  | nil => exact .nil
  | cons i is ih =>
    unfold pick at ih ⊢
    rw [List.filterMap_cons, List.filterMap_cons]
    cases e : vs[i]? with
    | none =>
      have : ss[i]? = none := by
        rw [List.getElem?_eq_none_iff] at e ⊢
        rw [← h.len]; exact e
      rw [this]; exact ih
    | some v =>
      obtain ⟨u, hu, r⟩ := fr_get h i v e
      rw [hu]; exact .cons r ih
theorem perm_mk {K : PySem.W.Frag} {fd : FuncData} {ps ks : List Str} {is : List Nat} (h : ∀ (s : Shared) (us : List Value), (pick is us).length = ps.length → BindsTo s fd ⟨[], ks.zip us⟩ (ps.zip (pick is us))) :
    Perm K fd ps ks (pick is) (pick is) (pick is) := ⟨h, pick_vals, pick_frs⟩
end GB

namespace GB
open PySem PySem.Spec PyProof.Rows L2

/-! kinds -/
def kTuple : PyData → Bool
  | .tuple _ => true
  | _ => false
def kBool : PyData → Bool
  | .bool _ => true
  | _ => false
def kInt : PyData → Bool
  | .int _ => true
  | _ => false
def kStr : PyData → Bool
  | .str _ => true
  | _ => false
theorem isK_tuple (x : PyData) : isK "tuple" x = kTuple x := by
  cases x with
  | none => exact (by decide +kernel : (kitB "NoneType" "tuple").getD false = false)
  | bool _ => exact (by decide +kernel : (kitB "bool" "tuple").getD false = false)
  | int _ => exact (by decide +kernel : (kitB "int" "tuple").getD false = false)
  | str _ => exact (by decide +kernel : (kitB "str" "tuple").getD false = false)
  | list _ => exact (by decide +kernel : (kitB "list" "tuple").getD false = false)
  | tuple _ => exact (by decide +kernel : (kitB "tuple" "tuple").getD false = true)
  | dict _ => exact (by decide +kernel : (kitB "dict" "tuple").getD false = false)
theorem isK_bool (x : PyData) : isK "bool" x = kBool x := by
  cases x with
  | none => exact (by decide +kernel : (kitB "NoneType" "bool").getD false = false)
  | bool _ => exact (by decide +kernel : (kitB "bool" "bool").getD false = true)
  | int _ => exact (by decide +kernel : (kitB "int" "bool").getD false = false)
  | str _ => exact (by decide +kernel : (kitB "str" "bool").getD false = false)
  | list _ => exact (by decide +kernel : (kitB "list" "bool").getD false = false)
  | tuple _ => exact (by decide +kernel : (kitB "tuple" "bool").getD false = false)
  | dict _ => exact (by decide +kernel : (kitB "dict" "bool").getD false = false)
theorem isK_str (x : PyData) : isK "str" x = kStr x := by
  cases x with
  | none => exact (by decide +kernel : (kitB "NoneType" "str").getD false = false)
  | bool _ => exact (by decide +kernel : (kitB "bool" "str").getD false = false)
  | int _ => exact (by decide +kernel : (kitB "int" "str").getD false = false)
  | str _ => exact (by decide +kernel : (kitB "str" "str").getD false = true)
  | list _ => exact (by decide +kernel : (kitB "list" "str").getD false = false)
  | tuple _ => exact (by decide +kernel : (kitB "tuple" "str").getD false = false)
  | dict _ => exact (by decide +kernel : (kitB "dict" "str").getD false = false)
theorem isK_int (x : PyData) : isK "int" x = (kInt x || kBool x) := by
  cases x with
  | none => exact (by decide +kernel : (kitB "NoneType" "int").getD false = false)
  | bool _ => exact (by decide +kernel : (kitB "bool" "int").getD false = true)
  | int _ => exact (by decide +kernel : (kitB "int" "int").getD false = true)
  | str _ => exact (by decide +kernel : (kitB "str" "int").getD false = false)
  | list _ => exact (by decide +kernel : (kitB "list" "int").getD false = false)
  | tuple _ => exact (by decide +kernel : (kitB "tuple" "int").getD false = false)
  | dict _ => exact (by decide +kernel : (kitB "dict" "int").getD false = false)
theorem ex_nil {P : List PyData → Prop} : (∃ xs, ([] : List S) = xs.map S.d ∧ P xs) ↔ P [] := by
  constructor
  · intro ⟨xs, e, p⟩
    cases xs with
    | nil => exact p
    | cons _ _ => cases e
  · intro p; exact ⟨[], rfl, p⟩
theorem ex_cons {P : List PyData → Prop} {a : PyData} {ss : List S} : (∃ xs, (S.d a :: ss) = xs.map S.d ∧ P xs) ↔ ∃ xs, ss = xs.map S.d ∧ P (a :: xs) := by
  constructor
  · intro ⟨xs, e, p⟩
    cases xs with
    | nil => cases e
    | cons b xs =>
      simp only [List.map_cons, List.cons.injEq, S.d.injEq] at e
      obtain ⟨rfl, e⟩ := e
      exact ⟨xs, e, p⟩
  · intro ⟨xs, e, p⟩; exact ⟨a :: xs, by simp [e], p⟩
/-! rows that are walked -/
def pairsFrom (k : Int) : List PyData → List PyData
  | [] => []
  | x :: xs => .tuple [.int k, x] :: pairsFrom (k + 1) xs
theorem pairsFrom_get : ∀ (xs : List PyData) (k : Int) (i : Nat), (pairsFrom k xs)[i]? = xs[i]?.map fun x => .tuple [.int (k + i), x]
  | [], k, i => by simp [pairsFrom]
  | x :: xs, k, 0 => by simp [pairsFrom]
  | x :: xs, k, i + 1 => by
    simp only [pairsFrom, List.getElem?_cons_succ, pairsFrom_get xs (k + 1) i]
    congr 1; funext y; congr 3; omega
theorem pairsOf_eq (xs : List PyData) : GB.pairsOf xs = pairsFrom 0 xs := by
  apply List.ext_getElem?
  intro i
  rw [pairsFrom_get]
  unfold GB.pairsOf
  rw [List.getElem?_map]
  by_cases h : i < xs.length
  · rw [List.getElem?_range h]; simp [h]
  · rw [List.getElem?_eq_none (by simpa using h), List.getElem?_eq_none (by omega)]; rfl
theorem irow_zero (lo : Int) : irow lo 0 = [] := rfl
theorem irow_succ (lo : Int) (n : Nat) : irow lo (n + 1) = .int lo :: irow (lo + 1) n := by
  unfold irow
  rw [List.range_succ_eq_map, List.map_cons, List.map_map]
  rw [List.cons.injEq]
  refine ⟨by simp, List.map_congr_left fun i _ => ?_⟩
  simp; omega
theorem irow_mem {lo : Int} {n : Nat} {x : PyData} (h : x ∈ irow lo n) : ∃ i : Int, x = .int i ∧ lo ≤ i ∧ i < lo + n := by
  simp only [irow, List.mem_map, List.mem_range] at h
  obtain ⟨i, hi, rfl⟩ := h
  exact ⟨_, rfl, by omega, by omega⟩
theorem atI_mem {xs : List PyData} {r : Int} (h0 : 0 ≤ r) (h1 : r < xs.length) : ∃ v, atI xs r = some v ∧ v ∈ xs := by
  have hn : r.toNat < xs.length := by omega
  refine ⟨xs[r.toNat], ?_, List.getElem_mem hn⟩
  unfold atI ixN
  rw [if_pos h0, if_pos (by omega)]
  simp [hn]
theorem dgCons_cons {g : DTG} {gs : DTGs} {d : PyData} {r : List PyData} {ρ : En} {Q : En → Prop} : dgCons g gs (d :: r) ρ Q ↔ g d ρ fun ρ1 => gs r ρ1 Q := by
  constructor
  · intro ⟨d', r', e, q⟩; cases e; exact q
  · intro q; exact ⟨d, r, rfl, q⟩
theorem dgNil_nil {ρ : En} {Q : En → Prop} : dgNil [] ρ Q ↔ Q ρ := ⟨fun q => q.2, fun q => ⟨rfl, q⟩⟩
theorem dgTup_tup {n : Nat} {gs : DTGs} {ds : List PyData} {ρ : En} {Q : En → Prop} : dgTup n gs (.tuple ds) ρ Q ↔ ds.length = n ∧ gs ds ρ Q := by
  constructor
  · intro ⟨d', e, q⟩; cases e; exact q
  · intro q; exact ⟨ds, rfl, q⟩
theorem rb {R : S → Prop} {a b : Bool} (h : R (.d (.bool a))) (e : a = b) : R (.d (.bool b)) := e ▸ h
theorem ri {R : S → Prop} {a b : Int} (h : R (.d (.int a))) (e : a = b) : R (.d (.int b)) := e ▸ h
theorem eqOk_str (a b : Str) : eqOk (.str a) (.str b) = true := rfl
theorem eqOk_int (a b : Int) : eqOk (.int a) (.int b) = true := rfl
theorem eqOk_bool (a b : Bool) : eqOk (.bool a) (.bool b) = true := rfl
theorem str_eqv (s : Str) : PyData.eqv (.str s) (.str s) = true := by simp [PyData.eqv]
theorem int_eqv (a b : Int) : PyData.eqv (.int a) (.int b) = decide (a = b) := by
  by_cases h : a = b
  · subst h; simp [PyData.eqv]
  · simp [PyData.eqv, h]
theorem tup_nil_eqv (xs : List PyData) : PyData.eqv (.tuple xs) (.tuple []) = xs.isEmpty := by cases xs <;> rfl
theorem lst_nil_eqv (xs : List PyData) : PyData.eqv (.list xs) (.list []) = xs.isEmpty := by cases xs <;> rfl
theorem cutD_mem {α : Type} {xs : List α} {lo hi : Option Int} {x : α} (h : x ∈ cutD xs lo hi) : x ∈ xs := List.mem_of_mem_drop (List.mem_of_mem_take h)
theorem cutD_len {α : Type} (xs : List α) (lo hi : Option Int) : (cutD xs lo hi).length ≤ xs.length := by
  unfold cutD
  rw [List.length_take, List.length_drop]; omega
theorem cutD_to {α : Type} (xs : List α) (n : Nat) : cutD xs none (some (n : Int)) = xs.take n := by
  unfold cutD
  rw [HT.sIx_none, HT.sIx_nat, List.drop_zero, Nat.sub_zero]
  exact (List.take_eq_take_min).symm
theorem rep_flat {α : Type} (n : Nat) (x : α) : (List.replicate n [x]).flatten = List.replicate n x := by
  induction n with
  | zero => rfl
  | succ n ih => rw [List.replicate_succ, List.flatten_cons, ih]; rfl
theorem cmul_r {i j : Int} (h1 : -(2 ^ 64) < j) (h2 : j < 2 ^ 64) : CMul i j ∨ CMulW i j := .inl (.inr ⟨h1, h2⟩)
theorem cmul_l {i j : Int} (h1 : -(2 ^ 64) < i) (h2 : i < 2 ^ 64) : CMul i j ∨ CMulW i j := .inl (.inl ⟨h1, h2⟩)
theorem pow2000 {k : Int} (h : k < 2 ^ 64) : k < 2 ^ 2000 := Int.lt_of_lt_of_le h (by decide +kernel)
end GB

namespace GB
open PySem PySem.Spec PyProof.Rows L2

/-! readings, step by step from without: what is looked at stands first -/
def atK (ρ : En) (i : Nat) (k : S → Prop) : Prop := ∃ s, ρ[i]? = some s ∧ k s
def setK (f : En → Prop) (ρ : En) (i : Nat) (s : S) : Prop := f (ρ.set i s)
def fzK (s : S) (k : S → Prop) : Prop := k s.fz
def oneK (s : S) (k : PyData → Prop) : Prop := ∃ x, s = .d x ∧ k x
def intK (s : S) (k : Int → Prop) : Prop := ∃ i, s = .d (.int i) ∧ k i
def boolK (s : S) (k : Bool → Prop) : Prop := ∃ b, s = .d (.bool b) ∧ k b
def dsK (ss : List S) (k : List PyData → Prop) : Prop := ∃ xs, ss = xs.map S.d ∧ k xs
def seqK (s : S) (k : List PyData → Prop) : Prop := ∃ ds, (s = .d (.list ds) ∨ s = .d (.tuple ds)) ∧ k ds
def ownK (s : S) (k : List PyData → Prop) : Prop := ∃ xs, s = .own xs ∧ k xs
def iteK (b : Bool) (p q : Prop) : Prop := if b = true then p else q
section
variable {ρ : En} {Q : S → En → Prop} {QB : Bool → En → Prop} {QA : List S → En → Prop} {D : EndsD} {k : S → Prop} {i j : Nat} {t ta tb : TEd} {tt tu : TTd} {as : TAd} {g : DTG} {gs : DTGs}
theorem ex1 {α : Type} {a : α} {p : α → Prop} : (∃ x, a = x ∧ p x) ↔ p a := ⟨fun ⟨x, e, h⟩ => e ▸ h, fun h => ⟨a, rfl, h⟩⟩

theorem at0 {a0 : S} {r : En} {k : S → Prop} : atK (a0 :: r) 0 k ↔ k a0 := ⟨fun ⟨s, e, h⟩ => by cases e; exact h, fun h => ⟨_, rfl, h⟩⟩
theorem set0 {a0 : S} {r : En} {s : S} {f : En → Prop} : setK f (a0 :: r) 0 s ↔ f (s :: r) := Iff.rfl
theorem at1 {a0 a1 : S} {r : En} {k : S → Prop} : atK (a0 :: a1 :: r) 1 k ↔ k a1 := ⟨fun ⟨s, e, h⟩ => by cases e; exact h, fun h => ⟨_, rfl, h⟩⟩
theorem set1 {a0 a1 : S} {r : En} {s : S} {f : En → Prop} : setK f (a0 :: a1 :: r) 1 s ↔ f (a0 :: s :: r) := Iff.rfl
theorem at2 {a0 a1 a2 : S} {r : En} {k : S → Prop} : atK (a0 :: a1 :: a2 :: r) 2 k ↔ k a2 := ⟨fun ⟨s, e, h⟩ => by cases e; exact h, fun h => ⟨_, rfl, h⟩⟩
theorem set2 {a0 a1 a2 : S} {r : En} {s : S} {f : En → Prop} : setK f (a0 :: a1 :: a2 :: r) 2 s ↔ f (a0 :: a1 :: s :: r) := Iff.rfl
theorem at3 {a0 a1 a2 a3 : S} {r : En} {k : S → Prop} : atK (a0 :: a1 :: a2 :: a3 :: r) 3 k ↔ k a3 := ⟨fun ⟨s, e, h⟩ => by cases e; exact h, fun h => ⟨_, rfl, h⟩⟩
theorem set3 {a0 a1 a2 a3 : S} {r : En} {s : S} {f : En → Prop} : setK f (a0 :: a1 :: a2 :: a3 :: r) 3 s ↔ f (a0 :: a1 :: a2 :: s :: r) := Iff.rfl
theorem at4 {a0 a1 a2 a3 a4 : S} {r : En} {k : S → Prop} : atK (a0 :: a1 :: a2 :: a3 :: a4 :: r) 4 k ↔ k a4 := ⟨fun ⟨s, e, h⟩ => by cases e; exact h, fun h => ⟨_, rfl, h⟩⟩
theorem set4 {a0 a1 a2 a3 a4 : S} {r : En} {s : S} {f : En → Prop} : setK f (a0 :: a1 :: a2 :: a3 :: a4 :: r) 4 s ↔ f (a0 :: a1 :: a2 :: a3 :: s :: r) := Iff.rfl
theorem at5 {a0 a1 a2 a3 a4 a5 : S} {r : En} {k : S → Prop} : atK (a0 :: a1 :: a2 :: a3 :: a4 :: a5 :: r) 5 k ↔ k a5 := ⟨fun ⟨s, e, h⟩ => by cases e; exact h, fun h => ⟨_, rfl, h⟩⟩
theorem set5 {a0 a1 a2 a3 a4 a5 : S} {r : En} {s : S} {f : En → Prop} : setK f (a0 :: a1 :: a2 :: a3 :: a4 :: a5 :: r) 5 s ↔ f (a0 :: a1 :: a2 :: a3 :: a4 :: s :: r) := Iff.rfl
theorem at6 {a0 a1 a2 a3 a4 a5 a6 : S} {r : En} {k : S → Prop} : atK (a0 :: a1 :: a2 :: a3 :: a4 :: a5 :: a6 :: r) 6 k ↔ k a6 := ⟨fun ⟨s, e, h⟩ => by cases e; exact h, fun h => ⟨_, rfl, h⟩⟩
theorem set6 {a0 a1 a2 a3 a4 a5 a6 : S} {r : En} {s : S} {f : En → Prop} : setK f (a0 :: a1 :: a2 :: a3 :: a4 :: a5 :: a6 :: r) 6 s ↔ f (a0 :: a1 :: a2 :: a3 :: a4 :: a5 :: s :: r) := Iff.rfl
theorem at7 {a0 a1 a2 a3 a4 a5 a6 a7 : S} {r : En} {k : S → Prop} : atK (a0 :: a1 :: a2 :: a3 :: a4 :: a5 :: a6 :: a7 :: r) 7 k ↔ k a7 := ⟨fun ⟨s, e, h⟩ => by cases e; exact h, fun h => ⟨_, rfl, h⟩⟩
theorem set7 {a0 a1 a2 a3 a4 a5 a6 a7 : S} {r : En} {s : S} {f : En → Prop} : setK f (a0 :: a1 :: a2 :: a3 :: a4 :: a5 :: a6 :: a7 :: r) 7 s ↔ f (a0 :: a1 :: a2 :: a3 :: a4 :: a5 :: a6 :: s :: r) := Iff.rfl
theorem at8 {a0 a1 a2 a3 a4 a5 a6 a7 a8 : S} {r : En} {k : S → Prop} : atK (a0 :: a1 :: a2 :: a3 :: a4 :: a5 :: a6 :: a7 :: a8 :: r) 8 k ↔ k a8 := ⟨fun ⟨s, e, h⟩ => by cases e; exact h, fun h => ⟨_, rfl, h⟩⟩
theorem set8 {a0 a1 a2 a3 a4 a5 a6 a7 a8 : S} {r : En} {s : S} {f : En → Prop} : setK f (a0 :: a1 :: a2 :: a3 :: a4 :: a5 :: a6 :: a7 :: a8 :: r) 8 s ↔ f (a0 :: a1 :: a2 :: a3 :: a4 :: a5 :: a6 :: a7 :: s :: r) := Iff.rfl
theorem at9 {a0 a1 a2 a3 a4 a5 a6 a7 a8 a9 : S} {r : En} {k : S → Prop} : atK (a0 :: a1 :: a2 :: a3 :: a4 :: a5 :: a6 :: a7 :: a8 :: a9 :: r) 9 k ↔ k a9 := ⟨fun ⟨s, e, h⟩ => by cases e; exact h, fun h => ⟨_, rfl, h⟩⟩
theorem set9 {a0 a1 a2 a3 a4 a5 a6 a7 a8 a9 : S} {r : En} {s : S} {f : En → Prop} : setK f (a0 :: a1 :: a2 :: a3 :: a4 :: a5 :: a6 :: a7 :: a8 :: a9 :: r) 9 s ↔ f (a0 :: a1 :: a2 :: a3 :: a4 :: a5 :: a6 :: a7 :: a8 :: s :: r) := Iff.rfl
theorem at10 {a0 a1 a2 a3 a4 a5 a6 a7 a8 a9 a10 : S} {r : En} {k : S → Prop} : atK (a0 :: a1 :: a2 :: a3 :: a4 :: a5 :: a6 :: a7 :: a8 :: a9 :: a10 :: r) 10 k ↔ k a10 := ⟨fun ⟨s, e, h⟩ => by cases e; exact h, fun h => ⟨_, rfl, h⟩⟩
theorem set10 {a0 a1 a2 a3 a4 a5 a6 a7 a8 a9 a10 : S} {r : En} {s : S} {f : En → Prop} : setK f (a0 :: a1 :: a2 :: a3 :: a4 :: a5 :: a6 :: a7 :: a8 :: a9 :: a10 :: r) 10 s ↔ f (a0 :: a1 :: a2 :: a3 :: a4 :: a5 :: a6 :: a7 :: a8 :: a9 :: s :: r) := Iff.rfl
theorem at11 {a0 a1 a2 a3 a4 a5 a6 a7 a8 a9 a10 a11 : S} {r : En} {k : S → Prop} : atK (a0 :: a1 :: a2 :: a3 :: a4 :: a5 :: a6 :: a7 :: a8 :: a9 :: a10 :: a11 :: r) 11 k ↔ k a11 := ⟨fun ⟨s, e, h⟩ => by cases e; exact h, fun h => ⟨_, rfl, h⟩⟩
theorem set11 {a0 a1 a2 a3 a4 a5 a6 a7 a8 a9 a10 a11 : S} {r : En} {s : S} {f : En → Prop} : setK f (a0 :: a1 :: a2 :: a3 :: a4 :: a5 :: a6 :: a7 :: a8 :: a9 :: a10 :: a11 :: r) 11 s ↔ f (a0 :: a1 :: a2 :: a3 :: a4 :: a5 :: a6 :: a7 :: a8 :: a9 :: a10 :: s :: r) := Iff.rfl
theorem at12 {a0 a1 a2 a3 a4 a5 a6 a7 a8 a9 a10 a11 a12 : S} {r : En} {k : S → Prop} : atK (a0 :: a1 :: a2 :: a3 :: a4 :: a5 :: a6 :: a7 :: a8 :: a9 :: a10 :: a11 :: a12 :: r) 12 k ↔ k a12 := ⟨fun ⟨s, e, h⟩ => by cases e; exact h, fun h => ⟨_, rfl, h⟩⟩
theorem set12 {a0 a1 a2 a3 a4 a5 a6 a7 a8 a9 a10 a11 a12 : S} {r : En} {s : S} {f : En → Prop} : setK f (a0 :: a1 :: a2 :: a3 :: a4 :: a5 :: a6 :: a7 :: a8 :: a9 :: a10 :: a11 :: a12 :: r) 12 s ↔ f (a0 :: a1 :: a2 :: a3 :: a4 :: a5 :: a6 :: a7 :: a8 :: a9 :: a10 :: a11 :: s :: r) := Iff.rfl
theorem at13 {a0 a1 a2 a3 a4 a5 a6 a7 a8 a9 a10 a11 a12 a13 : S} {r : En} {k : S → Prop} : atK (a0 :: a1 :: a2 :: a3 :: a4 :: a5 :: a6 :: a7 :: a8 :: a9 :: a10 :: a11 :: a12 :: a13 :: r) 13 k ↔ k a13 := ⟨fun ⟨s, e, h⟩ => by cases e; exact h, fun h => ⟨_, rfl, h⟩⟩
theorem set13 {a0 a1 a2 a3 a4 a5 a6 a7 a8 a9 a10 a11 a12 a13 : S} {r : En} {s : S} {f : En → Prop} : setK f (a0 :: a1 :: a2 :: a3 :: a4 :: a5 :: a6 :: a7 :: a8 :: a9 :: a10 :: a11 :: a12 :: a13 :: r) 13 s ↔ f (a0 :: a1 :: a2 :: a3 :: a4 :: a5 :: a6 :: a7 :: a8 :: a9 :: a10 :: a11 :: a12 :: s :: r) := Iff.rfl
theorem at14 {a0 a1 a2 a3 a4 a5 a6 a7 a8 a9 a10 a11 a12 a13 a14 : S} {r : En} {k : S → Prop} : atK (a0 :: a1 :: a2 :: a3 :: a4 :: a5 :: a6 :: a7 :: a8 :: a9 :: a10 :: a11 :: a12 :: a13 :: a14 :: r) 14 k ↔ k a14 := ⟨fun ⟨s, e, h⟩ => by cases e; exact h, fun h => ⟨_, rfl, h⟩⟩
theorem set14 {a0 a1 a2 a3 a4 a5 a6 a7 a8 a9 a10 a11 a12 a13 a14 : S} {r : En} {s : S} {f : En → Prop} : setK f (a0 :: a1 :: a2 :: a3 :: a4 :: a5 :: a6 :: a7 :: a8 :: a9 :: a10 :: a11 :: a12 :: a13 :: a14 :: r) 14 s ↔ f (a0 :: a1 :: a2 :: a3 :: a4 :: a5 :: a6 :: a7 :: a8 :: a9 :: a10 :: a11 :: a12 :: a13 :: s :: r) := Iff.rfl
theorem at15 {a0 a1 a2 a3 a4 a5 a6 a7 a8 a9 a10 a11 a12 a13 a14 a15 : S} {r : En} {k : S → Prop} : atK (a0 :: a1 :: a2 :: a3 :: a4 :: a5 :: a6 :: a7 :: a8 :: a9 :: a10 :: a11 :: a12 :: a13 :: a14 :: a15 :: r) 15 k ↔ k a15 := ⟨fun ⟨s, e, h⟩ => by cases e; exact h, fun h => ⟨_, rfl, h⟩⟩
theorem set15 {a0 a1 a2 a3 a4 a5 a6 a7 a8 a9 a10 a11 a12 a13 a14 a15 : S} {r : En} {s : S} {f : En → Prop} : setK f (a0 :: a1 :: a2 :: a3 :: a4 :: a5 :: a6 :: a7 :: a8 :: a9 :: a10 :: a11 :: a12 :: a13 :: a14 :: a15 :: r) 15 s ↔ f (a0 :: a1 :: a2 :: a3 :: a4 :: a5 :: a6 :: a7 :: a8 :: a9 :: a10 :: a11 :: a12 :: a13 :: a14 :: s :: r) := Iff.rfl

theorem fz_d {x : PyData} : fzK (.d x) k ↔ k (.d x) := Iff.rfl
theorem fz_own {xs : List PyData} : fzK (.own xs) k ↔ k (.d (.list xs)) := Iff.rfl
theorem fz_ob {t : Tk} : fzK (.ob t) k ↔ k (.ob t) := Iff.rfl
theorem one_d {x : PyData} {k : PyData → Prop} : oneK (.d x) k ↔ k x := ⟨fun ⟨y, e, h⟩ => by cases e; exact h, fun h => ⟨_, rfl, h⟩⟩
theorem int_d {x : Int} {k : Int → Prop} : intK (.d (.int x)) k ↔ k x := ⟨fun ⟨y, e, h⟩ => by cases e; exact h, fun h => ⟨_, rfl, h⟩⟩
theorem bool_d {x : Bool} {k : Bool → Prop} : boolK (.d (.bool x)) k ↔ k x := ⟨fun ⟨y, e, h⟩ => by cases e; exact h, fun h => ⟨_, rfl, h⟩⟩
theorem own_o {xs : List PyData} {k : List PyData → Prop} : ownK (.own xs) k ↔ k xs := ⟨fun ⟨y, e, h⟩ => by cases e; exact h, fun h => ⟨_, rfl, h⟩⟩
theorem ds_nil {k : List PyData → Prop} : dsK [] k ↔ k [] := ex_nil
theorem ds_cons {a : PyData} {r : List S} {k : List PyData → Prop} : dsK (.d a :: r) k ↔ dsK r fun xs => k (a :: xs) := ex_cons
theorem seq_l {xs : List PyData} {k : List PyData → Prop} : seqK (.d (.list xs)) k ↔ k xs := ⟨fun ⟨y, e, h⟩ => by rcases e with e | e <;> cases e; exact h, fun h => ⟨_, .inl rfl, h⟩⟩
theorem seq_t {xs : List PyData} {k : List PyData → Prop} : seqK (.d (.tuple xs)) k ↔ k xs := ⟨fun ⟨y, e, h⟩ => by rcases e with e | e <;> cases e; exact h, fun h => ⟨_, .inr rfl, h⟩⟩
theorem ite_t {p q : Prop} : iteK true p q ↔ p := Iff.rfl
theorem ite_f {p q : Prop} : iteK false p q ↔ q := by simp [iteK]
theorem ite_dec {c : Prop} [Decidable c] {p q : Prop} : iteK (decide c) p q ↔ ((c → p) ∧ (¬ c → q)) := by
  unfold iteK
  by_cases h : c <;> simp [h]
theorem ite_ndec {c : Prop} [Decidable c] {p q : Prop} : iteK (!decide c) p q ↔ ((¬ c → p) ∧ (c → q)) := by
  unfold iteK
  by_cases h : c <;> simp [h]
theorem itK_not {b : Bool} {p q : Prop} : iteK (!b) p q ↔ iteK b q p := by cases b <;> simp [iteK]
theorem ite_bool {b : Bool} {p q : Prop} : iteK b p q ↔ ((b = true → p) ∧ (b = false → q)) := by cases b <;> simp [iteK]
theorem iteI {c : Prop} [Decidable c] {p q : Prop} (h1 : c → p) (h2 : ¬ c → q) : iteK (decide c) p q := ite_dec.mpr ⟨h1, h2⟩
theorem iteB {b : Bool} {p q : Prop} (h1 : b = true → p) (h2 : b = false → q) : iteK b p q := ite_bool.mpr ⟨h1, h2⟩
/-! statements -/
theorem e_next : dNext D ρ ↔ D.nx ρ := Iff.rfl
theorem e_seq {a b : TSd} : dSeq a b D ρ ↔ a { D with nx := b D } ρ := Iff.rfl
theorem e_set : dSet i t D ρ ↔ t ρ fun s ρ1 => setK D.nx ρ1 i s := Iff.rfl
theorem e_drop : dDrop t D ρ ↔ t ρ fun _ ρ1 => D.nx ρ1 := Iff.rfl
theorem e_ret : dRet t D ρ ↔ t ρ fun s _ => D.rt s := Iff.rfl
theorem e_ifs {a b : TSd} : dIfS tt a b D ρ ↔ tt ρ fun c ρ1 => iteK c (a D ρ1) (b D ρ1) := Iff.rfl
theorem e_brk : dBrk D ρ ↔ D.bk ρ := Iff.rfl
theorem e_cnt : dCnt D ρ ↔ D.ct ρ := Iff.rfl
theorem e_fixs {a : TSd} : dFixS i a D ρ ↔ atK ρ i fun s => ownK s fun xs => setK (a D) ρ i (.d (.list xs)) := by
  constructor
  · intro ⟨xs, e, q⟩; exact ⟨_, e, xs, rfl, q⟩
  · intro ⟨_, e, xs, z, q⟩; exact ⟨xs, z ▸ e, q⟩
theorem e_par : dPar i j ta tb D ρ ↔ ta ρ fun s1 ρ1 => tb ρ1 fun s2 ρ2 => setK (fun ρ3 => setK D.nx ρ3 j s2) ρ2 i s1 := Iff.rfl
theorem e_par3 {l : Nat} {tc : TEd} : dPar3 i j l ta tb tc D ρ ↔ ta ρ fun s1 ρ1 => tb ρ1 fun s2 ρ2 => tc ρ2 fun s3 ρ3 => setK (fun ρ4 => setK (fun ρ5 => setK D.nx ρ5 l s3) ρ4 j s2) ρ3 i s1 := Iff.rfl
theorem e_asg : dAsg t g D ρ ↔ t ρ fun s ρ1 => oneK s fun x => g x ρ1 D.nx := Iff.rfl
theorem e_for {ti : TId} {b : TSd} : dFor ti g b D ρ ↔ ti ρ fun ds ρ1 => dLoop g b D ds ρ1 := Iff.rfl
theorem e_putAt : dPutAt i ta tb D ρ ↔ tb ρ fun s ρ1 => oneK s fun x => atK ρ1 i fun o => ownK o fun _ => ta ρ1 fun s2 ρ2 => intK s2 fun n => atK ρ2 i fun o => ownK o fun xs => ∃ j, ixN xs.length n = some j ∧ setK D.nx ρ2 i (.own (xs.set j x)) := by
  have e : ∀ (s2 : S) (ρ2 : En) (x : PyData), (∃ k j xs, s2 = .d (.int k) ∧ ρ2[i]? = some (.own xs) ∧ ixN xs.length k = some j ∧ D.nx (ρ2.set i (.own (xs.set j x)))) ↔ (intK s2 fun n => atK ρ2 i fun o => ownK o fun xs => ∃ j, ixN xs.length n = some j ∧ setK D.nx ρ2 i (.own (xs.set j x))) := by
    intro s2 ρ2 x
    constructor
    · intro ⟨k, j, xs, e1, e2, e3, q⟩; exact ⟨k, e1, _, e2, xs, rfl, j, e3, q⟩
    · intro ⟨k, e1, _, e2, xs, z, j, e3, q⟩; exact ⟨k, j, xs, e1, z ▸ e2, e3, q⟩
  have e2 : ∀ (s : S) (ρ1 : En), (∃ x ys, s = .d x ∧ ρ1[i]? = some (.own ys) ∧ ta ρ1 fun s2 ρ2 => ∃ k j xs, s2 = .d (.int k) ∧ ρ2[i]? = some (.own xs) ∧ ixN xs.length k = some j ∧ D.nx (ρ2.set i (.own (xs.set j x)))) ↔
      (oneK s fun x => atK ρ1 i fun o => ownK o fun _ => ta ρ1 fun s2 ρ2 => intK s2 fun n => atK ρ2 i fun o => ownK o fun xs => ∃ j, ixN xs.length n = some j ∧ setK D.nx ρ2 i (.own (xs.set j x))) := by
    intro s ρ1
    simp only [e]
    constructor
    · intro ⟨x, ys, e1, e2, q⟩; exact ⟨x, e1, _, e2, ys, rfl, q⟩
    · intro ⟨x, e1, _, e2, ys, z, q⟩; exact ⟨x, ys, e1, z ▸ e2, q⟩
  unfold dPutAt
  simp only [e2]
theorem e_jput : dJPut i t D ρ ↔ t ρ fun s ρ1 => intK s fun _ => ρ1[i]? = some (.ob .jar) ∧ D.nx ρ1 := Iff.rfl
/-! expressions -/
theorem e_var : dVar i ρ Q ↔ atK ρ i fun s => s.firm ∧ Q s ρ := Iff.rfl
theorem e_k {x : PyData} : dK x ρ Q ↔ Q (.d x) ρ := Iff.rfl
theorem e_fz : dFz t ρ Q ↔ t ρ fun s ρ1 => fzK s fun s => Q s ρ1 := Iff.rfl
theorem e_op {f : F2} : dOp f ta tb ρ Q ↔ ta ρ fun s1 ρ1 => tb ρ1 fun s2 ρ2 => oneK s1 fun x => oneK s2 fun y => f x y fun s => Q s ρ2 := by
  have e : ∀ (s1 s2 : S) (ρ2 : En), (∃ x y, s1 = .d x ∧ s2 = .d y ∧ f x y fun s => Q s ρ2) ↔ (oneK s1 fun x => oneK s2 fun y => f x y fun s => Q s ρ2) := fun s1 s2 ρ2 => ⟨fun ⟨x, y, a, b, h⟩ => ⟨x, a, y, b, h⟩, fun ⟨x, a, y, b, h⟩ => ⟨x, y, a, b, h⟩⟩
  unfold dOp
  simp only [e]
theorem e_opL {f : F2} : dOpL i f tb ρ Q ↔ (atK ρ i fun o => ownK o fun _ => tb ρ fun s2 ρ2 => oneK s2 fun y => atK ρ2 i fun o => ownK o fun xs => f (.list xs) y fun s => Q s ρ2) := by
  have e : ∀ (s2 : S) (ρ2 : En), (∃ xs y, ρ2[i]? = some (.own xs) ∧ s2 = .d y ∧ f (.list xs) y fun s => Q s ρ2) ↔ (oneK s2 fun y => atK ρ2 i fun o => ownK o fun xs => f (.list xs) y fun s => Q s ρ2) := fun s2 ρ2 => ⟨fun ⟨x, y, a, b, h⟩ => ⟨y, b, .own x, a, x, rfl, h⟩, fun ⟨y, b, _, a, x, e, h⟩ => ⟨x, y, e ▸ a, b, h⟩⟩
  unfold dOpL
  simp only [e]
  exact ⟨fun ⟨⟨ys, a⟩, h⟩ => ⟨.own ys, a, ys, rfl, h⟩, fun ⟨_, a, ys, e, h⟩ => ⟨⟨ys, e ▸ a⟩, h⟩⟩
theorem e_opR {f : F2} : dOpR f ta i ρ Q ↔ ta ρ fun s1 ρ1 => oneK s1 fun x => atK ρ1 i fun o => ownK o fun ys => f x (.list ys) fun s => Q s ρ1 := by
  have e : ∀ (s1 : S) (ρ1 : En), (∃ x ys, s1 = .d x ∧ ρ1[i]? = some (.own ys) ∧ f x (.list ys) fun s => Q s ρ1) ↔ (oneK s1 fun x => atK ρ1 i fun o => ownK o fun ys => f x (.list ys) fun s => Q s ρ1) := fun s1 ρ1 => ⟨fun ⟨x, y, a, b, h⟩ => ⟨x, a, .own y, b, y, rfl, h⟩, fun ⟨x, a, _, b, y, e, h⟩ => ⟨x, y, a, e ▸ b, h⟩⟩
  unfold dOpR
  simp only [e]
theorem e_n {f : FN} : dN f as ρ Q ↔ as ρ fun ss ρ1 => dsK ss fun xs => f xs fun s => Q s ρ1 := Iff.rfl
theorem e_n1 {f : FN} : dN1 f i ρ Q ↔ atK ρ i fun o => ownK o fun xs => f [.list xs] fun s => Q s ρ := ⟨fun ⟨xs, a, h⟩ => ⟨.own xs, a, xs, rfl, h⟩, fun ⟨_, a, xs, e, h⟩ => ⟨xs, e ▸ a, h⟩⟩
theorem e_nil : dNil ρ QA ↔ QA [] ρ := Iff.rfl
theorem e_cons : dCons t as ρ QA ↔ t ρ fun s ρ1 => s.firm ∧ as ρ1 fun ss ρ2 => QA (s :: ss) ρ2 := Iff.rfl
theorem e_tup : dTup as ρ Q ↔ as ρ fun ss ρ1 => dsK ss fun xs => xs.length ≤ sizeLine ∧ Q (.d (.tuple xs)) ρ1 := Iff.rfl
theorem e_lst : dLst as ρ Q ↔ as ρ fun ss ρ1 => dsK ss fun xs => xs.length ≤ sizeLine ∧ Q (.own xs) ρ1 := Iff.rfl
theorem e_b : dB t ρ QB ↔ t ρ fun s ρ1 => boolK s fun b => QB b ρ1 := Iff.rfl
theorem e_not : dNot tt ρ QB ↔ tt ρ fun b ρ1 => QB (!b) ρ1 := Iff.rfl
theorem e_and : dAnd tt tu ρ QB ↔ tt ρ fun b ρ1 => iteK b (tu ρ1 QB) (QB false ρ1) := Iff.rfl
theorem e_or : dOr tt tu ρ QB ↔ tt ρ fun b ρ1 => iteK b (QB true ρ1) (tu ρ1 QB) := Iff.rfl
theorem e_andV : dAndV ta tb ρ Q ↔ ta ρ fun s ρ1 => boolK s fun b => iteK b (tb ρ1 Q) (Q (.d (.bool false)) ρ1) := Iff.rfl
theorem e_orV : dOrV ta tb ρ Q ↔ ta ρ fun s ρ1 => boolK s fun b => iteK b (Q (.d (.bool true)) ρ1) (tb ρ1 Q) := Iff.rfl
theorem e_notV : dNotV ta ρ Q ↔ ta ρ fun s ρ1 => boolK s fun b => Q (.d (.bool (!b))) ρ1 := Iff.rfl
theorem e_if : dIf tt ta tb ρ Q ↔ tt ρ fun b ρ1 => iteK b (ta ρ1 Q) (tb ρ1 Q) := Iff.rfl
theorem e_isi {T : String} : dIsi T t ρ Q ↔ t ρ fun s ρ1 => oneK s fun x => Q (.d (.bool (isK T x))) ρ1 := Iff.rfl
theorem e_neg : dNeg t ρ Q ↔ t ρ fun s ρ1 => intK s fun i => Q (.d (.int (-i))) ρ1 := Iff.rfl
theorem e_chain {f f' : F2} {tc : TEd} : dChain f f' ta tb tc ρ Q ↔ ta ρ fun s1 ρ1 => tb ρ1 fun s2 ρ2 => oneK s1 fun x => oneK s2 fun y => f x y fun s => boolK s fun b => iteK b (tc ρ2 fun s3 ρ3 => oneK s3 fun z => f' y z fun s => Q s ρ3) (Q (.d (.bool false)) ρ2) := by
  have e : ∀ (s1 s2 : S) (ρ2 : En) (P : PyData → PyData → Prop), (∃ x y, s1 = .d x ∧ s2 = .d y ∧ P x y) ↔ (oneK s1 fun x => oneK s2 fun y => P x y) := fun s1 s2 ρ2 P => ⟨fun ⟨x, y, a, b, h⟩ => ⟨x, a, y, b, h⟩, fun ⟨x, a, y, b, h⟩ => ⟨x, y, a, b, h⟩⟩
  unfold dChain
  simp only [e _ _ ρ]
  exact Iff.rfl
theorem e_call {F : FnD} {n : Nat} : dCall F n as ρ Q ↔ as ρ fun ss ρ1 => ss.length = n ∧ F ss fun s => Q s ρ1 := Iff.rfl
theorem e_callK {F : FnD} {n : Nat} {gS : List S → List S} : dCallK F n gS as ρ Q ↔ as ρ fun ss ρ1 => (gS ss).length = n ∧ F (gS ss) fun s => Q s ρ1 := Iff.rfl
theorem e_jint : dJInt i ρ Q ↔ (atK ρ i fun s => s = .ob .jar ∧ ∀ n : Int, Q (.d (.int n)) ρ) := ⟨fun ⟨e, h⟩ => ⟨_, e, rfl, h⟩, fun ⟨_, e, z, h⟩ => ⟨z ▸ e, h⟩⟩
theorem e_dict0 : dDict0 ρ Q ↔ Q (.d (.dict [])) ρ := Iff.rfl
theorem e_dict1 {z : Str} : dDict1 z t ρ Q ↔ t ρ fun s ρ1 => oneK s fun x => Q (.d (.dict [(.str z, x)])) ρ1 := Iff.rfl
theorem e_listRng : dListRng t ρ Q ↔ t ρ fun s ρ1 => intK s fun n => 0 ≤ n ∧ n ≤ 16777216 ∧ Q (.own (irow 0 n.toNat)) ρ1 := Iff.rfl
theorem e_append : dAppend i t ρ Q ↔ (atK ρ i fun o => ownK o fun _ => t ρ fun s ρ1 => oneK s fun x => atK ρ1 i fun o => ownK o fun xs => xs.length < sizeLine ∧ setK (Q (.d .none)) ρ1 i (.own (xs ++ [x]))) := by
  have e : ∀ (s : S) (ρ1 : En), (∃ x xs, s = .d x ∧ ρ1[i]? = some (.own xs) ∧ xs.length < sizeLine ∧ Q (.d .none) (ρ1.set i (.own (xs ++ [x])))) ↔ (oneK s fun x => atK ρ1 i fun o => ownK o fun xs => xs.length < sizeLine ∧ setK (Q (.d .none)) ρ1 i (.own (xs ++ [x]))) := fun s ρ1 => ⟨fun ⟨x, y, a, b, h⟩ => ⟨x, a, .own y, b, y, rfl, h⟩, fun ⟨x, a, _, b, y, e, h⟩ => ⟨x, y, a, e ▸ b, h⟩⟩
  unfold dAppend
  simp only [e]
  exact ⟨fun ⟨⟨ys, a⟩, h⟩ => ⟨.own ys, a, ys, rfl, h⟩, fun ⟨_, a, ys, e, h⟩ => ⟨⟨ys, e ▸ a⟩, h⟩⟩
theorem e_cut {l u : TOd} : dCut t l u ρ Q ↔ t ρ fun s ρ1 => l ρ1 fun lo ρ2 => u ρ2 fun hi ρ3 => oneK s fun x => fCut x lo hi fun s => Q s ρ3 := Iff.rfl
theorem e_cutO {l u : TOd} : dCutO i l u ρ Q ↔ (atK ρ i fun o => ownK o fun _ => l ρ fun lo ρ2 => u ρ2 fun hi ρ3 => atK ρ3 i fun o => ownK o fun xs => Q (.own (cutD xs lo hi)) ρ3) := by
  have e : ∀ (lo hi : Option Int) (ρ3 : En), (∃ xs, ρ3[i]? = some (.own xs) ∧ Q (.own (cutD xs lo hi)) ρ3) ↔ (atK ρ3 i fun o => ownK o fun xs => Q (.own (cutD xs lo hi)) ρ3) := fun lo hi ρ3 => ⟨fun ⟨x, a, h⟩ => ⟨.own x, a, x, rfl, h⟩, fun ⟨_, a, x, e, h⟩ => ⟨x, e ▸ a, h⟩⟩
  unfold dCutO
  simp only [e]
  exact ⟨fun ⟨⟨ys, a⟩, h⟩ => ⟨.own ys, a, ys, rfl, h⟩, fun ⟨_, a, ys, e, h⟩ => ⟨⟨ys, e ▸ a⟩, h⟩⟩
theorem e_onone {QO : Option Int → En → Prop} : dONone ρ QO ↔ QO none ρ := Iff.rfl
theorem e_osome {QO : Option Int → En → Prop} : dOSome t ρ QO ↔ t ρ fun s ρ1 => intK s fun i => QO (some i) ρ1 := Iff.rfl
theorem e_iseq {QI : List PyData → En → Prop} : dISeq t ρ QI ↔ t ρ fun s ρ1 => seqK s fun ds => QI ds ρ1 := Iff.rfl
theorem e_ienum {QI : List PyData → En → Prop} : dIEnum t ρ QI ↔ t ρ fun s ρ1 => seqK s fun ds => QI (pairsFrom 0 ds) ρ1 := by
  unfold dIEnum
  simp only [pairsOf_eq]
  exact Iff.rfl
theorem e_irng {QI : List PyData → En → Prop} : dIRng t ρ QI ↔ t ρ fun s ρ1 => intK s fun j => j < 2 ^ 60 ∧ -(2 ^ 60) < j ∧ QI (irow 0 j.toNat) ρ1 := Iff.rfl
theorem e_gname {d : PyData} {f : En → Prop} : dgName i d ρ f ↔ setK f ρ i (.d d) := Iff.rfl
theorem e_lnil {b : TSd} : dLoop g b D [] ρ ↔ D.nx ρ := Iff.rfl
theorem e_lcons {b : TSd} {d : PyData} {ds : List PyData} : dLoop g b D (d :: ds) ρ ↔ g d ρ fun ρ1 => b { nx := dLoop g b D ds, ct := dLoop g b D ds, bk := D.nx, rt := D.rt } ρ1 := Iff.rfl
theorem e_lc {ti : TId} {vs : List Nat} : dLc ti vs g tt t ρ Q ↔ ti ρ fun ds ρ1 => ds.length ≤ sizeLine ∧ dLcGo vs g tt t (wipeD ρ1 vs) (fun acc => Q (.own acc) (wipeD ρ1 vs)) ds [] := Iff.rfl
theorem e_yes : dYes ρ QB ↔ QB true ρ := Iff.rfl
/-! what is worked out -/
theorem f_addI {a b : Int} : fAdd (.int a) (.int b) k ↔ k (.d (.int (a + b))) := Iff.rfl
theorem f_addS {a b : Str} : fAdd (.str a) (.str b) k ↔ a.length + b.length ≤ sizeLine ∧ k (.d (.str (a ++ b))) := Iff.rfl
theorem f_addT {a b : List PyData} : fAdd (.tuple a) (.tuple b) k ↔ a.length + b.length ≤ sizeLine ∧ k (.d (.tuple (a ++ b))) := Iff.rfl
theorem f_addL {a b : List PyData} : fAdd (.list a) (.list b) k ↔ a.length + b.length ≤ sizeLine ∧ k (.own (a ++ b)) := Iff.rfl
theorem f_i2 {g : Int → Int → PyData} {c : Int → Int → Prop} {a b : Int} : fI2 g c (.int a) (.int b) k ↔ c a b ∧ k (.d (g a b)) := ⟨fun ⟨_, _, e1, e2, h⟩ => by cases e1; cases e2; exact h, fun h => ⟨_, _, rfl, rfl, h⟩⟩
theorem f_mulI {a b : Int} : fMul (.int a) (.int b) k ↔ (CMul a b ∨ CMulW a b) ∧ k (.d (.int (a * b))) := Iff.rfl
theorem f_mulT {a : List PyData} {n : Int} : fMul (.tuple a) (.int n) k ↔ -(2 ^ 62) < n ∧ n < 2 ^ 62 ∧ a.length * n.toNat ≤ sizeLine ∧ k (.d (.tuple (List.replicate n.toNat a).flatten)) := Iff.rfl
theorem f_mulL {a : List PyData} {n : Int} : fMul (.list a) (.int n) k ↔ -(2 ^ 62) < n ∧ n < 2 ^ 62 ∧ a.length * n.toNat ≤ sizeLine ∧ k (.own (List.replicate n.toNat a).flatten) := Iff.rfl
theorem f_eq {x y : PyData} : fEq x y k ↔ eqOk x y = true ∧ k (.d (.bool (PyData.eqv x y))) := Iff.rfl
theorem f_ne {x y : PyData} : fNe x y k ↔ eqOk x y = true ∧ k (.d (.bool (!PyData.eqv x y))) := Iff.rfl
theorem f_is {x : PyData} : fIs x .none k ↔ k (.d (.bool (isNon x))) := ⟨fun h => h.2, fun h => ⟨rfl, h⟩⟩
theorem f_isnot {x : PyData} : fIsNot x .none k ↔ k (.d (.bool (!isNon x))) := ⟨fun h => h.2, fun h => ⟨rfl, h⟩⟩
theorem f_in {x c : PyData} : fIn x c k ↔ ∃ b, inD x c = some b ∧ k (.d (.bool b)) := Iff.rfl
theorem f_notin {x c : PyData} : fNotIn x c k ↔ ∃ b, inD x c = some b ∧ k (.d (.bool (!b))) := Iff.rfl
theorem f_ixL {xs : List PyData} {n : Int} : fIx (.list xs) (.int n) k ↔ ∃ v, atI xs n = some v ∧ k (.d v) := ⟨fun ⟨_, e, h⟩ => by cases e; exact h, fun h => ⟨_, rfl, h⟩⟩
theorem f_ixT {xs : List PyData} {n : Int} : fIx (.tuple xs) (.int n) k ↔ ∃ v, atI xs n = some v ∧ k (.d v) := ⟨fun ⟨_, e, h⟩ => by cases e; exact h, fun h => ⟨_, rfl, h⟩⟩
theorem f_lenL {xs : List PyData} : fLen [.list xs] k ↔ k (.d (.int xs.length)) := Iff.rfl
theorem f_lenT {xs : List PyData} : fLen [.tuple xs] k ↔ k (.d (.int xs.length)) := Iff.rfl
theorem f_lenS {z : Str} : fLen [.str z] k ↔ z.length ≤ sizeLine ∧ k (.d (.int z.length)) := Iff.rfl
theorem f_abs {n : Int} : fAbs [.int n] k ↔ k (.d (.int n.natAbs)) := ⟨fun ⟨_, e, h⟩ => by cases e; exact h, fun h => ⟨_, rfl, h⟩⟩
theorem f_intI {n : Int} : fInt [.int n] k ↔ k (.d (.int n)) := Iff.rfl
theorem f_intB {b : Bool} : fInt [.bool b] k ↔ k (.d (.int (if b then 1 else 0))) := Iff.rfl
theorem f_tupL {xs : List PyData} : fTuple [.list xs] k ↔ k (.d (.tuple xs)) := Iff.rfl
theorem f_tupT {xs : List PyData} : fTuple [.tuple xs] k ↔ k (.d (.tuple xs)) := Iff.rfl
theorem f_lstL {xs : List PyData} : fList [.list xs] k ↔ k (.own xs) := Iff.rfl
theorem f_lstT {xs : List PyData} : fList [.tuple xs] k ↔ k (.own xs) := Iff.rfl
theorem f_repr {x : PyData} : fRepr [x] k ↔ x.showable = true ∧ x.shown.length ≤ sizeLine ∧ x.depth ≤ 60 ∧ k (.d (.str x.shown)) := ⟨fun ⟨_, e, h⟩ => by cases e; exact h, fun h => ⟨_, rfl, h⟩⟩
theorem f_cutL {xs : List PyData} {lo hi : Option Int} : fCut (.list xs) lo hi k ↔ k (.own (cutD xs lo hi)) := Iff.rfl
theorem f_cutT {xs : List PyData} {lo hi : Option Int} : fCut (.tuple xs) lo hi k ↔ k (.d (.tuple (cutD xs lo hi))) := Iff.rfl
theorem firm_d {x : PyData} : S.firm (.d x) ↔ True := Iff.rfl
theorem firm_ob {t : Tk} : S.firm (.ob t) ↔ True := Iff.rfl
end
end GB

namespace GB
open PySem PySem.Spec PyProof.Rows L2

/-! comprehensions of two clauses -/
theorem walk_it {J : It} {n : Nat} {G : Hp → Prop} {Y : Nat → Hp → V → Hp → Prop} (w : Walk J n G Y) {Body : (Hp → Prop) → V → Hp → Prop} {Qd : Hp → Prop} {H0 : Hp} (Pv : Nat → Hp → Prop) (h0 : Pv 0 H0) (hG : ∀ i H, i ≤ n → Pv i H → G H)
    (hs : ∀ i x H H', i < n → Pv i H → Y i H x H' → Body (Pv (i + 1)) x H') (hd : ∀ H, Pv n H → Qd H) :
    ∃ W : Nat → Nat → Hp → Prop, (∃ m, W 0 m H0) ∧ ∀ i m H, W i m H → (J.stop i H ∧ Qd H) ∨ (J.go i H ∧ ∃ Nx : Hp → Prop, (∀ H', Nx H' → ∃ m', m' < m ∧ W (i + 1) m' H') ∧ ∀ x H', J.yld i H x H' → Body Nx x H') := by
  refine ⟨fun i m H => m = n - i ∧ i ≤ n ∧ Pv i H, ⟨n, by simp, Nat.zero_le _, h0⟩, ?_⟩
  rintro i m H ⟨rfl, hi, p⟩
  have q := hG i H hi p
  by_cases hlt : i < n
  · exact .inr ⟨w.goes i H hlt q, Pv (i + 1), fun H' p' => ⟨n - (i + 1), by omega, rfl, hlt, p'⟩, fun x H' y => hs i x H H' hlt p (w.yields i H x H' hlt q y)⟩
  · have e : i = n := by omega
    subst e
    exact .inl ⟨w.stops H q, hd H p⟩
def dInGo (vs : List Nat) (g : DTG) (tt : TTd) (te : TEd) (ρw : En) (K : List PyData → Prop) : List PyData → List PyData → Prop
  | [], acc => K acc
  | d :: ds, acc => g d ρw fun ρ2 => wipeD ρ2 vs = ρw ∧ tt ρ2 fun b ρ3 => ρ3 = ρ2 ∧ if b = true then te ρ2 fun s ρ4 => ρ4 = ρ2 ∧ ∃ y, s = .d y ∧ acc.length < sizeLine ∧ dInGo vs g tt te ρw K ds (acc ++ [y]) else dInGo vs g tt te ρw K ds acc
def dLc2Go (vs vs1 : List Nat) (g : DTG) (tt : TTd) (ti1 : TId) (g1 : DTG) (tt1 : TTd) (te : TEd) (ρw : En) (Q : List PyData → Prop) : List PyData → List PyData → Prop
  | [], acc => Q acc
  | d :: ds, acc => g d ρw fun ρ2 => wipeD ρ2 vs = ρw ∧ tt ρ2 fun b ρ3 => ρ3 = ρ2 ∧ if b = true then ti1 ρ2 fun ds1 ρ4 => ρ4 = ρ2 ∧ dInGo vs1 g1 tt1 te (wipeD ρ2 vs1) (fun acc => dLc2Go vs vs1 g tt ti1 g1 tt1 te ρw Q ds acc) ds1 acc else dLc2Go vs vs1 g tt ti1 g1 tt1 te ρw Q ds acc
def dLc2 (ti : TId) (vs vs1 : List Nat) (g : DTG) (tt : TTd) (ti1 : TId) (g1 : DTG) (tt1 : TTd) (te : TEd) : TEd := fun ρ Q => ti ρ fun ds ρ1 => dLc2Go vs vs1 g tt ti1 g1 tt1 te (wipeD ρ1 vs) (fun acc => Q (.own acc) (wipeD ρ1 vs)) ds []
section
variable {L : Lay}
theorem wipe_wipe {σ : L2.St} {vs : List Nat} : wipe (wipe σ vs) vs = wipe σ vs := by
  apply List.ext_getElem?
  intro j
  rw [wipe_get, wipe_length, wipe_get]
  split <;> rfl
theorem back {σ2 σw : L2.St} {ρw ρ2 : En} {vs : List Nat} {H1 H3 H4 : Hp} {D : Addr} {o : HO} (e2 : wipeD ρ2 vs = ρw) (no2 : NoOwn vs ρ2) (ew : wipe σ2 vs = σw) (dS : ∀ (i : Nat) (ys : Ow), ρw[i]? = some (.ow ys) → σw[i]? ≠ some (some (.ref D)))
    (goi : Go σw ρw ρw H1 H3) (hD : H3 D = some o) (g4 : Go σ2 ρ2 ρ2 H3 H4) (r4 : Rel L H4 σ2 ρ2) : Go σw ρw ρw H1 H4 ∧ Rel L H4 σw ρw ∧ H4 D = some o := by
  subst ew
  have outw : ∀ j, j ∉ vs → (wipe σ2 vs)[j]? = σ2[j]? := fun j hj => GB.wipe_out σ2 vs j hj
  have own2 : ∀ (j : Nat) (xs : Ow), ρ2[j]? = some (.ow xs) → j ∉ vs ∧ ρw[j]? = some (.ow xs) := fun j xs ej => by
    have nj : j ∉ vs := fun m => no2 j m xs ej
    exact ⟨nj, by rw [← e2, wipeD_get, if_neg nj]; exact ej⟩
  refine ⟨⟨fun a o h n => ?_, fun j xs ej => ⟨xs, ej⟩, fun a h => goi.dom a (g4.dom a h)⟩, ?_, ?_⟩
  · refine g4.stay a o (goi.stay a o h n) fun j xs ej z => ?_
    obtain ⟨nj, ej'⟩ := own2 j xs ej
    exact n j xs ej' (by rw [outw j nj]; exact z)
  · have := (r4.wiped (vs := vs)).move (σ' := wipe σ2 vs) (wipe_length σ2 vs) outw
    rw [e2] at this; exact this
  · refine g4.stay D _ hD fun j xs ej z => ?_
    obtain ⟨nj, ej'⟩ := own2 j xs ej
    exact dS j xs ej' (by rw [outw j nj]; exact z)
theorem wipeD_in {ρ : En} {vs vs1 : List Nat} (hv : ∀ i ∈ vs1, i ∈ vs) : wipeD (wipeD ρ vs1) vs = wipeD ρ vs := by
  apply List.ext_getElem?
  intro j
  rw [wipeD_get, wipeD_get, wipeD_len, wipeD_get]
  by_cases h : j ∈ vs
  · rw [if_pos h, if_pos h]
  · rw [if_neg h, if_neg h, if_neg fun m => h (hv j m)]
theorem Go.shift {σ σ' : L2.St} {ρ ρ' : En} {H H' : Hp} (go : Go σ ρ ρ H H') (h : ∀ (i : Nat) (xs : Ow), ρ[i]? = some (.ow xs) → ρ'[i]? = some (.ow xs) ∧ σ'[i]? = σ[i]?) : Go σ' ρ' ρ' H H' :=
  ⟨fun a o e n => go.stay a o e fun i xs q z => n i xs (h i xs q).1 ((h i xs q).2.trans z), fun i xs e => ⟨xs, e⟩, go.dom⟩
theorem app_go {σw : L2.St} {ρw : En} {H1 H : Hp} {D : Addr} {ws : List V} (go : Go σw ρw ρw H1 H) (hD : H1 D = none) : Go σw ρw ρw H1 (upd H D (.lst ws)) := by
  refine ⟨fun a o h n => ?_, fun j xs ej => ⟨xs, ej⟩, fun a h => ?_⟩
  · rw [upd_ne (fun z => by rw [z, hD] at h; cases h)]; exact go.stay a o h n
  · by_cases z : a = D
    · rw [z]; exact hD
    · rw [upd_ne z] at h; exact go.dom a h
variable {ti ti1 : TId} {vs vs1 : List Nat} {g g1 : DTG} {tt tt1 : TTd} {te : TEd}
theorem lc2_read {gt gt1 : TG} (hv : ∀ i ∈ vs1, i ∈ vs) (hg : GOwn L vs gt g) (hg1 : GOwn L vs1 gt1 g1) : ∀ σ H Q', tE L (dLc2 ti vs vs1 g tt ti1 g1 tt1 te) σ H Q' → tLc2 (tI L ti) gt (tT L tt) (tI L ti1) gt1 (tT L tt1) (tE L te) vs vs1 σ H Q' := by
  intro σ H Q' q
  obtain ⟨ρ, Q, r, q, fin⟩ := q
  refine ⟨ρ, _, r, q, fun J H1 ds ρ1 go r1 q1 it D hD => ?_⟩
  obtain ⟨G, Y, wk, g0, gk, step⟩ := it
  have rw1 : Rel L H1 (wipe σ vs) (wipeD ρ1 vs) := r1.wiped.move (wipe_length σ vs) (GB.wipe_out σ vs)
  have sD := same_new (o := .lst []) hD
  have d0 : L.H0 D = none := r1.same.free hD
  have dSlot : ∀ (i : Nat) (ys : Ow), (wipeD ρ1 vs)[i]? = some (.ow ys) → (wipe σ vs)[i]? ≠ some (some (.ref D)) := fun i ys e z => by
    obtain ⟨l', us', q1, q2, _⟩ := rw1.getW e
    rw [z] at q1; cases q1
    rw [hD] at q2; cases q2
  refine walk_it wk (fun i H2 => Keep H1 H2 ∧ Go (wipe σ vs) (wipeD ρ1 vs) (wipeD ρ1 vs) H1 H2 ∧ Rel L H2 (wipe σ vs) (wipeD ρ1 vs) ∧ ∃ acc us, H2 D = some (.lst us) ∧ BrA L.K H2 us acc ∧ dLc2Go vs vs1 g tt ti1 g1 tt1 te (wipeD ρ1 vs) (fun acc => Q (.own acc) (wipeD ρ1 vs)) (ds.drop i) acc)
    ⟨keep_of_same sD, Go.sm sD, rw1.go sD, [], [], upd_same, .nil, q1⟩ (fun i H2 _ ⟨k, _⟩ => gk _ _ k g0) (fun i x H2 H3 hi ⟨k, goi, r2, acc, us, hDl, hb, ql⟩ hy => ?_) fun H2 ⟨k, goi, r2, acc, us, hDl, hb, ql⟩ => ?_
  · obtain ⟨sm, d, hd, bd⟩ := step i H2 x H3 hi k (gk _ _ k g0) hy
    have e : ds.drop i = d :: ds.drop (i + 1) := by
      obtain ⟨hi', e⟩ := List.getElem?_eq_some_iff.mp hd
      rw [List.drop_eq_getElem_cons hi', e]
    rw [e] at ql
    have go3 : Go (wipe σ vs) (wipeD ρ1 vs) (wipeD ρ1 vs) H1 H3 := goi.tr (Go.sm sm)
    have hD3 : H3 D = some (.lst us) := sm D _ hDl
    refine hg (r2.go sm) (noOwn_wiped ρ1) bd ql fun σ2 ρ2 r3 no2 q3 ew => ⟨?_, ?_⟩
    · rw [ew, wipe_wipe]
    · obtain ⟨e2, q3⟩ := q3
      have ew2 : wipe σ2 vs = wipe σ vs := by rw [ew, wipe_wipe]
      refine ⟨ρ2, _, r3, q3, fun b H4 ρ3 go4 r4 q4 => ?_⟩
      obtain ⟨e3, q4⟩ := q4
      subst e3
      obtain ⟨goA, rA, dA⟩ := back e2 no2 ew2 dSlot go3 hD3 go4 r4
      have k4 : Keep H2 H4 := (keep_of_same sm).tr (go4.keep r3)
      cases b with
      | false => exact iteF ⟨k.tr k4, goA, rA, acc, us, dA, BrA.keep k4 _ _ hb, by simpa using q4⟩
      | true =>
        refine iteT ⟨ρ3, _, r4, by simpa using q4, fun J1 H5 ds1 ρ4 go5 r5 q5 it1 => ?_⟩
        obtain ⟨e4, q5⟩ := q5
        subst e4
        obtain ⟨goB, rB, dB⟩ := back e2 no2 ew2 dSlot go3 hD3 (go4.tr go5) r5
        have k5 : Keep H2 H5 := k4.tr (go5.keep r4)
        obtain ⟨G1, Y1, wk1, g01, gk1, step1⟩ := it1
        have rin : Rel L H5 (wipe σ2 vs1) (wipeD ρ4 vs1) := r5.wiped.move (wipe_length σ2 vs1) (GB.wipe_out σ2 vs1)
        have dSl2 : ∀ (i : Nat) (ys : Ow), ρ4[i]? = some (.ow ys) → σ2[i]? ≠ some (some (.ref D)) := fun j ys ej z => by
          have nj : j ∉ vs := fun m => no2 j m ys ej
          have ej' : (wipeD ρ1 vs)[j]? = some (.ow ys) := by rw [← e2, wipeD_get, if_neg nj]; exact ej
          exact dSlot j ys ej' (by rw [← ew2, GB.wipe_out σ2 vs j nj]; exact z)
        have dSin : ∀ (i : Nat) (ys : Ow), (wipeD ρ4 vs1)[i]? = some (.ow ys) → (wipe σ2 vs1)[i]? ≠ some (some (.ref D)) := fun j ys ej z => by
          have nj : j ∉ vs1 := fun m => noOwn_wiped (vs := vs1) ρ4 j m ys ej
          rw [wipeD_get, if_neg nj] at ej
          rw [GB.wipe_out σ2 vs1 j nj] at z
          exact dSl2 j ys ej z
        have out2 : ∀ (i : Nat) (xs : Ow), (wipeD ρ1 vs)[i]? = some (.ow xs) → (wipeD ρ4 vs1)[i]? = some (.ow xs) ∧ (wipe σ2 vs1)[i]? = (wipe σ vs)[i]? := fun j xs ej => by
          have nj : j ∉ vs := fun m => noOwn_wiped (vs := vs) ρ1 j m xs ej
          have nj1 : j ∉ vs1 := fun m => nj (hv j m)
          rw [← e2, wipeD_get, if_neg nj] at ej
          refine ⟨by rw [wipeD_get, if_neg nj1]; exact ej, by rw [GB.wipe_out σ2 vs1 j nj1, ← GB.wipe_out σ2 vs j nj, ew2]⟩
        have in2 : ∀ (i : Nat) (xs : Ow), (wipeD ρ4 vs1)[i]? = some (.ow xs) → (wipeD ρ1 vs)[i]? = some (.ow xs) ∧ (wipe σ vs)[i]? = (wipe σ2 vs1)[i]? := fun j xs ej => by
          have nj1 : j ∉ vs1 := fun m => noOwn_wiped (vs := vs1) ρ4 j m xs ej
          rw [wipeD_get, if_neg nj1] at ej
          have nj : j ∉ vs := fun m => no2 j m xs ej
          refine ⟨by rw [← e2, wipeD_get, if_neg nj]; exact ej, by rw [GB.wipe_out σ2 vs1 j nj1, ← GB.wipe_out σ2 vs j nj, ew2]⟩
        refine walk_it wk1 (fun j H6 => Keep H5 H6 ∧ Go (wipe σ2 vs1) (wipeD ρ4 vs1) (wipeD ρ4 vs1) H1 H6 ∧ Rel L H6 (wipe σ2 vs1) (wipeD ρ4 vs1) ∧ ∃ acc us, H6 D = some (.lst us) ∧ BrA L.K H6 us acc ∧
            dInGo vs1 g1 tt1 te (wipeD ρ4 vs1) (fun acc => dLc2Go vs vs1 g tt ti1 g1 tt1 te (wipeD ρ1 vs) (fun acc => Q (.own acc) (wipeD ρ1 vs)) (ds.drop (i + 1)) acc) (ds1.drop j) acc)
          ⟨Keep.rfl' H5, goB.shift out2, rin, acc, us, dB, BrA.keep k5 _ _ hb, q5⟩ (fun j H6 _ ⟨k6, _⟩ => gk1 _ _ k6 g01) (fun j x1 H6 H7 hj ⟨k6, goD, rD, acc6, us6, hD6, hb6, ql6⟩ hy1 => ?_) fun H6 ⟨k6, goD, rD, acc6, us6, hD6, hb6, ql6⟩ => ?_
        · obtain ⟨sm1, d1, hd1, bd1⟩ := step1 j H6 x1 H7 hj k6 (gk1 _ _ k6 g01) hy1
          have e1 : ds1.drop j = d1 :: ds1.drop (j + 1) := by
            obtain ⟨hj', e⟩ := List.getElem?_eq_some_iff.mp hd1
            rw [List.drop_eq_getElem_cons hj', e]
          rw [e1] at ql6
          have go7 : Go (wipe σ2 vs1) (wipeD ρ4 vs1) (wipeD ρ4 vs1) H1 H7 := goD.tr (Go.sm sm1)
          have hD7 : H7 D = some (.lst us6) := sm1 D _ hD6
          refine hg1 (rD.go sm1) (noOwn_wiped ρ4) bd1 ql6 fun σ3 ρ5 r7 no3 q7 ew3 => ⟨?_, ?_⟩
          · rw [ew3, wipe_wipe]
          · obtain ⟨e5, q7⟩ := q7
            have ew4 : wipe σ3 vs1 = wipe σ2 vs1 := by rw [ew3, wipe_wipe]
            refine ⟨ρ5, _, r7, q7, fun b H8 ρ6 go8 r8 q8 => ?_⟩
            obtain ⟨e6, q8⟩ := q8
            subst e6
            obtain ⟨goE, rE, dE⟩ := back e5 no3 ew4 dSin go7 hD7 go8 r8
            have k8 : Keep H6 H8 := (keep_of_same sm1).tr (go8.keep r7)
            cases b with
            | false => exact iteF ⟨k6.tr k8, goE, rE, acc6, us6, dE, BrA.keep k8 _ _ hb6, by simpa using q8⟩
            | true =>
              refine iteT ⟨ρ6, _, r8, by simpa using q8, fun y H9 s ρ7 go9 r9 hvv q9 => ?_⟩
              obtain ⟨e7, y', rfl, hz, q10⟩ := q9
              subst e7
              obtain ⟨goG, rG, dG⟩ := back e5 no3 ew4 dSin go7 hD7 (go8.tr go9) r9
              have k9 : Keep H6 H9 := k8.tr (go9.keep r8)
              have kD : Keep H9 (upd H9 D (.lst (us6 ++ [y]))) := keep_put dG trivial
              have lu := hb6.len
              exact ⟨us6, dG, by omega, (k6.tr k9).tr kD, app_go goG hD, rG.other dG d0 dSin, acc6 ++ [y'], us6 ++ [y], upd_same, ((BrA.keep (k9.tr kD) _ _ hb6).app (BrA.one (Br.keep kD _ _ hvv))), q10⟩
        · rw [List.drop_length] at ql6
          refine ⟨(k.tr k5).tr k6, goD.shift in2, ?_, acc6, us6, hD6, hb6, ql6⟩
          have h := (rD.wiped (vs := vs)).move (σ' := wipe σ vs) (by rw [wipe_length, wipe_length, ← wipe_length σ vs, ← ew2, wipe_length]) fun j hj => by
            rw [GB.wipe_out σ2 vs1 j (fun m => hj (hv j m)), ← GB.wipe_out σ2 vs j hj, ew2]
          rw [wipeD_in hv, e2] at h; exact h
  · rw [List.drop_length] at ql
    have goF : Go σ ρ1 (wipeD ρ1 vs) H1 H2 := ⟨fun a o h n => goi.stay a o h fun j xs ej z => by
        by_cases nj : j ∈ vs
        · exact noOwn_wiped ρ1 j nj xs ej
        · rw [wipeD_get, if_neg nj] at ej
          rw [GB.wipe_out σ vs j nj] at z
          exact n j xs ej z, fun j xs ej => by
        by_cases nj : j ∈ vs
        · exact absurd ej (noOwn_wiped ρ1 j nj xs)
        · rw [wipeD_get, if_neg nj] at ej; exact ⟨xs, ej⟩, goi.dom⟩
    exact fin (.ref D) H2 (.own acc) _ (go.tr goF) (r2.move (wipe_length σ vs).symm fun j hj => (GB.wipe_out σ vs j hj).symm) ⟨⟨D, us, rfl, hDl, hb, d0⟩, fun l e => by cases e; exact go.dom _ hD⟩ ql
end
section
variable {X : Cx} {L : Lay} {elt tg iter tg1 iter1 : Expr} {ifs ifs1 : List Expr} {scope : Scope} {own : List (Str × Nat)} {vs1 : List Nat} {pos : Pos} {ti ti1 : TId} {g g1 : DTG} {gt gt1 : TG} {tt tt1 : TTd} {te : TEd}
theorem de_lc2 (gd : Good X) (hi : PI X tg iter (tI L ti)) (ok : BlkOk X.N X.env.scope scope own) (hv : ∀ i ∈ vs1, i ∈ own.map (·.2))
    (hg : ∀ (s : Shared) (H : Hp) (C : Addr) (cl : List (Str × Addr)) (fp : List Addr), PG (X.blk s H scope (compEnvC scope cl C X.env) fp) tg gt) (ho : GOwn L (own.map (·.2)) gt g) (ht : ∀ (s : Shared) (H : Hp) (C : Addr) (cl : List (Str × Addr)) (fp : List Addr), Good (X.blk s H scope (compEnvC scope cl C X.env) fp) → PTs (X.blk s H scope (compEnvC scope cl C X.env) fp) ifs (tT L tt))
    (hi1 : ∀ (s : Shared) (H : Hp) (C : Addr) (cl : List (Str × Addr)) (fp : List Addr), Good (X.blk s H scope (compEnvC scope cl C X.env) fp) → PI (X.blk s H scope (compEnvC scope cl C X.env) fp) tg1 iter1 (tI L ti1)) (hg1 : ∀ (s : Shared) (H : Hp) (C : Addr) (cl : List (Str × Addr)) (fp : List Addr), PG (X.blk s H scope (compEnvC scope cl C X.env) fp) tg1 gt1) (ho1 : GOwn L vs1 gt1 g1) (ht1 : ∀ (s : Shared) (H : Hp) (C : Addr) (cl : List (Str × Addr)) (fp : List Addr), Good (X.blk s H scope (compEnvC scope cl C X.env) fp) → PTs (X.blk s H scope (compEnvC scope cl C X.env) fp) ifs1 (tT L tt1))
    (he : ∀ (s : Shared) (H : Hp) (C : Addr) (cl : List (Str × Addr)) (fp : List Addr), Good (X.blk s H scope (compEnvC scope cl C X.env) fp) → PE (X.blk s H scope (compEnvC scope cl C X.env) fp) elt (tE L te)) (hs : ∀ x, foldedSetIterable iter X.env x = pure x := by intro _; rfl) (hs1 : ∀ env x, foldedSetIterable iter1 env x = pure x := by intro _ _; rfl) : PE X (.ListComp elt [⟨tg, iter, ifs, 0⟩, ⟨tg1, iter1, ifs1, 0⟩] scope pos) (tE L (dLc2 ti (own.map (·.2)) vs1 g tt ti1 g1 tt1 te)) :=
  (pe_lc2 gd.calm gd.nd hi ok hv hg (fun s H C cl fp => ht s H C cl fp ⟨gd.calm, gd.gd, gd.sys, gd.un, gd.nd⟩) (fun s H C cl fp => hi1 s H C cl fp ⟨gd.calm, gd.gd, gd.sys, gd.un, gd.nd⟩) hg1 (fun s H C cl fp => ht1 s H C cl fp ⟨gd.calm, gd.gd, gd.sys, gd.un, gd.nd⟩) (fun s H C cl fp => he s H C cl fp ⟨gd.calm, gd.gd, gd.sys, gd.un, gd.nd⟩) hs hs1).less (lc2_read hv ho ho1)
theorem ds_setLc2 {i : Nat} {y : Str} {py spos : Pos} (gd : Good X) (hy : X.N[i]? = some y) (hyl : X.env.scope.names.lookup y = some .local) (hsw : swapsWith (.ListComp elt [⟨tg, iter, ifs, 0⟩, ⟨tg1, iter1, ifs1, 0⟩] scope pos) (some (.Name y py)) spos.line X.env = pure true) (hi : PI X tg iter (tI L ti)) (ok : BlkOk X.N X.env.scope scope own) (hv : ∀ i ∈ vs1, i ∈ own.map (·.2))
    (hg : ∀ (s : Shared) (H : Hp) (C : Addr) (cl : List (Str × Addr)) (fp : List Addr), PG (X.blk s H scope (compEnvC scope cl C X.env) fp) tg gt) (ho : GOwn L (own.map (·.2)) gt g) (ht : ∀ (s : Shared) (H : Hp) (C : Addr) (cl : List (Str × Addr)) (fp : List Addr), Good (X.blk s H scope (compEnvC scope cl C X.env) fp) → PTs (X.blk s H scope (compEnvC scope cl C X.env) fp) ifs (tT L tt))
    (hi1 : ∀ (s : Shared) (H : Hp) (C : Addr) (cl : List (Str × Addr)) (fp : List Addr), Good (X.blk s H scope (compEnvC scope cl C X.env) fp) → PI (X.blk s H scope (compEnvC scope cl C X.env) fp) tg1 iter1 (tI L ti1)) (hg1 : ∀ (s : Shared) (H : Hp) (C : Addr) (cl : List (Str × Addr)) (fp : List Addr), PG (X.blk s H scope (compEnvC scope cl C X.env) fp) tg1 gt1) (ho1 : GOwn L vs1 gt1 g1) (ht1 : ∀ (s : Shared) (H : Hp) (C : Addr) (cl : List (Str × Addr)) (fp : List Addr), Good (X.blk s H scope (compEnvC scope cl C X.env) fp) → PTs (X.blk s H scope (compEnvC scope cl C X.env) fp) ifs1 (tT L tt1))
    (he : ∀ (s : Shared) (H : Hp) (C : Addr) (cl : List (Str × Addr)) (fp : List Addr), Good (X.blk s H scope (compEnvC scope cl C X.env) fp) → PE (X.blk s H scope (compEnvC scope cl C X.env) fp) elt (tE L te)) (hs : ∀ x, foldedSetIterable iter X.env x = pure x := by intro _; rfl) (hs1 : ∀ env x, foldedSetIterable iter1 env x = pure x := by intro _ _; rfl) :
    PS X (.Assign [.Name y py] (.ListComp elt [⟨tg, iter, ifs, 0⟩, ⟨tg1, iter1, ifs1, 0⟩] scope pos) spos) (tS L (dSet i (dLc2 ti (own.map (·.2)) vs1 g tt ti1 g1 tt1 te))) :=
  (ps_setLc2 gd.calm gd.nd hy hyl hsw hi ok hv hg (fun s H C cl fp => ht s H C cl fp ⟨gd.calm, gd.gd, gd.sys, gd.un, gd.nd⟩) (fun s H C cl fp => hi1 s H C cl fp ⟨gd.calm, gd.gd, gd.sys, gd.un, gd.nd⟩) hg1 (fun s H C cl fp => ht1 s H C cl fp ⟨gd.calm, gd.gd, gd.sys, gd.un, gd.nd⟩) (fun s H C cl fp => he s H C cl fp ⟨gd.calm, gd.gd, gd.sys, gd.un, gd.nd⟩) hs hs1).less fun D σ H q => by
    obtain ⟨ρ, De, r, q, n1, _⟩ := q
    exact lc2_read hv ho ho1 _ _ _ ⟨ρ, _, r, q, fun v H' s ρ' go r' hv n => n1 _ _ _ (go.keep r) (r.set r' go hv) n⟩
theorem e_lc2 {ρ : En} {Q : S → En → Prop} {vs : List Nat} : dLc2 ti vs vs1 g tt ti1 g1 tt1 te ρ Q ↔ ti ρ fun ds ρ1 => dLc2Go vs vs1 g tt ti1 g1 tt1 te (wipeD ρ1 vs) (fun acc => Q (.own acc) (wipeD ρ1 vs)) ds [] := Iff.rfl
end
end GB

namespace GB
open PySem PySem.Spec PyProof.Rows L2

/-! x, y = a, b with names that a block captures: the pair is built and taken apart -/
section
variable {X : Cx} {L : Lay} {a b : Expr} {t1 t2 : TEd} {pos : Pos}
theorem ds_parT {i j : Nat} {x y : Str} {px py pt : Pos} {kt k2 pt2} (g : Good X) (hK : L.K = X.K) (hi : X.N[i]? = some x) (hj : X.N[j]? = some y) (hij : i ≠ j) (hx : Loc X.env.scope x) (hy : Loc X.env.scope y)
    (ha : PE X a (tE L t1)) (hb : PE X b (tE L t2))
    (hfx : X.fn x = true ∨ X.env.scope.names.lookup x = some .local := by first | exact .inl rfl | exact .inr rfl) (hfy : X.fn y = true ∨ X.env.scope.names.lookup y = some .local := by first | exact .inl rfl | exact .inr rfl)
    (hw : swappedStores [.Tuple [.Name x px, .Name y py] kt pt] (.Tuple [a, b] k2 pt2) X.env = pure none := by rfl)
    (h1 : starEach [a, b] X.env = (false, eval a X.env) :: starEach [b] X.env := by rfl) (h2 : starEach [b] X.env = (false, eval b X.env) :: starEach [] X.env := by rfl)
    (e1 : (assignEach [.Name x px, .Name y py] X.env).map (·.2) = assign (.Name x px) X.env :: (assignEach [.Name y py] X.env).map (·.2) := by rfl) (e2 : (assignEach [.Name y py] X.env).map (·.2) = assign (.Name y py) X.env :: (assignEach [] X.env).map (·.2) := by rfl)
    (e3 : (assignEach [.Name x px, .Name y py] X.env).length = 2 := by rfl) (e4 : (assignEach [.Name x px, .Name y py] X.env).findIdx? (·.1) = none := by rfl)
    (e5 : (assignEach [.Tuple [.Name x px, .Name y py] kt pt] X.env).map (·.2) = [assign (.Tuple [.Name x px, .Name y py] kt pt) X.env] := by rfl)
    (hs : swapsWithSole [.Tuple [.Name x px, .Name y py] kt pt] (.Tuple [a, b] k2 pt2) pos.line X.env = pure false := by rfl) :
    PS X (.Assign [.Tuple [.Name x px, .Name y py] kt pt] (.Tuple [a, b] k2 pt2) pos) (tS L (dPar i j t1 t2)) :=
  (ps_asg (pe_tup (pa_cons ha (pa_cons hb pa_nil h2) h1)) (pg_tup g.calm (pgs_cons (pg_name g.nd hi hx hfx) (pgs_cons (pg_name g.nd hj hy hfy) pgs_nil e2) e1) e3 e4) hs hw e5).less fun D σ H q => by
    obtain ⟨ρ, De, r, q, n1, _⟩ := q
    refine ⟨ρ, _, r, q, fun v H1 s ρ1 go r1 hv q1 => ⟨ρ1, _, r1, q1, fun w H2 s2 ρ2 go2 r2 hw q2 => ⟨(show (2 : Nat) ≤ sizeLine by decide), fun p hp => ?_⟩⟩⟩
    have sm : Same H2 (upd H2 p (.tup [v, w])) := same_new hp
    have r3 := r2.go sm
    have g3 : Go σ ρ2 ρ2 H2 (upd H2 p (.tup [v, w])) := Go.sm sm
    have hv3 := (hv.later r go r1 go2).later r (go.tr go2) r2 g3
    have hw3 := hw.later r1 go2 r2 g3
    have ra := r3.put1 (j := i) (r.old (go.tr go2)) hv3
    have rb := ra.put1 (j := j) ((r.old (go.tr go2)).set (Hm := H1) (go.dom) hv.there) hw3
    exact ⟨p, [v, w], rfl, .inl (.inl upd_same), rfl, v, [w], rfl, w, [], rfl, rfl, n1 _ _ _ (((go.tr go2).keep r).tr (keep_of_same sm)) rb q2⟩
end
end GB

namespace GB
open PySem PySem.Spec PyProof.Rows L2 HT

/-! a row backwards: t[::-1] -/
section
variable {prog : Program} {w : World} {A : Around} {E : Value → Shared → Prop} {s : Shared}
theorem rev_places (n : Nat) : Builtin.Slice.slicePlaces ((n : Int) - 1) (-1) (-1) = n := by
  unfold Builtin.Slice.slicePlaces
  have h1 : ¬ ((-1 : Int) > 0) := by decide
  simp only [h1, if_false]
  by_cases h : (n : Int) - 1 > -1
  · rw [if_pos h, show (- -1 : Int) = 1 by decide, Int.ediv_one]; omega
  · rw [if_neg h]; omega
theorem fm_congr {α β : Type} {f g : α → Option β} : ∀ {xs : List α}, (∀ x ∈ xs, f x = g x) → xs.filterMap f = xs.filterMap g
  | [], _ => rfl
  | x :: xs, h => by
    rw [List.filterMap_cons, List.filterMap_cons, h x (by simp), fm_congr fun y hy => h y (by simp [hy])]
theorem rev_pick (xs : Array Value) : ((List.range xs.size).filterMap fun (m : Nat) => xs[((xs.size : Int) - 1 + (m : Int) * (-1)).toNat]?).toArray = xs.toList.reverse.toArray := by
  have e : (List.range xs.size).filterMap (fun (m : Nat) => xs[((xs.size : Int) - 1 + (m : Int) * (-1)).toNat]?) = ((List.range xs.size).map fun k => xs.size - 1 - k).filterMap (xs[·]?) := by
    rw [List.filterMap_map]
    refine fm_congr fun m hm => ?_
    have := List.mem_range.mp hm
    have q : ((xs.size : Int) - 1 + (m : Int) * (-1)).toNat = xs.size - 1 - m := by omega
    rw [q]; rfl
  rw [e, PySem.W.krv_range, List.filterMap_reverse, PySem.W.krv_all]
theorem applied_rev {sl : Addr} {vs : Value} {n : Nat} {Q : Int × Int × Nat → Shared → Prop} (hs : s.heap.IsSliceOf sl .none .none vs) (ps : IsPart vs (some (-1)))
    (h : Q ((n : Int) - 1, -1, n) s) : wpAny (model prog w) A (Builtin.Slice.sliceApplied (.ref sl) (pure (n : Int))) Q E s := by
  obtain ⟨os, hos, hcs, hds⟩ := id hs
  unfold Builtin.Slice.sliceApplied Builtin.Slice.sliceFields
  refine wpAny_bind (wpAny_bind (wpAny_field hos hds (x := .none) rfl (wpAny_bind (wpAny_field hos hds (x := .none) rfl (wpAny_bind (wpAny_field hos hds (x := vs) rfl (wpAny_pure ?_)))))))
  refine wpAny_bind (slicePart_ ps ?_)
  show wpAny _ _ (if ((-1 : Int) == 0) = true then _ else _) _ _ s
  rw [if_neg (by decide)]
  refine wpAny_bind (slicePart_none (wpAny_bind (slicePart_none (wpAny_bind (wpAny_pure ?_)))))
  show wpAny _ _ (pure ((n : Int) - 1, (-1 : Int), Builtin.Slice.slicePlaces ((n : Int) - 1) (-1) (-1))) _ _ s
  rw [rev_places]
  exact wpAny_pure h
theorem get_tup_rev {t sl : Addr} {items : Array Value} {vs : Value} {Q : Value → Shared → Prop} (ht : IsTup s.heap t items) (hs : s.heap.IsSliceOf sl .none .none vs) (ps : IsPart vs (some (-1)))
    (h : Q (.ref s.heap.objs.size) { s with heap := s.heap.push { cls := .type "tuple", data := .seq items.toList.reverse.toArray } }) (hsz : items.size ≤ sizeLine) : wpAny (model prog w) A (getItem (.ref t) (.ref sl)) Q E s := by
  have hmade : sizeOk (.seq items.toList.reverse.toArray) := by
    show items.toList.reverse.toArray.size ≤ sizeLine
    rw [List.size_toArray, List.length_reverse, Array.length_toList]; exact hsz
  obtain ⟨os, hos, hcs, hds⟩ := id hs
  have hTs : s.TypeIs (.ref sl) "slice" := ⟨os, hos, hcs⟩
  unfold getItem
  try with_reducible refine wpAny_holding ?_
  first | refine wpAny_bind (wpAny_pure ?_) | skip
  refine wpAny_bind (wpAny_sequenceKey ht.typeIs (by decide) ?_)
  refine wpAny_bind (wpAny_callSpecial?_slot (name := Str.ofString "__getitem__") ht.typeIs PyProof.Rows.slot_tuple_getitem
    (wpAny_call_entry PyProof.Rows.slot_tuple_getitem ht.typeIs PyProof.Rows.entry_tuple_getitem ?_ (PyProof.Rows.args_tuple_getitem _ _)))
  show wpAny _ _ (Builtin.Tuple.tupleItemsOf (.ref t) >>= _) _ _ s
  refine wpAny_bind (tupleItemsOf_ ht ?_)
  refine wpAny_bind (wpAny_typeOf hTs ?_)
  rw [if_pos (by decide)]
  refine wpAny_bind (applied_rev hs ps ?_)
  have hno : ¬ (((((items.size : Nat) : Int) - 1) == 0 && (-1 : Int) == 1 && items.size == items.size) = true) := by simp
  show wpAny _ _ (if ((((items.size : Nat) : Int) - 1) == 0 && (-1 : Int) == 1 && items.size == items.size) = true then _ else _) _ _ s
  rw [if_neg hno, rev_pick]
  first
    | exact wpAny_bind (m := Builtin.Tuple.tupleExact _) (wpAny_newObj_type (wpAny_pure ⟨_, rfl, wpAny_pure h⟩) hmade)
    | exact wpAny_bind (m := Builtin.Tuple.tupleExact _) (wpAny_newObj_type (wpAny_bind (wpAny_pure (wpAny_pure ⟨_, rfl, wpAny_pure h⟩))) hmade)
    | exact wpAny_bind (wpAny_bind (m := Builtin.Tuple.tupleExact _) (wpAny_newObj_type (wpAny_pure (wpAny_pure ⟨_, rfl, wpAny_pure h⟩)) hmade))
    | exact wpAny_bind (wpAny_bind (m := Builtin.Tuple.tupleExact _) (wpAny_newObj_type (wpAny_pure ⟨_, rfl, wpAny_pure h⟩) hmade))
end
def tRevT (K : PySem.W.Frag) (te : TE) : TE := fun σ H Q => te σ H fun x H1 => ∃ a xs, x = .ref a ∧ SqT K H1 a xs ∧ ∀ p us, H1 p = none → Q (.ref p) (upd H1 p (frT us xs.reverse))
theorem pe_revT {X : Cx} {e : Expr} {te : TE} {k : Nat} {p1 p2 p3 pos : Pos} (he : PE X e te) : PE X (.Subscript e (.Slice none none (some (.UnaryOp .USub (.Constant (.int 1) k p1) p2)) p3) pos) (tRevT X.K te) := by
  refine ⟨fun pins s σ H Q I h => ?_⟩
  refine Subscript_ (thn (he.run pins s σ H _ I h) fun v s1 ⟨x, H1, I1, r1, q1⟩ => ?_)
  obtain ⟨a, xs, ex, hx, q⟩ := q1
  subst ex
  cases r1
  have hst : PO X (some (.UnaryOp .USub (.Constant (.int 1) k p1) p2)) (tPart (tUn (rU fun i => .int (-i)) (tC (.int 1)))) := po_some (pe_un un_neg pe_int)
  refine wpAny_Slice (thn (po_none.run pins s1 σ H1 (fun o H2 => o = none ∧ H2 = H1) I1 ⟨rfl, rfl⟩) fun vl s2 ⟨l, H2, I2, pl, el, e2⟩ => ?_)
  subst el e2
  refine thn (po_none.run pins s2 σ H2 (fun o H3 => o = none ∧ H3 = H2) I2 ⟨rfl, rfl⟩) fun vu s3 ⟨u, H3, I3, pu, eu, e3⟩ => ?_
  subst eu e3
  refine thn (hst.run pins s3 σ H3 (fun o H4 => o = some (-1) ∧ H4 = H3) I3 ⟨1, rfl, -1, rfl, rfl, rfl⟩) fun vs s4 ⟨o, H4, I4, ps, eo, e4⟩ => ?_
  subst eo e4
  cases pl
  cases pu
  have I5 : Inv X pins σ H4 { s4 with heap := s4.heap.push { cls := .type "slice", data := .fields #[.none, .none, vs] } } := I4.kept (t' := s4.toks) fun b ob q => Heap.get?_push_of_some _ q
  obtain ⟨its, r, ht, hz⟩ := I5.tuple hx
  have hlen := r.length
  show wpAny (model X.prog X.w) X.A (subscriptTail e (.Slice none none (some (.UnaryOp .USub (.Constant (.int 1) k p1) p2)) p3) (.ref a) (.ref s4.heap.objs.size)) (EP X pins σ Q) X.xe { s4 with heap := s4.heap.push { cls := .type "slice", data := .fields #[.none, .none, vs] } }
  refine tail_any (ops := [.ref a, .ref s4.heap.objs.size]) ht.typeIs (PyProof.Rows.slot_tuple_getitem.lookup) ?_ (by with_unfolding_all rfl)
  refine get_tup_rev ht (Heap.IsSliceOf.new _ .none .none vs) ps ?_ (by rw [List.size_toArray]; omega)
  exact ⟨.ref _, _, Inv.tnew (t' := s4.toks) I5 r.reverse (by rw [List.length_reverse]; exact hz), rfl, q _ _ (I5.hok.fresh (Nat.le_refl _))⟩
/-- backwards, of data -/
def dRev (t : TEd) : TEd := fun ρ Q => t ρ fun s ρ1 => ∃ xs, s = .d (.tuple xs) ∧ Q (.d (.tuple xs.reverse)) ρ1
theorem BrA.rev {K : PySem.W.Frag} {H : Hp} {vs : List V} {ds : List PyData} (h : BrA K H vs ds) : BrA K H vs.reverse ds.reverse := by
  induction ds generalizing vs with
  | nil => cases h; exact .nil
  | cons d ds ih =>
    cases h with
    | cons h1 h2 =>
      rw [List.reverse_cons, List.reverse_cons]
      exact (ih h2).app (.cons h1 .nil)
theorem de_rev {X : Cx} {L : Lay} {e : Expr} {t : TEd} {k : Nat} {p1 p2 p3 pos : Pos} (hK : L.K = X.K) (he : PE X e (tE L t)) : PE X (.Subscript e (.Slice none none (some (.UnaryOp .USub (.Constant (.int 1) k p1) p2)) p3) pos) (tE L (dRev t)) :=
  (pe_revT he).less fun σ H Q' q => by
    obtain ⟨ρ, Q, r, q, fin⟩ := q
    refine ⟨ρ, _, r, q, fun v H1 s ρ1 go r1 hv q1 => ?_⟩
    obtain ⟨xs, rfl, q2⟩ := q1
    have hv : Br L.K H1 v (.tuple xs) := hv
    cases hv with
    | @tup a ws _ h1 h3 =>
      refine ⟨_, _, rfl, by rw [← hK]; exact h1.sq, fun p us hp => ?_⟩
      have sm := same_new (o := frT us ws.reverse) hp
      exact fin (.ref p) _ (.d (.tuple xs.reverse)) ρ1 (go.tr (Go.sm sm)) (r1.go sm) (.tup (tq_at upd_same) (BrA.keep (keep_of_same sm) _ _ h3.rev)) q2
theorem e_rev {t : TEd} {ρ : En} {Q : S → En → Prop} : dRev t ρ Q ↔ t ρ fun s ρ1 => oneK s fun x => ∃ xs, x = .tuple xs ∧ Q (.d (.tuple xs.reverse)) ρ1 := by
  have e : ∀ (s : S) (ρ1 : En), (∃ xs, s = .d (.tuple xs) ∧ Q (.d (.tuple xs.reverse)) ρ1) ↔ (oneK s fun x => ∃ xs, x = .tuple xs ∧ Q (.d (.tuple xs.reverse)) ρ1) := fun s ρ1 => ⟨fun ⟨xs, a, h⟩ => ⟨_, a, xs, rfl, h⟩, fun ⟨x, a, xs, e, h⟩ => ⟨xs, e ▸ a, h⟩⟩
  unfold dRev
  simp only [e]
end GB

namespace GB
open PySem PySem.Spec PyProof.Rows L2

/-! sorted rows of ints -/
def fSorted : FN := fun xs Q => ∃ ns : List Int, xs = [.list (ns.map .int)] ∧ ∀ ns' : List Int, ns'.Perm ns → ns'.Pairwise (· ≤ ·) → Q (.own (ns'.map .int))
theorem br_ints {K : PySem.W.Frag} {H : Hp} : ∀ {ns : List Int} {vs : List V}, BrA K H vs (ns.map PyData.int) → vs = ns.map V.int
  | [], _, h => by cases h; rfl
  | n :: ns, _, h => by
    cases h with
    | cons h1 h2 => cases h1; rw [br_ints h2]; rfl
theorem ints_br {K : PySem.W.Frag} {H : Hp} : ∀ ns : List Int, BrA K H (ns.map V.int) (ns.map PyData.int)
  | [] => .nil
  | _ :: ns => .cons (.int _) (ints_br ns)
theorem c_sorted {X : Cx} {L : Lay} (hK : L.K = X.K) : CallR X (.builtin "sorted") (rN L fSorted) := by
  intro pins s σ H vs us Q' I r q
  obtain ⟨xs, Q, b, ⟨ns, rfl, q⟩, fin⟩ := q
  obtain ⟨v, rfl, b1⟩ := brA1 hK b
  obtain ⟨a, ws, rfl, h1, h3⟩ := list_sq hK b1
  obtain rfl := br_ints h3
  refine cr_sortedI pins s σ H _ us Q' I r ⟨a, ns, rfl, h1, fun ns' p hp hs hl => ?_⟩
  exact fin _ _ (.own _) (same_new hl) ⟨_, _, rfl, hl, upd_same, ints_br ns'⟩ (q ns' hp hs)
end GB

namespace GB
open PySem PySem.Spec PyProof.Rows L2 RZ

/-! two rows side by side -/
def zipOf (ds es : List PyData) : List PyData := (ds.zip es).map fun p => .tuple [p.1, p.2]
def dIZip (t u : TEd) : TId := fun ρ Q => t ρ fun s ρ1 => u ρ1 fun s2 ρ2 => ∃ ds es, ((s = .d (.list ds) ∧ s2 = .d (.list es)) ∨ (s = .d (.tuple ds) ∧ s2 = .d (.tuple es))) ∧ Q (zipOf ds es) ρ2
section
variable {L : Lay} {H : Hp} {a b : Addr} {vs ws : List V} {ds es : List PyData}
theorem zip_len (hb : BrA L.K H vs ds) (hc : BrA L.K H ws es) : (zipOf ds es).length = min vs.length ws.length := by simp [zipOf, hb.len, hc.len]
theorem yp_zip {i : Nat} {H1 H2 : Hp} {x : V} (hb : BrA L.K H vs ds) (hc : BrA L.K H ws es) (k : Keep H H1) (y : YPairF (fun i => vs[i]?) (fun i => ws[i]?) i H1 x H2) : Same H1 H2 ∧ ∃ d, (zipOf ds es)[i]? = some d ∧ Br L.K H2 x d := by
  obtain ⟨T, us, z, u, rfl, hT, rfl, hz, hu⟩ := y
  obtain ⟨d, e1, bd⟩ := hb.getV hz
  obtain ⟨e, e2, be⟩ := hc.getV hu
  have sm := same_new (o := frT us [z, u]) hT
  refine ⟨sm, .tuple [d, e], ?_, .tup (tq_at upd_same) (.cons (Br.keep (k.tr (keep_of_same sm)) _ _ bd) (.cons (Br.keep (k.tr (keep_of_same sm)) _ _ be) .nil))⟩
  unfold zipOf
  rw [List.getElem?_map, (List.getElem?_zip_eq_some (z := (d, e))).mpr ⟨e1, e2⟩]; rfl
theorem walk_zT {K : PySem.W.Frag} : Walk (ItzFT K a b) (min vs.length ws.length) (fun H => SqT K H a vs ∧ SqT K H b ws) (YPairF (fun i => vs[i]?) (fun i => ws[i]?)) := by
  refine ⟨fun i _ hi q => ⟨vs, ws, vs[i]'(by omega), ws[i]'(by omega), q.1, q.2, by simp [show i < vs.length by omega], by simp [show i < ws.length by omega]⟩, fun _ q => ⟨vs, ws, q.1, q.2, by omega⟩, fun i H v H' _ q y => ?_⟩
  obtain ⟨T, us, x, z, h1, h2, h3, h4, h5⟩ := y
  exact ⟨T, us, x, z, h1, h2, h3, h4 vs q.1, h5 ws q.2⟩
theorem it_zT (h1 : TqT L.K H a vs) (h2 : TqT L.K H b ws) (hb : BrA L.K H vs ds) (hc : BrA L.K H ws es) : ItD L (ItzFT L.K a b) H (zipOf ds es) := by
  refine ⟨fun H1 => SqT L.K H1 a vs ∧ SqT L.K H1 b ws, _, ?_, ⟨h1.sq, h2.sq⟩, fun H1 H2 k q => ⟨sqT_keep k q.1, sqT_keep k q.2⟩, fun i H1 x H2 hi k q y => yp_zip hb hc k y⟩
  rw [zip_len hb hc]; exact walk_zT
theorem it_zF {o o2 : Obj} (h1 : H a = some (.frz o (.lst vs))) (h2 : H b = some (.frz o2 (.lst ws))) (hb : BrA L.K H vs ds) (hc : BrA L.K H ws es) : ItD L (ItzF L.K a b) H (zipOf ds es) := by
  refine ⟨fun H1 => H1 a = some (.frz o (.lst vs)) ∧ H1 b = some (.frz o2 (.lst ws)), _, ?_, ⟨h1, h2⟩, fun H1 H2 k q => ⟨k _ _ q.1 trivial, k _ _ q.2 trivial⟩, fun i H1 x H2 hi k q y => yp_zip hb hc k y⟩
  rw [zip_len hb hc]
  exact (walk_zF (K := L.K) (a := a) (b := b) (xs := vs) (ys := ws)).mono (fun H q => ⟨.inl (.inr ⟨o, q.1⟩), .inl (.inr ⟨o2, q.2⟩)⟩) fun i H x H' _ _ y => y
end
section
variable {X : Cx} {L : Lay} {e e2 : Expr} {t u : TEd} {p pos tpos : Pos} {elts : List Expr} {kk : Nat}
theorem di_zip (hK : L.K = X.K) (hg : Gl X "zip") (hm : X.mg "zip" = none) (h1 : PE X e (tE L t)) (h2 : PE X e2 (tE L u)) (n2 : starEach [e2] X.env = (false, eval e2 X.env) :: starEach [] X.env := by rfl)
    (hs : starEach [e, e2] X.env = (false, eval e X.env) :: starEach [e2] X.env := by rfl) (hpl : (backTo pos (starEach [e2] X.env)).any (·.1) = false := by rfl) :
    PI X (.Tuple elts kk tpos) (.Call (.Name "zip" p) [e, e2] [] pos) (tI L (dIZip t u)) :=
  (pi_zF hg hm (pa_cons h1 (pa_cons h2 pa_nil n2) hs) hs hpl).less fun σ H R q => by
    obtain ⟨ρ, Q, r, q, fin⟩ := q
    refine ⟨ρ, _, r, q, fun v H1 s ρ1 go r1 hv q1 => ⟨ρ1, _, r1, q1, fun w H2 s2 ρ2 go2 r2 hw q2 => ?_⟩⟩
    obtain ⟨ds, es, hd, q3⟩ := q2
    rcases hd with ⟨rfl, rfl⟩ | ⟨rfl, rfl⟩
    · have hv : Br L.K H2 v (.list ds) := Br.keep (go2.keep r1) _ _ hv
      have hw : Br L.K H2 w (.list es) := hw
      cases hv with
      | lst a1 a2 a3 =>
        cases hw with
        | lst b1 b2 b3 =>
          have it := fin _ H2 _ ρ2 (go.tr go2) r2 q3 (it_zF a1 b1 a3 b3)
          rw [hK] at it
          exact ⟨_, _, _, _, rfl, .inl ⟨.inl (.inr ⟨_, a1⟩), .inl (.inr ⟨_, b1⟩), it⟩⟩
    · have hv : Br L.K H2 v (.tuple ds) := Br.keep (go2.keep r1) _ _ hv
      have hw : Br L.K H2 w (.tuple es) := hw
      cases hv with
      | tup a1 a3 =>
        cases hw with
        | tup b1 b3 =>
          have it := fin _ H2 _ ρ2 (go.tr go2) r2 q3 (it_zT a1 b1 a3 b3)
          rw [hK] at it a1 b1
          exact ⟨_, _, _, _, rfl, .inr ⟨a1.sq, b1.sq, it⟩⟩
end
end GB

namespace GB
open PySem PySem.Spec PyProof.Rows L2

/-! more steps from without -/
def zipK (s s2 : S) (k : List PyData → List PyData → Prop) : Prop := ∃ ds es, ((s = .d (.list ds) ∧ s2 = .d (.list es)) ∨ (s = .d (.tuple ds) ∧ s2 = .d (.tuple es))) ∧ k ds es
section
variable {ρ : En} {Q : S → En → Prop} {k : S → Prop} {t u : TEd} {tt tt1 : TTd} {g g1 : DTG} {ti1 : TId}
theorem zip_l {a b : List PyData} {k : List PyData → List PyData → Prop} : zipK (.d (.list a)) (.d (.list b)) k ↔ k a b := by
  constructor
  · intro ⟨_, _, e, h⟩
    rcases e with ⟨e1, e2⟩ | ⟨e1, e2⟩
    · cases e1; cases e2; exact h
    · cases e1
  · intro h; exact ⟨_, _, .inl ⟨rfl, rfl⟩, h⟩
theorem zip_t {a b : List PyData} {k : List PyData → List PyData → Prop} : zipK (.d (.tuple a)) (.d (.tuple b)) k ↔ k a b := by
  constructor
  · intro ⟨_, _, e, h⟩
    rcases e with ⟨e1, e2⟩ | ⟨e1, e2⟩
    · cases e1
    · cases e1; cases e2; exact h
  · intro h; exact ⟨_, _, .inr ⟨rfl, rfl⟩, h⟩
theorem e_izip {QI : List PyData → En → Prop} : dIZip t u ρ QI ↔ t ρ fun s ρ1 => u ρ1 fun s2 ρ2 => zipK s s2 fun ds es => QI (zipOf ds es) ρ2 := Iff.rfl
theorem zip_cons {d e : PyData} {ds es : List PyData} : zipOf (d :: ds) (e :: es) = .tuple [d, e] :: zipOf ds es := rfl
theorem zip_nil1 {es : List PyData} : zipOf [] es = [] := rfl
theorem zip_nil2 {ds : List PyData} : zipOf ds [] = [] := by simp [zipOf]
theorem ints_inj : ∀ {a b : List Int}, a.map PyData.int = b.map PyData.int → a = b
  | [], [], _ => rfl
  | [], _ :: _, h => by cases h
  | _ :: _, [], h => by cases h
  | x :: a, y :: b, h => by
    simp only [List.map_cons, List.cons.injEq, PyData.int.injEq] at h
    rw [h.1, ints_inj h.2]
theorem f_sorted {ns : List Int} : fSorted [.list (ns.map .int)] k ↔ ∀ ns' : List Int, ns'.Perm ns → ns'.Pairwise (· ≤ ·) → k (.own (ns'.map .int)) := by
  constructor
  · intro ⟨ms, e, h⟩
    simp only [List.cons.injEq, PyData.list.injEq, and_true] at e
    rw [ints_inj e]; exact h
  · intro h; exact ⟨ns, rfl, h⟩
theorem e_lcn {vs : List Nat} {R : List PyData → Prop} {acc : List PyData} : dLcGo vs g tt t ρ R [] acc ↔ R acc := Iff.rfl
theorem e_lcc {vs : List Nat} {R : List PyData → Prop} {acc ds : List PyData} {d : PyData} : dLcGo vs g tt t ρ R (d :: ds) acc ↔ g d ρ fun ρ2 => wipeD ρ2 vs = ρ ∧ tt ρ2 fun b ρ3 => ρ3 = ρ2 ∧ iteK b (t ρ2 fun s ρ4 => ρ4 = ρ2 ∧ oneK s fun y => dLcGo vs g tt t ρ R ds (acc ++ [y])) (dLcGo vs g tt t ρ R ds acc) := Iff.rfl
theorem e_inn {vs : List Nat} {R : List PyData → Prop} {acc : List PyData} : dInGo vs g tt t ρ R [] acc ↔ R acc := Iff.rfl
theorem e_inc {vs : List Nat} {R : List PyData → Prop} {acc ds : List PyData} {d : PyData} : dInGo vs g tt t ρ R (d :: ds) acc ↔ g d ρ fun ρ2 => wipeD ρ2 vs = ρ ∧ tt ρ2 fun b ρ3 => ρ3 = ρ2 ∧ iteK b (t ρ2 fun s ρ4 => ρ4 = ρ2 ∧ oneK s fun y => acc.length < sizeLine ∧ dInGo vs g tt t ρ R ds (acc ++ [y])) (dInGo vs g tt t ρ R ds acc) := by
  have e : ∀ (s : S), (∃ y, s = .d y ∧ acc.length < sizeLine ∧ dInGo vs g tt t ρ R ds (acc ++ [y])) ↔ (oneK s fun y => acc.length < sizeLine ∧ dInGo vs g tt t ρ R ds (acc ++ [y])) := fun s => Iff.rfl
  exact Iff.rfl
theorem e_l2n {vs vs1 : List Nat} {R : List PyData → Prop} {acc : List PyData} : dLc2Go vs vs1 g tt ti1 g1 tt1 t ρ R [] acc ↔ R acc := Iff.rfl
theorem e_l2c {vs vs1 : List Nat} {R : List PyData → Prop} {acc ds : List PyData} {d : PyData} : dLc2Go vs vs1 g tt ti1 g1 tt1 t ρ R (d :: ds) acc ↔ g d ρ fun ρ2 => wipeD ρ2 vs = ρ ∧ tt ρ2 fun b ρ3 => ρ3 = ρ2 ∧
    iteK b (ti1 ρ2 fun ds1 ρ4 => ρ4 = ρ2 ∧ dInGo vs1 g1 tt1 t (wipeD ρ2 vs1) (fun acc => dLc2Go vs vs1 g tt ti1 g1 tt1 t ρ R ds acc) ds1 acc) (dLc2Go vs vs1 g tt ti1 g1 tt1 t ρ R ds acc) := Iff.rfl
theorem e_pop {i : Nat} : dPop i ρ Q ↔ (atK ρ i fun o => ownK o fun xs => ∃ x, xs[xs.length - 1]? = some x ∧ setK (Q (.d x)) ρ i (.own xs.dropLast)) := by
  constructor
  · intro ⟨xs, x, e, h1, h2⟩; exact ⟨.own xs, e, xs, rfl, x, h1, h2⟩
  · intro ⟨_, e, xs, z, x, h1, h2⟩; exact ⟨xs, x, z ▸ e, h1, h2⟩
theorem e_popAt {i : Nat} : dPopAt i t ρ Q ↔ (atK ρ i fun o => ownK o fun _ => t ρ fun s ρ1 => intK s fun j => atK ρ1 i fun o => ownK o fun xs => -(2 ^ 62) < j ∧ j < 2 ^ 62 ∧ ∃ n x, seqIndex? j xs.length = some n ∧ xs[n]? = some x ∧ setK (Q (.d x)) ρ1 i (.own (xs.eraseIdx n))) := by
  have e : ∀ (s : S) (ρ1 : En), (∃ j n x xs, s = .d (.int j) ∧ ρ1[i]? = some (.own xs) ∧ -(2 ^ 62) < j ∧ j < 2 ^ 62 ∧ seqIndex? j xs.length = some n ∧ xs[n]? = some x ∧ Q (.d x) (ρ1.set i (.own (xs.eraseIdx n)))) ↔
      (intK s fun j => atK ρ1 i fun o => ownK o fun xs => -(2 ^ 62) < j ∧ j < 2 ^ 62 ∧ ∃ n x, seqIndex? j xs.length = some n ∧ xs[n]? = some x ∧ setK (Q (.d x)) ρ1 i (.own (xs.eraseIdx n))) := fun s ρ1 =>
    ⟨fun ⟨j, n, x, xs, a, b, c, d, h1, h2, h3⟩ => ⟨j, a, .own xs, b, xs, rfl, c, d, n, x, h1, h2, h3⟩, fun ⟨j, a, _, b, xs, z, c, d, n, x, h1, h2, h3⟩ => ⟨j, n, x, xs, a, z ▸ b, c, d, h1, h2, h3⟩⟩
  unfold dPopAt
  simp only [e]
  exact ⟨fun ⟨⟨ys, a⟩, h⟩ => ⟨.own ys, a, ys, rfl, h⟩, fun ⟨_, a, ys, z, h⟩ => ⟨⟨ys, z ▸ a⟩, h⟩⟩
theorem e_extend {i : Nat} : dExtend i t ρ Q ↔ (atK ρ i fun o => ownK o fun _ => t ρ fun s ρ1 => oneK s fun z => ∃ zs, z = .list zs ∧ atK ρ1 i fun o => ownK o fun xs => xs.length + zs.length ≤ sizeLine ∧ setK (Q (.d .none)) ρ1 i (.own (xs ++ zs))) := by
  have e : ∀ (s : S) (ρ1 : En), (∃ zs xs, s = .d (.list zs) ∧ ρ1[i]? = some (.own xs) ∧ xs.length + zs.length ≤ sizeLine ∧ Q (.d .none) (ρ1.set i (.own (xs ++ zs)))) ↔
      (oneK s fun z => ∃ zs, z = .list zs ∧ atK ρ1 i fun o => ownK o fun xs => xs.length + zs.length ≤ sizeLine ∧ setK (Q (.d .none)) ρ1 i (.own (xs ++ zs))) := fun s ρ1 =>
    ⟨fun ⟨zs, xs, a, b, c, h⟩ => ⟨_, a, zs, rfl, .own xs, b, xs, rfl, c, h⟩, fun ⟨_, a, zs, y, _, b, xs, z, c, h⟩ => ⟨zs, xs, y ▸ a, z ▸ b, c, h⟩⟩
  unfold dExtend
  simp only [e]
  exact ⟨fun ⟨⟨ys, a⟩, h⟩ => ⟨.own ys, a, ys, rfl, h⟩, fun ⟨_, a, ys, z, h⟩ => ⟨⟨ys, z ▸ a⟩, h⟩⟩
end
end GB

namespace GB
open PySem PySem.Spec PyProof.Rows L2

/-! loops and comprehensions by what holds at their turns -/
section
variable {g : DTG} {b : TSd} {D : EndsD}
theorem loopI (I : List PyData → En → Prop) (hn : ∀ ρ, I [] ρ → D.nx ρ) (hc : ∀ d ds ρ (K : En → Prop), (∀ ρ', I ds ρ' → K ρ') → I (d :: ds) ρ → g d ρ fun ρ1 => b { nx := K, ct := K, bk := D.nx, rt := D.rt } ρ1) : ∀ ds ρ, I ds ρ → dLoop g b D ds ρ
  | [], ρ, h => hn ρ h
  | d :: ds, ρ, h => e_lcons.mpr (hc d ds ρ _ (fun ρ' h' => loopI I hn hc ds ρ' h') h)
theorem loopP (I : Int → List PyData → En → Prop) (hn : ∀ k ρ, I k [] ρ → D.nx ρ) (hc : ∀ k y ys ρ (K : En → Prop), (∀ ρ', I (k + 1) ys ρ' → K ρ') → I k (y :: ys) ρ → g (.tuple [.int k, y]) ρ fun ρ1 => b { nx := K, ct := K, bk := D.nx, rt := D.rt } ρ1) : ∀ ys k ρ, I k ys ρ → dLoop g b D (pairsFrom k ys) ρ
  | [], k, ρ, h => hn k ρ h
  | y :: ys, k, ρ, h => e_lcons.mpr (hc k y ys ρ _ (fun ρ' h' => loopP I hn hc ys (k + 1) ρ' h') h)
theorem loopR (I : Int → Nat → En → Prop) (hn : ∀ k ρ, I k 0 ρ → D.nx ρ) (hc : ∀ k n ρ (K : En → Prop), (∀ ρ', I (k + 1) n ρ' → K ρ') → I k (n + 1) ρ → g (.int k) ρ fun ρ1 => b { nx := K, ct := K, bk := D.nx, rt := D.rt } ρ1) : ∀ n k ρ, I k n ρ → dLoop g b D (irow k n) ρ
  | 0, k, ρ, h => hn k ρ h
  | n + 1, k, ρ, h => by
    rw [irow_succ]
    exact e_lcons.mpr (hc k n ρ _ (fun ρ' h' => loopR I hn hc n (k + 1) ρ' h') h)
variable {vs : List Nat} {tt : TTd} {te : TEd} {ρw : En} {R : List PyData → Prop}
theorem lcI (I : List PyData → List PyData → Prop) (hn : ∀ acc, I [] acc → R acc) (hc : ∀ d ds acc (K : List PyData → Prop), (∀ acc', I ds acc' → K acc') → I (d :: ds) acc → g d ρw fun ρ2 => wipeD ρ2 vs = ρw ∧ tt ρ2 fun b ρ3 => ρ3 = ρ2 ∧ iteK b (te ρ2 fun s ρ4 => ρ4 = ρ2 ∧ oneK s fun y => K (acc ++ [y])) (K acc)) :
    ∀ ds acc, I ds acc → dLcGo vs g tt te ρw R ds acc
  | [], acc, h => hn acc h
  | d :: ds, acc, h => e_lcc.mpr (hc d ds acc _ (fun acc' h' => lcI I hn hc ds acc' h') h)
theorem lcR (I : Int → Nat → List PyData → Prop) (hn : ∀ k acc, I k 0 acc → R acc) (hc : ∀ k n acc (K : List PyData → Prop), (∀ acc', I (k + 1) n acc' → K acc') → I k (n + 1) acc → g (.int k) ρw fun ρ2 => wipeD ρ2 vs = ρw ∧ tt ρ2 fun b ρ3 => ρ3 = ρ2 ∧ iteK b (te ρ2 fun s ρ4 => ρ4 = ρ2 ∧ oneK s fun y => K (acc ++ [y])) (K acc)) :
    ∀ n k acc, I k n acc → dLcGo vs g tt te ρw R (irow k n) acc
  | 0, k, acc, h => hn k acc h
  | n + 1, k, acc, h => by
    rw [irow_succ]
    exact e_lcc.mpr (hc k n acc _ (fun acc' h' => lcR I hn hc n (k + 1) acc' h') h)
end
end GB

namespace GB
open PySem PySem.Spec PyProof.Rows L2

/-! comprehensions of three clauses: one turn of one clause -/
abbrev noE : Value → Shared → Prop := fun _ _ => False
def tests (fs : List Expr) (en : Env) : Sem Bool := forIn fs true fun cc z => if z = true then do let y ← isTrue cc en (eval cc en); pure (ForInStep.yield y) else pure (ForInStep.yield z)
def midRun (t i' : Expr) (p : Pos) (fs : List Expr) (it : Value) (en : Env) (nxt : Value → Code) (more : Code) : Sem Fin := do
  standAt p
  match ← pyNext it with
  | none => pure (.done .next)
  | some v =>
    letOwnedTupleGo t it v
    assign t en v
    let mut good := true
    for cc in fs do
      if good then good ← isTrue cc en (eval cc en)
    if good then
      let y ← eval i' en
      standAt i'.pos
      let y ← foldedSetIterable i' en y
      let _ ← runOwn (nxt (← holding [y] (pyIter y))) en
    again more
def inRun (t el : Expr) (p : Pos) (fs : List Expr) (it li : Value) (en : Env) (more : Code) : Sem Fin := do
  standAt p
  match ← pyNext it with
  | none => pure (.done .next)
  | some v =>
    letOwnedTupleGo t it v
    assign t en v
    let mut good := true
    for cc in fs do
      if good then good ← isTrue cc en (eval cc en)
    if good then
      (do let _ ← call (.builtin "list.append") [li, ← eval el en])
    again more
section
variable (el t0 i0 t1 i1 t2 i2 : Expr) (f0 f1 f2 : List Expr) (sc : Scope) (p : Pos) (it li : Value) (en : Env)
theorem turn3_0 : compTurn (.ListComp el [⟨t0, i0, f0, 0⟩, ⟨t1, i1, f1, 0⟩, ⟨t2, i2, f2, 0⟩] sc p) 0 it li en = midRun t0 i1 i0.pos f0 it en (fun v => .compStart (.ListComp el [⟨t0, i0, f0, 0⟩, ⟨t1, i1, f1, 0⟩, ⟨t2, i2, f2, 0⟩] sc p) 1 v li en) (.compLoop (.ListComp el [⟨t0, i0, f0, 0⟩, ⟨t1, i1, f1, 0⟩, ⟨t2, i2, f2, 0⟩] sc p) 0 it li en) := by rfl
theorem turn3_1 : compTurn (.ListComp el [⟨t0, i0, f0, 0⟩, ⟨t1, i1, f1, 0⟩, ⟨t2, i2, f2, 0⟩] sc p) 1 it li en = midRun t1 i2 i1.pos f1 it en (fun v => .compStart (.ListComp el [⟨t0, i0, f0, 0⟩, ⟨t1, i1, f1, 0⟩, ⟨t2, i2, f2, 0⟩] sc p) 2 v li en) (.compLoop (.ListComp el [⟨t0, i0, f0, 0⟩, ⟨t1, i1, f1, 0⟩, ⟨t2, i2, f2, 0⟩] sc p) 1 it li en) := by rfl
theorem turn3_2 : compTurn (.ListComp el [⟨t0, i0, f0, 0⟩, ⟨t1, i1, f1, 0⟩, ⟨t2, i2, f2, 0⟩] sc p) 2 it li en = inRun t2 el i2.pos f2 it li en (.compLoop (.ListComp el [⟨t0, i0, f0, 0⟩, ⟨t1, i1, f1, 0⟩, ⟨t2, i2, f2, 0⟩] sc p) 2 it li en) := by rfl
end
section
variable (prog : Program) (w : World) (A : Around)
/-- the source is asked, what comes is stored and tested; body is what a good one leads to -/
def Turn1 (t : Expr) (fs : List Expr) (it : Value) (en : Env) (body : (Shared → Prop) → Shared → Prop) (done back : Shared → Prop) (s : Shared) : Prop :=
  wpAny (model prog w) A (pyNext it) (fun r s1 => match r with
    | none => done s1
    | some v => wpAny (model prog w) A (letOwnedTupleGo t it v) (fun _ s2 => wpAny (model prog w) A (assign t en v) (fun _ s3 => wpAny (model prog w) A (tests fs en) (fun z s4 => if z = true then body back s4 else back s4) noE s3) noE s2) noE s1) noE s
def bodyMid (i' : Expr) (en : Env) (nxt : Value → Code) : (Shared → Prop) → Shared → Prop := fun back s =>
  wpAny (model prog w) A (eval i' en) (fun x s1 => wpAny (model prog w) A (pyIter x) (fun it1 s2 => codeAny (model prog w) A (nxt it1) (fun r s' => match r with
    | .ok _ => back s'
    | .error _ => False) s2) noE s1) noE s
def bodyIn (el : Expr) (en : Env) (li : Value) : (Shared → Prop) → Shared → Prop := fun back s =>
  wpAny (model prog w) A (eval el en) (fun x s1 => wpAny (model prog w) A (call (.builtin "list.append") [li, x]) (fun _ s2 => back s2) noE s1) noE s
/-- a clause's loop, by an invariant -/
def LoopOk (e : Expr) (k : Nat) (li : Value) (t : Expr) (fs : List Expr) (en : Env) (body : (Shared → Prop) → Shared → Prop) : Prop :=
  ∀ (it : Value) (R : Result → Shared → Prop) (I : Nat → Shared → Prop), (∀ n s, I n s → Turn1 prog w A t fs it en body (R (.ok .next)) (fun s' => ∃ m, m < n ∧ I m s') s) → ∀ n s, I n s → codeAny (model prog w) A (.compLoop e k it li en) R s
def StartOk (e : Expr) (k : Nat) (li : Value) (en : Env) : Prop :=
  ∀ (it : Value) (R : Result → Shared → Prop) (s : Shared), codeAny (model prog w) A (.compLoop e k it li en) R s → wpAny (model prog w) A (pyIter it) (fun it' s' => codeAny (model prog w) A (.compLoop e k it' li en) R s') noE s → codeAny (model prog w) A (.compStart e k it li en) R s
end
section
variable {prog : Program} {w : World} {A : Around}
theorem wk {α : Type} {m : Sem α} {Q Q' : α → Shared → Prop} {E : Value → Shared → Prop} {s : Shared} (h : wpAny (model prog w) A m Q noE s) (q : ∀ a s', Q a s' → Q' a s') : wpAny (model prog w) A m Q' E s := wpAny_mono h q fun _ _ z => z.elim
theorem mid_loop {el t i' : Expr} {cs : List Comprehension} {sc : Scope} {pp : Pos} {k : Nat} {p : Pos} {fs : List Expr} {li : Value} {en : Env} {nxt : Value → Code} (hE : ∀ it, compTurn (.ListComp el cs sc pp) k it li en = midRun t i' p fs it en nxt (.compLoop (.ListComp el cs sc pp) k it li en)) (hs : ∀ x, foldedSetIterable i' en x = pure x) : LoopOk prog w A (.ListComp el cs sc pp) k li t fs en (bodyMid prog w A i' en nxt) := by
  intro it R I turn n s h
  refine codeAny_loop rfl I (fun n s hI => ?_) n h
  show wpAny (model prog w) A ((compTurn (.ListComp el cs sc pp) k it li en).onRaise fun x => do noteFrame x en; theTreesLotGoes x) _ _ s
  refine wpAny_noted ?_
  rw [hE it]
  unfold midRun
  refine wpAny_bind (wpAny_standAt (wpAny_bind (wk (turn n s hI) fun r s1 h1 => ?_)))
  cases r with
  | none => exact wpAny_pure h1
  | some v =>
    refine wpAny_bind (wk h1 fun _ s2 h2 => wpAny_bind (wk h2 fun _ s3 h3 => wpAny_bind (wk h3 fun z s4 h4 => ?_)))
    cases z with
    | false => exact wpAny_pure ⟨rfl, h4⟩
    | true =>
      refine wpAny_bind (wk h4 fun x s5 h5 => wpAny_bind (wpAny_standAt (wpAny_bind (wpAny_of_eq (hs x) (wpAny_bind (wpAny_holding (wk h5 fun it1 s6 h6 => ?_)))))))
      refine wpAny_bind (wpAny_runOwn ?_)
      rw [Around.mark_none]
      refine codeAny_mono h6 fun r s' hr => ?_
      cases r with
      | ok f => first | exact wpAny_pure ⟨rfl, hr⟩ | exact wpAny_bind (wpAny_pure (wpAny_pure ⟨rfl, hr⟩))
      | error x => exact hr.elim
theorem in_loop {el t : Expr} {cs : List Comprehension} {sc : Scope} {pp : Pos} {k : Nat} {p : Pos} {fs : List Expr} {li : Value} {en : Env} (hE : ∀ it, compTurn (.ListComp el cs sc pp) k it li en = inRun t el p fs it li en (.compLoop (.ListComp el cs sc pp) k it li en)) : LoopOk prog w A (.ListComp el cs sc pp) k li t fs en (bodyIn prog w A el en li) := by
  intro it R I turn n s h
  refine codeAny_loop rfl I (fun n s hI => ?_) n h
  show wpAny (model prog w) A ((compTurn (.ListComp el cs sc pp) k it li en).onRaise fun x => do noteFrame x en; theTreesLotGoes x) _ _ s
  refine wpAny_noted ?_
  rw [hE it]
  unfold inRun
  refine wpAny_bind (wpAny_standAt (wpAny_bind (wk (turn n s hI) fun r s1 h1 => ?_)))
  cases r with
  | none => exact wpAny_pure h1
  | some v =>
    refine wpAny_bind (wk h1 fun _ s2 h2 => wpAny_bind (wk h2 fun _ s3 h3 => wpAny_bind (wk h3 fun z s4 h4 => ?_)))
    cases z with
    | false => exact wpAny_pure ⟨rfl, h4⟩
    | true => exact wpAny_bind (wpAny_bind (wk h4 fun x s5 h5 => wpAny_bind (wk h5 fun _ s6 h6 => wpAny_pure (wpAny_pure ⟨rfl, h6⟩))))
theorem start_any {el : Expr} {cs : List Comprehension} {sc : Scope} {pp : Pos} {k : Nat} {li : Value} {en : Env} {c : Comprehension} (hc : cs[k]? = some c) (ha : (c.is_async != 0) = false) : StartOk prog w A (.ListComp el cs sc pp) k li en := by
  intro it R s h0 h
  refine codeAny_of_tree (show wpAny _ _ ((compStart (.ListComp el cs sc pp) k it li en).onRaise fun x => do noteFrame x en; standAt theWindowsPlace) _ _ s from wpAny_notedAt ?_)
  unfold compStart
  show wpAny _ _ (if (cs[k]?).elim false (·.is_async != 0) = true then _ else _) _ _ s
  rw [hc]
  have e : ((some c).elim false fun x => x.is_async != 0) = false := ha
  rw [if_neg (by rw [e]; decide)]
  refine wpAny_bind (wpAny_askSetting (wpAny_ite ?_)) (A := A)
  split
  · first | exact wpAny_pure ⟨rfl, h0⟩ | exact wpAny_bind (wpAny_pure (wpAny_pure ⟨rfl, h0⟩))
  · refine wpAny_bind (wpAny_rule ?_)
    have e2 : (clausesOf (el.ListComp cs sc pp))[k]? = some c := hc
    rw [e2]
    exact wpAny_bind (wpAny_standAt (wpAny_bind (wk h fun it' s' h' => wpAny_pure ⟨rfl, h'⟩)))
end
end GB

namespace GB
open PySem PySem.Spec PyProof.Rows L2

/-! comprehensions of three clauses: the levels -/
def Kn (σ' σ : L2.St) : Prop := σ'.length = σ.length ∧ ∀ (i : Nat) (v : V), σ'[i]? = some (some v) → σ[i]? = some (some v)
theorem kn_wipe {σ : L2.St} {vs : List Nat} : Kn (wipe σ vs) σ := ⟨wipe_length σ vs, fun i v e => (wipe_some e).1⟩
theorem kn_in {σ : L2.St} {vs vb : List Nat} (hv : ∀ i ∈ vb, i ∈ vs) : Kn (wipe σ vs) (wipe σ vb) :=
  ⟨by rw [wipe_length, wipe_length], fun i v e => by
    obtain ⟨e1, e2⟩ := wipe_some e
    rw [GB.wipe_out σ vb i fun z => e2 (hv i z)]; exact e1⟩
theorem Kn.tr {a b c : L2.St} (h : Kn a b) (k : Kn b c) : Kn a c := ⟨h.1.trans k.1, fun i v e => k.2 i v (h.2 i v e)⟩
abbrev TB := L2.St → Hp → (Hp → Prop) → Prop
def BodyOk (Y : Cx) (vb : List Nat) (tb : TB) (body : (Shared → Prop) → Shared → Prop) : Prop :=
  ∀ (pins : List (Addr × Obj)) (σ : L2.St) (H : Hp) (s : Shared) (Nx : Hp → Prop) (Φ : Shared → Prop), L2.Inv Y pins σ H s → tb σ H Nx → (∀ σ' H' s', L2.Inv Y pins σ' H' s' → Kn (wipe σ vb) σ' → Nx H' → Φ s') → body Φ s
def tWalk (J : It) (g : TG) (tt : TT) (tb : TB) (vs : List Nat) (σw : L2.St) (W : Nat → Nat → Hp → Prop) (Stop : Hp → Prop) : Prop :=
  ∀ i m H, W i m H → (J.stop i H ∧ Stop H) ∨ (J.go i H ∧ ∃ Nx : Hp → Prop, (∀ H', Nx H' → ∃ m', m' < m ∧ W (i + 1) m' H') ∧ ∀ x H', J.yld i H x H' → g x σw H' fun σ2 H2 => wipe σ2 vs = σw ∧ tt σ2 H2 fun b H3 => if b = true then tb σ2 H3 Nx else Nx H3)
def tMid (wi : TI) (g : TG) (tt : TT) (tb : TB) (vs : List Nat) : TB := fun σ H Nx => wi σ H fun J H1 => ∃ W : Nat → Nat → Hp → Prop, (∃ m, W 0 m H1) ∧ tWalk J g tt tb vs (wipe σ vs) W Nx
def tIn (te : TE) (D : Addr) : TB := fun σ H Nx => te σ H fun y H' => ∃ acc, H' D = some (.lst acc) ∧ acc.length < sizeLine ∧ Nx (upd H' D (.lst (acc ++ [y])))
def tLc3 (wi : TI) (g : TG) (tt : TT) (wi1 : TI) (g1 : TG) (tt1 : TT) (wi2 : TI) (g2 : TG) (tt2 : TT) (te : TE) (vs vs1 vs2 : List Nat) : TE := fun σ H Q => wi σ H fun J H1 => ∀ D, H1 D = none →
  ∃ W : Nat → Nat → Hp → Prop, (∃ m, W 0 m (upd H1 D (.lst []))) ∧ tWalk J g tt (tMid wi1 g1 tt1 (tMid wi2 g2 tt2 (tIn te D) vs2) vs1) vs (wipe σ vs) W (Q (.ref D))
section
variable {Y : Cx} {pins : List (Addr × Obj)} {t : Expr} {fs : List Expr} {g : TG} {tt : TT} {tb : TB} {vs vb : List Nat} {body : (Shared → Prop) → Shared → Prop}
theorem turn_done {prog : Program} {w : World} {A : Around} {it : Value} {en : Env} {d d' b : Shared → Prop} {s : Shared} (h : Turn1 prog w A t fs it en body d b s) (q : ∀ s, d s → d' s) : Turn1 prog w A t fs it en body d' b s := by
  refine wk h fun r s1 h1 => ?_
  cases r with
  | none => exact q _ h1
  | some v => exact h1
theorem level (hc : Y.calm = true) (hx : Y.xe = noE) {σw : L2.St} {J : It} {fp : List Addr} {it : Addr} {tn : Nat → Heap → Prop} {W : Nat → Nat → Hp → Prop} {Stop : Hp → Prop}
    (T : Turn Y.prog Y.w Y.K t J fp it tn) (pg : PG Y t g) (pt : PTs Y fs tt) (hb : BodyOk Y vb tb body) (hv : ∀ i ∈ vb, i ∈ vs)
    (stat : ∀ {σ' : L2.St} {H' : Hp} {s' : Shared}, L2.Inv Y pins σ' H' s' → (∀ b ∈ fp, H' b = none) → ∀ b ∈ fp, FpOk Y pins H' b) (wl : tWalk J g tt tb vs σw W Stop) (n : Nat) (s : Shared)
    (h : ∃ i H, L2.Inv Y pins σw H s ∧ tn i s.heap ∧ (∀ b ∈ fp, H b = none) ∧ W i n H) :
    Turn1 Y.prog Y.w Y.A t fs (.ref it) Y.env body (fun s' => ∃ H', L2.Inv Y pins σw H' s' ∧ Stop H') (fun s' => ∃ m, m < n ∧ ∃ i H, L2.Inv Y pins σw H s' ∧ tn i s'.heap ∧ (∀ b ∈ fp, H b = none) ∧ W i m H) s := by
  obtain ⟨i, H, I, st, nf, w0⟩ := h
  rcases wl i n H w0 with ⟨stop, qq⟩ | ⟨go, Nx, hN, step⟩
  · refine wk (T.done Y rfl rfl rfl hc i pins s σw H noE I (stat I nf) st stop) fun r s' hr => ?_
    obtain ⟨hr, I'⟩ := hr
    cases hr
    exact ⟨H, I', qq⟩
  · refine wk (T.item Y rfl rfl rfl hc i pins s σw H noE I (stat I nf) st go) fun r s1 h1 => ?_
    obtain ⟨u, hr, h1⟩ := h1
    cases hr
    refine wk h1 fun _ s2 h2 => ?_
    obtain ⟨x, H2, I2, r2, y2, st2, n2⟩ := h2
    have e1 := pg.run _ s2 _ H2 x u _ (I2.pinned (stat I2 n2) (T.obj _ _ st2)) r2 (step x H2 y2)
    rw [hx] at e1
    refine wk e1 fun _ s3 h3 => ?_
    obtain ⟨σ3, H3, I3, hw3, q3⟩ := h3
    have e2 := pt.run _ s3 σ3 H3 _ I3 q3
    rw [hx] at e2
    refine wk e2 fun b s4 h4 => ?_
    obtain ⟨H4, I4, q4⟩ := h4
    have fin : ∀ {σ' : L2.St} {H' : Hp} {s' : Shared}, L2.Inv Y (pins ++ pinsAt fp s2.heap) σ' H' s' → Kn σw σ' → Nx H' → ∃ m, m < n ∧ ∃ i H, L2.Inv Y pins σw H s' ∧ tn i s'.heap ∧ (∀ b ∈ fp, H b = none) ∧ W i m H := fun {σ' H' s'} I' kn nx => by
      obtain ⟨m', hm, w'⟩ := hN H' nx
      have held : ∀ b ∈ fp, ∀ o, s2.heap.get? b = some o → s'.heap.get? b = some o ∧ H' b = none := fun b hb o e => by
        have z := I'.pin (b, o) (List.mem_append_right _ (List.mem_append_right _ (mem_pinsAt hb e)))
        exact ⟨z.1, z.2.1⟩
      refine ⟨m', hm, i + 1, H', I'.unpinned.weak kn.1 kn.2, T.keep _ _ _ st2 fun b hb o e => (held b hb o e).1, fun b hb => ?_, w'⟩
      obtain ⟨o, e, _⟩ := T.obj _ _ st2 b hb
      exact (held b hb o e).2
    cases b with
    | false => exact fin I4 (hw3 ▸ kn_wipe) (by simpa using q4)
    | true => exact hb _ _ _ _ Nx _ I4 (by simpa using q4) fun σ' H' s' I' kn nx => fin I' (Kn.tr (hw3 ▸ kn_in hv) kn) nx
theorem body_in {el : Expr} {te : TE} {D : Addr} (hx : Y.xe = noE) (pe : PE Y el te) : BodyOk Y [] (tIn te D) (bodyIn Y.prog Y.w Y.A el Y.env (.ref D)) := by
  intro pins σ H s Nx Φ I h k
  have e := pe.run pins s σ H _ I h
  rw [hx] at e
  refine wk e fun z s1 h1 => ?_
  obtain ⟨y, H1, I1, r1, acc, hD, hz, nx⟩ := h1
  exact app_ok I1 hD hz r1 fun s2 I2 => k σ _ s2 I2 ⟨rfl, fun _ _ e => e⟩ nx
theorem body_mid {e i' : Expr} {k : Nat} {li : Value} {wi : TI} (hc : Y.calm = true) (hx : Y.xe = noE) (pi : PI Y t i' wi) (hl : LoopOk Y.prog Y.w Y.A e k li t fs Y.env body) (hst : StartOk Y.prog Y.w Y.A e k li Y.env)
    (pg : PG Y t g) (pt : PTs Y fs tt) (hb : BodyOk Y vb tb body) (hv : ∀ i ∈ vb, i ∈ vs) : BodyOk Y vs (tMid wi g tt tb vs) (bodyMid Y.prog Y.w Y.A i' Y.env fun v => .compStart e k v li Y.env) := by
  intro pins σ H s Nx Φ I h kk
  have e0 := pi.run pins s σ H _ I h
  simp only [hx] at e0
  refine wk e0 fun xv s1 h1 => wk h1 fun itv s2 h2 => ?_
  obtain ⟨it, fp, tn, J, H2, ei, I2, T, st2, f2, W, ⟨m0, w0⟩, wl⟩ := h2
  subst ei
  have loop : codeAny (model Y.prog Y.w) Y.A (.compLoop e k (.ref it) li Y.env) (fun r s' => match r with
      | .ok _ => Φ s'
      | .error _ => False) s2 := hl (.ref it) _ (fun n s' => ∃ i H', L2.Inv Y pins (wipe σ vs) H' s' ∧ tn i s'.heap ∧ (∀ b ∈ fp, H' b = none) ∧ W i n H')
    (fun n s' hI => turn_done (level hc hx T pg pt hb hv (fun I' nf b hb => ⟨nf b hb, (f2 b hb).2⟩) wl n s' hI) fun s'' hd => by
      obtain ⟨H', I', nx⟩ := hd
      exact kk _ _ _ I' ⟨rfl, fun _ _ e => e⟩ nx) m0 s2 ⟨0, H2, I2.weak kn_wipe.1 kn_wipe.2, st2, fun b hb => (f2 b hb).1, w0⟩
  exact hst (.ref it) _ s2 loop (T.self Y.A 0 _ _ _ st2 loop)
end
end GB

namespace GB
open PySem PySem.Spec PyProof.Rows L2

/-! comprehensions of three clauses: the block -/
/-- of every context of the block -/
def OfBlk (X : Cx) (scope : Scope) (F : Cx → Prop) : Prop := ∀ (s : Shared) (H : Hp) (C : Addr) (cl : List (Str × Addr)) (fp : List Addr), F (X.blk s H scope (compEnvC scope cl C X.env) fp)
section
variable {X : Cx} {el tg it0 tg1 it1 tg2 it2 : Expr} {f0 f1 f2 : List Expr} {scope : Scope} {own : List (Str × Nat)} {vs1 vs2 : List Nat} {pos : Pos} {wi wi1 wi2 : TI} {g g1 g2 : TG} {tt tt1 tt2 : TT} {te : TE}
set_option maxHeartbeats 4000000 in
theorem lc3_core {pins : List (Addr × Obj)} {s : Shared} {σ : L2.St} {H : Hp} {Q : VK} {pos' : Pos} {use : Option (Value → Sem Unit)} {Qf : Value → Shared → Prop} (cal : X.calm = true) (nd : X.N.Nodup) (I : L2.Inv X pins σ H s) (src : PI X tg it0 wi) (ok : BlkOk X.N X.env.scope scope own)
    (v1 : ∀ i ∈ vs1, i ∈ own.map (·.2)) (v2 : ∀ i ∈ vs2, i ∈ vs1) (b0 : OfBlk X scope fun Y => PG Y tg g) (c0 : OfBlk X scope fun Y => PTs Y f0 tt) (a1 : OfBlk X scope fun Y => PI Y tg1 it1 wi1) (b1 : OfBlk X scope fun Y => PG Y tg1 g1) (c1 : OfBlk X scope fun Y => PTs Y f1 tt1)
    (a2 : OfBlk X scope fun Y => PI Y tg2 it2 wi2) (b2 : OfBlk X scope fun Y => PG Y tg2 g2) (c2 : OfBlk X scope fun Y => PTs Y f2 tt2) (lst : OfBlk X scope fun Y => PE Y el te)
    (n0 : ∀ x, foldedSetIterable it0 X.env x = pure x) (n1 : ∀ env x, foldedSetIterable it1 env x = pure x) (n2 : ∀ env x, foldedSetIterable it2 env x = pure x)
    (h : tLc3 wi g tt wi1 g1 tt1 wi2 g2 tt2 te (own.map (·.2)) vs1 vs2 σ H Q)
    (out : ∀ D C s' m H', L2.Inv X pins σ H' s' → Q (.ref D) H' → s'.heap.Ns C m → FpOk X pins H' C → compPost (model X.prog X.w) X.A X.xe use Qf (.ref D) C (.ok .next) s') :
    wpAny (model X.prog X.w) X.A (comprehension (.ListComp el [⟨tg, it0, f0, 0⟩, ⟨tg1, it1, f1, 0⟩, ⟨tg2, it2, f2, 0⟩] scope pos) scope X.env pos' (newList []) false (eval it0 X.env) use) Qf X.xe s := by
  have fr : ∀ y ∈ scope.names, y.2 = .free → ∃ c, X.env.cells.lookup y.1 = some c := fun y hy e => (ok.free y hy e).elim (fun k => I.ok.has _ (.inl k)) fun k => I.ok.has _ (.inr k)
  refine wpAny_comprehension_free (use := use) rfl n0 (closure_ok fr) ok.kind (fun y hy e => by rw [ok.uniq y hy, e]) (thn (src.run pins s σ H _ I h) fun xv s1 hx => thn hx fun itv s2 h2 => ?_)
  obtain ⟨it, fp, tn, J, H2, ei, I2, T, st2, fp2, q⟩ := h2
  subst ei
  refine wpAny_newObj_type (newEnv_comp ?_) (by show 0 ≤ sizeLine; decide)
  generalize eD : s2.heap.objs.size = D0
  have un : H2 D0 = none := I2.hok.fresh (Nat.le_of_eq eD)
  obtain ⟨W, ⟨m0, w0⟩, wl⟩ := q D0 un
  generalize e3 : ({ s2 with heap := s2.heap.push { cls := .type "list", data := .seq ([] : List Value).toArray } } : Shared) = s3
  have I3 : L2.Inv X pins σ (upd H2 D0 (.lst [])) s3 := by
    rw [← e3]
    refine I2.laid (t' := s2.toks) (fun b o e => Heap.get?_push_of_some _ e) (Nat.le_of_eq eD) ⟨Nat.zero_le _, [], 0, .nil, by rw [← eD]; exact Heap.get?_push_size _ rfl⟩
  have hp3 : s3.heap = s2.heap.push { cls := .type "list", data := .seq ([] : List Value).toArray } := by rw [← e3]
  have old : ∀ b ∈ fp, b < s2.heap.objs.size := fun b hb => by
    obtain ⟨o, e, _⟩ := T.obj _ _ st2 b hb
    exact Heap.lt_size e
  have fp3 : ∀ b ∈ fp, FpOk X pins (upd H2 D0 (.lst [])) b ∧ b < s3.heap.objs.size := fun b hb => by
    have lt := old b hb
    refine ⟨⟨?_, (fp2 b hb).2⟩, by rw [hp3, Heap.size_push]; exact Nat.lt_succ_of_lt lt⟩
    rw [upd_ne (by rw [← eD]; exact Nat.ne_of_lt lt)]; exact (fp2 b hb).1
  have st3 : tn 0 s3.heap := T.keep _ _ _ st2 fun b _ o e => by rw [hp3]; exact Heap.get?_push_of_some _ e
  have I4 := block_start I3 ok nd fp3
  generalize eH : upd H2 D0 (.lst []) = H3 at I3 I4 w0 fp3
  have k0 := b0 s3 H3 s3.heap.objs.size (cellsFrom (s3.heap.objs.size + 1) scope.names (cloFrom X.env.cells scope.names [])) fp
  have k1 := c0 s3 H3 s3.heap.objs.size (cellsFrom (s3.heap.objs.size + 1) scope.names (cloFrom X.env.cells scope.names [])) fp
  have k2 := a1 s3 H3 s3.heap.objs.size (cellsFrom (s3.heap.objs.size + 1) scope.names (cloFrom X.env.cells scope.names [])) fp
  have k3 := b1 s3 H3 s3.heap.objs.size (cellsFrom (s3.heap.objs.size + 1) scope.names (cloFrom X.env.cells scope.names [])) fp
  have k4 := c1 s3 H3 s3.heap.objs.size (cellsFrom (s3.heap.objs.size + 1) scope.names (cloFrom X.env.cells scope.names [])) fp
  have k5 := a2 s3 H3 s3.heap.objs.size (cellsFrom (s3.heap.objs.size + 1) scope.names (cloFrom X.env.cells scope.names [])) fp
  have k6 := b2 s3 H3 s3.heap.objs.size (cellsFrom (s3.heap.objs.size + 1) scope.names (cloFrom X.env.cells scope.names [])) fp
  have k7 := c2 s3 H3 s3.heap.objs.size (cellsFrom (s3.heap.objs.size + 1) scope.names (cloFrom X.env.cells scope.names [])) fp
  have k8 := lst s3 H3 s3.heap.objs.size (cellsFrom (s3.heap.objs.size + 1) scope.names (cloFrom X.env.cells scope.names [])) fp
  show codeAny _ _ (.compStart (.ListComp el [⟨tg, it0, f0, 0⟩, ⟨tg1, it1, f1, 0⟩, ⟨tg2, it2, f2, 0⟩] scope pos) 0 (.ref it) (.ref D0) (compEnvC scope (cellsFrom (s3.heap.objs.size + 1) scope.names (cloFrom X.env.cells scope.names [])) s3.heap.objs.size X.env)) (compPost (model X.prog X.w) X.A X.xe use Qf (.ref D0) s3.heap.objs.size) _
  generalize ec : compEnvC scope (cellsFrom (s3.heap.objs.size + 1) scope.names (cloFrom X.env.cells scope.names [])) s3.heap.objs.size X.env = ce at I4 k0 k1 k2 k3 k4 k5 k6 k7 k8 ⊢
  have cl : ce.locals = s3.heap.objs.size := by subst ec; rfl
  generalize e4 : ({ s3 with heap := pushCells (s3.heap.push { cls := .type "dict", data := .dict #[] }) scope.names } : Shared) = s4 at I4 ⊢
  have st4 : tn 0 s4.heap := T.keep _ _ _ st3 fun b _ o e => by rw [← e4]; exact pushCells_keeps _ _ _ _ (Heap.get?_push_of_some _ e)
  have nfp : ∀ b ∈ fp, H3 b = none := fun b hb => (fp3 b hb).1.1
  let Y : Cx := X.blk s3 H3 scope ce fp
  have stat : ∀ {σ' : L2.St} {H' : Hp} {s' : Shared}, L2.Inv Y [] σ' H' s' → (∀ b ∈ fp, H' b = none) → ∀ b ∈ fp, FpOk Y [] H' b := fun {σ' H' s'} I' hn b hb =>
    ⟨hn b hb, (I'.ok.exf b hb).1, I'.ok.exfs b hb, .inl hb, fun x c e => (I'.ok.exf b hb).2 x c e, fun p hp => absurd (show p ∈ ([] : List (Addr × Obj)) ++ [] from hp) (by simp)⟩
  have l2 : LoopOk X.prog X.w X.A (.ListComp el [⟨tg, it0, f0, 0⟩, ⟨tg1, it1, f1, 0⟩, ⟨tg2, it2, f2, 0⟩] scope pos) 2 (.ref D0) tg2 f2 ce (bodyIn X.prog X.w X.A el ce (.ref D0)) := in_loop fun it => turn3_2 ..
  have m2 : BodyOk Y vs2 (tMid wi2 g2 tt2 (tIn te D0) vs2) (bodyMid X.prog X.w X.A it2 ce fun v => .compStart (.ListComp el [⟨tg, it0, f0, 0⟩, ⟨tg1, it1, f1, 0⟩, ⟨tg2, it2, f2, 0⟩] scope pos) 2 v (.ref D0) ce) :=
    body_mid (Y := Y) cal rfl k5 l2 (start_any (c := ⟨tg2, it2, f2, 0⟩) rfl rfl) k6 k7 (body_in (Y := Y) rfl k8) (fun i hi => (nomatch hi))
  have l1 : LoopOk X.prog X.w X.A (.ListComp el [⟨tg, it0, f0, 0⟩, ⟨tg1, it1, f1, 0⟩, ⟨tg2, it2, f2, 0⟩] scope pos) 1 (.ref D0) tg1 f1 ce (bodyMid X.prog X.w X.A it2 ce fun v => .compStart (.ListComp el [⟨tg, it0, f0, 0⟩, ⟨tg1, it1, f1, 0⟩, ⟨tg2, it2, f2, 0⟩] scope pos) 2 v (.ref D0) ce) := mid_loop (fun it => turn3_1 ..) (n2 ce)
  have m1 : BodyOk Y vs1 (tMid wi1 g1 tt1 (tMid wi2 g2 tt2 (tIn te D0) vs2) vs1) (bodyMid X.prog X.w X.A it1 ce fun v => .compStart (.ListComp el [⟨tg, it0, f0, 0⟩, ⟨tg1, it1, f1, 0⟩, ⟨tg2, it2, f2, 0⟩] scope pos) 1 v (.ref D0) ce) :=
    body_mid (Y := Y) cal rfl k2 l1 (start_any (c := ⟨tg1, it1, f1, 0⟩) rfl rfl) k3 k4 m2 v2
  have l0 : LoopOk X.prog X.w X.A (.ListComp el [⟨tg, it0, f0, 0⟩, ⟨tg1, it1, f1, 0⟩, ⟨tg2, it2, f2, 0⟩] scope pos) 0 (.ref D0) tg f0 ce (bodyMid X.prog X.w X.A it1 ce fun v => .compStart (.ListComp el [⟨tg, it0, f0, 0⟩, ⟨tg1, it1, f1, 0⟩, ⟨tg2, it2, f2, 0⟩] scope pos) 1 v (.ref D0) ce) := mid_loop (fun it => turn3_0 ..) (n1 ce)
  have lv := level (Y := Y) (pins := []) (vb := vs1) cal rfl T k0 k1 m1 v1 stat wl
  have loop : codeAny (model X.prog X.w) X.A (.compLoop (.ListComp el [⟨tg, it0, f0, 0⟩, ⟨tg1, it1, f1, 0⟩, ⟨tg2, it2, f2, 0⟩] scope pos) 0 (.ref it) (.ref D0) ce) (compPost (model X.prog X.w) X.A X.xe use Qf (.ref D0) s3.heap.objs.size) s4 := by
    refine l0 (.ref it) _ (fun n s' => ∃ i H', L2.Inv Y [] (wipe σ (own.map (·.2))) H' s' ∧ tn i s'.heap ∧ (∀ b ∈ fp, H' b = none) ∧ W i n H') (fun n s' hI => turn_done (lv n s' hI) fun s'' hd => ?_) m0 s4 ⟨0, H3, I4, st4, nfp, w0⟩
    obtain ⟨H5, I6, qq⟩ := hd
    have I7 : L2.Inv X pins σ H5 s'' := I3.call' (ch := fp) I6.os I6.base I6.hok I6.bare fun b hb => ⟨(fp3 b hb).1.2.2.2.1, (fp3 b hb).1.2.1, (fp3 b hb).1.2.2.2.2.1, (fp3 b hb).1.2.2.2.2.2⟩
    have z : H5 ce.locals = none := I6.free
    obtain ⟨m, hn, _⟩ := I6.loc
    have hn : s''.heap.Ns ce.locals m := hn
    rw [cl] at z hn
    exact out D0 s3.heap.objs.size s'' m H5 I7 qq hn (I3.fpOk (Nat.le_refl _) z)
  exact codeAny_compStart_list loop (T.self X.A 0 _ _ _ st4 loop)
theorem ps_setLc3 {i : Nat} {y : Str} {py spos : Pos} (cal : X.calm = true) (nd : X.N.Nodup) (hy : X.N[i]? = some y) (hyl : X.env.scope.names.lookup y = some .local)
    (sw : swapsWith (.ListComp el [⟨tg, it0, f0, 0⟩, ⟨tg1, it1, f1, 0⟩, ⟨tg2, it2, f2, 0⟩] scope pos) (some (.Name y py)) spos.line X.env = pure true) (src : PI X tg it0 wi) (ok : BlkOk X.N X.env.scope scope own)
    (v1 : ∀ i ∈ vs1, i ∈ own.map (·.2)) (v2 : ∀ i ∈ vs2, i ∈ vs1) (b0 : OfBlk X scope fun Y => PG Y tg g) (c0 : OfBlk X scope fun Y => PTs Y f0 tt) (a1 : OfBlk X scope fun Y => PI Y tg1 it1 wi1) (b1 : OfBlk X scope fun Y => PG Y tg1 g1) (c1 : OfBlk X scope fun Y => PTs Y f1 tt1)
    (a2 : OfBlk X scope fun Y => PI Y tg2 it2 wi2) (b2 : OfBlk X scope fun Y => PG Y tg2 g2) (c2 : OfBlk X scope fun Y => PTs Y f2 tt2) (lst : OfBlk X scope fun Y => PE Y el te)
    (n0 : ∀ x, foldedSetIterable it0 X.env x = pure x) (n1 : ∀ env x, foldedSetIterable it1 env x = pure x) (n2 : ∀ env x, foldedSetIterable it2 env x = pure x) :
    PS X (.Assign [.Name y py] (.ListComp el [⟨tg, it0, f0, 0⟩, ⟨tg1, it1, f1, 0⟩, ⟨tg2, it2, f2, 0⟩] scope pos) spos) (tAsg (tLc3 wi g tt wi1 g1 tt1 wi2 g2 tt2 te (own.map (·.2)) vs1 vs2) (gName i)) := by
  refine ⟨fun pins s σ H D I h => ?_⟩
  rw [exec_Assign_Name_used _ _ _ _ sw]
  refine wpAny_bind (wpAny_standAt (wpAny_bind ?_))
  show wpAny _ X.A (do let _ ← comprehension (.ListComp el [⟨tg, it0, f0, 0⟩, ⟨tg1, it1, f1, 0⟩, ⟨tg2, it2, f2, 0⟩] scope pos) scope X.env (firstIterPos [⟨tg, it0, f0, 0⟩, ⟨tg1, it1, f1, 0⟩, ⟨tg2, it2, f2, 0⟩] pos) (newList []) false (eval it0 X.env) (some (assign (.Name y py) X.env))) _ _ s
  have h : tLc3 wi g tt wi1 g1 tt1 wi2 g2 tt2 te (own.map (·.2)) vs1 vs2 σ H (fun x H1 => gName i x σ H1 D.nx) := h
  refine wpAny_bind (thn (lc3_core (Qf := fun _ s' => SP X pins D .next s') cal nd I src ok v1 v2 b0 c0 a1 b1 c1 a2 b2 c2 lst n0 n1 n2 h fun L C s' m H' I' q hn f => ?_) fun _ s' hq => wpAny_pure (wpAny_pure hq))
  show wpAny _ _ (assign (.Name y py) X.env (.ref L)) _ _ _
  obtain ⟨q0, q1, q2, q3, q4, q5⟩ := f
  refine wpAny_assign_Name (store_ok2 (v := V.ref L) I' nd hy (.inl hyl) rfl (fun s2 I2 hs2 => ?_) (.inr hyl))
  obtain ⟨a, sb, ha⟩ := hs2
  have far : C ≠ a := ha.elim (fun z => by rw [z]; exact q1) fun z e => q4 y a z e.symm
  exact ⟨m, hn.sameBut sb far, fun h3 sb3 => ⟨_, H', I2.turned (t' := s2.toks) (fun b o hb e => (sb3.2 b hb).trans e) q0 q1 q3 q4 q5, q⟩⟩
end
end GB

namespace GB
open PySem PySem.Spec PyProof.Rows L2

/-! comprehensions of three clauses: data -/
abbrev DB := En → (List PyData → Prop) → List PyData → Prop
def dGo (vs : List Nat) (g : DTG) (tt : TTd) (db : DB) (ρw : En) (K : List PyData → Prop) : List PyData → List PyData → Prop
  | [], acc => K acc
  | d :: ds, acc => g d ρw fun ρ2 => wipeD ρ2 vs = ρw ∧ tt ρ2 fun b ρ3 => ρ3 = ρ2 ∧ if b = true then db ρ2 (fun acc => dGo vs g tt db ρw K ds acc) acc else dGo vs g tt db ρw K ds acc
def dbIn (te : TEd) : DB := fun ρ K acc => te ρ fun s ρ4 => ρ4 = ρ ∧ ∃ y, s = .d y ∧ acc.length < sizeLine ∧ K (acc ++ [y])
def dbMid (ti : TId) (vs : List Nat) (g : DTG) (tt : TTd) (db : DB) : DB := fun ρ K acc => ti ρ fun ds ρ4 => ρ4 = ρ ∧ dGo vs g tt db (wipeD ρ vs) K ds acc
def dLc3 (ti : TId) (vs vs1 vs2 : List Nat) (g : DTG) (tt : TTd) (ti1 : TId) (g1 : DTG) (tt1 : TTd) (ti2 : TId) (g2 : DTG) (tt2 : TTd) (te : TEd) : TEd :=
  fun ρ Q => ti ρ fun ds ρ1 => dGo vs g tt (dbMid ti1 vs1 g1 tt1 (dbMid ti2 vs2 g2 tt2 (dbIn te))) (wipeD ρ1 vs) (fun acc => Q (.own acc) (wipeD ρ1 vs)) ds []
section
variable {L : Lay} {H1 : Hp} {D : Addr}
/-- no own slot holds D -/
def Apart (D : Addr) (σ : L2.St) (ρ : En) : Prop := ∀ (i : Nat) (ys : Ow), ρ[i]? = some (.ow ys) → σ[i]? ≠ some (some (.ref D))
def LsAt (L : Lay) (D : Addr) (H : Hp) (acc : List PyData) : Prop := ∃ us, H D = some (.lst us) ∧ BrA L.K H us acc
def DbOk (L : Lay) (H1 : Hp) (D : Addr) (vb : List Nat) (db : DB) (tb : TB) : Prop :=
  ∀ (σ : L2.St) (ρ : En) (H : Hp) (acc : List PyData) (K : List PyData → Prop) (Nx : Hp → Prop), NoOwn vb ρ → Go σ ρ ρ H1 H → Rel L H σ ρ → Apart D σ ρ → LsAt L D H acc → db ρ K acc →
    (∀ H' acc', Keep H H' → Go (wipe σ vb) (wipeD ρ vb) (wipeD ρ vb) H1 H' → Rel L H' (wipe σ vb) (wipeD ρ vb) → LsAt L D H' acc' → K acc' → Nx H') → tb σ H Nx
theorem own_in {vs : List Nat} {ρ : En} {j : Nat} {ys : Ow} (e : (wipeD ρ vs)[j]? = some (.ow ys)) : j ∉ vs ∧ ρ[j]? = some (.ow ys) := by
  have nj : j ∉ vs := fun m => noOwn_wiped (vs := vs) ρ j m ys e
  rw [wipeD_get, if_neg nj] at e
  exact ⟨nj, e⟩
theorem own_out {vs : List Nat} {ρ : En} {j : Nat} {ys : Ow} (no : NoOwn vs ρ) (e : ρ[j]? = some (.ow ys)) : j ∉ vs ∧ (wipeD ρ vs)[j]? = some (.ow ys) := by
  have nj : j ∉ vs := fun m => no j m ys e
  exact ⟨nj, by rw [wipeD_get, if_neg nj]; exact e⟩
theorem apart_wipe {σ : L2.St} {ρ : En} {vs : List Nat} (h : Apart D σ ρ) : Apart D (wipe σ vs) (wipeD ρ vs) := fun j ys e z => by
  obtain ⟨nj, e'⟩ := own_in e
  exact h j ys e' (by rw [← GB.wipe_out σ vs j nj]; exact z)
theorem walk_lv {vs vb : List Nat} {gt : TG} {g : DTG} {tt : TTd} {db : DB} {tb : TB} {J : It} {ds : List PyData} {G : Hp → Prop} {Yy : Nat → Hp → V → Hp → Prop} {σw : L2.St} {ρw : En} {Hs : Hp} {acc : List PyData} {K : List PyData → Prop} {Stop : Hp → Prop}
    (hg : GOwn L vs gt g) (bok : DbOk L H1 D vb db tb) (hv : ∀ i ∈ vb, i ∈ vs) (d1 : H1 D = none)
    (wk : Walk J ds.length G Yy) (g0 : G Hs) (gk : ∀ H H', Keep H H' → G H → G H') (step : ∀ i H x H', i < ds.length → Keep Hs H → G H → Yy i H x H' → Same H H' ∧ ∃ d, ds[i]? = some d ∧ Br L.K H' x d)
    (nw : NoOwn vs ρw) (ew : wipe σw vs = σw) (go : Go σw ρw ρw H1 Hs) (r : Rel L Hs σw ρw) (ap : Apart D σw ρw) (ls : LsAt L D Hs acc) (q : dGo vs g tt db ρw K ds acc)
    (fin : ∀ H' acc', Keep Hs H' → Go σw ρw ρw H1 H' → Rel L H' σw ρw → LsAt L D H' acc' → K acc' → Stop H') :
    ∃ W : Nat → Nat → Hp → Prop, (∃ m, W 0 m Hs) ∧ tWalk J gt (tT L tt) tb vs σw W Stop := by
  refine walk_it (Body := fun Nx x H' => gt x σw H' fun σ2 H2 => wipe σ2 vs = σw ∧ tT L tt σ2 H2 fun b H3 => if b = true then tb σ2 H3 Nx else Nx H3) wk
    (fun i H2 => Keep Hs H2 ∧ Go σw ρw ρw H1 H2 ∧ Rel L H2 σw ρw ∧ ∃ acc, LsAt L D H2 acc ∧ dGo vs g tt db ρw K (ds.drop i) acc) ⟨Keep.rfl' Hs, go, r, acc, ls, q⟩ (fun i H2 _ h => gk _ _ h.1 g0) (fun i x H2 H3 hi hP hy => ?_) fun H2 hP => ?_
  · obtain ⟨k, go2, r2, acc2, ⟨us, hD2, hb2⟩, ql⟩ := hP
    obtain ⟨sm, d, hd, bd⟩ := step i H2 x H3 hi k (gk _ _ k g0) hy
    have e : ds.drop i = d :: ds.drop (i + 1) := by
      obtain ⟨hi', e⟩ := List.getElem?_eq_some_iff.mp hd
      rw [List.drop_eq_getElem_cons hi', e]
    rw [e] at ql
    have go3 : Go σw ρw ρw H1 H3 := go2.tr (Go.sm sm)
    have hD3 : H3 D = some (.lst us) := sm D _ hD2
    refine hg (r2.go sm) nw bd ql fun σ2 ρ2 r3 no2 q3 e2w => ⟨by rw [e2w, ew], ?_⟩
    obtain ⟨e2, q3⟩ := q3
    have ew2 : wipe σ2 vs = σw := by rw [e2w, ew]
    refine ⟨ρ2, _, r3, q3, fun b H4 ρ3 go4 r4 q4 => ?_⟩
    obtain ⟨e3, q4⟩ := q4
    subst e3
    have k4 : Keep H2 H4 := (keep_of_same sm).tr (go4.keep r3)
    obtain ⟨goA, rA, dA⟩ := back e2 no2 ew2 ap go3 hD3 go4 r4
    cases b with
    | false =>
      rw [if_neg (by decide)] at q4 ⊢
      exact ⟨k.tr k4, goA, rA, acc2, ⟨us, dA, BrA.keep k4 _ _ hb2⟩, q4⟩
    | true =>
      rw [if_pos rfl] at q4 ⊢
      have outw : ∀ (i : Nat) (xs : Ow), ρw[i]? = some (.ow xs) → ρ3[i]? = some (.ow xs) ∧ σ2[i]? = σw[i]? := fun j xs ej => by
        rw [← e2] at ej
        obtain ⟨nj, ej'⟩ := own_in ej
        exact ⟨ej', by rw [← ew2, GB.wipe_out σ2 vs j nj]⟩
      have ap2 : Apart D σ2 ρ3 := fun j ys ej z => by
        obtain ⟨nj, ej'⟩ := own_out no2 ej
        rw [e2] at ej'
        exact ap j ys ej' (by rw [← ew2, GB.wipe_out σ2 vs j nj]; exact z)
      refine bok σ2 ρ3 H4 acc2 _ _ (fun j m xs ej => no2 j (hv j m) xs ej) ((go3.shift outw).tr go4) r4 ap2 ⟨us, dA, BrA.keep k4 _ _ hb2⟩ q4 fun H' acc' kk go' r' hl' qk => ⟨(k.tr k4).tr kk, go'.shift fun j xs ej => ?_, ?_, acc', hl', qk⟩
      · obtain ⟨nj1, ej1⟩ := own_in ej
        obtain ⟨nj, ej2⟩ := own_out no2 ej1
        rw [e2] at ej2
        exact ⟨ej2, by rw [GB.wipe_out σ2 vb j nj1, ← ew2, GB.wipe_out σ2 vs j nj]⟩
      · have h := (r'.wiped (vs := vs)).move (σ' := σw) (by rw [wipe_length, ← ew2, wipe_length]) fun j hj => by
          rw [GB.wipe_out σ2 vb j (fun m => hj (hv j m)), ← ew2, GB.wipe_out σ2 vs j hj]
        rw [wipeD_in hv, e2] at h
        exact h
  · obtain ⟨k, go2, r2, acc2, hl2, ql⟩ := hP
    rw [List.drop_length] at ql
    exact fin H2 acc2 k go2 r2 hl2 ql
theorem db_in {te : TEd} (d1 : H1 D = none) (d0 : L.H0 D = none) : DbOk L H1 D [] (dbIn te) (tIn (tE L te) D) := by
  intro σ ρ H acc K Nx _ go r ap hl q fin
  obtain ⟨us, hD, hb⟩ := hl
  refine ⟨ρ, _, r, q, fun y H9 s ρ7 go9 r9 hvv q9 => ?_⟩
  obtain ⟨e7, y', rfl, hz, q10⟩ := q9
  subst e7
  have dG : H9 D = some (.lst us) := go9.stay D _ hD fun j xs ej z => ap j xs ej z
  have k9 : Keep H H9 := go9.keep r
  have kD : Keep H9 (upd H9 D (.lst (us ++ [y]))) := keep_put dG trivial
  have lu := hb.len
  exact ⟨us, dG, by omega, fin _ (acc ++ [y']) (k9.tr kD) (app_go (go.tr go9) d1) (r9.other dG d0 ap) ⟨us ++ [y], upd_same, (BrA.keep (k9.tr kD) _ _ hb).app (BrA.one (Br.keep kD _ _ hvv))⟩ q10⟩
theorem db_mid {vs vb : List Nat} {ti : TId} {gt : TG} {g : DTG} {tt : TTd} {db : DB} {tb : TB} (hg : GOwn L vs gt g) (bok : DbOk L H1 D vb db tb) (hv : ∀ i ∈ vb, i ∈ vs) (d1 : H1 D = none) :
    DbOk L H1 D vs (dbMid ti vs g tt db) (tMid (tI L ti) gt (tT L tt) tb vs) := by
  intro σ ρ H acc K Nx no go r ap hl q fin
  obtain ⟨us, hD, hb⟩ := hl
  refine ⟨ρ, _, r, q, fun J H5 ds ρ4 go5 r5 q5 it => ?_⟩
  obtain ⟨e4, q5⟩ := q5
  subst e4
  obtain ⟨G, Yy, wk, g0, gk, step⟩ := it
  have k5 : Keep H H5 := go5.keep r
  have d5 : H5 D = some (.lst us) := go5.stay D _ hD fun j xs ej z => ap j xs ej z
  refine walk_lv hg bok hv d1 wk g0 gk step (noOwn_wiped ρ4) wipe_wipe ((go.tr go5).shift fun j xs ej => ?_) (r5.wiped.move (wipe_length σ vs) (GB.wipe_out σ vs)) (apart_wipe ap) ⟨us, d5, BrA.keep k5 _ _ hb⟩ q5 fun H' acc' kk go' r' hl' qk => fin H' acc' (k5.tr kk) go' r' hl' qk
  obtain ⟨nj, ej'⟩ := own_out no ej
  exact ⟨ej', GB.wipe_out σ vs j nj⟩
theorem lc3_read {ti ti1 ti2 : TId} {vs vs1 vs2 : List Nat} {gt gt1 gt2 : TG} {g g1 g2 : DTG} {tt tt1 tt2 : TTd} {te : TEd} (h1 : ∀ i ∈ vs1, i ∈ vs) (h2 : ∀ i ∈ vs2, i ∈ vs1) (hg : GOwn L vs gt g) (hg1 : GOwn L vs1 gt1 g1) (hg2 : GOwn L vs2 gt2 g2) :
    ∀ σ H Q', tE L (dLc3 ti vs vs1 vs2 g tt ti1 g1 tt1 ti2 g2 tt2 te) σ H Q' → tLc3 (tI L ti) gt (tT L tt) (tI L ti1) gt1 (tT L tt1) (tI L ti2) gt2 (tT L tt2) (tE L te) vs vs1 vs2 σ H Q' := by
  intro σ H Q' q
  obtain ⟨ρ, Q, r, q, fin⟩ := q
  refine ⟨ρ, _, r, q, fun J H1 ds ρ1 go r1 q1 it D hD => ?_⟩
  obtain ⟨G, Yy, wk, g0, gk, step⟩ := it
  have sD := same_new (o := .lst []) hD
  have d0 : L.H0 D = none := r1.same.free hD
  have rw1 : Rel L H1 (wipe σ vs) (wipeD ρ1 vs) := r1.wiped.move (wipe_length σ vs) (GB.wipe_out σ vs)
  have ap : Apart D (wipe σ vs) (wipeD ρ1 vs) := fun i ys e z => by
    obtain ⟨l', us', q1, q2, _⟩ := rw1.getW e
    rw [z] at q1; cases q1
    rw [hD] at q2; cases q2
  refine walk_lv (H1 := H1) (D := D) hg (db_mid hg1 (db_mid hg2 (db_in hD d0) (fun _ m => (nomatch m)) hD) h2 hD) h1 hD wk (gk _ _ (keep_of_same sD) g0) gk (fun i H2 x H3 hi k gg hy => step i H2 x H3 hi ((keep_of_same sD).tr k) gg hy) (noOwn_wiped ρ1) wipe_wipe (Go.sm sD) (rw1.go sD) ap ⟨[], upd_same, .nil⟩ q1 fun H2 acc k goi r2 hl ql => ?_
  obtain ⟨us, hDl, hb⟩ := hl
  have goF : Go σ ρ1 (wipeD ρ1 vs) H1 H2 := ⟨fun a o h n => goi.stay a o h fun j xs ej z => by
      obtain ⟨nj, ej'⟩ := own_in ej
      rw [GB.wipe_out σ vs j nj] at z
      exact n j xs ej' z, fun j xs ej => ⟨xs, (own_in ej).2⟩, goi.dom⟩
  exact fin (.ref D) H2 (.own acc) _ (go.tr goF) (r2.move (wipe_length σ vs).symm fun j hj => (GB.wipe_out σ vs j hj).symm) ⟨⟨D, us, rfl, hDl, hb, d0⟩, fun l e => by cases e; exact go.dom _ hD⟩ ql
end
end GB

namespace GB
open PySem PySem.Spec PyProof.Rows L2

/-! comprehensions of three clauses: as a row of a def; steps from without -/
section
variable {X : Cx} {L : Lay} {el tg it0 tg1 it1 tg2 it2 : Expr} {f0 f1 f2 : List Expr} {scope : Scope} {own : List (Str × Nat)} {vs1 vs2 : List Nat} {pos : Pos} {ti ti1 ti2 : TId} {g g1 g2 : DTG} {gt gt1 gt2 : TG} {tt tt1 tt2 : TTd} {te : TEd}
theorem ds_setLc3 {i : Nat} {y : Str} {py spos : Pos} (gd : Good X) (hy : X.N[i]? = some y) (hyl : X.env.scope.names.lookup y = some .local)
    (sw : swapsWith (.ListComp el [⟨tg, it0, f0, 0⟩, ⟨tg1, it1, f1, 0⟩, ⟨tg2, it2, f2, 0⟩] scope pos) (some (.Name y py)) spos.line X.env = pure true) (src : PI X tg it0 (tI L ti)) (ok : BlkOk X.N X.env.scope scope own)
    (v1 : ∀ i ∈ vs1, i ∈ own.map (·.2)) (v2 : ∀ i ∈ vs2, i ∈ vs1) (b0 : OfBlk X scope fun Y => PG Y tg gt) (o0 : GOwn L (own.map (·.2)) gt g) (c0 : OfBlk X scope fun Y => Good Y → PTs Y f0 (tT L tt))
    (a1 : OfBlk X scope fun Y => Good Y → PI Y tg1 it1 (tI L ti1)) (b1 : OfBlk X scope fun Y => PG Y tg1 gt1) (o1 : GOwn L vs1 gt1 g1) (c1 : OfBlk X scope fun Y => Good Y → PTs Y f1 (tT L tt1))
    (a2 : OfBlk X scope fun Y => Good Y → PI Y tg2 it2 (tI L ti2)) (b2 : OfBlk X scope fun Y => PG Y tg2 gt2) (o2 : GOwn L vs2 gt2 g2) (c2 : OfBlk X scope fun Y => Good Y → PTs Y f2 (tT L tt2))
    (lst : OfBlk X scope fun Y => Good Y → PE Y el (tE L te)) (n0 : ∀ x, foldedSetIterable it0 X.env x = pure x := by intro _; rfl) (n1 : ∀ env x, foldedSetIterable it1 env x = pure x := by intro _ _; rfl) (n2 : ∀ env x, foldedSetIterable it2 env x = pure x := by intro _ _; rfl) :
    PS X (.Assign [.Name y py] (.ListComp el [⟨tg, it0, f0, 0⟩, ⟨tg1, it1, f1, 0⟩, ⟨tg2, it2, f2, 0⟩] scope pos) spos) (tS L (dSet i (dLc3 ti (own.map (·.2)) vs1 vs2 g tt ti1 g1 tt1 ti2 g2 tt2 te))) := by
  have good : ∀ {s : Shared} {H : Hp} {C : Addr} {cl : List (Str × Addr)} {fp : List Addr}, Good (X.blk s H scope (compEnvC scope cl C X.env) fp) := ⟨gd.calm, gd.gd, gd.sys, gd.un, gd.nd⟩
  refine (ps_setLc3 gd.calm gd.nd hy hyl sw src ok v1 v2 b0 (fun s H C cl fp => c0 s H C cl fp good) (fun s H C cl fp => a1 s H C cl fp good) b1 (fun s H C cl fp => c1 s H C cl fp good) (fun s H C cl fp => a2 s H C cl fp good) b2 (fun s H C cl fp => c2 s H C cl fp good)
    (fun s H C cl fp => lst s H C cl fp good) n0 n1 n2).less fun D σ H q => ?_
  obtain ⟨ρ, De, r, q, m1, _⟩ := q
  exact lc3_read v1 v2 o0 o1 o2 _ _ _ ⟨ρ, _, r, q, fun v H' s ρ' go r' hv n => m1 _ _ _ (go.keep r) (r.set r' go hv) n⟩
end
section
variable {ti ti1 ti2 : TId} {vs vs1 vs2 : List Nat} {g g1 g2 : DTG} {tt tt1 tt2 : TTd} {te : TEd} {ρ : En} {db : DB} {K : List PyData → Prop} {acc ds : List PyData} {d : PyData}
theorem e_lc3 {Q : S → En → Prop} : dLc3 ti vs vs1 vs2 g tt ti1 g1 tt1 ti2 g2 tt2 te ρ Q ↔ ti ρ fun ds ρ1 => dGo vs g tt (dbMid ti1 vs1 g1 tt1 (dbMid ti2 vs2 g2 tt2 (dbIn te))) (wipeD ρ1 vs) (fun acc => Q (.own acc) (wipeD ρ1 vs)) ds [] := Iff.rfl
theorem e_gon : dGo vs g tt db ρ K [] acc ↔ K acc := Iff.rfl
theorem e_goc : dGo vs g tt db ρ K (d :: ds) acc ↔ g d ρ fun ρ2 => wipeD ρ2 vs = ρ ∧ tt ρ2 fun b ρ3 => ρ3 = ρ2 ∧ iteK b (db ρ2 (fun acc => dGo vs g tt db ρ K ds acc) acc) (dGo vs g tt db ρ K ds acc) := Iff.rfl
theorem e_dbMid : dbMid ti vs g tt db ρ K acc ↔ ti ρ fun ds ρ4 => ρ4 = ρ ∧ dGo vs g tt db (wipeD ρ vs) K ds acc := Iff.rfl
theorem e_dbIn : dbIn te ρ K acc ↔ te ρ fun s ρ4 => ρ4 = ρ ∧ oneK s fun y => acc.length < sizeLine ∧ K (acc ++ [y]) := Iff.rfl
end
end GB

namespace GB
open PySem PySem.Spec PyProof.Rows L2 SeqAt

/-! a tuple of anything beside the empty one -/
def fNeU : F2 := fun x y Q => ∃ xs, x = .tuple xs ∧ y = .tuple [] ∧ Q (.d (.bool (!xs.isEmpty)))
theorem f_neu {xs : List PyData} {k : S → Prop} : fNeU (.tuple xs) (.tuple []) k ↔ k (.d (.bool (!xs.isEmpty))) :=
  ⟨fun ⟨_, e, _, h⟩ => by cases e; exact h, fun h => ⟨xs, rfl, rfl, h⟩⟩
section
variable {X : Cx} {L : Lay}
theorem o_neu (hK : L.K = X.K) (g : Good X) : OpR X (compareOp .NotEq) (rD L fNeU) := by
  intro pins s σ H x y v u Q' I rx ry q
  obtain ⟨dx, dy, Q, bx, by_, ⟨xs, rfl, rfl, q⟩, fin⟩ := q
  obtain ⟨as, r1⟩ := Bk.reads hK I bx rx
  obtain ⟨bs, r2⟩ := Bk.reads hK I by_ ry
  cases r1 with
  | @tuple l o vs n _ as1 h1 h2 h3 h4 =>
    cases r2 with
    | @tuple l' o' vs' n' _ bs1 k1 k2 k3 k4 =>
      have n1 : vs.size = xs.length := by simpa using ReadsAll.length _ _ _ h4
      have n2 : vs'.size = 0 := by simpa using ReadsAll.length _ _ _ k4
      have e : (!((List.range (min vs.size vs'.size)).all (fun _ => true) && vs.size == vs'.size)) = !xs.isEmpty := by
        rw [n2, n1]
        cases xs <;> simp
      refine RcNeAt.tuples (e := fun _ => true) ⟨_, h1, h2, _, h3⟩ ⟨_, k1, k2, _, k3⟩ (by have := g.un; omega) (fun j j1 j2 => absurd j2 (by omega)) X.prog X.w _ _ ?_
      rw [e]
      exact ⟨.bl _, H, I, rfl, fin _ H _ (Same.refl H) (nr_d (.bl _)) q⟩
end
end GB

namespace GB
open PySem PySem.Spec PyProof.Rows L2 SeqAt

/-! texts and tuples beside tables: never equal -/
theorem tup_no_dict (l b : Addr) (vs : Array Value) (n m : Nat) (es : Array DictEntry) (d1 d2 : Option Addr) (z1 z2 : Array (Option Value)) :
    Meets (Builtin.«tuple.__eq__» ⟨[.ref l, .ref b], []⟩) (fun _ R s => s.heap.get? l = some { cls := .type "tuple", dict := d1, data := .seq vs n, slots := z1 } ∧ s.heap.get? b = some { cls := .type "dict", dict := d2, data := .dict es m, slots := z2 } ∧ R (.ok (.ret .notImplemented)) s) :=
  .of_wp fun prog w A R s h => by obtain ⟨hp, g, d, tk, os⟩ := s; obtain ⟨hl, hb, h⟩ := h; have f1 := F.sub_dict_tuple; wp_walk using wpAny_loadPart' hl, wpAny_loadPart' hb; exact ⟨_, rfl, h⟩
theorem dict_no_tup (l b : Addr) (vs : Array Value) (n m : Nat) (es : Array DictEntry) (d1 d2 : Option Addr) (z1 z2 : Array (Option Value)) :
    Meets (Builtin.«dict.__eq__» ⟨[.ref b, .ref l], []⟩) (fun _ R s => s.heap.get? l = some { cls := .type "tuple", dict := d1, data := .seq vs n, slots := z1 } ∧ s.heap.get? b = some { cls := .type "dict", dict := d2, data := .dict es m, slots := z2 } ∧ R (.ok (.ret .notImplemented)) s) :=
  .of_wp fun prog w A R s h => by obtain ⟨hp, g, d, tk, os⟩ := s; obtain ⟨hl, hb, h⟩ := h; have f1 := F.sub_tuple_dict; wp_walk using wpAny_loadPart' hl, wpAny_loadPart' hb; exact ⟨_, rfl, h⟩
theorem str_no_dict (x : Str) (t : Tok) (b : Addr) (m : Nat) (es : Array DictEntry) (d2 : Option Addr) (z2 : Array (Option Value)) :
    Meets (Builtin.«str.__eq__» ⟨[.str x t, .ref b], []⟩) (fun _ R s => s.heap.get? b = some { cls := .type "dict", dict := d2, data := .dict es m, slots := z2 } ∧ R (.ok (.ret .notImplemented)) s) :=
  .of_wp fun prog w A R s h => by obtain ⟨hp, g, d, tk, os⟩ := s; obtain ⟨hb, h⟩ := h; wp_walk using wpAny_loadPart' hb, wpAny_load hb; exact ⟨_, rfl, h⟩
theorem dict_no_str (x : Str) (t : Tok) (b : Addr) (m : Nat) (es : Array DictEntry) (d2 : Option Addr) (z2 : Array (Option Value)) :
    Meets (Builtin.«dict.__eq__» ⟨[.ref b, .str x t], []⟩) (fun _ R s => s.heap.get? b = some { cls := .type "dict", dict := d2, data := .dict es m, slots := z2 } ∧ R (.ok (.ret .notImplemented)) s) :=
  .of_wp fun prog w A R s h => by obtain ⟨hp, g, d, tk, os⟩ := s; obtain ⟨hb, h⟩ := h; have f1 := F.sub_str_dict; wp_walk using wpAny_loadPart' hb, wpAny_load hb; exact ⟨_, rfl, h⟩
end GB

namespace GB
open PySem PySem.Spec PyProof.Rows L2 SeqAt

/-! plain things beside anything -/
def IsTab (h : Heap) (b : Addr) : Prop := ∃ o es n, h.get? b = some o ∧ o.cls = .type "dict" ∧ o.data = .dict es n
section
variable {A : Around} {s : Shared}
theorem ne_tab {l b : Addr} {vs : Array Value} (hl : s.heap.IsTuple l vs) (hb : IsTab s.heap b) : l ≠ b := fun e => by
  subst e
  obtain ⟨o, ho, hc, _⟩ := hl
  obtain ⟨o2, _, _, ho2, hc2, _⟩ := hb
  rw [ho] at ho2; cases ho2
  rw [hc] at hc2; exact absurd hc2 (by simp)
theorem rc_tup_tab {l b : Addr} {vs : Array Value} (hl : s.heap.IsTuple l vs) (hb : IsTab s.heap b) (hu : A.units < cLine) : RcAt A s (.ref l) (.ref b) false := fun prog w E Q h => by
  have hne := ne_tab hl hb
  obtain ⟨⟨cls, dd, data, sl⟩, ho, hc, n, hd⟩ := id hl
  obtain ⟨⟨cls2, dd2, data2, sl2⟩, es, m, ho2, hc2, hd2⟩ := id hb
  simp only at hc hd hc2 hd2
  subst hc hd hc2 hd2
  exact (rc_eq_decline_or (k := false) ⟨_, ho, rfl⟩ ⟨_, ho2, rfl⟩ (by decide) F.sub_dict_tuple F.slot_tuple_eq F.slot_dict_eq_refl
    (fun _ hq => call_meets F.slot_tuple_eq ⟨_, ho, rfl⟩ F.entry_tuple_eq (F.args_tuple_eq_2 _ _) (tup_no_dict l b vs n m es dd dd2 sl sl2) ⟨ho, ho2, hq⟩)
    (fun _ hq => call_meets F.slot_dict_eq_refl ⟨_, ho2, rfl⟩ F.entry_dict_eq (F.args_dict_eq_2 _ _) (dict_no_tup l b vs n m es dd dd2 sl sl2) ⟨ho, ho2, hq⟩)
    (fun _ hq => wpAny_isSame_ref_other' hne ho ho2 (by simp) hq) (.inr hu) h)
theorem rc_str_tab {x : Str} {t : Tok} {b : Addr} (hb : IsTab s.heap b) (hu : A.units < cLine) : RcAt A s (.str x t) (.ref b) false := fun prog w E Q h => by
  obtain ⟨⟨cls2, dd2, data2, sl2⟩, es, m, ho2, hc2, hd2⟩ := id hb
  simp only at hc2 hd2
  subst hc2 hd2
  exact (rc_eq_decline_or (k := false) (typeIs_str s x t) ⟨_, ho2, rfl⟩ (by decide) F.sub_dict_str F.slot_str_eq F.slot_dict_eq_refl
    (fun _ hq => call_meets F.slot_str_eq (typeIs_str s x t) F.entry_str_eq (F.args_str_eq_2 _ _) (str_no_dict x t b m es dd2 sl2) ⟨ho2, hq⟩)
    (fun _ hq => call_meets F.slot_dict_eq_refl ⟨_, ho2, rfl⟩ F.entry_dict_eq (F.args_dict_eq_2 _ _) (dict_no_str x t b m es dd2 sl2) ⟨ho2, hq⟩)
    (fun _ hq => wpAny_of_eq (rfl : isSame (.str x t) (.ref b) = pure false) hq) (.inr hu) h)
theorem eq_str_tab {x : Str} {t : Tok} {b : Addr} (hb : IsTab s.heap b) (hu : A.units < cLine) : EqAt A s (.str x t) (.ref b) false := fun prog w E Q h => by
  unfold eqBool
  refine wpAny_holding (wpAny_ite_split (fun hab => absurd (eq_of_beq hab) nofun) fun _ => ?_)
  exact wpAny_bind (rc_str_tab hb hu prog w E _ (wpAny_truthy_bool h))
def strB : PyData → Bool
  | .str _ => true
  | _ => false
def plainB : PyData → Bool
  | .str _ => true
  | .tuple zs => zs.all strB
  | _ => false
theorem eq_str_any {x : Str} {t : Tok} {u : Value} {d : PyData} {as : List Addr} (r : Reads s.heap u d as) (hu : A.units < cLine) : EqAt A s (.str x t) u (PyData.eqv (.str x) d) := by
  cases r with
  | none => exact EqAt.str_none x t
  | bool y => exact EqAt.str_bool x t y
  | int y u => exact EqAt.str_int x t y u
  | str y u => exact EqAt.str_str x t y u
  | list k1 k2 k3 k4 => exact EqAt.str_list x t ⟨_, k1, k2, _, k3⟩ hu
  | tuple k1 k2 k3 k4 => exact EqAt.str_tuple x t ⟨_, k1, k2, _, k3⟩ hu
  | dict k1 k2 k3 k4 k5 => exact eq_str_tab ⟨_, _, _, k1, k2, k3⟩ hu
theorem strs_any : ∀ (xs ys : List PyData) (vs ws : List Value) (as bs : List Addr), xs.all strB = true → ReadsAll s.heap vs xs as → ReadsAll s.heap ws ys bs → A.units < cLine → ∀ j (h1 : j < vs.length) (h2 : j < ws.length), EqAt A s vs[j] ws[j] (pairEq xs ys j)
  | [], _, _, _, _, _, _, ra, _, _, j, h1, _ => by cases ra; exact absurd h1 (Nat.not_lt_zero _)
  | _ :: _, [], _, _, _, _, _, _, rb, _, j, _, h2 => by cases rb; exact absurd h2 (Nat.not_lt_zero _)
  | x :: xs, y :: ys, _, _, _, _, h, ra, rb, hu, j, h1, h2 => by
    rw [List.all_cons, Bool.and_eq_true] at h
    cases ra with
    | cons r rs =>
      cases rb with
      | cons r' rs' =>
        cases j with
        | zero =>
          cases x with
          | str z =>
            cases r with
            | str _ t => exact eq_str_any r' hu
          | _ => exact absurd h.1 (by simp [strB])
        | succ j => exact strs_any xs ys _ _ _ _ h.2 rs rs' hu j (by simpa using h1) (by simpa using h2)
theorem strs_lay : ∀ {xs : List PyData}, xs.all strB = true → (xs.all fun z => z.canLay0) = true → PyData.canLayAll0 xs = true
  | [], _, _ => rfl
  | x :: xs, h, h' => by
    rw [List.all_cons, Bool.and_eq_true] at h h'
    simp [PyData.canLayAll0, h'.1, strs_lay h.2 h'.2]
theorem eq_plain_any {z d : PyData} {v u : Value} {as bs : List Addr} (hp : plainB z = true) (hl : z.canLay0 = true) (ra : Reads s.heap v z as) (rb : Reads s.heap u d bs) (hu : A.in1.units < cLine) (hu0 : A.units < cLine) : EqAt A s v u (PyData.eqv z d) := by
  cases ra with
  | str x t => exact eq_str_any rb hu0
  | @tuple l o vs n xs as1 h1 h2 h3 h4 =>
    have ht : s.heap.IsTuple l vs := ⟨_, h1, h2, _, h3⟩
    cases rb with
    | none => exact EqAt.tuple_none ht hu0
    | bool y => exact EqAt.tuple_bool y ht hu0
    | int y u => exact EqAt.tuple_int y u ht hu0
    | str y u => exact EqAt.tuple_str y u ht hu0
    | list k1 k2 k3 k4 => exact EqAt.tuple_list ht ⟨_, k1, k2, _, k3⟩ hu0
    | dict k1 k2 k3 k4 k5 => exact EqAt.of_refs (ne_tab ht ⟨_, _, _, k1, k2, k3⟩) (rc_tup_tab ht ⟨_, _, _, k1, k2, k3⟩ hu0)
    | @tuple l' o' vs' n' ys bs1 k1 k2 k3 k4 =>
      have ht' : s.heap.IsTuple l' vs' := ⟨_, k1, k2, _, k3⟩
      have n1 : vs.size = xs.length := by simpa using ReadsAll.length _ _ _ h4
      have n2 : vs'.size = ys.length := by simpa using ReadsAll.length _ _ _ k4
      show EqAt A s (.ref l) (.ref l') (PyData.eqvAll xs ys)
      by_cases hll : l = l'
      · subst hll
        have e : PyData.tuple xs = PyData.tuple ys := Reads.unique (.tuple xs) (.tuple ys) _ _ _ hl (.tuple h1 h2 h3 h4) (.tuple k1 k2 k3 k4)
        injection e with e
        subst e
        rw [eqvAll_refl xs hl]
        exact EqAt.same _
      · rw [← eqvAll_eq xs ys, ← n1, ← n2]
        refine EqAt.of_refs hll (RcAt.tuples ht ht' hu0 fun j j1 j2 => ?_)
        have := strs_any (A := A.in1) xs ys vs.toList vs'.toList _ _ hp h4 k4 hu j (by simpa using j1) (by simpa using j2)
        simpa using this
  | _ => exact absurd hp (by simp [plainB])
end
/-- x in c, c a tuple of plain things, x anything -/
def plains (zs : List PyData) : Bool := zs.all fun z => plainB z && z.canLay0
def fInP : F2 := fun x c Q => ∃ zs, c = .tuple zs ∧ plains zs = true ∧ Q (.d (.bool (zs.any fun z => PyData.eqv z x)))
def fNotInP : F2 := fun x c Q => ∃ zs, c = .tuple zs ∧ plains zs = true ∧ Q (.d (.bool (!zs.any fun z => PyData.eqv z x)))
def fGeS : F2 := fun x y Q => ∃ a b, x = .str a ∧ y = .str b ∧ Q (.d (.bool (!PySem.W.dataLt (.str a) (.str b))))
theorem f_inP {x : PyData} {zs : List PyData} {k : S → Prop} : fInP x (.tuple zs) k ↔ plains zs = true ∧ k (.d (.bool (zs.any fun z => PyData.eqv z x))) :=
  ⟨fun ⟨_, e, h⟩ => by cases e; exact h, fun h => ⟨_, rfl, h⟩⟩
theorem f_notInP {x : PyData} {zs : List PyData} {k : S → Prop} : fNotInP x (.tuple zs) k ↔ plains zs = true ∧ k (.d (.bool (!zs.any fun z => PyData.eqv z x))) :=
  ⟨fun ⟨_, e, h⟩ => by cases e; exact h, fun h => ⟨_, rfl, h⟩⟩
theorem f_geS {a b : Str} {k : S → Prop} : fGeS (.str a) (.str b) k ↔ k (.d (.bool (!PySem.W.dataLt (.str a) (.str b)))) :=
  ⟨fun ⟨_, _, e1, e2, h⟩ => by cases e1; cases e2; exact h, fun h => ⟨_, _, rfl, rfl, h⟩⟩
theorem plains_lay : ∀ {zs : List PyData}, plains zs = true → PyData.canLayAll0 zs = true
  | [], _ => rfl
  | z :: zs, h => by
    unfold plains at h
    rw [List.all_cons, Bool.and_eq_true, Bool.and_eq_true] at h
    simp [PyData.canLayAll0, h.1.2, plains_lay (zs := zs) h.2]
theorem plains_mem {h : Heap} : ∀ {zs : List PyData} {vs : List Value} {as : List Addr}, plains zs = true → ReadsAll h vs zs as → ∀ y ∈ vs, ∃ z bs, Reads h y z bs ∧ plainB z = true ∧ z.canLay0 = true
  | [], _, _, _, r, y, hy => by cases r; cases hy
  | z :: zs, _, _, h, r, y, hy => by
    unfold plains at h
    rw [List.all_cons, Bool.and_eq_true, Bool.and_eq_true] at h
    cases r with
    | cons r rs =>
      rcases List.mem_cons.mp hy with rfl | hy
      · exact ⟨z, _, r, h.1.1, h.1.2⟩
      · exact plains_mem h.2 rs y hy
section
variable {X : Cx} {L : Lay}
theorem in_plain (hK : L.K = X.K) (g : Good X) {pins : List (Addr × Obj)} {s : Shared} {σ : L2.St} {H : Hp} {x y : V} {v u : Value} {dx : PyData} {zs : List PyData} (I : L2.Inv X pins σ H s) (rx : L2.RelV x v) (ry : L2.RelV y u) (bx : Bk L H x dx) (by_ : Bk L H y (.tuple zs)) (hz : plains zs = true)
    {E Q : Value → Shared → Prop} : (Q (.bool (zs.any fun z => PyData.eqv z dx)) s → wpAny (model X.prog X.w) X.A (compareOp .In v u) Q E s) ∧ (Q (.bool (!zs.any fun z => PyData.eqv z dx)) s → wpAny (model X.prog X.w) X.A (compareOp .NotIn v u) Q E s) := by
  obtain ⟨as, r1⟩ := Bk.reads hK I bx rx
  obtain ⟨bs, r2⟩ := Bk.reads hK I by_ ry
  have un := g.un
  cases r2 with
  | @tuple l o vs n _ as1 h1 h2 h3 h4 =>
    have each : ∀ y, y ∈ vs → EqAt X.A.in1 s y v (PyData.eqv (readOf s.heap y) dx) := fun y hy => by
      obtain ⟨z, cs, rz, p1, p2⟩ := plains_mem hz h4 y (by simpa using hy)
      rw [readOf_eq p2 rz]
      exact eq_plain_any p1 p2 rz r1 (by show X.A.units + 1 + 1 < cLine; omega) (by show X.A.units + 1 < cLine; omega)
    have e := any_by_data (vs := vs) (d := dx) h4 (plains_lay hz)
    exact ⟨fun h => in_tupleAt _ ⟨_, h1, h2, _, h3⟩ each (by rw [e]; exact h), fun h => notIn_tupleAt _ ⟨_, h1, h2, _, h3⟩ each (by rw [e]; exact h)⟩
theorem o_inP (hK : L.K = X.K) (g : Good X) : OpR X (compareOp .In) (rD L fInP) := by
  intro pins s σ H x y v u Q' I rx ry q
  obtain ⟨dx, dy, Q, bx, by_, ⟨zs, rfl, hz, q⟩, fin⟩ := q
  exact (in_plain hK g I rx ry bx by_ hz).1 ⟨.bl _, H, I, rfl, fin _ H _ (Same.refl H) (nr_d (.bl _)) q⟩
theorem o_notInP (hK : L.K = X.K) (g : Good X) : OpR X (compareOp .NotIn) (rD L fNotInP) := by
  intro pins s σ H x y v u Q' I rx ry q
  obtain ⟨dx, dy, Q, bx, by_, ⟨zs, rfl, hz, q⟩, fin⟩ := q
  exact (in_plain hK g I rx ry bx by_ hz).2 ⟨.bl _, H, I, rfl, fin _ H _ (Same.refl H) (nr_d (.bl _)) q⟩
theorem o_geS (hK : L.K = X.K) (g : Good X) : OpR X (compareOp .GtE) (rD L fGeS) := by
  intro pins s σ H x y v u Q' I rx ry q
  obtain ⟨dx, dy, Q, bx, by_, ⟨a, b, rfl, rfl, q⟩, fin⟩ := q
  obtain ⟨as, r1⟩ := Bk.reads hK I bx rx
  obtain ⟨bs, r2⟩ := Bk.reads hK I by_ ry
  exact PySem.W.ge_data r1 r2 rfl (by simp) (by have := g.un; simp only [PyData.depth]; omega) ⟨.bl _, H, I, rfl, fin _ H _ (Same.refl H) (nr_d (.bl _)) q⟩
end
end GB

set_option maxRecDepth 100000
namespace GB
open PySem PySem.Spec PyProof.Rows L2
/-! a dict of the top, texts to ints -/
def dDct (d : List (Str × Int)) (t : TEd) : TEd := fun ρ Q => t ρ fun s ρ1 => ∃ z n, s = .d (.str z) ∧ d.lookup z = some n ∧ Q (.d (.int n)) ρ1
def DctOk (K : PySem.W.Frag) (w : World) (a : Addr) (d : List (Str × Int)) : Prop := ∀ z n, d.lookup z = some n → KDct K w a z (.int n)
theorem de_dct {X : Cx} {L : Lay} {x : Str} {a : Addr} {d : List (Str × Int)} {t : TEd} {b : Expr} {p pos : Pos} (hg : Gl X x) (hm : X.mg x = some (.ref a)) (T : DctOk X.K X.w a d) (hb : PE X b (tE L t)) (hs : PlainIx b)
    (hd : (x == ("__debug__" : Str)) = false := by decide) : PE X (.Subscript (.Name x p) b pos) (tE L (dDct d t)) :=
  (pe_ix ix_kdict (pe_glob (v := .ref a) hg hm rfl hd) hb hs).less fun σ H Q' h => by
    obtain ⟨ρ, Q, r, q, fin⟩ := h
    refine (show tE L t σ H _ from ⟨ρ, _, r, q, fun u H2 s2 ρ2 k2 r2 hu q2 => ?_⟩)
    obtain ⟨z, n, rfl, e, q3⟩ := q2
    have hu : Br L.K H2 u (.str z) := hu
    cases hu
    exact ⟨a, z, .int n, rfl, rfl, T z n e, fin _ H2 (.d (.int n)) ρ2 k2 r2 (.int n) q3⟩
theorem dctOk_nil {K : PySem.W.Frag} {w : World} {a : Addr} : DctOk K w a [] := fun _ _ h => by cases h
theorem dctOk_cons {K : PySem.W.Frag} {w : World} {a : Addr} {k : Str} {i : Int} {d : List (Str × Int)} (h : KDct K w a k (.int i)) (r : DctOk K w a d) : DctOk K w a ((k, i) :: d) := fun z n e => by
  rw [List.lookup_cons] at e
  split at e
  · rename_i q
    cases e
    rw [eq_of_beq q]; exact h
  · exact r z n e
end GB

set_option maxRecDepth 100000
set_option maxHeartbeats 1000000
namespace GB
open PySem PySem.Spec PyProof.Rows L2 SrtO Srt
/-! sorted of texts, of a tuple or a list -/
section
variable {prog : Program} {w : World} {A : Around} {E : Value → Shared → Prop} {s : Shared}
def ltSv (v u : Value) : Bool := decide ((strOf v).cps.toList < (strOf u).cps.toList)
theorem swo_str : Swo ltSv := by
  refine ⟨fun x y h => ?_, fun x y z h1 h2 => ?_⟩
  · exact decide_eq_false (List.lt_asymm (of_decide_eq_true h))
  · have a := of_decide_eq_false h1
    have b := of_decide_eq_false h2
    exact decide_eq_false (fun c => (List.le_trans (List.not_lt.mp a) (List.not_lt.mp b)) c)
theorem str_cmp {vs : List Value} {ss : List Str} (hS : StrsAre vs ss) : Cmp prog w A s oneType' (fun p => p.1 ∈ vs) (lt2 ltSv) := by
  intro p q hm hm'
  obtain ⟨a, t, e⟩ := hS.all _ hm
  obtain ⟨b, u, e'⟩ := hS.all _ hm'
  show wpAny (model prog w) A (keyLt' oneType' p.1 q.1) (fun r s' => s' = s ∧ r = ltSv p.1 q.1) (fun _ _ => False) s
  rw [e, e', keyLt'_oneType]
  exact oneLt_str ⟨rfl, rfl⟩
theorem strs_sortable {a : Addr} {vs : List Value} {ss : List Str} (hS : StrsAre vs ss) (h2 : 2 ≤ vs.length) : SortableO prog w A s a vs ltSv := by
  intro h' _
  refine ⟨oneType', fun Q E hq => ?_, str_cmp hS⟩
  match vs, hS, h2 with
  | v1 :: v2 :: rest, hS, _ =>
    rw [keyKind_strs hS]
    exact wpAny_pure hq
  | [], _, h => exact absurd h (by decide)
  | [v], _, h => exact absurd h (by simp)
theorem collect_sq {l : Addr} {T : String} {o : Obj} {n : Nat} {vs : List Value} {Q : List Value → Shared → Prop} (hT : T = "list" ∨ T = "tuple") (ho : s.heap.get? l = some o) (hc : o.cls = .type T) (hd : o.data = .seq vs.toArray n)
    (h : Q vs { s with heap := (s.heap.push (seqObj "list" #[] 0)).update s.heap.objs.size (Obj.mapSeq (· ++ vs.toArray)) }) (hsz : vs.length ≤ sizeLine) :
    wpAny (model prog w) A (collect (.ref l)) Q E s := by
  unfold collect
  refine wpAny_bind (wpAny_runValue (codeAny_builtin entry_proto_collect' ?_))
  show wpAny _ _ (do again (.builtin "list.__iadd__" ⟨[← newList [], .ref l], []⟩)) _ _ s
  refine wpAny_bind (wpAny_newList (wpAny_pure ⟨Code.quiet_builtin _ (by decide +kernel), codeAny_builtin entry_list_iadd' ?_⟩))
  show wpAny _ _ (Builtin.List.listExtendWith (.ref s.heap.objs.size) (.ref l) (.ref s.heap.objs.size)) _ _ { s with heap := s.heap.push (seqObj "list" #[] 0) }
  unfold Builtin.List.listExtendWith
  have ho' : (s.heap.push (seqObj "list" #[] 0)).get? l = some o := Heap.get?_push_of_some _ ho
  refine wpAny_bind (wpAny_typeOf (T := T) ⟨o, ho', hc⟩ ?_)
  have ht1 : (Value.type "list" == Value.type "list") = true := by rfl
  have ht2 : (Value.type "tuple" == Value.type "tuple") = true := by rfl
  rw [if_pos (by rcases hT with rfl | rfl <;> simp [ht1, ht2])]
  refine wpAny_bind (listItems_at ho' hd ?_)
  refine wpAny_bind (listItems_at (xs := #[]) (n := 0) (Heap.get?_push_size _ rfl) rfl ?_)
  rw [if_neg (by simp)]
  refine wpAny_bind (listUpdate_at (xs := #[]) (n := 0) (Heap.get?_push_size _ rfl) rfl ?_ (Nat.zero_le _) (by show (#[] ++ vs.toArray).size ≤ sizeLine + 1; simp only [Array.size_append, List.size_toArray, List.length_nil]; omega))
  refine wpAny_pure ?_
  show wpAny (model prog w) A (do
      let o ← load s.heap.objs.size
      match o.data with
      | .seq xs _ => pure xs.toList
      | _ => unsupported "internal:collect") Q E { s with heap := (s.heap.push (seqObj "list" #[] 0)).update s.heap.objs.size (Obj.mapSeq (· ++ vs.toArray)) }
  refine wpAny_bind (wpAny_load (get?_update_seq (Heap.get?_push_size _ rfl) _) ?_)
  show wpAny _ _ (pure ((#[] : Array Value) ++ vs.toArray).toList) Q E _
  rw [show ((#[] : Array Value) ++ vs.toArray).toList = vs by simp]
  exact wpAny_pure h
theorem sorted_sq {l : Addr} {T : String} {o : Obj} {n : Nat} {vs : List Value} {ltv : Value → Value → Bool} {Q : Value → Shared → Prop} (O : Swo ltv) (hT : T = "list" ∨ T = "tuple") (ho : s.heap.get? l = some o) (hc : o.cls = .type T) (hd : o.data = .seq vs.toArray n) (hz : vs.length ≤ sizeLine)
    (hS : 2 ≤ vs.length → ∀ (h₁ : Heap) (a : Addr), SortableO prog w A.in1.in1 { s with heap := h₁ } a vs ltv)
    (h : ∀ out : List Value, Srtd ltv out → Stb ltv out vs → Q (.ref (s.heap.objs.size + 1)) { s with heap := sortedAll s.heap vs out.toArray }) :
    wpAny (model prog w) A (call (.builtin "sorted") [.ref l]) Q E s := by
  refine Calls.call_function_entry kind_sorted plain_sorted entry_sorted (args_sorted1 _) ?_
  unfold Builtin.«sorted»
  refine wpAny_bind (m := checkCount "sorted" 1 1 _) (wpAny_pure ?_)
  refine wpAny_bind (collect_sq hT ho hc hd ?_ hz)
  refine wpAny_bind (wpAny_newList ?_ hz)
  have hsz : ((s.heap.push (seqObj "list" #[] 0)).update s.heap.objs.size (Obj.mapSeq (· ++ vs.toArray))).objs.size = s.heap.objs.size + 1 := by
    rw [Heap.size_update, size_push']
  have hoL : (((s.heap.push (seqObj "list" #[] 0)).update s.heap.objs.size (Obj.mapSeq (· ++ vs.toArray))).push (seqObj "list" vs.toArray 0)).get? (s.heap.objs.size + 1) = some (seqObj "list" vs.toArray 0) := by
    rw [← hsz]; exact Heap.get?_push_size _ rfl
  show wpAny _ _ _ _ _ { s with heap := ((s.heap.push (seqObj "list" #[] 0)).update s.heap.objs.size (Obj.mapSeq (· ++ vs.toArray))).push (seqObj "list" vs.toArray 0) }
  rw [hsz]
  refine wpAny_bind (wpAny_holding (wpAny_call_entry slot_list_sort ⟨_, hoL, rfl⟩ entry_list_sort (list_sort_ord O hoL hz (fun h2 => hS h2 _ _) fun out hs hb => ⟨_, rfl, ?_⟩) (args_list_sort _)))
  exact wpAny_pure ⟨_, rfl, h out hs hb⟩
end
def strLe (x y : Str) : Prop := ¬ (y.cps.toList < x.cps.toList)
instance (x y : Str) : Decidable (strLe x y) := by unfold strLe; infer_instance
theorem strLe_anti {x y : Str} (h1 : strLe x y) (h2 : strLe y x) : x = y := by
  have e : x.cps.toList = y.cps.toList := List.le_antisymm (List.not_lt.mp h1) (List.not_lt.mp h2)
  cases x; cases y; simp at e; simp [e]
theorem sorted_one {l m n : List Str} (h1 : l.Perm n) (h2 : m.Perm n) (p1 : l.Pairwise strLe) (p2 : m.Pairwise strLe) : l = m :=
  List.Perm.eq_of_pairwise (fun _ _ _ _ a b => strLe_anti a b) p1 p2 (h1.trans h2.symm)
def fSortS : FN := fun xs Q => ∃ ss tt : List Str, (xs = [.tuple (ss.map .str)] ∨ xs = [.list (ss.map .str)]) ∧ tt.Perm ss ∧ tt.Pairwise strLe ∧ Q (.own (tt.map .str))
theorem br_strs {K : PySem.W.Frag} {H : Hp} : ∀ {ns : List Str} {vs : List V}, BrA K H vs (ns.map PyData.str) → vs = ns.map V.str
  | [], _, h => by cases h; rfl
  | n :: ns, _, h => by
    cases h with
    | cons h1 h2 => cases h1; rw [br_strs h2]; rfl
theorem strs_br {K : PySem.W.Frag} {H : Hp} : ∀ ns : List Str, BrA K H (ns.map V.str) (ns.map PyData.str)
  | [] => .nil
  | _ :: ns => .cons (.str _) (strs_br ns)
theorem vals_strsAre : ∀ {ss : List Str} {vs : List Value}, Vals (ss.map V.str) vs → StrsAre vs ss
  | [], _, h => by cases h; exact .nil
  | _ :: _, _, h => by
    cases h with
    | cons r h2 => obtain ⟨t, rfl⟩ := r; exact .cons _ t (vals_strsAre h2)
theorem strsAre_vals : ∀ {ss : List Str} {vs : List Value}, StrsAre vs ss → Vals (ss.map V.str) vs
  | _, _, .nil => .nil
  | _, _, .cons x t h => .cons ⟨t, rfl⟩ (strsAre_vals h)
theorem c_sortedS {X : Cx} {L : Lay} (hK : L.K = X.K) : CallR X (.builtin "sorted") (rN L fSortS) := by
  intro pins s σ H vs us Q' I r q
  obtain ⟨xs, Q, b, ⟨ss, tt, hx, hp, ho, q⟩, fin⟩ := q
  have go : ∀ (a : Addr) (T : String) (its : List Value) (o : Obj) (n : Nat), T = "list" ∨ T = "tuple" → s.heap.get? a = some o → o.cls = .type T → o.data = .seq its.toArray n → Vals (ss.map V.str) its → (ss.map V.str).length ≤ sizeLine →
      wpAny (model X.prog X.w) X.A (call (.builtin "sorted") [.ref a]) (EP X pins σ Q') X.xe s := by
    intro a T its o n hT h1 h2 h3 rv hz
    have hS := vals_strsAre rv
    refine sorted_sq swo_str hT h1 h2 h3 (by rw [← rv.length]; exact hz) (fun h2 h₁ a' => strs_sortable hS h2) fun out k1 k2 => ?_
    have hO : StrsAre out (out.map strOf) := strsAre_map out fun v hv => hS.all v (k2.perm.mem_iff.mp hv)
    have hP : (out.map strOf).Perm ss := by
      have q := k2.perm.map strOf
      rw [hS.strs] at q; exact q
    have hW : (out.map strOf).Pairwise strLe := List.pairwise_map.mpr (k1.imp fun {x y} h => of_decide_eq_false h)
    have e := sorted_one hP hp hW ho
    rw [e] at hO
    obtain ⟨ep, he'⟩ := PyProof.Rows.sortedAll_at s.heap its out.toArray
    have hlen : (tt.map V.str).length ≤ sizeLine := by
      rw [List.length_map, hp.length_eq]
      rw [List.length_map] at hz
      exact hz
    refine ⟨.ref _, upd H (s.heap.objs.size + 1) (.lst (tt.map V.str)), I.laid (t' := s.toks) (fun _ _ => PyProof.Rows.sortedAll_old) (Nat.le_succ _) ⟨hlen, out, ep, strsAre_vals hO, he'⟩, rfl, ?_⟩
    have hl := I.hok.fresh (Nat.le_succ s.heap.objs.size)
    exact fin _ _ (.own _) (same_new hl) ⟨_, _, rfl, hl, upd_same, strs_br tt⟩ q
  rcases hx with rfl | rfl
  · obtain ⟨v, rfl, b1⟩ := brA1 hK b
    have b1 : Br X.K H v (.tuple (ss.map .str)) := hK ▸ b1
    cases b1 with
    | tup h1 h3 =>
      obtain rfl := br_strs h3
      obtain ⟨its, rv, ⟨o, e1, e2, n, e3⟩, hz⟩ := I.tuple h1.sq
      rw [Vals.ref1 r]
      exact go _ _ its o n (.inr rfl) e1 e2 e3 rv hz
  · obtain ⟨v, rfl, b1⟩ := brA1 hK b
    obtain ⟨a, ws, rfl, h1, h3⟩ := list_sq hK b1
    obtain rfl := br_strs h3
    obtain ⟨its, rv, ⟨o, n, e1, e2, _, e3⟩, hz⟩ := I.list h1
    rw [Vals.ref1 r]
    exact go _ _ its o n (.inl rfl) e1 e2 e3 rv hz
end GB

set_option maxRecDepth 100000
namespace GB
open PySem PySem.Spec PyProof.Rows L2
/-! the truth of a tuple -/
def dTu (t : TEd) : TTd := fun ρ Q => t ρ fun s ρ1 => ∃ xs, s = .d (.tuple xs) ∧ Q (!xs.isEmpty) ρ1
theorem dt_tu {X : Cx} {L : Lay} {e : Expr} {t : TEd} (hK : L.K = X.K) (h : PE X e (tE L t)) (he : ∀ whole, isTrue e X.env whole = (do let v ← whole; standAt e.pos; holding [v] (truthy v)) := by intro _; rfl) : PT X e (tT L (dTu t)) :=
  (pt_truth h he).less fun σ H Q' h => by
    obtain ⟨ρ, Q, r0, q, fin⟩ := h
    refine (show tE L t σ H _ from ⟨ρ, _, r0, q, fun v H1 s ρ1 k1 r1 hv q1 => ?_⟩)
    obtain ⟨xs, rfl, q2⟩ := q1
    have hv : Br L.K H1 v (.tuple xs) := hv
    cases hv with
    | @tup a vs _ h1 h3 =>
      have e : vs.isEmpty = xs.isEmpty := by
        have := h3.len
        cases vs <;> cases xs <;> first | rfl | simp at this
      refine ⟨!vs.isEmpty, .inr (.inl ⟨vs, hK ▸ h1, rfl⟩), ?_⟩
      rw [e]
      exact fin _ H1 ρ1 k1 r1 q2
end GB

set_option maxRecDepth 100000
namespace GB
open PySem PySem.Spec PyProof.Rows L2
/-! any, of a list of bools -/
def fAny : FN := fun xs Q => ∃ bs : List Bool, xs = [.list (bs.map .bool)] ∧ Q (.d (.bool (bs.any id)))
theorem br_bls {K : PySem.W.Frag} {H : Hp} : ∀ {bs : List Bool} {vs : List V}, BrA K H vs (bs.map PyData.bool) → vs = bs.map V.bl
  | [], _, h => by cases h; rfl
  | n :: ns, _, h => by
    cases h with
    | cons h1 h2 => cases h1; rw [br_bls h2]; rfl
theorem c_any {X : Cx} {L : Lay} (hK : L.K = X.K) (gd : Good X) : CallR X (.builtin "any") (rN L fAny) := by
  intro pins s σ H vs us Q' I r q
  obtain ⟨xs, Q, b, ⟨bs, rfl, q⟩, fin⟩ := q
  obtain ⟨v, rfl, b1⟩ := brA1 hK b
  obtain ⟨a, ws, rfl, h1, h3⟩ := list_sq hK b1
  obtain rfl := br_bls h3
  exact cr_any gd.calm pins s σ H _ us Q' I r ⟨a, bs, rfl, h1, fin _ H (.d (.bool (bs.any id))) (Same.refl H) (.bl _) q⟩
end GB

set_option maxRecDepth 100000
namespace GB
open PySem PySem.Spec PyProof.Rows L2
/-! the truth of a list -/
def dLu (t : TEd) : TTd := fun ρ Q => t ρ fun s ρ1 => ∃ xs, s = .d (.list xs) ∧ Q (!xs.isEmpty) ρ1
theorem dt_lu {X : Cx} {L : Lay} {e : Expr} {t : TEd} (hK : L.K = X.K) (h : PE X e (tE L t)) (he : ∀ whole, isTrue e X.env whole = (do let v ← whole; standAt e.pos; holding [v] (truthy v)) := by intro _; rfl) : PT X e (tT L (dLu t)) :=
  (pt_truth h he).less fun σ H Q' h => by
    obtain ⟨ρ, Q, r0, q, fin⟩ := h
    refine (show tE L t σ H _ from ⟨ρ, _, r0, q, fun v H1 s ρ1 k1 r1 hv q1 => ?_⟩)
    obtain ⟨xs, rfl, q2⟩ := q1
    have hv : Br L.K H1 v (.list xs) := hv
    cases hv with
    | @lst a o vs _ h1 h2 h3 =>
      have e : vs.isEmpty = xs.isEmpty := by
        have := h3.len
        cases vs <;> cases xs <;> first | rfl | simp at this
      refine ⟨!vs.isEmpty, .inl ⟨vs, .inl (.inr ⟨o, h1⟩), rfl⟩, ?_⟩
      rw [e]
      exact fin _ H1 ρ1 k1 r1 q2
end GB

set_option maxRecDepth 100000
namespace GB
open PySem PySem.Spec PyProof.Rows L2
/-! sum of ints -/
def fSum : FN := fun xs Q => ∃ ns : List Int, xs = [.list (ns.map .int)] ∧ Q (.d (.int ns.sum))
theorem c_sum {X : Cx} {L : Lay} (hK : L.K = X.K) (gd : Good X) : CallR X (.builtin "sum") (rN L fSum) := by
  intro pins s σ H vs us Q' I r q
  obtain ⟨xs, Q, b, ⟨ns, rfl, q⟩, fin⟩ := q
  obtain ⟨v, rfl, b1⟩ := brA1 hK b
  obtain ⟨a, ws, rfl, h1, h3⟩ := list_sq hK b1
  obtain rfl := br_ints h3
  exact cr_sum gd.calm pins s σ H _ us Q' I r ⟨a, ns, rfl, h1, fin _ H (.d (.int ns.sum)) (Same.refl H) (.int _) q⟩
/-! the draws' store as a list: a list of ints (closed), a list of ints (for good), two ints -/
def vsS (l0 l1 : Addr) (s t : Int) : List V := [.ref l0, .ref l1, .int s, .int t]
def hoS (a l0 l1 : Addr) : HO := .ext fun h => ∃ s t : Int, ∃ (its : List Value) (n : Nat), Vals (vsS l0 l1 s t) its ∧ h.get? a = some { cls := .type "list", data := .seq its.toArray n }
theorem hoS_ok {P : Program} {w : World} {H : Hp} {h : Heap} {a l0 l1 : Addr} {s t : Int} (q : ObjOk P w H h a (.lst (vsS l0 l1 s t))) : ObjOk P w H h a (hoS a l0 l1) := by
  obtain ⟨z, its, n, r, e⟩ := q
  exact ⟨⟨s, t, its, n, r, e⟩, ⟨_, e⟩, fun h1 h2 ⟨s', t', its', n', r', e'⟩ k => ⟨s', t', its', n', r', k _ e'⟩⟩
def StoS (a : Addr) (H : Hp) : Prop := ∃ l0 l1 o is, H a = some (hoS a l0 l1) ∧ H l0 = some (hoL l0) ∧ l0 ≠ a ∧ H l1 = some (.frz o (.lst (is.map V.int))) ∧ is ≠ []
theorem stoS_keep : ∀ a H H', Keep H H' → StoS a H → StoS a H' := fun a H H' k ⟨l0, l1, o, is, h1, h2, h3, h4, h5⟩ => ⟨l0, l1, o, is, k _ _ h1 trivial, k _ _ h2 trivial, h3, k _ _ h4 trivial, h5⟩
def opnS (H : Hp) (a l0 l1 : Addr) (s t : Int) (js : List Int) : Hp := upd (upd H a (.lst (vsS l0 l1 s t))) l0 (.lst (js.map V.int))
def clsS (H : Hp) (a l0 l1 : Addr) : Hp := upd (upd H a (hoS a l0 l1)) l0 (hoL l0)
structure OpnS (H : Hp) (a l0 l1 : Addr) (s t : Int) (js : List Int) : Prop where
  ha : H a = some (.lst (vsS l0 l1 s t))
  hl : H l0 = some (.lst (js.map V.int))
  ne : l0 ≠ a
theorem clsS_opn {H H1 : Hp} {a l0 l1 : Addr} (ha : H a = some (hoS a l0 l1)) (hl : H l0 = some (hoL l0)) (h : ∀ b, b ≠ a → b ≠ l0 → H1 b = H b) : clsS H1 a l0 l1 = H := by
  funext b
  unfold clsS
  by_cases h1 : b = l0
  · subst h1; rw [upd_same, hl]
  · rw [upd_ne h1]
    by_cases h2 : b = a
    · subst h2; rw [upd_same, ha]
    · rw [upd_ne h2]; exact h b h2 h1
theorem opnS_off {H : Hp} {a l0 l1 : Addr} {s t : Int} {js : List Int} {b : Addr} (h1 : b ≠ a) (h2 : b ≠ l0) : opnS H a l0 l1 s t js b = H b := by unfold opnS; rw [upd_ne h2, upd_ne h1]
section
variable {X : Cx} {e : Expr} {st : Stmt} {sts : List Stmt} {t : TE} {tt : TT} {ts : TS}
theorem closeS_of {pins : List (Addr × Obj)} {σ : L2.St} {H : Hp} {s : Shared} (I : Inv X pins σ H s) {a l0 l1 : Addr} {x y : Int} {js : List Int} (o : OpnS H a l0 l1 x y js) : Inv X pins σ (clsS H a l0 l1) s := by
  have h1 := o.ha
  have h2 := o.hl
  have ne := o.ne
  have I1 := swap_inv I (v := hoS a l0 l1) h1 trivial (hoS_ok (s := x) (t := y) ((I.hok a _ h1).stay (fun _ _ _ z => z) (fun c q => by rw [upd_ne (fun z => by rw [z, h1] at q; cases q)]; exact q) fun c xs q => by rw [upd_ne (fun z => by rw [z, h1] at q; cases q)]; exact q))
  have e2 : (upd H a (hoS a l0 l1)) l0 = some (.lst (js.map V.int)) := by rw [upd_ne ne]; exact h2
  exact swap_inv I1 (v := hoL l0) e2 trivial (hoL_ok (is := js) ((I1.hok l0 _ e2).stay (fun _ _ _ z => z) (fun c q => by rw [upd_ne (fun z => by rw [z, e2] at q; cases q)]; exact q) fun c xs q => by rw [upd_ne (fun z => by rw [z, e2] at q; cases q)]; exact q))
theorem openS_of {pins : List (Addr × Obj)} {σ : L2.St} {H : Hp} {s : Shared} (I : Inv X pins σ H s) {a l0 l1 : Addr} (ha : H a = some (hoS a l0 l1)) (hl : H l0 = some (hoL l0)) (ne : l0 ≠ a) :
    ∃ x y js, js.length ≤ sizeLine ∧ Inv X pins σ (opnS H a l0 l1 x y js) s := by
  obtain ⟨⟨x, y, its, n, z1, z2⟩, _⟩ := I.hok a _ ha
  have I1 := swap_inv I (v := .lst (vsS l0 l1 x y)) ha trivial ⟨(show (4 : Nat) ≤ sizeLine by decide), its, n, z1, z2⟩
  have e2 : (upd H a (.lst (vsS l0 l1 x y))) l0 = some (hoL l0) := by rw [upd_ne ne]; exact hl
  obtain ⟨⟨js, y1, its2, n2, y2, y3⟩, _⟩ := I1.hok l0 _ e2
  have I2 := swap_inv I1 (v := .lst (js.map V.int)) e2 trivial ⟨by rw [List.length_map]; exact y1, its2, n2, y2, y3⟩
  exact ⟨x, y, js, y1, I2⟩
def OpensS (H : Hp) (go : Hp → Addr → Addr → Addr → Int → Int → List Int → Prop) : Prop :=
  ∃ a l0 l1, H a = some (hoS a l0 l1) ∧ H l0 = some (hoL l0) ∧ l0 ≠ a ∧ ∀ x y js, js.length ≤ sizeLine → OpnS (opnS H a l0 l1 x y js) a l0 l1 x y js → go (opnS H a l0 l1 x y js) a l0 l1 x y js
theorem opensS_inv {pins : List (Addr × Obj)} {σ : L2.St} {H : Hp} {s : Shared} (I : Inv X pins σ H s) {go : Hp → Addr → Addr → Addr → Int → Int → List Int → Prop} (h : OpensS H go) :
    ∃ a l0 l1 x y js, Inv X pins σ (opnS H a l0 l1 x y js) s ∧ go (opnS H a l0 l1 x y js) a l0 l1 x y js := by
  obtain ⟨a, l0, l1, ha, hl, ne, q⟩ := h
  obtain ⟨x, y, js, z, I2⟩ := openS_of I ha hl ne
  exact ⟨a, l0, l1, x, y, js, I2, q x y js z ⟨by unfold opnS; rw [upd_ne (Ne.symm ne), upd_same], by unfold opnS; exact upd_same, ne⟩⟩
theorem pe_openS (h : PE X e t) : PE X e (fun σ H Q => OpensS H fun H1 _ _ _ _ _ _ => t σ H1 Q) := ⟨fun pins s σ H Q I q => by
  obtain ⟨a, l0, l1, x, y, js, I2, q⟩ := opensS_inv I q
  exact h.run pins s σ _ Q I2 q⟩
theorem pe_openedS (h : PE X e t) : PE X e (fun σ H Q => t σ H fun v H1 => OpensS H1 fun H2 _ _ _ _ _ _ => Q v H2) := ⟨fun pins s σ H Q I q => by
  refine thn (h.run pins s σ H _ I q) fun u s1 z => ?_
  obtain ⟨v, H1, I1, rv, q1⟩ := z
  obtain ⟨a, l0, l1, x, y, js, I2, q2⟩ := opensS_inv I1 q1
  exact ⟨v, _, I2, rv, q2⟩⟩
theorem pe_closedS (h : PE X e t) : PE X e (fun σ H Q => t σ H fun v H1 => ∃ a l0 l1 x y js, OpnS H1 a l0 l1 x y js ∧ Q v (clsS H1 a l0 l1)) := ⟨fun pins s σ H Q I q => by
  refine thn (h.run pins s σ H _ I q) fun u s1 z => ?_
  obtain ⟨v, H1, I1, rv, a, l0, l1, x, y, js, o, q2⟩ := z
  exact ⟨v, _, closeS_of I1 o, rv, q2⟩⟩
theorem pss_closingS (h : PSs X sts ts) : PSs X sts (fun D σ H => ∃ a l0 l1 x y js, OpnS H a l0 l1 x y js ∧ ts D σ (clsS H a l0 l1)) := ⟨fun pins s σ H D I q => by
  obtain ⟨a, l0, l1, x, y, js, o, q⟩ := q
  exact h.run pins s σ _ D (closeS_of I o) q⟩
theorem ps_openS (h : PS X st ts) : PS X st (fun D σ H => OpensS H fun H1 _ _ _ _ _ _ => ts D σ H1) := ⟨fun pins s σ H D I q => by
  obtain ⟨a, l0, l1, x, y, js, I2, q⟩ := opensS_inv I q
  exact h.run pins s σ _ D I2 q⟩
theorem ps_closedS (h : PS X st ts) : PS X st (fun D σ H => ts { D with nx := fun σ1 H1 => ∃ a l0 l1 x y js, OpnS H1 a l0 l1 x y js ∧ D.nx σ1 (clsS H1 a l0 l1) } σ H) := ⟨fun pins s σ H D I q => by
  refine thn (h.run pins s σ H _ I q) fun f s1 z => ?_
  match f, z with
  | .next, ⟨σ1, H1, I1, a, l0, l1, x, y, js, o, q2⟩ => exact ⟨σ1, _, closeS_of I1 o, q2⟩
  | .brk, z => exact z
  | .cont, z => exact z
  | .ret u, z => exact z⟩
end
section
variable {X : Cx} {L : Lay} {o o1 o2 o3 w1 w2 m1 m2 : Expr} {pos p1 p2 p3 p4 p5 p6 p7 p8 p9 p10 p11 p12 p13 p14 p15 p16 p17 p18 : Pos} {i j j1 j2 j3 it iw im : Nat} {t : TEd} {tb : TSd} {rest : List Stmt} {x : Str}
theorem at_S {l0 l1 : Addr} {a b : Int} : atI (vsS l0 l1 a b) 0 = some (.ref l0) ∧ atI (vsS l0 l1 a b) 1 = some (.ref l1) ∧ atI (vsS l0 l1 a b) 2 = some (.int a) ∧ atI (vsS l0 l1 a b) 3 = some (.int b) :=
  ⟨atI_nat (j := 0) rfl, atI_nat (j := 1) rfl, atI_nat (j := 2) rfl, atI_nat (j := 3) rfl⟩
/-- a number of the store: its places 2 and 3 -/
theorem de_sint {k : Int} (hJ : ∀ a H, L.J.ok .jar a H → StoS a H) (hk : k = 2 ∨ k = 3) (ho : PE X o (tVar i)) : PE X (.Subscript o (.Constant (.int k) j p1) pos) (tE L (dJInt i)) :=
  (pe_openS (pe_closedS (pe_ix ix_list ho pe_int fun _ _ => rfl))).less fun σ H Q' q => by
    obtain ⟨ρ, Q, r, ⟨ej, q⟩, fin⟩ := q
    obtain ⟨o, e2, a, rfl, ja⟩ := r.get ej
    obtain ⟨l0, l1, o', is, ha, hl, ne, hl1, _⟩ := hJ a H ja
    refine ⟨a, l0, l1, ha, hl, ne, fun x y js z op => ?_⟩
    have fin' : ∀ n : Int, Q' (.int n) (clsS (opnS H a l0 l1 x y js) a l0 l1) := fun n => by
      rw [clsS_opn ha hl fun b h1 h2 => opnS_off h1 h2]
      exact fin _ _ (.d (.int n)) ρ Go.rf r (.int n) (q n)
    refine ⟨.ref a, e2, ?_⟩
    rcases hk with rfl | rfl
    · exact ⟨a, _, _, _, rfl, rfl, .inl (.inl op.ha), at_S.2.2.1, a, l0, l1, x, y, js, op, fin' _⟩
    · exact ⟨a, _, _, _, rfl, rfl, .inl (.inl op.ha), at_S.2.2.2, a, l0, l1, x, y, js, op, fin' _⟩
/-- a number put into the store, at its place 3 -/
theorem ds_sput {v : Expr} (hJ : ∀ a H, L.J.ok .jar a H → StoS a H) (ho : PE X o (tVar i)) (hv : PE X v (tE L t))
    (hw : swappedStores [.Subscript o (.Constant (.int 3) j p1) p2] v X.env = pure none := by rfl) (hs : swapsWithSole [.Subscript o (.Constant (.int 3) j p1) p2] v pos.line X.env = pure false := by rfl)
    (h1 : (assignEach [.Subscript o (.Constant (.int 3) j p1) p2] X.env).map (·.2) = [assign (.Subscript o (.Constant (.int 3) j p1) p2) X.env] := by rfl)
    (ha : ∀ v, assign (.Subscript o (.Constant (.int 3) j p1) p2) X.env v = (do
      let ov ← holding [v] (eval o X.env)
      let iv ← holding [v, ov] (eval (.Constant (.int 3) j p1) X.env)
      standAt p2
      holding [v, ov, iv] (setItem ov iv v)
      release [v, ov, iv] []) := by intro _; rfl) :
    PS X (.Assign [.Subscript o (.Constant (.int 3) j p1) p2] v pos) (tS L (dJPut i t)) :=
  (ps_closedS (ps_asg (pe_openedS hv) (pg_sub ho pe_int set_list ha) hs hw h1)).less fun D σ H q => by
    obtain ⟨ρ, De, r, q, n1, _⟩ := q
    refine ⟨ρ, _, r, q, fun v H1 s ρ1 go r1 hv q1 => ?_⟩
    obtain ⟨n, rfl, ej, q2⟩ := q1
    have hv : Br L.K H1 v (.int n) := hv
    cases hv
    obtain ⟨o, e2, a, rfl, ja⟩ := r1.get ej
    obtain ⟨l0, l1, o', is, ha, hl, ne, hl1, _⟩ := hJ a H1 ja
    refine ⟨a, l0, l1, ha, hl, ne, fun x y js z op => ⟨.ref a, e2, a, _, 3, 3, rfl, rfl, op.ha, rfl, a, l0, l1, x, n, js, ⟨upd_same, by rw [upd_ne op.ne]; exact op.hl, op.ne⟩, ?_⟩⟩
    rw [clsS_opn ha hl fun b h1 h2 => by rw [upd_ne h1]; exact opnS_off h1 h2]
    exact n1 _ _ _ (go.keep r) r1 q2
/-- a number of the list that stays -/
def dJMix (i it : Nat) : TEd := fun ρ Q => ρ[i]? = some (.ob .jar) ∧ (∃ m : Int, ρ[it]? = some (.d (.int m))) ∧ ∀ n : Int, Q (.d (.int n)) ρ
theorem de_smix (hJ : ∀ a H, L.J.ok .jar a H → StoS a H) (ho1 : PE X o1 (tVar i)) (ho2 : PE X o2 (tVar i)) (hw1 : PE X w1 (tVar it))
    (gi : Gl X "int") (mi : X.mg "int" = none) (gl : Gl X "len") (ml : X.mg "len" = none)
    (s1 : starEach [w1] X.env = (false, eval w1 X.env) :: starEach [] X.env := by rfl) (s2 : starEach [.Subscript o2 (.Constant (.int 1) j2 p3) p4] X.env = (false, eval (.Subscript o2 (.Constant (.int 1) j2 p3) p4) X.env) :: starEach [] X.env := by rfl)
    (b1 : (backTo p6 (starEach [] X.env)).any (·.1) = false := by rfl) (b2 : (backTo p8 (starEach [] X.env)).any (·.1) = false := by rfl)
    (hp : PlainIx (.BinOp (.Call (.Name "int" p5) [w1] [] p6) .Mod (.Call (.Name "len" p7) [.Subscript o2 (.Constant (.int 1) j2 p3) p4] [] p8) p9) := by exact fun _ _ => rfl) :
    PE X (.Subscript (.Subscript o1 (.Constant (.int 1) j1 p1) p2) (.BinOp (.Call (.Name "int" p5) [w1] [] p6) .Mod (.Call (.Name "len" p7) [.Subscript o2 (.Constant (.int 1) j2 p3) p4] [] p8) p9) pos) (tE L (dJMix i it)) :=
  (pe_openS (pe_closedS (pe_ix ix_list (pe_ix ix_list ho1 pe_int fun _ _ => rfl) (pe_op op_mod (pe_callTy call_int1 gi mi (by decide +kernel) (pa_cons hw1 pa_nil s1) (by decide) (by decide) s1 b1) (pe_callB call_len_seq gl ml (by decide +kernel) (pa_cons (pe_ix ix_list ho2 pe_int fun _ _ => rfl) pa_nil s2) (by decide) (by decide) s2 b2)) hp))).less fun σ H Q' q => by
    obtain ⟨ρ, Q, r, ⟨ej, ⟨m, em⟩, q⟩, fin⟩ := q
    obtain ⟨o, e2, a, rfl, ja⟩ := r.get ej
    obtain ⟨vm, em2, bm⟩ := r.getD em
    cases bm
    obtain ⟨l0, l1, o', is, ha, hl, ne, hl1, hne⟩ := hJ a H ja
    refine ⟨a, l0, l1, ha, hl, ne, fun x y js z op => ?_⟩
    have n1a : l1 ≠ a := fun z => by rw [z, ha] at hl1; cases hl1
    have n10 : l1 ≠ l0 := fun z => by rw [z, hl] at hl1; cases hl1
    have q1 : SqL X.K (opnS H a l0 l1 x y js) l1 (is.map V.int) := .inl (.inr ⟨o', by rw [opnS_off n1a n10]; exact hl1⟩)
    have hpos : 0 < is.length := List.length_pos_iff.mpr hne
    have hp2 : (0 : Int) < ((is.map V.int).length : Nat) := by rw [List.length_map]; omega
    have c0 := Int.emod_nonneg m (show (((is.map V.int).length : Nat) : Int) ≠ 0 by omega)
    have c1 := Int.emod_lt_of_pos m hp2
    have c2 : (m % (((is.map V.int).length : Nat) : Int)).toNat < (is.map V.int).length := by omega
    have c3 : (m % (((is.map V.int).length : Nat) : Int)).toNat < is.length := by rw [List.length_map] at c2; rw [List.length_map]; exact c2
    have g1 : atI (is.map V.int) (m % (((is.map V.int).length : Nat) : Int)) = some (.int is[(m % (((is.map V.int).length : Nat) : Int)).toNat]) := by
      have h := atI_nat (xs := is.map V.int) (j := (m % (((is.map V.int).length : Nat) : Int)).toNat) (v := .int is[(m % (((is.map V.int).length : Nat) : Int)).toNat]) (by rw [List.getElem?_map, List.getElem?_eq_getElem c3]; rfl)
      rw [show (((m % (((is.map V.int).length : Nat) : Int)).toNat : Nat) : Int) = m % (((is.map V.int).length : Nat) : Int) by omega] at h
      exact h
    refine ⟨.ref a, e2, a, _, _, _, rfl, rfl, .inl (.inl op.ha), at_S.2.1, _, em2, .inl ⟨m, rfl, .ref a, e2, a, _, _, _, rfl, rfl, .inl (.inl op.ha), at_S.2.1, l1, _, rfl, .inl q1, _, _, rfl, rfl, hp2, l1, _, _, _, rfl, rfl, q1, g1, a, l0, l1, x, y, js, op, ?_⟩⟩
    rw [clsS_opn ha hl fun b h1 h2 => opnS_off h1 h2]
    exact fin _ _ (.d (.int _)) ρ Go.rf r (.int _) (q _)
/-- what comes behind the digit -/
theorem spop_end {H : Hp} {σ : L2.St} {ρ : En} (r : Rel L H σ ρ) {a l0 l1 p : Addr} {x y : Int} {js ks : List Int} {iw : Nat} {n : Int} {H3 : Hp} {tb : TSd} {D : Ends} {De : EndsD} (ha : H a = some (hoS a l0 l1)) (hl : H l0 = some (hoL l0)) (op : OpnS (opnS H a l0 l1 x y js) a l0 l1 x y js) (hp : opnS H a l0 l1 x y js p = none)
    (h3 : H3 = upd (upd (opnS H a l0 l1 x y js) p (.lst [])) l0 (.lst (ks.map V.int))) (qn : tb { De with nx := fun _ => False } (ρ.set iw (.d (.int n))))
    (n2 : ∀ v H' s, Keep H H' → Same L.H0 H' → RR L H' v s → De.rt s → D.rt v H') (n3 : ∀ σ' H' ρ', Keep H H' → Rel L H' σ' ρ' → De.bk ρ' → D.bk σ' H') (n4 : ∀ σ' H' ρ', Keep H H' → Rel L H' σ' ρ' → De.ct ρ' → D.ct σ' H') (nx : L2.St → Hp → Prop) :
    ∃ a l0 l1 x y js, OpnS H3 a l0 l1 x y js ∧ tS L tb { D with nx := nx } (σ.set iw (some (.int n))) (clsS H3 a l0 l1) := by
  have pa : p ≠ a := fun z => by rw [z, op.ha] at hp; cases hp
  have pl : p ≠ l0 := fun z => by rw [z, op.hl] at hp; cases hp
  have hp0 : H p = none := (opnS_off pa pl).symm.trans hp
  refine ⟨a, l0, l1, x, y, ks, ⟨?_, ?_, op.ne⟩, ?_⟩
  · rw [h3, upd_ne (Ne.symm op.ne), upd_ne (Ne.symm pa)]; exact op.ha
  · rw [h3, upd_same]
  · have ec : clsS H3 a l0 l1 = upd H p (.lst []) := clsS_opn (H := upd H p (.lst [])) (by rw [upd_ne (Ne.symm pa)]; exact ha) (by rw [upd_ne (Ne.symm pl)]; exact hl) fun b h1 h2 => by
      rw [h3, upd_ne h2]
      by_cases hb : b = p
      · subst hb; rw [upd_same, upd_same]
      · rw [upd_ne hb, upd_ne hb]; exact opnS_off h1 h2
    have sm : Same H (upd H p (.lst [])) := same_new hp0
    have kp : Keep H (upd H p (.lst [])) := keep_of_same sm
    rw [ec]
    exact ⟨_, _, (r.go sm).setF (s := .d (.int n)) (.int n), qn, fun _ _ _ _ _ n => n.elim, fun v H' s k => n2 v H' s (kp.tr k), fun σ' H' ρ' k => n3 σ' H' ρ' (kp.tr k), fun σ' H' ρ' k => n4 σ' H' ρ' (kp.tr k)⟩
/-- while there is a great number, a digit of the last one -/
theorem ds_spop (gd : Good X) (hJ : ∀ a H, L.J.ok .jar a H → StoS a H) (hx : X.N[iw]? = some x) (hxl : X.env.scope.names.lookup x = some .local)
    (ho1 : PE X o1 (tVar i)) (ho2 : PE X o2 (tVar i)) (ho3 : PE X o3 (tVar i)) (hw1 : PE X w1 (tVar iw)) (hm1 : PE X m1 (tVar im)) (hw2 : PE X w2 (tVar iw)) (hm2 : PE X m2 (tVar im)) (hr : PSs X rest (tS L tb))
    (hb1 : attributeBase (.Subscript o2 (.Constant (.int 0) j2 p6) p7) "pop" X.env (eval (.Subscript o2 (.Constant (.int 0) j2 p6) p7) X.env) = eval (.Subscript o2 (.Constant (.int 0) j2 p6) p7) X.env := by rfl) (li1 : (p8.endLine == p9.line) = true := by rfl)
    (hb2 : attributeBase (.Subscript o3 (.Constant (.int 0) j3 p12) p13) "append" X.env (eval (.Subscript o3 (.Constant (.int 0) j3 p12) p13) X.env) = eval (.Subscript o3 (.Constant (.int 0) j3 p12) p13) X.env := by rfl)
    (fw2 : ((backTo p16 (starEach [.BinOp w2 .FloorDiv m2 p15] X.env)).all (fun x => !x.1) && (backToKw p16 (keywordEach [] X.env)).all (fun x => x.1.isSome) && decide (([.BinOp w2 .FloorDiv m2 p15] : List Expr).length + ([] : List Keyword).length + (if ([] : List Keyword).isEmpty then 0 else 1) < 30)) = true := by rfl)
    (li2 : (p14.endLine == p16.line) = true := by rfl) (st2 : starEach [.BinOp w2 .FloorDiv m2 p15] X.env = (false, eval (.BinOp w2 .FloorDiv m2 p15) X.env) :: starEach [] X.env := by rfl) (pl2 : (backTo p16 (starEach [] X.env)).any (·.1) = false := by rfl)
    (sw1 : swapsWith (.Call (.Attribute (.Subscript o2 (.Constant (.int 0) j2 p6) p7) "pop" p8) [] [] p9) (some (.Name x p5)) p10.line X.env = pure false := by rfl)
    (sw2 : swapsWith (.Call (.Attribute (.Subscript o3 (.Constant (.int 0) j3 p12) p13) "append" p14) [.BinOp w2 .FloorDiv m2 p15] [] p16) none p17.line X.env = pure false := by rfl) :
    PS X (.If (.Compare (.Subscript o1 (.Constant (.int 0) j1 p1) p2) [.NotEq] [.List [] p3] p4)
      (.Assign [.Name x p5] (.Call (.Attribute (.Subscript o2 (.Constant (.int 0) j2 p6) p7) "pop" p8) [] [] p9) p10 ::
        .If (.Compare w1 [.GtE] [m1] p11) [.Expr (.Call (.Attribute (.Subscript o3 (.Constant (.int 0) j3 p12) p13) "append" p14) [.BinOp w2 .FloorDiv m2 p15] [] p16) p17] [] p18 :: rest) [] pos)
      (tS L (dJPop i iw im tb)) :=
  (ps_openS (ps_closedS (ps_if (pt_cmpR (op_neD (by have := gd.un; omega)) (pe_ix ix_list ho1 pe_int fun _ _ => rfl) (pe_lst pa_nil) (nomark _))
    (pss_cons (ps_set (i := iw) gd.nd hx (.inl hxl) (pe_bm0 PySem.F.plainAttrs_list PySem.F.slot_list_pop PySem.F.type_list_pop mt_pop (pe_ix ix_list ho2 pe_int fun _ _ => rfl) hb1 li1) sw1 (.inr hxl))
      (pss_cons (ps_if (pt_cmpR op_ge hw1 hm1 (nomark _)) (pss_one (ps_expr (pe_bm PySem.F.plainAttrs_list PySem.F.slot_list_append PySem.F.type_list_append mt_append (pe_ix ix_list ho3 pe_int fun _ _ => rfl) (pa_cons (pe_op op_fdiv hw2 hm2) pa_nil st2) hb2 fw2 li2 st2 pl2) sw2)) pss_nil) (pss_closingS hr))) pss_nil))).less fun D σ H q => by
    obtain ⟨ρ, De, r, ⟨ej, ⟨m, em, m0, m1⟩, hlen, hi, hm, qn, qx⟩, n1, n2, n3, n4⟩ := q
    obtain ⟨ov, e2, a, rfl, ja⟩ := r.get ej
    obtain ⟨vm, em2, bm⟩ := r.getD em
    cases bm
    obtain ⟨l0, l1, o', ks, ha, hl, ne, hl1', _⟩ := hJ a H ja
    refine ⟨a, l0, l1, ha, hl, ne, fun x y is z op => ?_⟩
    refine ⟨.ref a, e2, a, _, _, _, rfl, rfl, .inl (.inl op.ha), at_S.1, Nat.zero_le _, fun p hp => ?_⟩
    have pa : p ≠ a := fun z => by rw [z, op.ha] at hp; cases hp
    have pl : p ≠ l0 := fun z => by rw [z, op.hl] at hp; cases hp
    refine ⟨.list (is.map .int), .list [], .lst (.inl (.inl (by rw [upd_ne (Ne.symm pl)]; exact op.hl))) (ints_dp is), .lst (.inl (.inl upd_same)) .nil, ints_shaped is, rfl, _, rfl, ?_⟩
    rw [ints_empty]
    have hl1 : (upd (opnS H a l0 l1 x y is) p (.lst [])) l0 = some (.lst (is.map V.int)) := by rw [upd_ne (Ne.symm pl)]; exact op.hl
    have ha1 : (upd (opnS H a l0 l1 x y is) p (.lst [])) a = some (.lst (vsS l0 l1 x y)) := by rw [upd_ne (Ne.symm pa)]; exact op.ha
    cases is with
    | nil =>
      have hp0 : H p = none := (opnS_off pa pl).symm.trans hp
      have sm : Same H (upd H p (.lst [])) := same_new hp0
      refine ⟨a, l0, l1, x, y, [], ⟨ha1, hl1, op.ne⟩, ?_⟩
      have ec : clsS (upd (opnS H a l0 l1 x y []) p (.lst [])) a l0 l1 = upd H p (.lst []) := clsS_opn (H := upd H p (.lst [])) (by rw [upd_ne (Ne.symm pa)]; exact ha) (by rw [upd_ne (Ne.symm pl)]; exact hl) fun b h1 h2 => by
        by_cases hb : b = p
        · subst hb; rw [upd_same, upd_same]
        · rw [upd_ne hb, upd_ne hb]; exact opnS_off h1 h2
      rw [ec]
      exact n1 _ _ _ (keep_of_same sm) (r.go sm) qx
    | cons y0 is =>
      have hlast : ((y0 :: is).map V.int)[((y0 :: is).map V.int).length - 1]? = some (.int ((y0 :: is).getLast (by simp))) := by
        rw [List.length_map, List.getElem?_map, ← List.getLast?_eq_getElem?, List.getLast?_eq_getLast (by simp)]; rfl
      refine ⟨.ref a, e2, ?_⟩
      refine ⟨a, _, _, .ref l0, rfl, rfl, .inl (.inl ha1), at_S.1, own_ty (pins := []) hl1, l0, _, _, rfl, rfl, hl1, hlast, ?_⟩
      have ei : (σ.set iw (some (V.int ((y0 :: is).getLast (by simp)))))[i]? = some (some (.ref a)) := by
        rw [List.getElem?_set_ne hi]; exact e2
      have ew : (σ.set iw (some (V.int ((y0 :: is).getLast (by simp)))))[iw]? = some (some (V.int ((y0 :: is).getLast (by simp)))) := List.getElem?_set_self (by rw [r.len]; exact hlen)
      have emm : (σ.set iw (some (V.int ((y0 :: is).getLast (by simp)))))[im]? = some (some (.int m)) := by
        rw [List.getElem?_set_ne hm]; exact em2
      have dl : ((y0 :: is).map V.int).dropLast = ((y0 :: is).dropLast).map V.int := by rw [List.map_dropLast]
      have hl2 : (upd (upd (opnS H a l0 l1 x y (y0 :: is)) p (.lst [])) l0 (.lst ((y0 :: is).map V.int).dropLast)) l0 = some (.lst (((y0 :: is).dropLast).map V.int)) := by rw [upd_same, dl]
      have ha2 : (upd (upd (opnS H a l0 l1 x y (y0 :: is)) p (.lst [])) l0 (.lst ((y0 :: is).map V.int).dropLast)) a = some (.lst (vsS l0 l1 x y)) := by rw [upd_ne (Ne.symm op.ne)]; exact ha1
      refine ⟨_, ew, _, emm, _, m, rfl, rfl, _, rfl, ite2 (fun _ => ?_) fun _ => ?_⟩
      · refine ⟨.ref a, ei, a, _, _, .ref l0, rfl, rfl, .inl (.inl ha2), at_S.1, own_ty (pins := []) hl2, _, ew, _, emm, _, m, rfl, rfl, ⟨m0, m1⟩, l0, _, _, rfl, rfl, hl2, ?_, ?_⟩
        · rw [List.length_map, List.length_dropLast]
          have : (y0 :: is).length ≤ sizeLine := z
          have : 0 < (y0 :: is).length := by simp
          omega
        · refine spop_end (ks := (y0 :: is).dropLast ++ [(y0 :: is).getLast (by simp) / m]) r ha hl op hp ?_ (qn _) n2 n3 n4 _
          rw [upd_upd, List.map_append]; rfl
      · exact spop_end (ks := (y0 :: is).dropLast) r ha hl op hp (by rw [dl]) (qn _) n2 n3 n4 _
/-- the store is made and handed out -/
def dStock (t0 t1 t2 : TEd) : TSd := fun D ρ => t0 ρ fun s0 ρ1 => t1 ρ1 fun s1 ρ2 => t2 ρ2 fun s2 _ => ∃ (is0 is1 : List Int) (n : Int), s0 = .own (is0.map .int) ∧ s1 = .own (is1.map .int) ∧ is1 ≠ [] ∧ s2 = .d (.int n) ∧ D.rt (.ob .jar)
theorem pe_madeS {e : Expr} {t : TE} (h : PE X e t) : PE X e (fun σ H Q => t σ H fun v H1 => ∃ a l0 l1 x y js, ∃ ks : List Int, v = .ref a ∧ OpnS H1 a l0 l1 x y js ∧ H1 l1 = some (.lst (ks.map V.int)) ∧ l1 ≠ l0 ∧ ∀ o, Q v (clsS (upd H1 l1 (.frz o (.lst (ks.map V.int)))) a l0 l1)) := ⟨fun pins s σ H Q I q => by
  refine thn (h.run pins s σ H _ I q) fun u s1 z => ?_
  obtain ⟨v, H1, I1, rv, a, l0, l1, x, y, js, ks, ev, o, h1, n10, q2⟩ := z
  obtain ⟨ob, I2⟩ := fix_inv I1 h1 trivial
  have n1a : l1 ≠ a := fun z => by
    have h := o.ha
    rw [← z, h1] at h
    cases ks with
    | nil => cases h
    | cons k ks => cases h
  exact ⟨v, _, closeS_of I2 (x := x) (y := y) (js := js) ⟨by rw [upd_ne (Ne.symm n1a)]; exact o.ha, by rw [upd_ne (Ne.symm n10)]; exact o.hl, o.ne⟩, rv, q2 ob⟩⟩
theorem ds_stock {e0 e1 e2 : Expr} {t0 t1 t2 : TEd} (hJ : ∀ a H, StoS a H → L.J.ok .jar a H) (h0 : PE X e0 (tE L t0)) (h1 : PE X e1 (tE L t1)) (h2 : PE X e2 (tE L t2))
    (s0 : starEach [e0, e1, e2, .Constant (.int 0) j p1] X.env = (false, eval e0 X.env) :: starEach [e1, e2, .Constant (.int 0) j p1] X.env := by rfl) (s1 : starEach [e1, e2, .Constant (.int 0) j p1] X.env = (false, eval e1 X.env) :: starEach [e2, .Constant (.int 0) j p1] X.env := by rfl)
    (s2 : starEach [e2, .Constant (.int 0) j p1] X.env = (false, eval e2 X.env) :: starEach [.Constant (.int 0) j p1] X.env := by rfl) (s3 : starEach [.Constant (.int 0) j p1] X.env = (false, eval (.Constant (.int 0) j p1) X.env) :: starEach [] X.env := by rfl) :
    PS X (.Return (some (.List [e0, e1, e2, .Constant (.int 0) j p1] p2)) pos) (tS L (dStock t0 t1 t2)) :=
  (ps_ret (pe_madeS (pe_lst (pa_cons h0 (pa_cons h1 (pa_cons h2 (pa_cons pe_int pa_nil s3) s2) s1) s0)))).less fun D σ H q => by
    obtain ⟨ρ, De, r, q, n1, n2, n3, n4⟩ := q
    refine ⟨ρ, _, r, q, fun v0 H1 x0 ρ1 g1 r1 hv0 q1 => ⟨ρ1, _, r1, q1, fun v1 H2 x1 ρ2 g2 r2 hv1 q2 => ⟨ρ2, _, r2, q2, fun v2 H3 x2 ρ3 g3 r3 hv2 q3 => ?_⟩⟩⟩
    obtain ⟨is0, is1, n, rfl, rfl, hne, rfl, q4⟩ := q3
    have hv2 : Br L.K H3 v2 (.int n) := hv2
    cases hv2
    have a0 := hv0.later r g1 r1 (g2.tr g3)
    have a1 := hv1.later r1 g2 r2 g3
    obtain ⟨⟨l0, vs0, rfl, b0, b1, b2⟩, b3⟩ := a0
    obtain ⟨⟨l1, vs1, rfl, c0, c1, c2⟩, c3⟩ := a1
    obtain rfl := br_ints b1
    obtain rfl := br_ints c1
    have n10 : l1 ≠ l0 := fun z => by
      have h := c3 l1 rfl
      have h' := hv0.there l0 rfl _ rfl
      rw [z] at h; exact h' h
    refine ⟨(show (4 : Nat) ≤ sizeLine by decide), fun a na => ?_⟩
    have na0 : l0 ≠ a := ne_of_none b0 na
    have na1 : l1 ≠ a := ne_of_none c0 na
    refine ⟨a, l0, l1, n, 0, is0, is1, rfl, ⟨upd_same, by rw [upd_ne na0]; exact b0, na0⟩, by rw [upd_ne na1]; exact c0, n10, fun ob => ?_⟩
    have hs : StoS a (clsS (upd (upd H3 a (.lst (vsS l0 l1 n 0))) l1 (.frz ob (.lst (is1.map V.int)))) a l0 l1) := by
      refine ⟨l0, l1, ob, is1, ?_, ?_, na0, ?_, hne⟩
      · unfold clsS; rw [upd_ne (Ne.symm na0), upd_same]
      · unfold clsS; rw [upd_same]
      · unfold clsS; rw [upd_ne n10, upd_ne na1, upd_same]
    refine n2 (.ref a) _ (.ob .jar) (fun b o hb f => ?_) (fun b o hb => ?_) ⟨a, rfl, hJ _ _ hs⟩ q4
    · have h3 := ((g1.tr g2).tr g3).keep r b o hb f
      unfold clsS
      have e0 : b ≠ l0 := fun z => by rw [z, b0] at h3; cases h3; exact f
      have e1 : b ≠ l1 := fun z => by rw [z, c0] at h3; cases h3; exact f
      rw [upd_ne e0, upd_ne (ne_of_none h3 na), upd_ne e1, upd_ne (ne_of_none h3 na)]; exact h3
    · have h3 := r3.same b o hb
      unfold clsS
      rw [upd_ne (ne_of_none hb b2), upd_ne (ne_of_none h3 na), upd_ne (ne_of_none hb c2), upd_ne (ne_of_none h3 na)]; exact h3
theorem cutV_map (ns : List Int) (lo hi : Option Int) : cutV (ns.map V.int) lo hi = (cutD ns lo hi).map V.int := by
  unfold cutV cutD
  rw [List.map_take, List.map_drop, List.length_map]
/-- the script's first items -/
def dScr (i : Nat) (k : Int) : TEd := fun ρ Q => ∃ ns, ρ[i]? = some (.ob (.scr ns)) ∧ Q (.own ((cutD ns none (some k)).map .int)) ρ
theorem de_scr {k : Int} {j2 : Nat} (hK : L.K = X.K) (hS : ∀ a ns H, L.J.ok (.scr ns) a H → ScrOk L.K a ns H) (ho : PE X o (tVar i)) : PE X (.Subscript o (.Slice none (some (.Constant (.int k) j2 p1)) none p2) pos) (tE L (dScr i k)) :=
  (pe_slice sl_list ho po_none (po_some pe_int)).less fun σ H Q' q => by
    obtain ⟨ρ, Q, r, ⟨ns, ej, q⟩, fin⟩ := q
    obtain ⟨o, e2, a, rfl, ja⟩ := r.get ej
    have sq := sq_scr (hS a ns H ja)
    rw [hK] at sq
    refine ⟨.ref a, e2, k, rfl, a, ns.map V.int, rfl, sq, fun c nc => ?_⟩
    rw [cutV_map]
    have sm := same_new (o := .lst ((cutD ns none (some k)).map V.int)) nc
    exact fin _ _ (.own _) ρ (Go.sm sm) (r.go sm) ⟨⟨c, _, rfl, upd_same, ints_br _, r.same.free nc⟩, fun l e => by cases e; exact nc⟩ q
end
end GB

set_option maxRecDepth 100000
namespace GB
open PySem PySem.Spec PyProof.Rows L2
/-! is, is not, of bools -/
def fIsB : F2 := fun x y Q => ∃ a b : Bool, x = .bool a ∧ y = .bool b ∧ Q (.d (.bool (a == b)))
def fIsNotB : F2 := fun x y Q => ∃ a b : Bool, x = .bool a ∧ y = .bool b ∧ Q (.d (.bool (!(a == b))))
theorem f_isB {a b : Bool} {k : S → Prop} : fIsB (.bool a) (.bool b) k ↔ k (.d (.bool (a == b))) := ⟨fun ⟨_, _, e, e', h⟩ => by cases e; cases e'; exact h, fun h => ⟨_, _, rfl, rfl, h⟩⟩
theorem f_isNotB {a b : Bool} {k : S → Prop} : fIsNotB (.bool a) (.bool b) k ↔ k (.d (.bool (!(a == b)))) := ⟨fun ⟨_, _, e, e', h⟩ => by cases e; cases e'; exact h, fun h => ⟨_, _, rfl, rfl, h⟩⟩
theorem o_isB {X : Cx} {L : Lay} : OpR X (compareOp .Is) (rD L fIsB) := by
  intro pins s σ H x y v u Q' I rx ry q
  obtain ⟨dx, dy, Q, bx, by_, ⟨a, b, rfl, rfl, q⟩, fin⟩ := q
  have bx : Br L.K H x (.bool a) := bx
  have by_ : Br L.K H y (.bool b) := by_
  cases bx; cases by_; cases rx; cases ry
  exact is_bool (fin_bl I (fin _ H (.d (.bool (a == b))) (Same.refl H) (.bl _) q) rfl)
theorem o_isNotB {X : Cx} {L : Lay} : OpR X (compareOp .IsNot) (rD L fIsNotB) := by
  intro pins s σ H x y v u Q' I rx ry q
  obtain ⟨dx, dy, Q, bx, by_, ⟨a, b, rfl, rfl, q⟩, fin⟩ := q
  have bx : Br L.K H x (.bool a) := bx
  have by_ : Br L.K H y (.bool b) := by_
  cases bx; cases by_; cases rx; cases ry
  exact isnot_bool (fin_bl I (fin _ H (.d (.bool (!(a == b)))) (Same.refl H) (.bl _) q) rfl)
end GB

set_option maxRecDepth 100000
namespace GB
open PySem PySem.Spec PyProof.Rows L2
/-! an own exception class without own __init__, called without arguments -/
section
variable {X : Cx} {C : Addr} {bmB : List Value} {B newId initId : String}
theorem pmk_own0 {x : Str} {p pos : Pos} (F : ExcBaseFacts B newId initId bmB) (q : PySem.W.excIn X.K C bmB newId = true) (gC : X.mg x = some (.ref C)) (kC : PySem.W.keepIn X.K (.ref C) = true) (r : Raises X (.ref C)) (hg : Gl X x)
    (hdb : (x == ("__debug__" : Str)) = false := by decide) : PMk X (.Call (.Name x p) [] [] pos) (fun _ H Q => Q (.ref C) none H) := by
  intro pins s σ H Q I h
  refine wpAny_Call_Name_kw (ld_glob I hg gC ?_ hdb)
  refine PySem.W.callWith_K0 I.kIn kC ?_
  obtain ⟨bm, N, nm, qn, bs, hdct, sn, sub, ab, col, dd, k0, k1, k2, k3, k5, mN, hC, hN, hni, T⟩ := exc_obj I.kIn q
  refine wpAny_call_exc_subT F T hC hN hni (fun h' e hm => ?_) (Nat.zero_le _)
  exact mk_of I hm r h (I.hok.gone hm.new)
end
/-- a class of the program that is raised -/
structure ExC (K : PySem.W.Frag) (mg : Str → Option Value) (x : Str) (C : Addr) : Prop where
  gC : mg x = some (.ref C)
  kC : PySem.W.keepIn K (.ref C) = true
  xC : ∃ bm, ExcBaseFacts "ValueError" "ValueError.__new__" "ValueError.__init__" bm ∧ PySem.W.excIn K C bm "ValueError.__new__" = true
  bC : PySem.W.subIn K (.ref C) (.type "BaseException") = some true
  tC : PySem.W.typeIn K (.ref C) = some (.type "type")
  eC : PySem.W.exmOne K (.ref C) (.ref C) = some true
/-! a raise -/
def dRaise (Z : Prop) : TSd := fun _ _ => Z
section
variable {X : Cx} {L : Lay} {C : Addr} {W : WX} {x : Str} {p pos pos2 : Pos} {Z : Prop}
theorem ds_raise (g : Good X) (tk : Takes X W) (hK : L.K = X.K) (c : ExC X.K X.mg x C) (hg : Gl X x) (hz : ∀ σ H, Same L.H0 H → Z → W (.ref C) none σ H) (hdb : (x == ("__debug__" : Str)) = false := by decide) :
    PS X (.Raise (some (.Call (.Name x p) [] [] pos)) none pos2) (tS L (dRaise Z)) := by
  obtain ⟨bm, F, q⟩ := c.xC
  refine (ps_raise g.calm tk (pmk_own0 F q c.gC c.kC (raises_own c.bC c.tC) hg hdb)).less fun D σ H h => ?_
  obtain ⟨ρ, De, r, z, _⟩ := h
  exact hz σ H r.same z
end
/-! defs that raise an error of one class, without payload -/
abbrev FnE := List S → (S → Prop) → Prop → Prop
def spX (K : PySem.W.Frag) (J : Jar) (n : Nat) (C : Addr) (F : FnE) : Sp := fun vs H Q E => ∃ ss R Z, FRs (lay K J H) H vs ss ∧ ss.length = n ∧ F ss R Z ∧ (∀ v H' s, Same H H' → RR (lay K J H) H' v s → R s → Q v H') ∧ (Z → ∀ H', Same H H' → E (.ref C) none H')
section
variable {P : Program} {w : World} {K : PySem.W.Frag} {mg : Str → Option Value} {base : Heap} {J : Jar}
theorem good_of' {CX : CXT} {N : List Str} {qual : Str} {scope : Scope} {f : Addr} {cdv : Value} {A : Around} {outer : List Env} {s : Shared} {H : Hp} {E : XK} {k : Nat} (hs : ∃ o, base.get? sysModules = some o) (nd : N.Nodup) (hg : A.guards = some [])
    (hr : Room k (A.deeper (envOfC qual scope s.heap.objs.size f cdv))) : Good (cxOf CX P w K mg base N qual scope f cdv A outer s H E) := ⟨rfl, hg, hs, by have := hr.un; show (A.deeper (envOfC qual scope s.heap.objs.size f cdv)).units + 200 < cLine; omega, nd⟩
theorem fnx_ok {f C : Addr} {fd : FuncData} {x qual : Str} {st : Stmt} {N ps : List Str} {k : Nat} {F : FnE} {t : Prop → TSd} (Fn : Fun K x qual st f fd) (S0 : FnScope N ps (defScope st)) (hs : ∃ o, base.get? sysModules = some o)
    (body : ∀ (cdv : Value) (A : Around) (outer : List Env) (s : Shared) (H : Hp) (E : XK) (Z : Prop), A.guards = some [] → Room k (A.deeper (envOfC qual (defScope st) s.heap.objs.size f cdv)) → Good (cxOf (L2.CX P w) P w K mg base N qual (defScope st) f cdv A outer s H E) →
      PassesOwn (model P w) (cxOf (L2.CX P w) P w K mg base N qual (defScope st) f cdv A outer s H E).A (cxOf (L2.CX P w) P w K mg base N qual (defScope st) f cdv A outer s H E).env (cxOf (L2.CX P w) P w K mg base N qual (defScope st) f cdv A outer s H E).xe →
      Takes (cxOf (L2.CX P w) P w K mg base N qual (defScope st) f cdv A outer s H E) (fun cls d _ H' => E cls d H') → (∀ H', Same H H' → Z → E (.ref C) none H') →
      PSs (cxOf (L2.CX P w) P w K mg base N qual (defScope st) f cdv A outer s H E) (defBody st) (tS (lay K J H) (t Z)))
    (math : ∀ ss R Z, ss.length = ps.length → F ss R Z → t Z { nx := fun _ => R (.d .none), rt := R } (ss ++ List.replicate (N.length - ps.length) .un)) :
    FnG P w K mg base (L2.CX P w) (k + 1) f fd ps (spX K J ps.length C F) := by
  refine fng_of Fn S0 (fun vs H Q E h => ?_) fun cdv A outer s H vs Q E hg hr h => ?_
  · obtain ⟨ss, R, Z, fr, hl, _⟩ := h
    rw [fr.len, hl]
  · obtain ⟨ss, R, Z, fr, hl, hF, fin, hz⟩ := h
    refine ⟨_, body cdv A outer s H E Z hg hr (good_of' hs S0.nd hg hr) (passes_of rfl) (takes_of rfl rfl rfl rfl) (fun H' sm z => hz z H' sm), ss ++ List.replicate (N.length - ps.length) .un, { nx := fun _ => R (.d .none), rt := R }, ?_, math ss R Z hl hF, fun σ' H' ρ' k r n => ?_, fun v H' s k sm rr n => fin v H' s sm rr n, fun _ _ _ _ _ n => n, fun _ _ _ _ _ n => n⟩
    · have hv := fr.len
      unfold L2.start
      rw [hv, hl]
      exact brA_start fr rfl
    · exact fin .non H' (.d .none) r.same .non n
end
/-! calls of such defs, in the body of a try -/
def tEX (L : Lay) (C : Addr) (W : WX) (t : (En → Prop) → TEd) : TE := fun σ H Q' => ∃ ρ Q Z, Rel L H σ ρ ∧ t Z ρ Q ∧ (∀ v H' s ρ', Go σ ρ ρ' H H' → Rel L H' σ ρ' → VR L H H' v s → Q s ρ' → Q' v H') ∧ (∀ H' ρ', Go σ ρ ρ' H H' → Rel L H' σ ρ' → Z ρ' → W (.ref C) none σ H')
def tSX (L : Lay) (C : Addr) (W : WX) (t : (En → Prop) → TSd) : TS := fun D σ H => ∃ ρ De Z, Rel L H σ ρ ∧ t Z De ρ ∧ (∀ σ' H' ρ', Keep H H' → Rel L H' σ' ρ' → De.nx ρ' → D.nx σ' H') ∧ (∀ v H' s, Keep H H' → Same L.H0 H' → RR L H' v s → De.rt s → D.rt v H') ∧
  (∀ σ' H' ρ', Keep H H' → Rel L H' σ' ρ' → De.bk ρ' → D.bk σ' H') ∧ (∀ σ' H' ρ', Keep H H' → Rel L H' σ' ρ' → De.ct ρ' → D.ct σ' H') ∧ (∀ σ' H' ρ', Keep H H' → Rel L H' σ' ρ' → Z ρ' → W (.ref C) none σ' H')
def dCallX (F : FnE) (n : Nat) (Z : En → Prop) (ta : TAd) : TEd := fun ρ Q => ta ρ fun ss ρ1 => ss.length = n ∧ F ss (fun s => Q s ρ1) (Z ρ1)
def dCallKX (F : FnE) (n : Nat) (gS : List S → List S) (Z : En → Prop) (ta : TAd) : TEd := fun ρ Q => ta ρ fun ss ρ1 => (gS ss).length = n ∧ F (gS ss) (fun s => Q s ρ1) (Z ρ1)
section
variable {X : Cx} {L : Lay} {C : Addr} {W : WX} {pos p : Pos} {e c a b : Expr} {es : List Expr} {tas tks : TAd} {F : FnE} {x : Str} {f : Addr} {fd : FuncData} {ps ks : List Str} {k : Nat} {kws : List Keyword} {te : TEd} {tq : TTd} {ta tb : (En → Prop) → TEd}
theorem g_callS {sp : Sp} {E : L2.St → XK} {t : TA} (Fn : FnG X.prog X.w X.K X.mg X.base (L2.CX X.prog X.w) k f fd ps sp) (hr : Room k X.A) (gd : X.A.guards = some []) (hg : Gl X x) (hm : X.mg x = some (.ref f)) (hk : PySem.W.keepIn X.K (.ref f) = true) (hb : Binds X.K fd ps []) (hx : ∀ σ, PassesAt (L2.CX X.prog X.w) X σ (E σ))
    (ha : PA X (e :: es) t) (hdb : (x == ("__debug__" : Str)) = false := by decide) (he : starEach (e :: es) X.env = (false, eval e X.env) :: starEach es X.env := by rfl)
    (hpl : (backTo pos (starEach es X.env)).any (·.1) = false := by rfl) : PE X (.Call (.Name x p) (e :: es) [] pos) (fun σ H Q => t σ H fun vs H1 => sp vs H1 Q (E σ)) := by
  constructor
  intro pins s σ H Q I h
  refine wpAny_Call_Name_kw (ld_glob I hg hm ?_ hdb)
  refine PySem.W.callWith_K (h₀ := X.base) I.ok.mod.kin hk (thn (ha.run pos pins s σ H _ I h) fun us s1 z => ?_) he hpl
  obtain ⟨vs, H1, I1, r, q⟩ := z
  refine ⟨I1.kIn, ?_⟩
  have hl : us.length = ps.length := by rw [← r.length]; exact Fn.arity _ _ _ _ q
  have bb := hb s1 us I1.kIn (by simpa using hl)
  rw [List.append_nil] at bb
  refine wpAny_call (codeAny_mono (Fn.go X.A X.stack s1 H1 ⟨us, []⟩ us vs Q (E σ) gd hr I1.env0 bb r q) fun r2 s' hq => ?_)
  match r2, hq with
  | .error e, hq => exact hx σ pins H1 s1 e s' I1 hq
  | .ok (.ret u), hq => exact I1.after hq
  | .ok .next, hq => exact False.elim hq
  | .ok .brk, hq => exact False.elim hq
  | .ok .cont, hq => exact False.elim hq
theorem g_kwS {gV : List V → List V} {g : List Value → List Value} {sp : Sp} {E : L2.St → XK} {tk : TA} (Fn : FnG X.prog X.w X.K X.mg X.base (L2.CX X.prog X.w) k f fd ps sp) (hr : Room k X.A) (gd : X.A.guards = some []) (hg : Gl X x) (hm : X.mg x = some (.ref f)) (hk : PySem.W.keepIn X.K (.ref f) = true)
    (hto : ∀ (s : Shared) (ws : List Value), (g ws).length = ps.length → BindsTo s fd ⟨[], ks.zip ws⟩ (ps.zip (g ws))) (hrel : ∀ {zs : List V} {ws : List Value}, Vals zs ws → Vals (gV zs) (g ws)) (hx : ∀ σ, PassesAt (L2.CX X.prog X.w) X σ (E σ)) (hkw : PK X kws tk) (hall : (backToKw pos (keywordEach kws X.env)).all (·.1.isSome) = true := by rfl)
    (hks : (backToKw pos (keywordEach kws X.env)).filterMap (·.1) = ks := by rfl) (hdb : (x == ("__debug__" : Str)) = false := by decide)
    (hpl : ((backTo pos (starEach [] X.env)).any (·.1) || (backToKw pos (keywordEach kws X.env)).any (·.1.isNone)) = false := by rfl) :
    PE X (.Call (.Name x p) [] kws pos) fun σ H Q => tk σ H fun zs H2 => sp (gV zs) H2 Q (E σ) := by
  constructor
  intro pins s σ H Q I h
  refine wpAny_Call_Name_kw (ld_glob I hg hm ?_ hdb)
  refine PySem.W.callWith_KW0 (h₀ := X.base) I.ok.mod.kin hk hall (thn (hkw.run pos pins s σ H _ I h) fun ws s2 z => ?_) hpl
  obtain ⟨zs, H2, I2, rz, q⟩ := z
  refine ⟨I2.kIn, ?_⟩
  rw [hks]
  have r2 := hrel rz
  have hl : (g ws).length = ps.length := by rw [← r2.length]; exact Fn.arity _ _ _ _ q
  refine wpAny_call (codeAny_mono (Fn.go X.A X.stack s2 H2 ⟨[], ks.zip ws⟩ (g ws) (gV zs) Q (E σ) gd hr I2.env0 (hto s2 ws hl) r2 q) fun r3 s' hq => ?_)
  match r3, hq with
  | .error e, hq => exact hx σ pins H2 s2 e s' I2 hq
  | .ok (.ret u), hq => exact I2.after hq
  | .ok .next, hq => exact False.elim hq
  | .ok .brk, hq => exact False.elim hq
  | .ok .cont, hq => exact False.elim hq
theorem de_liftX (h : PE X e (tE L te)) : PE X e (tEX L C W fun _ => te) := h.less fun σ H Q' q => by
  obtain ⟨ρ, Q, Z, r, q, fin, _⟩ := q
  exact ⟨ρ, Q, r, q, fin⟩
theorem de_callX (hK : L.K = X.K) (Fn : FnG X.prog X.w X.K X.mg X.base (L2.CX X.prog X.w) k f fd ps (spX X.K L.J ps.length C F)) (hr : Room k X.A) (g : Good X) (hg : Gl X x) (hm : X.mg x = some (.ref f)) (hk : PySem.W.keepIn X.K (.ref f) = true) (hb : Binds X.K fd ps [])
    (tk : Takes X W) (ha : PA X (e :: es) (tA L tas)) (hdb : (x == ("__debug__" : Str)) = false := by decide) (he : starEach (e :: es) X.env = (false, eval e X.env) :: starEach es X.env := by rfl)
    (hpl : (backTo pos (starEach es X.env)).any (·.1) = false := by rfl) : PE X (.Call (.Name x p) (e :: es) [] pos) (tEX L C W fun Z => dCallX F ps.length Z tas) :=
  (g_callS (E := WE W) Fn hr g.gd hg hm hk hb (fun σ => passAt tk σ) ha hdb he hpl).less fun σ H Q' h => by
    obtain ⟨ρ, Q, Z, r, q, fin, hz⟩ := h
    refine ⟨ρ, _, r, q, fun vs H1 ss ρ1 go r1 hv q1 => ?_⟩
    refine ⟨ss, _, _, ?_, q1.1, q1.2, fun v H2 s sm rr q2 => fin v H2 s ρ1 (go.tr (Go.sm sm)) (r1.go sm) (rr_vr r1 go (by rw [hK]; exact rr)) q2, fun z H2 sm => hz H2 ρ1 (go.tr (Go.sm sm)) (r1.go sm) z⟩
    rw [← hK]; exact hv.lay
theorem de_callKX {gV : List V → List V} {g : List Value → List Value} {gS : List S → List S} (hK : L.K = X.K) (Fn : FnG X.prog X.w X.K X.mg X.base (L2.CX X.prog X.w) k f fd ps (spX X.K L.J ps.length C F)) (hr : Room k X.A) (gd : Good X) (hg : Gl X x) (hm : X.mg x = some (.ref f)) (hk : PySem.W.keepIn X.K (.ref f) = true)
    (hb : Perm X.K fd ps ks g gV gS) (tk : Takes X W) (hkw : PK X kws (tA L tks)) (hall : (backToKw pos (keywordEach kws X.env)).all (·.1.isSome) = true := by rfl)
    (hks : (backToKw pos (keywordEach kws X.env)).filterMap (·.1) = ks := by rfl) (hdb : (x == ("__debug__" : Str)) = false := by decide)
    (hpl : ((backTo pos (starEach [] X.env)).any (·.1) || (backToKw pos (keywordEach kws X.env)).any (·.1.isNone)) = false := by rfl) :
    PE X (.Call (.Name x p) [] kws pos) (tEX L C W fun Z => dCallKX F ps.length gS Z tks) :=
  (g_kwS (E := WE W) Fn hr gd.gd hg hm hk hb.to hb.rel (fun σ => passAt tk σ) hkw hall hks hdb hpl).less fun σ H Q' h => by
    obtain ⟨ρ, Q, Z, r, q, fin, hz⟩ := h
    refine ⟨ρ, _, r, q, fun vs H1 ss ρ1 go r1 hv q1 => ?_⟩
    refine ⟨gS ss, _, _, ?_, q1.1, q1.2, fun v H2 s sm rr q2 => fin v H2 s ρ1 (go.tr (Go.sm sm)) (r1.go sm) (rr_vr r1 go (by rw [hK]; exact rr)) q2, fun z H2 sm => hz H2 ρ1 (go.tr (Go.sm sm)) (r1.go sm) z⟩
    rw [← hK]; exact hb.fr hv.lay
theorem de_ifX (h : PT X c (tT L tq)) (ha : PE X a (tEX L C W ta)) (hb : PE X b (tEX L C W tb)) : PE X (.IfExp c a b pos) (tEX L C W fun Z => dIf tq (ta Z) (tb Z)) := by
  refine (pe_ifExp h ha hb).less fun σ H Q' h => ?_
  obtain ⟨ρ, Q, Z, r0, q, fin, hz⟩ := h
  refine ⟨ρ, _, r0, q, fun b H1 ρ1 k1 r1 q1 => ?_⟩
  cases b with
  | true => exact ⟨ρ1, _, Z, r1, by simpa using q1, fun v H2 s ρ2 k2 r2 hv q2 => fin v H2 s ρ2 (k1.tr k2) r2 (hv.back k1) q2, fun H2 ρ2 k2 r2 z => hz H2 ρ2 (k1.tr k2) r2 z⟩
  | false => exact ⟨ρ1, _, Z, r1, by simpa using q1, fun v H2 s ρ2 k2 r2 hv q2 => fin v H2 s ρ2 (k1.tr k2) r2 (hv.back k1) q2, fun H2 ρ2 k2 r2 z => hz H2 ρ2 (k1.tr k2) r2 z⟩
theorem ds_retX (he : PE X e (tEX L C W ta)) : PS X (.Return (some e) pos) (tSX L C W fun Z => dRet (ta Z)) := (ps_ret he).less fun D σ H q => by
  obtain ⟨ρ, De, Z, r, q, h1, h2, h3, h4, hz⟩ := q
  exact ⟨ρ, _, Z, r, q, fun v H' s ρ' go r' hv n => h2 _ _ _ (go.keep r) r'.same hv.rr n, fun H' ρ' go r' z => hz σ H' ρ' (go.keep r) r' z⟩
theorem ds_setX {i : Nat} {x : Str} {pos' : Pos} (g : Good X) (hi : X.N[i]? = some x) (hx : Loc X.env.scope x) (he : PE X e (tEX L C W ta)) (hs : swapsWith e (some (.Name x pos')) pos.line X.env = pure false := by rfl)
    (hf : X.fn x = true ∨ X.env.scope.names.lookup x = some .local := by first | exact .inl rfl | exact .inr rfl | assumption) : PS X (.Assign [.Name x pos'] e pos) (tSX L C W fun Z => dSet i (ta Z)) :=
  (ps_set g.nd hi hx he hs hf).less fun D σ H q => by
    obtain ⟨ρ, De, Z, r, q, h1, h2, h3, h4, hz⟩ := q
    exact ⟨ρ, _, Z, r, q, fun v H' s ρ' go r' hv n => h1 _ _ _ (go.keep r) (r.set r' go hv) n, fun H' ρ' go r' z => hz σ H' ρ' (go.keep r) r' z⟩
end
/-! try: body, except C as n: suite -/
def dTry (t : (En → Prop) → TSd) (i : Nat) (u : TSd) : TSd := fun D ρ => t (fun ρ1 => i < ρ1.length ∧ u { nx := fun ρ2 => D.nx (ρ2.set i .un), rt := D.rt, bk := fun ρ2 => D.bk (ρ2.set i .un), ct := fun ρ2 => D.ct (ρ2.set i .un) } (ρ1.set i .un)) D ρ
theorem Rel.setU {L : Lay} {H : Hp} {σ : L2.St} {ρ : En} (r : Rel L H σ ρ) (i : Nat) (v : Option V) : Rel L H (σ.set i v) (ρ.set i .un) := by
  have sub : ∀ (j : Nat) (s : S), (ρ.set i .un)[j]? = some s → s = .un ∨ (j ≠ i ∧ ρ[j]? = some s) := fun j s e => by
    by_cases h : i = j
    · subst h
      by_cases hl : i < ρ.length
      · rw [List.getElem?_set_self hl] at e; cases e; exact .inl rfl
      · rw [List.getElem?_eq_none (by simpa using hl)] at e; cases e
    · rw [List.getElem?_set_ne h] at e
      exact .inr ⟨Ne.symm h, e⟩
  refine ⟨by simp [r.len], fun j s e => ?_, fun j k xs ys e1 e2 e3 => ?_, r.same⟩
  · rcases sub j s e with rfl | ⟨n, e⟩
    · trivial
    · rw [List.getElem?_set_ne (Ne.symm n)]
      exact r.at' j s e
  · rcases sub j _ e1 with q | ⟨n1, q1⟩
    · cases q
    · rcases sub k _ e2 with q | ⟨n2, q2⟩
      · cases q
      · rw [List.getElem?_set_ne (Ne.symm n1), List.getElem?_set_ne (Ne.symm n2)] at e3
        exact r.sep j k xs ys q1 q2 e3
/-- what a suite knows of its error -/
def sG (i : Nat) (a C : Addr) (cls : Value) (d : Option Addr) (σ : L2.St) : Prop := σ[i]? = some (some (.ref a)) ∧ cls = .ref C ∧ d = none
section
variable {X : Cx} {L : Lay} {C : Addr} {x n : Str} {i : Nat} {body suite : List Stmt} {b₀ : Stmt} {np pos pos' : Pos} {t : (En → Prop) → TSd} {u : TSd}
theorem ds_try (g : Good X) (hs : X.stack = X.env :: X.outer) (hf : X.env.frame = some X.env.locals) (hi : X.N[i]? = some n) (hln : X.env.kindOf n = some .local) (c : ExC X.K X.mg x C) (hg : Gl X x) 
    (hb : ∀ (W : WX) (pn : List (Addr × Obj)) (xe : Value → Shared → Prop), Good (X.tr pn xe) → Takes (X.tr pn xe) W → PassesOwn (model X.prog X.w) X.A X.env xe → PSs (X.tr pn xe) body (tSX L C W t))
    (hsu : ∀ (a : Addr) (oe : Obj) (cls : Value) (d : Option Addr) (pn : List (Addr × Obj)), Zc cls d oe → (∃ vs, oe.data = .fields vs) → PSs (X.suite a ((a, oe) :: pn)) (b₀ :: suite) (fun D σ H => sG i a C cls d σ ∧ tS L u D σ H)) (hdb : (x == ("__debug__" : Str)) = false := by decide) :
    PS X (.Try body [.ExceptHandler (some (.Name x np)) (some n) (b₀ :: suite) pos'] [] [] pos) (tS L (dTry t i u)) :=
  (ps_try_as (i := i) (tb := fun W => tSX L C W t) (ts := fun a cls d D σ H => sG i a C cls d σ ∧ tS L u D σ H) (Wout := fun _ _ _ _ => False) hs hf g.nd hi hln ⟨hg, hdb, .inl c.gC⟩ takes0
    (fun W pn xe tk po => hb W pn xe ⟨g.calm, g.gd, g.sys, g.un, g.nd⟩ tk po) hsu).less fun D σ H q => by
    obtain ⟨ρ, De, r, q, h1, h2, h3, h4⟩ := q
    refine ⟨ρ, De, _, r, q, h1, h2, h3, h4, fun σ' H' ρ' k r' z => ⟨true, c.eC, fun _ a ha => ?_, fun z => nomatch z⟩⟩
    obtain ⟨hl, z⟩ := z
    refine ⟨⟨by rw [List.getElem?_set_self (by rw [r'.len]; exact hl)], rfl, rfl⟩, ρ'.set i .un, _, r'.setU i _, z, fun σ2 H2 ρ2 k2 r2 n => h1 _ _ _ (k.tr k2) (r2.setU i none) n, fun v H2 s k2 sm rr n => h2 v H2 s (k.tr k2) sm rr n, fun σ2 H2 ρ2 k2 r2 n => h3 _ _ _ (k.tr k2) (r2.setU i none) n, fun σ2 H2 ρ2 k2 r2 n => h4 _ _ _ (k.tr k2) (r2.setU i none) n⟩
end
/-! the suite's expressions -/
structure ExI (K : PySem.W.Frag) (C G : Addr) : Prop where
  hcl : (PySem.W.clsIn K C).isSome = true
  ga : PySem.W.findIn K (.ref C) "__getattribute__" = some (some (.builtin "BaseException.__getattribute__"))
  gg : ∃ gt, PySem.W.findIn K (.ref C) "__getattr__" = some gt
  ha : PySem.W.findIn K (.ref C) "__class__" = some (some (.builtin "object.__class__"))
  hn : PySem.W.specialIn K (.builtin "object.__class__") "__get__" = some (some (.builtin "getset_descriptor.__get__"))
  htk : PySem.W.takesIn K (.builtin "object.__class__") = some true
  hm : PySem.W.mroIn K C (.type "object") = some true
  bC : PySem.W.subIn K (.ref C) (.type "BaseException") = some true
  one : PySem.W.kitOne K (.ref C) (.ref G) = some true
def tGu (g : L2.St → Prop) (t : TE) : TE := fun σ H Q => g σ ∧ t σ H Q
def tGuT (g : L2.St → Prop) (t : TT) : TT := fun σ H Q => g σ ∧ t σ H Q
def tGuA (g : L2.St → Prop) (t : TA) : TA := fun σ H Q => g σ ∧ t σ H Q
section
variable {X : Cx} {L : Lay} {g : L2.St → Prop} {pos p : Pos} {e a b c : Expr} {es : List Expr} {tas : TAd} {te ta tb : TEd} {tq : TTd}
theorem di_lift {t : TE} (h : PE X e t) : PE X e (tGu g t) := h.less fun _ _ _ q => q.2
theorem dit_lift {t : TT} (h : PT X e t) : PT X e (tGuT g t) := h.less fun _ _ _ q => q.2
theorem dit_val (h : PE X e (tGu g (tE L te))) (he : ∀ whole, isTrue e X.env whole = (do let v ← whole; standAt e.pos; holding [v] (truthy v)) := by intro _; rfl) : PT X e (tGuT g (tT L (dB te))) :=
  (pt_val h he).less fun σ H Q' q => by
    obtain ⟨hg, ρ, Q, r, q, fin⟩ := q
    refine ⟨hg, ρ, _, r, q, fun v H1 s ρ1 k1 r1 hv q1 => ?_⟩
    obtain ⟨b, rfl, q2⟩ := q1
    have hv : Br L.K H1 v (.bool b) := hv
    cases hv
    exact ⟨b, rfl, fin b H1 ρ1 k1 r1 q2⟩
theorem dit_if (h : PT X c (tGuT g (tT L tq))) (ha : PE X a (tGu g (tE L ta))) (hb : PE X b (tGu g (tE L tb))) : PE X (.IfExp c a b pos) (tGu g (tE L (dIf tq ta tb))) := by
  refine (pe_ifExp h ha hb).less fun σ H Q' h => ?_
  obtain ⟨hg, ρ, Q, r0, q, fin⟩ := h
  refine ⟨hg, ρ, _, r0, q, fun b H1 ρ1 k1 r1 q1 => ?_⟩
  cases b with
  | true => exact ⟨hg, ρ1, _, r1, by simpa using q1, fun v H2 s ρ2 k2 r2 hv q2 => fin v H2 s ρ2 (k1.tr k2) r2 (hv.back k1) q2⟩
  | false => exact ⟨hg, ρ1, _, r1, by simpa using q1, fun v H2 s ρ2 k2 r2 hv q2 => fin v H2 s ρ2 (k1.tr k2) r2 (hv.back k1) q2⟩
theorem dia_nil : PA X [] (tGuA g (tA L dNil)) := (da_nil (L := L)).less fun _ _ _ q => q.2
theorem dia_cons (h : PE X e (tGu g (tE L te))) (hr : PA X es (tGuA g (tA L tas))) (hs : starEach (e :: es) X.env = (false, eval e X.env) :: starEach es X.env := by rfl) : PA X (e :: es) (tGuA g (tA L (dCons te tas))) := by
  refine (pa_cons h hr hs).less fun σ H Q' h => ?_
  obtain ⟨hg, ρ, Q, r0, q, fin⟩ := h
  refine ⟨hg, ρ, _, r0, q, fun v H1 s ρ1 k1 r1 hv q1 => ?_⟩
  obtain ⟨f, q2⟩ := q1
  refine ⟨hg, ρ1, _, r1, q2, fun vs H2 ss ρ2 k2 r2 hvs q3 => ?_⟩
  exact fin (v :: vs) H2 (s :: ss) ρ2 (k1.tr k2) r2 (.cons ((fr_of f hv).keep (k2.keep r1)) hvs) q3
theorem dia_lst (h : PA X es (tGuA g (tA L tas))) : PE X (.List es pos) (tGu g (tE L (dLst tas))) := by
  refine (pe_lst h).less fun σ H Q' h => ?_
  obtain ⟨hg, ρ, Q, r0, q, fin⟩ := h
  refine ⟨hg, ρ, _, r0, q, fun vs H1 ss ρ1 k1 r1 hv q1 => ?_⟩
  obtain ⟨xs, rfl, hz, q2⟩ := q1
  have hb := frs_brA hv
  refine ⟨by rw [hb.len]; exact hz, fun p hp => ?_⟩
  have sm := same_new (o := .lst vs) hp
  exact fin _ _ (.own xs) ρ1 (k1.tr (Go.sm sm)) (r1.go sm) (NR.vr (s := .own xs) r1 sm k1 ⟨p, vs, rfl, hp, upd_same, BrA.keep (keep_of_same sm) _ _ hb⟩) q2
theorem dis_ret (h : PE X e (tGu g (tE L te))) : PSs X [.Return (some e) pos] (fun D σ H => g σ ∧ tS L (dRet te) D σ H) := (pss_one (ps_ret h)).less fun D σ H q => by
  obtain ⟨hg, ρ, De, r, q, h1, h2, h3, h4⟩ := q
  exact ⟨hg, ρ, _, r, q, fun v H' s ρ' go r' hv n => h2 _ _ _ (go.keep r) r'.same hv.rr n⟩
end
section
variable {X : Cx} {L : Lay} {i : Nat} {a C G : Addr} {oe : Obj} {cls : Value} {d : Option Addr} {pn : List (Addr × Obj)} {n x : Str} {p p1 p2 pos : Pos}
theorem call_isx (hz : Zc cls d oe) (hf : ∃ vs, oe.data = .fields vs) (c : ExI X.K C G) : CallR (X.suite a ((a, oe) :: pn)) (.builtin "isinstance") (fun xs H Q => xs = [.ref a, .ref G] ∧ cls = .ref C ∧ d = none ∧ Q (.bl true) H) := by
  intro pins s σ H xs us Q I r h
  obtain ⟨rfl, ec, ed, q⟩ := h
  obtain ⟨u1, u2, rfl, r1, r2⟩ := vals2 r
  cases (show u1 = Value.ref a from r1)
  cases (show u2 = Value.ref G from r2)
  subst ec
  subst ed
  obtain ⟨ha, _⟩ := I.pin (a, oe) (List.mem_append_left _ List.mem_cons_self)
  obtain ⟨vs, hd⟩ := hf
  have J : PySem.W.InstAt s.heap a oe C none := ⟨ha, hz.1, by unfold PySem.W.notCls; rw [hd] <;> rfl, by rw [hz.2]; trivial⟩
  obtain ⟨gt, gg⟩ := c.gg
  exact PySem.W.kia_one (PySem.W.kitx_exc (x := a) (ox := oe) (od := none) c.hcl c.ga gg c.bC c.ha c.hn c.htk c.hm) I.kIn J c.one (fun z => nomatch z) fun tk => ⟨.bl true, H, I.tok tk, rfl, q⟩
theorem dis_isx (hz : Zc cls d oe) (hf : ∃ vs, oe.data = .fields vs) (c : ExI X.K C G) (hN : X.N[i]? = some n) (hv : Vis X.env.scope n) (hg : Gl (X.suite a ((a, oe) :: pn)) "isinstance") (hm : X.mg "isinstance" = none) (hgG : Gl (X.suite a ((a, oe) :: pn)) x) (hmG : X.mg x = some (.ref G))
    (hdn : (n == ("__debug__" : Str)) = false := by decide) (hcd : (n == ("__classdict__" : Str)) = false := by decide) (hdx : (x == ("__debug__" : Str)) = false := by decide) (hb : bootBuiltins "isinstance" = some (.builtin "isinstance") := by decide +kernel)
    (h1 : starEach ((.Name n p1) :: [.Name x p2]) X.env = (false, eval (.Name n p1) X.env) :: starEach [.Name x p2] X.env := by rfl) (h2 : starEach ([.Name x p2]) X.env = (false, eval (.Name x p2) X.env) :: starEach [] X.env := by rfl)
    (hpl : (backTo pos (starEach [.Name x p2] X.env)).any (·.1) = false := by rfl) :
    PE (X.suite a ((a, oe) :: pn)) (.Call (.Name "isinstance" p) [.Name n p1, .Name x p2] [] pos) (tGu (sG i a C cls d) (tE L (dK (.bool true)))) :=
  (pe_callB (X := X.suite a ((a, oe) :: pn)) (call_isx (X := X) (pn := pn) hz hf c) hg hm hb (pa_cons (pe_var (X := X.suite a ((a, oe) :: pn)) hN hv hdn hcd) (pa_cons (pe_glob (X := X.suite a ((a, oe) :: pn)) (v := .ref G) hgG hmG rfl hdx) pa_nil h2) h1) (by decide) (by decide) h1 hpl).less fun σ H Q' q => by
    obtain ⟨⟨e, ec, ed⟩, ρ, Q, r, q, fin⟩ := q
    exact ⟨.ref a, e, rfl, ec, ed, fin _ H (.d (.bool true)) ρ Go.rf r (.bl _) q⟩
end
/-! a def that raises, where it doesn't -/
theorem FnG.calm {P : Program} {w : World} {K : PySem.W.Frag} {mg : Str → Option Value} {base : Heap} {J : Jar} {k n : Nat} {f C : Addr} {fd : FuncData} {ps : List Str} {F : FnE} (Fn : FnG P w K mg base (L2.CX P w) k f fd ps (spX K J n C F)) :
    FnG P w K mg base CX0 k f fd ps (spD K J n fun ss R => F ss R False) := by
  have up : ∀ vs H Q E, spD K J n (fun ss R => F ss R False) vs H Q E → spX K J n C F vs H Q (fun _ _ _ => False) := fun vs H Q E h => by
    obtain ⟨ss, R, fr, hl, hF, fin⟩ := h
    exact ⟨ss, R, False, fr, hl, hF, fin, fun z => z.elim⟩
  refine ⟨fun vs H Q E h => Fn.arity vs H Q _ (up vs H Q E h), fun A outer s H args us vs Q E hg hr he hb hv h => codeAny_mono (Fn.go A outer s H args us vs Q _ hg hr he hb hv (up vs H Q E h)) fun r s' hq => ?_⟩
  cases r with
  | error e =>
    obtain ⟨_, _, _, _, _, _, _, _, _, _, _, _, z⟩ := (show L2.CX P w outer H s (fun _ _ _ => False) e s' from hq)
    exact z.elim
  | ok fl => cases fl <;> exact hq
theorem exm_own {K : PySem.W.Frag} {C : Addr} (h1 : PySem.W.subIn K (.ref C) (.type "BaseException") = some true) (h2 : PySem.W.isClsIn K C = true) (h3 : PySem.W.typeIn K (.ref C) = some (.type "type")) (h4 : PySem.W.subIn K (.ref C) (.ref C) = some true) :
    PySem.W.exmOne K (.ref C) (.ref C) = some true := by
  have e1 : (PySem.W.subIn K (.ref C) (.type "BaseException") == some true) = true := by rw [h1] <;> rfl
  have e2 : ((PySem.W.clsIn K C).isSome && PySem.W.typeIn K (.ref C) == some (.type "type")) = true := by
    have h2' : (PySem.W.clsIn K C).isSome = true := h2
    rw [h2', h3] <;> rfl
  show (if (PySem.W.subIn K (.ref C) (.type "BaseException") == some true) = true then (if ((PySem.W.clsIn K C).isSome && PySem.W.typeIn K (.ref C) == some (.type "type")) = true then PySem.W.subIn K (.ref C) (.ref C) else none) else none) = some true
  rw [if_pos e1, if_pos e2]
  exact h4
theorem exC_mk {K : PySem.W.Frag} {mg : Str → Option Value} {x : Str} {C : Addr} (gC : mg x = some (.ref C)) (kC : PySem.W.keepIn K (.ref C) = true) (xC : PySem.W.excIn K C [.type "ValueError", .type "Exception", .type "BaseException", .type "object"] "ValueError.__new__" = true)
    (bC : PySem.W.subIn K (.ref C) (.type "BaseException") = some true) (tC : PySem.W.typeIn K (.ref C) = some (.type "type")) (iC : PySem.W.isClsIn K C = true) (sC : PySem.W.subIn K (.ref C) (.ref C) = some true) : ExC K mg x C :=
  ⟨gC, kC, ⟨_, PySem.F.excBase_ValueError, xC⟩, bC, tC, exm_own bC iC tC sC⟩
/-! not of a tuple -/
def dNotTu (t : TEd) : TEd := fun ρ Q => t ρ fun s ρ1 => ∃ xs, s = .d (.tuple xs) ∧ Q (.d (.bool xs.isEmpty)) ρ1
theorem de_notTu {X : Cx} {L : Lay} {e : Expr} {t : TEd} {pos : Pos} (hK : L.K = X.K) (h : PE X e (tE L t)) : PE X (.UnaryOp .Not e pos) (tE L (dNotTu t)) :=
  (pe_notT h).less fun σ H Q' h => by
    obtain ⟨ρ, Q, r0, q, fin⟩ := h
    refine (show tE L t σ H _ from ⟨ρ, _, r0, q, fun v H1 s ρ1 k1 r1 hv q1 => ?_⟩)
    obtain ⟨xs, rfl, q2⟩ := q1
    have hv : Br L.K H1 v (.tuple xs) := hv
    cases hv with
    | @tup a vs _ h1 h3 =>
      have e : vs.isEmpty = xs.isEmpty := by
        have := h3.len
        cases vs <;> cases xs <;> first | rfl | simp at this
      refine ⟨!vs.isEmpty, .inr (.inl ⟨vs, hK ▸ h1, rfl⟩), ?_⟩
      rw [Bool.not_not, e]
      exact fin _ H1 (.d (.bool xs.isEmpty)) ρ1 k1 r1 (.bl _) q2
section
variable {t : TEd} {as : TAd} {ρ : En} {D : EndsD} {Q : S → En → Prop}
theorem e_raise {Z : Prop} : dRaise Z D ρ ↔ Z := Iff.rfl
theorem e_try {u : (En → Prop) → TSd} {i : Nat} {v : TSd} : dTry u i v D ρ ↔ u (fun ρ1 => i < ρ1.length ∧ v { nx := fun ρ2 => D.nx (ρ2.set i .un), rt := D.rt, bk := fun ρ2 => D.bk (ρ2.set i .un), ct := fun ρ2 => D.ct (ρ2.set i .un) } (ρ1.set i .un)) D ρ := Iff.rfl
theorem e_callX {F : FnE} {n : Nat} {Z : En → Prop} : dCallX F n Z as ρ Q ↔ as ρ fun ss ρ1 => ss.length = n ∧ F ss (fun s => Q s ρ1) (Z ρ1) := Iff.rfl
theorem e_callKX {F : FnE} {n : Nat} {gS : List S → List S} {Z : En → Prop} : dCallKX F n gS Z as ρ Q ↔ as ρ fun ss ρ1 => (gS ss).length = n ∧ F (gS ss) (fun s => Q s ρ1) (Z ρ1) := Iff.rfl
theorem e_notTu {Q : S → En → Prop} : dNotTu t ρ Q ↔ t ρ fun s ρ1 => ∃ xs, s = .d (.tuple xs) ∧ Q (.d (.bool xs.isEmpty)) ρ1 := Iff.rfl
end
end GB

set_option maxRecDepth 100000
namespace GB
open PySem PySem.Spec PyProof.Rows L2
/-! all, of a list of bools -/
def fAll : FN := fun xs Q => ∃ bs : List Bool, xs = [.list (bs.map .bool)] ∧ Q (.d (.bool (bs.all id)))
theorem c_all {X : Cx} {L : Lay} (hK : L.K = X.K) (gd : Good X) : CallR X (.builtin "all") (rN L fAll) := by
  intro pins s σ H vs us Q' I r q
  obtain ⟨xs, Q, b, ⟨bs, rfl, q⟩, fin⟩ := q
  obtain ⟨v, rfl, b1⟩ := brA1 hK b
  obtain ⟨a, ws, rfl, h1, h3⟩ := list_sq hK b1
  obtain rfl := br_bls h3
  exact cr_all gd.calm pins s σ H _ us Q' I r ⟨a, bs, rfl, h1, fin _ H (.d (.bool (bs.all id))) (Same.refl H) (.bl _) q⟩
/-! the truth of an int -/
def dIu (t : TEd) : TTd := fun ρ Q => t ρ fun s ρ1 => ∃ i : Int, s = .d (.int i) ∧ Q (i != 0) ρ1
theorem dt_iu {X : Cx} {L : Lay} {e : Expr} {t : TEd} (hK : L.K = X.K) (h : PE X e (tE L t)) (he : ∀ whole, isTrue e X.env whole = (do let v ← whole; standAt e.pos; holding [v] (truthy v)) := by intro _; rfl) : PT X e (tT L (dIu t)) :=
  (pt_truth h he).less fun σ H Q' h => by
    obtain ⟨ρ, Q, r0, q, fin⟩ := h
    refine (show tE L t σ H _ from ⟨ρ, _, r0, q, fun v H1 s ρ1 k1 r1 hv q1 => ?_⟩)
    obtain ⟨i, rfl, q2⟩ := q1
    have hv : Br L.K H1 v (.int i) := hv
    cases hv
    exact ⟨i != 0, (show (i != 0) = (i != 0) from rfl), fin _ H1 ρ1 k1 r1 q2⟩
theorem e_iu {t : TEd} {ρ : En} {Q : Bool → En → Prop} : dIu t ρ Q ↔ t ρ fun s ρ1 => intK s fun i => Q (i != 0) ρ1 := Iff.rfl
theorem e_irng2 {t u : TEd} {ρ : En} {QI : List PyData → En → Prop} : dIRng2 t u ρ QI ↔ t ρ fun s ρ1 => u ρ1 fun s2 ρ2 => intK s fun i => intK s2 fun j => (-(2 ^ 60) < i ∧ i < 2 ^ 60 ∧ -(2 ^ 60) < j ∧ j < 2 ^ 60) ∧ QI (irow i (j - i).toNat) ρ2 := by
  have e : ∀ (s1 s2 : S) (P : Int → Int → Prop), (∃ x y, s1 = .d (.int x) ∧ s2 = .d (.int y) ∧ P x y) ↔ (intK s1 fun x => intK s2 fun y => P x y) := fun s1 s2 P => ⟨fun ⟨x, y, a, b, h⟩ => ⟨x, a, y, b, h⟩, fun ⟨x, a, y, b, h⟩ => ⟨x, y, a, b, h⟩⟩
  unfold dIRng2
  simp only [e]
end GB

set_option maxRecDepth 100000
namespace GB
open PySem PySem.Spec PyProof.Rows L2
/-! a conditional as a test -/
theorem pt_cond {X : Cx} {c a b : Expr} {pos : Pos} {tc ta tb : TT} (hc : PT X c tc) (ha : PT X a ta) (hb : PT X b tb) : PT X (.IfExp c a b pos) (fun σ H Q => tc σ H fun k H1 => if k = true then ta σ H1 Q else tb σ H1 Q) := by
  constructor
  intro pins s σ H Q I h
  show wpAny _ _ (isTrue c X.env (eval c X.env) >>= fun k => if k = true then isTrue a X.env (eval a X.env) else isTrue b X.env (eval b X.env)) _ _ s
  refine wpAny_bind (thn (hc.run pins s σ H _ I h) fun k s1 z => ?_)
  obtain ⟨H1, I1, q1⟩ := z
  cases k with
  | true => exact ha.run pins s1 σ H1 Q I1 q1
  | false => exact hb.run pins s1 σ H1 Q I1 q1
def dIfT (t ta tb : TTd) : TTd := fun ρ Q => t ρ fun k ρ1 => if k = true then ta ρ1 Q else tb ρ1 Q
theorem dt_cond {X : Cx} {L : Lay} {c a b : Expr} {pos : Pos} {t ta tb : TTd} (hc : PT X c (tT L t)) (ha : PT X a (tT L ta)) (hb : PT X b (tT L tb)) : PT X (.IfExp c a b pos) (tT L (dIfT t ta tb)) := by
  refine (pt_cond hc ha hb).less fun σ H Q' h => ?_
  obtain ⟨ρ, Q, r0, q, fin⟩ := h
  refine ⟨ρ, _, r0, q, fun k H1 ρ1 k1 r1 q1 => ?_⟩
  cases k with
  | true => exact ⟨ρ1, _, r1, by simpa using q1, fun b H2 ρ2 k2 r2 q2 => fin b H2 ρ2 (k1.tr k2) r2 q2⟩
  | false => exact ⟨ρ1, _, r1, by simpa using q1, fun b H2 ρ2 k2 r2 q2 => fin b H2 ρ2 (k1.tr k2) r2 q2⟩
theorem e_ifT {t ta tb : TTd} {ρ : En} {Q : Bool → En → Prop} : dIfT t ta tb ρ Q ↔ t ρ fun b ρ1 => iteK b (ta ρ1 Q) (tb ρ1 Q) := Iff.rfl

/-! dicts, keys ints and texts -/
def lookD (kvs : List (Key × PyData)) (k : Key) : Option PyData := (kvs.find? fun p => decide (p.1 = k)).map (·.2)
def putD (kvs : List (Key × PyData)) (k : Key) (x : PyData) : List (Key × PyData) := if (kvs.any fun p => decide (p.1 = k)) = true then kvs.map (fun p => if p.1 = k then (p.1, x) else p) else kvs ++ [(k, x)]
abbrev dctD (kvs : List (Key × PyData)) : PyData := .dict (kvs.map fun p => (keyD p.1, p.2))
def keyO : PyData → Option Key
  | .int i => some (.inl i)
  | .str z => some (.inr z)
  | _ => none
theorem keyD_inj {a b : Key} (h : keyD a = keyD b) : a = b := by
  cases a <;> cases b <;> simp [keyD] at h <;> simp [h]
theorem keys_inj : ∀ {as bs : List Key}, as.map keyD = bs.map keyD → as = bs
  | [], [], _ => rfl
  | [], _ :: _, h => by simp at h
  | _ :: _, [], h => by simp at h
  | a :: as, b :: bs, h => by
    simp only [List.map_cons, List.cons.injEq] at h
    rw [keyD_inj h.1, keys_inj h.2]
theorem kvs_inj : ∀ {xs ys : List (Key × PyData)}, xs.map (fun p => (keyD p.1, p.2)) = ys.map (fun p => (keyD p.1, p.2)) → xs = ys
  | [], [], _ => rfl
  | [], _ :: _, h => by simp at h
  | _ :: _, [], h => by simp at h
  | p :: xs, q :: ys, h => by
    simp only [List.map_cons, List.cons.injEq, Prod.mk.injEq] at h
    obtain ⟨⟨h1, h2⟩, h3⟩ := h
    rw [kvs_inj h3]
    congr 1
    exact Prod.ext (keyD_inj h1) h2
theorem dctD_inj {xs ys : List (Key × PyData)} (h : dctD xs = dctD ys) : xs = ys := kvs_inj (PyData.dict.inj h)
def DR (L : Lay) (H : Hp) (a : Addr) (kvs : List (Key × PyData)) : Prop := ∃ vks : List (Key × V), Rd H a (.dK vks) ∧ kvs.map (·.1) = vks.map (·.1) ∧ BrA L.K H (vks.map (·.2)) (kvs.map (·.2))
section
variable {L : Lay} {H H' : Hp} {a : Addr} {kvs : List (Key × PyData)} {σ : L2.St} {ρ : En}
theorem look_rel {K : PySem.W.Frag} (k : Key) : ∀ {kvs : List (Key × PyData)} {vks : List (Key × V)}, kvs.map (·.1) = vks.map (·.1) → BrA K H (vks.map (·.2)) (kvs.map (·.2)) → (∀ x, lookD kvs k = some x → ∃ v, valV vks k = some v ∧ Br K H v x) ∧ (lookD kvs k = none → valV vks k = none)
  | [], [], _, _ => ⟨fun _ h => (nomatch h), fun _ => rfl⟩
  | [], _ :: _, h, _ => by simp at h
  | _ :: _, [], h, _ => by simp at h
  | p :: kvs, q :: vks, h, b => by
    simp only [List.map_cons, List.cons.injEq] at h
    cases b with
    | cons b1 b2 =>
      have ih := look_rel k h.2 b2
      unfold lookD valV
      rw [List.find?_cons, List.find?_cons, ← h.1]
      by_cases e : p.1 = k
      · rw [decide_eq_true e]
        exact ⟨fun x hx => ⟨q.2, rfl, by simp at hx; rw [← hx]; exact b1⟩, fun hx => by simp at hx⟩
      · rw [decide_eq_false e]
        exact ih
theorem DR.get (h : DR L H a kvs) (k : Key) : (∀ x, lookD kvs k = some x → ∃ v, DGet H a (kV k) (some v) ∧ Br L.K H v x) ∧ (lookD kvs k = none → DGet H a (kV k) none) := by
  obtain ⟨vks, h1, h2, h3⟩ := h
  obtain ⟨q1, q2⟩ := look_rel k h2 h3
  refine ⟨fun x hx => ?_, fun hx => .inl ⟨vks, k, h1, rfl, (q2 hx).symm⟩⟩
  obtain ⟨v, e, b⟩ := q1 x hx
  exact ⟨v, .inl ⟨vks, k, h1, rfl, e.symm⟩, b⟩
theorem DR.isD (h : DR L H a kvs) : IsD H a := by
  obtain ⟨vks, h1, _⟩ := h
  exact .inl ⟨vks, h1⟩
theorem dr_frz {v : V} (h : Br L.K H v (dctD kvs)) : ∃ a, v = .ref a ∧ DR L H a kvs := by
  cases h with
  | @dct a o vks _ h1 h2 h3 =>
    refine ⟨a, rfl, vks, .inr ⟨o, h1⟩, ?_, ?_⟩
    · refine keys_inj ?_
      rw [List.map_map, List.map_map]
      rw [List.map_map] at h2
      exact h2
    · rw [List.map_map] at h3
      exact h3
theorem dr_own (r : Rel L H σ ρ) {i : Nat} (h : ρ[i]? = some (.od kvs)) : ∃ a, ∃ vks : List (Key × V), σ[i]? = some (some (.ref a)) ∧ H a = some (.dK vks) ∧ kvs.map (·.1) = vks.map (·.1) ∧ BrA L.K H (vks.map (·.2)) (kvs.map (·.2)) ∧ L.H0 a = none := by
  obtain ⟨o, e, v, e2, l, vks, e3, h1, h2, h3⟩ := r.get h
  exact ⟨l, vks, by rw [e, e2, e3], h1, h2.1, h2.2, h3⟩
theorem key_br {u : V} {y : PyData} {k : Key} {K : PySem.W.Frag} (h : Br K H u y) (e : keyO y = some k) : u = kV k := by
  cases h <;> simp [keyO] at e <;> subst e <;> rfl
theorem put_rel {K : PySem.W.Frag} {k : Key} {x : PyData} {v : V} (b : Br K H v x) {kvs : List (Key × PyData)} {vks : List (Key × V)} (e : kvs.map (·.1) = vks.map (·.1)) (h : BrA K H (vks.map (·.2)) (kvs.map (·.2))) :
    (putD kvs k x).map (·.1) = (putK vks k v).map (·.1) ∧ BrA K H ((putK vks k v).map (·.2)) ((putD kvs k x).map (·.2)) := by
  have an : (kvs.any fun p => decide (p.1 = k)) = (vks.any fun p => decide (p.1 = k)) := by
    have q : (kvs.map (·.1)).any (fun j => decide (j = k)) = (vks.map (·.1)).any (fun j => decide (j = k)) := by rw [e]
    rw [List.any_map, List.any_map] at q
    exact q
  unfold putD putK
  rw [an]
  by_cases hk : (vks.any fun p => decide (p.1 = k)) = true
  · rw [if_pos hk, if_pos hk]
    clear an hk
    induction kvs generalizing vks with
    | nil => cases vks with
      | nil => exact ⟨rfl, .nil⟩
      | cons _ _ => simp at e
    | cons p kvs ih => cases vks with
      | nil => simp at e
      | cons q vks =>
        simp only [List.map_cons, List.cons.injEq] at e
        cases h with
        | cons h1 h2 =>
          obtain ⟨i1, i2⟩ := ih e.2 h2
          simp only [List.map_cons]
          have eq : q.1 = p.1 := e.1.symm
          by_cases z : p.1 = k
          · rw [if_pos z, if_pos (eq.trans z)]
            exact ⟨by simp only [e.1]; rw [i1], .cons b i2⟩
          · rw [if_neg z, if_neg (fun w => z (eq.symm.trans w))]
            exact ⟨by simp only [e.1]; rw [i1], .cons h1 i2⟩
  · rw [if_neg hk, if_neg hk]
    exact ⟨by rw [List.map_append, List.map_append, e]; rfl, by rw [List.map_append, List.map_append]; exact h.app (BrA.one b)⟩
end
/-! own dicts: readings -/
def dNewD : TEd := fun ρ Q => Q (.od []) ρ
def dPutO (i : Nat) (ti tv : TEd) : TSd := fun D ρ => tv ρ fun s ρ1 => ∃ x, s = .d x ∧ (∃ kvs, ρ1[i]? = some (.od kvs)) ∧ ti ρ1 fun s2 ρ2 => ∃ y, s2 = .d y ∧ ∃ k, keyO y = some k ∧ ∃ kvs, ρ2[i]? = some (.od kvs) ∧ kvs.length < sizeLine ∧ D.nx (ρ2.set i (.od (putD kvs k x)))
def dFixK (i : Nat) (t : TSd) : TSd := fun D ρ => ∃ kvs, ρ[i]? = some (.od kvs) ∧ t D (ρ.set i (.d (dctD kvs)))
/-- what is done with a dict and a key -/
abbrev GD := List (Key × PyData) → Key → (S → Prop) → Prop
def gItem : GD := fun kvs k Q => ∃ x, lookD kvs k = some x ∧ Q (.d x)
def gGet : GD := fun kvs k Q => Q (.d ((lookD kvs k).getD .none))
def gIn : GD := fun kvs k Q => Q (.d (.bool (lookD kvs k).isSome))
def gNotIn : GD := fun kvs k Q => Q (.d (.bool (!(lookD kvs k).isSome)))
/-- the dict ahead of the key: own, or firm -/
def dDkO (g : GD) (i : Nat) (ty : TEd) : TEd := fun ρ Q => (∃ kvs, ρ[i]? = some (.od kvs)) ∧ ty ρ fun s ρ1 => ∃ y, s = .d y ∧ ∃ k, keyO y = some k ∧ ∃ kvs, ρ1[i]? = some (.od kvs) ∧ g kvs k fun s => Q s ρ1
def dDkF (g : GD) (td ty : TEd) : TEd := fun ρ Q => td ρ fun s ρ1 => ∃ kvs, s = .d (dctD kvs) ∧ ty ρ1 fun s2 ρ2 => ∃ y, s2 = .d y ∧ ∃ k, keyO y = some k ∧ g kvs k fun s => Q s ρ2
/-- the key ahead of the dict -/
def dKdO (g : GD) (ty : TEd) (i : Nat) : TEd := fun ρ Q => ty ρ fun s ρ1 => ∃ y, s = .d y ∧ ∃ k, keyO y = some k ∧ ∃ kvs, ρ1[i]? = some (.od kvs) ∧ g kvs k fun s => Q s ρ1
def dKdF (g : GD) (ty td : TEd) : TEd := fun ρ Q => ty ρ fun s ρ1 => ∃ y, s = .d y ∧ ∃ k, keyO y = some k ∧ td ρ1 fun s2 ρ2 => ∃ kvs, s2 = .d (dctD kvs) ∧ g kvs k fun s => Q s ρ2
def dGet2O (i : Nat) (ty tz : TEd) : TEd := fun ρ Q => (∃ kvs, ρ[i]? = some (.od kvs)) ∧ ty ρ fun s ρ1 => ∃ y, s = .d y ∧ ∃ k, keyO y = some k ∧ tz ρ1 fun s2 ρ2 => ∃ z, s2 = .d z ∧ ∃ kvs, ρ2[i]? = some (.od kvs) ∧ Q (.d ((lookD kvs k).getD z)) ρ2
def dGet2F (td ty tz : TEd) : TEd := fun ρ Q => td ρ fun s ρ1 => ∃ kvs, s = .d (dctD kvs) ∧ ty ρ1 fun s2 ρ2 => ∃ y, s2 = .d y ∧ ∃ k, keyO y = some k ∧ tz ρ2 fun s3 ρ3 => ∃ z, s3 = .d z ∧ Q (.d ((lookD kvs k).getD z)) ρ3
section
variable {X : Cx} {L : Lay} {o e f iE v : Expr} {pos p1 apos cpos : Pos} {i : Nat} {td ty tz ti tv t : TEd}
theorem de_newD : PE X (.Dict [] [] pos) (tE L dNewD) := pe_dnewK.less fun σ H Q' q p hp => by
  obtain ⟨ρ, Q, r, q, fin⟩ := q
  have sm := same_new (o := .dK []) hp
  exact fin _ _ (.od []) ρ (Go.sm sm) (r.go sm) ⟨⟨p, [], rfl, upd_same, ⟨rfl, .nil⟩, r.same.free hp⟩, fun l e => by cases e; exact hp⟩ q
theorem ds_putO (gd : Good X) (ho : PE X o (tVar i)) (hi : PE X iE (tE L ti)) (hv : PE X v (tE L tv)) (hs : swapsWith v (some (.Subscript o iE p1)) pos.line X.env = pure false := by rfl) :
    PS X (.Assign [.Subscript o iE p1] v pos) (tS L (dPutO i ti tv)) :=
  (ps_dput (by have := gd.un; omega) ho hi hv hs).less fun D σ H q => by
    obtain ⟨ρ, De, r, q, n1, _⟩ := q
    refine ⟨ρ, _, r, q, fun v H1 s ρ1 go r1 hv q1 => ?_⟩
    obtain ⟨x, rfl, ⟨kvs0, e0⟩, q2⟩ := q1
    obtain ⟨a, vks0, ha, _⟩ := dr_own r1 e0
    refine ⟨.ref a, ha, ρ1, _, r1, q2, fun u H2 s2 ρ2 go2 r2 hu q3 => ?_⟩
    obtain ⟨y, rfl, k, hk, kvs, ek, hl, q4⟩ := q3
    obtain ⟨a', vks, ha', h1, h2, h3, h0⟩ := dr_own r2 ek
    rw [ha] at ha'; cases ha'
    have hu := key_br hu hk
    subst hu
    have hv2 : Br L.K H2 v x := Br.keep (go2.keep r1) _ _ hv
    have len : vks.length = kvs.length := by have := congrArg List.length h2; simpa using this.symm
    refine ⟨a, _, rfl, DPut.k h1 (by rw [len]; exact hl), ?_⟩
    obtain ⟨r3, k3⟩ := r2.putW (w := .dK (putK vks k v)) (ys := .k (putD kvs k x)) ek ha h1 trivial fun kk _ => by
      obtain ⟨g1, g2⟩ := put_rel (k := k) hv2 h2 h3
      exact ⟨a, _, rfl, upd_same, ⟨g1, BrA.keep kk _ _ g2⟩, h0⟩
    exact n1 _ _ _ (((go.keep r).tr (go2.keep r1)).tr k3) r3 q4
theorem dss_fixK (g : Good X) {sts : List Stmt} {t : TSd} (i : Nat) (h : PSs X sts (tS L t)) : PSs X sts (tS L (dFixK i t)) := by
  constructor
  intro pins s σ H D I q
  obtain ⟨ρ, De, r, ⟨kvs, e, q⟩, h1, h2, h3, h4⟩ := q
  obtain ⟨l, vks, hi, hl, _⟩ := dr_own r e
  obtain ⟨o, I2⟩ := fix_inv I hl trivial
  obtain ⟨r2, b2⟩ := r.fixInK (o := o) e hi hl
  have k := keep_fix (o := o) hl trivial
  exact h.run pins s σ _ D I2 ⟨_, De, r2, q, fun σ2 H2 ρ2 k2 => h1 σ2 H2 ρ2 (k.tr k2), fun v H2 s k2 => h2 v H2 s (k.tr k2), fun σ2 H2 ρ2 k2 => h3 σ2 H2 ρ2 (k.tr k2), fun σ2 H2 ρ2 k2 => h4 σ2 H2 ρ2 (k.tr k2)⟩
/-- one answer for all four looks -/
theorem look_item {H : Hp} {a : Addr} {kvs : List (Key × PyData)} {k : Key} {Q : S → Prop} (d : DR L H a kvs) (q : gItem kvs k Q) : ∃ v, DGet H a (kV k) (some v) ∧ ∃ x, Br L.K H v x ∧ Q (.d x) := by
  obtain ⟨x, hx, q⟩ := q
  obtain ⟨v, g, b⟩ := (d.get k).1 x hx
  exact ⟨v, g, x, b, q⟩
theorem look_get {H : Hp} {a : Addr} {kvs : List (Key × PyData)} (k : Key) (d : DR L H a kvs) {z : PyData} {vz : V} (bz : Br L.K H vz z) : ∃ o, DGet H a (kV k) o ∧ Br L.K H (o.getD vz) ((lookD kvs k).getD z) ∧ o.isSome = (lookD kvs k).isSome := by
  cases h : lookD kvs k with
  | none => exact ⟨none, (d.get k).2 h, bz, rfl⟩
  | some x =>
    obtain ⟨v, g, b⟩ := (d.get k).1 x h
    exact ⟨some v, g, b, rfl⟩
theorem own_dr {H : Hp} {σ : L2.St} {ρ : En} (r : Rel L H σ ρ) {kvs : List (Key × PyData)} {a : Addr} (e : ρ[i]? = some (.od kvs)) (ha : σ[i]? = some (some (.ref a))) : DR L H a kvs := by
  obtain ⟨a', vks, ha', h1, h2, h3, _⟩ := dr_own r e
  rw [ha] at ha'; cases ha'
  exact ⟨vks, .inl h1, h2, h3⟩
theorem DR.keep {H H' : Hp} {v : V} {kvs : List (Key × PyData)} (k : Keep H H') (h : Br L.K H v (dctD kvs)) : ∃ a, v = .ref a ∧ DR L H' a kvs := dr_frz (Br.keep k _ _ h)
theorem de_itemO (gd : Good X) (ho : PE X o (tVar i)) (hi : PE X iE (tE L ty)) (hs : NoSl iE := by intro _ _; rfl) : PE X (.Subscript o iE pos) (tE L (dDkO gItem i ty)) :=
  (pe_dget (by have := gd.un; omega) ho hi hs).less fun σ H Q' q => by
    obtain ⟨ρ, Q, r, ⟨⟨kvs0, e0⟩, q⟩, fin⟩ := q
    obtain ⟨a, vks0, ha, _⟩ := dr_own r e0
    refine ⟨.ref a, ha, ρ, _, r, q, fun u H2 s2 ρ2 go2 r2 hu q3 => ?_⟩
    obtain ⟨y, rfl, k, hk, kvs, ek, q4⟩ := q3
    have hu := key_br hu hk
    subst hu
    obtain ⟨v, g, x, b, q5⟩ := look_item (own_dr r2 ek ha) q4
    exact ⟨a, v, rfl, g, fin v H2 (.d x) ρ2 go2 r2 b q5⟩
theorem de_itemF (gd : Good X) (ho : PE X o (tE L td)) (hi : PE X iE (tE L ty)) (hs : NoSl iE := by intro _ _; rfl) : PE X (.Subscript o iE pos) (tE L (dDkF gItem td ty)) :=
  (pe_dget (by have := gd.un; omega) ho hi hs).less fun σ H Q' q => by
    obtain ⟨ρ, Q, r, q, fin⟩ := q
    refine ⟨ρ, _, r, q, fun w H1 s1 ρ1 go1 r1 hw q1 => ?_⟩
    obtain ⟨kvs, rfl, q2⟩ := q1
    refine ⟨ρ1, _, r1, q2, fun u H2 s2 ρ2 go2 r2 hu q3 => ?_⟩
    obtain ⟨y, rfl, k, hk, q4⟩ := q3
    have hu := key_br hu hk
    subst hu
    obtain ⟨a, rfl, d⟩ := DR.keep (go2.keep r1) hw
    obtain ⟨v, g, x, b, q5⟩ := look_item d q4
    exact ⟨a, v, rfl, g, fin v H2 (.d x) ρ2 (go1.tr go2) r2 b q5⟩
theorem de_getO (gd : Good X) (ho : PE X o (tVar i)) (hi : PE X e (tE L ty)) (m : M1 X o "get" apos e cpos := by exact ⟨rfl, rfl, rfl, rfl⟩) : PE X (.Call (.Attribute o "get" apos) [e] [] cpos) (tE L (dDkO gGet i ty)) :=
  (pe_dget1 (by have := gd.un; omega) ho hi m).less fun σ H Q' q => by
    obtain ⟨ρ, Q, r, ⟨⟨kvs0, e0⟩, q⟩, fin⟩ := q
    obtain ⟨a, vks0, ha, _⟩ := dr_own r e0
    refine ⟨.ref a, ha, a, rfl, (own_dr r e0 ha).isD, ρ, _, r, q, fun u H2 s2 ρ2 go2 r2 hu q3 => ?_⟩
    obtain ⟨y, rfl, k, hk, kvs, ek, q4⟩ := q3
    have hu := key_br hu hk
    subst hu
    obtain ⟨o, g, b, _⟩ := look_get k (own_dr r2 ek ha) .non
    exact ⟨o, g, fin _ H2 (.d _) ρ2 go2 r2 b q4⟩
theorem de_getF (gd : Good X) (ho : PE X o (tE L td)) (hi : PE X e (tE L ty)) (m : M1 X o "get" apos e cpos := by exact ⟨rfl, rfl, rfl, rfl⟩) : PE X (.Call (.Attribute o "get" apos) [e] [] cpos) (tE L (dDkF gGet td ty)) :=
  (pe_dget1 (by have := gd.un; omega) ho hi m).less fun σ H Q' q => by
    obtain ⟨ρ, Q, r, q, fin⟩ := q
    refine ⟨ρ, _, r, q, fun w H1 s1 ρ1 go1 r1 hw q1 => ?_⟩
    obtain ⟨kvs, rfl, q2⟩ := q1
    obtain ⟨a, rfl, d1⟩ := dr_frz hw
    refine ⟨a, rfl, d1.isD, ρ1, _, r1, q2, fun u H2 s2 ρ2 go2 r2 hu q3 => ?_⟩
    obtain ⟨y, rfl, k, hk, q4⟩ := q3
    have hu := key_br hu hk
    subst hu
    obtain ⟨a', ea, d⟩ := DR.keep (go2.keep r1) hw
    cases ea
    obtain ⟨o, g, b, _⟩ := look_get k d .non
    exact ⟨o, g, fin _ H2 (.d _) ρ2 (go1.tr go2) r2 b q4⟩
theorem de_get2O (gd : Good X) (ho : PE X o (tVar i)) (hi : PE X e (tE L ty)) (hf : PE X f (tE L tz)) (m : M2 X o "get" apos e f cpos := by exact ⟨rfl, rfl, rfl, rfl⟩) : PE X (.Call (.Attribute o "get" apos) [e, f] [] cpos) (tE L (dGet2O i ty tz)) :=
  (pe_dget2 (by have := gd.un; omega) ho hi hf m).less fun σ H Q' q => by
    obtain ⟨ρ, Q, r, ⟨⟨kvs0, e0⟩, q⟩, fin⟩ := q
    obtain ⟨a, vks0, ha, _⟩ := dr_own r e0
    refine ⟨.ref a, ha, a, rfl, (own_dr r e0 ha).isD, ρ, _, r, q, fun u H2 s2 ρ2 go2 r2 hu q3 => ?_⟩
    obtain ⟨y, rfl, k, hk, q4⟩ := q3
    have hu := key_br hu hk
    subst hu
    refine ⟨ρ2, _, r2, q4, fun vz H3 s3 ρ3 go3 r3 hz q5 => ?_⟩
    obtain ⟨z, rfl, kvs, ek, q6⟩ := q5
    obtain ⟨o, g, b, _⟩ := look_get k (own_dr r3 ek ha) hz
    exact ⟨o, g, fin _ H3 (.d _) ρ3 (go2.tr go3) r3 b q6⟩
theorem de_get2F (gd : Good X) (ho : PE X o (tE L td)) (hi : PE X e (tE L ty)) (hf : PE X f (tE L tz)) (m : M2 X o "get" apos e f cpos := by exact ⟨rfl, rfl, rfl, rfl⟩) : PE X (.Call (.Attribute o "get" apos) [e, f] [] cpos) (tE L (dGet2F td ty tz)) :=
  (pe_dget2 (by have := gd.un; omega) ho hi hf m).less fun σ H Q' q => by
    obtain ⟨ρ, Q, r, q, fin⟩ := q
    refine ⟨ρ, _, r, q, fun w H1 s1 ρ1 go1 r1 hw q1 => ?_⟩
    obtain ⟨kvs, rfl, q2⟩ := q1
    obtain ⟨a, rfl, d1⟩ := dr_frz hw
    refine ⟨a, rfl, d1.isD, ρ1, _, r1, q2, fun u H2 s2 ρ2 go2 r2 hu q3 => ?_⟩
    obtain ⟨y, rfl, k, hk, q4⟩ := q3
    have hu := key_br hu hk
    subst hu
    refine ⟨ρ2, _, r2, q4, fun vz H3 s3 ρ3 go3 r3 hz q5 => ?_⟩
    obtain ⟨z, rfl, q6⟩ := q5
    obtain ⟨a', ea, d⟩ := DR.keep ((go2.tr go3).keep r1) hw
    cases ea
    obtain ⟨o, g, b, _⟩ := look_get k d hz
    exact ⟨o, g, fin _ H3 (.d _) ρ3 ((go1.tr go2).tr go3) r3 b q6⟩
theorem kd_own {Q' : VK} {σ : L2.St} {H : Hp} (g : GD) (F : Bool → Bool) (hg : ∀ kvs k Q, g kvs k Q → Q (.d (.bool (F (lookD kvs k).isSome)))) (q : tE L (dKdO g ty i) σ H Q') :
    tE L ty σ H fun y H1 => tVar i σ H1 fun x H2 => ∃ a o, x = .ref a ∧ DGet H2 a y o ∧ Q' (.bl (F o.isSome)) H2 := by
  obtain ⟨ρ, Q, r, q, fin⟩ := q
  refine ⟨ρ, _, r, q, fun u H2 s2 ρ2 go2 r2 hu q3 => ?_⟩
  obtain ⟨y, rfl, k, hk, kvs, ek, q4⟩ := q3
  have hu := key_br hu hk
  subst hu
  obtain ⟨a, vks, ha, _⟩ := dr_own r2 ek
  obtain ⟨o, g', _, e⟩ := look_get k (own_dr r2 ek ha) (z := .none) .non
  exact ⟨.ref a, ha, a, o, rfl, g', fin _ H2 (.d (.bool (F o.isSome))) ρ2 go2 r2 (.bl _) (by rw [e]; exact hg _ _ _ q4)⟩
theorem kd_frz {Q' : VK} {σ : L2.St} {H : Hp} (g : GD) (F : Bool → Bool) (hg : ∀ kvs k Q, g kvs k Q → Q (.d (.bool (F (lookD kvs k).isSome)))) (q : tE L (dKdF g ty td) σ H Q') :
    tE L ty σ H fun y H1 => tE L td σ H1 fun x H2 => ∃ a o, x = .ref a ∧ DGet H2 a y o ∧ Q' (.bl (F o.isSome)) H2 := by
  obtain ⟨ρ, Q, r, q, fin⟩ := q
  refine ⟨ρ, _, r, q, fun u H1 s1 ρ1 go1 r1 hu q3 => ?_⟩
  obtain ⟨y, rfl, k, hk, q4⟩ := q3
  have hu := key_br hu hk
  subst hu
  refine ⟨ρ1, _, r1, q4, fun w H2 s2 ρ2 go2 r2 hw q5 => ?_⟩
  obtain ⟨kvs, rfl, q6⟩ := q5
  obtain ⟨a, rfl, d⟩ := dr_frz hw
  obtain ⟨o, g', _, e⟩ := look_get k d (z := .none) .non
  exact ⟨a, o, rfl, g', fin _ H2 (.d (.bool (F o.isSome))) ρ2 (go1.tr go2) r2 (.bl _) (by rw [e]; exact hg _ _ _ q6)⟩
theorem de_inO (gd : Good X) (hi : PE X e (tE L ty)) (ho : PE X o (tVar i)) (hm : behindInMarks .In o = false := by rfl) : PE X (.Compare e [.In] [o] pos) (tE L (dKdO gIn ty i)) := (pe_cmp (pc_din (by have := gd.un; omega) hi ho) hm).less fun _ _ _ q => kd_own gIn id (fun _ _ _ h => h) q
theorem de_notInO (gd : Good X) (hi : PE X e (tE L ty)) (ho : PE X o (tVar i)) (hm : behindInMarks .NotIn o = false := by rfl) : PE X (.Compare e [.NotIn] [o] pos) (tE L (dKdO gNotIn ty i)) := (pe_cmp (pc_dnotin (by have := gd.un; omega) hi ho) hm).less fun _ _ _ q => kd_own gNotIn (fun b => !b) (fun _ _ _ h => h) q
theorem de_inF (gd : Good X) (hi : PE X e (tE L ty)) (ho : PE X o (tE L td)) (hm : behindInMarks .In o = false := by rfl) : PE X (.Compare e [.In] [o] pos) (tE L (dKdF gIn ty td)) := (pe_cmp (pc_din (by have := gd.un; omega) hi ho) hm).less fun _ _ _ q => kd_frz gIn id (fun _ _ _ h => h) q
theorem de_notInF (gd : Good X) (hi : PE X e (tE L ty)) (ho : PE X o (tE L td)) (hm : behindInMarks .NotIn o = false := by rfl) : PE X (.Compare e [.NotIn] [o] pos) (tE L (dKdF gNotIn ty td)) := (pe_cmp (pc_dnotin (by have := gd.un; omega) hi ho) hm).less fun _ _ _ q => kd_frz gNotIn (fun b => !b) (fun _ _ _ h => h) q
theorem dt_inO (gd : Good X) (hi : PE X e (tE L ty)) (ho : PE X o (tVar i)) (hm : behindInMarks .In o = false := by rfl) : PT X (.Compare e [.In] [o] pos) (tT L (dB (dKdO gIn ty i))) := (pt_cmp (pc_din (by have := gd.un; omega) hi ho) hm).less (tT_of fun _ _ _ q => kd_own gIn id (fun _ _ _ h => h) q)
theorem dt_notInO (gd : Good X) (hi : PE X e (tE L ty)) (ho : PE X o (tVar i)) (hm : behindInMarks .NotIn o = false := by rfl) : PT X (.Compare e [.NotIn] [o] pos) (tT L (dB (dKdO gNotIn ty i))) := (pt_cmp (pc_dnotin (by have := gd.un; omega) hi ho) hm).less (tT_of fun _ _ _ q => kd_own gNotIn (fun b => !b) (fun _ _ _ h => h) q)
theorem dt_inF (gd : Good X) (hi : PE X e (tE L ty)) (ho : PE X o (tE L td)) (hm : behindInMarks .In o = false := by rfl) : PT X (.Compare e [.In] [o] pos) (tT L (dB (dKdF gIn ty td))) := (pt_cmp (pc_din (by have := gd.un; omega) hi ho) hm).less (tT_of fun _ _ _ q => kd_frz gIn id (fun _ _ _ h => h) q)
theorem dt_notInF (gd : Good X) (hi : PE X e (tE L ty)) (ho : PE X o (tE L td)) (hm : behindInMarks .NotIn o = false := by rfl) : PT X (.Compare e [.NotIn] [o] pos) (tT L (dB (dKdF gNotIn ty td))) := (pt_cmp (pc_dnotin (by have := gd.un; omega) hi ho) hm).less (tT_of fun _ _ _ q => kd_frz gNotIn (fun b => !b) (fun _ _ _ h => h) q)
/-- an own thing is handed back as it is -/
def dRetO (i : Nat) : TSd := fun D ρ => ∃ o, ρ[i]? = some (.ow o) ∧ D.rt (.ow o)
theorem ds_retO (h : PE X e (tVar i)) : PS X (.Return (some e) pos) (tS L (dRetO i)) := (ps_ret h).less fun D σ H q => by
  obtain ⟨ρ, De, r, ⟨o, e, q⟩, h1, h2, h3, h4⟩ := q
  obtain ⟨_, e1, v, e2, w⟩ := r.get e
  exact ⟨v, by rw [e1, e2], h2 v H (.ow o) (Keep.rfl' H) r.same w q⟩
end
end GB

set_option maxRecDepth 100000
namespace GB
open PySem PySem.Spec PyProof.Rows L2
/-! dicts as they are gone through: list(d), sorted(d), len(d) -/
def ListD (f : List (Key × PyData) → (S → Prop) → Prop) (i : Nat) : TEd := fun ρ Q => ∃ kvs, ρ[i]? = some (.od kvs) ∧ f kvs fun s => Q s ρ
def ListF (f : List (Key × PyData) → (S → Prop) → Prop) (t : TEd) : TEd := fun ρ Q => t ρ fun s ρ1 => ∃ kvs, s = .d (dctD kvs) ∧ f kvs fun s => Q s ρ1
def hList (kvs : List (Key × PyData)) (Q : S → Prop) : Prop := Q (.own (kvs.map fun p => keyD p.1))
def hLen (kvs : List (Key × PyData)) (Q : S → Prop) : Prop := Q (.d (.int kvs.length))
def hSort (kvs : List (Key × PyData)) (Q : S → Prop) : Prop := ∃ ks : List Int, kvs.map (·.1) = ks.map Sum.inl ∧ ks.length < 64 ∧ ∀ ys : List Int, ys.Perm ks → ys.Pairwise (· ≤ ·) → Q (.own (ys.map .int))
def rDct (L : Lay) (f : List (Key × PyData) → (S → Prop) → Prop) : List V → Hp → VK → Prop := fun vs H Q' => ∃ a kvs Q, vs = [.ref a] ∧ DR L H a kvs ∧ f kvs Q ∧ ∀ w H' s, Same H H' → NR L H H' w s → Q s → Q' w H'
section
variable {X : Cx} {L : Lay} {pos p : Pos} {e : Expr} {i : Nat} {t : TEd} {f : List (Key × PyData) → (S → Prop) → Prop}
theorem dct_own {r : List V → Hp → VK → Prop} (hr : ∀ v H Q, rDct L f v H Q → r v H Q) : ∀ σ H Q, tE L (ListD f i) σ H Q → tCB r (tCons (tVar i) tNil) σ H Q := fun σ H Q' h => by
  obtain ⟨ρ, Q, r0, ⟨kvs, ek, q⟩, fin⟩ := h
  obtain ⟨a, vks, ha, _⟩ := dr_own r0 ek
  exact ⟨.ref a, ha, hr _ _ _ ⟨a, kvs, _, rfl, own_dr r0 ek ha, q, fun w H2 s sm nr q3 => fin w H2 s ρ (Go.sm sm) (r0.go sm) (nr.vr r0 sm Go.rf) q3⟩⟩
theorem dct_frz {r : List V → Hp → VK → Prop} (hr : ∀ v H Q, rDct L f v H Q → r v H Q) : ∀ σ H Q, tE L (ListF f t) σ H Q → tCB r (tCons (tE L t) tNil) σ H Q := fun σ H Q' h => by
  obtain ⟨ρ, Q, r0, q, fin⟩ := h
  refine ⟨ρ, _, r0, q, fun w H1 s1 ρ1 go1 r1 hw q1 => ?_⟩
  obtain ⟨kvs, rfl, q2⟩ := q1
  obtain ⟨a, rfl, d⟩ := dr_frz hw
  exact hr _ _ _ ⟨a, kvs, _, rfl, d, q2, fun w H2 s sm nr q3 => fin w H2 s ρ1 (go1.tr (Go.sm sm)) (r1.go sm) (nr.vr r1 sm go1) q3⟩
theorem br_keys {K : PySem.W.Frag} {H : Hp} : ∀ {kvs : List (Key × PyData)} {vks : List (Key × V)}, kvs.map (·.1) = vks.map (·.1) → BrA K H (vks.map fun q => kV q.1) (kvs.map fun q => keyD q.1)
  | [], [], _ => .nil
  | [], _ :: _, h => by simp at h
  | _ :: _, [], h => by simp at h
  | p :: kvs, q :: vks, h => by
    simp only [List.map_cons, List.cons.injEq] at h
    refine .cons (show Br K H (kV q.1) (keyD p.1) from ?_) (br_keys h.2)
    rw [h.1]
    rcases q with ⟨k, w⟩
    cases k with
    | inl i => exact .int i
    | inr z => exact .str z
theorem c_listD (gd : Good X) : CallR X (.type "list") (rDct L hList) := by
  intro pins s σ H vs us Q' I r q
  obtain ⟨a, kvs, Q, rfl, ⟨vks, h1, h2, h3⟩, q, fin⟩ := q
  exact call_listD gd.calm pins s σ H _ us Q' I r ⟨a, vks, rfl, h1, fun p hp => fin _ _ (.own _) (same_new hp) ⟨p, _, rfl, hp, upd_same, br_keys h2⟩ q⟩
theorem br_intsD {K : PySem.W.Frag} {H : Hp} : ∀ ys : List Int, BrA K H (ys.map V.int) (ys.map PyData.int)
  | [] => .nil
  | y :: ys => .cons (.int y) (br_intsD ys)
theorem c_sortD (gd : Good X) : CallR X (.builtin "sorted") (rDct L hSort) := by
  intro pins s σ H vs us Q' I r q
  obtain ⟨a, kvs, Q, rfl, ⟨vks, h1, h2, h3⟩, ⟨ks, k1, k2, q⟩, fin⟩ := q
  exact call_sortedDI gd.calm pins s σ H _ us Q' I r ⟨a, vks, ks, rfl, h1, by rw [← h2, k1], k2, fun ys p y1 y2 hp => fin _ _ (.own (ys.map .int)) (same_new hp) ⟨p, _, rfl, hp, upd_same, br_intsD ys⟩ (q ys y1 y2)⟩
theorem de_listO (gd : Good X) (hg : Gl X "list") (hm : X.mg "list" = none) (hx : PE X e (tVar i)) (h1 : starEach (e :: []) X.env = (false, eval e X.env) :: starEach [] X.env := by rfl) (hpl : (backTo pos (starEach [] X.env)).any (·.1) = false := by rfl) :
    PE X (.Call (.Name "list" p) [e] [] pos) (tE L (ListD hList i)) := (pe_callTy (c_listD (L := L) gd) hg hm (by decide +kernel) (pa_cons hx pa_nil h1) (by decide) (by decide) h1 hpl).less (dct_own fun _ _ _ q => q)
theorem de_listF (gd : Good X) (hg : Gl X "list") (hm : X.mg "list" = none) (hx : PE X e (tE L t)) (h1 : starEach (e :: []) X.env = (false, eval e X.env) :: starEach [] X.env := by rfl) (hpl : (backTo pos (starEach [] X.env)).any (·.1) = false := by rfl) :
    PE X (.Call (.Name "list" p) [e] [] pos) (tE L (ListF hList t)) := (pe_callTy (c_listD (L := L) gd) hg hm (by decide +kernel) (pa_cons hx pa_nil h1) (by decide) (by decide) h1 hpl).less (dct_frz fun _ _ _ q => q)
theorem de_sortO (gd : Good X) (hg : Gl X "sorted") (hm : X.mg "sorted" = none) (hx : PE X e (tVar i)) (h1 : starEach (e :: []) X.env = (false, eval e X.env) :: starEach [] X.env := by rfl) (hpl : (backTo pos (starEach [] X.env)).any (·.1) = false := by rfl) :
    PE X (.Call (.Name "sorted" p) [e] [] pos) (tE L (ListD hSort i)) := (pe_callB (c_sortD (L := L) gd) hg hm (by decide +kernel) (pa_cons hx pa_nil h1) (by decide) (by decide) h1 hpl).less (dct_own fun _ _ _ q => q)
theorem de_sortF (gd : Good X) (hg : Gl X "sorted") (hm : X.mg "sorted" = none) (hx : PE X e (tE L t)) (h1 : starEach (e :: []) X.env = (false, eval e X.env) :: starEach [] X.env := by rfl) (hpl : (backTo pos (starEach [] X.env)).any (·.1) = false := by rfl) :
    PE X (.Call (.Name "sorted" p) [e] [] pos) (tE L (ListF hSort t)) := (pe_callB (c_sortD (L := L) gd) hg hm (by decide +kernel) (pa_cons hx pa_nil h1) (by decide) (by decide) h1 hpl).less (dct_frz fun _ _ _ q => q)
end
/-! from without -/
def odK (s : S) (k : List (Key × PyData) → Prop) : Prop := ∃ kvs, s = .od kvs ∧ k kvs
def dctK (s : S) (k : List (Key × PyData) → Prop) : Prop := ∃ kvs, s = .d (dctD kvs) ∧ k kvs
def keyK (y : PyData) (p : Key → Prop) : Prop := ∃ k, keyO y = some k ∧ p k
section
variable {ρ : En} {Q : S → En → Prop} {D : EndsD} {i : Nat} {t ty td tz tv ti : TEd} {g : GD} {f : List (Key × PyData) → (S → Prop) → Prop}
theorem od_o {kvs : List (Key × PyData)} {k : List (Key × PyData) → Prop} : odK (.od kvs) k ↔ k kvs := ⟨fun ⟨_, e, h⟩ => by cases e; exact h, fun h => ⟨_, rfl, h⟩⟩
theorem dct_d {kvs : List (Key × PyData)} {k : List (Key × PyData) → Prop} : dctK (.d (dctD kvs)) k ↔ k kvs := ⟨fun ⟨_, e, h⟩ => by rw [dctD_inj (S.d.inj e)]; exact h, fun h => ⟨_, rfl, h⟩⟩
theorem key_int {n : Int} {p : Key → Prop} : keyK (.int n) p ↔ p (.inl n) := ⟨fun ⟨_, e, h⟩ => by cases e; exact h, fun h => ⟨_, rfl, h⟩⟩
theorem key_str {n : Str} {p : Key → Prop} : keyK (.str n) p ↔ p (.inr n) := ⟨fun ⟨_, e, h⟩ => by cases e; exact h, fun h => ⟨_, rfl, h⟩⟩
theorem e_newD : dNewD ρ Q ↔ Q (.od []) ρ := Iff.rfl
theorem e_retO : dRetO i D ρ ↔ atK ρ i fun s => ∃ o, s = .ow o ∧ D.rt (.ow o) := ⟨fun ⟨o, e, h⟩ => ⟨_, e, o, rfl, h⟩, fun ⟨_, e, o, z, h⟩ => ⟨o, z ▸ e, h⟩⟩
theorem ow_ex {o : Ow} {k : S → Prop} : (∃ o', S.ow o = .ow o' ∧ k (.ow o')) ↔ k (.ow o) := ⟨fun ⟨_, e, h⟩ => by cases e; exact h, fun h => ⟨_, rfl, h⟩⟩
theorem e_fixK {a : TSd} : dFixK i a D ρ ↔ atK ρ i fun s => odK s fun kvs => setK (a D) ρ i (.d (dctD kvs)) := ⟨fun ⟨kvs, e, h⟩ => ⟨_, e, kvs, rfl, h⟩, fun ⟨_, e, kvs, z, h⟩ => ⟨kvs, z ▸ e, h⟩⟩
theorem at_od {k : List (Key × PyData) → Prop} : (∃ kvs, ρ[i]? = some (.od kvs) ∧ k kvs) ↔ atK ρ i fun s => odK s k := ⟨fun ⟨kvs, e, h⟩ => ⟨_, e, kvs, rfl, h⟩, fun ⟨_, e, kvs, z, h⟩ => ⟨kvs, z ▸ e, h⟩⟩
theorem at_od0 : (∃ kvs, ρ[i]? = some (.od kvs)) ↔ atK ρ i fun s => odK s fun _ => True := ⟨fun ⟨kvs, e⟩ => ⟨_, e, kvs, rfl, trivial⟩, fun ⟨_, e, kvs, z, h⟩ => ⟨kvs, z ▸ e⟩⟩
theorem e_putO : dPutO i ti tv D ρ ↔ tv ρ fun s ρ1 => oneK s fun x => (atK ρ1 i fun o => odK o fun _ => True) ∧ ti ρ1 fun s2 ρ2 => oneK s2 fun y => keyK y fun k => atK ρ2 i fun o => odK o fun kvs => kvs.length < sizeLine ∧ setK D.nx ρ2 i (.od (putD kvs k x)) := by
  unfold dPutO
  simp only [at_od, at_od0]
  exact Iff.rfl
theorem e_dkO : dDkO g i ty ρ Q ↔ (atK ρ i fun o => odK o fun _ => True) ∧ ty ρ fun s ρ1 => oneK s fun y => keyK y fun k => atK ρ1 i fun o => odK o fun kvs => g kvs k fun s => Q s ρ1 := by
  unfold dDkO
  simp only [at_od, at_od0]
  exact Iff.rfl
theorem e_dkF : dDkF g td ty ρ Q ↔ td ρ fun s ρ1 => dctK s fun kvs => ty ρ1 fun s2 ρ2 => oneK s2 fun y => keyK y fun k => g kvs k fun s => Q s ρ2 := Iff.rfl
theorem e_kdO : dKdO g ty i ρ Q ↔ ty ρ fun s ρ1 => oneK s fun y => keyK y fun k => atK ρ1 i fun o => odK o fun kvs => g kvs k fun s => Q s ρ1 := by
  unfold dKdO
  simp only [at_od]
  exact Iff.rfl
theorem e_kdF : dKdF g ty td ρ Q ↔ ty ρ fun s ρ1 => oneK s fun y => keyK y fun k => td ρ1 fun s2 ρ2 => dctK s2 fun kvs => g kvs k fun s => Q s ρ2 := Iff.rfl
theorem e_get2O : dGet2O i ty tz ρ Q ↔ (atK ρ i fun o => odK o fun _ => True) ∧ ty ρ fun s ρ1 => oneK s fun y => keyK y fun k => tz ρ1 fun s2 ρ2 => oneK s2 fun z => atK ρ2 i fun o => odK o fun kvs => Q (.d ((lookD kvs k).getD z)) ρ2 := by
  unfold dGet2O
  simp only [at_od, at_od0]
  exact Iff.rfl
theorem e_get2F : dGet2F td ty tz ρ Q ↔ td ρ fun s ρ1 => dctK s fun kvs => ty ρ1 fun s2 ρ2 => oneK s2 fun y => keyK y fun k => tz ρ2 fun s3 ρ3 => oneK s3 fun z => Q (.d ((lookD kvs k).getD z)) ρ3 := Iff.rfl
theorem e_ListD : ListD f i ρ Q ↔ atK ρ i fun s => odK s fun kvs => f kvs fun s => Q s ρ := at_od
theorem e_ListF : ListF f t ρ Q ↔ t ρ fun s ρ1 => dctK s fun kvs => f kvs fun s => Q s ρ1 := Iff.rfl
theorem g_item {kvs : List (Key × PyData)} {k : Key} {p : S → Prop} : gItem kvs k p ↔ ∃ x, lookD kvs k = some x ∧ p (.d x) := Iff.rfl
theorem g_get {kvs : List (Key × PyData)} {k : Key} {p : S → Prop} : gGet kvs k p ↔ p (.d ((lookD kvs k).getD .none)) := Iff.rfl
theorem g_in {kvs : List (Key × PyData)} {k : Key} {p : S → Prop} : gIn kvs k p ↔ p (.d (.bool (lookD kvs k).isSome)) := Iff.rfl
theorem g_notin {kvs : List (Key × PyData)} {k : Key} {p : S → Prop} : gNotIn kvs k p ↔ p (.d (.bool (!(lookD kvs k).isSome))) := Iff.rfl
theorem h_list {kvs : List (Key × PyData)} {p : S → Prop} : hList kvs p ↔ p (.own (kvs.map fun p => keyD p.1)) := Iff.rfl
theorem fz_od {kvs : List (Key × PyData)} {k : S → Prop} : fzK (.od kvs) k ↔ k (.d (dctD kvs)) := Iff.rfl
end
end GB

set_option maxRecDepth 100000
set_option maxHeartbeats 2000000
namespace GB
open PySem PySem.Spec PyProof.Rows L2
/-! sets of ints, by a comprehension: the machine's side -/
section
variable {prog : Program} {w : World} {A : Around} {R : Result → Shared → Prop} {s : Shared} {env : Env}
abbrev oneGen (tg it : Expr) (ifs : List Expr) : List Comprehension := [⟨tg, it, ifs, 0⟩]
theorem set_eval (el : Expr) (gs : List Comprehension) (sc : Scope) (at' : Pos) : eval (.SetComp el gs sc at') env = comprehension (.SetComp el gs sc at') sc env (firstIterPos gs at') (newSet (.type "set")) (firstAsync gs) (firstIter gs env) := rfl
theorem set_start {el tg it : Expr} {ifs : List Expr} {sc : Scope} {at' : Pos} {iv D : Value} (h0 : codeAny (model prog w) A (.compLoop (.SetComp el (oneGen tg it ifs) sc at') 0 iv D env) R s)
    (h1 : wpAny (model prog w) A (pyIter iv) (fun iv2 s2 => codeAny (model prog w) A (.compLoop (.SetComp el (oneGen tg it ifs) sc at') 0 iv2 D env) R s2) (notedBy (model prog w) A env fun x s2 => R (.error x) s2) s) :
    codeAny (model prog w) A (.compStart (.SetComp el (oneGen tg it ifs) sc at') 0 iv D env) R s := PpSet.codeAny_compStart_set h0 h1
end
section
variable {X : Cx}
/-- what the block of a set of ints asks: it is at D, S its members, n how many -/
def tSi (w : World) (wi : TI) (g : TG) (tt : TT) (te : TE) (vs : List Nat) : TE := fun σ H Q => wi σ H fun J H1 => ∀ D, H1 D = none → ∃ W : Nat → Nat → Hp → Prop, (∃ m, W 0 m (upd H1 D (SetO w D (fun _ => false) 0))) ∧
  ∀ i m H, W i m H → (J.stop i H ∧ Q (.ref D) H) ∨ (J.go i H ∧ ∃ Nx : Hp → Prop, (∀ H', Nx H' → ∃ m', m' < m ∧ W (i + 1) m' H') ∧ ∀ x H', J.yld i H x H' → g x (wipe σ vs) H' fun σ2 H2 => wipe σ2 vs = wipe σ vs ∧
    tt σ2 H2 fun b H3 => if b = true then te σ2 H3 fun y H4 => ∃ (c : Int) (S : Int → Bool) (n : Nat), y = .int c ∧ H4 D = some (SetO w D S n) ∧ n + 1 < scanBound ∧ Nx (upd H4 D (SetO w D (fun j => S j || decide (j = c)) (if S c = true then n else n + 1))) else Nx H3)
theorem add_int {pins : List (Addr × Obj)} {σ : L2.St} {H : Hp} {s : Shared} {E : Value → Shared → Prop} {D : Addr} {S : Int → Bool} {n : Nat} {c : Int} {tok : Tok} {Q : Value → Shared → Prop} (I : Inv X pins σ H s) (at' : H D = some (SetO X.w D S n)) (room : n + 1 < scanBound)
    (k : ∀ s2, Inv X pins σ (upd H D (SetO X.w D (fun j => S j || decide (j = c)) (if S c = true then n else n + 1))) s2 → Q .none s2) : wpAny (model X.prog X.w) X.A (call (.builtin "set.add") [.ref D, .int c tok]) Q E s := by
  refine setR_add (setO_get I at') room fun h2 only now => ?_
  have ⟨o, _, _, _, there, _⟩ := now
  exact k _ (I.write (e := D) (t' := s.toks + 1) (by rw [at']; trivial) (.inl rfl) (fun b u ne hu => (only.2 b ne).trans hu) ⟨o, there⟩ (setO_new now))
theorem si_core {pins : List (Addr × Obj)} {s : Shared} {σ : L2.St} {H : Hp} {Q : VK} {el tg it : Expr} {ifs : List Expr} {sc : Scope} {own : List (Str × Nat)} {p1 p2 : Pos} {wi : TI} {g : TG} {tt : TT} {te : TE} {use : Option (Value → Sem Unit)} {Qf : Value → Shared → Prop}
    (calm : X.calm = true) (nd : X.N.Nodup) (I : Inv X pins σ H s) (src : PI X tg it wi) (blk : BlkOk X.N X.env.scope sc own)
    (tgt : ∀ (s : Shared) (H : Hp) (C : Addr) (cl : List (Str × Addr)) (fp : List Addr), PG (X.blk s H sc (compEnvC sc cl C X.env) fp) tg g)
    (tst : ∀ (s : Shared) (H : Hp) (C : Addr) (cl : List (Str × Addr)) (fp : List Addr), PTs (X.blk s H sc (compEnvC sc cl C X.env) fp) ifs tt)
    (elm : ∀ (s : Shared) (H : Hp) (C : Addr) (cl : List (Str × Addr)) (fp : List Addr), PE (X.blk s H sc (compEnvC sc cl C X.env) fp) el te) (plain : ∀ x, foldedSetIterable it X.env x = pure x)
    (h : tSi X.w wi g tt te (own.map (·.2)) σ H Q)
    (back : ∀ D C s' m H', Inv X pins σ H' s' → Q (.ref D) H' → s'.heap.Ns C m → FpOk X pins H' C → compPost (model X.prog X.w) X.A X.xe use Qf (.ref D) C (.ok .next) s') :
    wpAny (model X.prog X.w) X.A (comprehension (.SetComp el [⟨tg, it, ifs, 0⟩] sc p1) sc X.env p2 (newSet (.type "set")) false (eval it X.env) use) Qf X.xe s := by
  have frees : ∀ y ∈ sc.names, y.2 = .free → ∃ c, X.env.cells.lookup y.1 = some c := fun y hy e => (blk.free y hy e).elim (fun z => I.ok.has _ (.inl z)) fun z => I.ok.has _ (.inr z)
  refine wpAny_comprehension_free (use := use) rfl plain (closure_ok frees) blk.kind (fun y hy e => by rw [blk.uniq y hy, e])
    (thn (src.run pins s σ H _ I h) fun xv s1 hx => thn hx fun iv s2 h2 => ?_)
  obtain ⟨itA, fp, tn, J, H2, rfl, I2, T, st2, f2, q⟩ := h2
  refine PpSet.newSet_ok (newEnv_comp ?_)
  generalize dEq : s2.heap.objs.size = D
  obtain ⟨W, ⟨m0, w0⟩, turn⟩ := q D (I2.hok.fresh (Nat.le_of_eq dEq))
  generalize eq3 : ({ s2 with heap := s2.heap.push { cls := .type "set", dict := none, data := .set #[] 0 (.fresh 0 0 (!X.w.params.followText "set-order")) } } : Shared) = s3
  have heap3 : s3.heap = s2.heap.push { cls := .type "set", dict := none, data := .set #[] 0 (.fresh 0 0 (!X.w.params.followText "set-order")) } := by rw [← eq3]
  have I3 : Inv X pins σ (upd H2 D (SetO X.w D (fun _ => false) 0)) s3 := by
    rw [← eq3]
    exact I2.laid (t' := s2.toks) (fun b o e => Heap.get?_push_of_some _ e) (Nat.le_of_eq dEq) (by rw [← dEq]; exact setO_new (setR_fresh X.w))
  have small : ∀ b ∈ fp, b < s2.heap.objs.size := fun b hb => let ⟨_, e, _⟩ := T.obj _ _ st2 b hb; Heap.lt_size e
  have f3 : ∀ b ∈ fp, FpOk X pins (upd H2 D (SetO X.w D (fun _ => false) 0)) b ∧ b < s3.heap.objs.size := fun b hb => by
    have lt := small b hb
    exact ⟨⟨by rw [upd_ne (by rw [← dEq]; exact Nat.ne_of_lt lt)]; exact (f2 b hb).1, (f2 b hb).2⟩, by rw [heap3, Heap.size_push]; exact Nat.lt_succ_of_lt lt⟩
  have st3 : tn 0 s3.heap := T.keep _ _ _ st2 fun b _ o e => by rw [heap3]; exact Heap.get?_push_of_some _ e
  have I4 := block_start I3 blk nd f3
  have PGb := tgt s3 (upd H2 D (SetO X.w D (fun _ => false) 0)) s3.heap.objs.size (cellsFrom (s3.heap.objs.size + 1) sc.names (cloFrom X.env.cells sc.names [])) fp
  have PTb := tst s3 (upd H2 D (SetO X.w D (fun _ => false) 0)) s3.heap.objs.size (cellsFrom (s3.heap.objs.size + 1) sc.names (cloFrom X.env.cells sc.names [])) fp
  have PEb := elm s3 (upd H2 D (SetO X.w D (fun _ => false) 0)) s3.heap.objs.size (cellsFrom (s3.heap.objs.size + 1) sc.names (cloFrom X.env.cells sc.names [])) fp
  have out : ∀ b ∈ fp, (upd H2 D (SetO X.w D (fun _ => false) 0)) b = none := fun b hb => (f3 b hb).1.1
  show codeAny _ _ (.compStart (.SetComp el (oneGen tg it ifs) sc p1) 0 (.ref itA) (.ref D) (compEnvC sc (cellsFrom (s3.heap.objs.size + 1) sc.names (cloFrom X.env.cells sc.names [])) s3.heap.objs.size X.env)) (compPost (model X.prog X.w) X.A X.xe use Qf (.ref D) s3.heap.objs.size) { s3 with heap := pushCells (s3.heap.push { cls := .type "dict", data := .dict #[] }) sc.names }
  generalize hBE : compEnvC sc (cellsFrom (s3.heap.objs.size + 1) sc.names (cloFrom X.env.cells sc.names [])) s3.heap.objs.size X.env = be at I4 PGb PTb PEb ⊢
  have hloc : be.locals = s3.heap.objs.size := by subst hBE; rfl
  generalize hH3 : upd H2 D (SetO X.w D (fun _ => false) 0) = H3 at I3 I4 PGb PTb PEb w0 out f3
  generalize eq4 : ({ s3 with heap := pushCells (s3.heap.push { cls := .type "dict", data := .dict #[] }) sc.names } : Shared) = s4 at I4 ⊢
  have st4 : tn 0 s4.heap := T.keep _ _ _ st3 fun b _ o e => by rw [← eq4]; exact pushCells_keeps _ _ _ _ (Heap.get?_push_of_some _ e)
  have fpb : ∀ {σ' : L2.St} {H' : Hp} {s' : Shared}, Inv (X.blk s3 H3 sc be fp) [] σ' H' s' → (∀ b ∈ fp, H' b = none) → ∀ b ∈ fp, FpOk (X.blk s3 H3 sc be fp) [] H' b := fun {σ' H' s'} I' n b hb =>
    ⟨n b hb, (I'.ok.exf b hb).1, I'.ok.exfs b hb, .inl hb, fun x c e => (I'.ok.exf b hb).2 x c e, fun z hz => absurd (show z ∈ ([] : List (Addr × Obj)) ++ [] from hz) (by simp)⟩
  have loop : codeAny (model X.prog X.w) X.A (.compLoop (.SetComp el (oneGen tg it ifs) sc p1) 0 (.ref itA) (.ref D) be) (compPost (model X.prog X.w) X.A X.xe use Qf (.ref D) s3.heap.objs.size) s4 := by
    refine PpSet.compLoopS_any (fun n s' => ∃ i H', Inv (X.blk s3 H3 sc be fp) [] (wipe σ (own.map (·.2))) H' s' ∧ tn i s'.heap ∧ (∀ b ∈ fp, H' b = none) ∧ W i n H') ?_ m0 ⟨0, H3, I4, st4, out, w0⟩
    rintro n s5 ⟨i, H5, I5, st5, n5, w5⟩
    rcases turn i n H5 w5 with ⟨stop, fine⟩ | ⟨go, Nx, less, step⟩
    · refine thnF (T.done (X.blk s3 H3 sc be fp) rfl rfl rfl calm i [] s5 _ H5 (fun _ _ => False) I5 (fpb I5 n5) st5 stop) fun r s6 ⟨er, I6⟩ => ?_
      subst er
      have I7 : Inv X pins σ H5 s6 := I3.call' (ch := fp) I6.os I6.base I6.hok I6.bare fun b hb => ⟨(f3 b hb).1.2.2.2.1, (f3 b hb).1.2.1, (f3 b hb).1.2.2.2.2.1, (f3 b hb).1.2.2.2.2.2⟩
      have free5 : H5 s3.heap.objs.size = none := by rw [← hloc]; exact I6.free
      obtain ⟨m, hns, _⟩ := I6.loc
      refine back D s3.heap.objs.size s6 m H5 I7 fine ?_ (I3.fpOk (Nat.le_refl _) free5)
      rw [← hloc]; exact hns
    · refine thnF (T.item (X.blk s3 H3 sc be fp) rfl rfl rfl calm i [] s5 _ H5 (fun _ _ => False) I5 (fpb I5 n5) st5 go) fun r s6 ⟨u, er, h6⟩ => ?_
      subst er
      refine thnF h6 fun _ s7 ⟨x, H7, I7, r7, y7, st7, n7⟩ => ?_
      have I8 := I7.pinned (fpb I7 n7) (T.obj _ _ st7)
      refine thnF (PGb.run _ s7 _ H7 x u _ I8 r7 (step x H7 y7)) fun _ s8 ⟨σ8, H8, I9, same8, q8⟩ => ?_
      refine thnF (PTb.run _ s8 σ8 H8 _ I9 q8) fun b s9 ⟨H9, I10, q9⟩ => ?_
      have again : ∀ {s' : Shared} {H' : Hp}, Inv (X.blk s3 H3 sc be fp) ([] ++ pinsAt fp s7.heap) σ8 H' s' → Nx H' → ∃ m, m < n ∧ ∃ i H', Inv (X.blk s3 H3 sc be fp) [] (wipe σ (own.map (·.2))) H' s' ∧ tn i s'.heap ∧ (∀ b ∈ fp, H' b = none) ∧ W i m H' := fun {s' H'} I' nx => by
        obtain ⟨m', lt, w'⟩ := less H' nx
        have held : ∀ b ∈ fp, ∀ o, s7.heap.get? b = some o → s'.heap.get? b = some o ∧ H' b = none := fun b hb o e => (I'.pin (b, o) (List.mem_append_right _ (List.mem_append_right _ (mem_pinsAt hb e)))).imp_right fun z => z.1
        refine ⟨m', lt, i + 1, H', (I'.unpinned (pins := [])).weak (by rw [← same8, wipe_length]) (fun j v e => (wipe_some (same8.symm ▸ e)).1), T.keep _ _ _ st7 fun b hb o e => (held b hb o e).1, fun b hb => ?_, w'⟩
        obtain ⟨o, e, _⟩ := T.obj _ _ st7 b hb
        exact (held b hb o e).2
      cases b with
      | false =>
        simp only [Bool.false_eq_true, if_false] at q9 ⊢
        exact again I10 q9
      | true =>
        simp only [if_true] at q9 ⊢
        refine thnF (PEb.run _ s9 σ8 H9 _ I10 q9) fun z s10 ⟨yv, H10, I11, r10, c, S0, n0, ey, atD, lt, nx⟩ => ?_
        subst ey
        obtain ⟨tok, rfl⟩ : ∃ tok, z = Value.int c tok := r10
        exact add_int (X := X.blk s3 H3 sc be fp) I11 atD lt fun s11 I12 => again I12 nx
  exact set_start loop (T.self X.A 0 _ _ _ st4 loop)
theorem pe_si {el tg it : Expr} {ifs : List Expr} {sc : Scope} {own : List (Str × Nat)} {p1 : Pos} {wi : TI} {g : TG} {tt : TT} {te : TE} (calm : X.calm = true) (nd : X.N.Nodup) (src : PI X tg it wi) (blk : BlkOk X.N X.env.scope sc own)
    (tgt : ∀ (s : Shared) (H : Hp) (C : Addr) (cl : List (Str × Addr)) (fp : List Addr), PG (X.blk s H sc (compEnvC sc cl C X.env) fp) tg g)
    (tst : ∀ (s : Shared) (H : Hp) (C : Addr) (cl : List (Str × Addr)) (fp : List Addr), PTs (X.blk s H sc (compEnvC sc cl C X.env) fp) ifs tt)
    (elm : ∀ (s : Shared) (H : Hp) (C : Addr) (cl : List (Str × Addr)) (fp : List Addr), PE (X.blk s H sc (compEnvC sc cl C X.env) fp) el te) (plain : ∀ x, foldedSetIterable it X.env x = pure x := by intro _; rfl) :
    PE X (.SetComp el [⟨tg, it, ifs, 0⟩] sc p1) (tSi X.w wi g tt te (own.map (·.2))) := by
  constructor
  intro pins s σ H Q I h
  rw [set_eval]
  refine si_core calm nd I src blk tgt tst elm plain h fun D C s' m H' I' q hn f => ⟨m, hn, fun h2 only => ?_⟩
  exact ⟨.ref D, H', I'.turned (t' := s'.toks) (fun b o ne e => (only.2 b ne).trans e) f.1 f.2.1 f.2.2.2.1 f.2.2.2.2.1 f.2.2.2.2.2, rfl, q⟩
end
end GB

set_option maxRecDepth 100000
namespace GB
open PySem PySem.Spec PyProof.Rows L2
/-! sets of ints, by a comprehension, sorted: data -/
/-- tuples and frozen things stay -/
def Keep0 (H H' : Hp) : Prop := ∀ a o, H a = some o → ((∃ xs, o = .tup xs) ∨ ∃ q u, o = .frz q u) → H' a = some o
theorem sqT_keep0 {K : PySem.W.Frag} {H H' : Hp} (k : Keep0 H H') {a : Addr} {vs : List V} (h : SqT K H a vs) : SqT K H' a vs := by
  rcases h with (h | ⟨o, h⟩) | h
  · exact .inl (.inl (k _ _ h (.inl ⟨_, rfl⟩)))
  · exact .inl (.inr ⟨o, k _ _ h (.inr ⟨_, _, rfl⟩)⟩)
  · exact .inr h
theorem tqT_keep0 {K : PySem.W.Frag} {H H' : Hp} (k : Keep0 H H') {a : Addr} {vs : List V} (h : TqT K H a vs) : TqT K H' a vs := by
  rcases h with ⟨o, h, e⟩ | h
  · exact .inl ⟨o, k _ _ h (.inr ⟨_, _, rfl⟩), e⟩
  · exact .inr h
mutual
theorem Br.keep0 {K : PySem.W.Frag} {H H' : Hp} (k : Keep0 H H') : ∀ (d : PyData) (v : V), Br K H v d → Br K H' v d
  | .none, _, h => by cases h; exact .non
  | .bool _, _, h => by cases h; exact .bl _
  | .int _, _, h => by cases h; exact .int _
  | .str _, _, h => by cases h; exact .str _
  | .tuple ds, _, h => by cases h with | tup h1 h2 => exact .tup (tqT_keep0 k h1) (BrA.keep0 k ds _ h2)
  | .list ds, _, h => by cases h with | lst h1 h2 h3 => exact .lst (k _ _ h1 (.inr ⟨_, _, rfl⟩)) h2 (BrA.keep0 k ds _ h3)
  | .dict kvs, _, h => by cases h with | dct h1 h2 h3 => exact .dct (k _ _ h1 (.inr ⟨_, _, rfl⟩)) h2 (BrK.keep0 k kvs _ h3)
theorem BrA.keep0 {K : PySem.W.Frag} {H H' : Hp} (k : Keep0 H H') : ∀ (ds : List PyData) (vs : List V), BrA K H vs ds → BrA K H' vs ds
  | [], _, h => by cases h; exact .nil
  | d :: ds, _, h => by cases h with | cons h1 h2 => exact .cons (Br.keep0 k d _ h1) (BrA.keep0 k ds _ h2)
theorem BrK.keep0 {K : PySem.W.Frag} {H H' : Hp} (k : Keep0 H H') : ∀ (kvs : List (PyData × PyData)) (vs : List V), BrA K H vs (kvs.map (·.2)) → BrA K H' vs (kvs.map (·.2))
  | [], _, h => by cases h; exact .nil
  | (_, d) :: kvs, _, h => by cases h with | cons h1 h2 => exact .cons (Br.keep0 k d _ h1) (BrK.keep0 k kvs _ h2)
end
section
variable {L : Lay} {H H' H1 : Hp} {σ : L2.St} {ρ : En}
theorem OR.keep0 (k : Keep0 H H') {v : V} {xs : Ow} (h : OR L H v xs) (hv : ∀ l u, v = .ref l → H l = some u → H' l = some u) : OR L H' v xs := by
  cases xs with
  | l xs =>
    obtain ⟨l, vs, e, h1, h2, h3⟩ := h
    exact ⟨l, vs, e, hv l _ e h1, BrA.keep0 k _ _ h2, h3⟩
  | k kvs =>
    obtain ⟨l, vs, e, h1, h2, h3⟩ := h
    exact ⟨l, vs, e, hv l _ e h1, ⟨h2.1, BrA.keep0 k _ _ h2.2⟩, h3⟩
  | io m xs =>
    obtain ⟨l, vs, e, h1, h2, h3⟩ := h
    exact ⟨l, vs, e, hv l _ e h1, ⟨BrA.keep0 k _ _ h2.1, h2.2⟩, h3⟩
theorem Rel.swap (r1 : Rel L H1 σ ρ) (r : Rel L H σ ρ) (k1 : Keep H1 H') (k : Keep0 H H') (own : ∀ (i : Nat) (xs : Ow), ρ[i]? = some (.ow xs) → ∀ l, σ[i]? = some (some (.ref l)) → H' l = H l) (sm : Same L.H0 H') : Rel L H' σ ρ := by
  refine ⟨r.len, fun j z e => ?_, r.sep, sm⟩
  have q := r.at' j z e
  cases z with
  | un => trivial
  | d x => obtain ⟨v, e2, q⟩ := q; exact ⟨v, e2, Br.keep0 k _ _ q⟩
  | ow xs =>
    obtain ⟨v, e2, q⟩ := q
    refine ⟨v, e2, q.keep0 k fun l u el hl => ?_⟩
    subst el
    obtain ⟨w, e4, _⟩ := r.get e
    rw [e4] at e2
    rw [own j xs e l (by rw [e4]; exact congrArg some (show w = some (V.ref l) from e2))]
    exact hl
  | ob t =>
    obtain ⟨a, e2, _⟩ := q
    obtain ⟨a', e3, q⟩ := r1.at' j (.ob t) e
    rw [e2] at e3; cases e3
    exact ⟨a, e2, L.J.keep _ _ _ _ k1 q⟩
end
/-- an element that is an int from 0 to 62 -/
def dI63 (te : TEd) : TEd := fun ρ Q => te ρ fun s ρ1 => ∃ i : Nat, s = .d (.int i) ∧ i < 63 ∧ Q (.d (.int i)) ρ1
def dSs (ti : TId) (vs : List Nat) (g : DTG) (tt : TTd) (te : TEd) : TEd := fun ρ Q => ti ρ fun ds ρ1 => dLcGo vs g tt (dI63 te) (wipeD ρ1 vs) (fun acc => ∀ ns : List Int, ns.Pairwise (· < ·) → (∀ k, k ∈ ns ↔ PyData.int k ∈ acc) → Q (.own (ns.map .int)) (wipeD ρ1 vs)) ds []
def SetAt (w : World) (D : Addr) (H : Hp) (acc : List PyData) : Prop := ∃ (S : Int → Bool) (n : Nat) (ms : List Int), H D = some (SetO w D S n) ∧ (∀ k, S k = true ↔ PyData.int k ∈ acc) ∧ ms.Nodup ∧ ms.length = n ∧ (∀ k, k ∈ ms ↔ S k = true) ∧ ∀ k, k ∈ ms → 0 ≤ k ∧ k < 63
theorem sub_len {α : Type} [DecidableEq α] : ∀ {ms l : List α}, ms.Nodup → (∀ k ∈ ms, k ∈ l) → ms.length ≤ l.length
  | [], _, _, _ => Nat.zero_le _
  | m :: ms, l, h1, h2 => by
    obtain ⟨a, b⟩ := List.nodup_cons.mp h1
    have h := sub_len (l := l.erase m) b fun k hk => (List.mem_erase_of_ne (fun z => a (by rw [← z]; exact hk))).mpr (h2 k (List.mem_cons_of_mem _ hk))
    have hm := h2 m (List.mem_cons_self ..)
    rw [List.length_erase_of_mem hm] at h
    have := List.length_pos_of_mem hm
    rw [List.length_cons]
    omega
theorem few {ms : List Int} (h1 : ms.Nodup) (h2 : ∀ k, k ∈ ms → 0 ≤ k ∧ k < 63) : ms.length ≤ 63 := by
  have := sub_len (l := (List.range 63).map (fun i : Nat => (i : Int))) h1 fun k hk => by
    obtain ⟨a, b⟩ := h2 k hk
    exact List.mem_map.mpr ⟨k.toNat, List.mem_range.mpr (by omega), by omega⟩
  simpa using this
section
variable {L : Lay} {ti : TId} {vs : List Nat} {g : DTG} {tt : TTd} {te : TEd} {w : World}
theorem si_read {gt : TG} (hg : GOwn L vs gt g) : ∀ (σ : L2.St) (H : Hp) (Q' : VK), (∃ ρ Q, Rel L H σ ρ ∧ dSs ti vs g tt te ρ Q ∧ ∀ v H' s ρ', Go σ ρ ρ' H H' → Rel L H' σ ρ' → VR L H H' v s → Q s ρ' → Q' v H') →
    tSi w (tI L ti) gt (tT L tt) (tE L te) vs σ H fun v H1 => rSortedSet w [v] H1 Q' := by
  intro σ H Q' q
  obtain ⟨ρ, Q, r, q, fin⟩ := q
  refine ⟨ρ, _, r, q, fun J H1 ds ρ1 go r1 q1 it D hD => ?_⟩
  obtain ⟨G, Y, wk, g0, gk, step⟩ := it
  have rw1 : Rel L H1 (wipe σ vs) (wipeD ρ1 vs) := r1.wiped.move (wipe_length σ vs) (GB.wipe_out σ vs)
  have sD := same_new (o := SetO w D (fun _ => false) 0) hD
  have dSlot : ∀ (i : Nat) (ys : Ow), (wipeD ρ1 vs)[i]? = some (.ow ys) → (wipe σ vs)[i]? ≠ some (some (.ref D)) := fun i ys e z => by
    obtain ⟨l', us', q1, q2, _⟩ := rw1.getW e
    rw [z] at q1; cases q1
    rw [hD] at q2; cases q2
  refine walk_it wk (fun i H2 => Keep H1 H2 ∧ Go (wipe σ vs) (wipeD ρ1 vs) (wipeD ρ1 vs) H1 H2 ∧ Rel L H2 (wipe σ vs) (wipeD ρ1 vs) ∧ ∃ acc, SetAt w D H2 acc ∧
      dLcGo vs g tt (dI63 te) (wipeD ρ1 vs) (fun acc => ∀ ns : List Int, ns.Pairwise (· < ·) → (∀ k, k ∈ ns ↔ PyData.int k ∈ acc) → Q (.own (ns.map .int)) (wipeD ρ1 vs)) (ds.drop i) acc)
    ⟨keep_of_same sD, Go.sm sD, rw1.go sD, [], ⟨fun _ => false, 0, [], upd_same, fun k => by simp, List.nodup_nil, rfl, fun _ => by simp, fun _ h => nomatch h⟩, q1⟩ (fun i H2 _ ⟨k, _⟩ => gk _ _ k g0) (fun i' x H2 H3 hi ⟨k, goi, r2, acc, ⟨S, n, ms, hDl, hS, nd, hn, hmS, hm⟩, ql⟩ hy => ?_) fun H2 ⟨k, goi, r2, acc, ⟨S, n, ms, hDl, hS, nd, hn, hmS, hm⟩, ql⟩ => ?_
  · obtain ⟨sm, d, hd, bd⟩ := step i' H2 x H3 hi k (gk _ _ k g0) hy
    have e : ds.drop i' = d :: ds.drop (i' + 1) := by
      obtain ⟨hi', e⟩ := List.getElem?_eq_some_iff.mp hd
      rw [List.drop_eq_getElem_cons hi', e]
    rw [e] at ql
    have go3 : Go (wipe σ vs) (wipeD ρ1 vs) (wipeD ρ1 vs) H1 H3 := goi.tr (Go.sm sm)
    have hD3 : H3 D = some (SetO w D S n) := sm D _ hDl
    refine hg (r2.go sm) (noOwn_wiped ρ1) bd ql fun σ2 ρ2 r3 no2 q3 ew => ⟨by rw [ew, wipe_wipe], ?_⟩
    obtain ⟨e2, q3⟩ := q3
    have ew2 : wipe σ2 vs = wipe σ vs := by rw [ew, wipe_wipe]
    refine ⟨ρ2, _, r3, q3, fun b H4 ρ3 go4 r4 q4 => ?_⟩
    obtain ⟨e3, q4⟩ := q4
    subst e3
    obtain ⟨goA, rA, dA⟩ := back e2 no2 ew2 dSlot go3 hD3 go4 r4
    have k4 : Keep H2 H4 := (keep_of_same sm).tr (go4.keep r3)
    cases b with
    | false => exact iteF ⟨k.tr k4, goA, rA, acc, ⟨S, n, ms, dA, hS, nd, hn, hmS, hm⟩, by simpa using q4⟩
    | true =>
      rw [if_pos rfl] at q4
      have q4 : te ρ3 fun s ρ1' => ∃ i : Nat, s = .d (.int i) ∧ i < 63 ∧ (ρ1' = ρ3 ∧ ∃ y, GB.S.d (.int i) = .d y ∧ dLcGo vs g tt (dI63 te) (wipeD ρ1 vs) (fun acc => ∀ ns : List Int, ns.Pairwise (· < ·) → (∀ k, k ∈ ns ↔ PyData.int k ∈ acc) → Q (.own (ns.map .int)) (wipeD ρ1 vs)) (ds.drop (i' + 1)) (acc ++ [y])) := q4
      refine iteT ⟨ρ3, _, r4, q4, fun y H5 s ρ4 go5 r5 hv q5 => ?_⟩
      obtain ⟨c, rfl, c63, e4, y', ey, q6⟩ := q5
      subst e4
      cases ey
      have hv : Br L.K H5 y (.int (c : Int)) := hv
      cases hv
      obtain ⟨goB, rB, dB⟩ := back e2 no2 ew2 dSlot go3 hD3 (go4.tr go5) r5
      have k5 : Keep H2 H5 := k4.tr (go5.keep r4)
      have n63 := few nd hm
      have kk : Keep H1 (upd H5 D (SetO w D (fun j => S j || decide (j = (c : Int))) (if S c = true then n else n + 1))) := fun a o h f => by
        rw [upd_ne (fun z => by rw [z, hD] at h; cases h)]
        exact (k.tr k5) a o h f
      have k0 : Keep0 H5 (upd H5 D (SetO w D (fun j => S j || decide (j = (c : Int))) (if S c = true then n else n + 1))) := fun a o h f => by
        rw [upd_ne (fun z => ?_)]
        · exact h
        · rw [z, dB] at h
          cases h
          rcases f with ⟨_, f⟩ | ⟨_, _, f⟩ <;> cases f
      have goF : Go (wipe σ vs) (wipeD ρ1 vs) (wipeD ρ1 vs) H1 (upd H5 D (SetO w D (fun j => S j || decide (j = (c : Int))) (if S c = true then n else n + 1))) := by
        refine ⟨fun a o h n => ?_, fun j xs ej => ⟨xs, ej⟩, fun a h => ?_⟩
        · rw [upd_ne (fun z => by rw [z, hD] at h; cases h)]; exact goB.stay a o h n
        · by_cases z : a = D
          · rw [z]; exact hD
          · rw [upd_ne z] at h; exact goB.dom a h
      refine ⟨c, S, n, rfl, dB, by have : scanBound = 4096 := rfl; omega, kk, goF, rw1.swap rB kk k0 (fun j xs ej l el => upd_ne fun z => dSlot j xs ej (by rw [← z]; exact el)) ?_, acc ++ [.int c], ⟨_, _, if S c = true then ms else (c : Int) :: ms, upd_same, fun j => ?_, ?_, ?_, ?_, ?_⟩, q6⟩
      · intro a o h
        have ne : a ≠ D := fun z => by
          have h1 := r1.same a o h
          rw [z, hD] at h1
          cases h1
        rw [upd_ne ne]
        exact rB.same a o h
      · simp only [Bool.or_eq_true, decide_eq_true_eq, List.mem_append, List.mem_singleton, PyData.int.injEq, hS]
      · split
        · exact nd
        · rename_i hc
          refine List.nodup_cons.mpr ⟨fun m => ?_, nd⟩
          rw [hmS] at m
          contradiction
      · split
        · exact hn
        · rw [List.length_cons, hn]
      · intro j
        have hj := hmS j
        rw [Bool.or_eq_true, decide_eq_true_eq]
        split
        · rename_i hc
          exact ⟨fun z => .inl (hj.mp z), fun z => z.elim hj.mpr fun z => by rw [z, hmS]; exact hc⟩
        · rw [List.mem_cons]
          exact ⟨fun z => z.elim .inr fun z => .inl (hj.mp z), fun z => z.elim (fun z => .inr (hj.mpr z)) .inl⟩
      · split
        · exact hm
        · intro j hj
          rcases List.mem_cons.mp hj with rfl | hj
          · omega
          · exact hm j hj
  · rw [List.drop_length] at ql
    refine ⟨D, S, n, rfl, hDl, by have := few nd hm; omega, fun ns p h1 h2 h3 hp => ?_⟩
    have goF : Go σ ρ1 (wipeD ρ1 vs) H1 H2 := ⟨fun a o h n => goi.stay a o h fun j xs ej z => by
        by_cases nj : j ∈ vs
        · exact noOwn_wiped ρ1 j nj xs ej
        · rw [wipeD_get, if_neg nj] at ej
          rw [GB.wipe_out σ vs j nj] at z
          exact n j xs ej z, fun j xs ej => by
        by_cases nj : j ∈ vs
        · exact absurd ej (noOwn_wiped ρ1 j nj xs)
        · rw [wipeD_get, if_neg nj] at ej; exact ⟨xs, ej⟩, goi.dom⟩
    have sm := same_new (o := .lst (ns.map V.int)) hp
    have rF := r2.move (σ' := σ) (wipe_length σ vs).symm fun j hj => (GB.wipe_out σ vs j hj).symm
    refine fin (.ref p) _ (.own (ns.map .int)) _ ((go.tr goF).tr (Go.sm sm)) (rF.go sm) ⟨⟨p, _, rfl, upd_same, br_intsD ns, rF.same.free hp⟩, fun l e => by cases e; exact go.dom _ (goF.dom _ hp)⟩ (ql ns h1 fun k => (h2 k).trans (hS k))
end
section
variable {X : Cx} {L : Lay} {elt tg iter : Expr} {ifs : List Expr} {scope : Scope} {own : List (Str × Nat)} {pos pc p : Pos} {ti : TId} {g : DTG} {gt : TG} {tt : TTd} {te : TEd}
theorem de_sortSet (gd : Good X) (hgS : Gl X "sorted") (hmS : X.mg "sorted" = none) (hi : PI X tg iter (tI L ti)) (ok : BlkOk X.N X.env.scope scope own)
    (hg : ∀ (s : Shared) (H : Hp) (C : Addr) (cl : List (Str × Addr)) (fp : List Addr), PG (X.blk s H scope (compEnvC scope cl C X.env) fp) tg gt) (ho : GOwn L (own.map (·.2)) gt g)
    (ht : ∀ (s : Shared) (H : Hp) (C : Addr) (cl : List (Str × Addr)) (fp : List Addr), Good (X.blk s H scope (compEnvC scope cl C X.env) fp) → PTs (X.blk s H scope (compEnvC scope cl C X.env) fp) ifs (tT L tt))
    (he : ∀ (s : Shared) (H : Hp) (C : Addr) (cl : List (Str × Addr)) (fp : List Addr), Good (X.blk s H scope (compEnvC scope cl C X.env) fp) → PE (X.blk s H scope (compEnvC scope cl C X.env) fp) elt (tE L te))
    (hs : ∀ x, foldedSetIterable iter X.env x = pure x := by intro _; rfl) (h1 : starEach ((.SetComp elt [⟨tg, iter, ifs, 0⟩] scope pos) :: []) X.env = (false, eval (.SetComp elt [⟨tg, iter, ifs, 0⟩] scope pos) X.env) :: starEach [] X.env := by rfl) (hpl : (backTo pc (starEach [] X.env)).any (·.1) = false := by rfl) :
    PE X (.Call (.Name "sorted" p) [.SetComp elt [⟨tg, iter, ifs, 0⟩] scope pos] [] pc) (tE L (dSs ti (own.map (·.2)) g tt te)) :=
  (pe_callB (cr_sortedSet gd.calm) hgS hmS (by decide +kernel) (pa_cons (pe_si gd.calm gd.nd hi ok hg (fun s H C cl fp => ht s H C cl fp ⟨gd.calm, gd.gd, gd.sys, gd.un, gd.nd⟩) (fun s H C cl fp => he s H C cl fp ⟨gd.calm, gd.gd, gd.sys, gd.un, gd.nd⟩) hs) pa_nil h1) (by decide) (by decide) h1 hpl).less fun σ H Q' q => by
    exact si_read (w := X.w) ho σ H Q' q
end
end GB

set_option maxRecDepth 100000
namespace GB
open PySem PySem.Spec PyProof.Rows L2
/-! the truth of any plain thing -/
def truK : PyData → (Bool → Prop) → Prop
  | .none, k => k false
  | .bool b, k => k b
  | .int i, k => k (i != 0)
  | .str z, k => z.length ≤ sizeLine ∧ k ((z.length : Int) != 0)
  | .list xs, k => k (!xs.isEmpty)
  | .tuple xs, k => k (!xs.isEmpty)
  | .dict _, _ => False
def dTr (t : TEd) : TTd := fun ρ Q => t ρ fun s ρ1 => ∃ x, s = .d x ∧ truK x fun b => Q b ρ1
def dTrO (i : Nat) : TTd := fun ρ Q => ∃ xs, ρ[i]? = some (.own xs) ∧ Q (!xs.isEmpty) ρ
def dTrK (i : Nat) : TTd := fun ρ Q => ∃ kvs, ρ[i]? = some (.od kvs) ∧ Q (!kvs.isEmpty) ρ
theorem len_emp {α β : Type} {xs : List α} {ys : List β} (h : xs.length = ys.length) : xs.isEmpty = ys.isEmpty := by cases xs <;> cases ys <;> first | rfl | simp at h
section
variable {X : Cx} {L : Lay} {e : Expr} {t : TEd} {i : Nat} {ρ : En}
theorem dt_tr (hK : L.K = X.K) (h : PE X e (tE L t)) (he : ∀ whole, isTrue e X.env whole = (do let v ← whole; standAt e.pos; holding [v] (truthy v)) := by intro _; rfl) : PT X e (tT L (dTr t)) :=
  (pt_truth h he).less fun σ H Q' h => by
    obtain ⟨ρ, Q, r0, q, fin⟩ := h
    refine (show tE L t σ H _ from ⟨ρ, _, r0, q, fun v H1 s ρ1 k1 r1 hv q1 => ?_⟩)
    obtain ⟨x, rfl, q2⟩ := q1
    have hv : Br L.K H1 v x := hv
    cases hv with
    | non => exact ⟨false, rfl, fin _ H1 ρ1 k1 r1 q2⟩
    | bl b => exact ⟨b, rfl, fin _ H1 ρ1 k1 r1 q2⟩
    | int n => exact ⟨n != 0, rfl, fin _ H1 ρ1 k1 r1 q2⟩
    | str z => exact ⟨_, ⟨q2.1, rfl⟩, fin _ H1 ρ1 k1 r1 q2.2⟩
    | @lst a o vs xs h1 h2 h3 => exact ⟨!vs.isEmpty, .inl ⟨vs, .inl (.inr ⟨o, h1⟩), rfl⟩, by rw [len_emp h3.len]; exact fin _ H1 ρ1 k1 r1 q2⟩
    | @tup a vs xs h1 h3 => exact ⟨!vs.isEmpty, .inr (.inl ⟨vs, hK ▸ h1, rfl⟩), by rw [len_emp h3.len]; exact fin _ H1 ρ1 k1 r1 q2⟩
    | dct h1 h2 h3 => exact q2.elim
theorem dt_trO (h : PE X e (tVar i)) (he : ∀ whole, isTrue e X.env whole = (do let v ← whole; standAt e.pos; holding [v] (truthy v)) := by intro _; rfl) : PT X e (tT L (dTrO i)) :=
  (pt_truth h he).less fun σ H Q' h => by
    obtain ⟨ρ, Q, r0, ⟨xs, ex, q⟩, fin⟩ := h
    obtain ⟨l, vs, h1, h2, h3, _⟩ := r0.getO ex
    exact ⟨_, h1, !vs.isEmpty, .inl ⟨vs, .inl (.inl h2), rfl⟩, by rw [len_emp h3.len]; exact fin _ H ρ Go.rf r0 q⟩
theorem dt_trK (h : PE X e (tVar i)) (he : ∀ whole, isTrue e X.env whole = (do let v ← whole; standAt e.pos; holding [v] (truthy v)) := by intro _; rfl) : PT X e (tT L (dTrK i)) :=
  (pt_truth h he).less fun σ H Q' h => by
    obtain ⟨ρ, Q, r0, ⟨kvs, ek, q⟩, fin⟩ := h
    obtain ⟨a, vks, ha, h1, h2, h3, _⟩ := dr_own r0 ek
    refine ⟨_, ha, !vks.isEmpty, .inr (.inr ⟨vks, h1, rfl⟩), ?_⟩
    have : vks.isEmpty = kvs.isEmpty := len_emp (by have := congrArg List.length h2; simpa using this.symm)
    rw [this]; exact fin _ H ρ Go.rf r0 q
theorem e_tr {Q : Bool → En → Prop} : dTr t ρ Q ↔ t ρ fun s ρ1 => oneK s fun x => truK x fun b => Q b ρ1 := Iff.rfl
theorem e_trO {Q : Bool → En → Prop} : dTrO i ρ Q ↔ atK ρ i fun s => ownK s fun xs => Q (!xs.isEmpty) ρ := ⟨fun ⟨xs, e, h⟩ => ⟨_, e, xs, rfl, h⟩, fun ⟨_, e, xs, z, h⟩ => ⟨xs, z ▸ e, h⟩⟩
theorem e_trK {Q : Bool → En → Prop} : dTrK i ρ Q ↔ atK ρ i fun s => odK s fun xs => Q (!xs.isEmpty) ρ := at_od
theorem tru_b {b : Bool} {k : Bool → Prop} : truK (.bool b) k ↔ k b := Iff.rfl
theorem tru_n {k : Bool → Prop} : truK .none k ↔ k false := Iff.rfl
theorem tru_i {n : Int} {k : Bool → Prop} : truK (.int n) k ↔ k (n != 0) := Iff.rfl
theorem tru_l {xs : List PyData} {k : Bool → Prop} : truK (.list xs) k ↔ k (!xs.isEmpty) := Iff.rfl
theorem tru_t {xs : List PyData} {k : Bool → Prop} : truK (.tuple xs) k ↔ k (!xs.isEmpty) := Iff.rfl
theorem tru_s {z : Str} {k : Bool → Prop} : truK (.str z) k ↔ z.length ≤ sizeLine ∧ k ((z.length : Int) != 0) := Iff.rfl
/-- from without: sets -/
def n63K (s : S) (k : Nat → Prop) : Prop := ∃ i : Nat, s = .d (.int i) ∧ i < 63 ∧ k i
theorem e_i63 {Q : S → En → Prop} : dI63 t ρ Q ↔ t ρ fun s ρ1 => n63K s fun i => Q (.d (.int i)) ρ1 := Iff.rfl
theorem n63_d {n : Nat} {k : Nat → Prop} : n63K (.d (.int n)) k ↔ n < 63 ∧ k n := by
  constructor
  · rintro ⟨i, e, h⟩
    have e : (n : Int) = i := by simpa using e
    have e : n = i := by omega
    subst e
    exact h
  · intro h
    exact ⟨_, rfl, h⟩
theorem e_ss {ti : TId} {vs : List Nat} {g : DTG} {tt : TTd} {te : TEd} {Q : S → En → Prop} : dSs ti vs g tt te ρ Q ↔ ti ρ fun ds ρ1 => dLcGo vs g tt (dI63 te) (wipeD ρ1 vs) (fun acc => ∀ ns : List Int, ns.Pairwise (· < ·) → (∀ k, k ∈ ns ↔ PyData.int k ∈ acc) → Q (.own (ns.map .int)) (wipeD ρ1 vs)) ds [] := Iff.rfl
end
/-! x, y, z = a, b, c with names that a block captures -/
section
variable {X : Cx} {L : Lay} {a b c : Expr} {t1 t2 t3 : TEd} {pos : Pos}
theorem ds_parT3 {i j l : Nat} {x y z : Str} {px py pz pt : Pos} {kt k2 pt2} (g : Good X) (hK : L.K = X.K) (hi : X.N[i]? = some x) (hj : X.N[j]? = some y) (hl : X.N[l]? = some z) (hx : Loc X.env.scope x) (hy : Loc X.env.scope y) (hz : Loc X.env.scope z)
    (ha : PE X a (tE L t1)) (hb : PE X b (tE L t2)) (hc : PE X c (tE L t3))
    (hfx : X.fn x = true ∨ X.env.scope.names.lookup x = some .local := by first | exact .inl rfl | exact .inr rfl) (hfy : X.fn y = true ∨ X.env.scope.names.lookup y = some .local := by first | exact .inl rfl | exact .inr rfl) (hfz : X.fn z = true ∨ X.env.scope.names.lookup z = some .local := by first | exact .inl rfl | exact .inr rfl)
    (hw : swappedStores [.Tuple [.Name x px, .Name y py, .Name z pz] kt pt] (.Tuple [a, b, c] k2 pt2) X.env = pure none := by rfl)
    (h1 : starEach [a, b, c] X.env = (false, eval a X.env) :: starEach [b, c] X.env := by rfl) (h2 : starEach [b, c] X.env = (false, eval b X.env) :: starEach [c] X.env := by rfl) (h3 : starEach [c] X.env = (false, eval c X.env) :: starEach [] X.env := by rfl)
    (e1 : (assignEach [.Name x px, .Name y py, .Name z pz] X.env).map (·.2) = assign (.Name x px) X.env :: (assignEach [.Name y py, .Name z pz] X.env).map (·.2) := by rfl) (e2 : (assignEach [.Name y py, .Name z pz] X.env).map (·.2) = assign (.Name y py) X.env :: (assignEach [.Name z pz] X.env).map (·.2) := by rfl)
    (e22 : (assignEach [.Name z pz] X.env).map (·.2) = assign (.Name z pz) X.env :: (assignEach [] X.env).map (·.2) := by rfl)
    (e3 : (assignEach [.Name x px, .Name y py, .Name z pz] X.env).length = 3 := by rfl) (e4 : (assignEach [.Name x px, .Name y py, .Name z pz] X.env).findIdx? (·.1) = none := by rfl)
    (e5 : (assignEach [.Tuple [.Name x px, .Name y py, .Name z pz] kt pt] X.env).map (·.2) = [assign (.Tuple [.Name x px, .Name y py, .Name z pz] kt pt) X.env] := by rfl)
    (hs : swapsWithSole [.Tuple [.Name x px, .Name y py, .Name z pz] kt pt] (.Tuple [a, b, c] k2 pt2) pos.line X.env = pure false := by rfl) :
    PS X (.Assign [.Tuple [.Name x px, .Name y py, .Name z pz] kt pt] (.Tuple [a, b, c] k2 pt2) pos) (tS L (dPar3 i j l t1 t2 t3)) :=
  (ps_asg (pe_tup (pa_cons ha (pa_cons hb (pa_cons hc pa_nil h3) h2) h1)) (pg_tup g.calm (pgs_cons (pg_name g.nd hi hx hfx) (pgs_cons (pg_name g.nd hj hy hfy) (pgs_cons (pg_name g.nd hl hz hfz) pgs_nil e22) e2) e1) e3 e4) hs hw e5).less fun D σ H q => by
    obtain ⟨ρ, De, r, q, n1, _⟩ := q
    refine ⟨ρ, _, r, q, fun v H1 s ρ1 go r1 hv q1 => ⟨ρ1, _, r1, q1, fun w H2 s2 ρ2 go2 r2 hw q2 => ⟨ρ2, _, r2, q2, fun u H3 s3 ρ3 go3 r3 hu q3 => ⟨(show (3 : Nat) ≤ sizeLine by decide), fun p hp => ?_⟩⟩⟩⟩
    have sm : Same H3 (upd H3 p (.tup [v, w, u])) := same_new hp
    have r4 := r3.go sm
    have g4 : Go σ ρ3 ρ3 H3 (upd H3 p (.tup [v, w, u])) := Go.sm sm
    have gg := (go.tr go2).tr go3
    have hv4 := (hv.later r go r1 (go2.tr go3)).later r gg r3 g4
    have hw4 := (hw.later r1 go2 r2 go3).later r1 (go2.tr go3) r3 g4
    have hu4 := hu.later r2 go3 r3 g4
    have ra := r4.put1 (j := i) (r.old gg) hv4
    have oa := (r.old gg).set (Hm := H1) (i := i) go.dom hv.there
    have rb := ra.put1 (j := j) oa hw4
    have ob := oa.set (Hm := H2) (i := j) go2.dom hw.there
    have rc := rb.put1 (j := l) ob hu4
    exact ⟨p, [v, w, u], rfl, .inl (.inl upd_same), rfl, v, [w, u], rfl, w, [u], rfl, u, [], rfl, rfl, n1 _ _ _ ((gg.keep r).tr (keep_of_same sm)) rc q3⟩
end
end GB

set_option maxRecDepth 100000
namespace GB
open PySem PySem.Spec PyProof.Rows L2
/-! comprehensions of two clauses by what holds at their turns -/
section
variable {vs vs1 : List Nat} {g g1 : DTG} {tt tt1 : TTd} {ti1 : TId} {te : TEd} {ρw : En} {R : List PyData → Prop}
theorem lc2I (I : List PyData → List PyData → Prop) (hn : ∀ acc, I [] acc → R acc)
    (hc : ∀ d ds acc (K : List PyData → Prop), (∀ acc', I ds acc' → K acc') → I (d :: ds) acc → g d ρw fun ρ2 => wipeD ρ2 vs = ρw ∧ tt ρ2 fun b ρ3 => ρ3 = ρ2 ∧ iteK b (ti1 ρ2 fun ds1 ρ4 => ρ4 = ρ2 ∧ dInGo vs1 g1 tt1 te (wipeD ρ2 vs1) K ds1 acc) (K acc)) :
    ∀ ds acc, I ds acc → dLc2Go vs vs1 g tt ti1 g1 tt1 te ρw R ds acc
  | [], acc, h => hn acc h
  | d :: ds, acc, h => hc d ds acc _ (fun acc' h' => lc2I I hn hc ds acc' h') h
theorem inI (I : List PyData → List PyData → Prop) {K : List PyData → Prop} (hn : ∀ acc, I [] acc → K acc)
    (hc : ∀ d ds acc (K' : List PyData → Prop), (∀ acc', I ds acc' → K' acc') → I (d :: ds) acc → g1 d ρw fun ρ2 => wipeD ρ2 vs1 = ρw ∧ tt1 ρ2 fun b ρ3 => ρ3 = ρ2 ∧ iteK b (te ρ2 fun s ρ4 => ρ4 = ρ2 ∧ oneK s fun y => acc.length < sizeLine ∧ K' (acc ++ [y])) (K' acc)) :
    ∀ ds acc, I ds acc → dInGo vs1 g1 tt1 te ρw K ds acc
  | [], acc, h => hn acc h
  | d :: ds, acc, h => hc d ds acc _ (fun acc' h' => inI I hn hc ds acc' h') h
/-- the inner items, as they are -/
theorem in_id {K : List PyData → Prop} {ds acc : List PyData} (hl : acc.length + ds.length ≤ sizeLine) (hK : K (acc ++ ds)) (hc : ∀ d (P : En → Prop), (∀ ρ2, wipeD ρ2 vs1 = ρw → te ρ2 (fun s ρ4 => ρ4 = ρ2 ∧ s = .d d) → (∀ Q : S → En → Prop, Q (.d d) ρ2 → te ρ2 Q) → P ρ2) → g1 d ρw P) :
    dInGo vs1 g1 dYes te ρw K ds acc := by
  refine inI (fun es ac => ac.length + es.length ≤ sizeLine ∧ ac ++ es = acc ++ ds) (fun ac h => ?_) (fun d es ac K' hK' h => ?_) ds acc ⟨hl, rfl⟩
  · have := h.2
    rw [List.append_nil] at this
    rw [this]; exact hK
  · refine hc d _ fun ρ2 w t q => ⟨w, rfl, q _ ⟨rfl, _, rfl, ?_, hK' _ ⟨?_, ?_⟩⟩⟩
    · have := h.1; rw [List.length_cons] at this; omega
    · have := h.1; rw [List.length_cons] at this; rw [List.length_append, List.length_singleton]; omega
    · rw [List.append_assoc]; exact h.2
/-- all pieces, one behind another -/
theorem flat_run {f : PyData → List PyData} {ds : List PyData} {m : Nat} (hm : ds.length * m ≤ sizeLine) (hf : ∀ d ∈ ds, (f d).length ≤ m) (hn : R (ds.flatMap f))
    (hc : ∀ d ∈ ds, ∀ (acc : List PyData) (K : List PyData → Prop), acc.length + (f d).length ≤ sizeLine → K (acc ++ f d) → g d ρw fun ρ2 => wipeD ρ2 vs = ρw ∧ tt ρ2 fun b ρ3 => ρ3 = ρ2 ∧ iteK b (ti1 ρ2 fun ds1 ρ4 => ρ4 = ρ2 ∧ dInGo vs1 g1 tt1 te (wipeD ρ2 vs1) K ds1 acc) (K acc)) :
    dLc2Go vs vs1 g tt ti1 g1 tt1 te ρw R ds [] := by
  refine lc2I (fun es acc => (∀ d ∈ es, d ∈ ds) ∧ acc.length + es.length * m ≤ ds.length * m ∧ acc ++ es.flatMap f = ds.flatMap f) (fun acc h => ?_) (fun d es acc K hK h => ?_) ds [] ⟨fun _ h => h, by simp, rfl⟩
  · have := h.2.2
    simp at this
    rw [this]; exact hn
  · obtain ⟨h0, h1, h2⟩ := h
    have hd := h0 d (by simp)
    have hfd := hf d hd
    rw [List.length_cons, Nat.add_mul, Nat.one_mul] at h1
    have h3 : acc.length + es.length * m + m ≤ ds.length * m := by omega
    refine hc d hd acc K (by omega) (hK _ ⟨fun z hz => h0 z (by simp [hz]), ?_, ?_⟩)
    · rw [List.length_append]; omega
    · rw [List.append_assoc, ← h2]; simp
end
/-! for: all pieces, one behind another -/
/-- strictly ascending ints with the same members are the same -/
theorem asc_eq : ∀ {xs ys : List Int}, xs.Pairwise (· < ·) → ys.Pairwise (· < ·) → (∀ k, k ∈ xs ↔ k ∈ ys) → xs = ys
  | [], [], _, _, _ => rfl
  | [], y :: ys, _, _, h => by have := (h y).mpr (by simp); cases this
  | x :: xs, [], _, _, h => by have := (h x).mp (by simp); cases this
  | x :: xs, y :: ys, hx, hy, h => by
    obtain ⟨x1, x2⟩ := List.pairwise_cons.mp hx
    obtain ⟨y1, y2⟩ := List.pairwise_cons.mp hy
    have e : x = y := by
      rcases List.mem_cons.mp ((h x).mp (by simp)) with q | q
      · exact q
      · rcases List.mem_cons.mp ((h y).mpr (by simp)) with r | r
        · exact r.symm
        · have a := y1 x q; have b := x1 y r; omega
    subst e
    rw [asc_eq x2 y2 fun k => ?_]
    constructor
    · intro hk
      rcases List.mem_cons.mp ((h k).mp (by simp [hk])) with q | q
      · have := x1 k hk; omega
      · exact q
    · intro hk
      rcases List.mem_cons.mp ((h k).mpr (by simp [hk])) with q | q
      · have := y1 k hk; omega
      · exact q
theorem filt_asc (n : Nat) (p : Nat → Bool) : (((List.range n).filter p).map fun i : Nat => (i : Int)).Pairwise (· < ·) := by
  rw [List.pairwise_map]
  exact (List.Pairwise.sublist List.filter_sublist List.pairwise_lt_range).imp fun h => by omega
end GB

set_option maxRecDepth 100000
set_option maxHeartbeats 3200000
/-! a set of the ints of a list, sorted -/
namespace GB
open PySem PySem.Spec PyProof.Rows L2
abbrev noneIn (w : World) : Obj := { cls := .type "set", dict := none, data := .set #[] 0 (.fresh 0 0 (!w.params.followText "set-order")) }
section
variable {P : Program} {w : World} {A : Around} {E : Value → Shared → Prop} {s : Shared}
abbrev SetDone (w : World) (s : Shared) (ks : List Int) (s2 : Shared) : Prop := ∃ g tk c, s2 = { s with heap := g, toks := tk } ∧ SetR w g s.heap.objs.size (fun j => decide (j ∈ ks)) c ∧ c ≤ ks.length ∧ ∀ b o, s.heap.get? b = some o → g.get? b = some o
/-- what set.__init__ does with a list of ints -/
theorem set_fill {l : Addr} {us : Array Value} (ks : List Int) {Kf : PySem.Fin → Shared → Prop} {Ke : Value → Shared → Prop} (hh : A.handled = none) (il : s.heap.IsList l us) (iv : IntsAre us.toList ks) (few : ks.length + 1 < scanBound)
    (fin : ∀ s2, SetDone w s ks s2 → Kf (.done (.ret .none)) s2) :
    wpAny (model P w) A (Builtin.«set.__init__» ⟨[.ref s.heap.objs.size, .ref l], []⟩) Kf Ke { s with heap := s.heap.push (noneIn w) } := by
  have many : us.size = ks.length := by have q := IntsAre.length iv; simpa using q
  obtain ⟨⟨cl, dc, da, sl⟩, there, c1, n, c2⟩ := id il
  simp only at c1 c2
  subst c1 c2
  have here : (s.heap.push (noneIn w)).get? s.heap.objs.size = some (noneIn w) := Heap.get?_push_size _ rfl
  have there1 : (s.heap.push (noneIn w)).get? l = some { cls := .type "list", dict := dc, data := .seq us n, slots := sl } := Heap.get?_push_of_some _ there
  have il1 : (s.heap.push (noneIn w)).IsList l us := ⟨_, there1, rfl, n, rfl⟩
  have ll : l < s.heap.objs.size := Heap.lt_size there
  have size1 : (s.heap.push (noneIn w)).objs.size = s.heap.objs.size + 1 := Heap.size_push ..
  have isSet : Shared.TypeIs { s with heap := s.heap.push (noneIn w) } (.ref s.heap.objs.size) "set" := ⟨_, here, rfl⟩
  have q1 := PySem.F.sub_list_set
  have q2 := PySem.F.sub_list_frozenset
  have q3 : (Value.type "list" == Value.type "dict") = false := by decide
  unfold Builtin.«set.__init__» noKeywords Builtin.Frozenset.updateFrom
  generalize hp : pyIter = goes
  wp_walk
  subst hp
  refine wpAny_pyIter_list il1 ?_
  refine wpAny_bind (wpAny_runValue ?_)
  have ne1 : l ≠ (s.heap.push (noneIn w)).objs.size := fun z => by
    exact Nat.ne_of_lt (Nat.lt_succ_of_lt ll) (z.trans size1)
  have fresh1 : s.heap.objs.size ∉ [(s.heap.push (noneIn w)).objs.size, l] := fun m => by
    rw [size1] at m
    rcases List.mem_cons.mp m with e | m
    · exact Nat.ne_of_lt (Nat.lt_succ_self _) e
    · exact Nat.ne_of_gt ll (List.mem_singleton.mp m)
  have each : ∀ (i : Nat) (v : Value), us[i]? = some v → ∃ k t, ks[i]? = some k ∧ v = .int k t := fun i v e => by
    obtain ⟨t, et⟩ := IntsAre.int_at iv i v (by rw [Array.getElem?_toList]; exact e)
    have il : i < ks.length := by rw [← many]; exact (Array.getElem?_eq_some_iff.mp e).1
    exact ⟨ks.getD i 0, t, by rw [List.getD_eq_getElem?_getD, List.getElem?_eq_getElem il]; rfl, et⟩
  refine set_update_ints ((Walks.list (by simp [hh]) _ l ne1 us).toS) s.heap.objs.size fresh1 ks many few each (us.size - 0) 0 _ (by omega) (Nat.zero_le _) ⟨⟨_, Heap.get?_push_size _ rfl, rfl, rfl⟩, il1.push _⟩ ⟨0, Nat.le_refl 0, setR_new_at (Heap.get?_push_of_some _ here)⟩ fun s2 c mv cl rs => ?_
  have out : SetDone w s ks s2 := by
    obtain ⟨g, gs, dr, tk, os⟩ := s2
    have e1 : gs = s.gens := mv.gens
    have e2 : dr = s.drawn := mv.drawn
    have e3 : os = s.os := mv.os
    subst e1 e2 e3
    refine ⟨g, tk, c, rfl, rs, by omega, fun b o e => mv.heap b o (fun m => ?_) (Heap.get?_push_of_some _ (Heap.get?_push_of_some _ e))⟩
    have lb := Heap.lt_size e
    rcases List.mem_cons.mp m with z | m
    · exact Nat.ne_of_lt lb z
    · exact Nat.ne_of_lt (Nat.lt_succ_of_lt lb) ((List.mem_singleton.mp m).trans size1)
  exact wpAny_pure (wpAny_pure (fin s2 out))
/-- set(l) -/
theorem set_made {l : Addr} {us : Array Value} (ks : List Int) {Q : Value → Shared → Prop} (hh : A.handled = none) (il : s.heap.IsList l us) (iv : IntsAre us.toList ks) (few : ks.length + 1 < scanBound)
    (fin : ∀ s2, SetDone w s ks s2 → Q (.ref s.heap.objs.size) s2) : wpAny (model P w) A (call (.type "set") [.ref l]) Q E s := by
  obtain ⟨_, _, z1⟩ := PySem.F.called_set.mro
  have z2 := PySem.F.called_set.made
  have z3 := PySem.F.called_set.sub
  have z4 := PySem.F.called_set.notType
  have z5 := PySem.F.called_set.canCreate
  have z6 := PySem.F.typeCall_set_1 (.ref l)
  refine wpAny_call (codeAny_of_tree ?_)
  show wpAny _ _ (callAny (.type "set") _) _ _ _
  refine wpAny_pure ⟨Code.quiet_builtin _ (by decide +kernel), codeAny_builtin PySem.F.entry_type_call ?_⟩
  rw [Around.under_plain (weight_type_call_type "set" [.ref l] []) rfl]
  repeat (any_goals (first | assumption | wp_step))
  refine codeAny_mono (code_set_led1 (.ref l) (E := E) (Q₁ := fun o s1 => o = .ref s.heap.objs.size ∧ s1 = { s with heap := s.heap.push (noneIn w) }) ⟨rfl, rfl⟩) fun r s1 got => ?_
  rcases r with e | fl
  · exact got
  cases fl with
  | ret o =>
    obtain ⟨rfl, rfl⟩ := got
    have isSet : Shared.TypeIs { s with heap := s.heap.push (noneIn w) } (.ref s.heap.objs.size) "set" := ⟨_, Heap.get?_push_size _ rfl, rfl⟩
    have z7 := PySem.F.called_set.init.lookup
    have z8 := PySem.F.called_set.init.bind (.ref s.heap.objs.size)
    repeat (any_goals (first | assumption | wp_step))
    refine codeAny_mono (codeAny_call_builtin (R := wants (fun r s2 => r = .none ∧ SetDone w s ks s2) E) PySem.F.called_set.init.plain PySem.F.entry_set_init (check_set_init_1 isSet ?_)) fun r s2 got => ?_
    · exact set_fill ks (by simp [hh]) il iv few fun s2 d => ⟨rfl, d⟩
    · rcases r with e | fl
      · exact got
      cases fl with
      | ret r =>
        obtain ⟨rfl, d⟩ := got
        repeat (any_goals (first | assumption | wp_step))
        exact fin _ d
      | _ => exact got.elim
  | _ => exact got.elim
end
def rSetI (w : World) (K : PySem.W.Frag) : List V → Hp → VK → Prop := fun vs H Q => ∃ (a : Addr) (ks : List Int), vs = [.ref a] ∧ SqL K H a (ks.map V.int) ∧ ks.length + 1 < scanBound ∧
  ∀ (p : Addr) (ms : List Int), H p = none → ms.Nodup → (∀ k, k ∈ ms ↔ k ∈ ks) → Q (.ref p) (upd H p (SetO w p (fun j => decide (j ∈ ks)) ms.length))
theorem cr_setI {X : Cx} (hc : X.calm = true) : CallR X (.type "set") (rSetI X.w X.K) := by
  intro pins s σ H vs us Q I r h
  obtain ⟨a, ks, rfl, hs, few, q⟩ := h
  obtain ⟨its, rv, hl, hz⟩ := I.list hs
  rw [Vals.ref1 r]
  refine set_made ks (I.ok.hd hc) hl.isList (by simpa using rv.ints) few fun s2 ⟨g, tk, c, e, R, _, kept⟩ => ?_
  subst e
  obtain ⟨o, es, ep, t, h1, h2, h3, h4, h5, h6, h7, h8, h9, h10⟩ := id R
  refine ⟨.ref s.heap.objs.size, upd H s.heap.objs.size (SetO X.w s.heap.objs.size (fun j => decide (j ∈ ks)) c), I.laid (t' := tk) kept (Nat.le_refl _) (setO_new R), rfl, ?_⟩
  have q := q s.heap.objs.size (es.toList.map keyOf) (I.hok.fresh (Nat.le_refl _)) h5 fun k => by rw [← h6 k, decide_eq_true_iff]
  rw [List.length_map, Array.length_toList, h9] at q
  exact q
/-- sorted(set(x)), x a list of one's own of ints from 0 to 62 -/
def dSsL (i : Nat) : TEd := fun ρ Q => ∃ ks : List Int, ρ[i]? = some (.own (ks.map .int)) ∧ (∀ k ∈ ks, 0 ≤ k ∧ k < 63) ∧ ks.length < 4000 ∧ ∀ ns : List Int, ns.Pairwise (· < ·) → (∀ k, k ∈ ns ↔ k ∈ ks) → Q (.own (ns.map .int)) ρ
section
variable {X : Cx} {L : Lay} {e : Expr} {i : Nat} {p p2 pc q : Pos}
theorem de_ssL (gd : Good X) (hgS : Gl X "sorted") (hmS : X.mg "sorted" = none) (hgT : Gl X "set") (hmT : X.mg "set" = none) (hx : PE X e (tVar i))
    (h0 : starEach (e :: []) X.env = (false, eval e X.env) :: starEach [] X.env := by rfl) (hp0 : (backTo q (starEach [] X.env)).any (·.1) = false := by rfl)
    (h1 : starEach ((.Call (.Name "set" p2) [e] [] q) :: []) X.env = (false, eval (.Call (.Name "set" p2) [e] [] q) X.env) :: starEach [] X.env := by rfl) (hpl : (backTo pc (starEach [] X.env)).any (·.1) = false := by rfl) :
    PE X (.Call (.Name "sorted" p) [.Call (.Name "set" p2) [e] [] q] [] pc) (tE L (dSsL i)) :=
  (pe_callB (cr_sortedSet gd.calm) hgS hmS (by decide +kernel) (pa_cons (pe_callTy (cr_setI gd.calm) hgT hmT (by decide +kernel) (pa_cons hx pa_nil h0) (by decide) (by decide) h0 hp0) pa_nil h1) (by decide) (by decide) h1 hpl).less fun σ H Q' z => by
    obtain ⟨ρ, Q, r, ⟨ks, ek, hk, hl, q⟩, fin⟩ := z
    obtain ⟨o, e1, v, e2, l, vs, e3, h1, h2, h3⟩ := r.get ek
    have ev := br_ints h2
    subst ev
    refine ⟨v, by rw [e1, e2], ?_⟩
    subst e3
    refine ⟨l, ks, rfl, .inl (.inl h1), by have : scanBound = 4096 := rfl; omega, fun p ms hp nd hm => ?_⟩
    have m63 := few nd fun k h => hk k ((hm k).mp h)
    refine ⟨p, fun j => decide (j ∈ ks), ms.length, rfl, upd_same, by omega, fun ns p2 a1 a2 a3 hp2 => ?_⟩
    have sm := (same_new (o := SetO X.w p (fun j => decide (j ∈ ks)) ms.length) hp)
    have sm2 := sm.trans (same_new (o := .lst (ns.map V.int)) hp2)
    have nr : NR L H (upd (upd H p (SetO X.w p (fun j => decide (j ∈ ks)) ms.length)) p2 (.lst (ns.map V.int))) (.ref p2) (.own (ns.map .int)) := ⟨p2, _, rfl, sm.free hp2, upd_same, br_intsD ns⟩
    exact fin _ _ _ ρ (Go.sm sm2) (r.go sm2) (nr.vr r sm2 Go.rf) (q ns a1 fun k => by rw [a2 k, decide_eq_true_iff])
end
theorem e_ssL {ρ : En} {i : Nat} {Q : S → En → Prop} : dSsL i ρ Q ↔ atK ρ i fun s => ownK s fun xs => ∃ ks : List Int, xs = ks.map .int ∧ (∀ k ∈ ks, 0 ≤ k ∧ k < 63) ∧ ks.length < 4000 ∧ ∀ ns : List Int, ns.Pairwise (· < ·) → (∀ k, k ∈ ns ↔ k ∈ ks) → Q (.own (ns.map .int)) ρ :=
  ⟨fun ⟨ks, e, h⟩ => ⟨_, e, _, rfl, ks, rfl, h⟩, fun ⟨_, e, _, z, ks, w, h⟩ => ⟨ks, by rw [e, z, w], h⟩⟩
/-- sorted(set(x)), x a firm list -/
def dSsF (t : TEd) : TEd := fun ρ Q => t ρ fun s ρ1 => ∃ ks : List Int, s = .d (.list (ks.map .int)) ∧ (∀ k ∈ ks, 0 ≤ k ∧ k < 63) ∧ ks.length < 4000 ∧ ∀ ns : List Int, ns.Pairwise (· < ·) → (∀ k, k ∈ ns ↔ k ∈ ks) → Q (.own (ns.map .int)) ρ1
section
variable {X : Cx} {L : Lay} {e : Expr} {t : TEd} {p p2 pc q : Pos}
theorem de_ssF (hK : L.K = X.K) (gd : Good X) (hgS : Gl X "sorted") (hmS : X.mg "sorted" = none) (hgT : Gl X "set") (hmT : X.mg "set" = none) (hx : PE X e (tE L t))
    (h0 : starEach (e :: []) X.env = (false, eval e X.env) :: starEach [] X.env := by rfl) (hp0 : (backTo q (starEach [] X.env)).any (·.1) = false := by rfl)
    (h1 : starEach ((.Call (.Name "set" p2) [e] [] q) :: []) X.env = (false, eval (.Call (.Name "set" p2) [e] [] q) X.env) :: starEach [] X.env := by rfl) (hpl : (backTo pc (starEach [] X.env)).any (·.1) = false := by rfl) :
    PE X (.Call (.Name "sorted" p) [.Call (.Name "set" p2) [e] [] q] [] pc) (tE L (dSsF t)) :=
  (pe_callB (cr_sortedSet gd.calm) hgS hmS (by decide +kernel) (pa_cons (pe_callTy (cr_setI gd.calm) hgT hmT (by decide +kernel) (pa_cons hx pa_nil h0) (by decide) (by decide) h0 hp0) pa_nil h1) (by decide) (by decide) h1 hpl).less fun σ H Q' z => by
    obtain ⟨ρ, Q, r, q, fin⟩ := z
    refine ⟨ρ, _, r, q, fun v H1 s ρ1 go1 r1 hv q1 => ?_⟩
    obtain ⟨ks, rfl, hk, hl, q⟩ := q1
    have hv : Br L.K H1 v (.list (ks.map .int)) := hv
    obtain ⟨l, vs, rfl, h1, h3⟩ := list_sq hK (Bk.of hv)
    obtain rfl := br_ints h3
    refine ⟨l, ks, rfl, h1, by have : scanBound = 4096 := rfl; omega, fun p ms hp nd hm => ?_⟩
    have m63 := few nd fun k h => hk k ((hm k).mp h)
    refine ⟨p, fun j => decide (j ∈ ks), ms.length, rfl, upd_same, by omega, fun ns p2 a1 a2 a3 hp2 => ?_⟩
    have sm := (same_new (o := SetO X.w p (fun j => decide (j ∈ ks)) ms.length) hp)
    have sm2 := sm.trans (same_new (o := .lst (ns.map V.int)) hp2)
    have nr : NR L H1 (upd (upd H1 p (SetO X.w p (fun j => decide (j ∈ ks)) ms.length)) p2 (.lst (ns.map V.int))) (.ref p2) (.own (ns.map .int)) := ⟨p2, _, rfl, sm.free hp2, upd_same, br_intsD ns⟩
    exact fin _ _ _ ρ1 (go1.tr (Go.sm sm2)) (r1.go sm2) (nr.vr r1 sm2 go1) (q ns a1 fun k => by rw [a2 k, decide_eq_true_iff])
end
theorem e_ssF {ρ : En} {t : TEd} {Q : S → En → Prop} : dSsF t ρ Q ↔ t ρ fun s ρ1 => ∃ ks : List Int, s = .d (.list (ks.map .int)) ∧ (∀ k ∈ ks, 0 ≤ k ∧ k < 63) ∧ ks.length < 4000 ∧ ∀ ns : List Int, ns.Pairwise (· < ·) → (∀ k, k ∈ ns ↔ k ∈ ks) → Q (.own (ns.map .int)) ρ1 := Iff.rfl
/-- what never is come to -/
def dNever : TSd := fun _ _ => False
theorem ds_never {X : Cx} {L : Lay} {st : Stmt} : PS X st (tS L dNever) := by
  constructor
  intro pins s σ H D I q
  obtain ⟨ρ, De, r, q, _⟩ := q
  exact q.elim
theorem e_never {D : EndsD} {ρ : En} : dNever D ρ ↔ False := Iff.rfl
end GB

set_option maxRecDepth 100000
/-! dict displays with text keys; looking into dicts of the top -/
namespace GB
open PySem PySem.Spec PyProof.Rows L2
def dVals : List TEd → En → (List PyData → En → Prop) → Prop
  | [], ρ, Q => Q [] ρ
  | t :: ts, ρ, Q => t ρ fun s ρ1 => ∃ x, s = .d x ∧ dVals ts ρ1 fun xs ρ2 => Q (x :: xs) ρ2
def putAll (kvs : List (Key × PyData)) (more : List (Key × PyData)) : List (Key × PyData) := more.foldl (fun acc p => putD acc p.1 p.2) kvs
/-- {k: v, ..} -/
def dDisp (ks : List Str) (ts : List TEd) : TEd := fun ρ Q => dVals ts ρ fun xs ρ1 => Q (.od (putAll [] ((ks.map Sum.inr).zip xs))) ρ1
def trsOf (L : Lay) : List Str → List TEd → List (TE × TE)
  | k :: ks, t :: ts => (tC (.str k), tE L t) :: trsOf L ks ts
  | _, _ => []
section
variable {L : Lay}
theorem merge_rel {K : PySem.W.Frag} {H : Hp} : ∀ {more : List (Key × PyData)} {vmore : List (Key × V)} {kvs : List (Key × PyData)} {vks : List (Key × V)}, more.map (·.1) = vmore.map (·.1) → BrA K H (vmore.map (·.2)) (more.map (·.2)) → kvs.map (·.1) = vks.map (·.1) → BrA K H (vks.map (·.2)) (kvs.map (·.2)) →
    (putAll kvs more).map (·.1) = (mergeK vks vmore).map (·.1) ∧ BrA K H ((mergeK vks vmore).map (·.2)) ((putAll kvs more).map (·.2))
  | [], [], _, _, _, _, h3, h4 => ⟨h3, h4⟩
  | [], _ :: _, _, _, h, _, _, _ => by simp at h
  | _ :: _, [], _, _, h, _, _, _ => by simp at h
  | (k, x) :: more, (k', v) :: vmore, kvs, vks, h1, h2, h3, h4 => by
    simp only [List.map_cons, List.cons.injEq] at h1
    obtain ⟨rfl, h1⟩ := h1
    cases h2 with
    | cons b bs =>
      obtain ⟨a1, a2⟩ := put_rel (k := k) b h3 h4
      exact merge_rel (more := more) (vmore := vmore) (kvs := putD kvs k x) (vks := putK vks k v) h1 bs a1 a2
theorem vals_run : ∀ {ks : List Str} {ts : List TEd} {σ : L2.St} {ρ : En} {H : Hp} {QQ : List PyData → En → Prop} {Q' : List (V × V) → Hp → Prop}, ks.length = ts.length → Rel L H σ ρ → dVals ts ρ QQ →
    (∀ (vs : List V) (xs : List PyData) (ρ' : En) (H' : Hp), vs.length = ks.length → Go σ ρ ρ' H H' → Rel L H' σ ρ' → BrA L.K H' vs xs → QQ xs ρ' → Q' ((ks.zip vs).map fun z => (V.str z.1, z.2)) H') → tPairs (trsOf L ks ts) σ H Q'
  | [], [], σ, ρ, H, QQ, Q', _, r, q, fin => fin [] [] ρ H rfl Go.rf r .nil q
  | [], _ :: _, _, _, _, _, _, h, _, _, _ => by simp at h
  | _ :: _, [], _, _, _, _, _, h, _, _, _ => by simp at h
  | k :: ks, t :: ts, σ, ρ, H, QQ, Q', hl, r, q, fin => by
    refine ⟨ρ, _, r, q, fun w H1 s ρ1 go1 r1 hw q1 => ?_⟩
    obtain ⟨x, rfl, q2⟩ := q1
    refine vals_run (ks := ks) (ts := ts) (by simpa using hl) r1 q2 fun vs xs ρ' H' lv go2 r2 b q3 => ?_
    exact fin (w :: vs) (x :: xs) ρ' H' (by simp [lv]) (go1.tr go2) r2 (.cons (Br.keep (go2.keep r1) _ _ hw) b) q3
theorem de_disp {X : Cx} {pos : Pos} {keys : List (Option Expr)} {values : List Expr} {ks : List Str} {ts : List TEd} (h : PPs X pos keys values (trsOf L ks ts)) (hl : ks.length = ts.length) (h15 : ks.length ≤ 15) (hall : keys.all (·.isSome) = true := by rfl) (hl2 : keys.length = values.length := by rfl) (h0 : keys ≠ [] := by simp) (k15 : keys.length ≤ 15 := by decide) :
    PE X (.Dict keys values pos) (tE L (dDisp ks ts)) := (pe_disp h hall hl2 h0 k15).less fun σ H Q' q => by
  obtain ⟨ρ, Q, r, q, fin⟩ := q
  intro p hp
  refine vals_run hl (r.go (same_new hp)) q fun vs xs ρ' H2 lv go r2 b q2 => ?_
  have h2 : H2 p = some (.dK []) := go.stay p _ upd_same fun i ys e z => by
    obtain ⟨l', vs', q1, q2, _⟩ := r.getW e
    rw [z] at q1; cases q1
    rw [hp] at q2; cases q2
  have h0 : L.H0 p = none := r.same.free hp
  have lx : xs.length = vs.length := by have := b.len; omega
  obtain ⟨m1, m2⟩ := merge_rel (K := L.K) (H := H2) (more := (ks.map Sum.inr).zip xs) (vmore := (ks.map Sum.inr).zip vs) (kvs := []) (vks := []) (by rw [List.map_fst_zip (by simp; omega), List.map_fst_zip (by simp; omega)]) (by rw [List.map_snd_zip (by simp; omega), List.map_snd_zip (by simp; omega)]; exact b) rfl .nil
  have kp : Keep H2 (upd H2 p (.dK (mergeK [] ((ks.map Sum.inr).zip vs)))) := keep_put h2 trivial
  refine ⟨h2, (ks.map Sum.inr).zip vs, ?_, by simp; omega, fin (.ref p) _ (.od (putAll [] ((ks.map Sum.inr).zip xs))) ρ' ⟨fun a o' q n => ?_, go.less, fun a q => ?_⟩ ?_ ⟨⟨p, _, rfl, upd_same, ⟨m1, BrA.keep kp _ _ m2⟩, h0⟩, fun l e => by cases e; exact hp⟩ q2⟩
  · rw [List.zip_map_left, List.map_map]; rfl
  · have ne : a ≠ p := fun z => by rw [z, hp] at q; cases q
    rw [upd_ne ne]
    exact go.stay a o' (by rw [upd_ne ne]; exact q) n
  · by_cases z : a = p
    · rw [z]; exact hp
    · rw [upd_ne z] at q
      have := go.dom a q
      rw [upd_ne z] at this; exact this
  · have out : ∀ (i : Nat) (ys : Ow), ρ'[i]? = some (.ow ys) → σ[i]? ≠ some (some (.ref p)) := fun i ys e z => by
      obtain ⟨zs, e'⟩ := go.less i ys e
      obtain ⟨l', vs', q1, q2, _⟩ := r.getW e'
      rw [z] at q1; cases q1
      rw [hp] at q2; cases q2
    refine ⟨r2.len, fun j z e => ?_, r2.sep, fun a o h => ?_⟩
    · have q := r2.at' j z e
      cases z with
      | un => trivial
      | d x => obtain ⟨v, e2, q⟩ := q; exact ⟨v, e2, Br.keep kp _ _ q⟩
      | ow zs =>
        obtain ⟨v, e2, q⟩ := q
        refine ⟨v, e2, q.keep kp fun m u' em hu => (upd_ne fun z => ?_).trans hu⟩
        subst em; subst z
        obtain ⟨w', e4, _⟩ := r2.get e
        rw [e4] at e2
        refine out j zs e ?_
        rw [e4]
        exact congrArg some (show w' = some (V.ref m) from e2)
      | ob t => obtain ⟨a, e2, q⟩ := q; exact ⟨a, e2, L.J.keep _ _ _ _ kp q⟩
    · have ne : a ≠ p := fun z => by rw [z, h0] at h; cases h
      rw [upd_ne ne]; exact r2.same a o h
end
end GB

set_option maxRecDepth 100000
/-! a dict of the top, texts to plain things: d.get(k, z) -/
namespace GB
open PySem PySem.Spec PyProof.Rows L2
def KeysAre (es : List DictEntry) (ks : List Str) : Bool := es.all fun e => (!e.refKey) && ks.any fun k => e.key.isStr k
def KNo (K : PySem.W.Frag) (w : World) (a : Addr) (z : Str) : Prop := ∃ es n, K.lookup a = some ⟨.type "dict", none, .dict es n, #[]⟩ ∧ PySem.W.KeysLit w.params es.toList ∧ PySem.W.nsIn K a z = some none
structure DctG (K : PySem.W.Frag) (w : World) (a : Addr) (D : List (Str × PyData)) : Prop where
  y : ∀ z d, D.lookup z = some d → ∃ v, KDct K w a z v ∧ ∀ H, Br K H v d
  n : ∀ z, D.lookup z = none → KNo K w a z
  o : (a == sysModules) = false
theorem no_key {K : PySem.W.Frag} {w : World} {a : Addr} {es : Array DictEntry} {n : Nat} (hl : K.lookup a = some ⟨.type "dict", none, .dict es n, #[]⟩) (hk : PySem.W.KeysLit w.params es.toList) {ks : List Str} (h : KeysAre es.toList ks = true) {z : Str} (hz : z ∉ ks) : KNo K w a z := by
  refine ⟨es, n, hl, hk, ?_⟩
  unfold PySem.W.nsIn
  rw [hl]
  unfold KeysAre at h
  rw [List.all_eq_true] at h
  have e1 : es.toList.find? (·.key.isStr z) = none := by
    rw [List.find?_eq_none]
    intro e he q
    have := h e he
    rw [Bool.and_eq_true, List.any_eq_true] at this
    obtain ⟨_, k, hk, e2⟩ := this
    have : z = k := by
      cases hkey : e.key with
      | str x t =>
        rw [hkey] at q e2
        have a1 : (x == z) = true := q
        have a2 : (x == k) = true := e2
        rw [← eq_of_beq a1, ← eq_of_beq a2]
      | _ => rw [hkey] at q; cases q
    exact hz (this ▸ hk)
  have e2 : es.toList.any (·.refKey) = false := by
    rw [List.any_eq_false]
    intro e he q
    have := h e he
    rw [Bool.and_eq_true, q] at this
    exact absurd this.1 (by decide)
  dsimp only
  rw [e1, e2]
  rfl
/-- D.get(k, z), D a dict of the top -/
def dKGet (D : List (Str × PyData)) (ty tz : TEd) : TEd := fun ρ Q => ty ρ fun s ρ1 => ∃ z, s = .d (.str z) ∧ tz ρ1 fun s2 ρ2 => ∃ x, s2 = .d x ∧ Q (.d ((D.lookup z).getD x)) ρ2
section
variable {X : Cx} {L : Lay} {x : Str} {q : Addr} {D : List (Str × PyData)} {e f : Expr} {ty tz : TEd} {p apos cpos : Pos}
theorem de_kget (hK : L.K = X.K) (hg : Gl X x) (hm : X.mg x = some (.ref q)) (T : DctG X.K X.w q D) (he : PE X e (tE L ty)) (hf : PE X f (tE L tz)) (m : M2 X (.Name x p) "get" apos e f cpos := by exact ⟨rfl, rfl, rfl, rfl⟩) (hd : (x == ("__debug__" : Str)) = false := by decide) :
    PE X (.Call (.Attribute (.Name x p) "get" apos) [e, f] [] cpos) (tE L (dKGet D ty tz)) := by
  refine ⟨fun pins s σ H Q' I h => ?_⟩
  obtain ⟨ρ, Q, r, q0, fin⟩ := h
  have ho : PE X (.Name x p) _ := pe_glob (v := .ref q) hg hm rfl hd
  refine wpAny_Call_method m.base m.few m.line PySem.F.plainAttrs_dict PySem.F.slot_dict_get PySem.F.type_dict_get (thn (ho.run pins s σ H (fun v H1 => v = .ref q ∧ H1 = H) I ⟨rfl, rfl⟩) fun u s1 ⟨y, H1, I1, ry, ey, eH⟩ => ?_)
  subst ey eH
  obtain rfl : u = Value.ref q := ry
  obtain ⟨es0, n0, hl0, hk0⟩ : ∃ es n, X.K.lookup q = some ⟨.type "dict", none, .dict es n, #[]⟩ ∧ PySem.W.KeysLit X.w.params es.toList := by
    cases hz : D.lookup ("" : Str) with
    | some d => obtain ⟨v, ⟨es, n, u, a, b, _⟩, _⟩ := T.y ("" : Str) d hz; exact ⟨es, n, a, b⟩
    | none => obtain ⟨es, n, a, b, _⟩ := T.n ("" : Str) hz; exact ⟨es, n, a, b⟩
  have hob := I1.kIn _ _ hl0
  refine ⟨⟨_, hob, rfl⟩, fun a e => by cases e; exact ⟨_, hob, rfl⟩, ?_⟩
  rw [m.trees]
  refine wpAny_dict_get2 (knd := strKind X.prog X.w) T.o (thn (he.run pins s1 σ H1 (fun y H2 => ∃ zt, y = .str zt ∧ ∃ ρ1, Go σ ρ ρ1 H1 H2 ∧ Rel L H2 σ ρ1 ∧ tz ρ1 fun s2 ρ2 => ∃ x, s2 = .d x ∧ Q (.d ((D.lookup zt).getD x)) ρ2) I1 ⟨ρ, _, r, q0, fun w H2 s2 ρ1 go1 r1 hw q1 => ?_⟩) fun ku s2 ⟨y, H2, I2, ry, zt, ey, ρ1, go1, r1, q1⟩ => ?_)
  · obtain ⟨zt, rfl, q2⟩ := q1
    have hw : Br L.K H2 w (.str zt) := hw
    cases hw
    exact ⟨zt, rfl, ρ1, go1, r1, q2⟩
  subst ey
  obtain ⟨tk, rfl⟩ := ry
  refine thn (hf.run pins s2 σ H2 (fun z H3 => ∃ x ρ2, Go σ ρ ρ2 H1 H3 ∧ Rel L H3 σ ρ2 ∧ Br L.K H3 z x ∧ Q (.d ((D.lookup zt).getD x)) ρ2) I2 ⟨ρ1, _, r1, q1, fun w H3 s3 ρ2 go2 r2 hw q2 => ?_⟩) fun zu s3 ⟨z, H3, I3, rz, x, ρ2, go2, r2, hz, q2⟩ => ?_
  · obtain ⟨x, rfl, q3⟩ := q2
    exact ⟨x, ρ2, go1.tr go2, r2, hw, q3⟩
  refine ⟨zt, _, strKind_is X.prog X.w zt tk, PySem.W.mapOf_K I3.kIn hl0 hk0, ?_⟩
  cases hlk : D.lookup zt with
  | none =>
    obtain ⟨es, n, a, b, c⟩ := T.n zt hlk
    rw [hl0] at a
    cases a
    rw [PySem.W.find_K hl0 c]
    rw [hlk] at q2
    exact ⟨z, H3, I3.tok _, rz, fin z H3 (.d x) ρ2 go2 r2 hz q2⟩
  | some d =>
    obtain ⟨v, ⟨es, n, u, a, b, c, ru⟩, bv⟩ := T.y zt d hlk
    rw [hl0] at a
    cases a
    rw [PySem.W.find_K hl0 c]
    rw [hlk] at q2
    exact ⟨v, H3, I3.tok _, ru, fin v H3 (.d d) ρ2 go2 r2 (by show Br L.K H3 v d; rw [hK]; exact bv H3) q2⟩
end
theorem dctG_mk {K : PySem.W.Frag} {w : World} {a : Addr} {es : Array DictEntry} {n : Nat} (hl : K.lookup a = some ⟨.type "dict", none, .dict es n, #[]⟩) (hk : PySem.W.KeysLit w.params es.toList) {D : List (Str × PyData)} (h : KeysAre es.toList (D.map (·.1)) = true) (ho : (a == sysModules) = false)
    (hy : ∀ z d, D.lookup z = some d → ∃ v, KDct K w a z v ∧ ∀ H, Br K H v d) : DctG K w a D := by
  refine ⟨hy, fun z hz => no_key hl hk h fun m => ?_, ho⟩
  obtain ⟨p, hp, rfl⟩ := List.mem_map.mp m
  have : ∀ {D : List (Str × PyData)}, p ∈ D → D.lookup p.1 ≠ none := by
    intro D
    induction D with
    | nil => intro h; cases h
    | cons q r ih =>
      intro h e
      rw [List.lookup_cons] at e
      split at e
      · cases e
      · rename_i ne
        rcases List.mem_cons.mp h with rfl | h
        · simp at ne
        · exact ih h e
  exact this hp hz
theorem dctG_nil {K : PySem.W.Frag} {w : World} {a : Addr} : ∀ z d, ([] : List (Str × PyData)).lookup z = some d → ∃ v, KDct K w a z v ∧ ∀ H, Br K H v d := fun _ _ h => by cases h
theorem dctG_cons {K : PySem.W.Frag} {w : World} {a : Addr} {k : Str} {x : PyData} {v : V} {D : List (Str × PyData)} (h : KDct K w a k v) (b : ∀ H, Br K H v x) (r : ∀ z d, D.lookup z = some d → ∃ v, KDct K w a z v ∧ ∀ H, Br K H v d) : ∀ z d, ((k, x) :: D).lookup z = some d → ∃ v, KDct K w a z v ∧ ∀ H, Br K H v d := fun z d e => by
  rw [List.lookup_cons] at e
  split at e
  · rename_i q
    cases e
    rw [eq_of_beq q]; exact ⟨v, h, b⟩
  · exact r z d e
theorem e_kget {D : List (Str × PyData)} {ty tz : TEd} {ρ : En} {Q : S → En → Prop} : dKGet D ty tz ρ Q ↔ ty ρ fun s ρ1 => ∃ z, s = .d (.str z) ∧ tz ρ1 fun s2 ρ2 => oneK s2 fun x => Q (.d ((D.lookup z).getD x)) ρ2 := Iff.rfl
theorem str_ex {z : Str} {p : Str → Prop} : (∃ y, S.d (.str z) = .d (.str y) ∧ p y) ↔ p z := ⟨fun ⟨_, e, h⟩ => by cases e; exact h, fun h => ⟨_, rfl, h⟩⟩
theorem e_disp {ks : List Str} {ts : List TEd} {ρ : En} {Q : S → En → Prop} : dDisp ks ts ρ Q ↔ dVals ts ρ fun xs ρ1 => Q (.od (putAll [] ((ks.map Sum.inr).zip xs))) ρ1 := Iff.rfl
theorem e_vnil {ρ : En} {Q : List PyData → En → Prop} : dVals [] ρ Q ↔ Q [] ρ := Iff.rfl
theorem e_vcons {t : TEd} {ts : List TEd} {ρ : En} {Q : List PyData → En → Prop} : dVals (t :: ts) ρ Q ↔ t ρ fun s ρ1 => oneK s fun x => dVals ts ρ1 fun xs ρ2 => Q (x :: xs) ρ2 := Iff.rfl
end GB

namespace GB
open PySem PySem.Spec PyProof.Rows L2 SeqAt
/-! a tuple of anything beside the empty one: == -/
def fEqU : F2 := fun x y Q => ∃ xs, x = .tuple xs ∧ y = .tuple [] ∧ Q (.d (.bool xs.isEmpty))
theorem f_equ {xs : List PyData} {k : S → Prop} : fEqU (.tuple xs) (.tuple []) k ↔ k (.d (.bool xs.isEmpty)) :=
  ⟨fun ⟨_, e, _, h⟩ => by cases e; exact h, fun h => ⟨xs, rfl, rfl, h⟩⟩
theorem o_equ {X : Cx} {L : Lay} (hK : L.K = X.K) (g : Good X) : OpR X (compareOp .Eq) (rD L fEqU) := by
  intro pins s σ H x y v u Q' I rx ry q
  obtain ⟨dx, dy, Q, bx, by_, ⟨xs, rfl, rfl, q⟩, fin⟩ := q
  obtain ⟨as, r1⟩ := Bk.reads hK I bx rx
  obtain ⟨bs, r2⟩ := Bk.reads hK I by_ ry
  cases r1 with
  | @tuple l o vs n _ as1 h1 h2 h3 h4 =>
    cases r2 with
    | @tuple l' o' vs' n' _ bs1 k1 k2 k3 k4 =>
      have n1 : vs.size = xs.length := by simpa using ReadsAll.length _ _ _ h4
      have n2 : vs'.size = 0 := by simpa using ReadsAll.length _ _ _ k4
      have e : ((List.range (min vs.size vs'.size)).all (fun _ => true) && vs.size == vs'.size) = xs.isEmpty := by
        rw [n2, n1]
        cases xs <;> simp
      refine RcAt.tuples (e := fun _ => true) ⟨_, h1, h2, _, h3⟩ ⟨_, k1, k2, _, k3⟩ (by have := g.un; omega) (fun j j1 j2 => absurd j2 (by omega)) X.prog X.w _ _ ?_
      rw [e]
      exact ⟨.bl _, H, I, rfl, fin _ H _ (Same.refl H) (nr_d (.bl _)) q⟩
end GB

set_option maxRecDepth 100000
/-! the place of a text in a tuple of plain things: t.index(z) -/
namespace GB
open PySem PySem.Spec PyProof.Rows L2
def flatD : PyData → Bool
  | .none | .bool _ | .int _ | .str _ => true
  | _ => false
def placeOf (z : Str) (xs : List PyData) : Option Nat := xs.findIdx? fun x => PyData.eqv x (.str z)
theorem flat_v {K : PySem.W.Frag} {H : Hp} {v : V} {d : PyData} (h : Br K H v d) (f : flatD d = true) (z : Str) : flatV v = true ∧ eqV v (.str z) = PyData.eqv d (.str z) := by
  cases h with
  | non => exact ⟨rfl, rfl⟩
  | bl b => exact ⟨rfl, rfl⟩
  | int i => exact ⟨rfl, rfl⟩
  | str a =>
    refine ⟨rfl, ?_⟩
    show (a == z) = _
    by_cases e : a = z
    · subst e; simp [PyData.eqv]
    · simp [PyData.eqv, e]
  | _ => cases f
section
variable {X : Cx}
def rPlace (K : PySem.W.Frag) : V → List V → Hp → VK → Prop := fun x xs H Q => ∃ (p : Addr) (ys : List V) (z : Str) (j : Nat), x = .ref p ∧ xs = [.str z] ∧ SqT K H p ys ∧ ys.all flatV = true ∧ (∃ y, ys[j]? = some y ∧ eqV y (.str z) = true) ∧ (∀ m y, m < j → ys[m]? = some y → eqV y (.str z) = false) ∧ Q (.int (j : Nat)) H
theorem mt_place : MtR X "tuple.index" (rPlace X.K) := by
  intro pins s σ H x xs v us Q I rx rs h
  obtain ⟨p, ys, z, j, rfl, rfl, hq, fl, ⟨yj, gj, ej⟩, no, q⟩ := h
  cases rx
  obtain ⟨u, rfl, t, rfl⟩ := vals1 rs
  obtain ⟨its, r, pl, _⟩ := I.tuple hq
  obtain ⟨⟨cl, dc, da, sl⟩, there, c1, n, c2⟩ := pl
  simp only at c1 c2
  subst c1 c2
  have len : its.toArray.size = ys.length := by rw [List.size_toArray, ← r.length]
  have each : ∀ (m : Nat) (hm : m < its.toArray.size), ∃ y, ys[m]? = some y ∧ eqU (.str z) its.toArray[m] = eqV y (.str z) := fun m hm => by
    have hm' : m < ys.length := by rw [← len]; exact hm
    obtain ⟨w, hw, rw'⟩ := r.get (i := m) (x := ys[m]) (List.getElem?_eq_getElem hm')
    refine ⟨ys[m], List.getElem?_eq_getElem hm', ?_⟩
    have e : its.toArray[m] = w := by
      have := (List.getElem?_eq_some_iff.mp hw).2
      simpa using this
    rw [e]
    exact eqU_of rw' (List.all_eq_true.mp fl _ (List.getElem_mem hm'))
  have lj : j < its.toArray.size := by rw [len]; exact (List.getElem?_eq_some_iff.mp gj).1
  refine call_meets PySem.F.slot_tuple_index ⟨_, there, rfl⟩ PySem.F.entry_tuple_index (PySem.F.args_tuple_index_2 _ _) (TI.tuple_indexAt p its.toArray n dc sl (.str z t) (eqU (.str z)) j lj ?_ fun m hm mj => ?_)
    ⟨there, fun w hw => mem_eqAt (x := .str z) ⟨t, rfl⟩ rfl r fl w (by simpa using hw), ⟨.int (j : Nat), H, I.tok _, ⟨_, rfl⟩, q⟩⟩
  · obtain ⟨y, g, e⟩ := each j lj
    rw [gj] at g
    cases g
    rw [e]; exact ej
  · obtain ⟨y, g, e⟩ := each m hm
    rw [e]; exact no m y mj g
end
/-- t.index(z) -/
def dPlace (to te : TEd) : TEd := fun ρ Q => to ρ fun s ρ1 => ∃ xs, s = .d (.tuple xs) ∧ te ρ1 fun s2 ρ2 => ∃ z, s2 = .d (.str z) ∧ xs.all flatD = true ∧ ∃ j, placeOf z xs = some j ∧ Q (.d (.int (j : Nat))) ρ2
end GB

set_option maxRecDepth 100000
/-! a caller's list as a parameter: defs that change it and end without a return -/
namespace GB
open PySem PySem.Spec PyProof.Rows L2
abbrev FnIO := List S → (List PyData → Prop) → Prop
def outOf (H : Hp) (l : Addr) : Hp := fun a => if a = l then none else H a
def layIO (K : PySem.W.Frag) (J : Jar) (H : Hp) (m : Nat) (l : Addr) : Lay := ⟨K, J, outOf H l, fun i => if i = m then some l else none⟩
/-- what is handed on: firm things, and at m the list at l -/
def IoArgs (K : PySem.W.Frag) (J : Jar) (H : Hp) (m : Nat) (l : Addr) (vs : List V) (ss : List S) : Prop :=
  vs.length = ss.length ∧ ∀ i s, ss[i]? = some s → ∃ v, vs[i]? = some v ∧ ((i = m ∧ ∃ xs ws, s = .io m xs ∧ v = .ref l ∧ H l = some (.lst ws) ∧ BrA K H ws xs) ∨ (i ≠ m ∧ FR (lay K J H) H v s))
def spIO (K : PySem.W.Frag) (J : Jar) (n m : Nat) (F : FnIO) : Sp := fun vs H Q _ => ∃ ss R l, IoArgs K J H m l vs ss ∧ ss.length = n ∧ F ss R ∧ ∀ H' ws' xs', Same (outOf H l) H' → H' l = some (.lst ws') → BrA K H' ws' xs' → R xs' → Q .non H'
theorem io_start {K : PySem.W.Frag} {J : Jar} {H : Hp} {m : Nat} {l : Addr} {vs : List V} {ss : List S} (n : Nat) (h : IoArgs K J H m l vs ss) : Rel (layIO K J H m l) H (vs.map some ++ List.replicate n none) (ss ++ List.replicate n S.un) := by
  have at0 : ∀ (i : Nat) (s : S), (ss ++ List.replicate n S.un)[i]? = some s → s = .un ∨ (i < ss.length ∧ ss[i]? = some s) := fun i s e => by
    by_cases hi : i < ss.length
    · rw [List.getElem?_append_left hi] at e
      exact .inr ⟨hi, e⟩
    · rw [List.getElem?_append_right (by omega), List.getElem?_replicate] at e
      split at e
      · cases e; exact .inl rfl
      · cases e
  have own : ∀ (i : Nat) (xs : Ow), (ss ++ List.replicate n S.un)[i]? = some (.ow xs) → i = m := fun i xs e => by
    rcases at0 i _ e with q | ⟨_, e⟩
    · cases q
    · obtain ⟨v, _, ⟨z, _⟩ | ⟨_, fr⟩⟩ := h.2 i _ e
      · exact z
      · exact fr.elim
  refine ⟨by simp [h.1], fun i s e => ?_, fun i j xs ys e1 e2 _ => by rw [own i xs e1, own j ys e2], fun a o q => ?_⟩
  · rcases at0 i s e with rfl | ⟨hi, e⟩
    · trivial
    · obtain ⟨v, hv, hc⟩ := h.2 i s e
      have iv : i < vs.length := (List.getElem?_eq_some_iff.mp hv).1
      have eq : ((vs.map some ++ List.replicate n none)[i]?).getD none = some v := by
        rw [List.getElem?_append_left (by simpa using iv), List.getElem?_map, hv]; rfl
      rw [eq]
      rcases hc with ⟨rfl, xs, ws, rfl, rfl, hl, b⟩ | ⟨_, fr⟩
      · exact ⟨.ref l, rfl, l, ws, rfl, hl, ⟨b, if_pos rfl⟩, if_pos rfl⟩
      · cases s with
        | un => trivial
        | d x => exact ⟨v, rfl, fr⟩
        | ow xs => exact fr.elim
        | ob t => obtain ⟨a, rfl, q⟩ := fr; exact ⟨a, rfl, q⟩
  · have q : (if a = l then none else H a) = some o := q
    split at q
    · cases q
    · exact q
section
variable {P : Program} {w : World} {K : PySem.W.Frag} {mg : Str → Option Value} {base : Heap} {J : Jar}
/-- a def that changes its m-th argument, a list, and gives None at its end -/
theorem fn_okIO {f : Addr} {fd : FuncData} {x qual : Str} {st : Stmt} {N ps : List Str} {k : Nat} {F : FnIO} {t : TSd} (m : Nat) (Fn : Fun K x qual st f fd) (S0 : FnScope N ps (defScope st)) (hs : ∃ o, base.get? sysModules = some o)
    (body : ∀ (cdv : Value) (A : Around) (outer : List Env) (s : Shared) (H : Hp) (E : XK) (l : Addr), A.guards = some [] → Room k (A.deeper (envOfC qual (defScope st) s.heap.objs.size f cdv)) → Good (cxOf CX0 P w K mg base N qual (defScope st) f cdv A outer s H E).nox →
      PSs (cxOf CX0 P w K mg base N qual (defScope st) f cdv A outer s H E).nox (defBody st) (tS (layIO K J H m l) t))
    (math : ∀ ss R, ss.length = ps.length → F ss R → t { nx := fun ρ => ∃ xs, ρ[m]? = some (.io m xs) ∧ R xs, rt := fun _ => False } (ss ++ List.replicate (N.length - ps.length) .un)) :
    FnG P w K mg base CX0 (k + 1) f fd ps (spIO K J ps.length m F) := by
  refine fng_nox Fn S0 (fun vs H Q E h => ?_) fun cdv A outer s H vs Q E hg hr h => ?_
  · obtain ⟨ss, R, l, ia, hl, _⟩ := h
    rw [ia.1, hl]
  · obtain ⟨ss, R, l, ia, hl, hF, fin⟩ := h
    refine ⟨_, body cdv A outer s H E l hg hr (good_of hs S0.nd hg hr), ss ++ List.replicate (N.length - ps.length) .un, { nx := fun ρ => ∃ xs, ρ[m]? = some (.io m xs) ∧ R xs, rt := fun _ => False }, ?_, math ss R hl hF, fun σ' H' ρ' k r n => ?_, fun v H' s k sm rr n => n.elim, fun _ _ _ _ _ n => n, fun _ _ _ _ _ n => n⟩
    · have hv := ia.1
      unfold L2.start
      rw [hv, hl]
      exact io_start _ ia
    · obtain ⟨xs, e, n⟩ := n
      obtain ⟨o, e1, v, e2, l', ws, rfl, h1, ⟨h2, h3⟩, h4⟩ := r.get e
      have h3 : (if m = m then some l else none) = some l' := h3
      rw [if_pos rfl] at h3
      cases h3
      exact fin H' ws xs r.same h1 h2 n
end
end GB

set_option maxRecDepth 100000
/-! a caller's list as an argument: the call -/
namespace GB
open PySem PySem.Spec PyProof.Rows L2
inductive FRsI (L : Lay) (H : Hp) (σ : L2.St) (ρ : En) (i : Nat) : List V → List S → Prop
  | nil : FRsI L H σ ρ i [] []
  | firm {v : V} {s : S} {vs : List V} {ss : List S} : FR L H v s → FRsI L H σ ρ i vs ss → FRsI L H σ ρ i (v :: vs) (s :: ss)
  | own {v : V} {xs : List PyData} {vs : List V} {ss : List S} : ρ[i]? = some (.own xs) → σ[i]? = some (some v) → FRsI L H σ ρ i vs ss → FRsI L H σ ρ i (v :: vs) (.own xs :: ss)
def tAI (L : Lay) (i : Nat) (ta : TAd) : TA := fun σ H Q' => ∃ ρ Q, Rel L H σ ρ ∧ ta ρ Q ∧ ∀ vs H' ss ρ', Go σ ρ ρ' H H' → Rel L H' σ ρ' → FRsI L H' σ ρ' i vs ss → Q ss ρ' → Q' vs H'
/-- the list at i itself is handed on -/
def dConsV (i : Nat) (tr : TAd) : TAd := fun ρ Q => (∃ xs, ρ[i]? = some (.own xs)) ∧ tr ρ fun ss ρ1 => ∃ xs, ρ1[i]? = some (.own xs) ∧ Q (.own xs :: ss) ρ1
def noOw : S → Bool
  | .ow _ => false
  | _ => true
def firmBut : Nat → List S → Bool
  | _, [] => true
  | 0, _ :: r => r.all noOw
  | m + 1, s :: r => noOw s && firmBut m r
/-- f(.., x, ..) that changes x, a list of one's own at i, its m-th argument -/
def dCallIO (F : FnIO) (n m i : Nat) (ta : TAd) : TEd := fun ρ Q => ta ρ fun ss ρ1 => ss.length = n ∧ firmBut m ss = true ∧ ∃ xs, ss[m]? = some (.own xs) ∧ F (ss.set m (.io m xs)) fun xs' => Q (.d .none) (ρ1.set i (.own xs'))
theorem firmBut_at : ∀ {m : Nat} {ss : List S} {j : Nat} {s : S}, firmBut m ss = true → j ≠ m → ss[j]? = some s → noOw s = true
  | _, [], _, _, _, _, e => by simp at e
  | 0, _ :: r, 0, _, _, h, _ => absurd rfl h
  | 0, _ :: r, j + 1, s, h, _, e => by
    rw [List.getElem?_cons_succ] at e
    exact List.all_eq_true.mp h s (List.mem_of_getElem? e)
  | m + 1, x :: r, 0, s, h, _, e => by
    have h : (noOw x && firmBut m r) = true := h
    rw [Bool.and_eq_true] at h
    rw [List.getElem?_cons_zero] at e
    cases e; exact h.1
  | m + 1, x :: r, j + 1, s, h, hj, e => by
    have h : (noOw x && firmBut m r) = true := h
    rw [Bool.and_eq_true] at h
    rw [List.getElem?_cons_succ] at e
    exact firmBut_at h.2 (by omega) e
section
variable {L : Lay} {H : Hp} {σ : L2.St} {ρ : En} {i : Nat}
theorem FRsI.len {vs : List V} {ss : List S} (h : FRsI L H σ ρ i vs ss) : vs.length = ss.length := by
  induction h with
  | nil => rfl
  | firm _ _ ih => simp [ih]
  | own _ _ _ ih => simp [ih]
theorem FRsI.at' {vs : List V} {ss : List S} (h : FRsI L H σ ρ i vs ss) : ∀ (j : Nat) (s : S), ss[j]? = some s → ∃ v, vs[j]? = some v ∧ (FR L H v s ∨ ∃ xs, s = .own xs ∧ ρ[i]? = some (.own xs) ∧ σ[i]? = some (some v)) := by
  induction h with
  | nil => intro j s e; simp at e
  | @firm v s vs ss f _ ih =>
    intro j s' e
    cases j with
    | zero => simp at e; subst e; exact ⟨v, rfl, .inl f⟩
    | succ j => simp at e ⊢; exact ih j s' e
  | @own v xs vs ss a b _ ih =>
    intro j s' e
    cases j with
    | zero => simp at e; subst e; exact ⟨v, rfl, .inr ⟨xs, rfl, a, b⟩⟩
    | succ j => simp at e ⊢; exact ih j s' e
/-- behind the call -/
theorem io_rel {H' : Hp} {l : Addr} {xs xs' : List PyData} {ws ws' : List V} (r : Rel L H σ ρ) (ei : ρ[i]? = some (.own xs)) (el : σ[i]? = some (some (.ref l))) (hl : H l = some (.lst ws)) (h0 : L.H0 l = none)
    (sm : Same (outOf H l) H') (hl' : H' l = some (.lst ws')) (b : BrA L.K H' ws' xs') : Rel L H' σ (ρ.set i (.own xs')) ∧ Keep H H' := by
  have other : ∀ a o, a ≠ l → H a = some o → H' a = some o := fun a o ne h => sm a o (by show (if a = l then none else H a) = _; rw [if_neg ne]; exact h)
  have kp : Keep H H' := fun a o h f => by
    refine other a o (fun z => ?_) h
    subst z
    rw [hl] at h; cases h
    exact f.elim
  have ii : i < ρ.length := (List.getElem?_eq_some_iff.mp ei).1
  refine ⟨⟨by rw [List.length_set]; exact r.len, fun j z e => ?_, fun j k ys zs e1 e2 es => ?_, fun a o h => ?_⟩, kp⟩
  · by_cases hj : j = i
    · subst hj
      rw [List.getElem?_set_self ii] at e
      cases e
      rw [el]
      exact ⟨.ref l, rfl, l, ws', rfl, hl', b, h0⟩
    · rw [List.getElem?_set_ne (Ne.symm hj)] at e
      have q := r.at' j z e
      cases z with
      | un => trivial
      | d x => obtain ⟨v, e2, q⟩ := q; exact ⟨v, e2, Br.keep kp _ _ q⟩
      | ow zs =>
        obtain ⟨v, e2, q⟩ := q
        refine ⟨v, e2, q.keep kp fun m u' em hu => other m u' (fun z => ?_) hu⟩
        subst em; subst z
        obtain ⟨w', e4, _⟩ := r.get e
        rw [e4] at e2
        have e5 : σ[j]? = some (some (.ref m)) := by rw [e4]; exact congrArg some (show w' = some (V.ref m) from e2)
        exact hj (r.sep j i zs (.l xs) e ei (by rw [e5, el]))
      | ob t => obtain ⟨a, e2, q⟩ := q; exact ⟨a, e2, L.J.keep _ _ _ _ kp q⟩
  · have fix : ∀ (j : Nat) (ys : Ow), (ρ.set i (S.own xs'))[j]? = some (.ow ys) → ∃ zs, ρ[j]? = some (.ow zs) := fun j ys e => by
      by_cases hj : j = i
      · subst hj; exact ⟨_, ei⟩
      · rw [List.getElem?_set_ne (Ne.symm hj)] at e; exact ⟨_, e⟩
    obtain ⟨y1, f1⟩ := fix j ys e1
    obtain ⟨y2, f2⟩ := fix k zs e2
    exact r.sep j k y1 y2 f1 f2 es
  · exact other a o (fun z => by rw [z, h0] at h; cases h) (r.same a o h)
end
section
variable {X : Cx} {L : Lay} {pos p : Pos} {e : Expr} {es : List Expr} {t : TEd} {tas : TAd} {F : FnIO} {x : Str} {f : Addr} {fd : FuncData} {ps : List Str} {k i m : Nat} {CX : CXT} {E : XK}
theorem FRsI.keep {H H' : Hp} {σ : L2.St} {ρ : En} (kp : Keep H H') {vs : List V} {ss : List S} (h : FRsI L H σ ρ i vs ss) : FRsI L H' σ ρ i vs ss := by
  induction h with
  | nil => exact .nil
  | firm a _ ih => exact .firm (a.keep kp) ih
  | own a b _ ih => exact .own a b ih
theorem dai_nil : PA X [] (tAI L i dNil) := by
  refine pa_nil.less fun σ H Q' h => ?_
  obtain ⟨ρ, Q, r0, q, fin⟩ := h
  exact fin [] H [] ρ Go.rf r0 .nil q
theorem dai_cons (h : PE X e (tE L t)) (hr : PA X es (tAI L i tas)) (hs : starEach (e :: es) X.env = (false, eval e X.env) :: starEach es X.env := by rfl) : PA X (e :: es) (tAI L i (dCons t tas)) := by
  refine (pa_cons h hr hs).less fun σ H Q' h => ?_
  obtain ⟨ρ, Q, r0, q, fin⟩ := h
  refine ⟨ρ, _, r0, q, fun v H1 s ρ1 k1 r1 hv q1 => ?_⟩
  obtain ⟨f, q2⟩ := q1
  refine ⟨ρ1, _, r1, q2, fun vs H2 ss ρ2 k2 r2 hvs q3 => ?_⟩
  exact fin (v :: vs) H2 (s :: ss) ρ2 (k1.tr k2) r2 (.firm ((fr_of f hv).keep (k2.keep r1)) hvs) q3
theorem dai_var (h : PE X e (tVar i)) (hr : PA X es (tAI L i tas)) (hs : starEach (e :: es) X.env = (false, eval e X.env) :: starEach es X.env := by rfl) : PA X (e :: es) (tAI L i (dConsV i tas)) := by
  refine (pa_cons h hr hs).less fun σ H Q' h => ?_
  obtain ⟨ρ, Q, r0, q, fin⟩ := h
  obtain ⟨⟨xs0, e0⟩, q⟩ := q
  obtain ⟨l, ws, el, _⟩ := r0.getO e0
  refine ⟨.ref l, el, ρ, _, r0, q, fun vs H2 ss ρ2 k2 r2 hvs q3 => ?_⟩
  obtain ⟨xs2, e2, q4⟩ := q3
  exact fin (.ref l :: vs) H2 (.own xs2 :: ss) ρ2 k2 r2 (.own e2 el hvs) q4
theorem de_callIO (hK : L.K = X.K) (Fn : FnG X.prog X.w X.K X.mg X.base CX k f fd ps (spIO X.K L.J ps.length m F)) (hr : Room k X.A) (g : Good X) (hg : Gl X x) (hm : X.mg x = some (.ref f)) (hk : PySem.W.keepIn X.K (.ref f) = true) (hb : Binds X.K fd ps [])
    (hx : Passes CX X E) (ha : PA X (e :: es) (tAI L i tas)) (hdb : (x == ("__debug__" : Str)) = false := by decide) (he : starEach (e :: es) X.env = (false, eval e X.env) :: starEach es X.env := by rfl)
    (hpl : (backTo pos (starEach es X.env)).any (·.1) = false := by rfl) : PE X (.Call (.Name x p) (e :: es) [] pos) (tE L (dCallIO F ps.length m i tas)) :=
  (g_call Fn hr g.gd hg hm hk hb hx ha hdb he hpl).less fun σ H Q' h => by
    obtain ⟨ρ, Q, r, q, fin⟩ := h
    refine ⟨ρ, _, r, q, fun vs H1 ss ρ1 go r1 hv q1 => ?_⟩
    show spIO X.K L.J ps.length m F (vs ++ []) H1 Q' E
    rw [List.append_nil]
    obtain ⟨hl, hf, xs, em, hF⟩ := q1
    obtain ⟨v, ev, hv'⟩ := hv.at' m _ em
    obtain ⟨ei, es⟩ : ρ1[i]? = some (.own xs) ∧ σ[i]? = some (some v) := by
      rcases hv' with h | ⟨ys, e, a, b⟩
      · exact h.elim
      · cases e; exact ⟨a, b⟩
    obtain ⟨l, ws, el, hws, hbr, h0⟩ := r1.getO ei
    rw [es] at el
    obtain rfl : v = .ref l := Option.some.inj (Option.some.inj el)
    have mm : m < ss.length := (List.getElem?_eq_some_iff.mp em).1
    refine ⟨ss.set m (.io m xs), _, l, ⟨by rw [List.length_set]; exact hv.len, fun j s ej => ?_⟩, by rw [List.length_set]; exact hl, hF, fun H' ws' xs' sm hl' hb' hR => ?_⟩
    · by_cases hj : j = m
      · subst hj
        rw [List.getElem?_set_self mm] at ej
        cases ej
        exact ⟨_, ev, .inl ⟨rfl, xs, ws, rfl, rfl, hws, by rw [← hK]; exact hbr⟩⟩
      · rw [List.getElem?_set_ne (Ne.symm hj)] at ej
        obtain ⟨u, eu, hu⟩ := hv.at' j s ej
        have no := firmBut_at hf hj ej
        refine ⟨u, eu, .inr ⟨hj, ?_⟩⟩
        rcases hu with h | ⟨ys, e, _⟩
        · rw [← hK]; cases s <;> exact h
        · subst e; cases no
    · obtain ⟨r2, kp⟩ := io_rel r1 ei es hws h0 sm hl' (by rw [hK]; exact hb')
      obtain ⟨ys, e0⟩ := go.less i (.l xs) ei
      have ne : ∀ a o, a ≠ l → H1 a = some o → H' a = some o := fun a o n h => sm a o (by show (if a = l then none else H1 a) = _; rw [if_neg n]; exact h)
      refine fin .non H' (.d .none) (ρ1.set i (.own xs')) ⟨fun a o h n => ?_, fun j zs ez => ?_, fun a h => ?_⟩ r2 .non hR
      · exact ne a o (fun z => n i ys e0 (by rw [es, z])) (go.stay a o h n)
      · by_cases hj : j = i
        · subst hj; exact ⟨_, e0⟩
        · rw [List.getElem?_set_ne (Ne.symm hj)] at ez
          exact go.less j zs ez
      · refine go.dom a ?_
        cases h1 : H1 a with
        | none => rfl
        | some o =>
          exfalso
          by_cases z : a = l
          · rw [z, hl'] at h; cases h
          · rw [ne a o z h1] at h; cases h
end
/-! from without -/
theorem e_consV {ρ : En} {i : Nat} {tr : TAd} {Q : List S → En → Prop} : dConsV i tr ρ Q ↔ (atK ρ i fun s => ownK s fun _ => True) ∧ tr ρ fun ss ρ1 => atK ρ1 i fun s => ownK s fun xs => Q (.own xs :: ss) ρ1 := by
  have a : (∃ xs, ρ[i]? = some (.own xs)) ↔ atK ρ i fun s => ownK s fun _ => True := ⟨fun ⟨xs, e⟩ => ⟨_, e, xs, rfl, trivial⟩, fun ⟨_, e, xs, z, _⟩ => ⟨xs, z ▸ e⟩⟩
  unfold dConsV
  rw [a]
  have b : ∀ (ρ1 : En) (k : List PyData → Prop), (∃ xs, ρ1[i]? = some (.own xs) ∧ k xs) ↔ atK ρ1 i fun s => ownK s k := fun ρ1 k => ⟨fun ⟨xs, e, h⟩ => ⟨_, e, xs, rfl, h⟩, fun ⟨_, e, xs, z, h⟩ => ⟨xs, z ▸ e, h⟩⟩
  simp only [b]
theorem e_callIO {F : FnIO} {n m i : Nat} {ta : TAd} {ρ : En} {Q : S → En → Prop} : dCallIO F n m i ta ρ Q ↔ ta ρ fun ss ρ1 => ss.length = n ∧ firmBut m ss = true ∧ atK ss m fun s => ownK s fun xs => setK (fun ss' => F ss' fun xs' => setK (fun ρ2 => Q (.d .none) ρ2) ρ1 i (.own xs')) ss m (.io m xs) := by
  have b : ∀ (ss : En) (k : List PyData → Prop), (∃ xs, ss[m]? = some (.own xs) ∧ k xs) ↔ atK ss m fun s => ownK s k := fun ss k => ⟨fun ⟨xs, e, h⟩ => ⟨_, e, xs, rfl, h⟩, fun ⟨_, e, xs, z, h⟩ => ⟨xs, z ▸ e, h⟩⟩
  unfold dCallIO
  simp only [b]
  exact Iff.rfl
end GB

set_option maxRecDepth 100000
/-! a caller's list in the body of the def: read and put in place -/
namespace GB
open PySem PySem.Spec PyProof.Rows L2
section
variable {L : Lay} {H : Hp} {σ : L2.St} {ρ : En}
theorem Rel.getI (r : Rel L H σ ρ) {i m : Nat} {xs : List PyData} (h : ρ[i]? = some (.io m xs)) : ∃ l vs, σ[i]? = some (some (.ref l)) ∧ H l = some (.lst vs) ∧ (BrA L.K H vs xs ∧ L.io m = some l) ∧ L.H0 l = none := by
  obtain ⟨o, e, v, e2, l, vs, e3, h1, h2, h3⟩ := r.get h
  exact ⟨l, vs, by rw [e, e2, e3], h1, h2, h3⟩
theorem pk_io (r : Rel L H σ ρ) {i m : Nat} {xs : List PyData} (h : ρ[i]? = some (.io m xs)) : ∃ v, σ[i]? = some (some v) ∧ Bk L H v (.list xs) := by
  obtain ⟨l, vs, h1, h2, h3, _⟩ := r.getI h
  exact ⟨_, h1, l, vs, rfl, .inl h2, h3.1⟩
theorem Rel.putI (r : Rel L H σ ρ) {i m : Nat} {xs ys : List PyData} {l : Addr} {vs ws : List V} (h : ρ[i]? = some (.io m xs)) (hi : σ[i]? = some (some (.ref l))) (hl : H l = some (.lst vs)) (hio : L.io m = some l) (hw : BrA L.K H ws ys) :
    Rel L (upd H l (.lst ws)) σ (ρ.set i (.io m ys)) ∧ Keep H (upd H l (.lst ws)) :=
  r.putW h hi hl trivial fun k h0 => ⟨l, ws, rfl, upd_same, ⟨BrA.keep k _ _ hw, hio⟩, h0⟩
end
/-- x[e], with x a caller's list -/
def dIoL (i : Nat) (f : F2) (tb : TEd) : TEd := fun ρ Q => (∃ m ys, ρ[i]? = some (.io m ys)) ∧ tb ρ fun s2 ρ2 => ∃ m xs y, ρ2[i]? = some (.io m xs) ∧ s2 = .d y ∧ f (.list xs) y fun s => Q s ρ2
def dIoR (f : F2) (ta : TEd) (i : Nat) : TEd := fun ρ Q => ta ρ fun s1 ρ1 => ∃ x m ys, s1 = .d x ∧ ρ1[i]? = some (.io m ys) ∧ f x (.list ys) fun s => Q s ρ1
def dIoN1 (f : FN) (i : Nat) : TEd := fun ρ Q => ∃ m xs, ρ[i]? = some (.io m xs) ∧ f [.list xs] fun s => Q s ρ
section
variable {X : Cx} {L : Lay} {a b e : Expr} {pos p px : Pos} {ta tb : TEd} {x : Str} {i : Nat} {op : Operator} {cop : CmpOp} {f : F2} {fn : FN}
theorem tE_ioL {r : R2} {f : F2} {i : Nat} (hr : ∀ v u H Q, rD L f v u H Q → r v u H Q) : ∀ σ H Q, tE L (dIoL i f tb) σ H Q → tOp r (tVar i) (tE L tb) σ H Q := fun σ H Q' h => by
  obtain ⟨ρ, Q, r0, ⟨⟨m, ys, ey⟩, q⟩, fin⟩ := h
  obtain ⟨l, vs, h1, _⟩ := r0.getI ey
  refine ⟨_, h1, ρ, _, r0, q, fun u H2 s2 ρ2 k2 r2 hu q2 => ?_⟩
  obtain ⟨m2, xs, y, ex, rfl, q3⟩ := q2
  obtain ⟨v, h2, hv⟩ := pk_io r2 ex
  rw [h1] at h2; cases h2
  exact hr _ _ _ _ ⟨.list xs, y, _, hv, Bk.of hu, q3, fun w H3 s3 sm nr q4 => fin w H3 s3 ρ2 (k2.tr (Go.sm sm)) (r2.go sm) (nr.vr r2 sm k2) q4⟩
theorem tE_ioR {r : R2} {f : F2} {i : Nat} (hr : ∀ v u H Q, rD L f v u H Q → r v u H Q) : ∀ σ H Q, tE L (dIoR f ta i) σ H Q → tOp r (tE L ta) (tVar i) σ H Q := fun σ H Q' h => by
  obtain ⟨ρ, Q, r0, q, fin⟩ := h
  refine ⟨ρ, _, r0, q, fun v H1 s ρ1 k1 r1 hv q1 => ?_⟩
  obtain ⟨x, m, ys, rfl, ey, q3⟩ := q1
  obtain ⟨u, h2, hu⟩ := pk_io r1 ey
  exact ⟨u, h2, hr _ _ _ _ ⟨x, .list ys, _, Bk.of hv, hu, q3, fun w H3 s3 sm nr q4 => fin w H3 s3 ρ1 (k1.tr (Go.sm sm)) (r1.go sm) (nr.vr r1 sm k1) q4⟩⟩
theorem tE_ioN1 {r : List V → Hp → VK → Prop} {f : FN} {i : Nat} (hr : ∀ v H Q, rN L f v H Q → r v H Q) : ∀ σ H Q, tE L (dIoN1 f i) σ H Q → tCB r (tCons (tVar i) tNil) σ H Q := fun σ H Q' h => by
  obtain ⟨ρ, Q, r0, ⟨m, xs, ex, q⟩, fin⟩ := h
  obtain ⟨v, h1, hv⟩ := pk_io r0 ex
  exact ⟨v, h1, hr _ _ _ ⟨[.list xs], _, .cons hv .nil, q, fun w H2 s sm nr q3 => fin w H2 s ρ (Go.sm sm) (r0.go sm) (nr.vr r0 sm Go.rf) q3⟩⟩
theorem de_opIoL (ho : OpR X (binaryOp op) (rD L f)) (hx : PE X a (tVar i)) (hb : PE X b (tE L tb)) : PE X (.BinOp a op b pos) (tE L (dIoL i f tb)) := (pe_op ho hx hb).less (tE_ioL fun _ _ _ _ q => q)
theorem de_opIoR (ho : OpR X (binaryOp op) (rD L f)) (ha : PE X a (tE L ta)) (hx : PE X b (tVar i)) : PE X (.BinOp a op b pos) (tE L (dIoR f ta i)) := (pe_op ho ha hx).less (tE_ioR fun _ _ _ _ q => q)
theorem de_cmpIoL (ho : OpR X (compareOp cop) (rD L f)) (hx : PE X a (tVar i)) (hb : PE X b (tE L tb)) (hm : behindInMarks cop b = false) : PE X (.Compare a [cop] [b] pos) (tE L (dIoL i f tb)) := (pe_cmpR ho hx hb hm).less (tE_ioL fun _ _ _ _ q => q)
theorem de_cmpIoR (ho : OpR X (compareOp cop) (rD L f)) (ha : PE X a (tE L ta)) (hx : PE X b (tVar i)) (hm : behindInMarks cop b = false) : PE X (.Compare a [cop] [b] pos) (tE L (dIoR f ta i)) := (pe_cmpR ho ha hx hm).less (tE_ioR fun _ _ _ _ q => q)
theorem dt_cmpIoL (ho : OpR X (compareOp cop) (rD L f)) (hx : PE X a (tVar i)) (hb : PE X b (tE L tb)) (hm : behindInMarks cop b = false) : PT X (.Compare a [cop] [b] pos) (tT L (dB (dIoL i f tb))) := (pt_cmpR ho hx hb hm).less (tT_of (tE_ioL fun _ _ _ _ q => q))
theorem dt_cmpIoR (ho : OpR X (compareOp cop) (rD L f)) (ha : PE X a (tE L ta)) (hx : PE X b (tVar i)) (hm : behindInMarks cop b = false) : PT X (.Compare a [cop] [b] pos) (tT L (dB (dIoR f ta i))) := (pt_cmpR ho ha hx hm).less (tT_of (tE_ioR fun _ _ _ _ q => q))
theorem de_ixIo (ho : IxR X (rD L f)) (hx : PE X a (tVar i)) (hb : PE X b (tE L tb)) (hs : PlainIx b) : PE X (.Subscript a b pos) (tE L (dIoL i f tb)) := (pe_ix ho hx hb hs).less (tE_ioL fun _ _ _ _ q => q)
theorem de_callIoB1 {id : String} (hc : CallR X (.builtin id) (rN L fn)) (hg : Gl X x) (hm : X.mg x = none) (hv : bootBuiltins x = some (.builtin id)) (hx : PE X a (tVar i)) (hn : x ≠ "__name__" := by decide) (hdb : (x == ("__debug__" : Str)) = false := by decide)
    (h1 : starEach (a :: []) X.env = (false, eval a X.env) :: starEach [] X.env := by rfl) (he : starEach (a :: []) X.env = (false, eval a X.env) :: starEach [] X.env := by rfl) (hpl : (backTo pos (starEach [] X.env)).any (·.1) = false := by rfl) :
    PE X (.Call (.Name x p) [a] [] pos) (tE L (dIoN1 fn i)) := (pe_callB hc hg hm hv (pa_cons hx pa_nil h1) hn hdb he hpl).less (tE_ioN1 fun _ _ _ q => q)
theorem de_callIoT1 {T : String} (hc : CallR X (.type T) (rN L fn)) (hg : Gl X x) (hm : X.mg x = none) (hv : bootBuiltins x = some (.type T)) (hx : PE X a (tVar i)) (hn : x ≠ "__name__" := by decide) (hdb : (x == ("__debug__" : Str)) = false := by decide)
    (h1 : starEach (a :: []) X.env = (false, eval a X.env) :: starEach [] X.env := by rfl) (he : starEach (a :: []) X.env = (false, eval a X.env) :: starEach [] X.env := by rfl) (hpl : (backTo pos (starEach [] X.env)).any (·.1) = false := by rfl) :
    PE X (.Call (.Name x p) [a] [] pos) (tE L (dIoN1 fn i)) := (pe_callTy hc hg hm hv (pa_cons hx pa_nil h1) hn hdb he hpl).less (tE_ioN1 fun _ _ _ q => q)
end
/-- x[i] = v, with x a caller's list -/
def dIoPut (i : Nat) (ti tv : TEd) : TSd := fun D ρ => tv ρ fun s ρ1 => ∃ x m ys, s = .d x ∧ ρ1[i]? = some (.io m ys) ∧ ti ρ1 fun s2 ρ2 => ∃ k j m xs, s2 = .d (.int k) ∧ ρ2[i]? = some (.io m xs) ∧ ixN xs.length k = some j ∧ D.nx (ρ2.set i (.io m (xs.set j x)))
section
variable {X : Cx} {L : Lay} {o ix v : Expr} {pos p1 : Pos} {i : Nat} {ti tv : TEd}
theorem ds_ioPut (ho : PE X o (tVar i)) (hi : PE X ix (tE L ti)) (hv : PE X v (tE L tv)) (hw : swappedStores [.Subscript o ix p1] v X.env = pure none := by rfl) (hs : swapsWithSole [.Subscript o ix p1] v pos.line X.env = pure false := by rfl)
    (h1 : (assignEach [.Subscript o ix p1] X.env).map (·.2) = [assign (.Subscript o ix p1) X.env] := by rfl)
    (ha : ∀ v, assign (.Subscript o ix p1) X.env v = (do
      let ov ← holding [v] (eval o X.env)
      let iv ← holding [v, ov] (eval ix X.env)
      standAt p1
      holding [v, ov, iv] (setItem ov iv v)
      release [v, ov, iv] []) := by intro _; rfl) :
    PS X (.Assign [.Subscript o ix p1] v pos) (tS L (dIoPut i ti tv)) :=
  (ps_asg hv (pg_sub ho hi set_list ha) hs hw h1).less fun D σ H q => by
    obtain ⟨ρ, De, r, q, n1, _⟩ := q
    refine ⟨ρ, _, r, q, fun v H1 s ρ1 go r1 hv q1 => ?_⟩
    obtain ⟨x, m, ys, rfl, ey, q2⟩ := q1
    obtain ⟨l, us, hi, hl, _⟩ := r1.getI ey
    refine ⟨.ref l, hi, ρ1, _, r1, q2, fun u H2 s2 ρ2 go2 r2 hu q3 => ?_⟩
    obtain ⟨k, j, m2, xs, rfl, ex, hj, q4⟩ := q3
    have hu : Br L.K H2 u (.int k) := hu
    cases hu
    obtain ⟨l', ws, hi', hl', hb, _⟩ := r2.getI ex
    rw [hi] at hi'; cases hi'
    have hv2 : Br L.K H2 v x := Br.keep (go2.keep r1) _ _ hv
    obtain ⟨r3, k3⟩ := r2.putI ex hi hl' hb.2 (hb.1.put j hv2)
    exact ⟨l, ws, k, j, rfl, rfl, hl', by rw [hb.1.len]; exact hj, n1 _ _ _ (((go.keep r).tr (go2.keep r1)).tr k3) r3 q4⟩
end
/-! from without -/
def ioK (s : S) (k : Nat → List PyData → Prop) : Prop := ∃ m xs, s = .io m xs ∧ k m xs
theorem ioK_io {m : Nat} {xs : List PyData} {k : Nat → List PyData → Prop} : ioK (.io m xs) k ↔ k m xs := ⟨fun ⟨_, _, e, h⟩ => by cases e; exact h, fun h => ⟨m, xs, rfl, h⟩⟩
theorem ioK_own {xs : List PyData} {k : Nat → List PyData → Prop} : ioK (.own xs) k ↔ False := ⟨fun ⟨_, _, e, _⟩ => (nomatch e), fun h => h.elim⟩
theorem ioK_d {x : PyData} {k : Nat → List PyData → Prop} : ioK (.d x) k ↔ False := ⟨fun ⟨_, _, e, _⟩ => (nomatch e), fun h => h.elim⟩
section
variable {ta tb : TEd} {ρ : En} {Q : S → En → Prop} {D : EndsD} {i : Nat}
theorem io_at (ρ : En) (i : Nat) (k : Nat → List PyData → Prop) : (∃ m xs, ρ[i]? = some (.io m xs) ∧ k m xs) ↔ atK ρ i fun o => ioK o k := ⟨fun ⟨m, xs, a, h⟩ => ⟨_, a, m, xs, rfl, h⟩, fun ⟨_, a, m, xs, e, h⟩ => ⟨m, xs, e ▸ a, h⟩⟩
theorem e_ioN1 {f : FN} : dIoN1 f i ρ Q ↔ atK ρ i fun o => ioK o fun _ xs => f [.list xs] fun s => Q s ρ := io_at ρ i _
theorem e_ioL {f : F2} : dIoL i f tb ρ Q ↔ (atK ρ i fun o => ioK o fun _ _ => tb ρ fun s2 ρ2 => oneK s2 fun y => atK ρ2 i fun o => ioK o fun _ xs => f (.list xs) y fun s => Q s ρ2) := by
  have e : ∀ (s2 : S) (ρ2 : En), (∃ m xs y, ρ2[i]? = some (.io m xs) ∧ s2 = .d y ∧ f (.list xs) y fun s => Q s ρ2) ↔ oneK s2 fun y => atK ρ2 i fun o => ioK o fun _ xs => f (.list xs) y fun s => Q s ρ2 := fun s2 ρ2 =>
    ⟨fun ⟨m, xs, y, a, b, c⟩ => ⟨y, b, _, a, m, xs, rfl, c⟩, fun ⟨y, b, _, a, m, xs, z, c⟩ => ⟨m, xs, y, z ▸ a, b, c⟩⟩
  unfold dIoL
  simp only [e]
  exact ⟨fun ⟨⟨m, ys, a⟩, h⟩ => ⟨_, a, m, ys, rfl, h⟩, fun ⟨_, a, m, ys, z, h⟩ => ⟨⟨m, ys, z ▸ a⟩, h⟩⟩
theorem e_ioR {f : F2} : dIoR f ta i ρ Q ↔ ta ρ fun s1 ρ1 => oneK s1 fun x => atK ρ1 i fun o => ioK o fun _ ys => f x (.list ys) fun s => Q s ρ1 := by
  have e : ∀ (s1 : S) (ρ1 : En), (∃ x m ys, s1 = .d x ∧ ρ1[i]? = some (.io m ys) ∧ f x (.list ys) fun s => Q s ρ1) ↔ oneK s1 fun x => atK ρ1 i fun o => ioK o fun _ ys => f x (.list ys) fun s => Q s ρ1 := fun s1 ρ1 =>
    ⟨fun ⟨x, m, ys, a, b, c⟩ => ⟨x, a, _, b, m, ys, rfl, c⟩, fun ⟨x, a, _, b, m, ys, z, c⟩ => ⟨x, m, ys, a, z ▸ b, c⟩⟩
  unfold dIoR
  simp only [e]
theorem e_ioPut : dIoPut i ta tb D ρ ↔ tb ρ fun s ρ1 => oneK s fun x => atK ρ1 i fun o => ioK o fun _ _ => ta ρ1 fun s2 ρ2 => intK s2 fun n => atK ρ2 i fun o => ioK o fun m xs => ∃ j, ixN xs.length n = some j ∧ setK D.nx ρ2 i (.io m (xs.set j x)) := by
  have e : ∀ (s2 : S) (ρ2 : En) (x : PyData), (∃ k j m xs, s2 = .d (.int k) ∧ ρ2[i]? = some (.io m xs) ∧ ixN xs.length k = some j ∧ D.nx (ρ2.set i (.io m (xs.set j x)))) ↔ (intK s2 fun n => atK ρ2 i fun o => ioK o fun m xs => ∃ j, ixN xs.length n = some j ∧ setK D.nx ρ2 i (.io m (xs.set j x))) := fun s2 ρ2 x =>
    ⟨fun ⟨k, j, m, xs, a, b, c, q⟩ => ⟨k, a, _, b, m, xs, rfl, j, c, q⟩, fun ⟨k, a, _, b, m, xs, z, j, c, q⟩ => ⟨k, j, m, xs, a, z ▸ b, c, q⟩⟩
  have e2 : ∀ (s : S) (ρ1 : En) (k : PyData → Prop), (∃ x m ys, s = .d x ∧ ρ1[i]? = some (.io m ys) ∧ k x) ↔ (oneK s fun x => atK ρ1 i fun o => ioK o fun _ _ => k x) := fun s ρ1 k =>
    ⟨fun ⟨x, m, ys, a, b, c⟩ => ⟨x, a, _, b, m, ys, rfl, c⟩, fun ⟨x, a, _, b, m, ys, z, c⟩ => ⟨x, m, ys, a, z ▸ b, c⟩⟩
  unfold dIoPut
  simp only [e, e2]
end
end GB

set_option maxRecDepth 100000
/-! a caller's list as an argument: the call -/
namespace GB
open PySem PySem.Spec PyProof.Rows L2
inductive FRsJ (L : Lay) (H : Hp) (σ : L2.St) (ρ : En) (i : Nat) : List V → List S → Prop
  | nil : FRsJ L H σ ρ i [] []
  | firm {v : V} {s : S} {vs : List V} {ss : List S} : FR L H v s → FRsJ L H σ ρ i vs ss → FRsJ L H σ ρ i (v :: vs) (s :: ss)
  | own {v : V} {c : Nat} {xs : List PyData} {vs : List V} {ss : List S} : ρ[i]? = some (.io c xs) → σ[i]? = some (some v) → FRsJ L H σ ρ i vs ss → FRsJ L H σ ρ i (v :: vs) (.io c xs :: ss)
def tAJ (L : Lay) (i : Nat) (ta : TAd) : TA := fun σ H Q' => ∃ ρ Q, Rel L H σ ρ ∧ ta ρ Q ∧ ∀ vs H' ss ρ', Go σ ρ ρ' H H' → Rel L H' σ ρ' → FRsJ L H' σ ρ' i vs ss → Q ss ρ' → Q' vs H'
/-- the list at i itself is handed on -/
def dConsW (i : Nat) (tr : TAd) : TAd := fun ρ Q => (∃ c xs, ρ[i]? = some (.io c xs)) ∧ tr ρ fun ss ρ1 => ∃ c xs, ρ1[i]? = some (.io c xs) ∧ Q (.io c xs :: ss) ρ1
/-- f(.., x, ..) that changes x, a list of one's own at i, its m-th argument -/
def dCallJ (F : FnIO) (n m i : Nat) (ta : TAd) : TEd := fun ρ Q => ta ρ fun ss ρ1 => ss.length = n ∧ firmBut m ss = true ∧ ∃ c xs, ss[m]? = some (.io c xs) ∧ F (ss.set m (.io m xs)) fun xs' => Q (.d .none) (ρ1.set i (.io c xs'))
section
variable {L : Lay} {H : Hp} {σ : L2.St} {ρ : En} {i : Nat}
theorem FRsJ.len {vs : List V} {ss : List S} (h : FRsJ L H σ ρ i vs ss) : vs.length = ss.length := by
  induction h with
  | nil => rfl
  | firm _ _ ih => simp [ih]
  | own _ _ _ ih => simp [ih]
theorem FRsJ.at' {vs : List V} {ss : List S} (h : FRsJ L H σ ρ i vs ss) : ∀ (j : Nat) (s : S), ss[j]? = some s → ∃ v, vs[j]? = some v ∧ (FR L H v s ∨ ∃ c xs, s = .io c xs ∧ ρ[i]? = some (.io c xs) ∧ σ[i]? = some (some v)) := by
  induction h with
  | nil => intro j s e; simp at e
  | @firm v s vs ss f _ ih =>
    intro j s' e
    cases j with
    | zero => simp at e; subst e; exact ⟨v, rfl, .inl f⟩
    | succ j => simp at e ⊢; exact ih j s' e
  | @own v c xs vs ss a b _ ih =>
    intro j s' e
    cases j with
    | zero => simp at e; subst e; exact ⟨v, rfl, .inr ⟨c, xs, rfl, a, b⟩⟩
    | succ j => simp at e ⊢; exact ih j s' e
/-- behind the call -/
theorem io_relJ {H' : Hp} {l : Addr} {c : Nat} {xs xs' : List PyData} {ws ws' : List V} (r : Rel L H σ ρ) (hio : L.io c = some l) (ei : ρ[i]? = some (.io c xs)) (el : σ[i]? = some (some (.ref l))) (hl : H l = some (.lst ws)) (h0 : L.H0 l = none)
    (sm : Same (outOf H l) H') (hl' : H' l = some (.lst ws')) (b : BrA L.K H' ws' xs') : Rel L H' σ (ρ.set i (.io c xs')) ∧ Keep H H' := by
  have other : ∀ a o, a ≠ l → H a = some o → H' a = some o := fun a o ne h => sm a o (by show (if a = l then none else H a) = _; rw [if_neg ne]; exact h)
  have kp : Keep H H' := fun a o h f => by
    refine other a o (fun z => ?_) h
    subst z
    rw [hl] at h; cases h
    exact f.elim
  have ii : i < ρ.length := (List.getElem?_eq_some_iff.mp ei).1
  refine ⟨⟨by rw [List.length_set]; exact r.len, fun j z e => ?_, fun j k ys zs e1 e2 es => ?_, fun a o h => ?_⟩, kp⟩
  · by_cases hj : j = i
    · subst hj
      rw [List.getElem?_set_self ii] at e
      cases e
      rw [el]
      exact ⟨.ref l, rfl, l, ws', rfl, hl', ⟨b, hio⟩, h0⟩
    · rw [List.getElem?_set_ne (Ne.symm hj)] at e
      have q := r.at' j z e
      cases z with
      | un => trivial
      | d x => obtain ⟨v, e2, q⟩ := q; exact ⟨v, e2, Br.keep kp _ _ q⟩
      | ow zs =>
        obtain ⟨v, e2, q⟩ := q
        refine ⟨v, e2, q.keep kp fun m u' em hu => other m u' (fun z => ?_) hu⟩
        subst em; subst z
        obtain ⟨w', e4, _⟩ := r.get e
        rw [e4] at e2
        have e5 : σ[j]? = some (some (.ref m)) := by rw [e4]; exact congrArg some (show w' = some (V.ref m) from e2)
        exact hj (r.sep j i zs (.io c xs) e ei (by rw [e5, el]))
      | ob t => obtain ⟨a, e2, q⟩ := q; exact ⟨a, e2, L.J.keep _ _ _ _ kp q⟩
  · have fix : ∀ (j : Nat) (ys : Ow), (ρ.set i (S.io c xs'))[j]? = some (.ow ys) → ∃ zs, ρ[j]? = some (.ow zs) := fun j ys e => by
      by_cases hj : j = i
      · subst hj; exact ⟨_, ei⟩
      · rw [List.getElem?_set_ne (Ne.symm hj)] at e; exact ⟨_, e⟩
    obtain ⟨y1, f1⟩ := fix j ys e1
    obtain ⟨y2, f2⟩ := fix k zs e2
    exact r.sep j k y1 y2 f1 f2 es
  · exact other a o (fun z => by rw [z, h0] at h; cases h) (r.same a o h)
end
section
variable {X : Cx} {L : Lay} {pos p : Pos} {e : Expr} {es : List Expr} {t : TEd} {tas : TAd} {F : FnIO} {x : Str} {f : Addr} {fd : FuncData} {ps : List Str} {k i m : Nat} {CX : CXT} {E : XK}
theorem FRsJ.keep {H H' : Hp} {σ : L2.St} {ρ : En} (kp : Keep H H') {vs : List V} {ss : List S} (h : FRsJ L H σ ρ i vs ss) : FRsJ L H' σ ρ i vs ss := by
  induction h with
  | nil => exact .nil
  | firm a _ ih => exact .firm (a.keep kp) ih
  | own a b _ ih => exact .own a b ih
theorem daj_nil : PA X [] (tAJ L i dNil) := by
  refine pa_nil.less fun σ H Q' h => ?_
  obtain ⟨ρ, Q, r0, q, fin⟩ := h
  exact fin [] H [] ρ Go.rf r0 .nil q
theorem daj_cons (h : PE X e (tE L t)) (hr : PA X es (tAJ L i tas)) (hs : starEach (e :: es) X.env = (false, eval e X.env) :: starEach es X.env := by rfl) : PA X (e :: es) (tAJ L i (dCons t tas)) := by
  refine (pa_cons h hr hs).less fun σ H Q' h => ?_
  obtain ⟨ρ, Q, r0, q, fin⟩ := h
  refine ⟨ρ, _, r0, q, fun v H1 s ρ1 k1 r1 hv q1 => ?_⟩
  obtain ⟨f, q2⟩ := q1
  refine ⟨ρ1, _, r1, q2, fun vs H2 ss ρ2 k2 r2 hvs q3 => ?_⟩
  exact fin (v :: vs) H2 (s :: ss) ρ2 (k1.tr k2) r2 (.firm ((fr_of f hv).keep (k2.keep r1)) hvs) q3
theorem daj_var (h : PE X e (tVar i)) (hr : PA X es (tAJ L i tas)) (hs : starEach (e :: es) X.env = (false, eval e X.env) :: starEach es X.env := by rfl) : PA X (e :: es) (tAJ L i (dConsW i tas)) := by
  refine (pa_cons h hr hs).less fun σ H Q' h => ?_
  obtain ⟨ρ, Q, r0, q, fin⟩ := h
  obtain ⟨⟨c0, xs0, e0⟩, q⟩ := q
  obtain ⟨l, ws, el, _⟩ := r0.getI e0
  refine ⟨.ref l, el, ρ, _, r0, q, fun vs H2 ss ρ2 k2 r2 hvs q3 => ?_⟩
  obtain ⟨c2, xs2, e2, q4⟩ := q3
  exact fin (.ref l :: vs) H2 (.io c2 xs2 :: ss) ρ2 k2 r2 (.own e2 el hvs) q4
theorem de_callJ (hK : L.K = X.K) (Fn : FnG X.prog X.w X.K X.mg X.base CX k f fd ps (spIO X.K L.J ps.length m F)) (hr : Room k X.A) (g : Good X) (hg : Gl X x) (hm : X.mg x = some (.ref f)) (hk : PySem.W.keepIn X.K (.ref f) = true) (hb : Binds X.K fd ps [])
    (hx : Passes CX X E) (ha : PA X (e :: es) (tAJ L i tas)) (hdb : (x == ("__debug__" : Str)) = false := by decide) (he : starEach (e :: es) X.env = (false, eval e X.env) :: starEach es X.env := by rfl)
    (hpl : (backTo pos (starEach es X.env)).any (·.1) = false := by rfl) : PE X (.Call (.Name x p) (e :: es) [] pos) (tE L (dCallJ F ps.length m i tas)) :=
  (g_call Fn hr g.gd hg hm hk hb hx ha hdb he hpl).less fun σ H Q' h => by
    obtain ⟨ρ, Q, r, q, fin⟩ := h
    refine ⟨ρ, _, r, q, fun vs H1 ss ρ1 go r1 hv q1 => ?_⟩
    show spIO X.K L.J ps.length m F (vs ++ []) H1 Q' E
    rw [List.append_nil]
    obtain ⟨hl, hf, c, xs, em, hF⟩ := q1
    obtain ⟨v, ev, hv'⟩ := hv.at' m _ em
    obtain ⟨ei, es⟩ : ρ1[i]? = some (.io c xs) ∧ σ[i]? = some (some v) := by
      rcases hv' with h | ⟨c', ys, e, a, b⟩
      · exact h.elim
      · cases e; exact ⟨a, b⟩
    obtain ⟨l, ws, el, hws, ⟨hbr, hio⟩, h0⟩ := r1.getI ei
    rw [es] at el
    obtain rfl : v = .ref l := Option.some.inj (Option.some.inj el)
    have mm : m < ss.length := (List.getElem?_eq_some_iff.mp em).1
    refine ⟨ss.set m (.io m xs), _, l, ⟨by rw [List.length_set]; exact hv.len, fun j s ej => ?_⟩, by rw [List.length_set]; exact hl, hF, fun H' ws' xs' sm hl' hb' hR => ?_⟩
    · by_cases hj : j = m
      · subst hj
        rw [List.getElem?_set_self mm] at ej
        cases ej
        exact ⟨_, ev, .inl ⟨rfl, xs, ws, rfl, rfl, hws, by rw [← hK]; exact hbr⟩⟩
      · rw [List.getElem?_set_ne (Ne.symm hj)] at ej
        obtain ⟨u, eu, hu⟩ := hv.at' j s ej
        have no := firmBut_at hf hj ej
        refine ⟨u, eu, .inr ⟨hj, ?_⟩⟩
        rcases hu with h | ⟨_, ys, e, _⟩
        · rw [← hK]; cases s <;> exact h
        · subst e; cases no
    · obtain ⟨r2, kp⟩ := io_relJ r1 hio ei es hws h0 sm hl' (by rw [hK]; exact hb')
      obtain ⟨ys, e0⟩ := go.less i (.io c xs) ei
      have ne : ∀ a o, a ≠ l → H1 a = some o → H' a = some o := fun a o n h => sm a o (by show (if a = l then none else H1 a) = _; rw [if_neg n]; exact h)
      refine fin .non H' (.d .none) (ρ1.set i (.io c xs')) ⟨fun a o h n => ?_, fun j zs ez => ?_, fun a h => ?_⟩ r2 .non hR
      · exact ne a o (fun z => n i ys e0 (by rw [es, z])) (go.stay a o h n)
      · by_cases hj : j = i
        · subst hj; exact ⟨_, e0⟩
        · rw [List.getElem?_set_ne (Ne.symm hj)] at ez
          exact go.less j zs ez
      · refine go.dom a ?_
        cases h1 : H1 a with
        | none => rfl
        | some o =>
          exfalso
          by_cases z : a = l
          · rw [z, hl'] at h; cases h
          · rw [ne a o z h1] at h; cases h
end
/-! from without -/
theorem e_consW {ρ : En} {i : Nat} {tr : TAd} {Q : List S → En → Prop} : dConsW i tr ρ Q ↔ (atK ρ i fun s => ioK s fun _ _ => True) ∧ tr ρ fun ss ρ1 => atK ρ1 i fun s => ioK s fun c xs => Q (.io c xs :: ss) ρ1 := by
  have a : (∃ c xs, ρ[i]? = some (.io c xs)) ↔ atK ρ i fun s => ioK s fun _ _ => True := ⟨fun ⟨c, xs, e⟩ => ⟨_, e, c, xs, rfl, trivial⟩, fun ⟨_, e, c, xs, z, _⟩ => ⟨c, xs, z ▸ e⟩⟩
  unfold dConsW
  rw [a]
  simp only [io_at]
theorem e_callJ {F : FnIO} {n m i : Nat} {ta : TAd} {ρ : En} {Q : S → En → Prop} : dCallJ F n m i ta ρ Q ↔ ta ρ fun ss ρ1 => ss.length = n ∧ firmBut m ss = true ∧ atK ss m fun s => ioK s fun c xs => setK (fun ss' => F ss' fun xs' => setK (fun ρ2 => Q (.d .none) ρ2) ρ1 i (.io c xs')) ss m (.io m xs) := by
  unfold dCallJ
  simp only [io_at]
  exact Iff.rfl
end GB

set_option maxRecDepth 100000
/-! t.index(z) of a tuple of plain things -/
namespace GB
open PySem PySem.Spec PyProof.Rows L2
theorem tq_nodict {X : Cx} {pins : List (Addr × Obj)} {σ : L2.St} {H : Hp} {s : Shared} {a : Addr} {vs : List V} (I : Inv X pins σ H s) (h : TqT X.K H a vs) : s.TypeIs (.ref a) "tuple" ∧ ∀ b, Value.ref a = .ref b → ∃ ob, s.heap.get? b = some ob ∧ ob.dict = none := by
  rcases h with ⟨o, h, e⟩ | ⟨o, its, n, h1, h2, e, _⟩
  · obtain ⟨q, _, us, _, ⟨o2, q2, c2, _⟩⟩ := I.hok a _ h
    rw [q] at q2; cases q2
    exact ⟨⟨o, q, c2⟩, fun b z => by cases z; exact ⟨o, q, e⟩⟩
  · exact ⟨⟨o, I.kIn a o h1, h2⟩, fun b z => by cases z; exact ⟨o, I.kIn a o h1, e⟩⟩
def tBMT (K : PySem.W.Frag) (r : V → List V → Hp → VK → Prop) (to : TE) (t : TA) : TE := fun σ H Q => to σ H fun x H1 => (∃ a vs, x = .ref a ∧ TqT K H1 a vs) ∧ t σ H1 fun xs H2 => r x xs H2 Q
section
variable {X : Cx} {o e : Expr} {es : List Expr} {to : TE} {t : TA} {name : Str} {apos cpos : Pos} {id : String} {r : V → List V → Hp → VK → Prop}
theorem pe_bmT (slot : Slot "tuple" name id) (hty : typeOf (.builtin id) = pure (.type "method_descriptor")) (hm : MtR X id r) (ho : PE X o to) (ha : PA X (e :: es) t)
    (hbase : attributeBase o name X.env (eval o X.env) = eval o X.env := by rfl)
    (hfew : ((backTo cpos (starEach (e :: es) X.env)).all (fun x => !x.1) && (backToKw cpos (keywordEach [] X.env)).all (fun x => x.1.isSome) && decide ((e :: es).length + ([] : List Keyword).length + (if ([] : List Keyword).isEmpty then 0 else 1) < 30)) = true := by rfl)
    (hline : (apos.endLine == cpos.line) = true := by rfl) (hs : starEach (e :: es) X.env = (false, eval e X.env) :: starEach es X.env := by rfl) (hplain : (backTo cpos (starEach es X.env)).any (·.1) = false := by rfl) :
    PE X (.Call (.Attribute o name apos) (e :: es) [] cpos) (tBMT X.K r to t) := by
  constructor
  intro pins s σ H Q I h
  refine wpAny_Call_method_late hbase hfew hline rfl (thn (ho.run pins s σ H _ I h) fun v s1 z => ?_)
  obtain ⟨x, H1, I1, r1, ⟨a, vs, rfl, tq⟩, q1⟩ := z
  cases r1
  obtain ⟨k1, k2⟩ := tq_nodict I1 tq
  refine ⟨"tuple", id, PySem.F.plainAttrs_tuple, slot, hty, k1, k2, ?_⟩
  have hA := ha.run cpos pins s1 σ H1 _ I1 q1
  rw [hs] at hA ⊢
  refine Calls.callWith_builtin (by show (false || (backTo cpos (starEach es X.env)).any (·.1)) = false; rw [hplain] <;> rfl) (Calls.evalArgs_plain (thn hA fun us s2 z => ?_))
  obtain ⟨ws, H2, I2, r2, q2⟩ := z
  exact hm pins s2 σ H2 (.ref a) ws _ us Q I2 rfl r2 q2
end
theorem place_at {z : Str} {xs : List PyData} {j : Nat} (h : placeOf z xs = some j) : (∃ x, xs[j]? = some x ∧ PyData.eqv x (.str z) = true) ∧ ∀ m x, m < j → xs[m]? = some x → PyData.eqv x (.str z) = false := by
  unfold placeOf at h
  rw [List.findIdx?_eq_some_iff_getElem] at h
  obtain ⟨hj, e, no⟩ := h
  refine ⟨⟨xs[j], List.getElem?_eq_getElem hj, e⟩, fun m x hm g => ?_⟩
  obtain ⟨hl, rfl⟩ := List.getElem?_eq_some_iff.mp g
  have := no m hm
  simpa using this
section
variable {X : Cx} {L : Lay} {o e : Expr} {to te : TEd} {apos cpos : Pos}
theorem de_place (hK : L.K = X.K) (ho : PE X o (tE L to)) (he : PE X e (tE L te)) (hbase : attributeBase o "index" X.env (eval o X.env) = eval o X.env := by rfl)
    (hfew : ((backTo cpos (starEach [e] X.env)).all (fun x => !x.1) && (backToKw cpos (keywordEach [] X.env)).all (fun x => x.1.isSome) && decide ([e].length + ([] : List Keyword).length + (if ([] : List Keyword).isEmpty then 0 else 1) < 30)) = true := by rfl)
    (hline : (apos.endLine == cpos.line) = true := by rfl) (hs : starEach [e] X.env = (false, eval e X.env) :: starEach [] X.env := by rfl) (hplain : (backTo cpos (starEach [] X.env)).any (·.1) = false := by rfl) :
    PE X (.Call (.Attribute o "index" apos) [e] [] cpos) (tE L (dPlace to te)) :=
  (pe_bmT PySem.F.slot_tuple_index PySem.F.type_tuple_index mt_place ho (pa_cons he pa_nil hs) hbase hfew hline hs hplain).less fun σ H Q' q => by
    obtain ⟨ρ, Q, r, q, fin⟩ := q
    refine ⟨ρ, _, r, q, fun v H1 s ρ1 g1 r1 hv q1 => ?_⟩
    obtain ⟨xs, rfl, q2⟩ := q1
    have hv : Br L.K H1 v (.tuple xs) := hv
    cases hv with
    | @tup a vs _ h1 h3 =>
    refine ⟨⟨a, vs, rfl, hK ▸ h1⟩, ρ1, _, r1, q2, fun u H2 s2 ρ2 g2 r2 hu q3 => ?_⟩
    obtain ⟨z, rfl, fl, j, pj, q4⟩ := q3
    have hu : Br L.K H2 u (.str z) := hu
    cases hu
    have h1 := tqT_keep (g2.keep r1) h1
    have h3 := BrA.keep (g2.keep r1) _ _ h3
    obtain ⟨⟨x, gx, ex⟩, no⟩ := place_at pj
    have all : vs.all flatV = true := List.all_eq_true.mpr fun w hw => by
      obtain ⟨i, gi⟩ := List.getElem?_of_mem hw
      obtain ⟨d, gd, bd⟩ := h3.getV gi
      exact (flat_v bd (List.all_eq_true.mp fl _ (List.mem_of_getElem? gd)) z).1
    have fx : ∀ i d, xs[i]? = some d → flatD d = true := fun i d g => List.all_eq_true.mp fl _ (List.mem_of_getElem? g)
    refine ⟨a, vs, z, j, rfl, rfl, hK ▸ h1.sq, all, ?_, fun m y hm gy => ?_, fin _ H2 (.d (.int (j : Nat))) ρ2 (g1.tr g2) r2 (.int _) q4⟩
    · obtain ⟨y, gy, by_⟩ := h3.get gx
      exact ⟨y, gy, by rw [(flat_v by_ (fx _ _ gx) z).2]; exact ex⟩
    · obtain ⟨d, gd, bd⟩ := h3.getV gy
      rw [(flat_v bd (fx _ _ gd) z).2]
      exact no m d hm gd
end
theorem e_place {to te : TEd} {ρ : En} {Q : S → En → Prop} : dPlace to te ρ Q ↔ to ρ fun s ρ1 => oneK s fun x => ∃ xs, x = .tuple xs ∧ te ρ1 fun s2 ρ2 => oneK s2 fun y => ∃ z, y = .str z ∧ xs.all flatD = true ∧ ∃ j, placeOf z xs = some j ∧ Q (.d (.int (j : Nat))) ρ2 := by
  have e : (fun (s : S) (ρ1 : En) => ∃ xs, s = .d (.tuple xs) ∧ te ρ1 fun s2 ρ2 => ∃ z, s2 = .d (.str z) ∧ xs.all flatD = true ∧ ∃ j, placeOf z xs = some j ∧ Q (.d (.int (j : Nat))) ρ2) = fun s ρ1 => oneK s fun x => ∃ xs, x = .tuple xs ∧ te ρ1 fun s2 ρ2 => oneK s2 fun y => ∃ z, y = .str z ∧ xs.all flatD = true ∧ ∃ j, placeOf z xs = some j ∧ Q (.d (.int (j : Nat))) ρ2 := by
    funext s ρ1
    apply propext
    have e2 : (fun (s2 : S) (ρ2 : En) => ∃ z, s2 = .d (.str z) ∧ ∀ _u : Unit, True) = fun s2 ρ2 => ∃ z, s2 = .d (.str z) ∧ ∀ _u : Unit, True := rfl
    constructor
    · rintro ⟨xs, rfl, h⟩
      refine ⟨_, rfl, xs, rfl, ?_⟩
      have : (fun (s2 : S) (ρ2 : En) => ∃ z, s2 = .d (.str z) ∧ xs.all flatD = true ∧ ∃ j, placeOf z xs = some j ∧ Q (.d (.int (j : Nat))) ρ2) = fun s2 ρ2 => oneK s2 fun y => ∃ z, y = .str z ∧ xs.all flatD = true ∧ ∃ j, placeOf z xs = some j ∧ Q (.d (.int (j : Nat))) ρ2 := by
        funext s2 ρ2
        exact propext ⟨fun ⟨z, a, h⟩ => ⟨_, a, z, rfl, h⟩, fun ⟨x, a, z, e, h⟩ => ⟨z, e ▸ a, h⟩⟩
      rw [← this]; exact h
    · rintro ⟨x, rfl, xs, rfl, h⟩
      refine ⟨xs, rfl, ?_⟩
      have : (fun (s2 : S) (ρ2 : En) => ∃ z, s2 = .d (.str z) ∧ xs.all flatD = true ∧ ∃ j, placeOf z xs = some j ∧ Q (.d (.int (j : Nat))) ρ2) = fun s2 ρ2 => oneK s2 fun y => ∃ z, y = .str z ∧ xs.all flatD = true ∧ ∃ j, placeOf z xs = some j ∧ Q (.d (.int (j : Nat))) ρ2 := by
        funext s2 ρ2
        exact propext ⟨fun ⟨z, a, h⟩ => ⟨_, a, z, rfl, h⟩, fun ⟨x, a, z, e, h⟩ => ⟨z, e ▸ a, h⟩⟩
      rw [this]; exact h
  unfold dPlace
  rw [e]
end GB

set_option maxRecDepth 100000
/-! try with several clauses, each with a name or without -/
namespace GB
open PySem PySem.Spec PyProof.Rows L2
/-- a clause as it is wished: the class, the name's slot, the suite -/
structure Cl where
  c : Value
  i : Option Nat
  ts : Addr → Value → Option Addr → TS
def sSet (σ : L2.St) (v : Option V) : Option Nat → L2.St
  | some i => σ.set i v
  | none => σ
def wCls (K : PySem.W.Frag) (D : Ends) : List Cl → WX
  | [] => fun _ _ _ _ => False
  | q :: r => fun cls d σ H => ∃ b, PySem.W.exmOne K cls q.c = some b ∧
      (b = true → ∀ a, H a = none → q.ts a cls d { nx := fun σ' H' => D.nx (sSet σ' none q.i) H', rt := D.rt, bk := fun σ' H' => D.bk (sSet σ' none q.i) H', ct := fun σ' H' => D.ct (sSet σ' none q.i) H' } (sSet σ (some (.ref a)) q.i) H) ∧ (b = false → wCls K D r cls d σ H)
/-- the clauses are served -/
inductive ClOk (X : Cx) : List ExceptHandler → List Cl → Prop
  | nil : ClOk X [] []
  | named {x n : Str} {c : Value} {i : Nat} {ts : Addr → Value → Option Addr → TS} {b₀ : Stmt} {body : List Stmt} {np pos' : Pos} {hds : List ExceptHandler} {l : List Cl} (hi : X.N[i]? = some n) (hln : X.env.kindOf n = some .local) (hc : Names X x c)
      (hsu : ∀ (a : Addr) (oe : Obj) (cls : Value) (d : Option Addr) (pn : List (Addr × Obj)), Zc cls d oe → (∃ vs, oe.data = .fields vs) → PSs (X.suite a ((a, oe) :: pn)) (b₀ :: body) (ts a cls d)) (r : ClOk X hds l) :
      ClOk X (.ExceptHandler (some (.Name x np)) (some n) (b₀ :: body) pos' :: hds) (⟨c, some i, ts⟩ :: l)
  | bare {x : Str} {c : Value} {ts : Addr → Value → Option Addr → TS} {b₀ : Stmt} {body : List Stmt} {np pos' : Pos} {hds : List ExceptHandler} {l : List Cl} (hc : Names X x c)
      (hsu : ∀ (a : Addr) (oe : Obj) (cls : Value) (d : Option Addr) (pn : List (Addr × Obj)), Zc cls d oe → (∃ vs, oe.data = .fields vs) → PSs (X.suite a ((a, oe) :: pn)) (b₀ :: body) (ts a cls d)) (r : ClOk X hds l) :
      ClOk X (.ExceptHandler (some (.Name x np)) none (b₀ :: body) pos' :: hds) (⟨c, none, ts⟩ :: l)
section
variable {X : Cx} {body : List Stmt} {h₀ : ExceptHandler} {hds : List ExceptHandler} {l : List Cl} {pos : Pos} {tb : WX → TS}
theorem ps_try_cls (hs : X.stack = X.env :: X.outer) (hf : X.env.frame = some X.env.locals) (hN : X.N.Nodup)
    (hb : ∀ (W : WX) (pn : List (Addr × Obj)) (xe : Value → Shared → Prop), Takes (X.tr pn xe) W → PassesOwn (model X.prog X.w) X.A X.env xe → PSs (X.tr pn xe) body (tb W))
    (hh : ClOk X (h₀ :: hds) l) : PS X (.Try body (h₀ :: hds) [] [] pos) (fun D σ H => tb (wCls X.K D l) D σ H) := by
  constructor
  intro pins s σ H D I h
  have ok := I.ok
  have frm : X.A.frames = some (X.env :: X.outer) := by rw [ok.frames, hs]
  refine wpAny_Try_except (wpAny_mono ((hb (wCls X.K D l) (X.pn ++ pins) (fun e t1 => wpAny (model X.prog X.w) X.A (noteFrame e X.env) (fun _ t2 => wpAny (model X.prog X.w) X.A (setFlight e none) (fun _ t3 =>
    wpAny (model X.prog X.w) X.A (handleBy e X.env (h₀ :: hds)) (SP X pins D) X.xe t3) X.xe t2) X.xe t1) (fun u s' caught => ?_) PassesOwn.looking).run [] s σ H D (I.toTry _) h) (fun f s1 hsp => ?_) (fun e s1 he => he))
  · obtain ⟨a, B, sI, pins', τ, G, cls, d, rfl, J0, nb, up, sky, na, os, ag, wish⟩ := caught
    have J : Inv X pins τ G sI := J0.ofTry ok
    rw [hs] at sky
    show wpAny (model X.prog X.w) X.A (noteFrame (.ref a) X.env) _ _ _
    refine Sky.land Zc.steady frm hf sky fun h3 fl3 up3 => ?_
    have J3 : Inv X pins τ G { s' with heap := h3 } := J.landed nb fl3.1 (up.trans up3) os ag
    obtain ⟨oe3, vs3, ge3, hz3, hd3⟩ := fl3.there
    have outside : a ∉ frs (X.env :: X.outer) := fun hm => by
      obtain ⟨_, o', e', no⟩ := fl3.2.2.1.mem hm
      rw [ge3] at e'; cases e'
      exact no _ hd3
    have aL : a ≠ X.env.locals := fun z => outside (List.mem_filterMap.mpr ⟨X.env, List.mem_cons_self, by rw [hf, z]⟩)
    have aF : a ∉ X.fs := fun hm => by
      obtain ⟨e, me, q⟩ := List.mem_filterMap.mp hm
      exact outside (List.mem_filterMap.mpr ⟨e, List.mem_cons_of_mem _ me, q⟩)
    have S3 := J3.suite ge3 hd3 na aL aF
    have named : ∀ {x : Str} {c : Value} {np : Pos} {Q : Value → Shared → Prop} {E : Value → Shared → Prop}, Names X x c → Q c { s' with heap := h3 } → wpAny (model X.prog X.w) (X.A.mark (some (.ref a))) (eval (.Name x np) X.env) Q E { s' with heap := h3 } := fun hc q => by
      obtain ⟨hg, hdb, hm | ⟨hm, hv, nn⟩⟩ := hc
      · exact ld_glob (X := X.suite a ((a, oe3) :: (X.pn ++ pins))) S3 hg hm q hdb
      · exact ld_blt (X := X.suite a ((a, oe3) :: (X.pn ++ pins))) S3 hg hm hv q nn hdb
    have looks : PySem.W.Looks (model X.prog X.w) h3 (typeOf (.ref a)) cls := fun A Q E s k q => wpAny_typeOf_ref (k _ _ ge3) (by rw [hz3.1]; exact q)
    have go : ∀ {hs2 : List ExceptHandler} {l2 : List Cl}, ClOk X hs2 l2 → wCls X.K D l2 cls d τ G → wpAny (model X.prog X.w) X.A (handleBy (.ref a) X.env hs2) (SP X pins D) X.xe { s' with heap := h3 } := by
      intro hs2 l2 hk
      induction hk with
      | nil => exact fun z => z.elim
      | @named x n c i ts b₀ suite np pos' hds2 l3 hi hln hc hsu r ih =>
        intro ⟨b, hb1, yes, no⟩
        refine wpAny_handleBy_cons (codeAny_handlers_test (named hc ((PySem.W.exm_one (M := model X.prog X.w) J3.kIn looks hb1).here ?_))) (by intro q; cases q)
        cases b with
        | true =>
          refine codeAny_handlers_suite_as (HandSPX.lands_againZ fl3 fun h4 fl4 up4 => ?_)
          have J4 : Inv X pins τ G { s' with heap := h4 } := J.landed nb fl4.1 ((up.trans up3).trans up4) os ag
          obtain ⟨oe4, vs4, ge4, hz4, hd4⟩ := fl4.there
          have S4 := J4.suite ge4 hd4 na aL aF
          refine store_ok (X := X.suite a ((a, oe4) :: (X.pn ++ pins))) (v := .ref a) S4 hN hi (.inl hln) rfl (fun s5 S5 => ?_) (.inr hln)
          refine wpAny_mono ((hsu a oe4 cls d (X.pn ++ pins) hz4 ⟨_, hd4⟩).run [] s5 _ G _ S5 (yes rfl a na)) (fun f s6 hsp => ?_) (fun _ _ z => False.elim z)
          have fin : ∀ {τ6 : L2.St} {G6 : Hp} {Q : Shared → Prop}, Inv (X.suite a ((a, oe4) :: (X.pn ++ pins))) [] τ6 G6 s6 → (∀ s7, Inv X pins (τ6.set i none) G6 s7 → Q s7) → wpAny (model X.prog X.w) X.A (do bindName X.env n .none; unbindBehindTheSuite X.env n pos') (fun _ s7 => Q s7) X.xe s6 :=
            fun {τ6 G6 Q} S6 hq => gone_ok (S6.unsuite ok) hN hi hln hq
          cases f with
          | ret u =>
            obtain ⟨v6, τ6, G6, S6, r6, q6⟩ := hsp
            exact fin S6 fun s7 J7 => ⟨_, _, _, J7, r6, q6⟩
          | next => obtain ⟨τ6, G6, S6, q6⟩ := hsp; exact fin S6 fun s7 J7 => ⟨_, _, J7, q6⟩
          | brk => obtain ⟨τ6, G6, S6, q6⟩ := hsp; exact fin S6 fun s7 J7 => ⟨_, _, J7, q6⟩
          | cont => obtain ⟨τ6, G6, S6, q6⟩ := hsp; exact fin S6 fun s7 J7 => ⟨_, _, J7, q6⟩
        | false =>
          show wpAny _ X.A (handleBy (.ref a) X.env hds2) _ _ _
          exact ih (no rfl)
      | @bare x c ts b₀ suite np pos' hds2 l3 hc hsu r ih =>
        intro ⟨b, hb1, yes, no⟩
        refine wpAny_handleBy_cons (codeAny_handlers_test (named hc ((PySem.W.exm_one (M := model X.prog X.w) J3.kIn looks hb1).here ?_))) (by intro q; cases q)
        cases b with
        | true =>
          refine codeAny_handlers_suite (HandSPX.lands_againZ fl3 fun h4 fl4 up4 => ?_)
          have J4 : Inv X pins τ G { s' with heap := h4 } := J.landed nb fl4.1 ((up.trans up3).trans up4) os ag
          obtain ⟨oe4, vs4, ge4, hz4, hd4⟩ := fl4.there
          have S4 := J4.suite ge4 hd4 na aL aF
          refine wpAny_mono ((hsu a oe4 cls d (X.pn ++ pins) hz4 ⟨_, hd4⟩).run [] _ _ G _ S4 (yes rfl a na)) (fun f s6 hsp => ?_) (fun _ _ z => False.elim z)
          cases f with
          | ret u =>
            obtain ⟨v6, τ6, G6, S6, r6, q6⟩ := hsp
            exact ⟨_, _, _, S6.unsuite ok, r6, q6⟩
          | next => obtain ⟨τ6, G6, S6, q6⟩ := hsp; exact ⟨_, _, S6.unsuite ok, q6⟩
          | brk => obtain ⟨τ6, G6, S6, q6⟩ := hsp; exact ⟨_, _, S6.unsuite ok, q6⟩
          | cont => obtain ⟨τ6, G6, S6, q6⟩ := hsp; exact ⟨_, _, S6.unsuite ok, q6⟩
        | false =>
          show wpAny _ X.A (handleBy (.ref a) X.env hds2) _ _ _
          exact ih (no rfl)
    exact go hh wish
  · cases f with
    | ret u => obtain ⟨v, τ, G, K1, r, q⟩ := hsp; exact ⟨v, τ, G, K1.ofTry ok, r, q⟩
    | next => obtain ⟨τ, G, K1, q⟩ := hsp; exact wpAny_execs_nil ⟨τ, G, K1.ofTry ok, q⟩
    | brk => obtain ⟨τ, G, K1, q⟩ := hsp; exact ⟨τ, G, K1.ofTry ok, q⟩
    | cont => obtain ⟨τ, G, K1, q⟩ := hsp; exact ⟨τ, G, K1.ofTry ok, q⟩
end
end GB

set_option maxRecDepth 100000
/-! exceptions as data -/
namespace GB
open PySem PySem.Spec PyProof.Rows L2
/-- the classes: where each stands, and its field -/
abbrev XT := Ec → Option (Addr × Option Str)
def PlIs (K : PySem.W.Frag) (H : Hp) (d : Option Addr) : Option Str → Option PyData → Prop
  | none, none => d = none
  | some f, some y => ∃ dd v, d = some dd ∧ H dd = some (.xd [(f, v)]) ∧ Br K H v y
  | _, _ => False
def XcIs (ct : XT) (K : PySem.W.Frag) (H : Hp) (cls : Value) (d : Option Addr) (x : Xc) : Prop := ∃ C f, ct x.1 = some (C, f) ∧ cls = .ref C ∧ PlIs K H d f x.2
theorem XcIs.keep {ct : XT} {K : PySem.W.Frag} {H H' : Hp} {cls : Value} {d : Option Addr} {x : Xc} (k : Keep H H') (h : XcIs ct K H cls d x) : XcIs ct K H' cls d x := by
  obtain ⟨C, f, h1, h2, h3⟩ := h
  refine ⟨C, f, h1, h2, ?_⟩
  revert h3
  generalize x.2 = p
  intro h3
  cases f with
  | none => cases p with
    | none => exact h3
    | some y => exact h3
  | some f => cases p with
    | none => exact h3
    | some y =>
      obtain ⟨dd, v, e, q, b⟩ := h3
      exact ⟨dd, v, e, k _ _ q trivial, Br.keep k _ _ b⟩
/-! a def that raises -/
abbrev FnZ := List S → (S → Prop) → (Xc → Prop) → Prop
def spZ (K : PySem.W.Frag) (J : Jar) (ct : XT) (n : Nat) (F : FnZ) : Sp := fun vs H Q E => ∃ ss R Z, FRs (lay K J H) H vs ss ∧ ss.length = n ∧ F ss R Z ∧ (∀ v H' s, Same H H' → RR (lay K J H) H' v s → R s → Q v H') ∧
  (∀ x cls d H', Same H H' → XcIs ct K H' cls d x → Z x → E cls d H')
/-- what is wished of an exception, and what the reading asks -/
def ZW (ct : XT) (L : Lay) (W : WX) (Z : Xc → En → Prop) : Prop := ∀ x ρ σ H cls d, Rel L H σ ρ → XcIs ct L.K H cls d x → Z x ρ → W cls d σ H
section
variable {P : Program} {w : World} {K : PySem.W.Frag} {mg : Str → Option Value} {base : Heap} {J : Jar} {ct : XT}
theorem fnz_ok {f : Addr} {fd : FuncData} {x qual : Str} {st : Stmt} {N ps : List Str} {k : Nat} {F : FnZ} {t : (Xc → En → Prop) → TSd} (Fn : Fun K x qual st f fd) (S0 : FnScope N ps (defScope st)) (hs : ∃ o, base.get? sysModules = some o)
    (body : ∀ (cdv : Value) (A : Around) (outer : List Env) (s : Shared) (H : Hp) (E : XK) (Z : Xc → En → Prop), A.guards = some [] → Room k (A.deeper (envOfC qual (defScope st) s.heap.objs.size f cdv)) → Good (cxOf (L2.CX P w) P w K mg base N qual (defScope st) f cdv A outer s H E) →
      PassesOwn (model P w) (cxOf (L2.CX P w) P w K mg base N qual (defScope st) f cdv A outer s H E).A (cxOf (L2.CX P w) P w K mg base N qual (defScope st) f cdv A outer s H E).env (cxOf (L2.CX P w) P w K mg base N qual (defScope st) f cdv A outer s H E).xe →
      Takes (cxOf (L2.CX P w) P w K mg base N qual (defScope st) f cdv A outer s H E) (fun cls d _ H' => E cls d H') → ZW ct (lay K J H) (fun cls d _ H' => E cls d H') Z →
      PSs (cxOf (L2.CX P w) P w K mg base N qual (defScope st) f cdv A outer s H E) (defBody st) (tS (lay K J H) (t Z)))
    (math : ∀ ss R Z, ss.length = ps.length → F ss R Z → t (fun x _ => Z x) { nx := fun _ => R (.d .none), rt := R } (ss ++ List.replicate (N.length - ps.length) .un)) :
    FnG P w K mg base (L2.CX P w) (k + 1) f fd ps (spZ K J ct ps.length F) := by
  refine fng_of Fn S0 (fun vs H Q E h => ?_) fun cdv A outer s H vs Q E hg hr h => ?_
  · obtain ⟨ss, R, Z, fr, hl, _⟩ := h
    rw [fr.len, hl]
  · obtain ⟨ss, R, Z, fr, hl, hF, fin, hz⟩ := h
    refine ⟨_, body cdv A outer s H E (fun x _ => Z x) hg hr (good_of' hs S0.nd hg hr) (passes_of rfl) (takes_of rfl rfl rfl rfl) (fun x ρ σ H' cls d r xi z => hz x cls d H' r.same xi z), ss ++ List.replicate (N.length - ps.length) .un, { nx := fun _ => R (.d .none), rt := R }, ?_, math ss R Z hl hF, fun σ' H' ρ' k r n => ?_, fun v H' s k sm rr n => fin v H' s sm rr n, fun _ _ _ _ _ n => n, fun _ _ _ _ _ n => n⟩
    · have hv := fr.len
      unfold L2.start
      rw [hv, hl]
      exact brA_start fr rfl
    · exact fin .non H' (.d .none) r.same .non n
/-- a def that raises, where it doesn't -/
theorem FnG.calmZ {k n : Nat} {f : Addr} {fd : FuncData} {ps : List Str} {F : FnZ} (Fn : FnG P w K mg base (L2.CX P w) k f fd ps (spZ K J ct n F)) :
    FnG P w K mg base CX0 k f fd ps (spD K J n fun ss R => F ss R fun _ => False) := by
  have up : ∀ vs H Q E, spD K J n (fun ss R => F ss R fun _ => False) vs H Q E → spZ K J ct n F vs H Q (fun _ _ _ => False) := fun vs H Q E h => by
    obtain ⟨ss, R, fr, hl, hF, fin⟩ := h
    exact ⟨ss, R, fun _ => False, fr, hl, hF, fin, fun _ _ _ _ _ _ z => z⟩
  refine ⟨fun vs H Q E h => Fn.arity vs H Q _ (up vs H Q E h), fun A outer s H args us vs Q E hg hr he hb hv h => codeAny_mono (Fn.go A outer s H args us vs Q _ hg hr he hb hv (up vs H Q E h)) fun r s' hq => ?_⟩
  cases r with
  | error e =>
    obtain ⟨_, _, _, _, _, _, _, _, _, _, _, _, z⟩ := (show L2.CX P w outer H s (fun _ _ _ => False) e s' from hq)
    exact z.elim
  | ok fl => cases fl <;> exact hq
end
/-! calls of such defs -/
def dCallZ (F : FnZ) (n : Nat) (Z : Xc → En → Prop) (ta : TAd) : TEd := fun ρ Q => ta ρ fun ss ρ1 => ss.length = n ∧ F ss (fun s => Q s ρ1) (fun x => Z x ρ1)
def dCallKZ (F : FnZ) (n : Nat) (gS : List S → List S) (Z : Xc → En → Prop) (ta : TAd) : TEd := fun ρ Q => ta ρ fun ss ρ1 => (gS ss).length = n ∧ F (gS ss) (fun s => Q s ρ1) (fun x => Z x ρ1)
section
variable {X : Cx} {L : Lay} {ct : XT} {W : WX} {Z : Xc → En → Prop} {pos p : Pos} {e : Expr} {es : List Expr} {tas tks : TAd} {F : FnZ} {x : Str} {f : Addr} {fd : FuncData} {ps ks : List Str} {k : Nat} {kws : List Keyword}
theorem de_callZ (hK : L.K = X.K) (Fn : FnG X.prog X.w X.K X.mg X.base (L2.CX X.prog X.w) k f fd ps (spZ X.K L.J ct ps.length F)) (hr : Room k X.A) (g : Good X) (hg : Gl X x) (hm : X.mg x = some (.ref f)) (hk : PySem.W.keepIn X.K (.ref f) = true) (hb : Binds X.K fd ps [])
    (tk : Takes X W) (hz : ZW ct L W Z) (ha : PA X (e :: es) (tA L tas)) (hdb : (x == ("__debug__" : Str)) = false := by decide) (he : starEach (e :: es) X.env = (false, eval e X.env) :: starEach es X.env := by rfl)
    (hpl : (backTo pos (starEach es X.env)).any (·.1) = false := by rfl) : PE X (.Call (.Name x p) (e :: es) [] pos) (tE L (dCallZ F ps.length Z tas)) :=
  (g_callS (E := WE W) Fn hr g.gd hg hm hk hb (fun σ => passAt tk σ) ha hdb he hpl).less fun σ H Q' h => by
    obtain ⟨ρ, Q, r, q, fin⟩ := h
    refine ⟨ρ, _, r, q, fun vs H1 ss ρ1 go r1 hv q1 => ?_⟩
    refine ⟨ss, _, _, ?_, q1.1, q1.2, fun v H2 s sm rr q2 => fin v H2 s ρ1 (go.tr (Go.sm sm)) (r1.go sm) (rr_vr r1 go (by rw [hK]; exact rr)) q2, fun x cls d H2 sm xi z => hz x ρ1 σ H2 cls d (r1.go sm) (hK ▸ xi) z⟩
    rw [← hK]; exact hv.lay
theorem de_callKZ {gV : List V → List V} {g : List Value → List Value} {gS : List S → List S} (hK : L.K = X.K) (Fn : FnG X.prog X.w X.K X.mg X.base (L2.CX X.prog X.w) k f fd ps (spZ X.K L.J ct ps.length F)) (hr : Room k X.A) (gd : Good X) (hg : Gl X x) (hm : X.mg x = some (.ref f)) (hk : PySem.W.keepIn X.K (.ref f) = true)
    (hb : Perm X.K fd ps ks g gV gS) (tk : Takes X W) (hz : ZW ct L W Z) (hkw : PK X kws (tA L tks)) (hall : (backToKw pos (keywordEach kws X.env)).all (·.1.isSome) = true := by rfl)
    (hks : (backToKw pos (keywordEach kws X.env)).filterMap (·.1) = ks := by rfl) (hdb : (x == ("__debug__" : Str)) = false := by decide)
    (hpl : ((backTo pos (starEach [] X.env)).any (·.1) || (backToKw pos (keywordEach kws X.env)).any (·.1.isNone)) = false := by rfl) :
    PE X (.Call (.Name x p) [] kws pos) (tE L (dCallKZ F ps.length gS Z tks)) :=
  (g_kwS (E := WE W) Fn hr gd.gd hg hm hk hb.to hb.rel (fun σ => passAt tk σ) hkw hall hks hdb hpl).less fun σ H Q' h => by
    obtain ⟨ρ, Q, r, q, fin⟩ := h
    refine ⟨ρ, _, r, q, fun vs H1 ss ρ1 go r1 hv q1 => ?_⟩
    refine ⟨gS ss, _, _, ?_, q1.1, q1.2, fun v H2 s sm rr q2 => fin v H2 s ρ1 (go.tr (Go.sm sm)) (r1.go sm) (rr_vr r1 go (by rw [hK]; exact rr)) q2, fun x cls d H2 sm xi z => hz x ρ1 σ H2 cls d (r1.go sm) (hK ▸ xi) z⟩
    rw [← hK]; exact hb.fr hv.lay
end
/-! raise C, raise C(y) -/
/-- a class of the program that bears a field -/
structure ExP (P : Program) (w : World) (K : PySem.W.Frag) (mg : Str → Option Value) (base : Heap) (x f : Str) (C : Addr) : Prop where
  gC : mg x = some (.ref C)
  T : OexC K C
  hno : PySem.W.findIn K (.ref C) f = some none
  ini : ∃ (fI : Addr) (fd : FuncData) (ps : List Str), PySem.W.findIn K (.ref C) "__init__" = some (some (.ref fI)) ∧ PySem.W.typeIn K (.ref fI) = some (.type "function") ∧ Binds K fd ps [] ∧
    FnOk P w K mg base CX0 1 fI fd ps (fun vs H Q _ => ∃ a C y, vs = [V.ref a, y] ∧ H a = some (exo a C none) ∧ OexC K C ∧ PySem.W.findIn K (.ref C) f = some none ∧ ∀ dx, H dx = none → dx ≠ a → Q .non (upd (upd H dx (exd dx [(f, y)])) a (exo a C (some dx))))
def dRaiseZ (e : Ec) (Z : Xc → En → Prop) (te : TEd) : TSd := fun _ ρ => te ρ fun s ρ1 => ∃ y, s = .d y ∧ Z (e, some y) ρ1
def dRaise0 (e : Ec) (Z : Xc → En → Prop) : TSd := fun _ ρ => Z (e, none) ρ
section
variable {X : Cx} {L : Lay} {ct : XT} {W : WX} {Z : Xc → En → Prop} {C : Addr} {x f : Str} {p pos pos2 : Pos} {e : Expr} {te : TEd} {ec : Ec}
theorem ds_raise0 (g : Good X) (tk : Takes X W) (hz : ZW ct L W Z) (hc : ct ec = some (C, none)) (c : ExC X.K X.mg x C) (hg : Gl X x) (hdb : (x == ("__debug__" : Str)) = false := by decide) :
    PS X (.Raise (some (.Call (.Name x p) [] [] pos)) none pos2) (tS L (dRaise0 ec Z)) := by
  obtain ⟨bm, F, q⟩ := c.xC
  refine (ps_raise g.calm tk (pmk_own0 F q c.gC c.kC (raises_own c.bC c.tC) hg hdb)).less fun D σ H h => ?_
  obtain ⟨ρ, De, r, z, _⟩ := h
  exact hz (ec, none) ρ σ H _ _ r ⟨C, none, hc, rfl, rfl⟩ z
theorem ds_raiseZ (hK : L.K = X.K) (g : Good X) (hr : Room 2 X.A) (tk : Takes X W) (hz : ZW ct L W Z) (hc : ct ec = some (C, some f)) (c : ExP X.prog X.w X.K X.mg X.base x f C) (hg : Gl X x) (he : PE X e (tE L te)) (hdb : (x == ("__debug__" : Str)) = false := by decide)
    (hs : starEach [e] X.env = (false, eval e X.env) :: starEach [] X.env := by rfl) (hpl : (backTo pos (starEach [] X.env)).any (·.1) = false := by rfl) :
    PS X (.Raise (some (.Call (.Name x p) [e] [] pos)) none pos2) (tS L (dRaiseZ ec Z te)) := by
  obtain ⟨fI, fd, ps, h1, h2, h3, h4⟩ := c.ini
  refine (ps_raise g.calm tk (pmk_oex c.T h1 h2 h4 hr h3 .nil pass0 hg c.gC (pa_cons he pa_nil hs) hdb hs hpl)).less fun D σ H h => ?_
  obtain ⟨ρ, De, r, z, _⟩ := h
  refine ⟨ρ, _, r, z, fun v H1 s ρ1 go r1 hv q1 => ?_⟩
  obtain ⟨y, rfl, q2⟩ := q1
  have hv : Br L.K H1 v y := hv
  refine ⟨by simp, fun a na => ⟨a, C, v, rfl, upd_same, c.T, c.hno, fun dx nd da => ⟨rfl, dx, [(f, v)], upd_same, ?_, ?_, ?_⟩⟩⟩
  · rw [upd_ne da, upd_same]
  · rw [upd_ne da] at nd; exact nd
  · rw [upd_ne da] at nd
    have sm : Same H1 (upd (del (upd (upd (upd H1 a (exo a C none)) dx (exd dx [(f, v)])) a (exo a C (some dx))) a) dx (.xd [(f, v)])) := fun b o q => by
      have ba : b ≠ a := ne_of_none q na
      have bd : b ≠ dx := ne_of_none q nd
      rw [upd_ne bd, del_ne ba, upd_ne ba, upd_ne bd, upd_ne ba]; exact q
    exact hz (ec, some y) ρ1 σ _ _ _ (r1.go sm) ⟨C, some f, hc, rfl, dx, v, rfl, upd_same, Br.keep (keep_of_same sm) _ _ hv⟩ q2
end
end GB

set_option maxRecDepth 100000
/-! try: .. except C as n: .., as data -/
namespace GB
open PySem PySem.Spec PyProof.Rows L2
/-- the entry's heap, with all that is firm now -/
def fzH (H0 H : Hp) : Hp := fun b => match H0 b with
  | some o => some o
  | none => match H b with
    | some (.tup xs) => some (.tup xs)
    | some (.frz o u) => some (.frz o u)
    | some (.ext f) => some (.ext f)
    | some (.xd fs) => some (.xd fs)
    | _ => none
theorem fz_same {H0 H H' : Hp} (sm : Same (fzH H0 H) H') : Same H0 H' := fun b o h => sm b o (by unfold fzH; rw [h])
theorem fz_keep {H0 H H' : Hp} (s0 : Same H0 H) (sm : Same (fzH H0 H) H') : Keep H H' := fun b o h f => by
  refine sm b o ?_
  unfold fzH
  cases q : H0 b with
  | some u => have := s0 b u q; rw [h] at this; rw [this]
  | none => cases o <;> first | exact f.elim | simp only [h]
theorem fz_le {H0 H : Hp} (s0 : Same H0 H) : Same (fzH H0 H) H := fun b o h => by
  unfold fzH at h
  cases q : H0 b with
  | some u => rw [q] at h; cases h; exact s0 b _ q
  | none =>
    rw [q] at h
    simp only at h
    split at h
    · rename_i e; cases h; exact e
    · rename_i e; cases h; exact e
    · rename_i e; cases h; exact e
    · rename_i e; cases h; exact e
    · cases h
theorem fz_none {H0 H : Hp} {l : Addr} {u : HO} (h0 : H0 l = none) (h : H l = some u) (ls : Loose u) : fzH H0 H l = none := by
  unfold fzH
  rw [h0, h]
  cases u <;> first | rfl | exact ls.elim
theorem fz_of {H0 H : Hp} {l : Addr} (h : fzH H0 H l = none) : H0 l = none := by
  cases z : H0 l with
  | none => rfl
  | some o => unfold fzH at h; rw [z] at h; cases h
abbrev at0L (L : Lay) (h0 : Hp) : Lay := ⟨L.K, L.J, h0, L.io⟩
/-- what a suite knows of its exception -/
def xJar (J : Jar) (ct : XT) (K : PySem.W.Frag) (a : Addr) (cls : Value) (d : Option Addr) : Jar where
  ok := fun t b H => match t with
    | .exc x => b = a ∧ XcIs ct K H cls d x
    | t => J.ok t b H
  keep := fun t b H H' k h => by
    cases t with
    | exc x => exact ⟨h.1, h.2.keep k⟩
    | jar => exact J.keep .jar b H H' k h
    | scr ns => exact J.keep (.scr ns) b H H' k h
    | more n => exact J.keep (.more n) b H H' k h
    | bor xs => exact J.keep (.bor xs) b H H' k h
abbrev exL (L : Lay) (h0 : Hp) (ct : XT) (a : Addr) (cls : Value) (d : Option Addr) : Lay := ⟨L.K, xJar L.J ct L.K a cls d, h0, L.io⟩
/-- no exceptions among what the store knows -/
def NoExc (J : Jar) : Prop := ∀ x a H, ¬ J.ok (.exc x) a H
theorem OR.lay {L : Lay} {J' : Jar} {h0 H : Hp} {v : V} {xs : Ow} (h : OR L H v xs) (hn : ∀ l u, v = .ref l → H l = some u → Loose u → L.H0 l = none → h0 l = none) : OR ⟨L.K, J', h0, L.io⟩ H v xs := by
  cases xs with
  | l xs => obtain ⟨l, vs, e, h1, h2, h3⟩ := h; exact ⟨l, vs, e, h1, h2, hn l _ e h1 trivial h3⟩
  | k kvs => obtain ⟨l, vs, e, h1, h2, h3⟩ := h; exact ⟨l, vs, e, h1, h2, hn l _ e h1 trivial h3⟩
  | io m xs => obtain ⟨l, vs, e, h1, h2, h3⟩ := h; exact ⟨l, vs, e, h1, h2, hn l _ e h1 trivial h3⟩
theorem Rel.freeze {L : Lay} {H : Hp} {σ : L2.St} {ρ : En} (r : Rel L H σ ρ) : Rel (at0L L (fzH L.H0 H)) H σ ρ := by
  refine ⟨r.len, fun i s e => ?_, r.sep, fz_le r.same⟩
  have q := r.at' i s e
  cases s with
  | un => trivial
  | d x => exact q
  | ob t => exact q
  | ow xs =>
    obtain ⟨v, e2, q⟩ := q
    exact ⟨v, e2, q.lay fun l u _ hu ls h0 => fz_none h0 hu ls⟩
theorem Rel.unfreeze {L : Lay} {H0 H : Hp} {σ : L2.St} {ρ : En} (r : Rel (at0L L (fzH L.H0 H0)) H σ ρ) : Rel L H σ ρ := by
  refine ⟨r.len, fun i s e => ?_, r.sep, fz_same r.same⟩
  have q := r.at' i s e
  cases s with
  | un => trivial
  | d x => exact q
  | ob t => exact q
  | ow xs =>
    obtain ⟨v, e2, q⟩ := q
    refine ⟨v, e2, OR.lay (L := at0L L (fzH L.H0 H0)) q fun l u _ _ _ h0 => ?_⟩
    cases h : L.H0 l with
    | none => rfl
    | some o =>
      have h0 : fzH L.H0 H0 l = none := h0
      unfold fzH at h0
      rw [h] at h0; cases h0
/-- exceptions out of the slots -/
def clX : S → S
  | .ob (.exc _) => .un
  | s => s
def clr (ρ : En) : En := ρ.map clX
theorem Rel.enter {L : Lay} {h0 H : Hp} {σ : L2.St} {ρ : En} {ct : XT} {a : Addr} {cls : Value} {d : Option Addr} (nx : NoExc L.J) (r : Rel (at0L L h0) H σ ρ) : Rel (exL L h0 ct a cls d) H σ ρ := by
  refine ⟨r.len, fun i s e => ?_, r.sep, r.same⟩
  have q := r.at' i s e
  cases s with
  | un => trivial
  | d x => exact q
  | ob t =>
    obtain ⟨b, e2, q⟩ := q
    cases t with
    | exc x => exact (nx x b H q).elim
    | jar => exact ⟨b, e2, q⟩
    | scr ns => exact ⟨b, e2, q⟩
    | more n => exact ⟨b, e2, q⟩
    | bor xs => exact ⟨b, e2, q⟩
  | ow xs =>
    obtain ⟨v, e2, q⟩ := q
    exact ⟨v, e2, OR.lay (L := at0L L h0) q fun l u _ _ _ h0 => h0⟩
theorem Rel.leave {L : Lay} {h0 H : Hp} {σ : L2.St} {ρ : En} {ct : XT} {a : Addr} {cls : Value} {d : Option Addr} (r : Rel (exL L h0 ct a cls d) H σ ρ) : Rel (at0L L h0) H σ (clr ρ) := by
  have own : ∀ (i : Nat) (xs : Ow), (clr ρ)[i]? = some (.ow xs) → ρ[i]? = some (.ow xs) := fun i xs e => by
    unfold clr at e
    rw [List.getElem?_map] at e
    cases q : ρ[i]? with
    | none => rw [q] at e; cases e
    | some s =>
      rw [q] at e
      cases s with
      | ow ys => exact e
      | un => cases e
      | d x => cases e
      | ob t => cases t <;> cases e
  refine ⟨by unfold clr; rw [List.length_map]; exact r.len, fun i s e => ?_, fun i j xs ys e1 e2 => r.sep i j xs ys (own i xs e1) (own j ys e2), r.same⟩
  unfold clr at e
  rw [List.getElem?_map] at e
  cases q : ρ[i]? with
  | none => rw [q] at e; cases e
  | some s0 =>
    rw [q] at e
    have z := r.at' i s0 q
    cases s0 with
    | un => cases e; trivial
    | d x => cases e; exact z
    | ow xs =>
      cases e
      obtain ⟨v, e2, z⟩ := z
      exact ⟨v, e2, OR.lay (L := exL L h0 ct a cls d) z fun l u _ _ _ h0 => h0⟩
    | ob t =>
      obtain ⟨b, e2, z⟩ := z
      cases t with
      | exc x => cases e; trivial
      | jar => cases e; exact ⟨b, e2, z⟩
      | scr ns => cases e; exact ⟨b, e2, z⟩
      | more n => cases e; exact ⟨b, e2, z⟩
      | bor xs => cases e; exact ⟨b, e2, z⟩
/-- what is handed on is no exception -/
def noxK (s : S) (p : Prop) : Prop := (∀ x, s ≠ .ob (.exc x)) ∧ p
theorem nox_d {x : PyData} {p : Prop} : noxK (.d x) p ↔ p := ⟨fun h => h.2, fun h => ⟨fun x e => (nomatch e), h⟩⟩
theorem nox_ow {x : Ow} {p : Prop} : noxK (.ow x) p ↔ p := ⟨fun h => h.2, fun h => ⟨fun x e => (nomatch e), h⟩⟩
theorem rr_leave {L : Lay} {h0 H : Hp} {v : V} {s : S} {ct : XT} {a : Addr} {cls : Value} {d : Option Addr} (n : ∀ x, s ≠ .ob (.exc x)) (h : RR (exL L h0 ct a cls d) H v s) (z : ∀ l, h0 l = none → L.H0 l = none) : RR L H v s := by
  cases s with
  | un => exact h
  | d x => exact h
  | ow xs => exact OR.lay (L := exL L h0 ct a cls d) h fun l u _ _ _ h0 => z l h0
  | ob t =>
    obtain ⟨b, e, q⟩ := h
    cases t with
    | exc x => exact (n x rfl).elim
    | jar => exact ⟨b, e, q⟩
    | scr ns => exact ⟨b, e, q⟩
    | more k => exact ⟨b, e, q⟩
    | bor xs => exact ⟨b, e, q⟩
theorem rr_unfreeze {L : Lay} {h0 H : Hp} {v : V} {s : S} (h : RR (at0L L h0) H v s) (z : ∀ l, h0 l = none → L.H0 l = none) : RR L H v s := by
  cases s with
  | un => exact h
  | d x => exact h
  | ob t => exact h
  | ow xs => exact OR.lay (L := at0L L h0) h fun l u _ _ _ h0 => z l h0
/-- a clause: its class, the slot of its name, its suite -/
abbrev ClD := Ec × Option Nat × TSd
def unS (ρ : En) : Option Nat → En
  | some i => ρ.set i .un
  | none => ρ
def exS (ρ : En) (x : Xc) : Option Nat → En
  | some i => ρ.set i (.ob (.exc x))
  | none => ρ
def dHands (D : EndsD) (x : Xc) (ρ : En) : List ClD → Prop
  | [] => False
  | (e, i, u) :: r => if x.1 = e then u { nx := fun ρ2 => D.nx (unS (clr ρ2) i), rt := fun s => noxK s (D.rt s), bk := fun ρ2 => D.bk (unS (clr ρ2) i), ct := fun ρ2 => D.ct (unS (clr ρ2) i) } (exS ρ x i) else dHands D x ρ r
def dTryZ (t : (Xc → En → Prop) → TSd) (cs : List ClD) : TSd := fun D ρ => t (fun x ρ1 => dHands D x ρ1 cs) D ρ
/-- the clauses, as data -/
inductive ClZ (X : Cx) (ct : XT) (L : Lay) : List ExceptHandler → List Cl → List ClD → Prop
  | nil : ClZ X ct L [] [] []
  | named {x n : Str} {C : Addr} {ec : Ec} {i : Nat} {u : TSd} {b₀ : Stmt} {body : List Stmt} {np pos' : Pos} {hds : List ExceptHandler} {l : List Cl} {cs : List ClD} (hi : X.N[i]? = some n) (hln : X.env.kindOf n = some .local) (hg : Gl X x) (hC : X.mg x = some (.ref C))
      (hx : ∀ e C' f, ct e = some (C', f) → PySem.W.exmOne X.K (.ref C') (.ref C) = some (decide (e = ec))) (hdb : (x == ("__debug__" : Str)) = false)
      (hsu : ∀ (h0 : Hp) (a : Addr) (oe : Obj) (cls : Value) (d : Option Addr) (pn : List (Addr × Obj)), Zc cls d oe → (∃ vs, oe.data = .fields vs) → PSs (X.suite a ((a, oe) :: pn)) (b₀ :: body) (tS (exL L h0 ct a cls d) u)) (r : ClZ X ct L hds l cs) :
      ClZ X ct L (.ExceptHandler (some (.Name x np)) (some n) (b₀ :: body) pos' :: hds) (⟨.ref C, some i, fun a cls d D σ H => ∃ h0, tS (exL L h0 ct a cls d) u D σ H⟩ :: l) ((ec, some i, u) :: cs)
  | bare {x : Str} {C : Addr} {ec : Ec} {u : TSd} {b₀ : Stmt} {body : List Stmt} {np pos' : Pos} {hds : List ExceptHandler} {l : List Cl} {cs : List ClD} (hg : Gl X x) (hC : X.mg x = some (.ref C))
      (hx : ∀ e C' f, ct e = some (C', f) → PySem.W.exmOne X.K (.ref C') (.ref C) = some (decide (e = ec))) (hdb : (x == ("__debug__" : Str)) = false)
      (hsu : ∀ (h0 : Hp) (a : Addr) (oe : Obj) (cls : Value) (d : Option Addr) (pn : List (Addr × Obj)), Zc cls d oe → (∃ vs, oe.data = .fields vs) → PSs (X.suite a ((a, oe) :: pn)) (b₀ :: body) (tS (exL L h0 ct a cls d) u)) (r : ClZ X ct L hds l cs) :
      ClZ X ct L (.ExceptHandler (some (.Name x np)) none (b₀ :: body) pos' :: hds) (⟨.ref C, none, fun a cls d D σ H => ∃ h0, tS (exL L h0 ct a cls d) u D σ H⟩ :: l) ((ec, none, u) :: cs)
theorem pss_ex {X : Cx} {ss : List Stmt} {α : Type} {t : α → TS} (h : ∀ a, PSs X ss (t a)) : PSs X ss (fun D σ H => ∃ a, t a D σ H) := ⟨fun pins s σ H D I ⟨a, q⟩ => (h a).run pins s σ H D I q⟩
theorem ClZ.ok {X : Cx} {ct : XT} {L : Lay} {hds : List ExceptHandler} {l : List Cl} {cs : List ClD} (h : ClZ X ct L hds l cs) : ClOk X hds l := by
  induction h with
  | nil => exact .nil
  | named hi hln hg hC hx hdb hsu r ih => exact .named hi hln ⟨hg, hdb, .inl hC⟩ (fun a oe cls d pn hz hf => pss_ex fun h0 => hsu h0 a oe cls d pn hz hf) ih
  | bare hg hC hx hdb hsu r ih => exact .bare ⟨hg, hdb, .inl hC⟩ (fun a oe cls d pn hz hf => pss_ex fun h0 => hsu h0 a oe cls d pn hz hf) ih
theorem sSet_un {i : Option Nat} {σ : L2.St} {ρ : En} {L : Lay} {H : Hp} (r : Rel L H σ ρ) : Rel L H (sSet σ none i) (unS ρ i) := by
  cases i with
  | none => exact r
  | some i => exact r.setU i none
section
variable {X : Cx} {L : Lay} {ct : XT} {body : List Stmt} {h₀ : ExceptHandler} {hds : List ExceptHandler} {l : List Cl} {cs : List ClD} {pos : Pos} {t : (Xc → En → Prop) → TSd}
/-- what the clauses ask is what is wished -/
theorem hands_wish (hK : L.K = X.K) (nx : NoExc L.J) {hds : List ExceptHandler} (h : ClZ X ct L hds l cs) {D : Ends} {De : EndsD} {H H1 : Hp} {σ1 : L2.St} {ρ1 : En} {cls : Value} {d : Option Addr} {x : Xc} (s0 : Same L.H0 H)
    (fnx : ∀ σ' H' ρ', Keep H H' → Rel L H' σ' ρ' → De.nx ρ' → D.nx σ' H') (frt : ∀ v H' s, Keep H H' → Same L.H0 H' → RR L H' v s → De.rt s → D.rt v H') (fbk : ∀ σ' H' ρ', Keep H H' → Rel L H' σ' ρ' → De.bk ρ' → D.bk σ' H') (fct : ∀ σ' H' ρ', Keep H H' → Rel L H' σ' ρ' → De.ct ρ' → D.ct σ' H')
    (r : Rel (at0L L (fzH L.H0 H)) H1 σ1 ρ1) (xi : XcIs ct L.K H1 cls d x) (q : dHands De x ρ1 cs) : wCls X.K D l cls d σ1 H1 := by
  induction h with
  | nil => exact q.elim
  | @named y n C ec i u b₀ suite np pos' hds l cs hi hln hg hC hx hdb hsu rr ih =>
    obtain ⟨C', f, c1, c2, c3⟩ := id xi
    refine ⟨decide (x.1 = ec), by rw [c2]; exact hx _ _ _ c1, fun yes a na => ?_, fun no => ?_⟩
    · have yes := of_decide_eq_true yes
      unfold dHands at q
      rw [if_pos yes] at q
      have r2 : Rel (exL L (fzH L.H0 H) ct a cls d) H1 σ1 ρ1 := r.enter nx
      have r3 : Rel (exL L (fzH L.H0 H) ct a cls d) H1 (sSet σ1 (some (.ref a)) (some i)) (exS ρ1 x (some i)) := r2.setF (s := .ob (.exc x)) ⟨a, rfl, rfl, xi⟩
      have bk : ∀ {H2 : Hp}, Same (fzH L.H0 H) H2 → Keep H H2 := fun sm => fz_keep s0 sm
      refine ⟨fzH L.H0 H, _, _, r3, q, fun σ2 H2 ρ2 k2 r4 n => ?_, fun v H2 s k2 sm v2 n => ?_, fun σ2 H2 ρ2 k2 r4 n => ?_, fun σ2 H2 ρ2 k2 r4 n => ?_⟩
      · exact fnx _ _ _ (bk r4.same) (sSet_un (i := some i) r4.leave.unfreeze) n
      · exact frt v H2 s (bk sm) (fz_same sm) (rr_leave n.1 v2 fun l h0 => fz_of h0) n.2
      · exact fbk _ _ _ (bk r4.same) (sSet_un (i := some i) r4.leave.unfreeze) n
      · exact fct _ _ _ (bk r4.same) (sSet_un (i := some i) r4.leave.unfreeze) n
    · have no := of_decide_eq_false no
      unfold dHands at q
      rw [if_neg no] at q
      exact ih q
  | @bare y C ec u b₀ suite np pos' hds l cs hg hC hx hdb hsu rr ih =>
    obtain ⟨C', f, c1, c2, c3⟩ := id xi
    refine ⟨decide (x.1 = ec), by rw [c2]; exact hx _ _ _ c1, fun yes a na => ?_, fun no => ?_⟩
    · have yes := of_decide_eq_true yes
      unfold dHands at q
      rw [if_pos yes] at q
      have r2 : Rel (exL L (fzH L.H0 H) ct a cls d) H1 (sSet σ1 (some (.ref a)) none) (exS ρ1 x none) := r.enter nx
      have bk : ∀ {H2 : Hp}, Same (fzH L.H0 H) H2 → Keep H H2 := fun sm => fz_keep s0 sm
      refine ⟨fzH L.H0 H, _, _, r2, q, fun σ2 H2 ρ2 k2 r4 n => ?_, fun v H2 s k2 sm v2 n => ?_, fun σ2 H2 ρ2 k2 r4 n => ?_, fun σ2 H2 ρ2 k2 r4 n => ?_⟩
      · exact fnx _ _ _ (bk r4.same) (sSet_un (i := none) r4.leave.unfreeze) n
      · exact frt v H2 s (bk sm) (fz_same sm) (rr_leave n.1 v2 fun l h0 => fz_of h0) n.2
      · exact fbk _ _ _ (bk r4.same) (sSet_un (i := none) r4.leave.unfreeze) n
      · exact fct _ _ _ (bk r4.same) (sSet_un (i := none) r4.leave.unfreeze) n
    · have no := of_decide_eq_false no
      unfold dHands at q
      rw [if_neg no] at q
      exact ih q
theorem ds_tryZ (hK : L.K = X.K) (nx : NoExc L.J) (g : Good X) (hs : X.stack = X.env :: X.outer) (hf : X.env.frame = some X.env.locals)
    (hb : ∀ (W : WX) (pn : List (Addr × Obj)) (xe : Value → Shared → Prop) (h0 : Hp) (Z : Xc → En → Prop), Good (X.tr pn xe) → Takes (X.tr pn xe) W → PassesOwn (model X.prog X.w) X.A X.env xe → ZW ct (at0L L h0) W Z → PSs (X.tr pn xe) body (tS (at0L L h0) (t Z)))
    (hh : ClZ X ct L (h₀ :: hds) l cs) : PS X (.Try body (h₀ :: hds) [] [] pos) (tS L (dTryZ t cs)) :=
  (ps_try_cls (tb := fun W D σ H => ∃ p : { p : Hp × (Xc → En → Prop) // ZW ct (at0L L p.1) W p.2 }, tS (at0L L p.1.1) (t p.1.2) D σ H) hs hf g.nd
    (fun W pn xe tk po => pss_ex fun p => hb W pn xe p.1.1 p.1.2 ⟨g.calm, g.gd, g.sys, g.un, g.nd⟩ tk po p.2) hh.ok).less fun D σ H q => by
    obtain ⟨ρ, De, r, q, h1, h2, h3, h4⟩ := q
    have bk : ∀ {H2 : Hp}, Same (fzH L.H0 H) H2 → Keep H H2 := fun sm => fz_keep r.same sm
    refine ⟨⟨(fzH L.H0 H, fun x ρ1 => dHands De x ρ1 cs), fun x ρ1 σ1 H1 cls d r1 xi z => hands_wish hK nx hh r.same h1 h2 h3 h4 r1 xi z⟩, ρ, De, r.freeze, q, fun σ2 H2 ρ2 k2 r2 n => h1 _ _ _ k2 r2.unfreeze n, fun v H2 s k2 sm v2 n => ?_, fun σ2 H2 ρ2 k2 r2 n => h3 _ _ _ k2 r2.unfreeze n, fun σ2 H2 ρ2 k2 r2 n => h4 _ _ _ k2 r2.unfreeze n⟩
    exact h2 v H2 s k2 (fz_same sm) (rr_unfreeze v2 fun l h0 => fz_of h0) n
end
/-! the suite: the error's field, its class -/
def dXf (i : Nat) (e : Ec) : TEd := fun ρ Q => ∃ y, ρ[i]? = some (.ob (.exc (e, some y))) ∧ Q (.d y) ρ
def dIsx (i : Nat) (e : Ec) : TEd := fun ρ Q => ∃ y, ρ[i]? = some (.ob (.exc (e, y))) ∧ Q (.d (.bool true)) ρ
section
variable {X : Cx} {L : Lay} {h0 : Hp} {ct : XT} {a C : Addr} {oe : Obj} {cls : Value} {d : Option Addr} {pn : List (Addr × Obj)} {n f x : Str} {i : Nat} {ec : Ec} {p p1 p2 pos : Pos}
theorem Rel.exc {H : Hp} {σ : L2.St} {ρ : En} {y : Xc} (r : Rel (exL L h0 ct a cls d) H σ ρ) (h : ρ[i]? = some (.ob (.exc y))) : σ[i]? = some (some (.ref a)) ∧ XcIs ct L.K H cls d y := by
  obtain ⟨o, e, b, e2, e3, q⟩ := r.get h
  rw [e, e2, e3]; exact ⟨rfl, q⟩
theorem de_xf (hK : L.K = X.K) (hc : ct ec = some (C, some f)) (T : XfC X.K C) (hno : PySem.W.findIn X.K (.ref C) f = some none) (hz : Zc cls d oe) (hf : ∃ vs, oe.data = .fields vs) (hN : X.N[i]? = some n) (hv : Vis X.env.scope n)
    (hdn : (n == ("__debug__" : Str)) = false := by decide) (hcd : (n == ("__classdict__" : Str)) = false := by decide) (hb : attributeBase (.Name n p1) f X.env (eval (.Name n p1) X.env) = eval (.Name n p1) X.env := by rfl) :
    PE (X.suite a ((a, oe) :: pn)) (.Attribute (.Name n p1) f pos) (tE (exL L h0 ct a cls d) (dXf i ec)) :=
  (pe_xf (X := X) T hno hz hf (pe_var (X := X.suite a ((a, oe) :: pn)) hN hv hdn hcd) hb).less fun σ H Q' q => by
    obtain ⟨ρ, Q, r, ⟨y, h, q⟩, fin⟩ := q
    obtain ⟨e1, C', f', c1, c2, c3⟩ := r.exc h
    rw [hc] at c1; cases c1
    obtain ⟨dd, v, e2, e3, b⟩ := c3
    exact ⟨.ref a, e1, rfl, c2, dd, _, v, e2, e3, by simp, fin v H (.d y) ρ Go.rf r b q⟩
theorem call_isZ {G : V} {gv : Value} (hz : Zc (.ref C) d oe) (hf : ∃ vs, oe.data = .fields vs) (c : ExI X.K C C) (one : PySem.W.kitOne X.K (.ref C) gv = some true) (hG : ∀ u, RelV G u → u = gv) :
    CallR (X.suite a ((a, oe) :: pn)) (.builtin "isinstance") (fun xs H Q => xs = [.ref a, G] ∧ (∀ dd, d = some dd → ∃ fs, H dd = some (.xd fs)) ∧ Q (.bl true) H) := by
  intro pins s σ H xs us Q I r h
  obtain ⟨rfl, hd, q⟩ := h
  obtain ⟨u1, u2, rfl, r1, r2⟩ := vals2 r
  cases (show u1 = Value.ref a from r1)
  cases hG _ r2
  obtain ⟨ha, _⟩ := I.pin (a, oe) (List.mem_append_left _ List.mem_cons_self)
  obtain ⟨vs, hv⟩ := hf
  obtain ⟨gt, gg⟩ := c.gg
  cases d with
  | none =>
    have J : PySem.W.InstAt s.heap a oe C none := ⟨ha, hz.1, by unfold PySem.W.notCls; rw [hv] <;> rfl, by rw [hz.2]; trivial⟩
    exact PySem.W.kia_one (PySem.W.kitx_exc (x := a) (ox := oe) (od := none) c.hcl c.ga gg c.bC c.ha c.hn c.htk c.hm) I.kIn J one (fun z => nomatch z) fun tk => ⟨.bl true, H, I.tok tk, rfl, q⟩
  | some dd =>
    obtain ⟨fs, hd⟩ := hd dd rfl
    obtain ⟨mA, ⟨od, es, ep, ho, _⟩, _⟩ := (I.hok dd _ hd : ObjOk X.prog X.w H s.heap dd (.xd fs))
    have J : PySem.W.InstAt s.heap a oe C (some od) := ⟨ha, hz.1, by unfold PySem.W.notCls; rw [hv] <;> rfl, by rw [hz.2]; exact ho⟩
    exact PySem.W.kia_one (PySem.W.kitx_exc (x := a) (ox := oe) (od := some od) c.hcl c.ga gg c.bC c.ha c.hn c.htk c.hm) I.kIn J one (fun z => nomatch z) fun tk => ⟨.bl true, H, I.tok tk, rfl, q⟩
end
end GB

set_option maxRecDepth 100000
/-! isinstance of a caught error; a table of defs; D.get(k); max(i, j) -/
namespace GB
open PySem PySem.Spec PyProof.Rows L2
section
variable {X : Cx} {L : Lay} {h0 : Hp} {ct : XT} {a C G : Addr} {oe : Obj} {cls : Value} {d : Option Addr} {pn : List (Addr × Obj)} {n x T : Str} {T' : String} {i : Nat} {ec : Ec} {f : Option Str} {p p1 p2 pos : Pos}
theorem is_exc {G : V} {H : Hp} {σ : L2.St} {ρ : En} {Q : S → En → Prop} {Q' : VK} (hc : ct ec = some (C, f)) (r : Rel (exL L h0 ct a cls d) H σ ρ) (y : Option PyData) (h : ρ[i]? = some (.ob (.exc (ec, y)))) (q : Q' (.bl true) H) :
    cls = .ref C ∧ σ[i]? = some (some (.ref a)) ∧ (∀ dd, d = some dd → ∃ fs, H dd = some (.xd fs)) := by
  obtain ⟨e1, C', f', c1, c2, c3⟩ := r.exc h
  rw [hc] at c1; cases c1
  refine ⟨c2, e1, fun dd ed => ?_⟩
  subst ed
  cases f with
  | none => cases y with
    | none => cases c3
    | some y => exact c3.elim
  | some f => cases y with
    | none => exact c3.elim
    | some y =>
      obtain ⟨dd', v, e2, e3, _⟩ := c3
      cases e2; exact ⟨_, e3⟩
theorem call_isW {G : V} {gv : Value} (hz : Zc cls d oe) (hf : ∃ vs, oe.data = .fields vs) (c : ExI X.K C C) (one : PySem.W.kitOne X.K (.ref C) gv = some true) (hG : ∀ u, RelV G u → u = gv) :
    CallR (X.suite a ((a, oe) :: pn)) (.builtin "isinstance") (fun xs H Q => xs = [.ref a, G] ∧ cls = .ref C ∧ (∀ dd, d = some dd → ∃ fs, H dd = some (.xd fs)) ∧ Q (.bl true) H) := by
  intro pins s σ H xs us Q I r h
  obtain ⟨h1, h2, h3⟩ := h
  subst h2
  exact call_isZ hz hf c one hG pins s σ H xs us Q I r ⟨h1, h3⟩
theorem de_isx (hc : ct ec = some (C, f)) (c : ExI X.K C C) (one : PySem.W.kitOne X.K (.ref C) (.ref G) = some true) (hz : Zc cls d oe) (hf : ∃ vs, oe.data = .fields vs) (hN : X.N[i]? = some n) (hv : Vis X.env.scope n) (hg : Gl (X.suite a ((a, oe) :: pn)) "isinstance") (hm : X.mg "isinstance" = none)
    (hgG : Gl (X.suite a ((a, oe) :: pn)) x) (hmG : X.mg x = some (.ref G)) (hdn : (n == ("__debug__" : Str)) = false := by decide) (hcd : (n == ("__classdict__" : Str)) = false := by decide) (hdx : (x == ("__debug__" : Str)) = false := by decide) (hb : bootBuiltins "isinstance" = some (.builtin "isinstance") := by decide +kernel)
    (h1 : starEach ((.Name n p1) :: [.Name x p2]) X.env = (false, eval (.Name n p1) X.env) :: starEach [.Name x p2] X.env := by rfl) (h2 : starEach ([.Name x p2]) X.env = (false, eval (.Name x p2) X.env) :: starEach [] X.env := by rfl)
    (hpl : (backTo pos (starEach [.Name x p2] X.env)).any (·.1) = false := by rfl) : PE (X.suite a ((a, oe) :: pn)) (.Call (.Name "isinstance" p) [.Name n p1, .Name x p2] [] pos) (tE (exL L h0 ct a cls d) (dIsx i ec)) :=
  (pe_callB (X := X.suite a ((a, oe) :: pn)) (call_isW (X := X) (G := .ref G) (pn := pn) hz hf c one (fun u r => r)) hg hm hb (pa_cons (pe_var (X := X.suite a ((a, oe) :: pn)) hN hv hdn hcd) (pa_cons (pe_glob (X := X.suite a ((a, oe) :: pn)) (v := .ref G) hgG hmG rfl hdx) pa_nil h2) h1) (by decide) (by decide) h1 hpl).less fun σ H Q' q => by
    obtain ⟨ρ, Q, r, ⟨y, h, q⟩, fin⟩ := q
    obtain ⟨e1, e2, e3⟩ := is_exc (G := .ref G) (Q := Q) hc r y h (fin (.bl true) H (.d (.bool true)) ρ Go.rf r (.bl _) q)
    exact ⟨.ref a, e2, rfl, e1, e3, fin _ H (.d (.bool true)) ρ Go.rf r (.bl _) q⟩
theorem de_isB (hc : ct ec = some (C, f)) (c : ExI X.K C C) (one : PySem.W.kitOne X.K (.ref C) (.type T') = some true) (hz : Zc cls d oe) (hf : ∃ vs, oe.data = .fields vs) (hN : X.N[i]? = some n) (hv : Vis X.env.scope n) (hg : Gl (X.suite a ((a, oe) :: pn)) "isinstance") (hm : X.mg "isinstance" = none)
    (hgG : Gl (X.suite a ((a, oe) :: pn)) x) (hmG : X.mg x = none) (hT : bootBuiltins x = some (.type T')) (hnx : x ≠ "__name__" := by decide) (hdn : (n == ("__debug__" : Str)) = false := by decide) (hcd : (n == ("__classdict__" : Str)) = false := by decide) (hdx : (x == ("__debug__" : Str)) = false := by decide) (hb : bootBuiltins "isinstance" = some (.builtin "isinstance") := by decide +kernel)
    (h1 : starEach ((.Name n p1) :: [.Name x p2]) X.env = (false, eval (.Name n p1) X.env) :: starEach [.Name x p2] X.env := by rfl) (h2 : starEach ([.Name x p2]) X.env = (false, eval (.Name x p2) X.env) :: starEach [] X.env := by rfl)
    (hpl : (backTo pos (starEach [.Name x p2] X.env)).any (·.1) = false := by rfl) : PE (X.suite a ((a, oe) :: pn)) (.Call (.Name "isinstance" p) [.Name n p1, .Name x p2] [] pos) (tE (exL L h0 ct a cls d) (dIsx i ec)) :=
  (pe_callB (X := X.suite a ((a, oe) :: pn)) (call_isW (X := X) (G := .ty T') (pn := pn) hz hf c one (fun u r => r)) hg hm hb (pa_cons (pe_var (X := X.suite a ((a, oe) :: pn)) hN hv hdn hcd) (pa_cons (pe_bltn (X := X.suite a ((a, oe) :: pn)) (v := .ty T') hgG hmG hT rfl hnx hdx) pa_nil h2) h1) (by decide) (by decide) h1 hpl).less fun σ H Q' q => by
    obtain ⟨ρ, Q, r, ⟨y, h, q⟩, fin⟩ := q
    obtain ⟨e1, e2, e3⟩ := is_exc (G := .ty T') (Q := Q) hc r y h (fin (.bl true) H (.d (.bool true)) ρ Go.rf r (.bl _) q)
    exact ⟨.ref a, e2, rfl, e1, e3, fin _ H (.d (.bool true)) ρ Go.rf r (.bl _) q⟩
end
/-! a table of defs -/
structure FTab (P : Program) (w : World) (K : PySem.W.Frag) (mg : Str → Option Value) (base : Heap) (J : Jar) (k n : Nat) (q : Addr) (D : List (Str × FnD)) : Prop where
  y : ∀ z F, D.lookup z = some F → ∃ f fd ps, KDct K w q z (.ref f) ∧ FnG P w K mg base CX0 k f fd ps (spD K J n F) ∧ PySem.W.keepIn K (.ref f) = true ∧ Binds K fd ps [] ∧ ps.length = n
/-- x = D[e], x is called then -/
def dDisp2 (i n : Nat) (D : List (Str × FnD)) (te : TEd) (tas : TAd) : TSd := fun De ρ => te ρ fun s ρ1 => ∃ z, s = .d (.str z) ∧ ∃ F, D.lookup z = some F ∧ tas (ρ1.set i .un) fun ss ρ2 => ss.length = n ∧ F ss De.rt
section
variable {X : Cx} {L : Lay} {i k n : Nat} {q : Addr} {D : List (Str × FnD)} {x y : Str} {e a : Expr} {as : List Expr} {te : TEd} {tas : TAd} {p p1 p2 p3 p4 pos pos2 : Pos}
theorem pe_callLG {sp : Sp} {f : Addr} {fd : FuncData} {ps : List Str} {t : TA} {a : Expr} (F : FnG X.prog X.w X.K X.mg X.base CX0 k f fd ps sp) (hr : Room k X.A) (gd : X.A.guards = some []) (hN : X.N[i]? = some x) (hv : Vis X.env.scope x) (hk : PySem.W.keepIn X.K (.ref f) = true) (hb : Binds X.K fd ps [])
    (ha : PA X (a :: as) t) (hdb : (x == ("__debug__" : Str)) = false := by decide) (hcd : (x == ("__classdict__" : Str)) = false := by decide)
    (he : starEach (a :: as) X.env = (false, eval a X.env) :: starEach as X.env := by rfl) (hpl : (backTo pos (starEach as X.env)).any (·.1) = false := by rfl) : PE X (.Call (.Name x p) (a :: as) [] pos) (fun σ H Q => σ[i]? = some (some (.ref f)) ∧ t σ H fun vs H1 => sp vs H1 Q (fun _ _ _ => False)) := by
  constructor
  intro pins s σ H Q I h
  obtain ⟨hs, ht⟩ := h
  refine wpAny_Call_Name_kw (thn ((pe_var (pos := p) hN hv hdb hcd).run pins s σ H (fun v H1 => v = .ref f ∧ H1 = H) I ⟨.ref f, hs, rfl, rfl⟩) fun u s1 z => ?_)
  obtain ⟨v, H1, I1, r1, rfl, rfl⟩ := z
  cases r1
  refine PySem.W.callWith_K (h₀ := X.base) I.ok.mod.kin hk (thn (ha.run pos pins s1 σ _ _ I1 ht) fun us s2 z => ?_) he hpl
  obtain ⟨vs, H2, I2, r, q⟩ := z
  refine ⟨I2.kIn, ?_⟩
  have hl : us.length = ps.length := by rw [← r.length]; exact F.arity _ _ _ _ q
  have bb := hb s2 us I2.kIn (by simpa using hl)
  rw [List.append_nil] at bb
  refine wpAny_call (codeAny_mono (F.go X.A X.stack s2 H2 ⟨us, []⟩ us vs Q (fun _ _ _ => False) gd hr I2.env0 bb r q) fun r2 s' hq => ?_)
  match r2, hq with
  | .error e, hq => exact hq.elim
  | .ok (.ret u), hq => exact I2.after hq
  | .ok .next, hq => exact False.elim hq
  | .ok .brk, hq => exact False.elim hq
  | .ok .cont, hq => exact False.elim hq
theorem dss_disp (hK : L.K = X.K) (g : Good X) (hr : Room k X.A) (hg : Gl X y) (hm : X.mg y = some (.ref q)) (T : FTab X.prog X.w X.K X.mg X.base L.J k n q D) (hi : X.N[i]? = some x) (hx : Loc X.env.scope x) (hv : Vis X.env.scope x) (he : PE X e (tE L te)) (hs : PlainIx e) (ha : PA X (a :: as) (tA L tas))
    (hd : (y == ("__debug__" : Str)) = false := by decide) (hdb : (x == ("__debug__" : Str)) = false := by decide) (hcd : (x == ("__classdict__" : Str)) = false := by decide) (hsw : swapsWith (.Subscript (.Name y p1) e p2) (some (.Name x p3)) pos.line X.env = pure false := by rfl)
    (hf : X.fn x = true ∨ X.env.scope.names.lookup x = some .local := by first | exact .inl rfl | exact .inr rfl | assumption)
    (hst : starEach (a :: as) X.env = (false, eval a X.env) :: starEach as X.env := by rfl) (hpl : (backTo p4 (starEach as X.env)).any (·.1) = false := by rfl) :
    PSs X [.Assign [.Name x p3] (.Subscript (.Name y p1) e p2) pos, .Return (some (.Call (.Name x p) (a :: as) [] p4)) pos2] (tS L (dDisp2 i n D te tas)) := by
  constructor
  intro pins s σ H De I h
  obtain ⟨ρ, Dd, r, q0, h1, h2, h3, h4⟩ := h
  have first : PE X (.Subscript (.Name y p1) e p2) (fun σ H Q' => tE L te σ H fun v H1 => ∃ z f, v = .str z ∧ KDct X.K X.w q z (.ref f) ∧ Q' (.ref f) H1) :=
    (pe_ix ix_kdict (pe_glob (v := .ref q) hg hm rfl hd) he hs).less fun σ H Q' h => by
      obtain ⟨ρ, Q, r, q1, fin⟩ := h
      refine (show tE L te σ H _ from ⟨ρ, _, r, q1, fun v H1 s ρ1 go r1 hv q2 => ?_⟩)
      obtain ⟨z, f, rfl, kd, q3⟩ := fin v H1 s ρ1 go r1 hv q2
      exact ⟨_, z, .ref f, rfl, rfl, kd, q3⟩
  have body : ∀ f fd ps F, FnG X.prog X.w X.K X.mg X.base CX0 k f fd ps (spD X.K L.J n F) → PySem.W.keepIn X.K (.ref f) = true → Binds X.K fd ps [] → ps.length = n →
      PSs X [.Return (some (.Call (.Name x p) (a :: as) [] p4)) pos2] (fun D σ H => σ[i]? = some (some (.ref f)) ∧ tA L tas σ H fun vs H1 => spD X.K L.J n F vs H1 D.rt (fun _ _ _ => False)) := fun f fd ps F Fn hk hb hl =>
    (pss_one (ps_ret (pe_callLG (i := i) Fn hr g.gd hi hv hk hb ha hdb hcd hst hpl))).less fun D σ H h => h
  refine (pss_cons (ps_set g.nd hi hx first hsw hf) (⟨fun pins s σ H D I h => ?_⟩ : PSs X _ (fun D σ H => ∃ f fd ps F, FnG X.prog X.w X.K X.mg X.base CX0 k f fd ps (spD X.K L.J n F) ∧ PySem.W.keepIn X.K (.ref f) = true ∧ Binds X.K fd ps [] ∧ ps.length = n ∧ σ[i]? = some (some (.ref f)) ∧ tA L tas σ H fun vs H1 => spD X.K L.J n F vs H1 D.rt (fun _ _ _ => False)))).run pins s σ H De I ?_
  · obtain ⟨f, fd, ps, F, g1, g2, g3, g4, g5⟩ := h
    exact (body f fd ps F g1 g2 g3 g4).run pins s σ H D I g5
  · refine (show tE L te σ H _ from ⟨ρ, _, r, q0, fun v H1 s ρ1 go r1 hv q2 => ?_⟩)
    obtain ⟨z, rfl, F, eF, q3⟩ := q2
    have hv : Br L.K H1 v (.str z) := hv
    cases hv
    obtain ⟨f, fd, ps, k1, k2, k3, k4, k5⟩ := T.y z F eF
    have r2 : Rel L H1 (σ.set i (some (.ref f))) (ρ1.set i .un) := r1.setU i _
    have il : i < σ.length := by
      rw [I.len]
      exact (List.getElem?_eq_some_iff.mp hi).1
    refine ⟨z, f, rfl, k1, f, fd, ps, F, k2, k3, k4, k5, by rw [List.getElem?_set_self il], ρ1.set i .un, _, r2, q3, fun vs H2 ss ρ2 go2 r3 hvs q4 => ?_⟩
    refine ⟨ss, _, ?_, q4.1, q4.2, fun v H3 s sm rr q5 => ?_⟩
    · rw [← hK]; exact hvs.lay
    · exact h2 v H3 s (((go.keep r).tr (go2.keep r2)).tr (keep_of_same sm)) (r3.same.trans sm) (rr_vr r3 go2 (by rw [hK]; exact rr)).rr q5
/-- D.get(k), D a dict of the top -/
def dKGet1 (D : List (Str × PyData)) (ty : TEd) : TEd := fun ρ Q => ty ρ fun s ρ1 => ∃ z, s = .d (.str z) ∧ Q (.d ((D.lookup z).getD .none)) ρ1
theorem de_kget1 {D : List (Str × PyData)} {apos cpos : Pos} (hK : L.K = X.K) (hg : Gl X x) (hm : X.mg x = some (.ref q)) (T : DctG X.K X.w q D) (he : PE X e (tE L te)) (m : M1 X (.Name x p) "get" apos e cpos := by exact ⟨rfl, rfl, rfl, rfl⟩) (hd : (x == ("__debug__" : Str)) = false := by decide) :
    PE X (.Call (.Attribute (.Name x p) "get" apos) [e] [] cpos) (tE L (dKGet1 D te)) := by
  constructor
  intro pins s σ H Q' I h
  obtain ⟨ρ, Q, r, q0, fin⟩ := h
  have ho : PE X (.Name x p) _ := pe_glob (v := .ref q) hg hm rfl hd
  refine wpAny_Call_method m.base m.few m.line PySem.F.plainAttrs_dict PySem.F.slot_dict_get PySem.F.type_dict_get (thn (ho.run pins s σ H (fun v H1 => v = .ref q ∧ H1 = H) I ⟨rfl, rfl⟩) fun u s1 zz => ?_)
  obtain ⟨y, H1, I1, ry, rfl, rfl⟩ := zz
  obtain rfl : u = Value.ref q := ry
  obtain ⟨es0, n0, hl0, hk0⟩ : ∃ es n, X.K.lookup q = some ⟨.type "dict", none, .dict es n, #[]⟩ ∧ PySem.W.KeysLit X.w.params es.toList := by
    cases hz : D.lookup ("" : Str) with
    | some d => obtain ⟨v, ⟨es, n, u, a, b, _⟩, _⟩ := T.y ("" : Str) d hz; exact ⟨es, n, a, b⟩
    | none => obtain ⟨es, n, a, b, _⟩ := T.n ("" : Str) hz; exact ⟨es, n, a, b⟩
  have hob := I1.kIn _ _ hl0
  refine ⟨⟨_, hob, rfl⟩, fun a e => by cases e; exact ⟨_, hob, rfl⟩, ?_⟩
  rw [m.trees]
  refine wpAny_dict_get1 (knd := strKind X.prog X.w) T.o (thn (he.run pins s1 σ H1 (fun y H2 => ∃ zt, y = .str zt ∧ ∃ ρ1, Go σ ρ ρ1 H1 H2 ∧ Rel L H2 σ ρ1 ∧ Q (.d ((D.lookup zt).getD .none)) ρ1) I1 ⟨ρ, _, r, q0, fun w H2 s2 ρ1 go1 r1 hw q1 => ?_⟩) fun ku s2 zz => ?_)
  · obtain ⟨zt, rfl, q2⟩ := q1
    have hw : Br L.K H2 w (.str zt) := hw
    cases hw
    exact ⟨zt, rfl, ρ1, go1, r1, q2⟩
  obtain ⟨y, H2, I2, ry, zt, rfl, ρ1, go1, r1, q1⟩ := zz
  obtain ⟨tk, rfl⟩ := ry
  refine ⟨zt, _, strKind_is X.prog X.w zt tk, PySem.W.mapOf_K I2.kIn hl0 hk0, ?_⟩
  cases hlk : D.lookup zt with
  | none =>
    obtain ⟨es, n, a, b, c⟩ := T.n zt hlk
    rw [hl0] at a
    cases a
    rw [PySem.W.find_K hl0 c]
    rw [hlk] at q1
    exact ⟨.non, H2, I2.tok _, rfl, fin .non H2 (.d .none) ρ1 go1 r1 .non q1⟩
  | some d =>
    obtain ⟨v, ⟨es, n, u, a, b, c, ru⟩, bv⟩ := T.y zt d hlk
    rw [hl0] at a
    cases a
    rw [PySem.W.find_K hl0 c]
    rw [hlk] at q1
    exact ⟨v, H2, I2.tok _, ru, fin v H2 (.d d) ρ1 go1 r1 (by show Br L.K H2 v d; rw [hK]; exact bv H2) q1⟩
end
/-! max(i, j), min(i, j) -/
def fMax2 : FN := fun xs Q => ∃ i j : Int, xs = [.int i, .int j] ∧ Q (.d (.int (if j > i then j else i)))
def fMin2 : FN := fun xs Q => ∃ i j : Int, xs = [.int i, .int j] ∧ Q (.d (.int (if j < i then j else i)))
section
variable {X : Cx} {L : Lay}
theorem ints2 {H : Hp} {vs : List V} {i j : Int} (h : BkA L H vs [.int i, .int j]) : vs = [.int i, .int j] := by
  cases h with
  | cons h1 h2 => cases h2 with
    | cons h2 h3 =>
      cases h3; cases h1; cases h2; rfl
theorem c_max2 (hc : X.calm = true) : CallR X (.builtin "max") (rN L fMax2) := by
  intro pins s σ H vs us Q' I r ⟨xs, Q, b, ⟨i, j, e, q⟩, fin⟩
  subst e
  rw [ints2 b] at r
  exact call_max2 hc pins s σ H _ us Q' I r ⟨i, j, rfl, fin _ H (.d _) (Same.refl H) (nr_d (.int _)) q⟩
theorem c_min2 (hc : X.calm = true) : CallR X (.builtin "min") (rN L fMin2) := by
  intro pins s σ H vs us Q' I r ⟨xs, Q, b, ⟨i, j, e, q⟩, fin⟩
  subst e
  rw [ints2 b] at r
  exact call_min2 hc pins s σ H _ us Q' I r ⟨i, j, rfl, fin _ H (.d _) (Same.refl H) (nr_d (.int _)) q⟩
end
section
variable {ty te : TEd} {ρ : En} {Q : S → En → Prop} {D : EndsD}
def strK (s : S) (k : Str → Prop) : Prop := ∃ z, s = .d (.str z) ∧ k z
theorem str_d {z : Str} {k : Str → Prop} : strK (.d (.str z)) k ↔ k z := ⟨fun ⟨y, e, h⟩ => by cases e; exact h, fun h => ⟨_, rfl, h⟩⟩
theorem e_kget1 {D : List (Str × PyData)} : dKGet1 D ty ρ Q ↔ ty ρ fun s ρ1 => strK s fun z => Q (.d ((D.lookup z).getD .none)) ρ1 := Iff.rfl
theorem e_disp2 {i n : Nat} {T : List (Str × FnD)} {tas : TAd} : dDisp2 i n T te tas D ρ ↔ te ρ fun s ρ1 => strK s fun z => ∃ F, T.lookup z = some F ∧ setK (fun ρ2 => tas ρ2 fun ss ρ3 => ss.length = n ∧ F ss D.rt) ρ1 i .un := Iff.rfl
theorem f_max2 {i j : Int} {k : S → Prop} : fMax2 [.int i, .int j] k ↔ k (.d (.int (if j > i then j else i))) := ⟨fun ⟨_, _, e, h⟩ => by cases e; exact h, fun h => ⟨_, _, rfl, h⟩⟩
theorem f_min2 {i j : Int} {k : S → Prop} : fMin2 [.int i, .int j] k ↔ k (.d (.int (if j < i then j else i))) := ⟨fun ⟨_, _, e, h⟩ => by cases e; exact h, fun h => ⟨_, _, rfl, h⟩⟩
theorem e_callZ {F : FnZ} {n : Nat} {Z : Xc → En → Prop} {as : TAd} : dCallZ F n Z as ρ Q ↔ as ρ fun ss ρ1 => ss.length = n ∧ F ss (fun s => Q s ρ1) (fun x => Z x ρ1) := Iff.rfl
theorem e_callKZ {F : FnZ} {n : Nat} {gS : List S → List S} {Z : Xc → En → Prop} {as : TAd} : dCallKZ F n gS Z as ρ Q ↔ as ρ fun ss ρ1 => (gS ss).length = n ∧ F (gS ss) (fun s => Q s ρ1) (fun x => Z x ρ1) := Iff.rfl
theorem e_raiseZ {e : Ec} {Z : Xc → En → Prop} : dRaiseZ e Z te D ρ ↔ te ρ fun s ρ1 => oneK s fun y => Z (e, some y) ρ1 := Iff.rfl
theorem e_raise0 {e : Ec} {Z : Xc → En → Prop} : dRaise0 e Z D ρ ↔ Z (e, none) ρ := Iff.rfl
theorem e_tryZ {t : (Xc → En → Prop) → TSd} {cs : List ClD} : dTryZ t cs D ρ ↔ t (fun x ρ1 => dHands D x ρ1 cs) D ρ := Iff.rfl
def excK (s : S) (e : Ec) (k : Option PyData → Prop) : Prop := ∃ y, s = .ob (.exc (e, y)) ∧ k y
theorem exc_o {e : Ec} {y : Option PyData} {k : Option PyData → Prop} : excK (.ob (.exc (e, y))) e k ↔ k y := ⟨fun ⟨_, a, h⟩ => by cases a; exact h, fun h => ⟨_, rfl, h⟩⟩
theorem e_xf {i : Nat} {e : Ec} : dXf i e ρ Q ↔ atK ρ i fun s => excK s e fun p => ∃ y, p = some y ∧ Q (.d y) ρ :=
  ⟨fun ⟨y, a, h⟩ => ⟨_, a, _, rfl, y, rfl, h⟩, fun ⟨s, a, p, b, y, c, h⟩ => ⟨y, by rw [a, b, c], h⟩⟩
theorem e_isx {i : Nat} {e : Ec} : dIsx i e ρ Q ↔ atK ρ i fun s => excK s e fun _ => Q (.d (.bool true)) ρ :=
  ⟨fun ⟨y, a, h⟩ => ⟨_, a, y, rfl, h⟩, fun ⟨s, a, y, b, h⟩ => ⟨y, by rw [a, b], h⟩⟩
end
end GB

set_option maxRecDepth 100000
/-! the classes of the errors, from what is written of them; tables of defs -/
namespace GB
open PySem PySem.Spec PyProof.Rows L2
def memS (s : Stmt) (j : Nat) : Stmt := match s with
  | .ClassDef _ _ _ body _ _ _ _ _ _ _ => body.getD j (.Pass ⟨0, 0, 0, 0⟩)
  | _ => .Pass ⟨0, 0, 0, 0⟩
def oexB (K : PySem.W.Frag) (C : Addr) : Bool := match K.lookup C with
  | some ⟨.type "type", _, .cls cd, sl⟩ => (match cd.mro, sl.toList with
    | .ref C' :: bm, [_, _, _, _, some (.builtin n), _] => C' == C && n == "ValueError.__new__" && !cd.hasDel && cd.hasDict && PySem.HandSPX.refsVE bm
    | _, _ => false)
  | _ => false
theorem oex_of {K : PySem.W.Frag} {C : Addr} (q : oexB K C = true) (sa : PySem.W.findIn K (.ref C) "__setattr__" = some (some (.builtin "object.__setattr__"))) (ex : PySem.W.subIn K (.ref C) (.type "BaseException") = some true) (ty : PySem.W.typeIn K (.ref C) = some (.type "type")) (kp : PySem.W.keepIn K (.ref C) = true) : OexC K C := by
  refine ⟨?_, sa, ex, ty, kp⟩
  unfold oexB at q
  split at q
  · rename_i dd cd sl ho
    split at q
    · rename_i C' bm k0 k1 k2 k3 n k5 hm hs
      simp only [Bool.and_eq_true, beq_iff_eq, Bool.not_eq_true'] at q
      obtain ⟨⟨⟨⟨rfl, rfl⟩, hdel⟩, hdct⟩, ht⟩ := q
      obtain ⟨nm, bs, mro, ns, qn, hd, sn, sub, ab, col, del⟩ := cd
      dsimp only at hm hdel hdct
      subst hm hdel hdct
      have hsl : sl = #[k0, k1, k2, k3, some (.builtin "ValueError.__new__"), k5] := by
        obtain ⟨l⟩ := sl
        simp only at hs
        rw [hs]
      subst hsl
      exact ⟨nm, qn, ns, bs, bm, sn, sub, ab, col, dd, k0, k1, k2, k3, k5, ho, ht⟩
    · cases q
  · cases q
section
variable {P : Program} {w : World} {K : PySem.W.Frag} {mg : Str → Option Value} {base : Heap}
theorem init_ok {qual a0 a1 f : Str} {st : Stmt} {fI : Addr} {fd : FuncData} (Fn : Fun K "__init__" qual st fI fd) (S0 : FnScope [a0, a1] [a0, a1] (defScope st))
    (hbody : ∀ (cdv : Value) (A : Around) (outer : List Env) (s : Shared) (H : Hp) (E : XK), PSs (cxOf CX0 P w K mg base [a0, a1] qual (defScope st) fI cdv A outer s H E).nox (defBody st) (tOst K f (tVar 0) (tVar 1))) :
    FnOk P w K mg base CX0 1 fI fd [a0, a1] (fun vs H Q _ => ∃ a C y, vs = [V.ref a, y] ∧ H a = some (exo a C none) ∧ OexC K C ∧ PySem.W.findIn K (.ref C) f = some none ∧ ∀ dx, H dx = none → dx ≠ a → Q .non (upd (upd H dx (exd dx [(f, y)])) a (exo a C (some dx)))) := by
  refine Fn.ok S0 (fun vs H Q E h => ?_) fun cdv A outer s H vs Q E hr h => ⟨_, hbody cdv A outer s H E, ?_⟩
  · obtain ⟨a, C, y, rfl, _⟩ := h; rfl
  · obtain ⟨a, C, y, rfl, h1, h2, h3, h4⟩ := h
    exact ⟨y, rfl, .ref a, rfl, a, C, rfl, h2, h3, .inl ⟨h1, h4⟩⟩
theorem exP_mk {x f a0 a1 : Str} {C fI : Addr} {fd : FuncData} (gC : mg x = some (.ref C)) (T : OexC K C) (hno : PySem.W.findIn K (.ref C) f = some none) (h1 : PySem.W.findIn K (.ref C) "__init__" = some (some (.ref fI))) (h2 : PySem.W.typeIn K (.ref fI) = some (.type "function")) (h3 : Binds K fd [a0, a1] [])
    (h4 : FnOk P w K mg base CX0 1 fI fd [a0, a1] (fun vs H Q _ => ∃ a C y, vs = [V.ref a, y] ∧ H a = some (exo a C none) ∧ OexC K C ∧ PySem.W.findIn K (.ref C) f = some none ∧ ∀ dx, H dx = none → dx ≠ a → Q .non (upd (upd H dx (exd dx [(f, y)])) a (exo a C (some dx))))) : ExP P w K mg base x f C :=
  ⟨gC, T, hno, fI, fd, _, h1, h2, h3, h4⟩
theorem exm_of {C : Addr} {cls : Value} {b : Bool} (h1 : PySem.W.subIn K (.ref C) (.type "BaseException") = some true) (h2 : PySem.W.isClsIn K C = true) (h3 : PySem.W.typeIn K (.ref C) = some (.type "type")) (h4 : PySem.W.subIn K cls (.ref C) = some b) : PySem.W.exmOne K cls (.ref C) = some b := by
  have e1 : (PySem.W.subIn K (.ref C) (.type "BaseException") == some true) = true := by rw [h1] <;> rfl
  have e2 : ((PySem.W.clsIn K C).isSome && PySem.W.typeIn K (.ref C) == some (.type "type")) = true := by
    have h2' : (PySem.W.clsIn K C).isSome = true := h2
    rw [h2', h3] <;> rfl
  show (if (PySem.W.subIn K (.ref C) (.type "BaseException") == some true) = true then (if ((PySem.W.clsIn K C).isSome && PySem.W.typeIn K (.ref C) == some (.type "type")) = true then PySem.W.subIn K cls (.ref C) else none) else none) = some b
  rw [if_pos e1, if_pos e2]
  exact h4
variable {J : Jar} {k n : Nat} {q : Addr}
theorem ftab_nil : ∀ z (F : FnD), ([] : List (Str × FnD)).lookup z = some F → ∃ f fd ps, KDct K w q z (.ref f) ∧ FnG P w K mg base CX0 k f fd ps (spD K J n F) ∧ PySem.W.keepIn K (.ref f) = true ∧ Binds K fd ps [] ∧ ps.length = n := fun _ _ h => by cases h
theorem ftab_cons {z0 : Str} {F0 : FnD} {D : List (Str × FnD)} {f : Addr} {fd : FuncData} {ps : List Str} {j : Nat} (h1 : KDct K w q z0 (.ref f)) (h2 : FnG P w K mg base CX0 j f fd ps (spD K J n F0)) (hj : j ≤ k) (h3 : PySem.W.keepIn K (.ref f) = true) (h4 : Binds K fd ps []) (h5 : ps.length = n)
    (r : ∀ z (F : FnD), D.lookup z = some F → ∃ f fd ps, KDct K w q z (.ref f) ∧ FnG P w K mg base CX0 k f fd ps (spD K J n F) ∧ PySem.W.keepIn K (.ref f) = true ∧ Binds K fd ps [] ∧ ps.length = n) :
    ∀ z (F : FnD), ((z0, F0) :: D).lookup z = some F → ∃ f fd ps, KDct K w q z (.ref f) ∧ FnG P w K mg base CX0 k f fd ps (spD K J n F) ∧ PySem.W.keepIn K (.ref f) = true ∧ Binds K fd ps [] ∧ ps.length = n := fun z F e => by
  rw [List.lookup_cons] at e
  split at e
  · rename_i e1
    cases e
    rw [eq_of_beq e1]
    exact ⟨f, fd, ps, h1, h2.up hj, h3, h4, h5⟩
  · exact r z F e
end
end GB

set_option maxRecDepth 100000
/-! a list of one's own is lent: read by a def, not changed -/
namespace GB
open PySem PySem.Spec PyProof.Rows L2
def borJar (K : PySem.W.Frag) (J : Jar) (H0 : Hp) : Jar where
  ok := fun t a H => match t with
    | .bor xs => ∃ ws, H0 a = some (.lst ws) ∧ BrA K H0 ws xs
    | t => J.ok t a H
  keep := fun t a H H' k h => by
    cases t with
    | bor xs => exact h
    | exc x => exact J.keep (.exc x) a H H' k h
    | jar => exact J.keep .jar a H H' k h
    | scr ns => exact J.keep (.scr ns) a H H' k h
    | more n => exact J.keep (.more n) a H H' k h
def norK (s : S) (p : Prop) : Prop := (∀ xs, s ≠ .ob (.bor xs)) ∧ p
theorem nor_d {x : PyData} {p : Prop} : norK (.d x) p ↔ p := ⟨fun h => h.2, fun h => ⟨fun x e => (nomatch e), h⟩⟩
theorem nor_ow {x : Ow} {p : Prop} : norK (.ow x) p ↔ p := ⟨fun h => h.2, fun h => ⟨fun x e => (nomatch e), h⟩⟩
theorem nor_jar {p : Prop} : norK (.ob .jar) p ↔ p := ⟨fun h => h.2, fun h => ⟨fun x e => (nomatch e), h⟩⟩
abbrev FRb (L : Lay) (H : Hp) : V → S → Prop := FR ⟨L.K, borJar L.K L.J H, L.H0, L.io⟩ H
abbrev FRbs (L : Lay) (H : Hp) : List V → List S → Prop := FRs ⟨L.K, borJar L.K L.J H, L.H0, L.io⟩ H
def spB (K : PySem.W.Frag) (J : Jar) (n : Nat) (F : FnD) : Sp := fun vs H Q _ => ∃ ss R, FRs (lay K (borJar K J H) H) H vs ss ∧ ss.length = n ∧ F ss R ∧ ∀ v H' s, Same H H' → RR (lay K J H) H' v s → R s → Q v H'
theorem fr_lay {L L' : Lay} (hK : L.K = L'.K) (hJ : L.J = L'.J) {H : Hp} {v : V} {s : S} (h : FR L H v s) : FR L' H v s := by
  cases s with
  | un => exact h
  | d x => show Br L'.K H v x; rw [← hK]; exact h
  | ow x => exact h
  | ob t => obtain ⟨a, e, q⟩ := h; exact ⟨a, e, hJ ▸ q⟩
theorem frs_lay {L L' : Lay} (hK : L.K = L'.K) (hJ : L.J = L'.J) {H : Hp} {vs : List V} {ss : List S} (h : FRs L H vs ss) : FRs L' H vs ss := by
  induction h with
  | nil => exact .nil
  | cons h1 _ ih => exact .cons (fr_lay hK hJ h1) ih
section
variable {P : Program} {w : World} {K : PySem.W.Frag} {mg : Str → Option Value} {base : Heap} {J : Jar}
theorem fn_okB {f : Addr} {fd : FuncData} {x qual : Str} {st : Stmt} {N ps : List Str} {k : Nat} {F : FnD} {t : TSd} (Fn : Fun K x qual st f fd) (S0 : FnScope N ps (defScope st)) (hs : ∃ o, base.get? sysModules = some o)
    (body : ∀ (cdv : Value) (A : Around) (outer : List Env) (s : Shared) (H : Hp) (E : XK), A.guards = some [] → Room k (A.deeper (envOfC qual (defScope st) s.heap.objs.size f cdv)) → Good (cxOf CX0 P w K mg base N qual (defScope st) f cdv A outer s H E).nox →
      PSs (cxOf CX0 P w K mg base N qual (defScope st) f cdv A outer s H E).nox (defBody st) (tS (lay K (borJar K J H) H) t))
    (math : ∀ ss R, ss.length = ps.length → F ss R → t { nx := fun _ => R (.d .none), rt := fun s => norK s (R s) } (ss ++ List.replicate (N.length - ps.length) .un)) :
    FnG P w K mg base CX0 (k + 1) f fd ps (spB K J ps.length F) := by
  refine fng_nox Fn S0 (fun vs H Q E h => ?_) fun cdv A outer s H vs Q E hg hr h => ?_
  · obtain ⟨ss, R, fr, hl, _⟩ := h
    rw [fr.len, hl]
  · obtain ⟨ss, R, fr, hl, hF, fin⟩ := h
    refine ⟨_, body cdv A outer s H E hg hr (good_of hs S0.nd hg hr), ss ++ List.replicate (N.length - ps.length) .un, { nx := fun _ => R (.d .none), rt := fun s => norK s (R s) }, ?_, math ss R hl hF, fun σ' H' ρ' k r n => ?_, fun v H' s k sm rr n => fin v H' s sm ?_ n.2, fun _ _ _ _ _ n => n, fun _ _ _ _ _ n => n⟩
    · have hv := fr.len
      unfold L2.start
      rw [hv, hl]
      exact brA_start fr rfl
    · exact fin .non H' (.d .none) r.same .non n
    · cases s with
      | un => exact rr
      | d x => exact rr
      | ow xs => cases xs <;> exact rr
      | ob t =>
        obtain ⟨b, e, q⟩ := rr
        cases t with
        | bor xs => exact (n.1 xs rfl).elim
        | exc x => exact ⟨b, e, q⟩
        | jar => exact ⟨b, e, q⟩
        | scr ns => exact ⟨b, e, q⟩
        | more n => exact ⟨b, e, q⟩
end
/-! the caller's side -/
def tAB (L : Lay) (t : TAd) : TA := fun σ H Q' => ∃ ρ Q, Rel L H σ ρ ∧ t ρ Q ∧ ∀ vs H' ss ρ', Go σ ρ ρ' H H' → Rel L H' σ ρ' → FRbs L H' vs ss → Q ss ρ' → Q' vs H'
def dConsN (te : TEd) (ta : TAd) : TAd := fun ρ Q => te ρ fun s ρ1 => s.firm ∧ norK s (ta ρ1 fun ss ρ2 => Q (s :: ss) ρ2)
def dConsB (i : Nat) (ta : TAd) : TAd := fun ρ Q => (∃ ys, ρ[i]? = some (.own ys)) ∧ ta ρ fun ss ρ1 => ∃ xs, ρ1[i]? = some (.own xs) ∧ Q (.ob (.bor xs) :: ss) ρ1
def dCallB (F : FnD) (n : Nat) (ta : TAd) : TEd := fun ρ Q => ta ρ fun ss ρ1 => ss.length = n ∧ F ss fun s => Q s ρ1
theorem frb_of {L : Lay} {H H2 : Hp} {v : V} {s : S} (n : ∀ xs, s ≠ .ob (.bor xs)) (h : FR L H v s) : FR ⟨L.K, borJar L.K L.J H2, L.H0, L.io⟩ H v s := by
  cases s with
  | un => exact h
  | d x => exact h
  | ow x => exact h
  | ob t =>
    obtain ⟨b, e, q⟩ := h
    cases t with
    | bor xs => exact (n xs rfl).elim
    | exc x => exact ⟨b, e, q⟩
    | jar => exact ⟨b, e, q⟩
    | scr ns => exact ⟨b, e, q⟩
    | more n => exact ⟨b, e, q⟩
section
variable {X : Cx} {L : Lay} {e : Expr} {es : List Expr} {te : TEd} {tas : TAd} {F : FnD} {x : Str} {f : Addr} {fd : FuncData} {ps : List Str} {k i : Nat} {p pos : Pos} {CX : CXT} {E : XK}
theorem dab_nil : PA X [] (tAB L dNil) := pa_nil.less fun σ H Q' h => by
  obtain ⟨ρ, Q, r, q, fin⟩ := h
  exact fin [] H [] ρ Go.rf r .nil q
theorem dab_cons (h : PE X e (tE L te)) (hr : PA X es (tAB L tas)) (hs : starEach (e :: es) X.env = (false, eval e X.env) :: starEach es X.env := by rfl) : PA X (e :: es) (tAB L (dConsN te tas)) :=
  (pa_cons h hr hs).less fun σ H Q' h => by
    obtain ⟨ρ, Q, r, q, fin⟩ := h
    refine ⟨ρ, _, r, q, fun v H1 s ρ1 go r1 hv q1 => ?_⟩
    obtain ⟨fm, nb, q2⟩ := q1
    refine ⟨ρ1, _, r1, q2, fun vs H2 ss ρ2 go2 r2 hvs q3 => ?_⟩
    exact fin (v :: vs) H2 (s :: ss) ρ2 (go.tr go2) r2 (.cons (frb_of nb ((fr_of fm hv).keep (go2.keep r1))) hvs) q3
theorem dab_var (h : PE X e (tVar i)) (hr : PA X es (tAB L tas)) (hs : starEach (e :: es) X.env = (false, eval e X.env) :: starEach es X.env := by rfl) : PA X (e :: es) (tAB L (dConsB i tas)) :=
  (pa_cons h hr hs).less fun σ H Q' h => by
    obtain ⟨ρ, Q, r, ⟨⟨ys, ey⟩, q⟩, fin⟩ := h
    obtain ⟨l, ws, h1, h2, h3, _⟩ := r.getO ey
    refine ⟨.ref l, h1, ρ, _, r, q, fun vs H2 ss ρ2 go2 r2 hvs q3 => ?_⟩
    obtain ⟨xs, ex, q4⟩ := q3
    obtain ⟨l', us, k1, k2, k3, _⟩ := r2.getO ex
    rw [h1] at k1; cases k1
    exact fin (.ref l :: vs) H2 (.ob (.bor xs) :: ss) ρ2 go2 r2 (.cons ⟨l, rfl, us, k2, k3⟩ hvs) q4
theorem de_callB_ (hK : L.K = X.K) (Fn : FnG X.prog X.w X.K X.mg X.base CX k f fd ps (spB X.K L.J ps.length F)) (hr : Room k X.A) (g : Good X) (hg : Gl X x) (hm : X.mg x = some (.ref f)) (hk : PySem.W.keepIn X.K (.ref f) = true) (hb : Binds X.K fd ps [])
    (hx : Passes CX X E) (ha : PA X (e :: es) (tAB L tas)) (hdb : (x == ("__debug__" : Str)) = false := by decide) (he : starEach (e :: es) X.env = (false, eval e X.env) :: starEach es X.env := by rfl)
    (hpl : (backTo pos (starEach es X.env)).any (·.1) = false := by rfl) : PE X (.Call (.Name x p) (e :: es) [] pos) (tE L (dCallB F ps.length tas)) :=
  (g_call Fn hr g.gd hg hm hk hb hx ha hdb he hpl).less fun σ H Q' h => by
    obtain ⟨ρ, Q, r, q, fin⟩ := h
    refine ⟨ρ, _, r, q, fun vs H1 ss ρ1 go r1 hv q1 => ?_⟩
    show spB X.K L.J ps.length F (vs ++ []) H1 Q' E
    rw [List.append_nil]
    refine ⟨ss, _, ?_, q1.1, q1.2, fun v H2 s sm rr q2 => fin v H2 s ρ1 (go.tr (Go.sm sm)) (r1.go sm) (rr_vr r1 go (by rw [hK]; exact rr)) q2⟩
    exact frs_lay (L := ⟨L.K, borJar L.K L.J H1, L.H0, L.io⟩) hK (by rw [hK]) hv
end
/-! the def's side -/
def IsBor (L : Lay) : Prop := ∀ xs a H, L.J.ok (.bor xs) a H → ∃ ws, L.H0 a = some (.lst ws) ∧ BrA L.K L.H0 ws xs
theorem isBor {K : PySem.W.Frag} {J : Jar} {H : Hp} : IsBor (lay K (borJar K J H) H) := fun _ _ _ h => h
theorem pk_bor {L : Lay} (hB : IsBor L) {H : Hp} {σ : L2.St} {ρ : En} (r : Rel L H σ ρ) {i : Nat} {xs : List PyData} (h : ρ[i]? = some (.ob (.bor xs))) : ∃ v, σ[i]? = some (some v) ∧ Bk L H v (.list xs) := by
  obtain ⟨o, e, a, e2, q⟩ := r.get h
  obtain ⟨ws, h1, h2⟩ := hB xs a H q
  exact ⟨.ref a, by rw [e, e2], a, ws, rfl, .inl (r.same _ _ h1), BrA.keep (keep_of_same r.same) _ _ h2⟩
def dBoL (i : Nat) (f : F2) (tb : TEd) : TEd := fun ρ Q => (∃ ys, ρ[i]? = some (.ob (.bor ys))) ∧ tb ρ fun s2 ρ2 => ∃ xs y, ρ2[i]? = some (.ob (.bor xs)) ∧ s2 = .d y ∧ f (.list xs) y fun s => Q s ρ2
def dBoR (f : F2) (ta : TEd) (i : Nat) : TEd := fun ρ Q => ta ρ fun s1 ρ1 => ∃ x ys, s1 = .d x ∧ ρ1[i]? = some (.ob (.bor ys)) ∧ f x (.list ys) fun s => Q s ρ1
def dBoN1 (f : FN) (i : Nat) : TEd := fun ρ Q => ∃ xs, ρ[i]? = some (.ob (.bor xs)) ∧ f [.list xs] fun s => Q s ρ
section
variable {X : Cx} {L : Lay} {a b : Expr} {ta tb : TEd} {i : Nat} {pos p : Pos} {cop : CmpOp} {f : F2} {fn : FN} {x : Str}
theorem tE_boL (hB : IsBor L) {r : R2} {f : F2} {i : Nat} (hr : ∀ v u H Q, rD L f v u H Q → r v u H Q) : ∀ σ H Q, tE L (dBoL i f tb) σ H Q → tOp r (tVar i) (tE L tb) σ H Q := fun σ H Q' h => by
  obtain ⟨ρ, Q, r0, ⟨⟨ys, ey⟩, q⟩, fin⟩ := h
  obtain ⟨v, h1, _⟩ := pk_bor hB r0 ey
  refine ⟨_, h1, ρ, _, r0, q, fun u H2 s2 ρ2 k2 r2 hu q2 => ?_⟩
  obtain ⟨xs, y, ex, rfl, q3⟩ := q2
  obtain ⟨v', h2, hv⟩ := pk_bor hB r2 ex
  rw [h1] at h2; cases h2
  exact hr _ _ _ _ ⟨.list xs, y, _, hv, Bk.of hu, q3, fun w H3 s3 sm nr q4 => fin w H3 s3 ρ2 (k2.tr (Go.sm sm)) (r2.go sm) (nr.vr r2 sm k2) q4⟩
theorem tE_boR (hB : IsBor L) {r : R2} {f : F2} {i : Nat} (hr : ∀ v u H Q, rD L f v u H Q → r v u H Q) : ∀ σ H Q, tE L (dBoR f ta i) σ H Q → tOp r (tE L ta) (tVar i) σ H Q := fun σ H Q' h => by
  obtain ⟨ρ, Q, r0, q, fin⟩ := h
  refine ⟨ρ, _, r0, q, fun v H1 s ρ1 k1 r1 hv q1 => ?_⟩
  obtain ⟨x, ys, rfl, ey, q3⟩ := q1
  obtain ⟨u, h2, hu⟩ := pk_bor hB r1 ey
  exact ⟨u, h2, hr _ _ _ _ ⟨x, .list ys, _, Bk.of hv, hu, q3, fun w H3 s3 sm nr q4 => fin w H3 s3 ρ1 (k1.tr (Go.sm sm)) (r1.go sm) (nr.vr r1 sm k1) q4⟩⟩
theorem tE_boN1 (hB : IsBor L) {r : List V → Hp → VK → Prop} {f : FN} {i : Nat} (hr : ∀ v H Q, rN L f v H Q → r v H Q) : ∀ σ H Q, tE L (dBoN1 f i) σ H Q → tCB r (tCons (tVar i) tNil) σ H Q := fun σ H Q' h => by
  obtain ⟨ρ, Q, r0, ⟨xs, ex, q⟩, fin⟩ := h
  obtain ⟨v, h1, hv⟩ := pk_bor hB r0 ex
  exact ⟨v, h1, hr _ _ _ ⟨[.list xs], _, .cons hv .nil, q, fun w H2 s sm nr q3 => fin w H2 s ρ (Go.sm sm) (r0.go sm) (nr.vr r0 sm Go.rf) q3⟩⟩
theorem de_cmpBoL (hB : IsBor L) (ho : OpR X (compareOp cop) (rD L f)) (hx : PE X a (tVar i)) (hb : PE X b (tE L tb)) (hm : behindInMarks cop b = false) : PE X (.Compare a [cop] [b] pos) (tE L (dBoL i f tb)) := (pe_cmpR ho hx hb hm).less (tE_boL hB fun _ _ _ _ q => q)
theorem dt_cmpBoL (hB : IsBor L) (ho : OpR X (compareOp cop) (rD L f)) (hx : PE X a (tVar i)) (hb : PE X b (tE L tb)) (hm : behindInMarks cop b = false) : PT X (.Compare a [cop] [b] pos) (tT L (dB (dBoL i f tb))) := (pt_cmpR ho hx hb hm).less (tT_of (tE_boL hB fun _ _ _ _ q => q))
theorem de_cmpBoR (hB : IsBor L) (ho : OpR X (compareOp cop) (rD L f)) (ha : PE X a (tE L ta)) (hx : PE X b (tVar i)) (hm : behindInMarks cop b = false) : PE X (.Compare a [cop] [b] pos) (tE L (dBoR f ta i)) := (pe_cmpR ho ha hx hm).less (tE_boR hB fun _ _ _ _ q => q)
theorem dt_cmpBoR (hB : IsBor L) (ho : OpR X (compareOp cop) (rD L f)) (ha : PE X a (tE L ta)) (hx : PE X b (tVar i)) (hm : behindInMarks cop b = false) : PT X (.Compare a [cop] [b] pos) (tT L (dB (dBoR f ta i))) := (pt_cmpR ho ha hx hm).less (tT_of (tE_boR hB fun _ _ _ _ q => q))
theorem de_ixBo (hB : IsBor L) (ho : IxR X (rD L f)) (hx : PE X a (tVar i)) (hb : PE X b (tE L tb)) (hs : PlainIx b) : PE X (.Subscript a b pos) (tE L (dBoL i f tb)) := (pe_ix ho hx hb hs).less (tE_boL hB fun _ _ _ _ q => q)
theorem de_callBoB1 {id : String} (hB : IsBor L) (hc : CallR X (.builtin id) (rN L fn)) (hg : Gl X x) (hm : X.mg x = none) (hv : bootBuiltins x = some (.builtin id)) (hx : PE X a (tVar i)) (hn : x ≠ "__name__" := by decide) (hdb : (x == ("__debug__" : Str)) = false := by decide)
    (h1 : starEach (a :: []) X.env = (false, eval a X.env) :: starEach [] X.env := by rfl) (hpl : (backTo pos (starEach [] X.env)).any (·.1) = false := by rfl) : PE X (.Call (.Name x p) [a] [] pos) (tE L (dBoN1 fn i)) := (pe_callB hc hg hm hv (pa_cons hx pa_nil h1) hn hdb h1 hpl).less (tE_boN1 hB fun _ _ _ q => q)
theorem de_callBoT1 {T : String} (hB : IsBor L) (hc : CallR X (.type T) (rN L fn)) (hg : Gl X x) (hm : X.mg x = none) (hv : bootBuiltins x = some (.type T)) (hx : PE X a (tVar i)) (hn : x ≠ "__name__" := by decide) (hdb : (x == ("__debug__" : Str)) = false := by decide)
    (h1 : starEach (a :: []) X.env = (false, eval a X.env) :: starEach [] X.env := by rfl) (hpl : (backTo pos (starEach [] X.env)).any (·.1) = false := by rfl) : PE X (.Call (.Name x p) [a] [] pos) (tE L (dBoN1 fn i)) := (pe_callTy hc hg hm hv (pa_cons hx pa_nil h1) hn hdb h1 hpl).less (tE_boN1 hB fun _ _ _ q => q)
end
section
variable {te tb ta : TEd} {tas as : TAd} {ρ : En} {Q : S → En → Prop} {QA : List S → En → Prop} {i : Nat} {f : F2} {fn : FN}
def borK (s : S) (k : List PyData → Prop) : Prop := ∃ xs, s = .ob (.bor xs) ∧ k xs
theorem bor_o {xs : List PyData} {k : List PyData → Prop} : borK (.ob (.bor xs)) k ↔ k xs := ⟨fun ⟨_, a, h⟩ => by cases a; exact h, fun h => ⟨_, rfl, h⟩⟩
theorem e_boL : dBoL i f tb ρ Q ↔ (atK ρ i fun o => borK o fun _ => tb ρ fun s2 ρ2 => oneK s2 fun y => atK ρ2 i fun o => borK o fun xs => f (.list xs) y fun s => Q s ρ2) := by
  have e : (fun (s2 : S) (ρ2 : En) => ∃ xs y, ρ2[i]? = some (.ob (.bor xs)) ∧ s2 = .d y ∧ f (.list xs) y fun s => Q s ρ2) = fun s2 ρ2 => oneK s2 fun y => atK ρ2 i fun o => borK o fun xs => f (.list xs) y fun s => Q s ρ2 := by
    funext s2 ρ2
    exact propext ⟨fun ⟨xs, y, a, b, h⟩ => ⟨y, b, _, a, xs, rfl, h⟩, fun ⟨y, b, _, a, xs, e, h⟩ => ⟨xs, y, e ▸ a, b, h⟩⟩
  unfold dBoL
  rw [e]
  exact ⟨fun ⟨⟨ys, a⟩, h⟩ => ⟨_, a, ys, rfl, h⟩, fun ⟨_, a, ys, e, h⟩ => ⟨⟨ys, e ▸ a⟩, h⟩⟩
theorem e_boR : dBoR f ta i ρ Q ↔ ta ρ fun s1 ρ1 => oneK s1 fun x => atK ρ1 i fun o => borK o fun ys => f x (.list ys) fun s => Q s ρ1 := by
  have e : (fun (s1 : S) (ρ1 : En) => ∃ x ys, s1 = .d x ∧ ρ1[i]? = some (.ob (.bor ys)) ∧ f x (.list ys) fun s => Q s ρ1) = fun s1 ρ1 => oneK s1 fun x => atK ρ1 i fun o => borK o fun ys => f x (.list ys) fun s => Q s ρ1 := by
    funext s1 ρ1
    exact propext ⟨fun ⟨x, ys, a, b, h⟩ => ⟨x, a, _, b, ys, rfl, h⟩, fun ⟨x, a, _, b, ys, e, h⟩ => ⟨x, ys, a, e ▸ b, h⟩⟩
  unfold dBoR
  rw [e]
theorem e_boN1 : dBoN1 fn i ρ Q ↔ atK ρ i fun o => borK o fun xs => fn [.list xs] fun s => Q s ρ := ⟨fun ⟨xs, a, h⟩ => ⟨_, a, xs, rfl, h⟩, fun ⟨_, a, xs, e, h⟩ => ⟨xs, e ▸ a, h⟩⟩
theorem e_consN : dConsN te tas ρ QA ↔ te ρ fun s ρ1 => s.firm ∧ norK s (tas ρ1 fun ss ρ2 => QA (s :: ss) ρ2) := Iff.rfl
theorem e_consB : dConsB i tas ρ QA ↔ atK ρ i fun o => ownK o fun _ => tas ρ fun ss ρ1 => atK ρ1 i fun o => ownK o fun xs => QA (.ob (.bor xs) :: ss) ρ1 := by
  have e : (fun (ss : List S) (ρ1 : En) => ∃ xs, ρ1[i]? = some (.own xs) ∧ QA (.ob (.bor xs) :: ss) ρ1) = fun ss ρ1 => atK ρ1 i fun o => ownK o fun xs => QA (.ob (.bor xs) :: ss) ρ1 := by
    funext ss ρ1
    exact propext ⟨fun ⟨xs, a, h⟩ => ⟨_, a, xs, rfl, h⟩, fun ⟨_, a, xs, e, h⟩ => ⟨xs, e ▸ a, h⟩⟩
  unfold dConsB
  rw [e]
  exact ⟨fun ⟨⟨ys, a⟩, h⟩ => ⟨_, a, ys, rfl, h⟩, fun ⟨_, a, ys, e, h⟩ => ⟨⟨ys, e ▸ a⟩, h⟩⟩
theorem e_callB {F : FnD} {n : Nat} : dCallB F n as ρ Q ↔ as ρ fun ss ρ1 => ss.length = n ∧ F ss fun s => Q s ρ1 := Iff.rfl
end
end GB

set_option maxRecDepth 100000
/-! a store that is a dict of a list and two numbers, made at once; the script's length -/
namespace GB
open PySem PySem.Spec PyProof.Rows L2
def dJarRet (t0 t1 t2 : TEd) : TSd := fun D ρ => t0 ρ fun s0 ρ1 => ∃ is : List Int, s0 = .own (is.map .int) ∧ t1 ρ1 fun s1 ρ2 => ∃ n1 : Int, s1 = .d (.int n1) ∧ t2 ρ2 fun s2 _ => ∃ n2 : Int, s2 = .d (.int n2) ∧ D.rt (.ob .jar)
section
variable {X : Cx} {L : Lay} {nd k1 k2 : Str} {e0 e1 e2 : Expr} {t0 t1 t2 : TEd} {j0 j1 j2 : Nat} {p0 p1 p2 p3 pos : Pos}
theorem ds_jarRet (hJ : ∀ a H, StoOk X.prog X.w nd [k1, k2] a H → L.J.ok .jar a H) (n01 : nd ≠ k1) (n02 : nd ≠ k2) (n12 : k1 ≠ k2) (h0 : PE X e0 (tE L t0)) (h1 : PE X e1 (tE L t1)) (h2 : PE X e2 (tE L t2)) :
    PS X (.Return (some (.Dict [some (.Constant (.str nd) j0 p0), some (.Constant (.str k1) j1 p1), some (.Constant (.str k2) j2 p2)] [e0, e1, e2] p3)) pos) (tS L (dJarRet t0 t1 t2)) :=
  (ps_ret (pe_closed (nd := nd) (ks := [k1, k2]) (pe_disp (pps_cons pe_str h0 (pps_cons pe_str h1 (pps_cons pe_str h2 pps_nil))) rfl rfl (by simp) (by simp)))).less fun D σ H q => by
    obtain ⟨ρ, De, r, q, n1, nr, n3, n4⟩ := q
    intro p hp
    have sp := same_new (o := .dK []) hp
    have r0 := r.go sp
    have h0p : L.H0 p = none := r.same.free hp
    have still : ∀ {ρ' : En} {H' : Hp}, Go σ ρ ρ' (upd H p (.dK [])) H' → H' p = some (.dK []) := fun go => go.stay p _ upd_same fun i ys e z => by
      obtain ⟨l', vs', q1, q2, _⟩ := r.getW e
      rw [z] at q1; cases q1
      rw [hp] at q2; cases q2
    refine ⟨ρ, _, r0, q, fun v0 H1 s0 ρ1 g1 r1 hv0 q1 => ?_⟩
    obtain ⟨is, rfl, q1⟩ := q1
    refine ⟨ρ1, _, r1, q1, fun v1 H2 s1 ρ2 g2 r2 hv1 q2 => ?_⟩
    obtain ⟨m1, rfl, q2⟩ := q2
    have hv1 : Br L.K H2 v1 (.int m1) := hv1
    cases hv1
    refine ⟨ρ2, _, r2, q2, fun v2 H3 s2 ρ3 g3 r3 hv2 q3 => ?_⟩
    obtain ⟨m2, rfl, q3⟩ := q3
    have hv2 : Br L.K H3 v2 (.int m2) := hv2
    cases hv2
    have a0 := hv0.later r0 g1 r1 (g2.tr g3)
    obtain ⟨⟨l, vs, rfl, b0, b1, b2⟩, b3⟩ := a0
    obtain rfl := br_ints b1
    have hp3 := still ((g1.tr g2).tr g3)
    have lp : l ≠ p := fun z => by rw [z, hp3] at b0; cases b0
    refine ⟨hp3, [(.inr nd, .ref l), (.inr k1, .int m1), (.inr k2, .int m2)], rfl, by simp, p, l, _, is, ⟨upd_same, by rw [upd_ne lp]; exact b0, ?_⟩, ?_⟩
    · show KvOk nd [k1, k2] l (putK (putK (putK [] (.inr nd) (.ref l)) (.inr k1) (.int m1)) (.inr k2) (.int m2))
      have i01 : (Sum.inr nd : Key) ≠ .inr k1 := fun z => n01 (Sum.inr.inj z)
      have i02 : (Sum.inr nd : Key) ≠ .inr k2 := fun z => n02 (Sum.inr.inj z)
      have i12 : (Sum.inr k1 : Key) ≠ .inr k2 := fun z => n12 (Sum.inr.inj z)
      refine ⟨?_, ?_, fun k hk => ?_⟩
      · have x1 := length_putK (putK (putK [] (Sum.inr nd : Key) (.ref l)) (.inr k1) (.int m1)) (.inr k2) (.int m2)
        have x2 := length_putK (putK [] (Sum.inr nd : Key) (.ref l)) (.inr k1) (.int m1)
        have x3 := length_putK ([] : List (Key × V)) (.inr nd) (.ref l)
        simp at x3; omega
      · rw [valV_put, if_neg (by simpa using i02), valV_put, if_neg (by simpa using i01), valV_put, if_pos rfl]
      · have hk : k = k1 ∨ k = k2 := by simpa using hk
        rcases hk with rfl | rfl
        · exact ⟨m1, by rw [valV_put, if_neg (by simpa using i12), valV_put, if_pos rfl]⟩
        · exact ⟨m2, by rw [valV_put, if_pos rfl]⟩
    · have sk : ∀ b, b ≠ p → b ≠ l → cls X.prog X.w nd [k1, k2] (upd H3 p (.dK (mergeK [] [((Sum.inr nd : Key), V.ref l), (.inr k1, .int m1), (.inr k2, .int m2)]))) p l b = H3 b := fun b z1 z2 => by
        unfold cls
        rw [upd_ne z2, upd_ne z1, upd_ne z1]
      refine nr (.ref p) _ (.ob .jar) (fun b o hb f => ?_) (fun b o hb => ?_) ⟨p, rfl, hJ _ _ ⟨l, ?_, ?_, lp⟩⟩ q3
      · have z1 : b ≠ p := fun z => by rw [z, hp] at hb; cases hb
        have h3 := (((g1.tr g2).tr g3).keep r0) b o (by rw [upd_ne z1]; exact hb) f
        have z2 : b ≠ l := fun z => by rw [z, b0] at h3; cases h3; exact f
        rw [sk b z1 z2]; exact h3
      · have h3 := r3.same b o hb
        have z1 : b ≠ p := fun z => by rw [z, h0p] at hb; cases hb
        have z2 : b ≠ l := fun z => by rw [z, b2] at hb; cases hb
        rw [sk b z1 z2]; exact h3
      · unfold cls
        rw [upd_ne (Ne.symm lp), upd_same]
      · unfold cls; rw [upd_same]
/-- len(script) -/
def dScrN (i : Nat) : TEd := fun ρ Q => ∃ ns, ρ[i]? = some (.ob (.scr ns)) ∧ Q (.d (.int (ns.length : Nat))) ρ
theorem de_scrN {i : Nat} {o : Expr} {p : Pos} (hK : L.K = X.K) (hS : ∀ a ns H, L.J.ok (.scr ns) a H → ScrOk L.K a ns H) (hg : Gl X "len") (hm : X.mg "len" = none) (ho : PE X o (tVar i)) (hs : starEach [o] X.env = (false, eval o X.env) :: starEach [] X.env := by rfl) (hpl : (backTo pos (starEach [] X.env)).any (·.1) = false := by rfl) :
    PE X (.Call (.Name "len" p) [o] [] pos) (tE L (dScrN i)) :=
  (pe_callB call_len_seq hg hm (by decide +kernel) (pa_cons ho pa_nil hs) (by decide) (by decide) hs hpl).less fun σ H Q' q => by
    obtain ⟨ρ, Q, r, ⟨ns, ej, q⟩, fin⟩ := q
    obtain ⟨o, e2, a, rfl, ja⟩ := r.get ej
    have sq := sq_scr (hS a ns H ja)
    rw [hK] at sq
    refine ⟨.ref a, e2, a, ns.map V.int, rfl, .inl sq, ?_⟩
    rw [List.length_map]
    exact fin _ H (.d (.int (ns.length : Nat))) ρ Go.rf r (.int _) q
end
section
variable {t0 t1 t2 : TEd} {ρ : En} {Q : S → En → Prop} {D : EndsD} {i : Nat}
def ownIK (s : S) (k : List Int → Prop) : Prop := ∃ is : List Int, s = .own (is.map .int) ∧ k is
theorem owni_o {is : List Int} {k : List Int → Prop} : k is → ownIK (.own (is.map .int)) k := fun h => ⟨_, rfl, h⟩
theorem e_jarRet : dJarRet t0 t1 t2 D ρ ↔ t0 ρ fun s0 ρ1 => ownIK s0 fun _ => t1 ρ1 fun s1 ρ2 => intK s1 fun _ => t2 ρ2 fun s2 _ => intK s2 fun _ => D.rt (.ob .jar) := Iff.rfl
def scrK (s : S) (k : List Int → Prop) : Prop := ∃ ns, s = .ob (.scr ns) ∧ k ns
theorem scr_o {ns : List Int} {k : List Int → Prop} : scrK (.ob (.scr ns)) k ↔ k ns := ⟨fun ⟨_, a, h⟩ => by cases a; exact h, fun h => ⟨_, rfl, h⟩⟩
theorem e_scrN : dScrN i ρ Q ↔ atK ρ i fun s => scrK s fun ns => Q (.d (.int (ns.length : Nat))) ρ := ⟨fun ⟨ns, a, h⟩ => ⟨_, a, ns, rfl, h⟩, fun ⟨_, a, ns, e, h⟩ => ⟨ns, e ▸ a, h⟩⟩
theorem e_scr {k : Int} : dScr i k ρ Q ↔ atK ρ i fun s => scrK s fun ns => Q (.own ((cutD ns none (some k)).map .int)) ρ := ⟨fun ⟨ns, a, h⟩ => ⟨_, a, ns, rfl, h⟩, fun ⟨_, a, ns, e, h⟩ => ⟨ns, e ▸ a, h⟩⟩
end
end GB

set_option maxRecDepth 100000
/-! sorted over a list of data that are alike -/
namespace GB
open PySem PySem.Spec PyProof.Rows L2
def fSortT : FN := fun xs Q => ∃ ds : List PyData, xs = [.list ds] ∧ PySem.W.AllAlike ds ∧ PySem.W.Sortable ds ∧ (∀ d ∈ ds, d.depth ≤ 20) ∧ Q (.own (ds.mergeSort (PySem.W.dataLe false id)))
theorem each_br {K : PySem.W.Frag} {H : Hp} : ∀ {ds : List PyData} {vs : List V} {us : List Value}, BrA K H vs ds → Vals vs us → PySem.W.EachIs (fun u d => ∃ v, RelV v u ∧ Br K H v d) us ds
  | _, _, _, .nil, .nil => .nil
  | _, _, _, .cons b bs, .cons r rs => .cons ⟨_, r, b⟩ (each_br bs rs)
theorem br_each {K : PySem.W.Frag} {H : Hp} : ∀ {us : List Value} {ds : List PyData}, PySem.W.EachIs (fun u d => ∃ v, RelV v u ∧ Br K H v d) us ds → ∃ vs, Vals vs us ∧ BrA K H vs ds
  | _, _, .nil => ⟨[], .nil, .nil⟩
  | _, _, .cons ⟨v, r, b⟩ t => by
    obtain ⟨vs, rs, bs⟩ := br_each t
    exact ⟨v :: vs, .cons r rs, .cons b bs⟩
theorem c_sortedT {X : Cx} {L : Lay} (hK : L.K = X.K) (g : Good X) : CallR X (.builtin "sorted") (rN L fSortT) := by
  intro pins s σ H vs us Q' I r q
  obtain ⟨xs, Q, b, ⟨ds, rfl, hal, hso, hdp, q⟩, fin⟩ := q
  obtain ⟨v, rfl, b1⟩ := brA1 hK b
  obtain ⟨a, ws, rfl, h1, h3⟩ := list_sq hK b1
  obtain ⟨its, rv, ⟨o, n, e1, e2, _, e3⟩, hz⟩ := I.list h1
  rw [Vals.ref1 r]
  have hl : s.heap.IsList a its.toArray := ⟨o, e1, e2, n, e3⟩
  obtain ⟨as, rd, ns⟩ := BrA.reads I ds ws its (hK ▸ h3) rv
  have ee := each_br h3 rv
  have hlen : ds.length = its.length := by rw [ee.length]
  have er : PySem.W.EachIs (fun v d => ∃ as, Reads s.heap v (id d) as) its ds := PySem.W.readsAll_each id (by rw [List.map_id]; exact rd)
  have un := g.un
  refine PySem.W.sorted_data (enc := id) hl ee er (by rw [List.map_id]; exact hal) (by rw [List.map_id]; exact hso) (by rw [hlen, ← rv.length]; exact hz) (fun d hd => by have := hdp d hd; show _ + d.depth < _; omega) fun out ho he => ?_
  obtain ⟨zs, rz, bz⟩ := br_each he
  obtain ⟨ep, he'⟩ := PyProof.Rows.sortedAll_at s.heap its out.toArray
  have hz' : zs.length ≤ sizeLine := by rw [rz.length, ho, hlen, ← rv.length]; exact hz
  refine ⟨.ref _, upd H (s.heap.objs.size + 1) (.lst zs), I.laid (t' := s.toks) (fun _ _ => PyProof.Rows.sortedAll_old) (Nat.le_succ _) ⟨hz', out, ep, rz, he'⟩, rfl, ?_⟩
  have hl := I.hok.fresh (Nat.le_succ s.heap.objs.size)
  exact fin _ _ (.own _) (same_new hl) ⟨_, _, rfl, hl, upd_same, BrA.keep (keep_of_same (same_new hl)) _ _ bz⟩ q
theorem f_sortT {ds : List PyData} {k : S → Prop} : fSortT [.list ds] k ↔ PySem.W.AllAlike ds ∧ PySem.W.Sortable ds ∧ (∀ d ∈ ds, d.depth ≤ 20) ∧ k (.own (ds.mergeSort (PySem.W.dataLe false id))) := ⟨fun ⟨_, e, h⟩ => by cases e; exact h, fun h => ⟨_, rfl, h⟩⟩
theorem at16 {a0 a1 a2 a3 a4 a5 a6 a7 a8 a9 a10 a11 a12 a13 a14 a15 a16 : S} {r : En} {k : S → Prop} : atK (a0 :: a1 :: a2 :: a3 :: a4 :: a5 :: a6 :: a7 :: a8 :: a9 :: a10 :: a11 :: a12 :: a13 :: a14 :: a15 :: a16 :: r) 16 k ↔ k a16 := ⟨fun ⟨s, e, h⟩ => by cases e; exact h, fun h => ⟨_, rfl, h⟩⟩
theorem set16 {a0 a1 a2 a3 a4 a5 a6 a7 a8 a9 a10 a11 a12 a13 a14 a15 a16 : S} {r : En} {s : S} {f : En → Prop} : setK f (a0 :: a1 :: a2 :: a3 :: a4 :: a5 :: a6 :: a7 :: a8 :: a9 :: a10 :: a11 :: a12 :: a13 :: a14 :: a15 :: a16 :: r) 16 s ↔ f (a0 :: a1 :: a2 :: a3 :: a4 :: a5 :: a6 :: a7 :: a8 :: a9 :: a10 :: a11 :: a12 :: a13 :: a14 :: a15 :: s :: r) := Iff.rfl
theorem at17 {a0 a1 a2 a3 a4 a5 a6 a7 a8 a9 a10 a11 a12 a13 a14 a15 a16 a17 : S} {r : En} {k : S → Prop} : atK (a0 :: a1 :: a2 :: a3 :: a4 :: a5 :: a6 :: a7 :: a8 :: a9 :: a10 :: a11 :: a12 :: a13 :: a14 :: a15 :: a16 :: a17 :: r) 17 k ↔ k a17 := ⟨fun ⟨s, e, h⟩ => by cases e; exact h, fun h => ⟨_, rfl, h⟩⟩
theorem set17 {a0 a1 a2 a3 a4 a5 a6 a7 a8 a9 a10 a11 a12 a13 a14 a15 a16 a17 : S} {r : En} {s : S} {f : En → Prop} : setK f (a0 :: a1 :: a2 :: a3 :: a4 :: a5 :: a6 :: a7 :: a8 :: a9 :: a10 :: a11 :: a12 :: a13 :: a14 :: a15 :: a16 :: a17 :: r) 17 s ↔ f (a0 :: a1 :: a2 :: a3 :: a4 :: a5 :: a6 :: a7 :: a8 :: a9 :: a10 :: a11 :: a12 :: a13 :: a14 :: a15 :: a16 :: s :: r) := Iff.rfl
theorem at18 {a0 a1 a2 a3 a4 a5 a6 a7 a8 a9 a10 a11 a12 a13 a14 a15 a16 a17 a18 : S} {r : En} {k : S → Prop} : atK (a0 :: a1 :: a2 :: a3 :: a4 :: a5 :: a6 :: a7 :: a8 :: a9 :: a10 :: a11 :: a12 :: a13 :: a14 :: a15 :: a16 :: a17 :: a18 :: r) 18 k ↔ k a18 := ⟨fun ⟨s, e, h⟩ => by cases e; exact h, fun h => ⟨_, rfl, h⟩⟩
theorem set18 {a0 a1 a2 a3 a4 a5 a6 a7 a8 a9 a10 a11 a12 a13 a14 a15 a16 a17 a18 : S} {r : En} {s : S} {f : En → Prop} : setK f (a0 :: a1 :: a2 :: a3 :: a4 :: a5 :: a6 :: a7 :: a8 :: a9 :: a10 :: a11 :: a12 :: a13 :: a14 :: a15 :: a16 :: a17 :: a18 :: r) 18 s ↔ f (a0 :: a1 :: a2 :: a3 :: a4 :: a5 :: a6 :: a7 :: a8 :: a9 :: a10 :: a11 :: a12 :: a13 :: a14 :: a15 :: a16 :: a17 :: s :: r) := Iff.rfl
theorem at19 {a0 a1 a2 a3 a4 a5 a6 a7 a8 a9 a10 a11 a12 a13 a14 a15 a16 a17 a18 a19 : S} {r : En} {k : S → Prop} : atK (a0 :: a1 :: a2 :: a3 :: a4 :: a5 :: a6 :: a7 :: a8 :: a9 :: a10 :: a11 :: a12 :: a13 :: a14 :: a15 :: a16 :: a17 :: a18 :: a19 :: r) 19 k ↔ k a19 := ⟨fun ⟨s, e, h⟩ => by cases e; exact h, fun h => ⟨_, rfl, h⟩⟩
theorem set19 {a0 a1 a2 a3 a4 a5 a6 a7 a8 a9 a10 a11 a12 a13 a14 a15 a16 a17 a18 a19 : S} {r : En} {s : S} {f : En → Prop} : setK f (a0 :: a1 :: a2 :: a3 :: a4 :: a5 :: a6 :: a7 :: a8 :: a9 :: a10 :: a11 :: a12 :: a13 :: a14 :: a15 :: a16 :: a17 :: a18 :: a19 :: r) 19 s ↔ f (a0 :: a1 :: a2 :: a3 :: a4 :: a5 :: a6 :: a7 :: a8 :: a9 :: a10 :: a11 :: a12 :: a13 :: a14 :: a15 :: a16 :: a17 :: a18 :: s :: r) := Iff.rfl
theorem at20 {a0 a1 a2 a3 a4 a5 a6 a7 a8 a9 a10 a11 a12 a13 a14 a15 a16 a17 a18 a19 a20 : S} {r : En} {k : S → Prop} : atK (a0 :: a1 :: a2 :: a3 :: a4 :: a5 :: a6 :: a7 :: a8 :: a9 :: a10 :: a11 :: a12 :: a13 :: a14 :: a15 :: a16 :: a17 :: a18 :: a19 :: a20 :: r) 20 k ↔ k a20 := ⟨fun ⟨s, e, h⟩ => by cases e; exact h, fun h => ⟨_, rfl, h⟩⟩
theorem set20 {a0 a1 a2 a3 a4 a5 a6 a7 a8 a9 a10 a11 a12 a13 a14 a15 a16 a17 a18 a19 a20 : S} {r : En} {s : S} {f : En → Prop} : setK f (a0 :: a1 :: a2 :: a3 :: a4 :: a5 :: a6 :: a7 :: a8 :: a9 :: a10 :: a11 :: a12 :: a13 :: a14 :: a15 :: a16 :: a17 :: a18 :: a19 :: a20 :: r) 20 s ↔ f (a0 :: a1 :: a2 :: a3 :: a4 :: a5 :: a6 :: a7 :: a8 :: a9 :: a10 :: a11 :: a12 :: a13 :: a14 :: a15 :: a16 :: a17 :: a18 :: a19 :: s :: r) := Iff.rfl
theorem at21 {a0 a1 a2 a3 a4 a5 a6 a7 a8 a9 a10 a11 a12 a13 a14 a15 a16 a17 a18 a19 a20 a21 : S} {r : En} {k : S → Prop} : atK (a0 :: a1 :: a2 :: a3 :: a4 :: a5 :: a6 :: a7 :: a8 :: a9 :: a10 :: a11 :: a12 :: a13 :: a14 :: a15 :: a16 :: a17 :: a18 :: a19 :: a20 :: a21 :: r) 21 k ↔ k a21 := ⟨fun ⟨s, e, h⟩ => by cases e; exact h, fun h => ⟨_, rfl, h⟩⟩
theorem set21 {a0 a1 a2 a3 a4 a5 a6 a7 a8 a9 a10 a11 a12 a13 a14 a15 a16 a17 a18 a19 a20 a21 : S} {r : En} {s : S} {f : En → Prop} : setK f (a0 :: a1 :: a2 :: a3 :: a4 :: a5 :: a6 :: a7 :: a8 :: a9 :: a10 :: a11 :: a12 :: a13 :: a14 :: a15 :: a16 :: a17 :: a18 :: a19 :: a20 :: a21 :: r) 21 s ↔ f (a0 :: a1 :: a2 :: a3 :: a4 :: a5 :: a6 :: a7 :: a8 :: a9 :: a10 :: a11 :: a12 :: a13 :: a14 :: a15 :: a16 :: a17 :: a18 :: a19 :: a20 :: s :: r) := Iff.rfl
theorem at22 {a0 a1 a2 a3 a4 a5 a6 a7 a8 a9 a10 a11 a12 a13 a14 a15 a16 a17 a18 a19 a20 a21 a22 : S} {r : En} {k : S → Prop} : atK (a0 :: a1 :: a2 :: a3 :: a4 :: a5 :: a6 :: a7 :: a8 :: a9 :: a10 :: a11 :: a12 :: a13 :: a14 :: a15 :: a16 :: a17 :: a18 :: a19 :: a20 :: a21 :: a22 :: r) 22 k ↔ k a22 := ⟨fun ⟨s, e, h⟩ => by cases e; exact h, fun h => ⟨_, rfl, h⟩⟩
theorem set22 {a0 a1 a2 a3 a4 a5 a6 a7 a8 a9 a10 a11 a12 a13 a14 a15 a16 a17 a18 a19 a20 a21 a22 : S} {r : En} {s : S} {f : En → Prop} : setK f (a0 :: a1 :: a2 :: a3 :: a4 :: a5 :: a6 :: a7 :: a8 :: a9 :: a10 :: a11 :: a12 :: a13 :: a14 :: a15 :: a16 :: a17 :: a18 :: a19 :: a20 :: a21 :: a22 :: r) 22 s ↔ f (a0 :: a1 :: a2 :: a3 :: a4 :: a5 :: a6 :: a7 :: a8 :: a9 :: a10 :: a11 :: a12 :: a13 :: a14 :: a15 :: a16 :: a17 :: a18 :: a19 :: a20 :: a21 :: s :: r) := Iff.rfl
theorem at23 {a0 a1 a2 a3 a4 a5 a6 a7 a8 a9 a10 a11 a12 a13 a14 a15 a16 a17 a18 a19 a20 a21 a22 a23 : S} {r : En} {k : S → Prop} : atK (a0 :: a1 :: a2 :: a3 :: a4 :: a5 :: a6 :: a7 :: a8 :: a9 :: a10 :: a11 :: a12 :: a13 :: a14 :: a15 :: a16 :: a17 :: a18 :: a19 :: a20 :: a21 :: a22 :: a23 :: r) 23 k ↔ k a23 := ⟨fun ⟨s, e, h⟩ => by cases e; exact h, fun h => ⟨_, rfl, h⟩⟩
theorem set23 {a0 a1 a2 a3 a4 a5 a6 a7 a8 a9 a10 a11 a12 a13 a14 a15 a16 a17 a18 a19 a20 a21 a22 a23 : S} {r : En} {s : S} {f : En → Prop} : setK f (a0 :: a1 :: a2 :: a3 :: a4 :: a5 :: a6 :: a7 :: a8 :: a9 :: a10 :: a11 :: a12 :: a13 :: a14 :: a15 :: a16 :: a17 :: a18 :: a19 :: a20 :: a21 :: a22 :: a23 :: r) 23 s ↔ f (a0 :: a1 :: a2 :: a3 :: a4 :: a5 :: a6 :: a7 :: a8 :: a9 :: a10 :: a11 :: a12 :: a13 :: a14 :: a15 :: a16 :: a17 :: a18 :: a19 :: a20 :: a21 :: a22 :: s :: r) := Iff.rfl
theorem at24 {a0 a1 a2 a3 a4 a5 a6 a7 a8 a9 a10 a11 a12 a13 a14 a15 a16 a17 a18 a19 a20 a21 a22 a23 a24 : S} {r : En} {k : S → Prop} : atK (a0 :: a1 :: a2 :: a3 :: a4 :: a5 :: a6 :: a7 :: a8 :: a9 :: a10 :: a11 :: a12 :: a13 :: a14 :: a15 :: a16 :: a17 :: a18 :: a19 :: a20 :: a21 :: a22 :: a23 :: a24 :: r) 24 k ↔ k a24 := ⟨fun ⟨s, e, h⟩ => by cases e; exact h, fun h => ⟨_, rfl, h⟩⟩
theorem set24 {a0 a1 a2 a3 a4 a5 a6 a7 a8 a9 a10 a11 a12 a13 a14 a15 a16 a17 a18 a19 a20 a21 a22 a23 a24 : S} {r : En} {s : S} {f : En → Prop} : setK f (a0 :: a1 :: a2 :: a3 :: a4 :: a5 :: a6 :: a7 :: a8 :: a9 :: a10 :: a11 :: a12 :: a13 :: a14 :: a15 :: a16 :: a17 :: a18 :: a19 :: a20 :: a21 :: a22 :: a23 :: a24 :: r) 24 s ↔ f (a0 :: a1 :: a2 :: a3 :: a4 :: a5 :: a6 :: a7 :: a8 :: a9 :: a10 :: a11 :: a12 :: a13 :: a14 :: a15 :: a16 :: a17 :: a18 :: a19 :: a20 :: a21 :: a22 :: a23 :: s :: r) := Iff.rfl
end GB

set_option maxRecDepth 100000
namespace GB
open PySem PySem.Spec PyProof.Rows L2
/-! texts -/
def fStr : FN := fun xs Q => match xs with
  | [.int i] => i.natAbs.log2 < 1920 ∧ Q (.d (.str (toString i)))
  | _ => False
def fIntU : FN := fun xs Q => match xs with
  | [.int i] => Q (.d (.int i))
  | [.bool b] => Q (.d (.int (if b then 1 else 0)))
  | [.str a] => ∃ n, PySem.intText? a = some n ∧ a.length ≤ 640 ∧ Q (.d (.int n))
  | _ => False
def dIsDec (to : TEd) : TEd := fun ρ Q => to ρ fun s ρ1 => ∃ a, s = .d (.str a) ∧ Q (.d (.bool (Txt.isdecimal a))) ρ1
def dSplit (to te : TEd) : TEd := fun ρ Q => to ρ fun s ρ1 => ∃ a, s = .d (.str a) ∧ te ρ1 fun s2 ρ2 => ∃ b, s2 = .d (.str b) ∧ (b.length == 0) = false ∧ a.length + 2 ≤ sizeLine ∧ Q (.own ((Txt.split a b).map .str)) ρ2
def dJoin (to te : TEd) : TEd := fun ρ Q => to ρ fun s ρ1 => ∃ a, s = .d (.str a) ∧ te ρ1 fun s2 ρ2 => ∃ ys : List Str, (s2 = .d (.list (ys.map .str)) ∨ s2 = .d (.tuple (ys.map .str))) ∧ (ys.map (·.length)).sum + ys.length * a.length ≤ 16777216 ∧ Q (.d (.str (Txt.join a ys))) ρ2
section
variable {X : Cx} {L : Lay} {o e : Expr} {to te : TEd} {apos pos : Pos}
theorem c_str (hK : L.K = X.K) : CallR X (.type "str") (rN L fStr) := by
  intro pins s σ H vs us Q' I r q
  obtain ⟨xs, Q, b, q, fin⟩ := q
  unfold fStr at q
  split at q
  · obtain ⟨v, rfl, b1⟩ := brA1 hK b
    cases b1
    exact call_str_int pins s σ H _ us Q' I r ⟨_, rfl, q.1, fin _ H _ (Same.refl H) (nr_d (.str _)) q.2⟩
  · exact q.elim
theorem c_intU (hK : L.K = X.K) : CallR X (.type "int") (rN L fIntU) := by
  intro pins s σ H vs us Q' I r q
  obtain ⟨xs, Q, b, q, fin⟩ := q
  unfold fIntU at q
  split at q
  · obtain ⟨v, rfl, b1⟩ := brA1 hK b
    cases b1
    exact call_int1 pins s σ H _ us Q' I r (.inl ⟨_, rfl, fin _ H _ (Same.refl H) (nr_d (.int _)) q⟩)
  · obtain ⟨v, rfl, b1⟩ := brA1 hK b
    cases b1
    exact call_int1 pins s σ H _ us Q' I r (.inr ⟨_, rfl, fin _ H _ (Same.refl H) (nr_d (.int _)) q⟩)
  · obtain ⟨v, rfl, b1⟩ := brA1 hK b
    cases b1
    obtain ⟨n, h1, h2, q⟩ := q
    exact call_int_str pins s σ H _ us Q' I r ⟨_, n, rfl, h1, h2, fin _ H _ (Same.refl H) (nr_d (.int _)) q⟩
  · exact q.elim
theorem de_isDec (ho : PE X o (tE L to)) (hbase : attributeBase o "isdecimal" X.env (eval o X.env) = eval o X.env := by rfl) (hline : (apos.endLine == pos.line) = true := by rfl) :
    PE X (.Call (.Attribute o "isdecimal" apos) [] [] pos) (tE L (dIsDec to)) :=
  (pe_m0 PySem.F.slot_str_isdecimal PySem.F.type_str_isdecimal mt_isdecimal ho hbase hline).less fun σ H Q' q => by
    obtain ⟨ρ, Q, r, q, fin⟩ := q
    refine ⟨ρ, _, r, q, fun v H1 s ρ1 g1 r1 hv q1 => ?_⟩
    obtain ⟨a, rfl, q2⟩ := q1
    have hv : Br L.K H1 v (.str a) := hv
    cases hv
    exact ⟨⟨a, rfl⟩, a, rfl, rfl, trivial, fin _ H1 (.d (.bool _)) ρ1 g1 r1 (.bl _) q2⟩
theorem de_split (ho : PE X o (tE L to)) (he : PE X e (tE L te)) (hs : starEach [e] X.env = [(false, eval e X.env)] := by rfl) (hbase : attributeBase o "split" X.env (eval o X.env) = eval o X.env := by rfl) (hline : (apos.endLine == pos.line) = true := by rfl) :
    PE X (.Call (.Attribute o "split" apos) [e] [] pos) (tE L (dSplit to te)) :=
  (pe_split ho he hs hbase hline).less fun σ H Q' q => by
    obtain ⟨ρ, Q, r, q, fin⟩ := q
    refine ⟨ρ, _, r, q, fun v H1 s ρ1 g1 r1 hv q1 => ?_⟩
    obtain ⟨a, rfl, q2⟩ := q1
    have hv : Br L.K H1 v (.str a) := hv
    cases hv
    refine ⟨⟨a, rfl⟩, ρ1, _, r1, q2, fun u H2 s2 ρ2 g2 r2 hu q3 => ?_⟩
    obtain ⟨b, rfl, hb, hz, q4⟩ := q3
    have hu : Br L.K H2 u (.str b) := hu
    cases hu
    refine ⟨a, b, rfl, rfl, hb, hz, fun p hp => ?_⟩
    have sm := same_new (o := .lst ((Txt.split a b).map V.str)) hp
    exact fin _ _ (.own _) ρ2 ((g1.tr g2).tr (Go.sm sm)) (r2.go sm) (NR.vr (s := .own _) r2 sm (g1.tr g2) ⟨p, _, rfl, hp, upd_same, strs_br _⟩) q4
theorem de_join (hK : L.K = X.K) (ho : PE X o (tE L to)) (he : PE X e (tE L te)) (hs : starEach [e] X.env = [(false, eval e X.env)] := by rfl) (hbase : attributeBase o "join" X.env (eval o X.env) = eval o X.env := by rfl) (hline : (apos.endLine == pos.line) = true := by rfl) :
    PE X (.Call (.Attribute o "join" apos) [e] [] pos) (tE L (dJoin to te)) :=
  (pe_join ho he hs hbase hline).less fun σ H Q' q => by
    obtain ⟨ρ, Q, r, q, fin⟩ := q
    refine ⟨ρ, _, r, q, fun v H1 s ρ1 g1 r1 hv q1 => ?_⟩
    obtain ⟨a, rfl, q2⟩ := q1
    have hv : Br L.K H1 v (.str a) := hv
    cases hv
    refine ⟨⟨a, rfl⟩, ρ1, _, r1, q2, fun u H2 s2 ρ2 g2 r2 hu q3 => ?_⟩
    obtain ⟨ys, hd, hz, q4⟩ := q3
    have f := fin _ H2 (.d (.str (Txt.join a ys))) ρ2 (g1.tr g2) r2 (.str _) q4
    rcases hd with rfl | rfl
    · have hu : Br L.K H2 u (.list (ys.map .str)) := hu
      obtain ⟨p, vs, rfl, h1, h3⟩ := list_sq hK (Bk.of hu)
      have := br_strs h3
      subst this
      exact ⟨a, p, ys, rfl, rfl, .inl h1, hz, f⟩
    · have hu : Br L.K H2 u (.tuple (ys.map .str)) := hu
      cases hu with
      | tup a1 a3 =>
        have := br_strs a3
        subst this
        rw [hK] at a1
        exact ⟨a, _, ys, rfl, rfl, .inr a1.sq, hz, f⟩
end
/-! worked out -/
def joinK (s : S) (a : Str) (f : Str → Prop) : Prop := ∃ ys : List Str, (s = .d (.list (ys.map .str)) ∨ s = .d (.tuple (ys.map .str))) ∧ (ys.map (·.length)).sum + ys.length * a.length ≤ 16777216 ∧ f (Txt.join a ys)
theorem join_l {a : Str} {f : Str → Prop} {ys : List Str} (h : (ys.map (·.length)).sum + ys.length * a.length ≤ 16777216) (k : f (Txt.join a ys)) : joinK (.d (.list (ys.map .str))) a f := ⟨ys, .inl rfl, h, k⟩
section
variable {to te : TEd} {ρ : En} {Q : S → En → Prop} {k : S → Prop}
theorem e_isDec : dIsDec to ρ Q ↔ to ρ fun s ρ1 => strK s fun a => Q (.d (.bool (Txt.isdecimal a))) ρ1 := Iff.rfl
theorem e_split : dSplit to te ρ Q ↔ to ρ fun s ρ1 => strK s fun a => te ρ1 fun s2 ρ2 => strK s2 fun b => (b.length == 0) = false ∧ a.length + 2 ≤ sizeLine ∧ Q (.own ((Txt.split a b).map .str)) ρ2 := Iff.rfl
theorem e_join : dJoin to te ρ Q ↔ to ρ fun s ρ1 => strK s fun a => te ρ1 fun s2 ρ2 => joinK s2 a fun z => Q (.d (.str z)) ρ2 := Iff.rfl
theorem f_strI {i : Int} : fStr [.int i] k ↔ i.natAbs.log2 < 1920 ∧ k (.d (.str (toString i))) := Iff.rfl
theorem f_intUI {i : Int} : fIntU [.int i] k ↔ k (.d (.int i)) := Iff.rfl
theorem f_intUB {b : Bool} : fIntU [.bool b] k ↔ k (.d (.int (if b then 1 else 0))) := Iff.rfl
theorem f_intUS {a : Str} : fIntU [.str a] k ↔ ∃ n, PySem.intText? a = some n ∧ a.length ≤ 640 ∧ k (.d (.int n)) := Iff.rfl
end
end GB

set_option maxRecDepth 100000
/-! dict(D), D a dict of the top from texts to ints: a new dict of one's own -/
namespace GB
open PySem PySem.Spec PyProof.Rows L2
def EntsI : List DictEntry → List (Str × Int) → Bool
  | [], [] => true
  | e :: es, p :: D => Value.isStrOf p.1 e.key && Value.isInt p.2 e.val && EntsI es D
  | _, _ => false
structure DctC (K : PySem.W.Frag) (w : World) (a : Addr) (D : List (Str × Int)) : Prop where
  f : ∃ es n, K.lookup a = some ⟨.type "dict", none, .dict es n, #[]⟩ ∧ PySem.W.KeysLit w.params es.toList ∧ EntsI es.toList D = true
  o : (a == sysModules) = false
def vkI (D : List (Str × Int)) : List (Key × V) := D.map fun p => (.inr p.1, .int p.2)
def dkI (D : List (Str × Int)) : List (Key × PyData) := D.map fun p => (.inr p.1, .int p.2)
theorem entsI_pairs {prog : Program} {w : World} : ∀ {es : List DictEntry} {D : List (Str × Int)}, EntsI es D = true → ∃ vs, KV (vkI D) vs ∧ Pairs (mixKind prog w) es vs ∧ vs.map (·.1) = D.map fun p => (.inr p.1 : Key)
  | [], [], _ => ⟨[], .nil, .nil, rfl⟩
  | [], _ :: _, h => by cases h
  | _ :: _, [], h => by cases h
  | e :: es, p :: D, h => by
    unfold EntsI at h
    rw [Bool.and_eq_true, Bool.and_eq_true] at h
    obtain ⟨⟨h1, h2⟩, h3⟩ := h
    obtain ⟨vs, a, b, c⟩ := entsI_pairs (prog := prog) (w := w) h3
    obtain ⟨t, e2⟩ := Value.isInt_shape h2
    exact ⟨(.inr p.1, e.val) :: vs, .cons ⟨rfl, ⟨t, e2⟩⟩ a, .cons h1 rfl b, by simp [c]⟩
theorem dctC_of {K : PySem.W.Frag} {prog : Program} {w : World} {a : Addr} {D : List (Str × Int)} {h : Heap} (T : DctC K w a D) (X : K.In h) (nd : (D.map (·.1)).Nodup) : ∃ vs, KV (vkI D) vs ∧ h.DictOf (mixKind prog w) a vs := by
  obtain ⟨es, n, hl, hk, he⟩ := T.f
  obtain ⟨vs, r, p, m⟩ := entsI_pairs (prog := prog) (w := w) he
  refine ⟨vs, r, _, es, n, X _ _ hl, ⟨rfl, rfl, rfl⟩, rfl, fun e me => ?_, p, ?_⟩
  · obtain ⟨x, t, e1, e2⟩ := hk.all e (Array.mem_toList_iff.mpr me)
    exact ⟨.inr x, by rw [e1]; exact strKind_is prog w x t, e2⟩
  · rw [m]
    have : D.map (fun p => (.inr p.1 : Key)) = (D.map (·.1)).map Sum.inr := by rw [List.map_map]; rfl
    rw [this]
    exact List.Pairwise.map Sum.inr (fun x y h e => h (Sum.inr.inj e)) nd
theorem c_dictC {X : Cx} {q : Addr} {D : List (Str × Int)} (T : DctC X.K X.w q D) (nd : (D.map (·.1)).Nodup) (hs : D.length ≤ sizeLine) :
    CallR X (.type "dict") (fun xs H Q => xs = [.ref q] ∧ ∀ p, H p = none → Q (.ref p) (upd H p (.dK (vkI D)))) := by
  intro pins s σ H xs us Q I r q0
  obtain ⟨rfl, q1⟩ := q0
  obtain ⟨u, rfl, rx⟩ := vals1 r
  cases rx
  obtain ⟨vs, rel, dd⟩ := dctC_of (prog := X.prog) T I.kIn nd
  have z : (vkI D).length ≤ sizeLine := by unfold vkI; rw [List.length_map]; exact hs
  refine kt_call_dict T.o dd (by rw [← rel.length]; exact z) fun h' d' hs => ?_
  have hm : (s.heap.objs.size == sysModules) = false := beq_eq_false_iff_ne.mpr (Nat.ne_of_gt I.big)
  exact ⟨.ref s.heap.objs.size, upd H s.heap.objs.size (.dK (vkI D)), I.laid (t' := s.toks) (fun b u e => (hs.2 b (Nat.ne_of_lt (Heap.lt_size e))).trans (Heap.get?_push_of_some _ e)) (Nat.le_refl _)
    (show ObjOk X.prog X.w _ _ _ (.dK (vkI D)) from ⟨z, hm, vs, rel, d'⟩), rfl, q1 _ (I.hok.fresh (Nat.le_refl _))⟩
def dDctC (D : List (Str × Int)) : TEd := fun ρ Q => Q (.od (dkI D)) ρ
theorem braI {K : PySem.W.Frag} {H : Hp} : ∀ {D : List (Str × Int)}, BrA K H ((vkI D).map (·.2)) ((dkI D).map (·.2))
  | [] => .nil
  | _ :: _ => .cons (.int _) braI
theorem de_dictC {X : Cx} {L : Lay} {x : Str} {q : Addr} {D : List (Str × Int)} {p p2 pos : Pos} (hg : Gl X "dict") (hm : X.mg "dict" = none) (hg2 : Gl X x) (hm2 : X.mg x = some (.ref q)) (T : DctC X.K X.w q D) (nd : (D.map (·.1)).Nodup) (hs : D.length ≤ sizeLine) (hd : (x == ("__debug__" : Str)) = false := by decide) :
    PE X (.Call (.Name "dict" p) [.Name x p2] [] pos) (tE L (dDctC D)) :=
  (pe_callTy (c_dictC T nd hs) hg hm (by decide +kernel) (pa_cons (pe_glob (v := .ref q) hg2 hm2 rfl hd) pa_nil rfl)).less fun σ H Q' q0 => by
    obtain ⟨ρ, Q, r, q1, fin⟩ := q0
    refine ⟨rfl, fun l hl => ?_⟩
    have sm := same_new (o := HO.dK (vkI D)) hl
    have h0 : L.H0 l = none := r.same.free hl
    exact fin (.ref l) _ (.od (dkI D)) ρ (Go.sm sm) (r.go sm) ⟨⟨l, _, rfl, upd_same, ⟨by simp [dkI, vkI], braI⟩, h0⟩, fun l' e => by cases e; exact hl⟩ q1
end GB

namespace GK
open PySem PySem.Spec PyProof.Rows L2 GB

/-! small data -/
structure Sm (D W : Nat) (x : PyData) : Prop where
  sh : x.showable = true
  ls : x.leavesShort 40 = true
  dp : x.depth ≤ D
  bk : x.bulk ≤ W
theorem Sm.mono {D W D' W' : Nat} {x : PyData} (h : Sm D W x) (h1 : D ≤ D') (h2 : W ≤ W') : Sm D' W' x := ⟨h.sh, h.ls, Nat.le_trans h.dp h1, Nat.le_trans h.bk h2⟩
theorem Sm.fits {D W : Nat} {x : PyData} (h : Sm D W x) (hw : W ≤ 300000) : x.shown.length ≤ sizeLine := by
  have q := PyData.shown_le_bulk 40 (by decide) x h.ls
  have := h.bk
  have e : sizeLine = 16777216 := by decide
  rw [e]; omega
theorem sm_all {D W : Nat} : ∀ {xs : List PyData}, (∀ x ∈ xs, Sm D W x) → PyData.showableAll xs = true ∧ PyData.leavesShortAll 40 xs = true ∧ PyData.depthAll xs ≤ D ∧ PyData.bulkAll xs ≤ xs.length * (W + 1)
  | [], _ => ⟨rfl, rfl, by simp [PyData.depthAll], by simp [PyData.bulkAll]⟩
  | x :: xs, h => by
    have h0 := h x (by simp)
    obtain ⟨h1, h2, h3, h4⟩ := sm_all (xs := xs) fun y hy => h y (by simp [hy])
    refine ⟨by simp [PyData.showableAll, h0.sh, h1], by simp [PyData.leavesShortAll, h0.ls, h2], ?_, ?_⟩
    · have := h0.dp; simp only [PyData.depthAll]; omega
    · have := h0.bk
      simp only [PyData.bulkAll, List.length_cons]
      have e : (xs.length + 1) * (W + 1) = xs.length * (W + 1) + (W + 1) := by rw [Nat.add_mul, Nat.one_mul]
      rw [e]; omega
theorem sm_tup {D W n : Nat} {xs : List PyData} (h : ∀ x ∈ xs, Sm D W x) (hn : xs.length ≤ n) : Sm (D + 1) (n * (W + 1)) (.tuple xs) := by
  obtain ⟨h1, h2, h3, h4⟩ := sm_all h
  refine ⟨by simpa [PyData.showable] using h1, by simpa [PyData.leavesShort] using h2, by simp only [PyData.depth]; omega, ?_⟩
  simp only [PyData.bulk]
  exact Nat.le_trans h4 (Nat.mul_le_mul_right _ hn)
theorem sm_lst {D W n : Nat} {xs : List PyData} (h : ∀ x ∈ xs, Sm D W x) (hn : xs.length ≤ n) : Sm (D + 1) (n * (W + 1)) (.list xs) := by
  obtain ⟨h1, h2, h3, h4⟩ := sm_all h
  refine ⟨by simpa [PyData.showable] using h1, by simpa [PyData.leavesShort] using h2, by simp only [PyData.depth]; omega, ?_⟩
  simp only [PyData.bulk]
  exact Nat.le_trans h4 (Nat.mul_le_mul_right _ hn)
def smB (D W : Nat) (x : PyData) : Bool := x.showable && x.leavesShort 40 && decide (x.depth ≤ D) && decide (x.bulk ≤ W)
theorem sm_of {D W : Nat} {x : PyData} (h : smB D W x = true) : Sm D W x := by
  simp only [smB, Bool.and_eq_true, decide_eq_true_eq] at h
  exact ⟨h.1.1.1, h.1.1.2, h.1.2, h.2⟩
/-- rows, counted together -/
structure SmL (D W : Nat) (xs : List PyData) : Prop where
  sh : PyData.showableAll xs = true
  ls : PyData.leavesShortAll 40 xs = true
  dp : PyData.depthAll xs ≤ D
  bk : PyData.bulkAll xs ≤ W
theorem sml_tup {D W : Nat} {xs : List PyData} (h : SmL D W xs) : Sm (D + 1) W (.tuple xs) :=
  ⟨by simpa [PyData.showable] using h.sh, by simpa [PyData.leavesShort] using h.ls, by have := h.dp; simp only [PyData.depth]; omega, by simpa only [PyData.bulk] using h.bk⟩
theorem sml_lst {D W : Nat} {xs : List PyData} (h : SmL D W xs) : Sm (D + 1) W (.list xs) :=
  ⟨by simpa [PyData.showable] using h.sh, by simpa [PyData.leavesShort] using h.ls, by have := h.dp; simp only [PyData.depth]; omega, by simpa only [PyData.bulk] using h.bk⟩
theorem tup_sml {D W : Nat} {xs : List PyData} (h : Sm D W (.tuple xs)) : SmL D W xs :=
  ⟨by simpa [PyData.showable] using h.sh, by simpa [PyData.leavesShort] using h.ls, by have := h.dp; simp only [PyData.depth] at this; omega, by simpa only [PyData.bulk] using h.bk⟩
theorem sml_nil {D W : Nat} : SmL D W [] := ⟨rfl, rfl, by simp [PyData.depthAll], by simp [PyData.bulkAll]⟩
theorem sml_cons {D W1 W2 W : Nat} {x : PyData} {xs : List PyData} (h : Sm D W1 x) (k : SmL D W2 xs) (hw : W1 + 1 + W2 ≤ W) : SmL D W (x :: xs) :=
  ⟨by simp [PyData.showableAll, h.sh, k.sh], by simp [PyData.leavesShortAll, h.ls, k.ls], by have := h.dp; have := k.dp; simp only [PyData.depthAll]; omega, by have := h.bk; have := k.bk; simp only [PyData.bulkAll]; omega⟩
theorem sml_un {D W : Nat} {x : PyData} {xs : List PyData} (h : SmL D W (x :: xs)) : Sm D W x ∧ SmL D W xs := by
  obtain ⟨h1, h2, h3, h4⟩ := h
  simp only [PyData.showableAll, PyData.leavesShortAll, PyData.depthAll, PyData.bulkAll, Bool.and_eq_true] at h1 h2 h3 h4
  exact ⟨⟨h1.1, h2.1, by omega, by omega⟩, ⟨h1.2, h2.2, by omega, by omega⟩⟩
theorem sml_mem {D W : Nat} : ∀ {xs : List PyData}, SmL D W xs → ∀ x ∈ xs, Sm D W x
  | [], _, _, hx => nomatch hx
  | y :: ys, h, x, hx => by
    obtain ⟨h1, h2⟩ := sml_un h
    rcases List.mem_cons.mp hx with rfl | hx
    · exact h1
    · exact sml_mem h2 x hx
theorem SmL.mono {D W D' W' : Nat} {xs : List PyData} (h : SmL D W xs) (h1 : D ≤ D') (h2 : W ≤ W') : SmL D' W' xs := ⟨h.sh, h.ls, Nat.le_trans h.dp h1, Nat.le_trans h.bk h2⟩
theorem bulk_app : ∀ (xs ys : List PyData), PyData.bulkAll (xs ++ ys) = PyData.bulkAll xs + PyData.bulkAll ys
  | [], ys => by simp [PyData.bulkAll]
  | x :: xs, ys => by simp only [List.cons_append, PyData.bulkAll, bulk_app xs ys]; omega
theorem sml_app {D W1 W2 W : Nat} {xs ys : List PyData} (h : SmL D W1 xs) (k : SmL D W2 ys) (hw : W1 + W2 ≤ W) : SmL D W (xs ++ ys) := by
  refine ⟨?_, ?_, ?_, by rw [bulk_app]; have := h.bk; have := k.bk; omega⟩
  · have h1 := h.sh
    have h2 := k.sh
    clear h k
    induction xs with
    | nil => exact h2
    | cons x xs ih =>
      simp only [PyData.showableAll, Bool.and_eq_true] at h1
      simp [PyData.showableAll, h1.1, ih h1.2]
  · have h1 := h.ls
    have h2 := k.ls
    clear h k
    induction xs with
    | nil => exact h2
    | cons x xs ih =>
      simp only [PyData.leavesShortAll, Bool.and_eq_true] at h1
      simp [PyData.leavesShortAll, h1.1, ih h1.2]
  · have h1 := h.dp
    have h2 := k.dp
    clear h k
    induction xs with
    | nil => exact h2
    | cons x xs ih =>
      simp only [List.cons_append, PyData.depthAll] at h1 ⊢
      have := ih (by omega)
      omega
theorem sml_drop {D W : Nat} : ∀ {xs : List PyData} (n : Nat), SmL D W xs → SmL D W (xs.drop n)
  | xs, 0, h => h
  | [], _ + 1, h => h
  | x :: xs, n + 1, h => sml_drop n (sml_un h).2
theorem sml_take {D W : Nat} : ∀ {xs : List PyData} (n : Nat), SmL D W xs → SmL D W (xs.take n)
  | xs, 0, h => sml_nil
  | [], _ + 1, h => h
  | x :: xs, n + 1, h => by
    obtain ⟨h1, h2⟩ := sml_un h
    have hb := h.bk
    simp only [PyData.bulkAll] at hb
    have h3 : SmL D (PyData.bulkAll xs) xs := ⟨h2.sh, h2.ls, h2.dp, Nat.le_refl _⟩
    exact sml_cons (W1 := x.bulk) ⟨h1.sh, h1.ls, h1.dp, Nat.le_refl _⟩ (sml_take n h3) (by omega)
theorem sml_cut {D W : Nat} {xs : List PyData} {a b : Option Int} (h : SmL D W xs) : SmL D W (GB.cutD xs a b) := sml_take _ (sml_drop _ h)
/-! books -/
def isTup (l m : Int) : PyData → Bool
  | .tuple xs => decide (l ≤ xs.length ∧ (xs.length : Int) ≤ m)
  | _ => false
def tripB : PyData → Bool
  | .tuple [.tuple [_, _, _], .tuple [_, _, _]] => true
  | _ => false
def formB : PyData → Bool
  | .tuple [w, r, m, _, _] => tripB w && (tripB r && isTup 2 2 m)
  | _ => false
def GRD : List PyData := [.tuple [], .tuple [.str "again"], .tuple [.str "again", .str "new"], .tuple [.str "again", .str "new", .str "old"], .tuple [.str "again", .str "old"], .tuple [.str "new"], .tuple [.str "new", .str "old"], .tuple [.str "old"]]
def MDE : List PyData := [.str "white", .str "grey", .str "black"]
def grdB (x : PyData) : Bool := GRD.any fun z => PyData.eqv z x
def mdB (x : PyData) : Bool := MDE.any fun z => PyData.eqv z x
def firstBad : List (Bool × PyData) → PyData
  | [] => .none
  | (b, e) :: r => if b = true then firstBad r else e
def eW (p c : Int) : PyData := .tuple [.str "write", .int p, .int c]
def eR (p c : Int) : PyData := .tuple [.str "read", .int p, .int c]
def eM (p : Int) : PyData := .tuple [.str "make", .int p]
def checks (a b c d e f g h i j k l m n la pi : PyData) : List (Bool × PyData) :=
  [(grdB a, eW 0 0), (grdB b, eW 0 1), (grdB c, eW 0 2), (grdB d, eW 1 0), (grdB e, eW 1 1), (grdB f, eW 1 2),
   (kBool g, eR 0 0), (kBool h, eR 0 1), (kBool i, eR 0 2), (kBool j, eR 1 0), (kBool k, eR 1 1), (kBool l, eR 1 2), (mdB m, eM 0), (mdB n, eM 1), (kBool la, .str "last"), (kBool pi, .str "pieces")]
def bf : PyData → PyData
  | .tuple [.tuple [.tuple [a, b, c], .tuple [d, e, f]], .tuple [.tuple [g, h, i], .tuple [j, k, l]], .tuple [m, n], la, pi] => firstBad (checks a b c d e f g h i j k l m n la pi)
  | _ => .str "form"
/-! entries -/
inductive En where
  | last
  | make (p : Nat)
  | read (p c : Nat)
  | write (p c : Nat) (w : Str)
  deriving DecidableEq
def En.d : En → PyData
  | .last => .tuple [.str "last"]
  | .make p => .tuple [.str "make", .int p]
  | .read p c => .tuple [.str "read", .int p, .int c]
  | .write p c w => .tuple [.str "write", .int p, .int c, .str w]
def En.pl : En → List Nat
  | .last => [3]
  | .make p => [2, p]
  | .read p c => [1, p, c]
  | .write p c _ => [0, p, c]
def ENS : List En := [.last, .make 0, .make 1, .read 0 0, .read 0 1, .read 0 2, .read 1 0, .read 1 1, .read 1 2, .write 0 0 "again", .write 0 0 "new", .write 0 0 "old", .write 0 1 "again", .write 0 1 "new", .write 0 1 "old", .write 0 2 "again", .write 0 2 "new", .write 0 2 "old", .write 1 0 "again", .write 1 0 "new", .write 1 0 "old", .write 1 1 "again", .write 1 1 "new", .write 1 1 "old", .write 1 2 "again", .write 1 2 "new", .write 1 2 "old"]
def nD (n : Nat) : PyData := .int n
def itemAt : PyData → List Nat → Option PyData
  | x, [] => some x
  | .tuple xs, n :: ns => match xs[n]? with
    | some y => itemAt y ns
    | none => none
  | _, _ :: _ => none
def hasV : En → PyData → Option Bool
  | .write _ _ w, .tuple gs => inD (.str w) (.tuple gs)
  | .make _, .str z => if eqOk (.str z) (.str "white") = true then some (!PyData.eqv (.str z) (.str "white")) else none
  | .read _ _, .bool b => some b
  | .last, .bool b => some b
  | _, _ => none
def hasE (b : PyData) (e : En) : Option Bool := match itemAt b e.pl with
  | some x => hasV e x
  | none => none
def rep : PyData → List Nat → PyData → Option PyData
  | _, [], it => some it
  | .tuple xs, n :: ns, it => match xs[n]? with
    | some y => match rep y ns it with
      | some z => if xs.length ≤ 1000 then some (.tuple (xs.take n ++ [z] ++ xs.drop (n + 1))) else none
      | none => none
    | none => none
  | _, _ :: _, _ => none
def WE (b : PyData) (e : En) (y : PyData) : Prop := (hasE b e = some true ∧ y = b) ∨ (hasE b e = some false ∧ match e with
  | .write p c w => ∃ ss tt : List Str, itemAt b [0, p, c] = some (.tuple (ss.map .str)) ∧ ss.length ≤ 1000 ∧ tt.Perm (ss ++ [w]) ∧ tt.Pairwise strLe ∧ rep b [0, p, c] (.tuple (tt.map .str)) = some y
  | .make p => rep b [2, p] (.str "black") = some y
  | .read p c => rep b [1, p, c] (.bool true) = some y
  | .last => rep b [3] (.bool true) = some y)
def WO (b : PyData) (e : En) (y : PyData) : Prop := match e with
  | .write p c w => ∃ ss : List Str, itemAt b [0, p, c] = some (.tuple (ss.map .str)) ∧ ss.length ≤ 1000 ∧ rep b [0, p, c] (.tuple ((ss.filter fun z => !PyData.eqv (.str z) (.str w)).map .str)) = some y ∧ (∀ z ∈ ss, eqOk (.str z) (.str w) = true)
  | .make p => rep b [2, p] (.str "white") = some y
  | .read p c => rep b [1, p, c] (.bool false) = some y
  | .last => rep b [3] (.bool false) = some y
def entD (b : PyData) : List PyData := (ENS.filter fun e => hasE b e == some true).map En.d
/-! books -/
structure Bo where
  g : Nat → Nat → Str → Bool
  r : Nat → Nat → Bool
  m : Nat → Str
  l : Bool
  p : Bool
def Bo.has (b : Bo) : En → Bool
  | .last => b.l
  | .make q => !(b.m q == "white")
  | .read p c => b.r p c
  | .write p c w => b.g p c w
def gL (f : Str → Bool) : List Str := (["again", "new", "old"] : List Str).filter f
def gdD (f : Str → Bool) : PyData := .tuple ((gL f).map .str)
def Bo.d (b : Bo) : PyData :=
  .tuple [.tuple [.tuple [gdD (b.g 0 0), gdD (b.g 0 1), gdD (b.g 0 2)], .tuple [gdD (b.g 1 0), gdD (b.g 1 1), gdD (b.g 1 2)]], .tuple [.tuple [.bool (b.r 0 0), .bool (b.r 0 1), .bool (b.r 0 2)], .tuple [.bool (b.r 1 0), .bool (b.r 1 1), .bool (b.r 1 2)]], .tuple [.str (b.m 0), .str (b.m 1)], .bool b.l, .bool b.p]
def Bo.tu (b : Bo) (e : En) (v : Bool) : Bo := match e with
  | .last => { b with l := v }
  | .make q => { b with m := fun q' => if q' = q then (if v = true then (if b.m q = "white" then "black" else b.m q) else "white") else b.m q' }
  | .read p c => { b with r := fun p' c' => if p' = p ∧ c' = c then v else b.r p' c' }
  | .write p c w => { b with g := fun p' c' w' => if p' = p ∧ c' = c ∧ w' = w then v else b.g p' c' w' }
def OkB (b : Bo) : Prop := ∀ q, b.m q = "white" ∨ b.m q = "grey" ∨ b.m q = "black"
end GK

set_option maxRecDepth 20000
namespace GK
open PySem PySem.Spec PyProof.Rows L2 GB
theorem line_ge {n : Nat} (h : n ≤ 1000000) : n ≤ sizeLine := Nat.le_trans h (by decide)
theorem all_of {p : PyData → Bool} {xs : List PyData} (h : xs.all p = true) : ∀ x ∈ xs, p x = true := List.all_eq_true.mp h
theorem rows_lay : ∀ {xs : List PyData}, (∀ x ∈ xs, x.canLay0 = true ∧ x.depth ≤ 20) → PyData.canLayAll0 xs = true ∧ PyData.depthAll xs ≤ 20
  | [], _ => ⟨rfl, by simp [PyData.depthAll]⟩
  | x :: xs, h => by
    obtain ⟨a, b⟩ := h x (by simp)
    obtain ⟨c, d⟩ := rows_lay (xs := xs) fun y hy => h y (by simp [hy])
    refine ⟨by simp [PyData.canLayAll0, a, c], by simp only [PyData.depthAll]; omega⟩
theorem shp_list {xs : List PyData} (h : ∀ x ∈ xs, x.canLay0 = true ∧ x.depth ≤ 20) : SeqAt.shaped (.list xs) = true := by
  obtain ⟨a, b⟩ := rows_lay h
  simp [SeqAt.shaped, PyData.canLay0, PyData.depth, a]; omega
theorem shp_tup {xs : List PyData} (h : ∀ x ∈ xs, x.canLay0 = true ∧ x.depth ≤ 20) : SeqAt.shaped (.tuple xs) = true := by
  obtain ⟨a, b⟩ := rows_lay h
  simp [SeqAt.shaped, PyData.canLay0, PyData.depth, a]; omega
theorem list_eqOk {xs ys : List PyData} (h : ∀ x ∈ xs, x.canLay0 = true ∧ x.depth ≤ 20) (h' : ∀ x ∈ ys, x.canLay0 = true ∧ x.depth ≤ 20) : eqOk (.list xs) (.list ys) = true := by
  show (SeqAt.shaped (.list xs) && SeqAt.shaped (.list ys)) = true
  rw [shp_list h, shp_list h']; rfl
theorem irow2 : irow 0 (Int.toNat 2) = [.int 0, .int 1] := rfl
theorem irow3 : irow 0 (Int.toNat 3) = [.int 0, .int 1, .int 2] := rfl
theorem at_n {xs : List PyData} {n : Nat} {v : PyData} (h : xs[n]? = some v) : atI xs (n : Int) = some v := by
  have hl : n < xs.length := (List.getElem?_eq_some_iff.mp h).1
  unfold atI ixN
  rw [if_pos (by omega), if_pos (by omega)]
  simpa using h
theorem ixn {xs : List PyData} {m : Int} {v : PyData} {p : PyData → Prop} (e : atI xs m = some v) : (∃ v, atI xs m = some v ∧ p v) ↔ p v := ⟨fun ⟨_, e', h⟩ => by rw [e] at e'; cases e'; exact h, fun h => ⟨_, e, h⟩⟩
theorem ix0 {a : PyData} {r : List PyData} {p : PyData → Prop} : (∃ v, atI (a :: r) 0 = some v ∧ p v) ↔ p a := ixn (at_n (n := 0) rfl)
theorem ix1 {a b : PyData} {r : List PyData} {p : PyData → Prop} : (∃ v, atI (a :: b :: r) 1 = some v ∧ p v) ↔ p b := ixn (at_n (n := 1) rfl)
theorem ix2 {a b c : PyData} {r : List PyData} {p : PyData → Prop} : (∃ v, atI (a :: b :: c :: r) 2 = some v ∧ p v) ↔ p c := ixn (at_n (n := 2) rfl)
theorem ix3 {a b c d : PyData} {r : List PyData} {p : PyData → Prop} : (∃ v, atI (a :: b :: c :: d :: r) 3 = some v ∧ p v) ↔ p d := ixn (at_n (n := 3) rfl)
theorem ix4 {a b c d f : PyData} {r : List PyData} {p : PyData → Prop} : (∃ v, atI (a :: b :: c :: d :: f :: r) 4 = some v ∧ p v) ↔ p f := ixn (at_n (n := 4) rfl)
theorem t2 : ((2 : Int) < 2 ^ 60) = True := eq_true (by decide)
theorem t2' : (-2 ^ 60 < (2 : Int)) = True := eq_true (by decide)
theorem t3 : ((3 : Int) < 2 ^ 60) = True := eq_true (by decide)
theorem t3' : (-2 ^ 60 < (3 : Int)) = True := eq_true (by decide)
theorem z2 : (2 ≤ sizeLine) = True := eq_true (by decide)
theorem z3 : (3 ≤ sizeLine) = True := eq_true (by decide)
theorem pick_perm {α : Type} : ∀ (l : List α) (i : Nat) (h : i < l.length), (l[i] :: l.eraseIdx i).Perm l
  | [], _, h => nomatch h
  | a :: r, 0, _ => List.Perm.refl _
  | a :: r, i + 1, h => (List.Perm.swap a (r[i]'(by simpa using h)) (r.eraseIdx i)).trans ((pick_perm r i (by simpa using h)).cons a)
theorem exl {α : Type} {a : List PyData} {p : List PyData → Prop} : (∃ zs, PyData.list a = PyData.list zs ∧ p zs) ↔ p a := ⟨fun ⟨_, e, h⟩ => by cases e; exact h, fun h => ⟨_, rfl, h⟩⟩
theorem at_nd {xs : List PyData} {n : Nat} {v : PyData} (h : xs[n]? = some v) : ∃ i, nD n = .int i ∧ atI xs i = some v := ⟨n, rfl, at_n h⟩
theorem item_cons {x y : PyData} {n : Nat} {ns : List Nat} (h : itemAt x (n :: ns) = some y) : ∃ xs v, x = .tuple xs ∧ xs[n]? = some v ∧ itemAt v ns = some y := by
  cases x with
  | tuple xs =>
    unfold itemAt at h
    split at h
    · rename_i v e; exact ⟨xs, v, rfl, e, h⟩
    · cases h
  | _ => cases h
theorem rep_cons {x y it : PyData} {n : Nat} {ns : List Nat} (h : rep x (n :: ns) it = some y) : ∃ xs v z, x = .tuple xs ∧ xs[n]? = some v ∧ rep v ns it = some z ∧ xs.length ≤ 1000 ∧ y = .tuple (xs.take n ++ [z] ++ xs.drop (n + 1)) := by
  cases x with
  | tuple xs =>
    unfold rep at h
    split at h
    · rename_i v e
      split at h
      · rename_i z e2
        split at h
        · rename_i hl; cases h; exact ⟨xs, v, z, rfl, e, e2, hl, rfl⟩
        · cases h
      · cases h
    · cases h
  | _ => cases h
theorem cut_w {a b c d : PyData} : GB.cutD [a, b, c, d] (some 1) (some 3) = [b, c] := rfl
theorem cut_r {a b c : PyData} : GB.cutD [a, b, c] (some 1) (some 3) = [b, c] := rfl
theorem cut_m {a b : PyData} : GB.cutD [a, b] (some 1) (some 3) = [b] := rfl
theorem cut_l {a : PyData} : GB.cutD [a] (some 1) (some 3) = [] := rfl
theorem en_inj {e e' : En} (h : e.d = e'.d) : e = e' := by
  cases e <;> cases e' <;> simp only [En.d, PyData.tuple.injEq, List.cons.injEq, PyData.str.injEq, PyData.int.injEq, and_true, true_and, reduceCtorEq, and_false, false_and] at h
  all_goals first
    | rfl
    | exact absurd h (by decide +kernel)
    | exact absurd h.1 (by decide +kernel)
    | (have : ∀ a b : Nat, (a : Int) = (b : Int) → a = b := fun a b => by omega
       first
         | (obtain ⟨h1, h2, h3⟩ := h; rw [this _ _ h1, this _ _ h2, h3])
         | (obtain ⟨h1, h2⟩ := h; rw [this _ _ h1, this _ _ h2])
         | rw [this _ _ h])
theorem has_of {b : PyData} {e : En} {v : Bool} (h : hasE b e = some v) : ∃ it, itemAt b e.pl = some it ∧ hasV e it = some v := by
  unfold hasE at h
  split at h
  · rename_i x h1; exact ⟨x, h1, h⟩
  · cases h
theorem ev1 : PyData.eqv (.str "write") (.str "write") = true := by decide +kernel
theorem ev2 : PyData.eqv (.str "make") (.str "write") = false := by decide +kernel
theorem ev3 : PyData.eqv (.str "read") (.str "write") = false := by decide +kernel
theorem ev4 : PyData.eqv (.str "last") (.str "write") = false := by decide +kernel
theorem ev5 : PyData.eqv (.str "make") (.str "make") = true := by decide +kernel
theorem ev6 : PyData.eqv (.str "read") (.str "make") = false := by decide +kernel
theorem ev7 : PyData.eqv (.str "last") (.str "make") = false := by decide +kernel
theorem ev8 : PyData.eqv (.str "read") (.str "read") = true := by decide +kernel
theorem ev9 : PyData.eqv (.str "last") (.str "read") = false := by decide +kernel
theorem ev10 : PyData.eqv (.str "make") (.str "read") = false := by decide +kernel
theorem hv_w {p c : Nat} {w : Str} {it : PyData} {v : Bool} (h : hasV (.write p c w) it = some v) : ∃ gs, it = .tuple gs ∧ inD (.str w) (.tuple gs) = some v := by
  cases it with
  | tuple gs => exact ⟨gs, rfl, h⟩
  | _ => exact absurd h (by simp [hasV])
theorem hv_m {p : Nat} {it : PyData} {v : Bool} (h : hasV (.make p) it = some v) : ∃ z, it = .str z ∧ eqOk (.str z) (.str "white") = true ∧ v = !PyData.eqv (.str z) (.str "white") := by
  cases it with
  | str z =>
    have h : (if eqOk (.str z) (.str "white") = true then some (!PyData.eqv (.str z) (.str "white")) else none) = some v := h
    split at h
    · rename_i h1; cases h; exact ⟨z, rfl, h1, rfl⟩
    · cases h
  | _ => cases h
theorem hv_r {p c : Nat} {it : PyData} {v : Bool} (h : hasV (.read p c) it = some v) : it = .bool v := by
  cases it with
  | bool b => cases h; rfl
  | _ => cases h
theorem hv_l {it : PyData} {v : Bool} (h : hasV .last it = some v) : it = .bool v := by
  cases it with
  | bool b => cases h; rfl
  | _ => cases h
theorem o1 {x : PyData} {f : PyData → Prop} (h : f x) : oneK (.d x) f := by
  first
    | exact h
    | exact ⟨_, rfl, h⟩
theorem fx {xs : List PyData} {n : Nat} {v : PyData} {k : S → Prop} (e : xs[n]? = some v) (h : k (.d v)) : fIx (.tuple xs) (.int n) k := ⟨_, rfl, v, at_n e, h⟩
theorem nd_inj : ∀ {a b : List Nat}, a.map nD = b.map nD → a = b
  | [], [], _ => rfl
  | [], _ :: _, h => by cases h
  | _ :: _, [], h => by cases h
  | u :: us, v :: vs, h => by
    simp only [List.map_cons, List.cons.injEq, nD, PyData.int.injEq] at h
    have e1 : u = v := by omega
    have e2 : us = vs := nd_inj h.2
    rw [e1, e2]
theorem nD_app {n : Nat} : nD n = .int n := rfl
theorem cutD_from {α : Type} (xs : List α) (n : Nat) : GB.cutD xs (some (n : Int)) none = xs.drop n := by
  unfold GB.cutD
  rw [HT.sIx_nat]
  show (xs.drop (min n xs.length)).take (xs.length - min n xs.length) = _
  have e : xs.drop (min n xs.length) = xs.drop n := by
    by_cases h : n ≤ xs.length
    · rw [Nat.min_eq_left h]
    · rw [Nat.min_eq_right (by omega), List.drop_length, List.drop_eq_nil_of_le (by omega)]
  rw [e, List.take_of_length_le (by rw [List.length_drop]; omega)]
theorem cut_tail {x : PyData} {xs : List PyData} : GB.cutD (x :: xs) (some 1) none = xs := by
  have := cutD_from (x :: xs) 1
  exact this
theorem tuE {ys : List PyData} {p : List PyData → Prop} : (∃ xs, S.d (.tuple ys) = S.d (.tuple xs) ∧ p xs) ↔ p ys := ⟨fun ⟨_, e, h⟩ => by cases e; exact h, fun h => ⟨_, rfl, h⟩⟩
theorem dcE {d : List (Str × Int)} {a : Str} {p : Int → Prop} : (∃ z n, S.d (.str a) = S.d (.str z) ∧ d.lookup z = some n ∧ p n) ↔ ∃ n, d.lookup a = some n ∧ p n := ⟨fun ⟨_, n, e, h⟩ => by cases e; exact ⟨n, h⟩, fun ⟨n, h⟩ => ⟨_, n, rfl, h⟩⟩
theorem ent_step {b : PyData} {e : En} {es : List En} {acc : List PyData} {T : List PyData} {v : Bool} (h : acc ++ ((e :: es).filter fun e => hasE b e == some true).map En.d = T) (hv : hasE b e = some v) :
    (v = true → (acc ++ [e.d]) ++ (es.filter fun e => hasE b e == some true).map En.d = T) ∧ (v = false → acc ++ (es.filter fun e => hasE b e == some true).map En.d = T) := by
  constructor
  · rintro rfl
    rw [List.filter_cons, hv] at h
    rw [← h]
    simp
  · rintro rfl
    rw [List.filter_cons, hv] at h
    rw [← h]
    simp
/-! guards -/
theorem eqv_s {z w : Str} : PyData.eqv (.str z) (.str w) = (z == w) := by
  simp [PyData.eqv]
theorem gL_sub (f : Str → Bool) : (gL f).Pairwise strLe := List.Pairwise.sublist List.filter_sublist (by decide +kernel)
theorem gL_len (f : Str → Bool) : (gL f).length ≤ 3 := Nat.le_trans (List.length_filter_le _ _) (by decide)
theorem gL_off (f : Str → Bool) (w : Str) : (gL f).filter (fun z => !PyData.eqv (.str z) (.str w)) = gL fun z => if z = w then false else f z := by
  unfold gL
  rw [List.filter_filter]
  refine List.filter_congr fun z _ => ?_
  rw [eqv_s]
  by_cases h : z = w
  · simp [h]
  · simp [h]
def WD3 (w : Str) : Prop := w = "again" ∨ w = "new" ∨ w = "old"
theorem gL_bits (f : Str → Bool) : gL f = (if f "again" = true then ([("again" : Str)] : List Str) else []) ++ ((if f "new" = true then ([("new" : Str)] : List Str) else []) ++ (if f "old" = true then ([("old" : Str)] : List Str) else [])) := by
  unfold gL
  simp only [List.filter_cons, List.filter_nil]
  cases f "again" <;> cases f "new" <;> cases f "old" <;> rfl
theorem nan : ("new" : Str) = "again" ↔ False := iff_of_false (by decide +kernel) id
theorem noan : ("old" : Str) = "again" ↔ False := iff_of_false (by decide +kernel) id
theorem nna : ("again" : Str) = "new" ↔ False := iff_of_false (by decide +kernel) id
theorem noo : ("again" : Str) = "old" ↔ False := iff_of_false (by decide +kernel) id
theorem nno : ("new" : Str) = "old" ↔ False := iff_of_false (by decide +kernel) id
theorem non' : ("old" : Str) = "new" ↔ False := iff_of_false (by decide +kernel) id
theorem gL_put (f : Str → Bool) {w : Str} (hw : WD3 w) (h : f w = false) : (gL fun z => if z = w then true else f z).Perm (gL f ++ [w]) := by
  rw [gL_bits, gL_bits f]
  rcases hw with rfl | rfl | rfl
  · simp only [nan, noan, if_true, if_false, h]
    cases f "new" <;> cases f "old" <;> decide +kernel
  · simp only [nna, non', if_true, if_false, h]
    cases f "again" <;> cases f "old" <;> decide +kernel
  · simp only [noo, nno, if_true, if_false, h]
    cases f "again" <;> cases f "new" <;> decide +kernel
theorem gL_has (f : Str → Bool) {w : Str} (hw : WD3 w) : inD (.str w) (gdD f) = some (f w) := by
  unfold gdD
  rw [gL_bits]
  rcases hw with rfl | rfl | rfl <;> cases f "again" <;> cases f "new" <;> cases f "old" <;> decide +kernel
theorem gL_lay (f : Str → Bool) {w : Str} (hw : WD3 w) : ∀ z ∈ gL f, eqOk (.str z) (.str w) = true := by
  intro z hz
  have hz : z ∈ (["again", "new", "old"] : List Str) := (List.mem_filter.mp hz).1
  simp only [List.mem_cons, List.not_mem_nil, or_false] at hz
  rcases hz with rfl | rfl | rfl <;> rcases hw with rfl | rfl | rfl <;> decide +kernel
/-! entries of a book -/
theorem m_ok {z : Str} (h : z = "white" ∨ z = "grey" ∨ z = "black") : hasV (.make 0) (.str z) = some (!(z == "white")) := by
  rcases h with rfl | rfl | rfl <;> decide +kernel
theorem ens_cases {P : En → Prop} (h1 : P .last) (h2 : ∀ q, q < 2 → P (.make q)) (h3 : ∀ p c, p < 2 → c < 3 → P (.read p c)) (h4 : ∀ p c w, p < 2 → c < 3 → WD3 w → P (.write p c w)) : ∀ e ∈ ENS, P e := by
  intro e he
  simp only [ENS, List.mem_cons, List.not_mem_nil, or_false] at he
  rcases he with rfl | rfl | rfl | rfl | rfl | rfl | rfl | rfl | rfl | rfl | rfl | rfl | rfl | rfl | rfl | rfl | rfl | rfl | rfl | rfl | rfl | rfl | rfl | rfl | rfl | rfl | rfl
  · exact h1
  · exact h2 0 (by decide)
  · exact h2 1 (by decide)
  · exact h3 0 0 (by decide) (by decide)
  · exact h3 0 1 (by decide) (by decide)
  · exact h3 0 2 (by decide) (by decide)
  · exact h3 1 0 (by decide) (by decide)
  · exact h3 1 1 (by decide) (by decide)
  · exact h3 1 2 (by decide) (by decide)
  · exact h4 0 0 _ (by decide) (by decide) (.inl rfl)
  · exact h4 0 0 _ (by decide) (by decide) (.inr (.inl rfl))
  · exact h4 0 0 _ (by decide) (by decide) (.inr (.inr rfl))
  · exact h4 0 1 _ (by decide) (by decide) (.inl rfl)
  · exact h4 0 1 _ (by decide) (by decide) (.inr (.inl rfl))
  · exact h4 0 1 _ (by decide) (by decide) (.inr (.inr rfl))
  · exact h4 0 2 _ (by decide) (by decide) (.inl rfl)
  · exact h4 0 2 _ (by decide) (by decide) (.inr (.inl rfl))
  · exact h4 0 2 _ (by decide) (by decide) (.inr (.inr rfl))
  · exact h4 1 0 _ (by decide) (by decide) (.inl rfl)
  · exact h4 1 0 _ (by decide) (by decide) (.inr (.inl rfl))
  · exact h4 1 0 _ (by decide) (by decide) (.inr (.inr rfl))
  · exact h4 1 1 _ (by decide) (by decide) (.inl rfl)
  · exact h4 1 1 _ (by decide) (by decide) (.inr (.inl rfl))
  · exact h4 1 1 _ (by decide) (by decide) (.inr (.inr rfl))
  · exact h4 1 2 _ (by decide) (by decide) (.inl rfl)
  · exact h4 1 2 _ (by decide) (by decide) (.inr (.inl rfl))
  · exact h4 1 2 _ (by decide) (by decide) (.inr (.inr rfl))
theorem two (q : Nat) (h : q < 2) : q = 0 ∨ q = 1 := by omega
theorem three (q : Nat) (h : q < 3) : q = 0 ∨ q = 1 ∨ q = 2 := by omega
theorem has_d (b : Bo) (ok : OkB b) : ∀ e ∈ ENS, hasE b.d e = some (b.has e) := by
  refine ens_cases rfl ?_ ?_ ?_
  · intro q hq
    rcases two q hq with rfl | rfl
    · exact m_ok (ok 0)
    · exact m_ok (ok 1)
  · intro p c hp hc
    rcases two p hp with rfl | rfl <;> rcases three c hc with rfl | rfl | rfl <;> rfl
  · intro p c w hp hc hw
    rcases two p hp with rfl | rfl <;> rcases three c hc with rfl | rfl | rfl <;> exact gL_has _ hw
theorem tu_same (b : Bo) (e : En) (v : Bool) (h : b.has e = v) : b.tu e v = b := by
  obtain ⟨g, r, m, l, p⟩ := b
  cases e with
  | last => simp only [Bo.has] at h; simp [Bo.tu, h]
  | make q =>
    simp only [Bo.has] at h
    simp only [Bo.tu, Bo.mk.injEq, true_and, and_true]
    funext q'
    by_cases e : q' = q
    · subst e
      rw [if_pos rfl]
      cases v with
      | true =>
        have : ¬ m q' = "white" := fun z => by rw [z] at h; exact absurd h (by decide +kernel)
        simp [this]
      | false =>
        have : m q' = "white" := by simpa using h
        simp [this]
    · rw [if_neg e]
  | read p' c =>
    simp only [Bo.has] at h
    simp only [Bo.tu, Bo.mk.injEq, true_and, and_true]
    funext a d
    by_cases e : a = p' ∧ d = c
    · rw [if_pos e, e.1, e.2, h]
    · rw [if_neg e]
  | write p' c w =>
    simp only [Bo.has] at h
    simp only [Bo.tu, Bo.mk.injEq, true_and, and_true]
    funext a d x
    by_cases e : a = p' ∧ d = c ∧ x = w
    · rw [if_pos e, e.1, e.2.1, e.2.2, h]
    · rw [if_neg e]
theorem ok_tu {b : Bo} (ok : OkB b) (e : En) (v : Bool) : OkB (b.tu e v) := by
  intro q
  cases e with
  | make q0 =>
    have key : (b.tu (.make q0) v).m q = "white" ∨ (b.tu (.make q0) v).m q = "black" ∨ (b.tu (.make q0) v).m q = b.m q0 ∨ (b.tu (.make q0) v).m q = b.m q := by
      by_cases h : q = q0 <;> by_cases hv : v = true <;> by_cases hw : b.m q0 = "white" <;> simp [Bo.tu, h, hv, hw]
    rcases key with e | e | e | e <;> rw [e]
    · exact .inl rfl
    · exact .inr (.inr rfl)
    · exact ok q0
    · exact ok q
  | _ => exact ok q
theorem we_b {b : Bo} (ok : OkB b) {e : En} (he : e ∈ ENS) : WE b.d e (b.tu e true).d := by
  have hd := has_d b ok e he
  cases hv : b.has e with
  | true => exact .inl ⟨by rw [hd, hv], by rw [tu_same b e true hv]⟩
  | false =>
    rw [hv] at hd
    refine ens_cases (P := fun e => b.has e = false → hasE b.d e = some false → WE b.d e (b.tu e true).d) ?_ ?_ ?_ ?_ e he hv hd
    · intro _ hd; exact .inr ⟨hd, rfl⟩
    · intro q hq h hd
      have hm : b.m q = "white" := by simpa [Bo.has] using h
      refine .inr ⟨hd, ?_⟩
      rcases two q hq with rfl | rfl
      · show some _ = some (Bo.d _)
        simp [Bo.tu, Bo.d, hm]
      · show some _ = some (Bo.d _)
        simp [Bo.tu, Bo.d, hm]
    · intro p c hp hc _ hd
      refine .inr ⟨hd, ?_⟩
      rcases two p hp with rfl | rfl <;> rcases three c hc with rfl | rfl | rfl <;> rfl
    · intro p c w hp hc hw h hd
      have e1 : (fun z => if p = p ∧ c = c ∧ z = w then true else b.g p c z) = fun z => if z = w then true else b.g p c z := by funext z; simp
      refine .inr ⟨hd, gL (b.g p c), gL fun z => if p = p ∧ c = c ∧ z = w then true else b.g p c z, ?_, Nat.le_trans (gL_len _) (by decide), by rw [e1]; exact gL_put _ hw h, gL_sub _, ?_⟩
      · rcases two p hp with rfl | rfl <;> rcases three c hc with rfl | rfl | rfl <;> rfl
      · rcases two p hp with rfl | rfl <;> rcases three c hc with rfl | rfl | rfl <;> rfl
theorem wo_b {b : Bo} {e : En} (he : e ∈ ENS) : WO b.d e (b.tu e false).d := by
  refine ens_cases (P := fun e => WO b.d e (b.tu e false).d) ?_ ?_ ?_ ?_ e he
  · rfl
  · intro q hq
    rcases two q hq with rfl | rfl <;> rfl
  · intro p c hp hc
    rcases two p hp with rfl | rfl <;> rcases three c hc with rfl | rfl | rfl <;> rfl
  · intro p c w hp hc hw
    have e1 : (fun z => if p = p ∧ c = c ∧ z = w then false else b.g p c z) = fun z => if z = w then false else b.g p c z := by funext z; simp
    refine ⟨gL (b.g p c), ?_, Nat.le_trans (gL_len _) (by decide), ?_, gL_lay _ hw⟩
    · rcases two p hp with rfl | rfl <;> rcases three c hc with rfl | rfl | rfl <;> rfl
    · rw [gL_off, ← e1]
      rcases two p hp with rfl | rfl <;> rcases three c hc with rfl | rfl | rfl <;> rfl
theorem strs_step {w z : Str} {zs : List Str} {acc T : List PyData} (h : acc ++ ((z :: zs).filter fun x => !PyData.eqv (.str x) (.str w)).map .str = T) :
    (PyData.eqv (.str z) (.str w) = true → acc ++ (zs.filter fun x => !PyData.eqv (.str x) (.str w)).map .str = T) ∧ (PyData.eqv (.str z) (.str w) = false → (acc ++ [PyData.str z]) ++ (zs.filter fun x => !PyData.eqv (.str x) (.str w)).map .str = T) := by
  constructor
  · intro e
    rw [List.filter_cons, e] at h
    rw [← h]; simp
  · intro e
    rw [List.filter_cons, e] at h
    rw [← h]; simp
theorem ev11 : PyData.eqv (.str "last") (.str "last") = true := by decide +kernel
theorem ev12 : PyData.eqv (.str "make") (.str "last") = false := by decide +kernel
theorem ev13 : PyData.eqv (.str "read") (.str "last") = false := by decide +kernel
theorem ev14 : PyData.eqv (.str "write") (.str "last") = false := by decide +kernel
theorem ev15 : PyData.eqv (.str "write") (.str "make") = false := by decide +kernel
theorem ev16 : PyData.eqv (.str "write") (.str "read") = false := by decide +kernel
theorem m_eqok {z : Str} (h : z = "white" ∨ z = "grey" ∨ z = "black") : eqOk (.str z) (.str "white") = true := by
  rcases h with rfl | rfl | rfl <;> decide +kernel
theorem m_eq {z : Str} (h : PyData.eqv (.str z) (.str "white") = true) : z = "white" := by
  rw [eqv_s] at h; exact eq_of_beq h
theorem m_ne {z : Str} (h : PyData.eqv (.str z) (.str "white") = false) : ¬ z = "white" := by
  rw [eqv_s] at h; intro e; rw [e] at h; exact absurd h (by decide +kernel)
theorem gL_on (f : Str → Bool) {w : Str} (hw : WD3 w) : (gL fun z => if z = w then true else f z).Perm ((gL f).filter (fun z => !PyData.eqv (.str z) (.str w)) ++ [w]) := by
  rw [gL_off]
  have h := gL_put (fun z => if z = w then false else f z) hw (by simp)
  have e : (fun z => if z = w then true else (if z = w then false else f z)) = fun z => if z = w then true else f z := by
    funext z
    by_cases h : z = w <;> simp [h]
  rw [e] at h
  exact h
theorem fil_run {w : Str} {ss : List Str} {R : List PyData → Prop} {g : DTG} {tt : TTd} {te : TEd} {ρ : GB.En} {vs : List Nat}
    (hn : R ((ss.filter fun x => !PyData.eqv (.str x) (.str w)).map .str))
    (hc : ∀ z ∈ ss, ∀ (acc : List PyData) (K : List PyData → Prop), (PyData.eqv (.str z) (.str w) = true → K acc) → (PyData.eqv (.str z) (.str w) = false → K (acc ++ [.str z])) → g (.str z) ρ fun ρ2 => wipeD ρ2 vs = ρ ∧ tt ρ2 fun b ρ3 => ρ3 = ρ2 ∧ iteK b (te ρ2 fun s ρ4 => ρ4 = ρ2 ∧ oneK s fun y => K (acc ++ [y])) (K acc)) :
    dLcGo vs g tt te ρ R (ss.map .str) [] := by
  refine lcI (fun ds acc => ∃ zs : List Str, ds = zs.map .str ∧ (∀ z ∈ zs, z ∈ ss) ∧ acc ++ (zs.filter fun x => !PyData.eqv (.str x) (.str w)).map .str = (ss.filter fun x => !PyData.eqv (.str x) (.str w)).map .str) ?_ ?_ _ [] ⟨ss, rfl, fun _ h => h, rfl⟩
  · rintro acc ⟨zs, e, _, h5⟩
    cases zs with
    | nil =>
      have h5 : acc = (ss.filter fun x => !PyData.eqv (.str x) (.str w)).map .str := by rw [← h5]; simp
      subst h5
      exact hn
    | cons a r => cases e
  · rintro d ds acc K hK ⟨zs, e, h9, h5⟩
    cases zs with
    | nil => cases e
    | cons z zs =>
      cases e
      obtain ⟨k1, k2⟩ := strs_step h5
      exact hc z (h9 z (by simp)) acc K (fun a => hK _ ⟨zs, rfl, fun x hx => h9 x (by simp [hx]), k1 a⟩) fun a => hK _ ⟨zs, rfl, fun x hx => h9 x (by simp [hx]), k2 a⟩
theorem ens_or {e : En} (he : e ∈ ENS) : e = .last ∨ (∃ q, q < 2 ∧ e = .make q) ∨ (∃ p c, p < 2 ∧ c < 3 ∧ e = .read p c) ∨ ∃ p c w, p < 2 ∧ c < 3 ∧ WD3 w ∧ e = .write p c w :=
  ens_cases (P := fun e => e = .last ∨ (∃ q, q < 2 ∧ e = .make q) ∨ (∃ p c, p < 2 ∧ c < 3 ∧ e = .read p c) ∨ ∃ p c w, p < 2 ∧ c < 3 ∧ WD3 w ∧ e = .write p c w) (.inl rfl) (fun q hq => .inr (.inl ⟨q, hq, rfl⟩)) (fun p c hp hc => .inr (.inr (.inl ⟨p, c, hp, hc, rfl⟩))) (fun p c w hp hc hw => .inr (.inr (.inr ⟨p, c, w, hp, hc, hw, rfl⟩))) e he
/-! sizes -/
theorem gd_sm (f : Str → Bool) : Sm 1 40 (gdD f) := by
  unfold gdD
  rw [gL_bits]
  cases f "again" <;> cases f "new" <;> cases f "old" <;> exact sm_of (by decide +kernel)
theorem bl_sm (v : Bool) : Sm 0 12 (.bool v) := by cases v <;> exact sm_of (by decide +kernel)
theorem st_sm {z : Str} (h : z = "white" ∨ z = "grey" ∨ z = "black") : Sm 0 12 (.str z) := by rcases h with rfl | rfl | rfl <;> exact sm_of (by decide +kernel)
theorem t3_sm {D W : Nat} {x y z : PyData} (h1 : Sm D W x) (h2 : Sm D W y) (h3 : Sm D W z) : Sm (D + 1) (3 * (W + 1)) (.tuple [x, y, z]) :=
  sm_tup (fun u hu => by simp only [List.mem_cons, List.not_mem_nil, or_false] at hu; rcases hu with rfl | rfl | rfl <;> assumption) (by simp)
theorem t2_sm {D W : Nat} {x y : PyData} (h1 : Sm D W x) (h2 : Sm D W y) : Sm (D + 1) (2 * (W + 1)) (.tuple [x, y]) :=
  sm_tup (fun u hu => by simp only [List.mem_cons, List.not_mem_nil, or_false] at hu; rcases hu with rfl | rfl <;> assumption) (by simp)
theorem l2_sm {D W : Nat} {x y : PyData} (h1 : Sm D W x) (h2 : Sm D W y) : Sm (D + 1) (2 * (W + 1)) (.list [x, y]) :=
  sm_lst (fun u hu => by simp only [List.mem_cons, List.not_mem_nil, or_false] at hu; rcases hu with rfl | rfl <;> assumption) (by simp)
theorem bo_sm {b : Bo} (ok : OkB b) : Sm 5 2000 b.d := by
  have a : ∀ p, Sm 3 300 (.tuple [.tuple [gdD (b.g p 0), gdD (b.g p 1), gdD (b.g p 2)], .tuple [gdD (b.g p 0), gdD (b.g p 1), gdD (b.g p 2)]]) := fun p => (t2_sm (t3_sm (gd_sm _) (gd_sm _) (gd_sm _)) (t3_sm (gd_sm _) (gd_sm _) (gd_sm _))).mono (by decide) (by decide)
  have h1 : Sm 4 399 (.tuple [.tuple [gdD (b.g 0 0), gdD (b.g 0 1), gdD (b.g 0 2)], .tuple [gdD (b.g 1 0), gdD (b.g 1 1), gdD (b.g 1 2)]]) := (t2_sm (t3_sm (gd_sm _) (gd_sm _) (gd_sm _)) (t3_sm (gd_sm _) (gd_sm _) (gd_sm _))).mono (by decide) (by decide)
  have h2 : Sm 4 399 (.tuple [.tuple [.bool (b.r 0 0), .bool (b.r 0 1), .bool (b.r 0 2)], .tuple [.bool (b.r 1 0), .bool (b.r 1 1), .bool (b.r 1 2)]]) := (t2_sm (t3_sm (bl_sm _) (bl_sm _) (bl_sm _)) (t3_sm (bl_sm _) (bl_sm _) (bl_sm _))).mono (by decide) (by decide)
  have h3 : Sm 4 399 (.tuple [.str (b.m 0), .str (b.m 1)]) := (t2_sm (st_sm (ok 0)) (st_sm (ok 1))).mono (by decide) (by decide)
  have h4 : Sm 4 399 (.bool b.l) := (bl_sm _).mono (by decide) (by decide)
  have h5 : Sm 4 399 (.bool b.p) := (bl_sm _).mono (by decide) (by decide)
  exact (sm_tup (n := 5) (fun u hu => by simp only [List.mem_cons, List.not_mem_nil, or_false] at hu; rcases hu with rfl | rfl | rfl | rfl | rfl <;> assumption) (by simp)).mono (by decide) (by decide)
theorem en_sm {e : En} (he : e ∈ ENS) : Sm 1 60 e.d := sm_of (all_of' he)
where all_of' {e : En} (he : e ∈ ENS) : smB 1 60 e.d = true := List.all_eq_true.mp (show ENS.all (fun e => smB 1 60 e.d) = true by decide +kernel) e he
theorem ens_sm (P : En → Bool) : Sm 2 2000 (.tuple ((ENS.filter P).map En.d)) :=
  (sm_tup (n := 27) (fun u hu => by
    obtain ⟨e, h1, rfl⟩ := List.mem_map.mp hu
    exact en_sm (List.mem_filter.mp h1).1) (by rw [List.length_map]; exact List.length_filter_le _ _)).mono (by decide) (by decide)
/-! entries, turned -/
theorem tu_has (b : Bo) (e e' : En) (v : Bool) : (b.tu e v).has e' = if e' = e then v else b.has e' := by
  by_cases h : e' = e
  · subst h
    rw [if_pos rfl]
    cases e' with
    | make q =>
      simp only [Bo.tu, Bo.has, if_true]
      cases v with
      | false => simp
      | true =>
        by_cases hw : b.m q = "white"
        · simp only [hw, if_true]; decide +kernel
        · simp [hw]
    | _ => simp [Bo.tu, Bo.has]
  · rw [if_neg h]
    cases e <;> cases e' <;> simp_all [Bo.tu, Bo.has]
theorem ent_b {b : Bo} (ok : OkB b) : entD b.d = (ENS.filter b.has).map En.d := by
  unfold entD
  congr 1
  refine List.filter_congr fun e he => ?_
  rw [has_d b ok e he]
  cases b.has e <;> rfl
theorem ens_eq {e e' : En} (h : e ∈ ENS) (h' : e' ∈ ENS) : eqOk e.d e'.d = true ∧ PyData.eqv e.d e'.d = decide (e = e') := by
  have k := List.all_eq_true.mp (List.all_eq_true.mp (show ENS.all (fun e => ENS.all fun e' => eqOk e.d e'.d && (PyData.eqv e.d e'.d == decide (e = e'))) = true by decide +kernel) e h) e' h'
  simp only [Bool.and_eq_true, beq_iff_eq] at k
  exact k
theorem ent_run {P : En → Bool} {R : List PyData → Prop} {g : DTG} {tt : TTd} {te : TEd} {ρ : GB.En} {vs : List Nat}
    (hn : R ((ENS.filter P).map En.d))
    (hc : ∀ e ∈ ENS, ∀ (acc : List PyData) (K : List PyData → Prop), (P e = true → K (acc ++ [e.d])) → (P e = false → K acc) → g e.d ρ fun ρ2 => wipeD ρ2 vs = ρ ∧ tt ρ2 fun b ρ3 => ρ3 = ρ2 ∧ iteK b (te ρ2 fun s ρ4 => ρ4 = ρ2 ∧ oneK s fun y => K (acc ++ [y])) (K acc)) :
    dLcGo vs g tt te ρ R (ENS.map En.d) [] := by
  refine lcI (fun ds acc => ∃ es : List En, ds = es.map En.d ∧ (∀ z ∈ es, z ∈ ENS) ∧ acc ++ (es.filter P).map En.d = (ENS.filter P).map En.d) ?_ ?_ _ [] ⟨ENS, rfl, fun _ h => h, rfl⟩
  · rintro acc ⟨es, e, _, h5⟩
    cases es with
    | nil =>
      have h5 : acc = (ENS.filter P).map En.d := by rw [← h5]; simp
      subst h5
      exact hn
    | cons a r => cases e
  · rintro d ds acc K hK ⟨es, e, h9, h5⟩
    cases es with
    | nil => cases e
    | cons z zs =>
      cases e
      refine hc z (h9 z (by simp)) acc K (fun a => hK _ ⟨zs, rfl, fun x hx => h9 x (by simp [hx]), ?_⟩) fun a => hK _ ⟨zs, rfl, fun x hx => h9 x (by simp [hx]), ?_⟩
      · rw [← h5, List.filter_cons, a]; simp
      · rw [← h5, List.filter_cons, a]; simp
theorem eqv_self {z : Str} : PyData.eqv (.str z) (.str z) = true := by rw [eqv_s]; simp
theorem tu_tu (b : Bo) (e : En) (h : b.has e = false) : (b.tu e true).tu e false = b := by
  have e1 : (b.tu e true).tu e false = b.tu e false := by
    cases e with
    | last => rfl
    | make q =>
      simp only [Bo.tu, Bo.mk.injEq, true_and, and_true]
      funext q'
      by_cases h : q' = q <;> simp [h]
    | read p c =>
      simp only [Bo.tu, Bo.mk.injEq, true_and, and_true]
      funext a d
      by_cases h : a = p ∧ d = c <;> simp [h]
    | write p c w =>
      simp only [Bo.tu, Bo.mk.injEq, true_and, and_true]
      funext a d x
      by_cases h : a = p ∧ d = c ∧ x = w <;> simp [h]
  rw [e1, tu_same b e false h]
theorem isS {b : Bo} (ok : OkB b) : ∀ e ∈ ENS, (hasE b.d e).isSome = true := fun e he => by rw [has_d b ok e he]; rfl
/-- lists of guards -/
def GdL (xs : List PyData) : Prop := ∀ x ∈ xs, ∃ f, x = gdD f
theorem six {P : PyData → Prop} {xs : List PyData} (h : xs.length = 6) (hx : ∀ x ∈ xs, P x) : ∃ a b c d e f, xs = [a, b, c, d, e, f] ∧ P a ∧ P b ∧ P c ∧ P d ∧ P e ∧ P f := by
  match xs, h with
  | [a, b, c, d, e, f], _ => exact ⟨a, b, c, d, e, f, rfl, hx a (by simp), hx b (by simp), hx c (by simp), hx d (by simp), hx e (by simp), hx f (by simp)⟩
def pk {α : Type} (a b c d e f : α) (p q : Nat) : α := if p = 0 then (if q = 0 then a else if q = 1 then b else c) else (if q = 0 then d else if q = 1 then e else f)
theorem gd_abc (a n o : Bool) : ∃ f, gdD f = .tuple (((if a = true then ([("again" : Str)] : List Str) else []) ++ ((if n = true then ([("new" : Str)] : List Str) else []) ++ (if o = true then ([("old" : Str)] : List Str) else []))).map .str) := by
  refine ⟨fun z => if z = "again" then a else if z = "new" then n else o, ?_⟩
  unfold gdD
  rw [gL_bits]
  simp only [nan, noan, non', if_true, if_false]
theorem d_ext {b b' : Bo} (h : ∀ e ∈ ENS, b.has e = b'.has e) (h0 : b.m 0 = b'.m 0) (h1 : b.m 1 = b'.m 1) (hp : b.p = b'.p) : b.d = b'.d := by
  have g : ∀ p c, p < 2 → c < 3 → gdD (b.g p c) = gdD (b'.g p c) := fun p c hp hc => by
    have k : ∀ w, WD3 w → b.g p c w = b'.g p c w := fun w hw => by
      refine h (.write p c w) ?_
      rcases two p hp with rfl | rfl <;> rcases three c hc with rfl | rfl | rfl <;> rcases hw with rfl | rfl | rfl <;> simp [ENS]
    unfold gdD
    rw [gL_bits, gL_bits (b'.g p c), k "again" (.inl rfl), k "new" (.inr (.inl rfl)), k "old" (.inr (.inr rfl))]
  have r : ∀ p c, p < 2 → c < 3 → b.r p c = b'.r p c := fun p c hp hc => by
    refine h (.read p c) ?_
    rcases two p hp with rfl | rfl <;> rcases three c hc with rfl | rfl | rfl <;> simp [ENS]
  have l : b.l = b'.l := h .last (by simp [ENS])
  unfold Bo.d
  rw [g 0 0 (by decide) (by decide), g 0 1 (by decide) (by decide), g 0 2 (by decide) (by decide), g 1 0 (by decide) (by decide), g 1 1 (by decide) (by decide), g 1 2 (by decide) (by decide),
    r 0 0 (by decide) (by decide), r 0 1 (by decide) (by decide), r 0 2 (by decide) (by decide), r 1 0 (by decide) (by decide), r 1 1 (by decide) (by decide), r 1 2 (by decide) (by decide), l, h0, h1, hp]
def bare (p : Bool) : Bo := ⟨fun _ _ _ => false, fun _ _ => false, fun _ => "white", false, p⟩
theorem bare_has (p : Bool) (e : En) : (bare p).has e = false := by
  cases e with
  | make q => show (!(("white" : Str) == "white")) = false; decide +kernel
  | _ => rfl
theorem fx4 {b : Bo} {k : S → Prop} (h : k (.d (.bool b.p))) : fIx b.d (.int 4) k := ⟨4, rfl, .bool b.p, rfl, h⟩
theorem m_tu {b : Bo} (h : ∀ q, b.m q = "white" ∨ b.m q = "black") (e : En) : ∀ q, (b.tu e true).m q = "white" ∨ (b.tu e true).m q = "black" := by
  intro q
  cases e with
  | make q0 =>
    have key : (b.tu (.make q0) true).m q = "black" ∨ (b.tu (.make q0) true).m q = b.m q0 ∨ (b.tu (.make q0) true).m q = b.m q := by
      by_cases h : q = q0 <;> by_cases hw : b.m q0 = "white" <;> simp [Bo.tu, h, hw]
    rcases key with e | e | e <;> rw [e]
    · exact .inr rfl
    · exact h q0
    · exact h q
  | _ => exact h q
theorem tu_p (b : Bo) (e : En) (v : Bool) : (b.tu e v).p = b.p := by cases e <;> rfl
def bl (b : Bo) : Bo := { b with m := fun q => if b.m q = "white" then "white" else "black" }
theorem cut5a {a b c d e : PyData} : GB.cutD [a, b, c, d, e] none (some 2) = [a, b] := rfl
theorem cut5b {a b c d e : PyData} : GB.cutD [a, b, c, d, e] (some 3) none = [d, e] := rfl
end GK

set_option maxRecDepth 100000
namespace GK
open PySem PySem.Spec PyProof.Rows L2 GB
/-! runs of comprehensions and loops -/
section
variable {P : PyData → Prop} {ds : List PyData} {R : List PyData → Prop} {g : DTG} {tt : TTd} {te : TEd} {ρ : GB.En} {vs : List Nat}
/-- each item is so -/
theorem eachR (hn : ∀ acc : List PyData, acc.length = ds.length → (∀ x ∈ acc, P x) → R acc)
    (hc : ∀ d ∈ ds, ∀ (acc : List PyData) (K : List PyData → Prop), (∀ x, P x → K (acc ++ [x])) → g d ρ fun ρ2 => wipeD ρ2 vs = ρ ∧ tt ρ2 fun b ρ3 => ρ3 = ρ2 ∧ iteK b (te ρ2 fun s ρ4 => ρ4 = ρ2 ∧ oneK s fun y => K (acc ++ [y])) (K acc)) :
    dLcGo vs g tt te ρ R ds [] := by
  refine lcI (fun es acc => (∀ d ∈ es, d ∈ ds) ∧ acc.length + es.length = ds.length ∧ ∀ x ∈ acc, P x) ?_ ?_ ds [] ⟨fun _ h => h, by simp, fun _ h => nomatch h⟩
  · rintro acc ⟨_, h1, h2⟩
    exact hn acc (by simpa using h1) h2
  · rintro d es acc K hK ⟨h0, h1, h2⟩
    refine hc d (h0 d (by simp)) acc K fun x hx => hK _ ⟨fun z hz => h0 z (by simp [hz]), by simp at h1 ⊢; omega, fun y hy => ?_⟩
    rcases List.mem_append.mp hy with hy | hy
    · exact h2 y hy
    · rw [List.mem_singleton.mp hy]; exact hx
/-- each item stands for that of its place -/
theorem placeR {P : Nat → PyData → Prop} (hn : ∀ acc : List PyData, acc.length = ds.length → (∀ i x, acc[i]? = some x → P i x) → R acc)
    (hc : ∀ i d, ds[i]? = some d → ∀ (acc : List PyData) (K : List PyData → Prop), (∀ x, P i x → K (acc ++ [x])) → g d ρ fun ρ2 => wipeD ρ2 vs = ρ ∧ tt ρ2 fun b ρ3 => ρ3 = ρ2 ∧ iteK b (te ρ2 fun s ρ4 => ρ4 = ρ2 ∧ oneK s fun y => K (acc ++ [y])) (K acc)) :
    dLcGo vs g tt te ρ R ds [] := by
  refine lcI (fun es acc => es = ds.drop acc.length ∧ acc.length ≤ ds.length ∧ ∀ i x, acc[i]? = some x → P i x) ?_ ?_ ds [] ⟨rfl, Nat.zero_le _, fun _ _ h => nomatch h⟩
  · rintro acc ⟨h0, h1, h2⟩
    have := congrArg List.length h0
    rw [List.length_drop] at this
    exact hn acc (by simp at this; omega) h2
  · rintro d es acc K hK ⟨h0, h1, h2⟩
    have hl : acc.length < ds.length := by
      have := congrArg List.length h0
      rw [List.length_drop] at this
      simp at this; omega
    rw [List.drop_eq_getElem_cons hl] at h0
    obtain ⟨rfl, rfl⟩ := List.cons.inj h0
    refine hc acc.length _ (List.getElem?_eq_getElem hl) acc K fun x hx => hK _ ⟨by simp, by simp; omega, fun i y hy => ?_⟩
    by_cases hi : i < acc.length
    · rw [List.getElem?_append_left hi] at hy; exact h2 i y hy
    · rw [List.getElem?_append_right (by omega)] at hy
      have e : i = acc.length := by
        have := (List.getElem?_eq_some_iff.mp hy).1
        simp at this; omega
      subst e
      simp at hy
      subst hy; exact hx
/-- the list as it is reckoned -/
theorem mapR {f : PyData → Option PyData} (hn : R (ds.filterMap f))
    (hc : ∀ d ∈ ds, ∀ (acc : List PyData) (K : List PyData → Prop), K (acc ++ (f d).toList) → g d ρ fun ρ2 => wipeD ρ2 vs = ρ ∧ tt ρ2 fun b ρ3 => ρ3 = ρ2 ∧ iteK b (te ρ2 fun s ρ4 => ρ4 = ρ2 ∧ oneK s fun y => K (acc ++ [y])) (K acc)) :
    dLcGo vs g tt te ρ R ds [] := by
  refine lcI (fun es acc => (∀ d ∈ es, d ∈ ds) ∧ acc ++ es.filterMap f = ds.filterMap f) ?_ ?_ ds [] ⟨fun _ h => h, rfl⟩
  · rintro acc ⟨_, h1⟩
    have h1 : acc = ds.filterMap f := by rw [← h1]; simp
    rw [h1]; exact hn
  · rintro d es acc K hK ⟨h0, h1⟩
    refine hc d (h0 d (by simp)) acc K (hK _ ⟨fun z hz => h0 z (by simp [hz]), ?_⟩)
    rw [← h1, List.append_assoc]
    cases h : f d <;> simp [h]
end
theorem whileR {tc : TTd} {tb : TSd} {D : EndsD} {ρ : GB.En} (I : Nat → GB.En → Prop) (h0 : ∃ m, I m ρ) (hs : ∀ m ρ (K : GB.En → Prop), (∀ m' ρ', m' < m → I m' ρ' → K ρ') → I m ρ → tc ρ fun b ρ1 => iteK b (tb { nx := K, ct := K, bk := D.nx, rt := D.rt } ρ1) (D.nx ρ1)) : dWhile tc tb D ρ :=
  ⟨I, h0, fun m ρ h => hs m ρ _ (fun m' ρ' hm hi => ⟨m', hm, hi⟩) h⟩
theorem pairsFrom_mem : ∀ {ys : List PyData} {k : Int} {x : PyData}, x ∈ pairsFrom k ys → ∃ (i : Nat) (y : PyData), ys[i]? = some y ∧ x = .tuple [.int (k + i), y]
  | [], _, _, h => by simp [pairsFrom] at h
  | y :: ys, k, x, h => by
    unfold pairsFrom at h
    rcases List.mem_cons.mp h with rfl | h
    · exact ⟨0, y, rfl, by simp⟩
    · obtain ⟨i, z, e, rfl⟩ := pairsFrom_mem (ys := ys) h
      exact ⟨i + 1, z, by simpa using e, by simp; omega⟩
theorem pairsFrom_at : ∀ {ys : List PyData} {k : Int} {i : Nat} {x : PyData}, (pairsFrom k ys)[i]? = some x → ∃ y, ys[i]? = some y ∧ x = .tuple [.int (k + i), y]
  | [], _, _, _, h => by simp [pairsFrom] at h
  | y :: ys, k, 0, x, h => by simp [pairsFrom] at h; exact ⟨y, rfl, by simp [← h]⟩
  | y :: ys, k, i + 1, x, h => by
    have h : (pairsFrom (k + 1) ys)[i]? = some x := by simpa [pairsFrom] using h
    obtain ⟨z, e, rfl⟩ := pairsFrom_at (ys := ys) h
    exact ⟨z, by simpa using e, by simp; omega⟩
theorem irow_at : ∀ {n : Nat} {k : Int} {i : Nat} {x : PyData}, (irow k n)[i]? = some x → i < n ∧ x = .int (k + i)
  | 0, _, _, _, h => by simp [irow] at h
  | n + 1, k, 0, x, h => by rw [irow_succ] at h; simp at h; exact ⟨by omega, by simp [← h]⟩
  | n + 1, k, i + 1, x, h => by
    rw [irow_succ] at h
    obtain ⟨a, rfl⟩ := irow_at (n := n) (show (irow (k + 1) n)[i]? = some x by simpa using h)
    exact ⟨by omega, by simp; omega⟩
theorem irow_mem {n : Nat} {k : Int} {x : PyData} (h : x ∈ irow k n) : ∃ i : Nat, i < n ∧ x = .int (k + i) := by
  obtain ⟨i, hi⟩ := List.getElem?_of_mem h
  exact ⟨i, irow_at hi⟩
/-- a draw, one of some items -/
def F_l_draw : FnD := fun ss R => ∃ m : Int, ss = [.ob .jar, .d (.int m)] ∧ m < 1073741824 ∧ ∀ r : Int, 0 ≤ r → (1 ≤ m → r < m) → R (.d (.int r))
def F_l_pick : FnD := fun ss R => ∃ xs : List PyData, ss = [.ob .jar, .d (.list xs)] ∧ xs ≠ [] ∧ xs.length < 1000 ∧ ∀ x ∈ xs, R (.d x)
def F_l_bag : FnD := fun ss R => ∃ ns, ss = [.ob (.scr ns)] ∧ ns.length ≤ 63 ∧ R (.ob .jar)
theorem s_draw {k : S → Prop} {m : Int} : F_l_draw [.ob .jar, .d (.int m)] k ↔ m < 1073741824 ∧ ∀ r : Int, 0 ≤ r → (1 ≤ m → r < m) → k (.d (.int r)) := by simp [F_l_draw]
theorem s_pick {k : S → Prop} {xs : List PyData} : F_l_pick [.ob .jar, .d (.list xs)] k ↔ xs ≠ [] ∧ xs.length < 1000 ∧ ∀ x ∈ xs, k (.d x) := by simp [F_l_pick]
def F_l_put : FnD := fun ss R => ∃ (xs : List PyData) (i : Nat) (x : PyData), ss = [.d (.tuple xs), .d (.int i), .d x] ∧ i < xs.length ∧ xs.length ≤ 100000 ∧ R (.d (.tuple (xs.set i x)))
theorem s_put {k : S → Prop} {xs : List PyData} {i : Nat} {x : PyData} : F_l_put [.d (.tuple xs), .d (.int i), .d x] k ↔ i < xs.length ∧ xs.length ≤ 100000 ∧ k (.d (.tuple (xs.set i x))) := by
  constructor
  · rintro ⟨xs', i', x', e, h⟩
    simp only [List.cons.injEq, S.d.injEq, PyData.tuple.injEq, PyData.int.injEq, and_true] at e
    obtain ⟨rfl, e, rfl⟩ := e
    have e : i = i' := by omega
    subst e; exact h
  · exact fun h => ⟨xs, i, x, rfl, h⟩
end GK

set_option maxRecDepth 100000
namespace GK
open PySem PySem.Spec PyProof.Rows L2 GB
/-! standings and deeds, typed -/
inductive Mr where
  | free | white | black
  | gr (k : Nat)
  deriving DecidableEq
def mrD : Mr → PyData
  | .free => .str "free"
  | .white => .str "white"
  | .black => .str "black"
  | .gr k => .int (k : Nat)
def ocD : Option Nat → PyData
  | none => .none
  | some i => .int (i : Nat)
abbrev Rw := List (Option Nat)
def rowD (c : Rw) : PyData := .tuple (c.map ocD)
def rowsD (h : List Rw) : PyData := .tuple (h.map rowD)
def mksD (m : List Mr) : PyData := .tuple (m.map mrD)
def blsD (l : List Bool) : PyData := .tuple (l.map .bool)
structure St where
  h : List Rw
  m : List Mr
  r : List Rw
  l : List Bool
def St.d (s : St) : PyData := .tuple [rowsD s.h, mksD s.m, rowsD s.r, blsD s.l]
structure Wf (s : St) : Prop where
  mh : s.m.length = s.h.length
  lr : s.l.length = s.r.length
  n : s.h.length ≤ 40
  f : ∀ c ∈ s.h, c.length ≤ 3 ∧ ∀ i, some i ∈ c → i < s.h.length
  g : ∀ i k, s.m[i]? = some (.gr k) → k < (s.h.getD i []).length
  e : ∀ i, s.m[i]? = some .free → s.h.getD i [] = []
  nf : ∀ c ∈ s.h, ∀ i, some i ∈ c → s.m[i]? ≠ some .free
  r1 : 1 ≤ s.r.length
  r4 : s.r.length ≤ 4
  q : ∀ c ∈ s.r, 1 ≤ c.length ∧ c.length ≤ 4 ∧ ∀ i, some i ∈ c → i < s.h.length ∧ s.m[i]? ≠ some .free
inductive Dd where
  | look (h : Nat)
  | scan (c : Nat)
  | drop (h i : Nat)
  | copy (h i j : Nat)
  | make (h i n : Nat)
  | read (h i f j : Nat)
  | write (h i f : Nat) (j : Option Nat)
  deriving DecidableEq
def Dd.d : Dd → PyData
  | .look h => .tuple [.str "look", .int (h : Nat)]
  | .scan c => .tuple [.str "scan", .int (c : Nat)]
  | .drop h i => .tuple [.str "drop", .int (h : Nat), .int (i : Nat)]
  | .copy h i j => .tuple [.str "copy", .int (h : Nat), .int (i : Nat), .int (j : Nat)]
  | .make h i n => .tuple [.str "make", .int (h : Nat), .int (i : Nat), .int (n : Nat)]
  | .read h i f j => .tuple [.str "read", .int (h : Nat), .int (i : Nat), .int (f : Nat), .int (j : Nat)]
  | .write h i f j => .tuple [.str "write", .int (h : Nat), .int (i : Nat), .int (f : Nat), ocD j]
/-! what is wrong with a value as a deed -/
def numW : Str → Option Nat := fun w => if w = "look" then some 1 else if w = "scan" then some 1 else if w = "drop" then some 2 else if w = "copy" then some 3 else if w = "make" then some 3 else if w = "read" then some 4 else if w = "write" then some 4 else none
def okN : PyData → Bool
  | .int i => decide (0 ≤ i)
  | _ => false
def cut3 : List PyData → List PyData
  | [a, b, c, .none] => [a, b, c]
  | xs => xs
def nsW (w : Str) (xs : List PyData) : List PyData := if w = "write" then cut3 xs else xs
def dform : PyData → Bool
  | .tuple (.str w :: xs) => (numW w == some xs.length) && (nsW w xs).all okN
  | _ => false
abbrev Er := Option Str
def errD : Er → PyData
  | none => .none
  | some z => .str z
def Dd.rooms : Dd → List (Option Nat)
  | .look _ | .scan _ => []
  | .drop _ i => [some i]
  | .copy _ i j => [some i, some j]
  | .make _ i _ => [some i]
  | .read _ i _ j => [some i, some j]
  | .write _ i _ j => [some i, j]
def Dd.hand : Dd → Nat
  | .look h | .scan h | .drop h _ | .copy h _ _ | .make h _ _ | .read h _ _ _ | .write h _ _ _ => h
def badRoom (n : Nat) : List (Option Nat) → Bool := fun rs => rs.any fun o => match o with
  | some i => decide (n ≤ i)
  | none => false
def makeE (m : List Mr) (n : Nat) : Er := if 3 < n then some "fields" else if Mr.free ∈ m then none else some "closed"
def fieldE (h : List Rw) (c : Option Nat) (f : Nat) : Er := match c with
  | none => some "empty"
  | some i => if (h.getD i []).length ≤ f then some "field" else none
def scanE (m : List Mr) (c : Nat) : Er := match m[c]? with
  | none => some "cell"
  | some (.gr _) => none
  | some _ => some "closed"
def roomE (s : St) (d : Dd) : Er :=
  let row := s.r.getD d.hand []
  if badRoom row.length d.rooms = true then some "room" else match d with
  | .make _ _ n => makeE s.m n
  | .read _ i f _ | .write _ i f _ => fieldE s.h (row.getD i none) f
  | _ => none
def fltD (s : St) (d : Dd) : Er := match d with
  | .scan c => scanE s.m c
  | .look h => if s.r.length ≤ h then some "hand" else if s.l.getD h false = true then some "closed" else none
  | d => if s.r.length ≤ d.hand then some "hand" else roomE s d
/-- reading a deed back -/
def natD : PyData → Nat
  | .int i => i.toNat
  | _ => 0
def natO : PyData → Option Nat
  | .int i => some i.toNat
  | _ => none
def deedOf : PyData → Option Dd := fun v => if dform v = true then match v with
  | .tuple [.str w, a] => if w = "look" then some (.look (natD a)) else some (.scan (natD a))
  | .tuple [_, a, b] => some (.drop (natD a) (natD b))
  | .tuple [.str w, a, b, c] => if w = "copy" then some (.copy (natD a) (natD b) (natD c)) else some (.make (natD a) (natD b) (natD c))
  | .tuple [.str w, a, b, c, e] => if w = "read" then some (.read (natD a) (natD b) (natD c) (natD e)) else some (.write (natD a) (natD b) (natD c) (natO e))
  | _ => none else none
def derr (s : St) (v : PyData) : Er := match deedOf v with
  | none => some "form"
  | some d => fltD s d
theorem nat_of {x : PyData} (h : okN x = true) : x = .int (natD x : Nat) := by
  cases x with
  | int i => have : 0 ≤ i := of_decide_eq_true h; simp [natD, Int.toNat_of_nonneg this]
  | _ => cases h
theorem numW_cases {w : Str} {n : Nat} (h : numW w = some n) : (w = "look" ∧ n = 1) ∨ (w = "scan" ∧ n = 1) ∨ (w = "drop" ∧ n = 2) ∨ (w = "copy" ∧ n = 3) ∨ (w = "make" ∧ n = 3) ∨ (w = "read" ∧ n = 4) ∨ (w = "write" ∧ n = 4) := by
  unfold numW at h
  by_cases h1 : w = "look"
  · rw [if_pos h1] at h; cases h; exact .inl ⟨h1, rfl⟩
  rw [if_neg h1] at h
  by_cases h2 : w = "scan"
  · rw [if_pos h2] at h; cases h; exact .inr (.inl ⟨h2, rfl⟩)
  rw [if_neg h2] at h
  by_cases h3 : w = "drop"
  · rw [if_pos h3] at h; cases h; exact .inr (.inr (.inl ⟨h3, rfl⟩))
  rw [if_neg h3] at h
  by_cases h4 : w = "copy"
  · rw [if_pos h4] at h; cases h; exact .inr (.inr (.inr (.inl ⟨h4, rfl⟩)))
  rw [if_neg h4] at h
  by_cases h5 : w = "make"
  · rw [if_pos h5] at h; cases h; exact .inr (.inr (.inr (.inr (.inl ⟨h5, rfl⟩))))
  rw [if_neg h5] at h
  by_cases h6 : w = "read"
  · rw [if_pos h6] at h; cases h; exact .inr (.inr (.inr (.inr (.inr (.inl ⟨h6, rfl⟩)))))
  rw [if_neg h6] at h
  by_cases h7 : w = "write"
  · rw [if_pos h7] at h; cases h; exact .inr (.inr (.inr (.inr (.inr (.inr ⟨h7, rfl⟩)))))
  rw [if_neg h7] at h; cases h
theorem form_of {w : Str} {xs : List PyData} (h : dform (.tuple (.str w :: xs)) = true) : numW w = some xs.length ∧ (nsW w xs).all okN = true := by
  have h : ((numW w == some xs.length) && (nsW w xs).all okN) = true := h
  rw [Bool.and_eq_true, beq_iff_eq] at h; exact h
theorem deed_some {v : PyData} (h : dform v = true) : ∃ d : Dd, deedOf v = some d ∧ v = d.d := by
  cases v with
  | tuple ys =>
    cases ys with
    | nil => cases h
    | cons y xs =>
      cases y with
      | str w =>
        obtain ⟨hw, ha⟩ := form_of h
        unfold deedOf
        rw [if_pos h]
        have one : ∀ x : PyData, okN x = true → x = .int (natD x : Nat) := fun x => nat_of
        rcases numW_cases hw with ⟨rfl, hn⟩ | ⟨rfl, hn⟩ | ⟨rfl, hn⟩ | ⟨rfl, hn⟩ | ⟨rfl, hn⟩ | ⟨rfl, hn⟩ | ⟨rfl, hn⟩
        · match xs, hn, ha with
          | [a], _, ha =>
            have ha : okN a = true := by rw [show nsW _ [a] = [a] from if_neg (by decide)] at ha; simpa using ha
            exact ⟨.look (natD a), rfl, by rw [one a ha]; rfl⟩
        · match xs, hn, ha with
          | [a], _, ha =>
            have ha : okN a = true := by rw [show nsW _ [a] = [a] from if_neg (by decide)] at ha; simpa using ha
            exact ⟨.scan (natD a), rfl, by rw [one a ha]; rfl⟩
        · match xs, hn, ha with
          | [a, b], _, ha =>
            have ha : okN a = true ∧ okN b = true := by rw [show nsW _ [a, b] = [a, b] from if_neg (by decide)] at ha; simpa using ha
            exact ⟨.drop (natD a) (natD b), rfl, by rw [one a ha.1, one b ha.2]; rfl⟩
        · match xs, hn, ha with
          | [a, b, c], _, ha =>
            have ha : okN a = true ∧ okN b = true ∧ okN c = true := by rw [show nsW _ [a, b, c] = [a, b, c] from if_neg (by decide)] at ha; simpa using ha
            exact ⟨.copy (natD a) (natD b) (natD c), rfl, by rw [one a ha.1, one b ha.2.1, one c ha.2.2]; rfl⟩
        · match xs, hn, ha with
          | [a, b, c], _, ha =>
            have ha : okN a = true ∧ okN b = true ∧ okN c = true := by rw [show nsW _ [a, b, c] = [a, b, c] from if_neg (by decide)] at ha; simpa using ha
            exact ⟨.make (natD a) (natD b) (natD c), rfl, by rw [one a ha.1, one b ha.2.1, one c ha.2.2]; rfl⟩
        · match xs, hn, ha with
          | [a, b, c, e], _, ha =>
            have ha : okN a = true ∧ okN b = true ∧ okN c = true ∧ okN e = true := by rw [show nsW _ [a, b, c, e] = [a, b, c, e] from if_neg (by decide)] at ha; simpa using ha
            exact ⟨.read (natD a) (natD b) (natD c) (natD e), rfl, by rw [one a ha.1, one b ha.2.1, one c ha.2.2.1, one e ha.2.2.2]; rfl⟩
        · match xs, hn, ha with
          | [a, b, c, e], _, ha =>
            refine ⟨.write (natD a) (natD b) (natD c) (natO e), rfl, ?_⟩
            by_cases he : e = .none
            · subst he
              have ha : okN a = true ∧ okN b = true ∧ okN c = true := by rw [show nsW _ [a, b, c, .none] = [a, b, c] from if_pos rfl] at ha; simpa using ha
              rw [one a ha.1, one b ha.2.1, one c ha.2.2]; rfl
            · have ha : okN a = true ∧ okN b = true ∧ okN c = true ∧ okN e = true := by
                rw [show nsW _ [a, b, c, e] = cut3 [a, b, c, e] from if_pos rfl, show cut3 [a, b, c, e] = [a, b, c, e] by cases e <;> first | rfl | exact absurd rfl he] at ha
                simpa using ha
              obtain ⟨h1, h2, h3, h4⟩ := ha
              have e4 : ocD (natO e) = e := by
                cases e with
                | int i => exact (nat_of h4).symm
                | _ => cases h4
              show PyData.tuple [.str "write", a, b, c, e] = .tuple [.str "write", .int (natD a : Nat), .int (natD b : Nat), .int (natD c : Nat), ocD (natO e)]
              rw [← one a h1, ← one b h2, ← one c h3, e4]
      | _ => cases h
  | _ => cases h
theorem deed_none {v : PyData} (h : dform v = false) : deedOf v = none := by
  unfold deedOf
  rw [if_neg (by rw [h]; decide)]
theorem form_dd (d : Dd) : dform d.d = true := by
  cases d with
  | write h i f j =>
    show ((numW "write" == some 4) && (nsW "write" [.int (h : Nat), .int (i : Nat), .int (f : Nat), ocD j]).all okN) = true
    rw [show numW "write" = some 4 by decide, show nsW "write" [.int (h : Nat), .int (i : Nat), .int (f : Nat), ocD j] = cut3 [.int (h : Nat), .int (i : Nat), .int (f : Nat), ocD j] from if_pos rfl]
    cases j <;> simp [cut3, okN, ocD]
  | look h => show ((numW "look" == some 1) && (nsW "look" [.int (h : Nat)]).all okN) = true; rw [show numW "look" = some 1 by decide, show nsW "look" [.int (h : Nat)] = [.int (h : Nat)] from if_neg (by decide)]; simp [okN]
  | scan h => show ((numW "scan" == some 1) && (nsW "scan" [.int (h : Nat)]).all okN) = true; rw [show numW "scan" = some 1 by decide, show nsW "scan" [.int (h : Nat)] = [.int (h : Nat)] from if_neg (by decide)]; simp [okN]
  | drop h i => show ((numW "drop" == some 2) && (nsW "drop" [.int (h : Nat), .int (i : Nat)]).all okN) = true; rw [show numW "drop" = some 2 by decide, show nsW "drop" [.int (h : Nat), .int (i : Nat)] = [.int (h : Nat), .int (i : Nat)] from if_neg (by decide)]; simp [okN]
  | copy h i j => show ((numW "copy" == some 3) && (nsW "copy" [.int (h : Nat), .int (i : Nat), .int (j : Nat)]).all okN) = true; rw [show numW "copy" = some 3 by decide, show nsW "copy" [.int (h : Nat), .int (i : Nat), .int (j : Nat)] = [.int (h : Nat), .int (i : Nat), .int (j : Nat)] from if_neg (by decide)]; simp [okN]
  | make h i j => show ((numW "make" == some 3) && (nsW "make" [.int (h : Nat), .int (i : Nat), .int (j : Nat)]).all okN) = true; rw [show numW "make" = some 3 by decide, show nsW "make" [.int (h : Nat), .int (i : Nat), .int (j : Nat)] = [.int (h : Nat), .int (i : Nat), .int (j : Nat)] from if_neg (by decide)]; simp [okN]
  | read h i f j => show ((numW "read" == some 4) && (nsW "read" [.int (h : Nat), .int (i : Nat), .int (f : Nat), .int (j : Nat)]).all okN) = true; rw [show numW "read" = some 4 by decide, show nsW "read" [.int (h : Nat), .int (i : Nat), .int (f : Nat), .int (j : Nat)] = [.int (h : Nat), .int (i : Nat), .int (f : Nat), .int (j : Nat)] from if_neg (by decide)]; simp [okN]
theorem deed_d (d : Dd) : deedOf d.d = some d := by
  unfold deedOf
  rw [if_pos (form_dd d)]
  cases d with
  | write h i f j => show (if ("write" : Str) = "read" then _ else _) = _; rw [if_neg (by decide)]; cases j <;> simp [natD, natO, ocD]
  | read h i f j => show (if ("read" : Str) = "read" then _ else _) = _; rw [if_pos rfl]; simp [natD]
  | copy h i j => show (if ("copy" : Str) = "copy" then _ else _) = _; rw [if_pos rfl]; simp [natD]
  | make h i j => show (if ("make" : Str) = "copy" then _ else _) = _; rw [if_neg (by decide)]; simp [natD]
  | drop h i => simp [Dd.d, natD]
  | look h => show (if ("look" : Str) = "look" then _ else _) = _; rw [if_pos rfl]; simp [natD]
  | scan h => show (if ("scan" : Str) = "look" then _ else _) = _; rw [if_neg (by decide)]; simp [natD]
theorem derr_d (s : St) (d : Dd) : derr s d.d = fltD s d := by unfold derr; rw [deed_d]
end GK

set_option maxRecDepth 100000
namespace GK
open PySem PySem.Spec PyProof.Rows L2 GB
/-! contracts: what is wrong with deeds -/
def tupB (l m : Int) : PyData → Bool
  | .tuple xs => decide (l ≤ (xs.length : Int)) && decide ((xs.length : Int) ≤ m)
  | _ => false
def kInB : PyData → Bool
  | .int _ => true
  | _ => false
def F_is_integer : FnD := fun ss R => ∃ x, ss = [.d x] ∧ R (.d (.bool (kInB x)))
def F_is_tuple_of : FnD := fun ss R => ∃ x l m, ss = [.d x, .d (.int l), .d (.int m)] ∧ R (.d (.bool (tupB l m x)))
def F_p_is_deed : FnD := fun ss R => ∃ v, ss = [.d v] ∧ R (.d (.bool (dform v)))
def F_p_rooms_told : FnD := fun ss R => ∃ d : Dd, ss = [.d d.d] ∧ d.rooms ≠ [] ∧ R (.d (rowD d.rooms))
def F_p_make_error : FnD := fun ss R => ∃ m, ∃ n : Nat, ss = [.d (mksD m), .d (.int n)] ∧ R (.d (errD (makeE m n)))
def F_p_field_error : FnD := fun ss R => ∃ h c, ∃ f : Nat, ss = [.d (rowsD h), .d (ocD c), .d (.int f)] ∧ (∀ i, c = some i → i < h.length) ∧ R (.d (errD (fieldE h c f)))
def F_p_room_error : FnD := fun ss R => ∃ s d, ss = [.d (St.d s), .d (Dd.d d)] ∧ Wf s ∧ d.rooms ≠ [] ∧ d.hand < s.r.length ∧ R (.d (errD (roomE s d)))
def F_p_scan_error : FnD := fun ss R => ∃ m, ∃ c : Nat, ss = [.d (mksD m), .d (.int c)] ∧ R (.d (errD (scanE m c)))
def F_deed_error : FnD := fun ss R => ∃ s v, ss = [.d (St.d s), .d v] ∧ Wf s ∧ R (.d (errD (derr s v)))
def F_l_is_number : FnD := fun ss R => ∃ x, ss = [.d x] ∧ R (.d (.bool (okN x)))
def F_l_is_formed : FnD := fun ss R => ∃ v, ss = [.d v] ∧ (∀ xs, v = .tuple xs → xs.length ≤ 100000) ∧ R (.d (.bool (dform v)))
def placeE (s : St) (d : Dd) : Er := match d with
  | .scan c => if s.h.length ≤ c then some "cell" else none
  | d => if s.r.length ≤ d.hand then some "hand" else if badRoom (s.r.getD d.hand []).length d.rooms = true then some "room" else match d with
    | .make _ _ n => if 3 < n then some "fields" else none
    | _ => none
def F_l_place_fault : FnD := fun ss R => ∃ s d, ss = [.d (St.d s), .d (Dd.d d)] ∧ Wf s ∧ R (.d (errD (placeE s d)))
def isGr : Mr → Bool
  | .gr _ => true
  | _ => false
def greyN (m : List Mr) : List Nat := (List.range m.length).filter fun i => match m[i]? with
  | some z => isGr z
  | none => false
def natsI (ns : List Nat) : List PyData := ns.map fun i : Nat => .int i
def F_l_greys : FnD := fun ss R => ∃ m, ss = [.d (mksD m)] ∧ m.length ≤ 1000 ∧ R (.d (.list (natsI (greyN m))))
def F_l_fault : FnD := fun ss R => ∃ s v, ss = [.d (St.d s), .d v] ∧ Wf s ∧ (∀ xs, v = .tuple xs → xs.length ≤ 100000) ∧ R (.d (errD (derr s v)))
theorem s_isint {k : S → Prop} {x : PyData} : F_is_integer [.d x] k ↔ k (.d (.bool (kInB x))) := by simp [F_is_integer]
theorem s_istup {k : S → Prop} {x : PyData} {l m : Int} : F_is_tuple_of [.d x, .d (.int l), .d (.int m)] k ↔ k (.d (.bool (tupB l m x))) := by
  constructor
  · rintro ⟨_, _, _, e, h⟩; cases e; exact h
  · exact fun h => ⟨_, _, _, rfl, h⟩
theorem s_isdeed {k : S → Prop} {v : PyData} : F_p_is_deed [.d v] k ↔ k (.d (.bool (dform v))) := by simp [F_p_is_deed]
theorem s_isnum {k : S → Prop} {x : PyData} : F_l_is_number [.d x] k ↔ k (.d (.bool (okN x))) := by simp [F_l_is_number]
theorem s_makeE {k : S → Prop} {m : List Mr} {n : Nat} (h : k (.d (errD (makeE m n)))) : F_p_make_error [.d (mksD m), .d (.int n)] k := ⟨m, n, rfl, h⟩
theorem s_fieldE {k : S → Prop} {h : List Rw} {c : Option Nat} {f : Nat} (hc : ∀ i, c = some i → i < h.length) (q : k (.d (errD (fieldE h c f)))) : F_p_field_error [.d (rowsD h), .d (ocD c), .d (.int f)] k := ⟨h, c, f, rfl, hc, q⟩
/-- the fault as the law finds it -/
theorem flt_place (s : St) (w : Wf s) (d : Dd) : fltD s d = (match placeE s d with
    | some z => some z
    | none => match d with
      | .read h i f _ | .write h i f _ => fieldE s.h ((s.r.getD h []).getD i none) f
      | .look h => if s.l.getD h false = true then some "closed" else none
      | .make _ _ _ => if Mr.free ∈ s.m then none else some "closed"
      | .scan c => if c ∈ greyN s.m then none else some "closed"
      | _ => none) := by
  cases d with
  | scan c =>
    show scanE s.m c = _
    unfold scanE placeE
    simp only
    by_cases hc : s.h.length ≤ c
    · rw [if_pos hc, List.getElem?_eq_none (by rw [w.mh]; exact hc)]
    · rw [if_neg hc]
      have hl : c < s.m.length := by rw [w.mh]; omega
      have mem : c ∈ greyN s.m ↔ isGr s.m[c] = true := by
        unfold greyN
        rw [List.mem_filter, List.mem_range, List.getElem?_eq_getElem hl]
        simp [hl]
      rw [List.getElem?_eq_getElem hl]
      cases hm : s.m[c] with
      | gr k => simp only; rw [if_pos (mem.mpr (by rw [hm]; rfl))]
      | free => simp only; rw [if_neg (fun z => by have := mem.mp z; rw [hm] at this; cases this)]
      | white => simp only; rw [if_neg (fun z => by have := mem.mp z; rw [hm] at this; cases this)]
      | black => simp only; rw [if_neg (fun z => by have := mem.mp z; rw [hm] at this; cases this)]
  | look h => by_cases hh : s.r.length ≤ h <;> simp [fltD, placeE, Dd.hand, Dd.rooms, badRoom, hh]
  | drop h i => by_cases hh : s.r.length ≤ h <;> by_cases hb : badRoom (s.r.getD h []).length (Dd.drop h i).rooms = true <;> simp only [fltD, placeE, roomE, Dd.hand, hh, hb, if_true, if_false, Bool.false_eq_true]
  | copy h i j => by_cases hh : s.r.length ≤ h <;> by_cases hb : badRoom (s.r.getD h []).length (Dd.copy h i j).rooms = true <;> simp only [fltD, placeE, roomE, Dd.hand, hh, hb, if_true, if_false, Bool.false_eq_true]
  | make h i n => by_cases hh : s.r.length ≤ h <;> by_cases hb : badRoom (s.r.getD h []).length (Dd.make h i n).rooms = true <;> by_cases hn : 3 < n <;> simp only [fltD, placeE, roomE, makeE, Dd.hand, hh, hb, hn, if_true, if_false, Bool.false_eq_true]
  | read h i f j => by_cases hh : s.r.length ≤ h <;> by_cases hb : badRoom (s.r.getD h []).length (Dd.read h i f j).rooms = true <;> simp only [fltD, placeE, roomE, Dd.hand, hh, hb, if_true, if_false, Bool.false_eq_true]
  | write h i f j => by_cases hh : s.r.length ≤ h <;> by_cases hb : badRoom (s.r.getD h []).length (Dd.write h i f j).rooms = true <;> simp only [fltD, placeE, roomE, Dd.hand, hh, hb, if_true, if_false, Bool.false_eq_true]
end GK

set_option maxRecDepth 100000
namespace GK
open PySem PySem.Spec PyProof.Rows L2 GB
/-! what the laws draw: standings and deeds -/
def HeapOk (n : Nat) (h : List Rw) (us : List Nat) : Prop := h.length = n ∧ us.length ≤ n ∧ (∀ u ∈ us, u < n) ∧ (∀ c ∈ h, c.length ≤ 3 ∧ ∀ i, some i ∈ c → i ∈ us) ∧ ∀ i, i < n → i ∉ us → h.getD i [] = []
def F_l_heap : FnD := fun ss R => ∃ n : Nat, ss = [.ob .jar, .d (.int n)] ∧ n ≤ 40 ∧ ∀ h us, HeapOk n h us → R (.d (.tuple [rowsD h, .list (natsI us)]))
def F_l_mark : FnD := fun ss R => ∃ (c : Rw) (b : Bool), ss = [.ob .jar, .d (rowD c), .d (.bool b)] ∧ c.length ≤ 3 ∧ ∀ z : Mr, z ≠ .free → (∀ k, z = Mr.gr k → k < c.length ∧ (b = false → k = 0)) → R (.d (mrD z))
def Spl (b : Bool) (s : St) : Prop := b = false → ∀ i k : Nat, s.m[i]? = some (Mr.gr k) → k = 0
def F_l_standing : FnD := fun ss R => ∃ (n : Nat) (b : Bool), ss = [.ob .jar, .d (.int n), .d (.bool b)] ∧ n ≤ 40 ∧ ∀ s, Wf s → s.h.length = n → Spl b s → R (.d (St.d s))
def lookN (l : List Bool) : List Nat := (List.range l.length).filter fun i => !(l.getD i false)
def menuD (s : St) : List Dd := (lookN s.l).map Dd.look ++ (greyN s.m).map Dd.scan
def F_l_marker_menu : FnD := fun ss R => ∃ s, ss = [.d (St.d s)] ∧ Wf s ∧ R (.d (.list ((menuD s).map Dd.d)))
def fullN (s : St) (h : Nat) : List Nat := (List.range (s.r.getD h []).length).filter fun i => match (s.r.getD h []).getD i none with
  | some c => !(s.h.getD c []).isEmpty
  | none => false
def F_l_full : FnD := fun ss R => ∃ s, ∃ h : Nat, ss = [.d (St.d s), .d (.int h)] ∧ Wf s ∧ h < s.r.length ∧ R (.d (.list (natsI (fullN s h))))
def F_l_hand_deed : FnD := fun ss R => ∃ s, ss = [.ob .jar, .d (St.d s)] ∧ Wf s ∧ ∀ d, fltD s d = none → R (.d (Dd.d d))
def F_l_deed : FnD := fun ss R => ∃ s, ss = [.ob .jar, .d (St.d s)] ∧ Wf s ∧ ∀ d, fltD s d = none → R (.d (Dd.d d))
def F_l_blind : FnD := fun ss R => ∃ s, ss = [.ob .jar, .d (St.d s)] ∧ Wf s ∧ ∀ v, Sm 2 20 v → (∀ ys, v = .tuple ys → ys.length ≤ 5) → R (.d v)
def F_l_near : FnD := fun ss R => ∃ s xs, ∃ D W : Nat, ss = [.ob .jar, .d (St.d s), .d (.tuple xs)] ∧ Wf s ∧ 1 < xs.length ∧ xs.length ≤ 200 ∧ SmL D W xs ∧ 1 ≤ D ∧ D ≤ 10 ∧ W ≤ 1000 ∧ ∀ v, Sm (D + 2) (W + 40) v → R (.d v)
def F_l_odd : FnD := fun ss R => ss = [.ob .jar] ∧ ∀ v, Sm 4 20 v → (∀ ys, v = .tuple ys → ys.length ≤ 5) → R (.d v)
def F_l_is_told : FnD := fun ss R => ∃ s v, ∃ b : Bool, ss = [.d (St.d s), .d v, .d (.bool b)] ∧ Wf s ∧ Sm 12 1000 v ∧ (∀ ys, v = .tuple ys → ys.length ≤ 100) ∧ R (.d (.bool true))
def F_law : FnD := fun ss R => ∃ ns, ss = [.ob (.scr ns)] ∧ ns.length ≤ 63 ∧ R (.d (.bool true))
theorem go_law (ns : List Int) (h : ns.length ≤ 63) : F_law [.ob (.scr ns)] fun s => s = .d (.bool true) := ⟨ns, rfl, h, rfl⟩
/-! sizes -/
theorem smn (n : Nat) (h : n ≤ 1000) : Sm 0 0 (.int (n : Nat)) := by
  have all : ∀ k : Fin 1001, smB 0 0 (.int ((k.val : Nat) : Int)) = true := by decide +kernel
  exact sm_of (all ⟨n, by omega⟩)
theorem sm_oc {n : Nat} {c : Option Nat} (h : ∀ i, c = some i → i ≤ 1000) : Sm 0 0 (ocD c) := by
  cases c with
  | none => exact sm_of (by decide)
  | some i => exact smn i (h i rfl)
theorem sm_row {c : Rw} {k : Nat} (hl : c.length ≤ k) (h : ∀ i, some i ∈ c → i ≤ 1000) : Sm 1 k (rowD c) := by
  have := sm_tup (D := 0) (W := 0) (n := k) (xs := c.map ocD) (fun x hx => by
    obtain ⟨o, ho, rfl⟩ := List.mem_map.mp hx
    exact sm_oc (n := 0) fun i e => h i (e ▸ ho)) (by simpa using hl)
  exact this.mono (Nat.le_refl _) (by omega)
theorem sm_st {s : St} (w : Wf s) : Sm 4 1200 s.d := by
  have h1 : Sm 2 (40 * (3 + 1)) (rowsD s.h) := sm_tup (D := 1) (W := 3) (fun x hx => by
    obtain ⟨c, hc, rfl⟩ := List.mem_map.mp hx
    exact sm_row (w.f c hc).1 fun i hi => by have := (w.f c hc).2 i hi; have := w.n; omega) (by simpa using w.n)
  have h2 : Sm 1 (40 * (20 + 1)) (mksD s.m) := sm_tup (D := 0) (W := 20) (fun x hx => by
    obtain ⟨z, hz, rfl⟩ := List.mem_map.mp hx
    cases z with
    | gr k =>
      obtain ⟨i, hi⟩ := List.getElem?_of_mem hz
      have g := w.g i k hi
      have il : i < s.h.length := by rw [← w.mh]; exact (List.getElem?_eq_some_iff.mp hi).1
      have := (w.f _ (List.getElem_mem il)).1
      rw [List.getD_eq_getElem?_getD, List.getElem?_eq_getElem il] at g
      simp only [Option.getD_some] at g
      exact (smn k (by omega)).mono (Nat.le_refl _) (by omega)
    | _ => exact sm_of (by decide)) (by rw [List.length_map, w.mh]; exact w.n)
  have h3 : Sm 2 (4 * (4 + 1)) (rowsD s.r) := sm_tup (D := 1) (W := 4) (fun x hx => by
    obtain ⟨c, hc, rfl⟩ := List.mem_map.mp hx
    exact sm_row (w.q c hc).2.1 fun i hi => by have := (w.q c hc).2.2 i hi; have := w.n; omega) (by simpa using w.r4)
  have h4 : Sm 1 (4 * (0 + 1)) (blsD s.l) := sm_tup (D := 0) (W := 0) (fun x hx => by
    obtain ⟨b, hb, rfl⟩ := List.mem_map.mp hx
    cases b <;> exact sm_of (by decide)) (by rw [List.length_map, w.lr]; exact w.r4)
  exact (sml_tup (sml_cons (h1.mono (by decide) (Nat.le_refl _)) (sml_cons (W := 1000) (h2.mono (D' := 2) (by decide) (Nat.le_refl _)) (sml_cons (W := 30) (h3.mono (D' := 2) (by decide) (Nat.le_refl _)) (sml_cons (W := 6) (h4.mono (D' := 2) (by decide) (Nat.le_refl _)) (sml_nil (D := 2) (W := 0)) (by decide)) (by decide)) (by decide)) (by decide))).mono (by decide) (Nat.le_refl _)
end GK

set_option maxRecDepth 100000
namespace GK
open PySem PySem.Spec PyProof.Rows L2 GB
/-! places and members of typed rows -/
theorem map_at {α : Type} {f : α → PyData} {l : List α} {i : Nat} (h : i < l.length) : atI (l.map f) (i : Int) = some (f l[i]) := at_n (by simp [h])
theorem map_ix {α : Type} {f : α → PyData} {l : List α} {i : Nat} {p : PyData → Prop} (h : i < l.length) : (∃ v, atI (l.map f) (i : Int) = some v ∧ p v) ↔ p (f l[i]) := ixn (map_at h)
theorem getD_of {α : Type} {l : List α} {i : Nat} {d : α} (h : i < l.length) : l.getD i d = l[i] := by rw [List.getD_eq_getElem?_getD, List.getElem?_eq_getElem h]; rfl
theorem rows_ix {l : List Rw} {i : Nat} {p : PyData → Prop} (h : i < l.length) : (∃ v, atI (l.map rowD) (i : Int) = some v ∧ p v) ↔ p (rowD (l.getD i [])) := by rw [map_ix h, getD_of h]
theorem row_ix {l : Rw} {i : Nat} {p : PyData → Prop} (h : i < l.length) : (∃ v, atI (l.map ocD) (i : Int) = some v ∧ p v) ↔ p (ocD (l.getD i none)) := by rw [map_ix h, getD_of h]
theorem bls_ix {l : List Bool} {i : Nat} {p : PyData → Prop} (h : i < l.length) : (∃ v, atI (l.map PyData.bool) (i : Int) = some v ∧ p v) ↔ p (.bool (l.getD i false)) := by rw [map_ix h, getD_of h]
theorem oc_lay (c : Option Nat) : (ocD c).canLay0 = true ∧ (ocD c).depth = 0 := by cases c <;> exact ⟨rfl, rfl⟩
theorem mr_lay (z : Mr) : (mrD z).canLay0 = true ∧ (mrD z).depth ≤ 20 := by
  cases z with
  | gr k => exact ⟨rfl, by simp [mrD, PyData.depth]⟩
  | _ => exact ⟨by decide +kernel, by decide +kernel⟩
theorem row_lay (c : Rw) : (rowD c).canLay0 = true ∧ (rowD c).depth ≤ 20 := by
  have h : ∀ c : Rw, PyData.canLayAll0 (c.map ocD) = true ∧ PyData.depthAll (c.map ocD) ≤ 1 := by
    intro c
    induction c with
    | nil => exact ⟨rfl, by simp [PyData.depthAll]⟩
    | cons o r ih =>
      have a := oc_lay o
      exact ⟨by simp [PyData.canLayAll0, a.1, ih.1], by simp only [List.map_cons, PyData.depthAll, a.2]; have := ih.2; omega⟩
  have := h c
  exact ⟨by simp [rowD, PyData.canLay0, this.1], by simp only [rowD, PyData.depth]; omega⟩
theorem mks_shp (m : List Mr) : SeqAt.shaped (mksD m) = true := shp_tup fun x hx => by
  obtain ⟨z, _, rfl⟩ := List.mem_map.mp hx; exact mr_lay z
theorem row_shp (c : Rw) : SeqAt.shaped (rowD c) = true := shp_tup fun x hx => by
  obtain ⟨z, _, rfl⟩ := List.mem_map.mp hx; exact ⟨(oc_lay z).1, by rw [(oc_lay z).2]; omega⟩
theorem nats_shp (c : List Nat) : SeqAt.shaped (.list (natsI c)) = true := shp_list fun x hx => by
  obtain ⟨z, _, rfl⟩ := List.mem_map.mp hx; exact ⟨rfl, by simp [PyData.depth]⟩
theorem in_tup {x : PyData} {xs : List PyData} (h : SeqAt.shaped x = true) (h' : SeqAt.shaped (.tuple xs) = true) : inD x (.tuple xs) = some (xs.any fun z => PyData.eqv z x) := if_pos ⟨h, h'⟩
theorem in_lst {x : PyData} {xs : List PyData} (h : SeqAt.shaped x = true) (h' : SeqAt.shaped (.list xs) = true) : inD x (.list xs) = some (xs.any fun z => PyData.eqv z x) := if_pos ⟨h, h'⟩
theorem in_free (m : List Mr) : inD (.str "free") (.tuple (m.map mrD)) = some (decide (Mr.free ∈ m)) := by
  have e : (m.map mrD).any (fun z => PyData.eqv z (.str "free")) = decide (Mr.free ∈ m) := by
    induction m with
    | nil => rfl
    | cons z r ih =>
      rw [List.map_cons, List.any_cons, ih]
      cases z with
      | free => rw [show PyData.eqv (mrD .free) (.str "free") = true by decide +kernel, decide_eq_true (List.mem_cons_self ..)]; rfl
      | white => rw [show PyData.eqv (mrD .white) (.str "free") = false by decide +kernel]; simp
      | black => rw [show PyData.eqv (mrD .black) (.str "free") = false by decide +kernel]; simp
      | gr k => rw [show PyData.eqv (mrD (.gr k)) (.str "free") = false by simp [mrD, PyData.eqv]]; simp
  rw [in_tup (by decide +kernel) (mks_shp m), e]
theorem in_nats (c : Nat) (ns : List Nat) : inD (.int (c : Nat)) (.list (natsI ns)) = some (decide (c ∈ ns)) := by
  have e : (natsI ns).any (fun z => PyData.eqv z (.int (c : Nat))) = decide (c ∈ ns) := by
    induction ns with
    | nil => rfl
    | cons z r ih =>
      show (PyData.eqv (.int (z : Nat)) (.int (c : Nat)) || (natsI r).any _) = _
      rw [ih, int_eqv]
      by_cases h : z = c
      · subst h; simp
      · have h1 : ((z : Nat) : Int) ≠ ((c : Nat) : Int) := by omega
        rw [decide_eq_false h1]
        simp only [Bool.false_or, List.mem_cons, show ¬ c = z from fun e => h e.symm, false_or]
  rw [in_lst rfl (nats_shp ns), e]
theorem inb {x : PyData} {c : PyData} {b : Bool} {p : Bool → Prop} (e : inD x c = some b) : (∃ b, inD x c = some b ∧ p b) ↔ p b := ⟨fun ⟨_, e', h⟩ => by rw [e] at e'; cases e'; exact h, fun h => ⟨_, e, h⟩⟩
theorem ite_tt {b : Bool} {p q : Prop} (h : b = true) (k : p) : iteK b p q := by rw [h]; exact ite_t.mpr k
theorem ite_ff {b : Bool} {p q : Prop} (h : b = false) (k : q) : iteK b p q := by rw [h]; exact ite_f.mpr k
theorem ite_by {b : Bool} {p q : Prop} (t : b = true → p) (f : b = false → q) : iteK b p q := by
  cases b
  · exact ite_f.mpr (f rfl)
  · exact ite_t.mpr (t rfl)
theorem ite_de {c : Prop} [Decidable c] {p q : Prop} (t : c → p) (f : ¬ c → q) : iteK (decide c) p q := ite_by (fun h => t (of_decide_eq_true h)) (fun h => f (of_decide_eq_false h))
theorem eqv_strf {a b : Str} (h : a ≠ b) : PyData.eqv (.str a) (.str b) = false := by simp [PyData.eqv, h]
theorem eqv_intf {a b : Int} (h : b ≠ a) : PyData.eqv (.int a) (.int b) = false := by rw [int_eqv]; exact decide_eq_false (fun e => h e.symm)
theorem oc_firm {c : Option Nat} : S.firm (.d (ocD c)) ↔ True := by cases c <;> exact ⟨fun _ => trivial, fun _ => trivial⟩
theorem mem_getD {α : Type} {l : List (List α)} {i : Nat} (h : i < l.length) : l.getD i [] ∈ l := by rw [getD_of h]; exact List.getElem_mem h
theorem mem_getD' {α : Type} {l : List (Option α)} {i : Nat} (h : i < l.length) : l.getD i none ∈ l := by rw [getD_of h]; exact List.getElem_mem h
theorem roomE_t {s : St} {d : Dd} (h : badRoom (s.r.getD d.hand []).length d.rooms = true) : errD (roomE s d) = .str "room" := by
  have e : roomE s d = some ("room" : Str) := if_pos h
  rw [e]; rfl
def restE (s : St) (d : Dd) : Er := match d with
    | .make _ _ n => makeE s.m n
    | .read _ i f _ | .write _ i f _ => fieldE s.h ((s.r.getD d.hand []).getD i none) f
    | _ => none
theorem roomE_f {s : St} {d : Dd} (h : badRoom (s.r.getD d.hand []).length d.rooms = false) : roomE s d = restE s d := by
  unfold roomE restE
  (simp only [h, Bool.false_eq_true, if_false]) <;> cases d <;> rfl
theorem look_1 {s : St} {h : Nat} (h1 : s.r.length ≤ h) : errD (fltD s (.look h)) = .str "hand" := by
  have e : fltD s (.look h) = some ("hand" : Str) := if_pos h1
  rw [e]; rfl
theorem look_2 {s : St} {h : Nat} (h1 : h < s.r.length) (h2 : s.l.getD h false = true) : errD (fltD s (.look h)) = .str "closed" := by
  have e : fltD s (.look h) = some ("closed" : Str) := (if_neg (show ¬ s.r.length ≤ h by omega)).trans (if_pos h2)
  rw [e]; rfl
theorem look_3 {s : St} {h : Nat} (h1 : h < s.r.length) (h2 : s.l.getD h false = false) : fltD s (.look h) = none :=
  (if_neg (show ¬ s.r.length ≤ h by omega)).trans (if_neg (by rw [h2]; exact Bool.false_ne_true))
theorem irow_nats : ∀ (n k : Nat), irow (k : Int) n = natsI ((List.range' k n))
  | 0, k => rfl
  | n + 1, k => by
    rw [irow_succ]
    show _ = .int (k : Nat) :: natsI (List.range' (k + 1) n)
    rw [← irow_nats n (k + 1)]; push_cast; rfl
theorem irow_range (n : Nat) : irow 0 n = natsI (List.range n) := by
  have := irow_nats n 0
  rw [List.range_eq_range']; exact this
theorem typed_of {α : Type} {F : α → PyData} {Q : α → Prop} : ∀ {acc : List PyData}, (∀ x ∈ acc, ∃ o, x = F o ∧ Q o) → ∃ c : List α, acc = c.map F ∧ ∀ o ∈ c, Q o
  | [], _ => ⟨[], rfl, fun _ h => nomatch h⟩
  | x :: acc, h => by
    obtain ⟨c, e, hc⟩ := typed_of (acc := acc) fun y hy => h y (by simp [hy])
    obtain ⟨o, rfl, ho⟩ := h x (by simp)
    refine ⟨o :: c, by rw [e]; rfl, fun z hz => ?_⟩
    rcases List.mem_cons.mp hz with rfl | hz
    · exact ho
    · exact hc z hz
theorem pick_oc {us : List Nat} {x : PyData} (h : x ∈ natsI us ++ [.none]) : ∃ o : Option Nat, x = ocD o ∧ ∀ i, o = some i → i ∈ us := by
  rcases List.mem_append.mp h with h | h
  · obtain ⟨i, hi, rfl⟩ := List.mem_map.mp h
    exact ⟨some i, rfl, fun j e => by cases e; exact hi⟩
  · exact ⟨none, List.mem_singleton.mp h, fun j e => nomatch e⟩
theorem loopT {α : Type} {F : α → PyData} {g : DTG} {b : TSd} {D : EndsD} (I : List α → GB.En → Prop) (hn : ∀ ρ, I [] ρ → D.nx ρ) (hc : ∀ x l ρ (K : GB.En → Prop), (∀ ρ', I l ρ' → K ρ') → I (x :: l) ρ → g (F x) ρ fun ρ1 => b { nx := K, ct := K, bk := D.nx, rt := D.rt } ρ1) : ∀ l ρ, I l ρ → dLoop g b D (l.map F) ρ
  | [], ρ, h => hn ρ h
  | x :: l, ρ, h => hc x l ρ _ (fun ρ' h' => loopT I hn hc l ρ' h') h
theorem typed_at {α : Type} {F : α → PyData} {Q : Nat → α → Prop} : ∀ {acc : List PyData}, (∀ i x, acc[i]? = some x → ∃ z, x = F z ∧ Q i z) → ∃ m : List α, acc = m.map F ∧ ∀ i z, m[i]? = some z → Q i z := fun {acc} => by
  suffices H : ∀ (acc : List PyData) (k : Nat), (∀ i x, acc[i]? = some x → ∃ z, x = F z ∧ Q (k + i) z) → ∃ m : List α, acc = m.map F ∧ ∀ i z, m[i]? = some z → Q (k + i) z by
    intro h
    have := H acc 0 fun i x e => by rw [Nat.zero_add]; exact h i x e
    obtain ⟨m, e, hm⟩ := this
    exact ⟨m, e, fun i z hz => by have := hm i z hz; rwa [Nat.zero_add] at this⟩
  intro acc
  induction acc with
  | nil => intro k _; exact ⟨[], rfl, fun i z h => by simp at h⟩
  | cons x r ih =>
    intro k h
    obtain ⟨z, rfl, hz⟩ := h 0 x rfl
    obtain ⟨m, rfl, hm⟩ := ih (k + 1) fun i y e => by
      have := h (i + 1) y (by simpa using e)
      rwa [show k + (i + 1) = k + 1 + i by omega] at this
    refine ⟨z :: m, rfl, fun i y e => ?_⟩
    cases i with
    | zero => simp at e; subst e; exact hz
    | succ i => have := hm i y (by simpa using e); rwa [show k + 1 + i = k + (i + 1) by omega] at this
theorem tup_sml1 {D W : Nat} {xs : List PyData} (h : Sm (D + 1) W (.tuple xs)) : SmL D W xs :=
  ⟨by simpa [PyData.showable] using h.sh, by simpa [PyData.leavesShort] using h.ls, by have := h.dp; simp only [PyData.depth] at this; omega, by simpa only [PyData.bulk] using h.bk⟩
theorem sml_rev {D : Nat} : ∀ {xs : List PyData} {W : Nat}, SmL D W xs → SmL D W xs.reverse
  | [], _, h => h
  | x :: xs, W, h => by
    obtain ⟨h1, h2⟩ := sml_un h
    have hb := h.bk
    simp only [PyData.bulkAll] at hb
    have h3 : SmL D (PyData.bulkAll xs) xs := ⟨h2.sh, h2.ls, h2.dp, Nat.le_refl _⟩
    rw [List.reverse_cons]
    exact sml_app (sml_rev h3) (sml_cons (W1 := x.bulk) ⟨h1.sh, h1.ls, h1.dp, Nat.le_refl _⟩ (sml_nil (W := 0)) (Nat.le_refl _)) (by omega)
theorem bulk_len : ∀ (xs : List PyData), xs.length ≤ PyData.bulkAll xs
  | [] => Nat.zero_le _
  | x :: xs => by have := bulk_len xs; simp only [PyData.bulkAll, List.length_cons]; omega
theorem sml_len {D W : Nat} {xs : List PyData} (h : SmL D W xs) : xs.length ≤ W := Nat.le_trans (bulk_len xs) h.bk
theorem sml_set {D V : Nat} {y : PyData} (hy : Sm D V y) : ∀ {xs : List PyData} {W : Nat} (i : Nat), SmL D W xs → SmL D (W + V + 1) (xs.set i y)
  | [], W, i, h => ⟨rfl, rfl, by simp [PyData.depthAll], by simp [PyData.bulkAll]⟩
  | x :: xs, W, 0, h => by
    obtain ⟨h1, h2, h3, h4⟩ := h
    simp only [PyData.showableAll, PyData.leavesShortAll, Bool.and_eq_true] at h1 h2
    simp only [PyData.depthAll] at h3
    simp only [PyData.bulkAll] at h4
    have := hy.dp; have := hy.bk
    exact ⟨by simp [PyData.showableAll, hy.sh, h1.2], by simp [PyData.leavesShortAll, hy.ls, h2.2], by simp only [List.set_cons_zero, PyData.depthAll]; omega, by simp only [List.set_cons_zero, PyData.bulkAll]; omega⟩
  | x :: xs, W, i + 1, h => by
    obtain ⟨h1, h2, h3, h4⟩ := h
    simp only [PyData.showableAll, PyData.leavesShortAll, Bool.and_eq_true] at h1 h2
    simp only [PyData.depthAll] at h3
    simp only [PyData.bulkAll] at h4
    have k : SmL D (PyData.bulkAll xs) xs := ⟨h1.2, h2.2, by omega, Nat.le_refl _⟩
    obtain ⟨k1, k2, k3, k4⟩ := sml_set hy i k
    exact ⟨by simp [PyData.showableAll, h1.1, k1], by simp [PyData.leavesShortAll, h2.1, k2], by simp only [List.set_cons_succ, PyData.depthAll]; omega, by simp only [List.set_cons_succ, PyData.bulkAll]; omega⟩
theorem dd_lay (d : Dd) : d.d.canLay0 = true ∧ d.d.depth ≤ 20 := by
  have o : ∀ c : Option Nat, (ocD c).canLay0 = true ∧ (ocD c).depth = 0 := oc_lay
  cases d <;> simp [Dd.d, PyData.canLay0, PyData.canLayAll0, PyData.depth, PyData.depthAll, (o _).1, (o _).2] <;> decide +kernel
theorem dds_eqOk (ds : List Dd) : eqOk (.list (ds.map Dd.d)) (.list []) = true := by
  show (SeqAt.shaped (.list _) && _) = true
  rw [shp_list fun x hx => ?_]
  · rfl
  · obtain ⟨d, _, rfl⟩ := List.mem_map.mp hx; exact dd_lay d
theorem nats_eqOk (ns : List Nat) : eqOk (.list (natsI ns)) (.list []) = true := by
  show (SeqAt.shaped (.list _) && _) = true
  rw [nats_shp]; rfl
theorem flt_ok {s : St} {d : Dd} (sc : ∀ c, d ≠ .scan c) (lk : ∀ h, d ≠ .look h) (h1 : d.hand < s.r.length) (h2 : badRoom (s.r.getD d.hand []).length d.rooms = false) (h3 : restE s d = none) : fltD s d = none := by
  have e : fltD s d = roomE s d := by
    cases d <;> first | exact absurd rfl (sc _) | exact absurd rfl (lk _) | exact if_neg (Nat.not_le.mpr h1)
  rw [e, roomE_f h2, h3]
theorem lt_bad {n i : Nat} {rs : List (Option Nat)} (h : i < n) (h' : badRoom n rs = false) : badRoom n (some i :: rs) = false := by
  show (decide (n ≤ i) || badRoom n rs) = false
  rw [h', decide_eq_false (by omega)]; rfl
theorem none_bad {n : Nat} {rs : List (Option Nat)} (h' : badRoom n rs = false) : badRoom n (none :: rs) = false := h'
end GK

-- TXT
set_option maxRecDepth 100000
namespace GK
open PySem PySem.Spec PyProof.Rows L2 GB
theorem e_dctC {D : List (Str × Int)} {ρ : GB.En} {Q : S → GB.En → Prop} : dDctC D ρ Q ↔ Q (.od (dkI D)) ρ := Iff.rfl
/-! deeds and their texts -/
abbrev Dkx := Str × List (Option Nat)
def xnD : Option Nat → PyData
  | none => .none
  | some n => .int n
def xnT : Option Nat → Str
  | none => "none"
  | some n => Str.ofString (toString (n : Int))
def xkD (d : Dkx) : PyData := .tuple (.str d.1 :: d.2.map xnD)
def xkT (d : Dkx) : Str := Txt.join " " (d.1 :: d.2.map xnT)
def xksT (ds : List Dkx) : Str := if ds = [] then "none" else Txt.join "\n" (ds.map xkT)
def forms : List (Str × Nat) := [("look", 1), ("scan", 1), ("drop", 2), ("copy", 3), ("make", 3), ("read", 4), ("write", 4)]
structure OkX (d : Dkx) : Prop where
  w : (d.1, d.2.length) ∈ forms
  n : ∀ n, some n ∈ d.2 → n < 100
  z : ∀ i, d.2[i]? = some none → d.1 = "write" ∧ i = 3
theorem OkX.len {d : Dkx} (h : OkX d) : d.2.length ≤ 4 := by
  have := h.w
  simp only [forms, List.mem_cons, Prod.mk.injEq, List.not_mem_nil, or_false] at this
  omega
theorem OkX.len1 {d : Dkx} (h : OkX d) : 1 ≤ d.2.length := by
  have := h.w
  simp only [forms, List.mem_cons, Prod.mk.injEq, List.not_mem_nil, or_false] at this
  omega
def wordFree (w : Str) (s : Nat) : Bool := !(TL.tl w).contains s
theorem word_ok {w : Str} {n : Nat} (h : (w, n) ∈ forms) : (∀ c ∈ TL.tl w, c ∉ [32, 10, 39, 40, 41, 44, 92]) ∧ w.length ≤ 5 ∧ 1 ≤ w.length := by
  have : forms.all (fun p => ((TL.tl p.1).all fun c => !([32, 10, 39, 40, 41, 44, 92] : List Nat).contains c) && decide (p.1.length ≤ 5) && decide (1 ≤ p.1.length)) = true := by decide +kernel
  rw [List.all_eq_true] at this
  have := this _ h
  simp only [Bool.and_eq_true, decide_eq_true_eq, List.all_eq_true, Bool.not_eq_true', List.contains_eq_mem, decide_eq_false_iff_not] at this
  exact ⟨this.1.1, this.1.2, this.2⟩
theorem tl_none : TL.tl ("none" : Str) = [110, 111, 110, 101] := by decide +kernel
theorem xnT_free {x : Option Nat} {s : Nat} (h : s ∈ [32, 10, 39, 40, 41, 44, 92]) : s ∉ TL.tl (xnT x) := by
  have h' : s = 32 ∨ s = 10 ∨ s = 39 ∨ s = 40 ∨ s = 41 ∨ s = 44 ∨ s = 92 := by simpa using h
  cases x with
  | none => show s ∉ TL.tl ("none" : Str); rw [tl_none]; rcases h' with rfl | rfl | rfl | rfl | rfl | rfl | rfl <;> decide
  | some n => show s ∉ TL.tl (Str.ofString (toString (n : Int))); rw [TL.tl_num]; exact TL.numL_free (by omega)
theorem xnT_inj {x y : Option Nat} (h : xnT x = xnT y) : x = y := by
  have e := congrArg TL.tl h
  cases x with
  | none =>
    cases y with
    | none => rfl
    | some n =>
      exfalso
      have e : TL.tl ("none" : Str) = TL.tl (Str.ofString (toString (n : Int))) := e
      rw [tl_none, TL.tl_num] at e
      have := TL.numL_digits n 110 (by rw [← e]; simp)
      omega
  | some m =>
    cases y with
    | none =>
      exfalso
      have e : TL.tl (Str.ofString (toString (m : Int))) = TL.tl ("none" : Str) := e
      rw [tl_none, TL.tl_num] at e
      have := TL.numL_digits m 110 (by rw [e]; simp)
      omega
    | some n =>
      have e : TL.tl (Str.ofString (toString (m : Int))) = TL.tl (Str.ofString (toString (n : Int))) := e
      rw [TL.tl_num, TL.tl_num] at e
      rw [TL.numL_inj e]
theorem xnT_len {x : Option Nat} (h : ∀ n, x = some n → n < 100) : (xnT x).length ≤ 4 := by
  cases x with
  | none => decide +kernel
  | some n =>
    show (Str.ofString (toString (n : Int))).length ≤ 4
    rw [TL.len_tl, TL.tl_num]
    have := TL.numL_len (n := n) (k := 2) (by decide) (by have := h n rfl; omega)
    omega
def xkP (d : Dkx) : List Str := d.1 :: d.2.map xnT
theorem xkT_split {d : Dkx} (h : OkX d) : Txt.split (xkT d) " " = xkP d := by
  refine TL.split_join (s := 32) (S := []) (by decide +kernel) (by decide +kernel) (List.cons_ne_nil _ _) fun p hp => ?_
  rcases List.mem_cons.mp hp with rfl | hp
  · intro m; exact (word_ok h.w).1 32 m (by simp)
  · obtain ⟨x, _, rfl⟩ := List.mem_map.mp hp; exact xnT_free (by simp)
theorem map_xnT_inj : ∀ {a b : List (Option Nat)}, a.map xnT = b.map xnT → a = b
  | [], [], _ => rfl
  | [], _ :: _, h => by simp at h
  | _ :: _, [], h => by simp at h
  | x :: a, y :: b, h => by
    simp only [List.map_cons, List.cons.injEq] at h
    rw [xnT_inj h.1, map_xnT_inj h.2]
theorem xkT_inj {d e : Dkx} (hd : OkX d) (he : OkX e) (h : xkT d = xkT e) : d = e := by
  have q := congrArg (fun z => Txt.split z " ") h
  replace q : Txt.split (xkT d) " " = Txt.split (xkT e) " " := q
  rw [xkT_split hd, xkT_split he] at q
  unfold xkP at q
  rw [List.cons.injEq] at q
  exact Prod.ext q.1 (map_xnT_inj q.2)
theorem joinL_free {s : Nat} : ∀ {ps : List (List Nat)} {S : List Nat}, s ∉ S → (∀ p ∈ ps, s ∉ p) → s ∉ TL.joinL S ps
  | [], _, _, _ => by simp [TL.joinL]
  | [p], _, _, h => h p (by simp)
  | p :: q :: r, S, hS, h => by
    show s ∉ p ++ (S ++ TL.joinL S (q :: r))
    rw [List.mem_append, List.mem_append]
    rintro (m | m | m)
    · exact h p (by simp) m
    · exact hS m
    · exact joinL_free hS (fun z hz => h z (List.mem_cons_of_mem _ hz)) m
theorem xkT_free {d : Dkx} (h : OkX d) : 10 ∉ TL.tl (xkT d) := by
  unfold xkT
  rw [TL.join_eq, TL.tl_join]
  refine joinL_free (by decide +kernel) fun p hp => ?_
  obtain ⟨q, hq, rfl⟩ := List.mem_map.mp hp
  rcases List.mem_cons.mp hq with rfl | hq
  · intro m; exact (word_ok h.w).1 10 m (by simp)
  · obtain ⟨x, _, rfl⟩ := List.mem_map.mp hq; exact xnT_free (by simp)
theorem xksT_split {ds : List Dkx} (h : ∀ d ∈ ds, OkX d) (hn : ds ≠ []) : Txt.split (xksT ds) "\n" = ds.map xkT := by
  unfold xksT
  rw [if_neg hn]
  refine TL.split_join (s := 10) (S := []) (by decide +kernel) (by decide +kernel) (fun e => hn (List.map_eq_nil_iff.mp e)) fun p hp => ?_
  obtain ⟨d, hd, rfl⟩ := List.mem_map.mp hp
  exact xkT_free (h d hd)
theorem map_kT_inj : ∀ {a b : List Dkx}, (∀ d ∈ a, OkX d) → (∀ d ∈ b, OkX d) → a.map xkT = b.map xkT → a = b
  | [], [], _, _, _ => rfl
  | [], _ :: _, _, _, h => by simp at h
  | _ :: _, [], _, _, h => by simp at h
  | x :: a, y :: b, h1, h2, h => by
    simp only [List.map_cons, List.cons.injEq] at h
    rw [xkT_inj (h1 x (by simp)) (h2 y (by simp)) h.1, map_kT_inj (fun d hd => h1 d (by simp [hd])) (fun d hd => h2 d (by simp [hd])) h.2]
theorem tl_len_join {S : List Nat} : ∀ {ps : List (List Nat)}, (TL.joinL S ps).length ≤ (ps.map (·.length)).sum + ps.length * S.length
  | [] => by simp [TL.joinL]
  | [p] => by simp [TL.joinL]
  | p :: q :: r => by
    show (p ++ (S ++ TL.joinL S (q :: r))).length ≤ _
    have := tl_len_join (S := S) (ps := q :: r)
    simp only [List.length_append, List.map_cons, List.sum_cons, List.length_cons, Nat.succ_mul] at this ⊢
    omega
theorem sum_le {ls : List Nat} {k : Nat} (h : ∀ x ∈ ls, x ≤ k) : ls.sum ≤ ls.length * k := by
  induction ls with
  | nil => simp
  | cons x r ih =>
    have a := h x (by simp)
    have b := ih fun y hy => h y (by simp [hy])
    simp only [List.sum_cons, List.length_cons, Nat.succ_mul]
    omega
theorem xkP_len {d : Dkx} (h : OkX d) : ∀ p ∈ xkP d, p.length ≤ 5 := by
  intro p hp
  rcases List.mem_cons.mp hp with rfl | hp
  · exact (word_ok h.w).2.1
  · obtain ⟨x, hx, rfl⟩ := List.mem_map.mp hp
    have := xnT_len (x := x) fun n e => h.n n (e ▸ hx)
    omega
theorem xkT_sum {d : Dkx} (h : OkX d) : ((xkP d).map (·.length)).sum + (xkP d).length * (" " : Str).length ≤ 30 := by
  have a := sum_le (ls := (xkP d).map (·.length)) (k := 5) fun x hx => by obtain ⟨p, hp, rfl⟩ := List.mem_map.mp hx; exact xkP_len h p hp
  have b : (xkP d).length = d.2.length + 1 := by simp [xkP]
  have c := h.len
  have e : (" " : Str).length = 1 := by decide +kernel
  rw [List.length_map] at a
  rw [e]
  omega
theorem xkT_len {d : Dkx} (h : OkX d) : (xkT d).length ≤ 30 := by
  have a := xkT_sum h
  rw [TL.len_tl]
  unfold xkT
  rw [TL.join_eq, TL.tl_join]
  have := tl_len_join (S := TL.tl (" " : Str)) (ps := (xkP d).map TL.tl)
  rw [List.map_map, List.length_map] at this
  have e : (xkP d).map (List.length ∘ TL.tl) = (xkP d).map (·.length) := List.map_congr_left fun x _ => (TL.len_tl x).symm
  rw [e, ← TL.len_tl] at this
  exact Nat.le_trans this a
theorem xnD_inj : ∀ {x y : Option Nat}, xnD x = xnD y → x = y
  | none, none, _ => rfl
  | none, some _, h => by cases h
  | some _, none, h => by cases h
  | some m, some n, h => by
    have h : PyData.int (m : Int) = .int (n : Int) := h
    rw [PyData.int.injEq] at h
    rw [show m = n by omega]
theorem map_xnD_inj : ∀ {a b : List (Option Nat)}, a.map xnD = b.map xnD → a = b
  | [], [], _ => rfl
  | [], _ :: _, h => by simp at h
  | _ :: _, [], h => by simp at h
  | x :: a, y :: b, h => by
    simp only [List.map_cons, List.cons.injEq] at h
    rw [xnD_inj h.1, map_xnD_inj h.2]
theorem xkD_inj {d e : Dkx} (h : xkD d = xkD e) : d = e := by
  unfold xkD at h
  rw [PyData.tuple.injEq, List.cons.injEq, PyData.str.injEq] at h
  exact Prod.ext h.1 (map_xnD_inj h.2)
theorem map_xkD_inj : ∀ {a b : List Dkx}, a.map xkD = b.map xkD → a = b
  | [], [], _ => rfl
  | [], _ :: _, h => by simp at h
  | _ :: _, [], h => by simp at h
  | x :: a, y :: b, h => by
    simp only [List.map_cons, List.cons.injEq] at h
    rw [xkD_inj h.1, map_xkD_inj h.2]
/-! contracts -/
abbrev xNums : List (Str × Int) := [("look", 1), ("scan", 1), ("drop", 2), ("copy", 3), ("make", 3), ("read", 4), ("write", 4)]
def OkXs (ds : List Dkx) : Prop := (∀ d ∈ ds, OkX d) ∧ ds.length ≤ 400
def F_deed_text : FnD := fun ss R => ∃ d, OkX d ∧ ss = [.d (xkD d)] ∧ R (.d (.str (xkT d)))
def F_l_text : FnD := F_deed_text
def F_deeds_text : FnD := fun ss R => ∃ ds, OkXs ds ∧ ss = [.d (.tuple (ds.map xkD))] ∧ R (.d (.str (xksT ds)))
def F_l_rows_text : FnD := F_deeds_text
def F_number_in : FnD := fun ss R => ∃ x : Option Nat, (∀ n, x = some n → n < 100) ∧ ss = [.d (.str (xnT x)), .d (.int 2)] ∧ R (.d (xnD x))
def F_told_by_line : FnD := fun ss R => ∃ d, OkX d ∧ ss = [.d (.str (xkT d)), .d (dctD (dkI xNums)), .d (.int 2)] ∧ R (.d (xkD d))
def F_deed_in : FnD := fun ss R => ∃ d, OkX d ∧ ss = [.d (.str (xkT d))] ∧ R (.d (xkD d))
def F_read_deed : FnZ := fun ss R _ => ∃ d, OkX d ∧ ss = [.d (.str (xkT d))] ∧ R (.d (xkD d))
def F_read_deeds : FnZ := fun ss R _ => ∃ ds, OkXs ds ∧ ss = [.d (.str (xksT ds))] ∧ R (.d (.tuple (ds.map xkD)))
def F_l_any_deed : FnD := fun ss R => ss = [.ob .jar] ∧ ∀ d, OkX d → R (.d (xkD d))
def F_l_close : FnD := fun ss R => ∃ ds : List Dkx, (∀ d ∈ ds, OkX d) ∧ ds.length ≤ 12 ∧ ss = [.ob .jar, .d (.tuple (ds.map xkD))] ∧ ∀ es : List Dkx, (∀ d ∈ es, OkX d) → es.length ≤ 60 → R (.d (.tuple (es.map xkD)))
def F_l_is_written : FnZ := fun ss R _ => ∃ ds b, OkXs ds ∧ ss = [.d (.tuple (ds.map xkD)), .d (.bool b)] ∧ R (.d (.bool true))
section
variable {d : Dkx} {ds : List Dkx} {x : Option Nat} {b : Bool} {k : S → Prop} {Z : Xc → Prop}
theorem s_deed_text : F_deed_text [.d (xkD d)] k ↔ OkX d ∧ k (.d (.str (xkT d))) := by
  constructor
  · rintro ⟨e, he, q, h⟩
    simp only [List.cons.injEq, S.d.injEq, and_true] at q
    have := xkD_inj q; subst this; exact ⟨he, h⟩
  · exact fun h => ⟨d, h.1, rfl, h.2⟩
theorem s_l_text : F_l_text [.d (xkD d)] k ↔ OkX d ∧ k (.d (.str (xkT d))) := s_deed_text
theorem s_deeds_text : F_deeds_text [.d (.tuple (ds.map xkD))] k ↔ OkXs ds ∧ k (.d (.str (xksT ds))) := by
  constructor
  · rintro ⟨e, he, q, h⟩
    simp only [List.cons.injEq, S.d.injEq, PyData.tuple.injEq, and_true] at q
    have := map_xkD_inj q; subst this; exact ⟨he, h⟩
  · exact fun h => ⟨ds, h.1, rfl, h.2⟩
theorem s_l_rows_text : F_l_rows_text [.d (.tuple (ds.map xkD))] k ↔ OkXs ds ∧ k (.d (.str (xksT ds))) := s_deeds_text
theorem s_l_any_deed : F_l_any_deed [.ob .jar] k ↔ ∀ d, OkX d → k (.d (xkD d)) := by simp [F_l_any_deed]
end
end GK

set_option maxRecDepth 100000
namespace GK
open PySem PySem.Spec PyProof.Rows L2 GB
/-! what is shown tells the data -/
/-- what is no comma and no bracket -/
def Cl (l : List Nat) : Prop := ∀ c ∈ l, c ≠ 40 ∧ c ≠ 41 ∧ c ≠ 44
/-- a leaf: its text is in no need of brackets -/
inductive Lf : PyData → Prop
  | non : Lf .none
  | nat (n : Nat) : Lf (.int n)
  | str (z : Str) : (∀ c ∈ TL.tl z, c ∉ [32, 10, 39, 40, 41, 44, 92]) → TL.tl (reprText z) = 39 :: (TL.tl z ++ [39]) → Lf (.str z)
theorem tl_non : TL.tl (PyData.none).shown = [78, 111, 110, 101] := by rw [PyData.shown_none]; decide +kernel
theorem tl_nat (n : Nat) : TL.tl (PyData.int n).shown = TL.numL n := by rw [PyData.shown_int]; exact TL.tl_num n
theorem lf_cl {x : PyData} (h : Lf x) : Cl (TL.tl x.shown) := by
  cases h with
  | non => rw [tl_non]; unfold Cl; decide
  | nat n => rw [tl_nat]; intro c hc; have := TL.numL_digits n c hc; omega
  | str z h1 h2 =>
    rw [PyData.shown_str, h2]
    intro c hc
    rcases List.mem_cons.mp hc with rfl | hc
    · decide
    rcases List.mem_append.mp hc with hc | hc
    · have := h1 c hc
      simp only [List.mem_cons, List.not_mem_nil, or_false, not_or] at this
      exact ⟨this.2.2.2.1, this.2.2.2.2.1, this.2.2.2.2.2.1⟩
    · rw [List.mem_singleton.mp hc]; decide
theorem lf_ne {x : PyData} (h : Lf x) : TL.tl x.shown ≠ [] := by
  cases h with
  | non => rw [tl_non]; simp
  | nat n => rw [tl_nat]; exact TL.numL_ne n
  | str z h1 h2 => rw [PyData.shown_str, h2]; simp
theorem lf_inj {x y : PyData} (hx : Lf x) (hy : Lf y) (e : TL.tl x.shown = TL.tl y.shown) : x = y := by
  cases hx with
  | non =>
    cases hy with
    | non => rfl
    | nat n => rw [tl_non, tl_nat] at e; have := TL.numL_digits n 78 (by rw [← e]; simp); omega
    | str z h1 h2 => rw [tl_non, PyData.shown_str, h2] at e; simp at e
  | nat m =>
    cases hy with
    | non => rw [tl_non, tl_nat] at e; have := TL.numL_digits m 78 (by rw [e]; simp); omega
    | nat n => rw [tl_nat, tl_nat] at e; rw [TL.numL_inj e]
    | str z h1 h2 => rw [tl_nat, PyData.shown_str, h2] at e; have := TL.numL_digits m 39 (by rw [e]; simp); omega
  | str z h1 h2 =>
    cases hy with
    | non => rw [tl_non, PyData.shown_str, h2] at e; simp at e
    | nat n => rw [tl_nat, PyData.shown_str, h2] at e; have := TL.numL_digits n 39 (by rw [← e]; simp); omega
    | str y g1 g2 =>
      rw [PyData.shown_str, PyData.shown_str, h2, g2] at e
      rw [TL.ext_tl (List.append_cancel_right (List.cons.inj e).2)]
/-- a list of clean signs ahead of one that isn't, or of the end -/
def Stop (r : List Nat) : Prop := r = [] ∨ ∃ c s, r = c :: s ∧ (c = 41 ∨ c = 44)
theorem cl_cut : ∀ {a b r s : List Nat}, Cl a → Cl b → Stop r → Stop s → a ++ r = b ++ s → a = b ∧ r = s
  | [], [], r, s, _, _, _, _, e => ⟨rfl, e⟩
  | [], c :: b, r, s, _, hb, hr, _, e => by
    exfalso
    have := hb c (by simp)
    rcases hr with rfl | ⟨d, t, rfl, hd⟩
    · simp at e
    · simp only [List.nil_append, List.cons_append, List.cons.injEq] at e
      omega
  | c :: a, [], r, s, ha, _, _, hs, e => by
    exfalso
    have := ha c (by simp)
    rcases hs with rfl | ⟨d, t, rfl, hd⟩
    · simp at e
    · simp only [List.nil_append, List.cons_append, List.cons.injEq] at e
      omega
  | c :: a, d :: b, r, s, ha, hb, hr, hs, e => by
    simp only [List.cons_append, List.cons.injEq] at e
    obtain ⟨p, q⟩ := cl_cut (fun x hx => ha x (by simp [hx])) (fun x hx => hb x (by simp [hx])) hr hs e.2
    exact ⟨by rw [e.1, p], q⟩
/-- what tells itself: whatever stands behind it -/
def Own (P : PyData → Prop) : Prop := ∀ x y, P x → P y → ∀ r s, Stop r → Stop s → TL.tl x.shown ++ r = TL.tl y.shown ++ s → x = y ∧ r = s
theorem own_lf : Own Lf := fun x y hx hy r s hr hs e => by
  obtain ⟨a, b⟩ := cl_cut (lf_cl hx) (lf_cl hy) hr hs e
  exact ⟨lf_inj hx hy a, b⟩
/-- the rest of a tuple, behind an item -/
def restL : List PyData → List Nat
  | [] => [41]
  | x :: xs => 44 :: 32 :: (TL.tl x.shown ++ restL xs)
theorem rest_stop (xs : List PyData) (r : List Nat) : Stop (restL xs ++ r) := by
  cases xs with
  | nil => exact .inr ⟨41, r, rfl, .inl rfl⟩
  | cons x xs => exact .inr ⟨44, _, rfl, .inr rfl⟩
theorem rest_own {P : PyData → Prop} (hP : Own P) : ∀ {xs ys : List PyData}, (∀ x ∈ xs, P x) → (∀ y ∈ ys, P y) → ∀ r s, restL xs ++ r = restL ys ++ s → xs = ys ∧ r = s
  | [], [], _, _, r, s, e => ⟨rfl, (List.cons.inj e).2⟩
  | [], _ :: _, _, _, r, s, e => by have := (List.cons.inj e).1; omega
  | _ :: _, [], _, _, r, s, e => by have := (List.cons.inj e).1; omega
  | x :: xs, y :: ys, hx, hy, r, s, e => by
    simp only [restL, List.cons_append, List.cons.injEq, true_and, List.append_assoc] at e
    obtain ⟨a, b⟩ := hP x y (hx x (by simp)) (hy y (by simp)) _ _ (rest_stop xs r) (rest_stop ys s) e
    obtain ⟨c, d⟩ := rest_own hP (fun z hz => hx z (by simp [hz])) (fun z hz => hy z (by simp [hz])) r s b
    exact ⟨by rw [a, c], d⟩
theorem join_rest : ∀ (x : PyData) (xs : List PyData), TL.joinL [44, 32] ((PyData.shownAll (x :: xs)).map TL.tl) ++ [41] = TL.tl x.shown ++ restL xs
  | x, [] => by simp [PyData.shownAll_cons, PyData.shownAll_nil, TL.joinL, restL]
  | x, y :: r => by
    have e := join_rest y r
    rw [PyData.shownAll_cons, List.map_cons] at e ⊢
    show TL.tl x.shown ++ ([44, 32] ++ TL.joinL [44, 32] ((PyData.shownAll (y :: r)).map TL.tl)) ++ [41] = _
    rw [List.append_assoc, List.append_assoc, PyData.shownAll_cons, List.map_cons, e]
    rfl
theorem tl_comma : TL.tl (", " : Str) = [44, 32] := by decide +kernel
/-- a tuple shown -/
theorem tl_tuple2 (x y : PyData) (xs : List PyData) : TL.tl (PyData.tuple (x :: y :: xs)).shown = 40 :: (TL.tl x.shown ++ restL (y :: xs)) := by
  rw [PyData.shown_tuple, TL.tl_append, TL.tl_append, TL.tl_join, tl_comma, ← join_rest]
  rw [if_neg (by simp)]
  have e1 : TL.tl ("(" : Str) = [40] := by decide +kernel
  have e2 : TL.tl (Str.ofString ")") = [41] := by decide +kernel
  rw [e1, e2, List.append_assoc]; rfl
theorem tl_tuple1 (x : PyData) : TL.tl (PyData.tuple [x]).shown = 40 :: (TL.tl x.shown ++ [44, 41]) := by
  rw [PyData.shown_tuple, TL.tl_append, TL.tl_append, TL.tl_join, tl_comma]
  rw [if_pos (by simp)]
  have e1 : TL.tl ("(" : Str) = [40] := by decide +kernel
  have e2 : TL.tl (Str.ofString ",)") = [44, 41] := by decide +kernel
  rw [e1, e2, PyData.shownAll_cons, PyData.shownAll_nil, List.append_assoc]; rfl
theorem tl_tuple0 : TL.tl (PyData.tuple []).shown = [40, 41] := by
  rw [PyData.shown_tuple, TL.tl_append, TL.tl_append, PyData.shownAll_nil, if_neg (by simp)]
  decide +kernel
theorem own_tup {P : PyData → Prop} (hP : Own P) (h1 : ∀ x, P x → ∃ c l, TL.tl x.shown = c :: l ∧ c ≠ 41) : Own fun x => ∃ xs, x = .tuple xs ∧ ∀ y ∈ xs, P y := by
  rintro _ _ ⟨xs, rfl, hx⟩ ⟨ys, rfl, hy⟩ r s hr hs e
  match xs, ys, hx, hy, e with
  | [], [], _, _, e => rw [tl_tuple0] at e; exact ⟨rfl, (List.cons.inj (List.cons.inj e).2).2⟩
  | [x], [y], hx, hy, e =>
    simp only [tl_tuple1, tl_tuple2, List.cons_append, List.cons.injEq, true_and, List.append_assoc] at e
    obtain ⟨a, b⟩ := hP x y (hx x (by simp)) (hy y (by simp)) _ _ (.inr ⟨44, _, rfl, .inr rfl⟩) (.inr ⟨44, _, rfl, .inr rfl⟩) e
    exact ⟨by rw [a], (List.cons.inj (List.cons.inj b).2).2⟩
  | x :: x2 :: xs, y :: y2 :: ys, hx, hy, e =>
    simp only [tl_tuple1, tl_tuple2, List.cons_append, List.cons.injEq, true_and, List.append_assoc] at e
    obtain ⟨a, b⟩ := hP x y (hx x (by simp)) (hy y (by simp)) _ _ (rest_stop _ r) (rest_stop _ s) e
    obtain ⟨c, d⟩ := rest_own hP (fun z hz => hx z (List.mem_cons_of_mem _ hz)) (fun z hz => hy z (List.mem_cons_of_mem _ hz)) r s b
    exact ⟨by rw [a, c], d⟩
  | [x], y :: y2 :: ys, hx, hy, e =>
    exfalso
    simp only [tl_tuple1, tl_tuple2, List.cons_append, List.cons.injEq, true_and, List.append_assoc] at e
    obtain ⟨a, b⟩ := hP x y (hx x (by simp)) (hy y (by simp)) _ _ (.inr ⟨44, _, rfl, .inr rfl⟩) (rest_stop _ s) e
    have := (List.cons.inj (List.cons.inj b).2).1
    omega
  | x :: x2 :: xs, [y], hx, hy, e =>
    exfalso
    simp only [tl_tuple1, tl_tuple2, List.cons_append, List.cons.injEq, true_and, List.append_assoc] at e
    obtain ⟨a, b⟩ := hP x y (hx x (by simp)) (hy y (by simp)) _ _ (rest_stop _ r) (.inr ⟨44, _, rfl, .inr rfl⟩) e
    have := (List.cons.inj (List.cons.inj b).2).1
    omega
  | [], [y], _, hy, e =>
    exfalso
    obtain ⟨c, l, h, hc⟩ := h1 y (hy y (by simp))
    simp only [tl_tuple0, tl_tuple1, h, List.cons_append, List.cons.injEq, true_and] at e
    exact hc e.1.symm
  | [], y :: y2 :: ys, _, hy, e =>
    exfalso
    obtain ⟨c, l, h, hc⟩ := h1 y (hy y (by simp))
    simp only [tl_tuple0, tl_tuple2, h, List.cons_append, List.cons.injEq, true_and] at e
    exact hc e.1.symm
  | [x], [], hx, _, e =>
    exfalso
    obtain ⟨c, l, h, hc⟩ := h1 x (hx x (by simp))
    simp only [tl_tuple0, tl_tuple1, h, List.cons_append, List.cons.injEq, true_and] at e
    exact hc e.1
  | x :: x2 :: xs, [], hx, _, e =>
    exfalso
    obtain ⟨c, l, h, hc⟩ := h1 x (hx x (by simp))
    simp only [tl_tuple0, tl_tuple2, h, List.cons_append, List.cons.injEq, true_and] at e
    exact hc e.1
theorem hd_lf {x : PyData} (h : Lf x) : ∃ c l, TL.tl x.shown = c :: l ∧ c ≠ 41 := by
  cases e : TL.tl x.shown with
  | nil => exact absurd e (lf_ne h)
  | cons c l => exact ⟨c, l, rfl, ((lf_cl h) c (by rw [e]; simp)).2.1⟩
theorem hd_tup (xs : List PyData) : ∃ c l, TL.tl (PyData.tuple xs).shown = c :: l ∧ c ≠ 41 := by
  match xs with
  | [] => exact ⟨_, _, tl_tuple0, by decide⟩
  | [x] => exact ⟨_, _, tl_tuple1 x, by decide⟩
  | x :: y :: r => exact ⟨_, _, tl_tuple2 x y r, by decide⟩
theorem own_inj {P : PyData → Prop} (hP : Own P) {x y : PyData} (hx : P x) (hy : P y) (e : x.shown = y.shown) : x = y :=
  (hP x y hx hy [] [] (.inl rfl) (.inl rfl) (by rw [e])).1
theorem word_repr {w : Str} {n : Nat} (h : (w, n) ∈ forms) : TL.tl (reprText w) = 39 :: (TL.tl w ++ [39]) := by
  have : forms.all (fun p => decide (TL.tl (reprText p.1) = 39 :: (TL.tl p.1 ++ [39]))) = true := by decide +kernel
  rw [List.all_eq_true] at this
  simpa using this _ h
theorem deed_lf {d : Dkx} (h : OkX d) : ∃ xs, xkD d = .tuple xs ∧ ∀ y ∈ xs, Lf y := by
  refine ⟨_, rfl, fun y hy => ?_⟩
  rcases List.mem_cons.mp hy with rfl | hy
  · exact .str _ (word_ok h.w).1 (word_repr h.w)
  · obtain ⟨x, _, rfl⟩ := List.mem_map.mp hy
    cases x with
    | none => exact .non
    | some n => exact .nat n
theorem own_deed : Own fun x => ∃ xs, x = PyData.tuple xs ∧ ∀ y ∈ xs, Lf y := own_tup own_lf fun _ h => hd_lf h
theorem shown_deed {d e : Dkx} (hd : OkX d) (he : OkX e) (h : (xkD d).shown = (xkD e).shown) : d = e :=
  xkD_inj (own_inj own_deed (deed_lf hd) (deed_lf he) h)
theorem own_deeds : Own fun x => ∃ xs, x = PyData.tuple xs ∧ ∀ y ∈ xs, ∃ zs, y = PyData.tuple zs ∧ ∀ z ∈ zs, Lf z := own_tup own_deed fun _ ⟨xs, e, _⟩ => e ▸ hd_tup xs
theorem shown_deeds {ds es : List Dkx} (hd : ∀ d ∈ ds, OkX d) (he : ∀ d ∈ es, OkX d) (h : (PyData.tuple (ds.map xkD)).shown = (PyData.tuple (es.map xkD)).shown) : ds = es := by
  have go : ∀ {ds : List Dkx}, (∀ d ∈ ds, OkX d) → ∃ xs, PyData.tuple (ds.map xkD) = PyData.tuple xs ∧ ∀ y ∈ xs, ∃ zs, y = PyData.tuple zs ∧ ∀ z ∈ zs, Lf z := fun h => ⟨_, rfl, fun y hy => by obtain ⟨d, m, rfl⟩ := List.mem_map.mp hy; exact deed_lf (h d m)⟩
  have e := own_inj own_deeds (go hd) (go he) h
  rw [PyData.tuple.injEq] at e
  exact map_xkD_inj e
end GK

set_option maxRecDepth 100000
namespace GK
open PySem PySem.Spec PyProof.Rows L2 GB
/-! the text -/
def topS (i : Nat) : Stmt := PySem.Challenge.pw_guardbooks_k24_whole_texts_of_deeds.main.body.getD i (.Pass ⟨0, 0, 0, 0⟩)
abbrev st_l_bag : Stmt := topS 16
abbrev nm_l_bag : List Str := ["script", "cells", "stir", "cell"]
theorem sc_l_bag : FnScope nm_l_bag ["script"] (defScope st_l_bag) := ⟨rfl, rfl, rfl, by decide +kernel, rfl, by decide +kernel, by decide +kernel⟩
abbrev st_l_draw : Stmt := topS 17
abbrev nm_l_draw : List Str := ["bag", "many", "whole", "one", "two"]
theorem sc_l_draw : FnScope nm_l_draw ["bag", "many"] (defScope st_l_draw) := ⟨rfl, rfl, rfl, by decide +kernel, rfl, by decide +kernel, by decide +kernel⟩
abbrev st_l_pick : Stmt := topS 18
abbrev nm_l_pick : List Str := ["bag", "items"]
theorem sc_l_pick : FnScope nm_l_pick ["bag", "items"] (defScope st_l_pick) := ⟨rfl, rfl, rfl, by decide +kernel, rfl, by decide +kernel, by decide +kernel⟩
abbrev st_l_any_deed : Stmt := topS 20
abbrev nm_l_any_deed : List Str := ["bag", "word", "size", "deed", "spot"]
theorem sc_l_any_deed : FnScope nm_l_any_deed ["bag"] (defScope st_l_any_deed) := ⟨rfl, rfl, rfl, by decide +kernel, rfl, by decide +kernel, by decide +kernel⟩
abbrev st_l_close : Stmt := topS 23
abbrev nm_l_close : List Str := ["bag", "acts", "spot", "way", "other", "head", "tail"]
theorem sc_l_close : FnScope nm_l_close ["bag", "acts"] (defScope st_l_close) := ⟨rfl, rfl, rfl, by decide +kernel, rfl, by decide +kernel, by decide +kernel⟩
abbrev st_l_text : Stmt := topS 19
abbrev nm_l_text : List Str := ["deed", "item"]
theorem sc_l_text : FnScope nm_l_text ["deed"] (defScope st_l_text) := ⟨rfl, rfl, rfl, by decide +kernel, rfl, by decide +kernel, by decide +kernel⟩
abbrev st_l_rows_text : Stmt := topS 21
abbrev nm_l_rows_text : List Str := ["acts", "deed"]
theorem sc_l_rows_text : FnScope nm_l_rows_text ["acts"] (defScope st_l_rows_text) := ⟨rfl, rfl, rfl, by decide +kernel, rfl, by decide +kernel, by decide +kernel⟩
abbrev st_deed_text : Stmt := topS 9
abbrev nm_deed_text : List Str := ["deed", "number"]
theorem sc_deed_text : FnScope nm_deed_text ["deed"] (defScope st_deed_text) := ⟨rfl, rfl, rfl, by decide +kernel, rfl, by decide +kernel, by decide +kernel⟩
abbrev st_deeds_text : Stmt := topS 10
abbrev nm_deeds_text : List Str := ["deeds", "deed"]
theorem sc_deeds_text : FnScope nm_deeds_text ["deeds"] (defScope st_deeds_text) := ⟨rfl, rfl, rfl, by decide +kernel, rfl, by decide +kernel, by decide +kernel⟩
abbrev st_number_in : Stmt := topS 2
abbrev nm_number_in : List Str := ["text", "figures", "number"]
theorem sc_number_in : FnScope nm_number_in ["text", "figures"] (defScope st_number_in) := ⟨rfl, rfl, rfl, by decide +kernel, rfl, by decide +kernel, by decide +kernel⟩
abbrev st_told_by_line : Stmt := topS 14
abbrev nm_told_by_line : List Str := ["line", "numbers", "figures", "words", "told", "place", "number"]
theorem sc_told_by_line : FnScope nm_told_by_line ["line", "numbers", "figures"] (defScope st_told_by_line) := ⟨rfl, rfl, rfl, by decide +kernel, rfl, by decide +kernel, by decide +kernel⟩
abbrev st_deed_in : Stmt := topS 13
abbrev nm_deed_in : List Str := ["line"]
theorem sc_deed_in : FnScope nm_deed_in ["line"] (defScope st_deed_in) := ⟨rfl, rfl, rfl, by decide +kernel, rfl, by decide +kernel, by decide +kernel⟩
abbrev st_read_deeds : Stmt := topS 12
abbrev nm_read_deeds : List Str := ["value", "deeds", "place", "deed", "line"]
theorem sc_read_deeds : FnScope nm_read_deeds ["value"] (defScope st_read_deeds) := ⟨rfl, rfl, rfl, by decide +kernel, rfl, by decide +kernel, by decide +kernel⟩
abbrev st_read_deed : Stmt := topS 11
abbrev nm_read_deed : List Str := ["value", "deed"]
theorem sc_read_deed : FnScope nm_read_deed ["value"] (defScope st_read_deed) := ⟨rfl, rfl, rfl, by decide +kernel, rfl, by decide +kernel, by decide +kernel⟩
abbrev st_l_is_written : Stmt := topS 22
abbrev nm_l_is_written : List Str := ["acts", "is_named", "stood", "due", "told", "back", "deed", "text", "again"]
theorem sc_l_is_written : FnScope nm_l_is_written ["acts", "is_named"] (defScope st_l_is_written) := ⟨rfl, rfl, rfl, by decide +kernel, rfl, by decide +kernel, by decide +kernel⟩
abbrev st_law : Stmt := topS 24
abbrev nm_law : List Str := ["script", "bag", "turn", "acts", "near", "one", "two", "few", "place"]
theorem sc_law : FnScope nm_law ["script"] (defScope st_law) := ⟨rfl, rfl, rfl, by decide +kernel, rfl, by decide +kernel, by decide +kernel⟩
abbrev c_MAX_DEEDS : PyData := .int 400
abbrev c_NOTHING : PyData := .str "none"
abbrev c_NUMBERS : List (Str × PyData) := [("look", .int 1), ("scan", .int 1), ("drop", .int 2), ("copy", .int 3), ("make", .int 3), ("read", .int 4), ("write", .int 4)]
abbrev ci_NUMBERS : List (Str × Int) := [("look", 1), ("scan", 1), ("drop", 2), ("copy", 3), ("make", 3), ("read", 4), ("write", 4)]
abbrev si_BadText : Stmt := memS (topS 6) 0
theorem sci_BadText : FnScope ["self", "place"] ["self", "place"] (defScope si_BadText) := ⟨rfl, rfl, rfl, by decide +kernel, rfl, by decide +kernel, by decide +kernel⟩
/-! what the top has written -/
set_option maxHeartbeats 0 in
structure Tx (K : PySem.W.Frag) (w : World) (mg : Str → Option Value) where
  a_l_bag : Addr
  d_l_bag : FuncData
  F_l_bag : Fun K "_law_bag" "_law_bag" st_l_bag a_l_bag d_l_bag
  m_l_bag : mg "_law_bag" = some (.ref a_l_bag)
  B_l_bag : Binds K d_l_bag ["script"] []
  a_l_draw : Addr
  d_l_draw : FuncData
  F_l_draw : Fun K "_law_draw" "_law_draw" st_l_draw a_l_draw d_l_draw
  m_l_draw : mg "_law_draw" = some (.ref a_l_draw)
  B_l_draw : Binds K d_l_draw ["bag", "many"] []
  a_l_pick : Addr
  d_l_pick : FuncData
  F_l_pick : Fun K "_law_pick" "_law_pick" st_l_pick a_l_pick d_l_pick
  m_l_pick : mg "_law_pick" = some (.ref a_l_pick)
  B_l_pick : Binds K d_l_pick ["bag", "items"] []
  a_l_any_deed : Addr
  d_l_any_deed : FuncData
  F_l_any_deed : Fun K "_law_any_deed" "_law_any_deed" st_l_any_deed a_l_any_deed d_l_any_deed
  m_l_any_deed : mg "_law_any_deed" = some (.ref a_l_any_deed)
  B_l_any_deed : Binds K d_l_any_deed ["bag"] []
  a_l_close : Addr
  d_l_close : FuncData
  F_l_close : Fun K "_law_close" "_law_close" st_l_close a_l_close d_l_close
  m_l_close : mg "_law_close" = some (.ref a_l_close)
  B_l_close : Binds K d_l_close ["bag", "acts"] []
  a_l_text : Addr
  d_l_text : FuncData
  F_l_text : Fun K "_law_text" "_law_text" st_l_text a_l_text d_l_text
  m_l_text : mg "_law_text" = some (.ref a_l_text)
  B_l_text : Binds K d_l_text ["deed"] []
  a_l_rows_text : Addr
  d_l_rows_text : FuncData
  F_l_rows_text : Fun K "_law_rows_text" "_law_rows_text" st_l_rows_text a_l_rows_text d_l_rows_text
  m_l_rows_text : mg "_law_rows_text" = some (.ref a_l_rows_text)
  B_l_rows_text : Binds K d_l_rows_text ["acts"] []
  a_deed_text : Addr
  d_deed_text : FuncData
  F_deed_text : Fun K "deed_text" "deed_text" st_deed_text a_deed_text d_deed_text
  m_deed_text : mg "deed_text" = some (.ref a_deed_text)
  B_deed_text : Binds K d_deed_text ["deed"] []
  a_deeds_text : Addr
  d_deeds_text : FuncData
  F_deeds_text : Fun K "deeds_text" "deeds_text" st_deeds_text a_deeds_text d_deeds_text
  m_deeds_text : mg "deeds_text" = some (.ref a_deeds_text)
  B_deeds_text : Binds K d_deeds_text ["deeds"] []
  a_number_in : Addr
  d_number_in : FuncData
  F_number_in : Fun K "number_in" "number_in" st_number_in a_number_in d_number_in
  m_number_in : mg "number_in" = some (.ref a_number_in)
  B_number_in : Binds K d_number_in ["text", "figures"] []
  a_told_by_line : Addr
  d_told_by_line : FuncData
  F_told_by_line : Fun K "told_by_line" "told_by_line" st_told_by_line a_told_by_line d_told_by_line
  m_told_by_line : mg "told_by_line" = some (.ref a_told_by_line)
  B_told_by_line : Binds K d_told_by_line ["line", "numbers", "figures"] []
  a_deed_in : Addr
  d_deed_in : FuncData
  F_deed_in : Fun K "deed_in" "deed_in" st_deed_in a_deed_in d_deed_in
  m_deed_in : mg "deed_in" = some (.ref a_deed_in)
  B_deed_in : Binds K d_deed_in ["line"] []
  a_read_deeds : Addr
  d_read_deeds : FuncData
  F_read_deeds : Fun K "read_deeds" "read_deeds" st_read_deeds a_read_deeds d_read_deeds
  m_read_deeds : mg "read_deeds" = some (.ref a_read_deeds)
  B_read_deeds : Binds K d_read_deeds ["value"] []
  a_read_deed : Addr
  d_read_deed : FuncData
  F_read_deed : Fun K "read_deed" "read_deed" st_read_deed a_read_deed d_read_deed
  m_read_deed : mg "read_deed" = some (.ref a_read_deed)
  B_read_deed : Binds K d_read_deed ["value"] []
  a_l_is_written : Addr
  d_l_is_written : FuncData
  F_l_is_written : Fun K "_law_is_written" "_law_is_written" st_l_is_written a_l_is_written d_l_is_written
  m_l_is_written : mg "_law_is_written" = some (.ref a_l_is_written)
  B_l_is_written : Binds K d_l_is_written ["acts", "is_named"] []
  a_law : Addr
  d_law : FuncData
  F_law : Fun K "law" "law" st_law a_law d_law
  m_law : mg "law" = some (.ref a_law)
  B_law : Binds K d_law ["script"] []
  P_deed_text_0 : Perm K d_deed_text ["deed"] ["deed"] (pick [0]) (pick [0]) (pick [0])
  P_deeds_text_0 : Perm K d_deeds_text ["deeds"] ["deeds"] (pick [0]) (pick [0]) (pick [0])
  P_read_deed_0 : Perm K d_read_deed ["value"] ["value"] (pick [0]) (pick [0]) (pick [0])
  P_read_deeds_0 : Perm K d_read_deeds ["value"] ["value"] (pick [0]) (pick [0]) (pick [0])
  u_MAX_DEEDS : Value
  r_MAX_DEEDS : RelV (.int 400) u_MAX_DEEDS
  m_MAX_DEEDS : mg "MAX_DEEDS" = some u_MAX_DEEDS
  u_NOTHING : Value
  r_NOTHING : RelV (.str "none") u_NOTHING
  m_NOTHING : mg "NOTHING" = some u_NOTHING
  q_NUMBERS : Addr
  m_NUMBERS : mg "NUMBERS" = some (.ref q_NUMBERS)
  x_NUMBERS : DctG K w q_NUMBERS c_NUMBERS
  xc_NUMBERS : DctC K w q_NUMBERS ci_NUMBERS
  a_BadText : Addr
  m_BadText : mg "BadText" = some (.ref a_BadText)
  T_BadText : OexC K a_BadText
  xn_BadText : PySem.W.findIn K (.ref a_BadText) "place" = some none
  xf_BadText : XfC K a_BadText
  fi_BadText : Addr
  fd_BadText : FuncData
  Fi_BadText : Fun K "__init__" "BadText.__init__" si_BadText fi_BadText fd_BadText
  ii_BadText : PySem.W.findIn K (.ref a_BadText) "__init__" = some (some (.ref fi_BadText))
  it_BadText : PySem.W.typeIn K (.ref fi_BadText) = some (.type "function")
  Bi_BadText : Binds K fd_BadText ["self", "place"] []
  b_abs : mg "abs" = none
  b_dict : mg "dict" = none
  b_enumerate : mg "enumerate" = none
  b_int : mg "int" = none
  b_isinstance : mg "isinstance" = none
  b_len : mg "len" = none
  b_range : mg "range" = none
  b_repr : mg "repr" = none
  b_str : mg "str" = none
  b_tuple : mg "tuple" = none
def Tx.xt {K : PySem.W.Frag} {mg : Str → Option Value} (T : Tx K w mg) : XT := fun e => match e with
  | .badText => some (T.a_BadText, some "place")
  | _ => none
/-! the readings -/
def rd_l_bag : TSd := (dSeq (dPar 1 2 (dFz (dLc (dISeq (dFz (dScr 0 63))) [3] (dgName 3) dYes (dFz (dOp fAdd (dFz (dOp fMul (dK (.int 2)) (dN fAbs (dCons (dVar 3) dNil)))) (dN fIntU (dCons (dOp fLt (dVar 3) (dK (.int 0))) dNil)))))) (dFz (dOp fAdd (dK (.int 28024)) (dFz (dOp fMul (dK (.int 3)) (dScrN 0)))))) (dSeq (dFor (dISeq (dVar 1)) (dgName 3) (dSet 2 (dOp fMod (dN fIntU (dCons (dFz (dOp fAdd (dFz (dOp fAdd (dFz (dOp fMul (dVar 2) (dK (.int 48271)))) (dVar 3))) (dK (.int 11)))) dNil)) (dK (.int 4294967291))))) (dJarRet (dLc (dISeq (dVar 1)) [3] (dgName 3) (dB (dOp fGe (dVar 3) (dOp fPow (dK (.int 10)) (dK (.int 15))))) (dVar 3)) (dVar 2) (dK (.int 0)))))
def rd_l_draw : TSd := (dSeq (dIfS (dB (dOp fLt (dVar 1) (dK (.int 2)))) (dRet (dK (.int 0))) dNext) (dSeq (dJPop 0 2 1 (dRet (dOp fMod (dN fIntU (dCons (dVar 2) dNil)) (dVar 1)))) (dSeq (dJPut 0 (dOp fAdd (dJInt 0) (dK (.int 1)))) (dSeq (dSet 3 (dOp fMod (dN fIntU (dCons (dFz (dOp fAdd (dJInt 0) (dFz (dOp fMul (dK (.int 2654435761)) (dJInt 0))))) dNil)) (dK (.int 4294967291)))) (dSeq (dSet 4 (dOp fMod (dN fIntU (dCons (dFz (dOp fAdd (dFz (dOp fAdd (dFz (dOp fMul (dVar 3) (dVar 3))) (dFz (dOp fMul (dK (.int 40503)) (dJInt 0))))) (dK (.int 7)))) dNil)) (dK (.int 4294967279)))) (dRet (dOp fMod (dOp fDiv (dOp fMod (dN fIntU (dCons (dFz (dOp fAdd (dFz (dOp fMul (dVar 4) (dVar 4))) (dVar 3))) dNil)) (dK (.int 4294967231))) (dK (.int 1024))) (dVar 1))))))))
def rd_l_pick : TSd := (dRet (dOp fIx (dVar 1) (dCall F_l_draw 2 (dCons (dVar 0) (dCons (dN fLen (dCons (dVar 1) dNil)) dNil)))))
def rd_l_any_deed : TSd := (dSeq (dSet 1 (dCall F_l_pick 2 (dCons (dVar 0) (dCons (dFz (dLst (dCons (dK (.str "look")) (dCons (dK (.str "scan")) (dCons (dK (.str "drop")) (dCons (dK (.str "copy")) (dCons (dK (.str "make")) (dCons (dK (.str "read")) (dCons (dK (.str "write")) (dCons (dK (.str "write")) dNil)))))))))) dNil)))) (dSeq (dSet 2 (dGet2F (dFz (dDisp ["look", "scan", "drop", "copy", "make"] [(dK (.int 1)), (dK (.int 1)), (dK (.int 2)), (dK (.int 3)), (dK (.int 3))])) (dVar 1) (dK (.int 4)))) (dSeq (dSet 3 (dTup (dCons (dVar 1) dNil))) (dSeq (dFor (dIRng (dVar 2)) (dgName 4) (dSet 3 (dFz (dOp fAdd (dVar 3) (dTup (dCons (dCall F_l_pick 2 (dCons (dVar 0) (dCons (dFz (dLst (dCons (dK (.int 0)) (dCons (dK (.int 1)) (dCons (dK (.int 2)) (dCons (dK (.int 3)) (dCons (dK (.int 9)) (dCons (dK (.int 10)) (dCons (dK (.int 39)) (dCons (dK (.int 40)) (dCons (dK (.int 90)) (dCons (dK (.int 99)) (dCons (dCall F_l_draw 2 (dCons (dVar 0) (dCons (dK (.int 100)) dNil))) dNil))))))))))))) dNil))) dNil)))))) (dRet (dFz (dIf (dAnd (dB (dOp fEq (dVar 1) (dK (.str "write")))) (dB (dOp fEq (dCall F_l_draw 2 (dCons (dVar 0) (dCons (dK (.int 3)) dNil))) (dK (.int 0))))) (dOp fAdd (dFz (dCut (dVar 3) dONone (dOSome (dK (.int 4))))) (dTup (dCons (dK .none) dNil))) (dVar 3))))))))
def rd_l_close : TSd := (dSeq (dPar3 2 3 4 (dCall F_l_draw 2 (dCons (dVar 0) (dCons (dFz (dOp fAdd (dN fLen (dCons (dVar 1) dNil)) (dK (.int 1)))) dNil))) (dCall F_l_draw 2 (dCons (dVar 0) (dCons (dK (.int 4)) dNil))) (dCall F_l_any_deed 1 (dCons (dVar 0) dNil))) (dSeq (dPar 5 6 (dFz (dCut (dVar 1) dONone (dOSome (dVar 2)))) (dFz (dCut (dVar 1) (dOSome (dVar 2)) dONone))) (dSeq (dIfS (dB (dOp fEq (dVar 3) (dK (.int 0)))) (dRet (dFz (dOp fAdd (dFz (dOp fAdd (dVar 5) (dTup (dCons (dVar 4) dNil)))) (dFz (dCut (dVar 6) (dOSome (dK (.int 1))) dONone))))) dNext) (dSeq (dIfS (dB (dOp fEq (dVar 3) (dK (.int 1)))) (dRet (dFz (dOp fAdd (dFz (dOp fAdd (dFz (dOp fAdd (dVar 5) (dFz (dCut (dVar 6) (dOSome (dK (.int 1))) (dOSome (dK (.int 2))))))) (dFz (dCut (dVar 6) dONone (dOSome (dK (.int 1))))))) (dFz (dCut (dVar 6) (dOSome (dK (.int 2))) dONone))))) dNext) (dRet (dFz (dIf (dB (dOp fEq (dVar 3) (dK (.int 2)))) (dOp fAdd (dVar 5) (dFz (dCut (dVar 6) (dOSome (dK (.int 1))) dONone))) (dOp fAdd (dFz (dOp fAdd (dVar 5) (dTup (dCons (dVar 4) dNil)))) (dVar 6)))))))))
def rd_l_text : TSd := (dRet (dJoin (dK (.str " ")) (dFz (dOp fAdd (dFz (dLst (dCons (dOp fIx (dVar 0) (dK (.int 0))) dNil))) (dFz (dLc (dISeq (dFz (dCut (dVar 0) (dOSome (dK (.int 1))) dONone))) [1] (dgName 1) dYes (dIf (dB (dOp fIs (dVar 1) (dK .none))) (dK (.str "none")) (dN fStr (dCons (dVar 1) dNil)))))))))
def rd_l_rows_text : TSd := (dRet (dIf (dB (dOp fNeU (dVar 0) (dTup dNil))) (dJoin (dK (.str "\n")) (dFz (dLc (dISeq (dVar 0)) [1] (dgName 1) dYes (dCall F_l_text 1 (dCons (dVar 1) dNil))))) (dK (.str "none"))))
def rd_deed_text : TSd := (dRet (dJoin (dK (.str " ")) (dFz (dOp fAdd (dFz (dLst (dCons (dOp fIx (dVar 0) (dK (.int 0))) dNil))) (dFz (dLc (dISeq (dFz (dCut (dVar 0) (dOSome (dK (.int 1))) dONone))) [1] (dgName 1) dYes (dIf (dB (dOp fIs (dVar 1) (dK .none))) (dK c_NOTHING) (dN fStr (dCons (dVar 1) dNil)))))))))
def rd_deeds_text : TSd := (dSeq (dIfS (dNot (dTr (dVar 0))) (dRet (dK c_NOTHING)) dNext) (dRet (dJoin (dK (.str "\n")) (dFz (dLc (dISeq (dVar 0)) [1] (dgName 1) dYes (dCall F_deed_text 1 (dCons (dVar 1) dNil)))))))
def rd_number_in : TSd := (dSeq (dIfS (dOr (dNot (dTr (dIsDec (dVar 0)))) (dB (dOp fGt (dN fLen (dCons (dVar 0) dNil)) (dVar 1)))) (dRet (dK .none)) dNext) (dSeq (dSet 2 (dN fIntU (dCons (dVar 0) dNil))) (dRet (dIf (dB (dOp fEq (dN fStr (dCons (dVar 2) dNil)) (dVar 0))) (dVar 2) (dK .none)))))
def rd_told_by_line : TSd := (dSeq (dSet 3 (dFz (dSplit (dVar 0) (dK (.str " "))))) (dSeq (dIfS (dB (dOp fNe (dOp fSub (dN fLen (dCons (dVar 3) dNil)) (dK (.int 1))) (dDkF gGet (dVar 1) (dOp fIx (dVar 3) (dK (.int 0)))))) (dRet (dK .none)) dNext) (dSeq (dSet 4 (dLst (dCons (dOp fIx (dVar 3) (dK (.int 0))) dNil))) (dSeq (dFor (dIRng2 (dK (.int 1)) (dN fLen (dCons (dVar 3) dNil))) (dgName 5) (dSeq (dSet 6 (dCall F_number_in 2 (dCons (dOp fIx (dVar 3) (dVar 5)) (dCons (dVar 2) dNil)))) (dSeq (dIfS (dAnd (dB (dOp fIs (dVar 6) (dK .none))) (dNot (dAnd (dB (dOp fEq (dOp fIx (dVar 3) (dK (.int 0))) (dK (.str "write")))) (dAnd (dB (dOp fEq (dVar 5) (dK (.int 4)))) (dB (dOp fEq (dOp fIx (dVar 3) (dVar 5)) (dK c_NOTHING))))))) (dRet (dK .none)) dNext) (dDrop (dAppend 4 (dVar 6)))))) (dRet (dN1 fTuple 4))))))
def rd_deed_in : TSd := (dRet (dCall F_told_by_line 3 (dCons (dVar 0) (dCons (dFz (dDctC ci_NUMBERS)) (dCons (dK (.int 2)) dNil)))))
def rd_read_deeds (Z : Xc → GB.En → Prop) : TSd := (dSeq (dIfS (dNot (dTr (dIsi "str" (dVar 0)))) (dRaiseZ .badText Z (dK (.int 0))) dNext) (dSeq (dIfS (dB (dOp fEq (dVar 0) (dK c_NOTHING))) (dRet (dTup dNil)) dNext) (dSeq (dSet 1 (dLc (dISeq (dFz (dSplit (dVar 0) (dK (.str "\n"))))) [4] (dgName 4) dYes (dCall F_deed_in 1 (dCons (dVar 4) dNil)))) (dFixS 1 (dSeq (dFor (dIEnum (dVar 1)) (dgTup 2 (dgCons (dgName 2) (dgCons (dgName 3) dgNil))) (dIfS (dB (dOp fIs (dVar 3) (dK .none))) (dRaiseZ .badText Z (dVar 2)) dNext)) (dSeq (dIfS (dB (dOp fGt (dN fLen (dCons (dVar 1) dNil)) (dK c_MAX_DEEDS))) (dRaiseZ .badText Z (dK c_MAX_DEEDS)) dNext) (dRet (dN fTuple (dCons (dVar 1) dNil)))))))))
def rd_read_deed (Z : Xc → GB.En → Prop) : TSd := (dSeq (dSet 1 (dIf (dTr (dIsi "str" (dVar 0))) (dCall F_deed_in 1 (dCons (dVar 0) dNil)) (dK .none))) (dSeq (dIfS (dB (dOp fIs (dVar 1) (dK .none))) (dRaiseZ .badText Z (dK (.int 0))) dNext) (dRet (dVar 1))))
def rd_l_is_written (Z : Xc → GB.En → Prop) : TSd := (dSeq (dPar 2 3 (dN fRepr (dCons (dVar 0) dNil)) (dCall F_l_rows_text 1 (dCons (dVar 0) dNil))) (dSeq (dSet 4 (dIf (dTr (dVar 1)) (dCallK F_deeds_text 1 (fun ss => pick [0] ss) (dCons (dVar 0) dNil)) (dCall F_deeds_text 1 (dCons (dVar 0) dNil)))) (dSeq (dSet 5 (dIf (dTr (dVar 1)) (dCallKZ F_read_deeds 1 (fun ss => pick [0] ss) Z (dCons (dVar 3) dNil)) (dCallZ F_read_deeds 1 Z (dCons (dVar 3) dNil)))) (dSeq (dIfS (dB (dOp fNe (dN fRepr (dCons (dFz (dLst (dCons (dVar 4) (dCons (dCall F_deeds_text 1 (dCons (dVar 0) dNil)) (dCons (dVar 5) dNil))))) dNil)) (dN fRepr (dCons (dFz (dLst (dCons (dVar 3) (dCons (dVar 3) (dCons (dVar 0) dNil))))) dNil)))) (dRet (dK (.bool false))) dNext) (dSeq (dFor (dISeq (dFz (dCut (dVar 0) dONone (dOSome (dK (.int 6)))))) (dgName 6) (dSeq (dSet 7 (dIf (dTr (dVar 1)) (dCallK F_deed_text 1 (fun ss => pick [0] ss) (dCons (dVar 6) dNil)) (dCall F_deed_text 1 (dCons (dVar 6) dNil)))) (dSeq (dSet 8 (dIf (dTr (dVar 1)) (dCallKZ F_read_deed 1 (fun ss => pick [0] ss) Z (dCons (dVar 7) dNil)) (dCallZ F_read_deed 1 Z (dCons (dVar 7) dNil)))) (dIfS (dB (dOp fNe (dN fRepr (dCons (dFz (dLst (dCons (dVar 7) (dCons (dVar 8) dNil)))) dNil)) (dN fRepr (dCons (dFz (dLst (dCons (dCall F_l_text 1 (dCons (dVar 6) dNil)) (dCons (dVar 6) dNil)))) dNil)))) (dRet (dK (.bool false))) dNext)))) (dRet (dOp fEq (dN fRepr (dCons (dVar 0) dNil)) (dVar 2))))))))
def rd_law : TSd := (dSeq (dSet 1 (dCall F_l_bag 1 (dCons (dVar 0) dNil))) (dSeq (dFor (dIRng (dK (.int 8))) (dgName 2) (dSeq (dSet 3 (dN fTuple (dCons (dFz (dLc (dIRng (dCall F_l_pick 2 (dCons (dVar 1) (dCons (dFz (dLst (dCons (dK (.int 3)) (dCons (dK (.int 1)) (dCons (dK (.int 0)) (dCons (dK (.int 2)) (dCons (dK (.int 6)) (dCons (dK (.int 12)) dNil)))))))) dNil)))) [8] (dgName 8) dYes (dCall F_l_any_deed 1 (dCons (dVar 1) dNil)))) dNil))) (dSeq (dSet 4 (dCall F_l_close 2 (dCons (dVar 1) (dCons (dVar 3) dNil)))) (dSeq (dIfS (dOr (dNot (dTr (dCall (fun ss R => F_l_is_written ss R fun _ => False) 2 (dCons (dVar 3) (dCons (dOp fEq (dVar 2) (dK (.int 1))) dNil))))) (dNot (dTr (dCall (fun ss R => F_l_is_written ss R fun _ => False) 2 (dCons (dVar 4) (dCons (dK (.bool false)) dNil)))))) (dRet (dK (.bool false))) dNext) (dSeq (dIfS (dB (dOp fNe (dOp fEq (dCall F_deeds_text 1 (dCons (dVar 3) dNil)) (dCall F_deeds_text 1 (dCons (dVar 4) dNil))) (dOp fEq (dN fRepr (dCons (dVar 3) dNil)) (dN fRepr (dCons (dVar 4) dNil))))) (dRet (dK (.bool false))) dNext) (dSeq (dPar 5 6 (dCall F_l_any_deed 1 (dCons (dVar 1) dNil)) (dCall F_l_any_deed 1 (dCons (dVar 1) dNil))) (dSeq (dIfS (dAnd (dB (dOp fIsNot (dOp fIx (dVar 6) (dNeg (dK (.int 1)))) (dK .none))) (dB (dOp fEq (dCall F_l_draw 2 (dCons (dVar 1) (dCons (dK (.int 2)) dNil))) (dK (.int 0))))) (dSet 6 (dFz (dOp fAdd (dFz (dCut (dVar 5) dONone (dOSome (dNeg (dK (.int 1)))))) (dFz (dCut (dVar 6) (dOSome (dNeg (dK (.int 1)))) dONone))))) dNext) (dIfS (dB (dOp fNe (dOp fEq (dCall F_deed_text 1 (dCons (dVar 5) dNil)) (dCall F_deed_text 1 (dCons (dVar 6) dNil))) (dOp fEq (dN fRepr (dCons (dVar 5) dNil)) (dN fRepr (dCons (dVar 6) dNil))))) (dRet (dK (.bool false))) dNext)))))))) (dSeq (dIfS (dB (dOp fEq (dCall F_l_draw 2 (dCons (dVar 1) (dCons (dK (.int 5)) dNil))) (dK (.int 0)))) (dSeq (dSet 7 (dLc (dIRng (dK (.int 7))) [8] (dgName 8) dYes (dCall F_l_any_deed 1 (dCons (dVar 1) dNil)))) (dFixS 7 (dRet (dCall (fun ss R => F_l_is_written ss R fun _ => False) 2 (dCons (dN fTuple (dCons (dFz (dCut (dFz (dOp fMul (dVar 7) (dK (.int 60)))) dONone (dOSome (dCall F_l_pick 2 (dCons (dVar 1) (dCons (dFz (dLst (dCons (dK (.int 400)) (dCons (dK (.int 399)) dNil)))) dNil)))))) dNil)) (dCons (dK (.bool false)) dNil)))))) dNext) (dRet (dK (.bool true))))))
abbrev Jr (P : Program) (w : World) (K : PySem.W.Frag) : Jar := mkJar K (StoOk P w "great" ["stir", "turn"]) sto_keep
end GK

-- TXT
set_option maxRecDepth 100000
namespace GK
open PySem PySem.Spec PyProof.Rows L2 GB
local macro_rules | `(tactic| simp? +zz [$as,*] $[$l:location]?) => `(tactic| simp only [↓at0, ↓set0, ↓at1, ↓set1, ↓at2, ↓set2, ↓at3, ↓set3, ↓at4, ↓set4, ↓at5, ↓set5, ↓at6, ↓set6, ↓at7, ↓set7, ↓at8, ↓set8, ↓at9, ↓set9, ↓at10, ↓set10, ↓at11, ↓set11, ↓at12, ↓set12, ↓at13, ↓set13, ↓at14, ↓set14, ↓at15, ↓set15, ↓fz_d, ↓fz_own, ↓fz_ob, ↓one_d, ↓int_d, ↓bool_d, ↓own_o, ↓ds_nil, ↓ds_cons, ↓seq_l, ↓seq_t, ↓ite_t, ↓ite_f, ↓e_next, ↓e_seq, ↓e_set, ↓e_drop, ↓e_ret, ↓e_ifs, ↓e_brk, ↓e_cnt, ↓e_fixs, ↓e_par, ↓e_par3, ↓e_asg, ↓e_for, ↓e_putAt, ↓e_jput, ↓e_var, ↓e_k, ↓e_fz, ↓e_op, ↓e_opL, ↓e_opR, ↓e_n, ↓e_n1, ↓e_nil, ↓e_cons, ↓e_tup, ↓e_lst, ↓e_b, ↓e_not, ↓e_and, ↓e_or, ↓e_andV, ↓e_orV, ↓e_notV, ↓e_if, ↓e_isi, ↓e_neg, ↓e_chain, ↓e_call, ↓e_callK, ↓e_jint, ↓e_dict0, ↓e_dict1, ↓e_listRng, ↓e_append, ↓e_cut, ↓e_cutO, ↓e_onone, ↓e_osome, ↓e_iseq, ↓e_ienum, ↓e_irng, ↓e_gname, ↓e_lnil, ↓e_lcons, ↓e_lc, ↓e_yes, ↓f_addI, ↓f_addS, ↓f_addT, ↓f_addL, ↓f_i2, ↓f_mulI, ↓f_mulT, ↓f_mulL, ↓f_eq, ↓f_ne, ↓f_is, ↓f_isnot, ↓f_in, ↓f_notin, ↓f_ixL, ↓f_ixT, ↓f_lenL, ↓f_lenT, ↓f_lenS, ↓f_abs, ↓f_intI, ↓f_intB, ↓f_tupL, ↓f_tupT, ↓f_lstL, ↓f_lstT, ↓f_repr, ↓f_cutL, ↓f_cutT, ↓firm_d, ↓firm_ob, ↓zip_l, ↓zip_t, ↓e_izip, ↓zip_cons, ↓zip_nil1, ↓zip_nil2, ↓f_sorted, ↓e_inn, ↓e_inc, ↓e_l2n, ↓e_l2c, ↓e_lc2, ↓e_rev, ↓e_pop, ↓e_popAt, ↓e_extend, ↓e_lc3, ↓e_gon, ↓e_goc, ↓e_dbMid, ↓e_dbIn, ↓f_neu, ↓e_ifT, ↓e_newD, ↓e_retO, ↓e_fixK, ↓e_putO, ↓e_dkO, ↓e_dkF, ↓e_kdO, ↓e_kdF, ↓e_get2O, ↓e_get2F, ↓e_ListD, ↓e_ListF, ↓od_o, ↓dct_d, ↓key_int, ↓key_str, ↓g_item, ↓g_get, ↓g_in, ↓g_notin, ↓h_list, ↓fz_od, ↓ow_ex, ↓e_tr, ↓e_trO, ↓e_trK, ↓tru_b, ↓tru_n, ↓tru_i, ↓tru_l, ↓tru_t, ↓tru_s, ↓e_i63, ↓n63_d, ↓e_ss, ↓e_ssL, ↓e_ssF, ↓e_never, ↓e_kget, ↓str_ex, ↓e_disp, ↓e_vnil, ↓e_vcons, ↓f_equ, ↓e_ioL, ↓e_ioR, ↓e_ioN1, ↓e_ioPut, ↓e_consV, ↓e_consW, ↓e_callIO, ↓e_callJ, ↓ioK_io, ↓ioK_own, ↓ioK_d, ↓e_place, ↓e_kget1, ↓e_disp2, ↓f_max2, ↓f_min2, ↓e_callZ, ↓e_callKZ, ↓e_raiseZ, ↓e_raise0, ↓e_tryZ, ↓e_xf, ↓e_isx, ↓exc_o, ↓nox_d, ↓nox_ow, ↓nor_d, ↓nor_ow, ↓nor_jar, ↓e_boL, ↓e_boR, ↓e_boN1, ↓e_consN, ↓e_consB, ↓e_callB, ↓bor_o, ↓str_d, ↓e_jarRet, ↓e_scrN, ↓e_scr, ↓scr_o, ↓f_sortT, ↓at16, ↓set16, ↓at17, ↓set17, ↓at18, ↓set18, ↓at19, ↓set19, ↓at20, ↓set20, ↓at21, ↓set21, ↓at22, ↓set22, ↓at23, ↓set23, ↓at24, ↓set24, ↓e_isDec, ↓e_split, ↓e_join, ↓f_strI, ↓f_intUI, ↓f_intUB, ↓f_intUS, ↓e_dctC, ↓dgTup_tup, ↓dgCons_cons, ↓dgNil_nil, ite_t, ite_f, itK_not, List.cons_append, List.nil_append, List.append_nil, List.replicate, List.flatten_cons, List.flatten_nil, List.append_eq, List.length_cons, List.length_nil, Nat.zero_add, Nat.reduceAdd, true_and, and_true, eqOk_str, eqOk_int, eqOk_bool, str_eqv, int_eqv, tup_nil_eqv, lst_nil_eqv, rep_flat, isK_int, isK_bool, isK_tuple, isK_str, kInt, kBool, kTuple, kStr, GB.isNon, Bool.not_true, Bool.not_false, Bool.or_false, Bool.or_true, Bool.false_or, Bool.true_or, reduceCtorEq, $as,*] $[$l]?)
theorem keepR {P : PyData → Prop} {ds : List PyData} {R : List PyData → Prop} {g : DTG} {tt : TTd} {te : TEd} {ρ : GB.En} {vs : List Nat}
    (hn : ∀ acc : List PyData, acc.length ≤ ds.length → (∀ x ∈ acc, P x) → R acc)
    (hc : ∀ d ∈ ds, ∀ (acc : List PyData) (K : List PyData → Prop), K acc → (∀ x, P x → K (acc ++ [x])) → g d ρ fun ρ2 => wipeD ρ2 vs = ρ ∧ tt ρ2 fun b ρ3 => ρ3 = ρ2 ∧ iteK b (te ρ2 fun s ρ4 => ρ4 = ρ2 ∧ oneK s fun y => K (acc ++ [y])) (K acc)) :
    dLcGo vs g tt te ρ R ds [] := by
  refine lcI (fun es acc => (∀ d ∈ es, d ∈ ds) ∧ acc.length + es.length ≤ ds.length ∧ ∀ x ∈ acc, P x) ?_ ?_ ds [] ⟨fun _ h => h, by simp, fun _ h => nomatch h⟩
  · rintro acc ⟨_, h1, h2⟩
    exact hn acc (by simpa using h1) h2
  · rintro d es acc K hK ⟨h0, h1, h2⟩
    refine hc d (h0 d (by simp)) acc K (hK _ ⟨fun z hz => h0 z (by simp [hz]), by simp at h1; omega, h2⟩) fun x hx => hK _ ⟨fun z hz => h0 z (by simp [hz]), by simp at h1 ⊢; omega, fun y hy => ?_⟩
    rcases List.mem_append.mp hy with hy | hy
    · exact h2 y hy
    · rw [List.mem_singleton.mp hy]; exact hx
theorem mapT {α : Type} {F : α → PyData} {l : List α} {f : α → Option PyData} {R : List PyData → Prop} {g : DTG} {tt : TTd} {te : TEd} {ρ : GB.En} {vs : List Nat}
    (hn : R (l.filterMap f))
    (hc : ∀ (x : α), x ∈ l → ∀ (acc : List PyData) (K : List PyData → Prop), K (acc ++ (f x).toList) → g (F x) ρ fun ρ2 => wipeD ρ2 vs = ρ ∧ tt ρ2 fun b ρ3 => ρ3 = ρ2 ∧ iteK b (te ρ2 fun s ρ4 => ρ4 = ρ2 ∧ oneK s fun y => K (acc ++ [y])) (K acc)) :
    dLcGo vs g tt te ρ R (l.map F) [] := by
  refine lcI (fun es acc => ∃ l', (∀ x ∈ l', x ∈ l) ∧ es = l'.map F ∧ acc ++ l'.filterMap f = l.filterMap f) ?_ ?_ _ _ ⟨l, fun _ h => h, rfl, rfl⟩
  · rintro acc ⟨l', h0, h1, h2⟩
    cases l' with
    | nil => rw [← h2] at hn; simpa using hn
    | cons => cases h1
  · rintro d es acc K hK ⟨l', h0, h1, h2⟩
    cases l' with
    | nil => cases h1
    | cons x l' =>
      obtain ⟨rfl, rfl⟩ := List.cons.inj h1
      refine hc x (h0 x (by simp)) acc K (hK _ ⟨l', fun z hz => h0 z (by simp [hz]), rfl, ?_⟩)
      rw [← h2, List.append_assoc, List.filterMap_cons]
      cases f x <;> rfl
theorem cutD_to {α : Type} (xs : List α) (n : Nat) : GB.cutD xs none (some (n : Int)) = xs.take n := by
  unfold GB.cutD
  rw [HT.sIx_nat]
  show (xs.drop 0).take (min n xs.length - 0) = _
  rw [List.drop_zero, Nat.sub_zero, ← List.take_length (l := xs)]
  simp
theorem ma_l_bag : ∀ ss R, ss.length = 1 → F_l_bag ss R → rd_l_bag { nx := fun _ => R (.d .none), rt := R } (ss ++ List.replicate 3 .un) := by
  rintro _ R - ⟨ns, rfl, hl, q⟩
  unfold rd_l_bag
  simp? +zz [↓ix0, ↓ix1, ↓ix2, ↓ix3, ↓ix4, oc_firm]
  refine ⟨line_ge (by rw [List.length_map]; have := cutD_len ns none (some 63); omega), ?_⟩
  refine mapT (f := fun i => some (.int (2 * i.natAbs + (if i < 0 then 1 else 0)))) ?_ fun i hi acc K hK => ?_
  · simp? +zz [↓ix0, ↓ix1, ↓ix2, ↓ix3, ↓ix4, oc_firm, wipeD, List.set]
    refine ⟨cmul_l (by decide) (by decide), ?_⟩
    obtain ⟨is, e⟩ : ∃ is : List Int, (GB.cutD ns none (some 63)).filterMap (fun i => some (PyData.int (2 * ↑i.natAbs + if i < 0 then 1 else 0))) = is.map .int := ⟨(GB.cutD ns none (some 63)).map fun i => 2 * ↑i.natAbs + if i < 0 then 1 else 0, by rw [List.map_map, ← List.filterMap_eq_map]; rfl⟩
    have el : is.length ≤ 63 := by
      have := congrArg List.length e
      rw [List.length_map, List.filterMap_eq_map', List.length_map] at this
      have := cutD_len ns none (some 63)
      omega
    rw [e]
    refine loopT (fun _ ρ => ∃ (x : Int) (s3 : S), ρ = [.ob (.scr ns), .d (.list (is.map .int)), .d (.int x), s3]) ?_ ?_ is _ ⟨_, _, rfl⟩
    · rintro _ ⟨x, s3, rfl⟩
      simp? +zz [↓ix0, ↓ix1, ↓ix2, ↓ix3, ↓ix4, oc_firm]
      refine ⟨line_ge (by rw [List.length_map]; omega), ?_⟩
      refine keepR (P := fun x => ∃ i : Int, x = .int i ∧ True) ?_ fun d hd acc K h0 hK => ?_
      · intro acc _ ha
        obtain ⟨js, rfl, _⟩ := typed_of ha
        simp? +zz [↓ix0, ↓ix1, ↓ix2, ↓ix3, ↓ix4, oc_firm, wipeD, List.set]
        exact ⟨js, rfl, q⟩
      · obtain ⟨i, _, rfl⟩ := List.mem_map.mp hd
        simp? +zz [↓ix0, ↓ix1, ↓ix2, ↓ix3, ↓ix4, oc_firm, wipeD, List.set]
        exact ⟨by unfold CPow; decide, ite_by (fun _ => hK _ ⟨i, rfl, trivial⟩) fun _ => h0⟩
    · rintro i l _ K hK ⟨x, s3, rfl⟩
      simp? +zz [↓ix0, ↓ix1, ↓ix2, ↓ix3, ↓ix4, oc_firm]
      refine ⟨cmul_r (by decide) (by decide), by decide, hK _ ⟨_, _, rfl⟩⟩
  · simp? +zz [↓ix0, ↓ix1, ↓ix2, ↓ix3, ↓ix4, oc_firm, wipeD, List.set]
    refine ⟨cmul_l (by decide) (by decide), ?_⟩
    by_cases h : i < 0
    · rw [if_pos h] at hK; rw [decide_eq_true h]; exact hK
    · rw [if_neg h] at hK; rw [decide_eq_false h]; exact hK
theorem ma_l_draw : ∀ ss R, ss.length = 2 → F_l_draw ss R → rd_l_draw { nx := fun _ => R (.d .none), rt := R } (ss ++ List.replicate 3 .un) := by
  rintro _ R - ⟨m, rfl, h1, q⟩
  unfold rd_l_draw
  simp only [dRet, dSeq, dNext, dSet, dDrop, dIfS, dPar, dOp, dN, dN1, dB, dNot, dAnd, dOr, dAndV, dOrV, dNotV, dIsi, dVar, dK, dFz, dFixS, dTup, dLst, dCons, dNil, dCall, dCallK, dChain, dIf, dNeg, dFor, dIEnum, dIRng, dISeq, dgName, dgTup_tup, dgCons_cons, dgNil_nil, and_assoc, eqOk_str, eqOk_int, eqOk_bool, str_eqv, int_eqv, tup_nil_eqv, lst_nil_eqv, fEq, fNe, fRepr, pick, fMul, fPow, dCut, fCut, rep_flat, dLc, dLcGo, dYes, dJInt, dJPut, dJPop, dDict0, dDict1, dListRng, dOpL, dOpR, dAppend, dPutAt, dOSome, dONone, fI2, fAdd, fLen, fTuple, fList, fInt, fIx, fIs, fIsNot, S.firm, S.fz, List.length_cons, List.length_nil, ex_nil, ex_cons, Option.some.injEq, S.d.injEq, S.ow.injEq, Ow.l.injEq, PyData.int.injEq, PyData.bool.injEq, PyData.tuple.injEq, PyData.list.injEq, PyData.str.injEq, exists_eq_left', exists_eq_left, exists_eq_right, exists_and_left, exists_eq, true_and, and_true, List.append_eq, List.cons_append, List.nil_append, List.append_nil, List.replicate, List.getElem?_cons_zero, List.getElem?_cons_succ, List.set_cons_zero, List.set_cons_succ, Nat.zero_add, Nat.reduceAdd, List.cons.injEq, Bool.not_true, Bool.not_false, if_true, if_false, Bool.false_eq_true, ↓reduceIte, reduceCtorEq, false_or, or_false, false_and, and_false, exists_false, ↓e_isDec, ↓e_split, ↓e_join, ↓f_strI, ↓f_intUI, ↓f_intUB, ↓f_intUS, ↓e_dctC]
  refine ite2 (fun _ => q 0 (by omega) (fun _ => by omega)) fun h => ?_
  have hm : 0 < m := by simp only [decide_eq_true_eq] at h; omega
  have ok : ∀ z : Int, R (.d (.int (z % m))) := fun z => q _ (Int.emod_nonneg _ (by omega)) fun _ => Int.emod_lt_of_pos _ hm
  refine ⟨hm, h1, by decide, by decide, by decide, fun n => ⟨hm, ok _⟩, fun n n' n'' => ?_⟩
  have e1 : ∀ z : Int, 0 ≤ z % 4294967291 ∧ z % 4294967291 < 4294967291 := fun z => ⟨Int.emod_nonneg _ (by decide), Int.emod_lt_of_pos _ (by decide)⟩
  have e2 : ∀ z : Int, 0 ≤ z % 4294967279 ∧ z % 4294967279 < 4294967279 := fun z => ⟨Int.emod_nonneg _ (by decide), Int.emod_lt_of_pos _ (by decide)⟩
  refine ⟨cmul_l (by decide) (by decide), by decide, cmul_r (by have := e1 (n + 2654435761 * n''); omega) (by have := e1 (n + 2654435761 * n''); omega), fun n2 => ⟨cmul_l (by decide) (by decide), by decide, cmul_r ?_ ?_, by decide, by decide, pow2000 (by decide), hm, ok _⟩⟩
  · have := e2 (((n + 2654435761 * n'') % 4294967291 * ((n + 2654435761 * n'') % 4294967291)) + 40503 * n2 + 7); omega
  · have := e2 (((n + 2654435761 * n'') % 4294967291 * ((n + 2654435761 * n'') % 4294967291)) + 40503 * n2 + 7); omega
theorem ma_l_pick : ∀ ss R, ss.length = 2 → F_l_pick ss R → rd_l_pick { nx := fun _ => R (.d .none), rt := R } (ss ++ List.replicate 0 .un) := by
  rintro _ R - ⟨xs, rfl, h0, h1, q⟩
  unfold rd_l_pick
  simp? +zz [↓ix0, ↓ix1, ↓ix2, ↓ix3, ↓ix4, oc_firm, ↓s_draw]
  refine ⟨by omega, fun r h2 h3 => ?_⟩
  have hl : 0 < xs.length := List.length_pos_iff.mpr h0
  obtain ⟨v, e, hv⟩ := atI_mem (xs := xs) h2 (by omega)
  exact ⟨v, e, q v hv⟩
end GK

-- TXT
set_option maxRecDepth 100000
namespace GK
open PySem PySem.Spec PyProof.Rows L2 GB
local macro_rules | `(tactic| simp? +zz [$as,*] $[$l:location]?) => `(tactic| simp only [↓at0, ↓set0, ↓at1, ↓set1, ↓at2, ↓set2, ↓at3, ↓set3, ↓at4, ↓set4, ↓at5, ↓set5, ↓at6, ↓set6, ↓at7, ↓set7, ↓at8, ↓set8, ↓at9, ↓set9, ↓at10, ↓set10, ↓at11, ↓set11, ↓at12, ↓set12, ↓at13, ↓set13, ↓at14, ↓set14, ↓at15, ↓set15, ↓fz_d, ↓fz_own, ↓fz_ob, ↓one_d, ↓int_d, ↓bool_d, ↓own_o, ↓ds_nil, ↓ds_cons, ↓seq_l, ↓seq_t, ↓ite_t, ↓ite_f, ↓e_next, ↓e_seq, ↓e_set, ↓e_drop, ↓e_ret, ↓e_ifs, ↓e_brk, ↓e_cnt, ↓e_fixs, ↓e_par, ↓e_par3, ↓e_asg, ↓e_for, ↓e_putAt, ↓e_jput, ↓e_var, ↓e_k, ↓e_fz, ↓e_op, ↓e_opL, ↓e_opR, ↓e_n, ↓e_n1, ↓e_nil, ↓e_cons, ↓e_tup, ↓e_lst, ↓e_b, ↓e_not, ↓e_and, ↓e_or, ↓e_andV, ↓e_orV, ↓e_notV, ↓e_if, ↓e_isi, ↓e_neg, ↓e_chain, ↓e_call, ↓e_callK, ↓e_jint, ↓e_dict0, ↓e_dict1, ↓e_listRng, ↓e_append, ↓e_cut, ↓e_cutO, ↓e_onone, ↓e_osome, ↓e_iseq, ↓e_ienum, ↓e_irng, ↓e_gname, ↓e_lnil, ↓e_lcons, ↓e_lc, ↓e_yes, ↓f_addI, ↓f_addS, ↓f_addT, ↓f_addL, ↓f_i2, ↓f_mulI, ↓f_mulT, ↓f_mulL, ↓f_eq, ↓f_ne, ↓f_is, ↓f_isnot, ↓f_in, ↓f_notin, ↓f_ixL, ↓f_ixT, ↓f_lenL, ↓f_lenT, ↓f_lenS, ↓f_abs, ↓f_intI, ↓f_intB, ↓f_tupL, ↓f_tupT, ↓f_lstL, ↓f_lstT, ↓f_repr, ↓f_cutL, ↓f_cutT, ↓firm_d, ↓firm_ob, ↓zip_l, ↓zip_t, ↓e_izip, ↓zip_cons, ↓zip_nil1, ↓zip_nil2, ↓f_sorted, ↓e_inn, ↓e_inc, ↓e_l2n, ↓e_l2c, ↓e_lc2, ↓e_rev, ↓e_pop, ↓e_popAt, ↓e_extend, ↓e_lc3, ↓e_gon, ↓e_goc, ↓e_dbMid, ↓e_dbIn, ↓f_neu, ↓e_ifT, ↓e_newD, ↓e_retO, ↓e_fixK, ↓e_putO, ↓e_dkO, ↓e_dkF, ↓e_kdO, ↓e_kdF, ↓e_get2O, ↓e_get2F, ↓e_ListD, ↓e_ListF, ↓od_o, ↓dct_d, ↓key_int, ↓key_str, ↓g_item, ↓g_get, ↓g_in, ↓g_notin, ↓h_list, ↓fz_od, ↓ow_ex, ↓e_tr, ↓e_trO, ↓e_trK, ↓tru_b, ↓tru_n, ↓tru_i, ↓tru_l, ↓tru_t, ↓tru_s, ↓e_i63, ↓n63_d, ↓e_ss, ↓e_ssL, ↓e_ssF, ↓e_never, ↓e_kget, ↓str_ex, ↓e_disp, ↓e_vnil, ↓e_vcons, ↓f_equ, ↓e_ioL, ↓e_ioR, ↓e_ioN1, ↓e_ioPut, ↓e_consV, ↓e_consW, ↓e_callIO, ↓e_callJ, ↓ioK_io, ↓ioK_own, ↓ioK_d, ↓e_place, ↓e_kget1, ↓e_disp2, ↓f_max2, ↓f_min2, ↓e_callZ, ↓e_callKZ, ↓e_raiseZ, ↓e_raise0, ↓e_tryZ, ↓e_xf, ↓e_isx, ↓exc_o, ↓nox_d, ↓nox_ow, ↓nor_d, ↓nor_ow, ↓nor_jar, ↓e_boL, ↓e_boR, ↓e_boN1, ↓e_consN, ↓e_consB, ↓e_callB, ↓bor_o, ↓str_d, ↓e_jarRet, ↓e_scrN, ↓e_scr, ↓scr_o, ↓f_sortT, ↓at16, ↓set16, ↓at17, ↓set17, ↓at18, ↓set18, ↓at19, ↓set19, ↓at20, ↓set20, ↓at21, ↓set21, ↓at22, ↓set22, ↓at23, ↓set23, ↓at24, ↓set24, ↓e_isDec, ↓e_split, ↓e_join, ↓f_strI, ↓f_intUI, ↓f_intUB, ↓f_intUS, ↓e_dctC, ↓dgTup_tup, ↓dgCons_cons, ↓dgNil_nil, ite_t, ite_f, itK_not, List.cons_append, List.nil_append, List.append_nil, List.replicate, List.flatten_cons, List.flatten_nil, List.append_eq, List.length_cons, List.length_nil, Nat.zero_add, Nat.reduceAdd, true_and, and_true, eqOk_str, eqOk_int, eqOk_bool, str_eqv, int_eqv, tup_nil_eqv, lst_nil_eqv, rep_flat, isK_int, isK_bool, isK_tuple, isK_str, kInt, kBool, kTuple, kStr, GB.isNon, Bool.not_true, Bool.not_false, Bool.or_false, Bool.or_true, Bool.false_or, Bool.true_or, reduceCtorEq, $as,*] $[$l]?)
theorem e1s : ("\n" : Str).length = 1 := by decide +kernel
theorem e2s : (" " : Str).length = 1 := by decide +kernel
theorem xnD_str (x : Option Nat) : xnD x = PyData.none ∧ x = none ∨ ∃ n : Nat, x = some n ∧ xnD x = .int n := by
  cases x with
  | none => exact .inl ⟨rfl, rfl⟩
  | some n => exact .inr ⟨n, rfl, rfl⟩
theorem str_same {z : Str} : (PyData.str z).eqv (PyData.str z) = true := by simp [PyData.eqv]
theorem cut1 {x : PyData} {l : List PyData} : GB.cutD (x :: l) (some 1) none = l := cutD_from (x :: l) 1
theorem join_d {d : Dkx} (h : OkX d) {f : Str → Prop} (k : f (xkT d)) : joinK (S.d (PyData.list (PyData.str d.1 :: (d.2.map xnT).map PyData.str))) (Str.ofString " ") f :=
  join_l (ys := xkP d) (Nat.le_trans (xkT_sum h) (by decide)) k
theorem map_ns {l : List (Option Nat)} : l.filterMap (fun x => some (PyData.str (xnT x))) = (l.map xnT).map PyData.str := by
  rw [List.filterMap_eq_map', List.map_map]; rfl
theorem log_le {n : Nat} (h : n < 100) : ((n : Int)).natAbs.log2 < 1920 := by
  rw [Int.natAbs_natCast]
  exact Nat.lt_of_le_of_lt (Nat.log2_le_self n) (by omega)
theorem ma_deed_text : ∀ ss R, ss.length = 1 → F_deed_text ss R → rd_deed_text { nx := fun _ => R (.d .none), rt := R } (ss ++ List.replicate 1 .un) := by
  rintro _ R - ⟨d, h, rfl, q⟩
  unfold rd_deed_text xkD
  simp? +zz [↓ix0, ↓ix1, ↓ix2, ↓ix3, ↓ix4, oc_firm]
  have hl := h.len
  rw [cut1]
  refine ⟨by decide, line_ge (by rw [List.length_map]; omega), mapT (f := fun x => some (.str (xnT x))) ?_ fun x hx acc K hK => ?_⟩
  · rw [map_ns]
    exact ⟨line_ge (by rw [List.length_map, List.length_map]; omega), join_d h q⟩
  · rcases xnD_str x with ⟨e, rfl⟩ | ⟨n, rfl, e⟩
    · rw [e]; simp? +zz [↓ix0, ↓ix1, ↓ix2, ↓ix3, ↓ix4, oc_firm, wipeD, List.set]; exact hK
    · rw [e]; simp? +zz [↓ix0, ↓ix1, ↓ix2, ↓ix3, ↓ix4, oc_firm, wipeD, List.set]; exact ⟨log_le (h.n n hx), hK⟩
theorem ma_l_text : ∀ ss R, ss.length = 1 → F_l_text ss R → rd_l_text { nx := fun _ => R (.d .none), rt := R } (ss ++ List.replicate 1 .un) := by
  rintro _ R - ⟨d, h, rfl, q⟩
  unfold rd_l_text xkD
  simp? +zz [↓ix0, ↓ix1, ↓ix2, ↓ix3, ↓ix4, oc_firm]
  have hl := h.len
  rw [cut1]
  refine ⟨by decide, line_ge (by rw [List.length_map]; omega), mapT (f := fun x => some (.str (xnT x))) ?_ fun x hx acc K hK => ?_⟩
  · rw [map_ns]
    exact ⟨line_ge (by rw [List.length_map, List.length_map]; omega), join_d h q⟩
  · rcases xnD_str x with ⟨e, rfl⟩ | ⟨n, rfl, e⟩
    · rw [e]; simp? +zz [↓ix0, ↓ix1, ↓ix2, ↓ix3, ↓ix4, oc_firm, wipeD, List.set]; exact hK
    · rw [e]; simp? +zz [↓ix0, ↓ix1, ↓ix2, ↓ix3, ↓ix4, oc_firm, wipeD, List.set]; exact ⟨log_le (h.n n hx), hK⟩
theorem ks_sum {ds : List Dkx} (h : OkXs ds) : ((ds.map xkT).map (·.length)).sum + (ds.map xkT).length * ("\n" : Str).length ≤ 16777216 := by
  have a := sum_le (ls := (ds.map xkT).map (·.length)) (k := 30) fun x hx => by
    obtain ⟨p, hp, rfl⟩ := List.mem_map.mp hx
    obtain ⟨d, hd, rfl⟩ := List.mem_map.mp hp
    exact xkT_len (h.1 d hd)
  rw [List.length_map, List.length_map] at a
  rw [e1s, List.length_map]
  have := h.2
  omega
theorem map_ks {l : List Dkx} : l.filterMap (fun x => some (PyData.str (xkT x))) = (l.map xkT).map PyData.str := by
  rw [List.filterMap_eq_map', List.map_map]; rfl
theorem ks_app {ds : List Dkx} (h : OkXs ds) (hn : ds ≠ []) {f : Str → Prop} (k : f (xksT ds)) : joinK (S.d (PyData.list ((ds.map xkT).map PyData.str))) (Str.ofString "\n") f := by
  refine join_l (ys := ds.map xkT) (ks_sum h) ?_
  unfold xksT at k
  rw [if_neg hn] at k; exact k
theorem ma_deeds_text : ∀ ss R, ss.length = 1 → F_deeds_text ss R → rd_deeds_text { nx := fun _ => R (.d .none), rt := R } (ss ++ List.replicate 1 .un) := by
  rintro _ R - ⟨ds, h, rfl, q⟩
  unfold rd_deeds_text
  simp? +zz [↓ix0, ↓ix1, ↓ix2, ↓ix3, ↓ix4, oc_firm]
  cases ds with
  | nil => exact q
  | cons d ds =>
    refine ⟨line_ge (by rw [List.length_map]; have := h.2; omega), mapT (f := fun x => some (.str (xkT x))) ?_ fun x hx acc K hK => ?_⟩
    · rw [map_ks]; exact ks_app h (List.cons_ne_nil _ _) q
    · simp? +zz [↓ix0, ↓ix1, ↓ix2, ↓ix3, ↓ix4, oc_firm, ↓s_deed_text, wipeD, List.set]; exact ⟨h.1 x hx, hK⟩
theorem ma_l_rows_text : ∀ ss R, ss.length = 1 → F_l_rows_text ss R → rd_l_rows_text { nx := fun _ => R (.d .none), rt := R } (ss ++ List.replicate 1 .un) := by
  rintro _ R - ⟨ds, h, rfl, q⟩
  unfold rd_l_rows_text
  simp? +zz [↓ix0, ↓ix1, ↓ix2, ↓ix3, ↓ix4, oc_firm]
  refine ⟨by decide, ?_⟩
  cases ds with
  | nil => exact q
  | cons d ds =>
    refine ⟨line_ge (by rw [List.length_map]; have := h.2; omega), mapT (f := fun x => some (.str (xkT x))) ?_ fun x hx acc K hK => ?_⟩
    · rw [map_ks]; exact ks_app h (List.cons_ne_nil _ _) q
    · simp? +zz [↓ix0, ↓ix1, ↓ix2, ↓ix3, ↓ix4, oc_firm, ↓s_l_text, wipeD, List.set]; exact ⟨h.1 x hx, hK⟩
theorem dec_n : ∀ n, n < 100 → Txt.isdecimal (xnT (some n)) = true := by decide +kernel
theorem dec_none : Txt.isdecimal (xnT none) = false := by decide +kernel
theorem len_n {n : Nat} (h : n < 100) : (xnT (some n)).length ≤ 2 := by
  show (Str.ofString (toString (n : Int))).length ≤ 2
  rw [TL.len_tl, TL.tl_num]
  exact TL.numL_len (k := 2) (by decide) (by omega)
theorem int_n {n : Nat} (h : n < 100) : intText? (xnT (some n)) = some (n : Int) := TL.int_num (by have := TL.numL_len (n := n) (k := 2) (by decide) (by omega); omega)
theorem ma_number_in : ∀ ss R, ss.length = 2 → F_number_in ss R → rd_number_in { nx := fun _ => R (.d .none), rt := R } (ss ++ List.replicate 1 .un) := by
  rintro _ R - ⟨x, h, rfl, q⟩
  unfold rd_number_in
  simp? +zz [↓ix0, ↓ix1, ↓ix2, ↓ix3, ↓ix4, oc_firm]
  cases x with
  | none => rw [dec_none]; exact q
  | some n =>
    have hn := h n rfl
    have hl := len_n hn
    rw [dec_n n hn, decide_eq_false (show ¬ (2 : Int) < ((xnT (some n)).length : Int) by omega)]
    refine ⟨line_ge (by omega), n, int_n hn, by omega, log_le hn, ?_⟩
    show iteK ((PyData.str (xnT (some n))).eqv (PyData.str (xnT (some n)))) _ _
    rw [str_same]; exact q
theorem look_n {w : Str} {n : Nat} (h : (w, n) ∈ forms) : (lookD (dkI xNums) (.inr w)).getD .none = .int (n : Int) := by
  simp only [forms, List.mem_cons, Prod.mk.injEq, List.not_mem_nil, or_false] at h
  rcases h with ⟨rfl, rfl⟩ | ⟨rfl, rfl⟩ | ⟨rfl, rfl⟩ | ⟨rfl, rfl⟩ | ⟨rfl, rfl⟩ | ⟨rfl, rfl⟩ | ⟨rfl, rfl⟩ <;> rfl
theorem at_p {d : Dkx} {i : Nat} (hi : i < d.2.length) : atI (List.map PyData.str (xkP d)) ((i : Int) + 1) = some (.str (xnT d.2[i])) := by
  have h : i + 1 < (xkP d).length := by simp [xkP]; omega
  have e := map_at (f := PyData.str) (l := xkP d) (i := i + 1) h
  rw [show ((i : Int) + 1) = ((i + 1 : Nat) : Int) from rfl, e]
  simp [xkP]
theorem at_0 {d : Dkx} : atI (List.map PyData.str (xkP d)) 0 = some (.str d.1) := map_at (f := PyData.str) (l := xkP d) (i := 0) (by simp [xkP])
theorem tl_ks_len {ds : List Dkx} (h : OkXs ds) : (xksT ds).length ≤ 12404 := by
  unfold xksT
  split
  · decide +kernel
  · have a := sum_le (ls := (ds.map xkT).map (·.length)) (k := 30) fun x hx => by
      obtain ⟨p, hp, rfl⟩ := List.mem_map.mp hx
      obtain ⟨d, hd, rfl⟩ := List.mem_map.mp hp
      exact xkT_len (h.1 d hd)
    rw [List.length_map, List.length_map] at a
    rw [TL.len_tl, TL.join_eq, TL.tl_join]
    have := tl_len_join (S := TL.tl ("\n" : Str)) (ps := (ds.map xkT).map TL.tl)
    have e : ((ds.map xkT).map TL.tl).map (fun x => x.length) = (ds.map xkT).map (·.length) := by rw [List.map_map]; exact List.map_congr_left fun x _ => (TL.len_tl x).symm
    rw [e, List.length_map, List.length_map, ← TL.len_tl, e1s] at this
    have := h.2
    omega
theorem sp_d {d : Dkx} (h : OkX d) : 32 ∈ TL.tl (xkT d) := by
  have hl := h.len1
  obtain ⟨w, ns⟩ := d
  cases ns with
  | nil => simp at hl
  | cons x r =>
    unfold xkT
    rw [TL.join_eq, TL.tl_join]
    show 32 ∈ TL.tl w ++ (TL.tl (" " : Str) ++ _)
    rw [show TL.tl (" " : Str) = [32] from by decide +kernel]
    simp
theorem sp_ds {ds : List Dkx} (h : ∀ d ∈ ds, OkX d) (hn : ds ≠ []) : 32 ∈ TL.tl (xksT ds) := by
  unfold xksT
  rw [if_neg hn]
  cases ds with
  | nil => exact absurd rfl hn
  | cons d r =>
    have hd := sp_d (h d (by simp))
    rw [TL.join_eq, TL.tl_join]
    cases r with
    | nil => exact hd
    | cons e r =>
      show 32 ∈ TL.tl (xkT d) ++ _
      exact List.mem_append.mpr (.inl hd)
theorem ks_ne {ds : List Dkx} (h : ∀ d ∈ ds, OkX d) (hn : ds ≠ []) : xksT ds ≠ "none" := fun e => by
  have := sp_ds h hn
  rw [e, tl_none] at this
  exact absurd this (by decide)
theorem take_s {α : Type} {l : List α} {i : Nat} (hi : i < l.length) : l.take (i + 1) = l.take i ++ [l[i]] := by
  rw [List.take_add_one, List.getElem?_eq_getElem hi]; rfl
theorem ma_told_by_line : ∀ ss R, ss.length = 3 → F_told_by_line ss R → rd_told_by_line { nx := fun _ => R (.d .none), rt := R } (ss ++ List.replicate 4 .un) := by
  rintro _ R - ⟨d, h, rfl, q⟩
  unfold rd_told_by_line
  simp? +zz [↓ix0, ↓ix1, ↓ix2, ↓ix3, ↓ix4, oc_firm]
  rw [xkT_split h]
  have hl := h.len
  have hl2 := h.len1
  have hk := xkT_len h
  refine ⟨by decide +kernel, line_ge (by omega), .str d.1, at_0, ?_⟩
  have el : ((List.map PyData.str (xkP d)).length : Int) = d.2.length + 1 := by rw [List.length_map]; show (((d.2.map xnT).length + 1 : Nat) : Int) = _; rw [List.length_map]; omega
  simp? +zz [↓ix0, ↓ix1, ↓ix2, ↓ix3, ↓ix4, oc_firm, key_str]
  rw [look_n h.w, el]
  refine ⟨rfl, ?_⟩
  rw [int_eqv, decide_eq_true (show ((d.2.length : Int) + 1 - 1) = d.2.length by omega)]
  simp? +zz [↓ix0, ↓ix1, ↓ix2, ↓ix3, ↓ix4, oc_firm, ↓e_irng2]
  refine ⟨.str d.1, at_0, by decide, by rw [el]; omega, ?_⟩
  rw [el]
  refine loopR (fun k n ρ => ∃ (i : Nat) (s5 s6 : S), k = i + 1 ∧ i + n = d.2.length ∧ ρ = [S.d (PyData.str (xkT d)), S.d (dctD (dkI xNums)), S.d (PyData.int 2), S.d (PyData.list (List.map PyData.str (xkP d))), S.own (.str d.1 :: (d.2.take i).map xnD), s5, s6]) ?_ ?_ _ _ _ ⟨0, _, _, rfl, by omega, rfl⟩
  · rintro k _ ⟨i, s5, s6, rfl, hi, rfl⟩
    have : d.2.take i = d.2 := by rw [List.take_of_length_le (by omega)]
    rw [this]
    simp? +zz [↓ix0, ↓ix1, ↓ix2, ↓ix3, ↓ix4, oc_firm]
    exact q
  · rintro k n _ K hK ⟨i, s5, s6, rfl, hi, rfl⟩
    have hi' : i < d.2.length := by omega
    simp? +zz [↓ix0, ↓ix1, ↓ix2, ↓ix3, ↓ix4, oc_firm]
    refine ⟨_, at_p hi', d.2[i], fun m e => h.n m (e ▸ List.getElem_mem hi'), rfl, ?_⟩
    have fin : K [S.d (PyData.str (xkT d)), S.d (dctD (dkI xNums)), S.d (PyData.int 2), S.d (PyData.list (List.map PyData.str (xkP d))), S.own (.str d.1 :: (d.2.take i).map xnD ++ [xnD d.2[i]]), .d (.int ((i : Int) + 1)), .d (xnD d.2[i])] := by
      refine hK _ ⟨i + 1, .d (.int ((i : Int) + 1)), .d (xnD d.2[i]), by omega, by omega, ?_⟩
      rw [take_s hi', List.map_append]; rfl
    rcases xnD_str d.2[i] with ⟨e, e'⟩ | ⟨m, e', e⟩
    · rw [e] at fin
      rw [e]
      obtain ⟨hw, h3⟩ := h.z i (by rw [List.getElem?_eq_getElem hi', e'])
      simp? +zz [↓ix0, ↓ix1, ↓ix2, ↓ix3, ↓ix4, oc_firm]
      refine ⟨_, at_0, rfl, ?_⟩
      rw [hw, eqv_self, decide_eq_true (show (i : Int) + 1 = 4 by omega)]
      refine ⟨_, at_p hi', rfl, ?_⟩
      rw [e']
      show iteK ((PyData.str "none").eqv (PyData.str "none")) _ _
      rw [eqv_self]
      refine ⟨line_ge (by rw [List.length_map, List.length_take]; omega), ?_⟩
      rw [← hw]; exact fin
    · rw [e] at fin
      rw [e]
      simp? +zz [↓ix0, ↓ix1, ↓ix2, ↓ix3, ↓ix4, oc_firm]
      exact ⟨line_ge (by rw [List.length_map, List.length_take]; omega), fin⟩
theorem ma_deed_in : ∀ ss R, ss.length = 1 → F_deed_in ss R → rd_deed_in { nx := fun _ => R (.d .none), rt := R } (ss ++ List.replicate 0 .un) := by
  rintro _ R - ⟨d, h, rfl, q⟩
  unfold rd_deed_in
  simp? +zz [↓ix0, ↓ix1, ↓ix2, ↓ix3, ↓ix4, oc_firm]
  exact ⟨d, h, rfl, q⟩
theorem xkD_some {d : Dkx} : (match xkD d with | PyData.none => true | x => false) = false := rfl
theorem ma_read_deed : ∀ ss R (Z : Xc → Prop), ss.length = 1 → F_read_deed ss R Z → rd_read_deed (fun x _ => Z x) { nx := fun _ => R (.d .none), rt := R } (ss ++ List.replicate 1 .un) := by
  rintro _ R Z - ⟨d, h, rfl, q⟩
  unfold rd_read_deed
  simp? +zz [↓ix0, ↓ix1, ↓ix2, ↓ix3, ↓ix4, oc_firm]
  refine ⟨d, h, rfl, trivial, _, rfl, ?_⟩
  exact ⟨trivial, q⟩
theorem ma_read_deeds : ∀ ss R (Z : Xc → Prop), ss.length = 1 → F_read_deeds ss R Z → rd_read_deeds (fun x _ => Z x) { nx := fun _ => R (.d .none), rt := R } (ss ++ List.replicate 4 .un) := by
  rintro _ R Z - ⟨ds, h, rfl, q⟩
  unfold rd_read_deeds
  simp? +zz [↓ix0, ↓ix1, ↓ix2, ↓ix3, ↓ix4, oc_firm]
  by_cases hn : ds = []
  · subst hn
    exact ⟨by decide, q⟩
  have h2 := h.2
  rw [eqv_s, show (xksT ds == Str.ofString "none") = false from beq_eq_false_iff_ne.mpr (ks_ne h.1 hn), xksT_split h.1 hn]
  have el : (List.map PyData.str (ds.map xkT)) = ds.map fun d => .str (xkT d) := by rw [List.map_map]; rfl
  rw [el]
  refine ⟨by decide +kernel, line_ge (by have := tl_ks_len h; omega), line_ge (by rw [List.length_map]; omega), mapT (f := fun d => some (xkD d)) ?_ fun d hd acc K hK => ?_⟩
  · rw [List.filterMap_eq_map']
    simp? +zz [↓ix0, ↓ix1, ↓ix2, ↓ix3, ↓ix4, oc_firm, wipeD, List.set]
    refine loopP (fun _ ys ρ => (∀ y ∈ ys, ∃ d, y = xkD d) ∧ ∃ s2 s3 : S, ρ = [S.d (PyData.str (xksT ds)), S.d (PyData.list (ds.map xkD)), s2, s3, S.un]) ?_ ?_ _ _ _ ⟨fun y hy => by obtain ⟨d, _, rfl⟩ := List.mem_map.mp hy; exact ⟨d, rfl⟩, _, _, rfl⟩
    · rintro _ _ ⟨_, s2, s3, rfl⟩
      simp? +zz [↓ix0, ↓ix1, ↓ix2, ↓ix3, ↓ix4, oc_firm]
      rw [decide_eq_false (show ¬ (400 : Int) < ((ds.map xkD).length : Int) by rw [List.length_map]; omega)]
      exact q
    · rintro k _ ys _ K hK ⟨h0, s2, s3, rfl⟩
      obtain ⟨d, rfl⟩ := h0 _ (List.mem_cons_self ..)
      simp? +zz [↓ix0, ↓ix1, ↓ix2, ↓ix3, ↓ix4, oc_firm]
      exact hK _ ⟨fun y hy => h0 y (List.mem_cons_of_mem _ hy), _, _, rfl⟩
  · simp? +zz [↓ix0, ↓ix1, ↓ix2, ↓ix3, ↓ix4, oc_firm, wipeD, List.set]
    refine ⟨d, h.1 d hd, rfl, ?_⟩
    simp? +zz [↓ix0, ↓ix1, ↓ix2, ↓ix3, ↓ix4, oc_firm]
    exact hK
end GK

-- TXT
set_option maxRecDepth 100000
namespace GK
open PySem PySem.Spec PyProof.Rows L2 GB
local macro_rules | `(tactic| simp? +zz [$as,*] $[$l:location]?) => `(tactic| simp only [↓at0, ↓set0, ↓at1, ↓set1, ↓at2, ↓set2, ↓at3, ↓set3, ↓at4, ↓set4, ↓at5, ↓set5, ↓at6, ↓set6, ↓at7, ↓set7, ↓at8, ↓set8, ↓at9, ↓set9, ↓at10, ↓set10, ↓at11, ↓set11, ↓at12, ↓set12, ↓at13, ↓set13, ↓at14, ↓set14, ↓at15, ↓set15, ↓fz_d, ↓fz_own, ↓fz_ob, ↓one_d, ↓int_d, ↓bool_d, ↓own_o, ↓ds_nil, ↓ds_cons, ↓seq_l, ↓seq_t, ↓ite_t, ↓ite_f, ↓e_next, ↓e_seq, ↓e_set, ↓e_drop, ↓e_ret, ↓e_ifs, ↓e_brk, ↓e_cnt, ↓e_fixs, ↓e_par, ↓e_par3, ↓e_asg, ↓e_for, ↓e_putAt, ↓e_jput, ↓e_var, ↓e_k, ↓e_fz, ↓e_op, ↓e_opL, ↓e_opR, ↓e_n, ↓e_n1, ↓e_nil, ↓e_cons, ↓e_tup, ↓e_lst, ↓e_b, ↓e_not, ↓e_and, ↓e_or, ↓e_andV, ↓e_orV, ↓e_notV, ↓e_if, ↓e_isi, ↓e_neg, ↓e_chain, ↓e_call, ↓e_callK, ↓e_jint, ↓e_dict0, ↓e_dict1, ↓e_listRng, ↓e_append, ↓e_cut, ↓e_cutO, ↓e_onone, ↓e_osome, ↓e_iseq, ↓e_ienum, ↓e_irng, ↓e_gname, ↓e_lnil, ↓e_lcons, ↓e_lc, ↓e_yes, ↓f_addI, ↓f_addS, ↓f_addT, ↓f_addL, ↓f_i2, ↓f_mulI, ↓f_mulT, ↓f_mulL, ↓f_eq, ↓f_ne, ↓f_is, ↓f_isnot, ↓f_in, ↓f_notin, ↓f_ixL, ↓f_ixT, ↓f_lenL, ↓f_lenT, ↓f_lenS, ↓f_abs, ↓f_intI, ↓f_intB, ↓f_tupL, ↓f_tupT, ↓f_lstL, ↓f_lstT, ↓f_repr, ↓f_cutL, ↓f_cutT, ↓firm_d, ↓firm_ob, ↓zip_l, ↓zip_t, ↓e_izip, ↓zip_cons, ↓zip_nil1, ↓zip_nil2, ↓f_sorted, ↓e_inn, ↓e_inc, ↓e_l2n, ↓e_l2c, ↓e_lc2, ↓e_rev, ↓e_pop, ↓e_popAt, ↓e_extend, ↓e_lc3, ↓e_gon, ↓e_goc, ↓e_dbMid, ↓e_dbIn, ↓f_neu, ↓e_ifT, ↓e_newD, ↓e_retO, ↓e_fixK, ↓e_putO, ↓e_dkO, ↓e_dkF, ↓e_kdO, ↓e_kdF, ↓e_get2O, ↓e_get2F, ↓e_ListD, ↓e_ListF, ↓od_o, ↓dct_d, ↓key_int, ↓key_str, ↓g_item, ↓g_get, ↓g_in, ↓g_notin, ↓h_list, ↓fz_od, ↓ow_ex, ↓e_tr, ↓e_trO, ↓e_trK, ↓tru_b, ↓tru_n, ↓tru_i, ↓tru_l, ↓tru_t, ↓tru_s, ↓e_i63, ↓n63_d, ↓e_ss, ↓e_ssL, ↓e_ssF, ↓e_never, ↓e_kget, ↓str_ex, ↓e_disp, ↓e_vnil, ↓e_vcons, ↓f_equ, ↓e_ioL, ↓e_ioR, ↓e_ioN1, ↓e_ioPut, ↓e_consV, ↓e_consW, ↓e_callIO, ↓e_callJ, ↓ioK_io, ↓ioK_own, ↓ioK_d, ↓e_place, ↓e_kget1, ↓e_disp2, ↓f_max2, ↓f_min2, ↓e_callZ, ↓e_callKZ, ↓e_raiseZ, ↓e_raise0, ↓e_tryZ, ↓e_xf, ↓e_isx, ↓exc_o, ↓nox_d, ↓nox_ow, ↓nor_d, ↓nor_ow, ↓nor_jar, ↓e_boL, ↓e_boR, ↓e_boN1, ↓e_consN, ↓e_consB, ↓e_callB, ↓bor_o, ↓str_d, ↓e_jarRet, ↓e_scrN, ↓e_scr, ↓scr_o, ↓f_sortT, ↓at16, ↓set16, ↓at17, ↓set17, ↓at18, ↓set18, ↓at19, ↓set19, ↓at20, ↓set20, ↓at21, ↓set21, ↓at22, ↓set22, ↓at23, ↓set23, ↓at24, ↓set24, ↓e_isDec, ↓e_split, ↓e_join, ↓f_strI, ↓f_intUI, ↓f_intUB, ↓f_intUS, ↓e_dctC, ↓dgTup_tup, ↓dgCons_cons, ↓dgNil_nil, ite_t, ite_f, itK_not, List.cons_append, List.nil_append, List.append_nil, List.replicate, List.flatten_cons, List.flatten_nil, List.append_eq, List.length_cons, List.length_nil, Nat.zero_add, Nat.reduceAdd, true_and, and_true, eqOk_str, eqOk_int, eqOk_bool, str_eqv, int_eqv, tup_nil_eqv, lst_nil_eqv, rep_flat, isK_int, isK_bool, isK_tuple, isK_str, kInt, kBool, kTuple, kStr, GB.isNon, Bool.not_true, Bool.not_false, Bool.or_false, Bool.or_true, Bool.false_or, Bool.true_or, reduceCtorEq, $as,*] $[$l]?)
def tl24 : TSd := (dSeq (dSet 3 (dTup (dCons (dVar 1) dNil))) (dSeq (dFor (dIRng (dVar 2)) (dgName 4) (dSet 3 (dFz (dOp fAdd (dVar 3) (dTup (dCons (dCall F_l_pick 2 (dCons (dVar 0) (dCons (dFz (dLst (dCons (dK (.int 0)) (dCons (dK (.int 1)) (dCons (dK (.int 2)) (dCons (dK (.int 3)) (dCons (dK (.int 9)) (dCons (dK (.int 10)) (dCons (dK (.int 39)) (dCons (dK (.int 40)) (dCons (dK (.int 90)) (dCons (dK (.int 99)) (dCons (dCall F_l_draw 2 (dCons (dVar 0) (dCons (dK (.int 100)) dNil))) dNil))))))))))))) dNil))) dNil)))))) (dRet (dFz (dIf (dAnd (dB (dOp fEq (dVar 1) (dK (.str "write")))) (dB (dOp fEq (dCall F_l_draw 2 (dCons (dVar 0) (dCons (dK (.int 3)) dNil))) (dK (.int 0))))) (dOp fAdd (dFz (dCut (dVar 3) dONone (dOSome (dK (.int 4))))) (dTup (dCons (dK .none) dNil))) (dVar 3))))))
theorem cut_mapx {α : Type} {f : α → PyData} {l : List α} {a b : Option Int} : GB.cutD (l.map f) a b = (GB.cutD l a b).map f := by
  unfold GB.cutD
  rw [List.length_map, ← List.map_drop, ← List.map_take]
theorem mem_cut {α : Type} {l : List α} {a b : Option Int} {x : α} (h : x ∈ GB.cutD l a b) : x ∈ l := by
  unfold GB.cutD at h
  exact List.mem_of_mem_drop (List.mem_of_mem_take h)
theorem joinL_all {P : Nat → Prop} : ∀ {ps : List (List Nat)} {S : List Nat}, (∀ c ∈ S, P c) → (∀ p ∈ ps, ∀ c ∈ p, P c) → ∀ c ∈ TL.joinL S ps, P c
  | [], _, _, _, c, h => by simp [TL.joinL] at h
  | [p], _, _, h, c, m => h p (by simp) c m
  | p :: q :: r, S, hS, h, c, m => by
    have m : c ∈ p ++ (S ++ TL.joinL S (q :: r)) := m
    rw [List.mem_append, List.mem_append] at m
    rcases m with m | m | m
    · exact h p (by simp) c m
    · exact hS c m
    · exact joinL_all hS (fun z hz => h z (List.mem_cons_of_mem _ hz)) c m
theorem word_low {w : Str} {n : Nat} (h : (w, n) ∈ forms) : ∀ c ∈ TL.tl w, c < 1000 := by
  have : forms.all (fun p => (TL.tl p.1).all fun c => decide (c < 1000)) = true := by decide +kernel
  rw [List.all_eq_true] at this
  have := this _ h
  rw [List.all_eq_true] at this
  exact fun c hc => of_decide_eq_true (this c hc)
theorem num_low (x : Option Nat) : ∀ c ∈ TL.tl (xnT x), c < 1000 := by
  cases x with
  | none => rw [show TL.tl (xnT none) = [110, 111, 110, 101] from tl_none]; decide
  | some n =>
    rw [show TL.tl (xnT (some n)) = TL.numL n from TL.tl_num n]
    intro c hc
    have := TL.numL_digits n c hc
    omega
theorem kT_low {d : Dkx} (h : OkX d) : ∀ c ∈ TL.tl (xkT d), c < 1000 := by
  unfold xkT
  rw [TL.join_eq, TL.tl_join]
  refine joinL_all (by decide +kernel) fun p hp => ?_
  obtain ⟨q, hq, rfl⟩ := List.mem_map.mp hp
  rcases List.mem_cons.mp hq with rfl | hq
  · exact word_low h.w
  · obtain ⟨x, _, rfl⟩ := List.mem_map.mp hq; exact num_low x
theorem ks_low {ds : List Dkx} (h : ∀ d ∈ ds, OkX d) : ∀ c ∈ TL.tl (xksT ds), c < 1000 := by
  unfold xksT
  split
  · decide +kernel
  · rw [TL.join_eq, TL.tl_join]
    refine joinL_all (by decide +kernel) fun p hp => ?_
    obtain ⟨q, hq, rfl⟩ := List.mem_map.mp hp
    obtain ⟨d, hd, rfl⟩ := List.mem_map.mp hq
    exact kT_low (h d hd)
theorem sm_text {x : Str} {n : Nat} (h : ∀ c ∈ TL.tl x, c < 1000) (hn : x.length ≤ n) : Sm 0 n (.str x) := by
  refine ⟨by simp [PyData.showable], ?_, by simp [PyData.depth], by simp only [PyData.bulk]; exact hn⟩
  simp only [PyData.leavesShort, List.all_eq_true, decide_eq_true_eq]
  intro c hc
  have := h c hc
  have : (1000 : Nat) < 16 ^ 8 := by decide
  omega
theorem ks_sm {ds : List Dkx} (h : OkXs ds) : Sm 0 12404 (.str (xksT ds)) := sm_text (ks_low h.1) (tl_ks_len h)
theorem k_sm {d : Dkx} (h : OkX d) : Sm 0 30 (.str (xkT d)) := sm_text (kT_low h) (xkT_len h)
theorem d_sm {d : Dkx} (h : OkX d) : Sm 1 30 (xkD d) := by
  refine (sm_tup (D := 0) (W := 5) (n := 5) (fun x hx => ?_) (by simp; have := h.len; omega)).mono (Nat.le_refl _) (by decide)
  rcases List.mem_cons.mp hx with rfl | hx
  · exact sm_text (word_low h.w) (word_ok h.w).2.1
  · obtain ⟨y, hy, rfl⟩ := List.mem_map.mp hx
    rcases xnD_str y with ⟨e, rfl⟩ | ⟨n, rfl, e⟩
    · rw [e]; exact (sm_of (W := 0) (by decide +kernel)).mono (Nat.le_refl _) (by decide)
    · rw [e]; exact (smn n (by have := h.n n hy; omega)).mono (Nat.le_refl _) (by decide)
theorem ds_sm {ds : List Dkx} (h : OkXs ds) : Sm 2 12400 (.tuple (ds.map xkD)) :=
  sm_tup (D := 1) (W := 30) (n := 400) (fun x hx => by obtain ⟨d, hd, rfl⟩ := List.mem_map.mp hx; exact d_sm (h.1 d hd)) (by rw [List.length_map]; exact h.2)
theorem l3x_sm {ds : List Dkx} (h : OkXs ds) : Sm 3 40000 (.list [.str (xksT ds), .str (xksT ds), .tuple (ds.map xkD)]) :=
  sml_lst (D := 2) (sml_cons ((ks_sm h).mono (by decide) (Nat.le_refl _)) (sml_cons (W2 := 13000) ((ks_sm h).mono (by decide) (Nat.le_refl _)) (sml_cons (W2 := 0) (ds_sm h) sml_nil (by decide)) (W := 26000) (by decide)) (by decide))
theorem l2x_sm {d : Dkx} (h : OkX d) : Sm 2 200 (.list [.str (xkT d), xkD d]) :=
  sml_lst (D := 1) (sml_cons ((k_sm h).mono (by decide) (Nat.le_refl _)) (sml_cons (W2 := 0) (d_sm h) sml_nil (W := 40) (by decide)) (by decide))
theorem ma_l_is_written : ∀ ss R (Z : Xc → Prop), ss.length = 2 → F_l_is_written ss R Z → rd_l_is_written (fun x _ => Z x) { nx := fun _ => R (.d .none), rt := R } (ss ++ List.replicate 7 .un) := by
  rintro _ R Z - ⟨ds, b, h, rfl, q⟩
  have a1 := ds_sm h
  have a2 := l3x_sm h
  have lp : ∀ y ∈ GB.cutD (ds.map xkD) none (some 6), ∃ d, OkX d ∧ y = xkD d := fun y hy => by
    obtain ⟨d, hd, rfl⟩ := List.mem_map.mp (mem_cut hy); exact ⟨d, h.1 d hd, rfl⟩
  unfold rd_l_is_written
  cases b
  all_goals
    simp? +zz [↓ix0, ↓ix1, ↓ix2, ↓ix3, ↓ix4, oc_firm, ↓s_l_rows_text, ↓s_deeds_text]
    refine ⟨a1.sh, a1.fits (by decide), Nat.le_trans a1.dp (by decide), h, ?_⟩
  · refine ⟨h, ds, h, rfl, ?_⟩
    simp? +zz [↓ix0, ↓ix1, ↓ix2, ↓ix3, ↓ix4, oc_firm, ↓s_deeds_text]
    refine ⟨h, by decide, a2.sh, a2.fits (by decide), Nat.le_trans a2.dp (by decide), by decide, a2.sh, a2.fits (by decide), Nat.le_trans a2.dp (by decide), ?_⟩
    refine loopI (fun es ρ => (∀ y ∈ es, ∃ d, OkX d ∧ y = xkD d) ∧ ∃ s6 s7 s8 : S, ρ = [S.d (PyData.tuple (List.map xkD ds)), S.d (PyData.bool false), S.d (PyData.str (PyData.tuple (List.map xkD ds)).shown), S.d (PyData.str (xksT ds)), S.d (PyData.str (xksT ds)), S.d (PyData.tuple (List.map xkD ds)), s6, s7, s8]) ?_ ?_ _ _ ⟨lp, _, _, _, rfl⟩
    · rintro _ ⟨_, s6, s7, s8, rfl⟩
      simp? +zz [↓ix0, ↓ix1, ↓ix2, ↓ix3, ↓ix4, oc_firm]
      exact ⟨a1.sh, a1.fits (by decide), Nat.le_trans a1.dp (by decide), q⟩
    · rintro y ys _ K hK ⟨h0, s6, s7, s8, rfl⟩
      obtain ⟨d, hd, rfl⟩ := h0 _ (List.mem_cons_self ..)
      have a3 := l2x_sm hd
      simp? +zz [↓ix0, ↓ix1, ↓ix2, ↓ix3, ↓ix4, oc_firm, ↓s_deed_text]
      refine ⟨hd, d, hd, rfl, ?_⟩
      simp? +zz [↓ix0, ↓ix1, ↓ix2, ↓ix3, ↓ix4, oc_firm, ↓s_l_text]
      exact ⟨by decide, a3.sh, a3.fits (by decide), Nat.le_trans a3.dp (by decide), hd, by decide, a3.sh, a3.fits (by decide), Nat.le_trans a3.dp (by decide), hK _ ⟨fun y hy => h0 y (List.mem_cons_of_mem _ hy), _, _, _, rfl⟩⟩
  · refine ⟨rfl, ds, h, rfl, ?_⟩
    simp? +zz [↓ix0, ↓ix1, ↓ix2, ↓ix3, ↓ix4, oc_firm, ↓s_deeds_text]
    refine ⟨rfl, ds, h, rfl, ?_⟩
    simp? +zz [↓ix0, ↓ix1, ↓ix2, ↓ix3, ↓ix4, oc_firm, ↓s_deeds_text]
    refine ⟨h, by decide, a2.sh, a2.fits (by decide), Nat.le_trans a2.dp (by decide), by decide, a2.sh, a2.fits (by decide), Nat.le_trans a2.dp (by decide), ?_⟩
    refine loopI (fun es ρ => (∀ y ∈ es, ∃ d, OkX d ∧ y = xkD d) ∧ ∃ s6 s7 s8 : S, ρ = [S.d (PyData.tuple (List.map xkD ds)), S.d (PyData.bool true), S.d (PyData.str (PyData.tuple (List.map xkD ds)).shown), S.d (PyData.str (xksT ds)), S.d (PyData.str (xksT ds)), S.d (PyData.tuple (List.map xkD ds)), s6, s7, s8]) ?_ ?_ _ _ ⟨lp, _, _, _, rfl⟩
    · rintro _ ⟨_, s6, s7, s8, rfl⟩
      simp? +zz [↓ix0, ↓ix1, ↓ix2, ↓ix3, ↓ix4, oc_firm]
      exact ⟨a1.sh, a1.fits (by decide), Nat.le_trans a1.dp (by decide), q⟩
    · rintro y ys _ K hK ⟨h0, s6, s7, s8, rfl⟩
      obtain ⟨d, hd, rfl⟩ := h0 _ (List.mem_cons_self ..)
      have a3 := l2x_sm hd
      simp? +zz [↓ix0, ↓ix1, ↓ix2, ↓ix3, ↓ix4, oc_firm]
      refine ⟨rfl, d, hd, rfl, ?_⟩
      simp? +zz [↓ix0, ↓ix1, ↓ix2, ↓ix3, ↓ix4, oc_firm]
      refine ⟨rfl, d, hd, rfl, ?_⟩
      simp? +zz [↓ix0, ↓ix1, ↓ix2, ↓ix3, ↓ix4, oc_firm, ↓s_l_text]
      exact ⟨by decide, a3.sh, a3.fits (by decide), Nat.le_trans a3.dp (by decide), hd, by decide, a3.sh, a3.fits (by decide), Nat.le_trans a3.dp (by decide), hK _ ⟨fun y hy => h0 y (List.mem_cons_of_mem _ hy), _, _, _, rfl⟩⟩
theorem get_k {w : Str} {n : Nat} (h : (w, n) ∈ forms) : (lookD (GB.putAll [] ((List.map Sum.inr [Str.ofString "look", Str.ofString "scan", Str.ofString "drop", Str.ofString "copy", Str.ofString "make"]).zip [PyData.int 1, PyData.int 1, PyData.int 2, PyData.int 3, PyData.int 3])) (.inr w)).getD (PyData.int 4) = .int (n : Int) := by
  simp only [forms, List.mem_cons, Prod.mk.injEq, List.not_mem_nil, or_false] at h
  rcases h with ⟨rfl, rfl⟩ | ⟨rfl, rfl⟩ | ⟨rfl, rfl⟩ | ⟨rfl, rfl⟩ | ⟨rfl, rfl⟩ | ⟨rfl, rfl⟩ | ⟨rfl, rfl⟩ <;> rfl
theorem forms_le {w : Str} {n : Nat} (h : (w, n) ∈ forms) : n ≤ 4 ∧ 1 ≤ n ∧ (w = "write" → n = 4) := by
  have : forms.all (fun p => decide (p.2 ≤ 4) && decide (1 ≤ p.2) && (!(p.1 == "write") || decide (p.2 = 4))) = true := by decide +kernel
  rw [List.all_eq_true] at this
  have := this _ h
  simp only [Bool.and_eq_true, Bool.or_eq_true, decide_eq_true_eq, Bool.not_eq_true'] at this
  exact ⟨this.1.1, this.1.2, fun e => this.2.resolve_left (by rw [e]; simp)⟩
theorem ns_map (ns : List Nat) : (ns.map some).map xnD = ns.map fun n : Nat => PyData.int (n : Int) := by rw [List.map_map]; rfl
theorem ok_some {w : Str} {ns : List Nat} (h : (w, ns.length) ∈ forms) (h2 : ∀ n ∈ ns, n < 100) : OkX (w, ns.map some) := by
  refine ⟨by rw [List.length_map]; exact h, fun n hn => ?_, fun i hi => ?_⟩
  · obtain ⟨m, hm, e⟩ := List.mem_map.mp hn
    cases e; exact h2 _ hm
  · rw [List.getElem?_map] at hi
    cases e : ns[i]? with
    | none => rw [e] at hi; cases hi
    | some m => rw [e] at hi; cases hi
theorem ok_write {ns : List Nat} (h : ns.length = 4) (h2 : ∀ n ∈ ns, n < 100) : OkX ("write", (ns.take 3).map some ++ [none]) := by
  refine ⟨by simp [h, forms], fun n hn => ?_, fun i hi => ⟨rfl, ?_⟩⟩
  · rcases List.mem_append.mp hn with hn | hn
    · obtain ⟨m, hm, e⟩ := List.mem_map.mp hn
      cases e; exact h2 _ (List.mem_of_mem_take hm)
    · simp at hn
  · have hl : ((ns.take 3).map some).length = 3 := by simp [h]
    by_cases hi3 : i < 3
    · rw [List.getElem?_append_left (by omega), List.getElem?_map] at hi
      cases e : (ns.take 3)[i]? with
      | none => rw [e] at hi; cases hi
      | some m => rw [e] at hi; cases hi
    · rw [List.getElem?_append_right (by omega)] at hi
      have := (List.getElem?_eq_some_iff.mp hi).1
      simp at this
      omega
theorem any_tail {R : S → Prop} (q : ∀ (d : Dkx), OkX d → R (S.d (xkD d))) {w : Str} {n : Nat} (h : (w, n) ∈ forms) : tl24 { nx := fun _ => R (S.d PyData.none), rt := R } [S.ob Tk.jar, S.d (.str w), S.d (.int n), S.un, S.un] := by
  obtain ⟨hn, hn1, hw⟩ := forms_le h
  unfold tl24
  simp? +zz [↓ix0, ↓ix1, ↓ix2, ↓ix3, ↓ix4, oc_firm]
  refine ⟨by decide, by omega, by omega, ?_⟩
  refine loopR (fun k m ρ => ∃ (ns : List Nat) (s4 : S), ns.length + m = n ∧ (∀ x ∈ ns, x < 100) ∧ ρ = [S.ob Tk.jar, S.d (.str w), S.d (.int n), S.d (.tuple (.str w :: ns.map fun n : Nat => PyData.int (n : Int))), s4]) ?_ ?_ _ _ _ ⟨[], _, by simp, nofun, rfl⟩
  · rintro k _ ⟨ns, s4, hl, h2, rfl⟩
    have hl : ns.length = n := by omega
    have fin : R (S.d (.tuple (.str w :: ns.map fun n : Nat => PyData.int (n : Int)))) := by
      rw [← ns_map]; exact q (w, ns.map some) (ok_some (hl ▸ h) h2)
    simp? +zz [↓ix0, ↓ix1, ↓ix2, ↓ix3, ↓ix4, oc_firm, ↓s_draw]
    rw [eqv_s]
    by_cases e : w = "write"
    · subst e
      have h4 : ns.length = 4 := by rw [hl]; exact hw rfl
      have cl := cutD_len (PyData.str (Str.ofString "write") :: ns.map fun n : Nat => PyData.int (n : Int)) none (some 4)
      simp only [List.length_cons, List.length_map] at cl
      refine (show iteK true _ _ from ⟨by decide, fun r r0 r1 => ite2 (fun _ => ⟨by decide, line_ge (by omega), ?_⟩) fun _ => fin⟩)
      have := q ("write", (ns.take 3).map some ++ [none]) (ok_write h4 h2)
      rw [show (some 4 : Option Int) = some ((4 : Nat) : Int) from rfl, cutD_to, List.take_succ_cons, ← List.map_take]
      unfold xkD at this
      rw [List.map_append, ns_map] at this
      exact this
    · rw [show (w == Str.ofString "write") = false from beq_eq_false_iff_ne.mpr e]; exact fin
  · rintro k m _ K hK ⟨ns, s4, hl, h2, rfl⟩
    simp? +zz [↓ix0, ↓ix1, ↓ix2, ↓ix3, ↓ix4, oc_firm, ↓s_draw, ↓s_pick]
    refine ⟨by decide, fun r r0 r1 => ?_⟩
    have r1 := r1 (by decide)
    refine ⟨by decide, List.cons_ne_nil _ _, by decide, fun x hx => ?_⟩
    obtain ⟨v, hv, rfl⟩ : ∃ v : Nat, v < 100 ∧ x = .int (v : Int) := by
      simp only [List.mem_cons, List.not_mem_nil, or_false] at hx
      rcases hx with rfl | rfl | rfl | rfl | rfl | rfl | rfl | rfl | rfl | rfl | rfl
      · exact ⟨0, by decide, rfl⟩
      · exact ⟨1, by decide, rfl⟩
      · exact ⟨2, by decide, rfl⟩
      · exact ⟨3, by decide, rfl⟩
      · exact ⟨9, by decide, rfl⟩
      · exact ⟨10, by decide, rfl⟩
      · exact ⟨39, by decide, rfl⟩
      · exact ⟨40, by decide, rfl⟩
      · exact ⟨90, by decide, rfl⟩
      · exact ⟨99, by decide, rfl⟩
      · exact ⟨r.toNat, by omega, by rw [Int.toNat_of_nonneg r0]⟩
    refine ⟨by decide, line_ge (by simp; omega), hK _ ⟨ns ++ [v], .d (.int k), by simp; omega, fun y hy => ?_, ?_⟩⟩
    · rcases List.mem_append.mp hy with hy | hy
      · exact h2 y hy
      · rw [List.mem_singleton.mp hy]; exact hv
    · rw [List.map_append]; rfl
theorem ma_l_any_deed : ∀ ss R, ss.length = 1 → F_l_any_deed ss R → rd_l_any_deed { nx := fun _ => R (.d .none), rt := R } (ss ++ List.replicate 4 .un) := by
  rintro _ R - ⟨rfl, q⟩
  show dSeq (dSet 1 (dCall F_l_pick 2 (dCons (dVar 0) (dCons (dFz (dLst (dCons (dK (.str "look")) (dCons (dK (.str "scan")) (dCons (dK (.str "drop")) (dCons (dK (.str "copy")) (dCons (dK (.str "make")) (dCons (dK (.str "read")) (dCons (dK (.str "write")) (dCons (dK (.str "write")) dNil)))))))))) dNil)))) (dSeq (dSet 2 (dGet2F (dFz (dDisp ["look", "scan", "drop", "copy", "make"] [(dK (.int 1)), (dK (.int 1)), (dK (.int 2)), (dK (.int 3)), (dK (.int 3))])) (dVar 1) (dK (.int 4)))) tl24) _ _
  simp? +zz [↓ix0, ↓ix1, ↓ix2, ↓ix3, ↓ix4, oc_firm, ↓s_pick]
  refine ⟨by decide, List.cons_ne_nil _ _, by decide, fun x hx => ?_⟩
  obtain ⟨w, n, h, rfl⟩ : ∃ w n, (w, n) ∈ forms ∧ x = .str w := by
    simp only [List.mem_cons, List.not_mem_nil, or_false] at hx
    rcases hx with rfl | rfl | rfl | rfl | rfl | rfl | rfl | rfl
    · exact ⟨_, 1, by simp [forms], rfl⟩
    · exact ⟨_, 1, by simp [forms], rfl⟩
    · exact ⟨_, 2, by simp [forms], rfl⟩
    · exact ⟨_, 3, by simp [forms], rfl⟩
    · exact ⟨_, 3, by simp [forms], rfl⟩
    · exact ⟨_, 4, by simp [forms], rfl⟩
    · exact ⟨_, 4, by simp [forms], rfl⟩
    · exact ⟨_, 4, by simp [forms], rfl⟩
  simp? +zz [↓ix0, ↓ix1, ↓ix2, ↓ix3, ↓ix4, oc_firm, key_str]
  rw [get_k h]
  exact any_tail q h
theorem ma_l_close : ∀ ss R, ss.length = 2 → F_l_close ss R → rd_l_close { nx := fun _ => R (.d .none), rt := R } (ss ++ List.replicate 5 .un) := by
  rintro _ R - ⟨ds, h, hl, rfl, q⟩
  unfold rd_l_close
  simp? +zz [↓ix0, ↓ix1, ↓ix2, ↓ix3, ↓ix4, oc_firm, ↓s_draw, ↓s_l_any_deed]
  rw [List.length_map]
  refine ⟨by omega, fun r r0 r1 => ⟨by decide, fun v v0 v1 d hd => ?_⟩⟩
  have c0 := cutD_len ds none (some r)
  have c1 := cutD_len ds (some r) none
  have m : ∀ {a b : Option Int} {e : Dkx}, e ∈ GB.cutD ds a b → OkX e := fun he => h _ (mem_cut he)
  have m2 : ∀ {a b a' b' : Option Int} {e : Dkx}, e ∈ GB.cutD (GB.cutD ds a b) a' b' → OkX e := fun he => m (mem_cut he)
  have c2 : ∀ a b : Option Int, (GB.cutD (GB.cutD ds (some r) none) a b).length ≤ 12 := fun a b => Nat.le_trans (cutD_len _ a b) (by omega)
  simp only [cut_mapx, List.length_append, List.length_map, List.length_cons, List.length_nil]
  have x1 := c2 (some 1) none
  have x2 := c2 (some 1) (some 2)
  have x3 := c2 none (some 1)
  have x4 := c2 (some 2) none
  have hd' : xkD d = xkD d := rfl
  refine ite2 (fun _ => ⟨by decide, line_ge (by omega), line_ge (by omega), ?_⟩) fun _ => ite2 (fun _ => ⟨line_ge (by omega), line_ge (by omega), line_ge (by omega), ?_⟩) fun _ => ite2 (fun _ => ⟨line_ge (by omega), ?_⟩) fun _ => ⟨by decide, line_ge (by omega), line_ge (by omega), ?_⟩
  · have := q (GB.cutD ds none (some r) ++ [d] ++ GB.cutD (GB.cutD ds (some r) none) (some 1) none) (fun e he => by
      simp only [List.mem_append, List.mem_singleton] at he
      rcases he with (he | rfl) | he
      · exact m he
      · exact hd
      · exact m2 he) (by simp only [List.length_append, List.length_cons, List.length_nil]; omega)
    simpa only [List.map_append, List.map_cons, List.map_nil] using this
  · have := q (GB.cutD ds none (some r) ++ GB.cutD (GB.cutD ds (some r) none) (some 1) (some 2) ++ GB.cutD (GB.cutD ds (some r) none) none (some 1) ++ GB.cutD (GB.cutD ds (some r) none) (some 2) none) (fun e he => by
      simp only [List.mem_append] at he
      rcases he with ((he | he) | he) | he
      · exact m he
      · exact m2 he
      · exact m2 he
      · exact m2 he) (by simp only [List.length_append]; omega)
    simpa only [List.map_append] using this
  · have := q (GB.cutD ds none (some r) ++ GB.cutD (GB.cutD ds (some r) none) (some 1) none) (fun e he => by
      simp only [List.mem_append] at he
      rcases he with he | he
      · exact m he
      · exact m2 he) (by simp only [List.length_append]; omega)
    simpa only [List.map_append] using this
  · have := q (GB.cutD ds none (some r) ++ [d] ++ GB.cutD ds (some r) none) (fun e he => by
      simp only [List.mem_append, List.mem_singleton] at he
      rcases he with (he | rfl) | he
      · exact m he
      · exact hd
      · exact m he) (by simp only [List.length_append, List.length_cons, List.length_nil]; omega)
    simpa only [List.map_append, List.map_cons, List.map_nil] using this
end GK

-- TXT
set_option maxRecDepth 100000
namespace GK
open PySem PySem.Spec PyProof.Rows L2 GB
local macro_rules | `(tactic| simp? +zz [$as,*] $[$l:location]?) => `(tactic| simp only [↓at0, ↓set0, ↓at1, ↓set1, ↓at2, ↓set2, ↓at3, ↓set3, ↓at4, ↓set4, ↓at5, ↓set5, ↓at6, ↓set6, ↓at7, ↓set7, ↓at8, ↓set8, ↓at9, ↓set9, ↓at10, ↓set10, ↓at11, ↓set11, ↓at12, ↓set12, ↓at13, ↓set13, ↓at14, ↓set14, ↓at15, ↓set15, ↓fz_d, ↓fz_own, ↓fz_ob, ↓one_d, ↓int_d, ↓bool_d, ↓own_o, ↓ds_nil, ↓ds_cons, ↓seq_l, ↓seq_t, ↓ite_t, ↓ite_f, ↓e_next, ↓e_seq, ↓e_set, ↓e_drop, ↓e_ret, ↓e_ifs, ↓e_brk, ↓e_cnt, ↓e_fixs, ↓e_par, ↓e_par3, ↓e_asg, ↓e_for, ↓e_putAt, ↓e_jput, ↓e_var, ↓e_k, ↓e_fz, ↓e_op, ↓e_opL, ↓e_opR, ↓e_n, ↓e_n1, ↓e_nil, ↓e_cons, ↓e_tup, ↓e_lst, ↓e_b, ↓e_not, ↓e_and, ↓e_or, ↓e_andV, ↓e_orV, ↓e_notV, ↓e_if, ↓e_isi, ↓e_neg, ↓e_chain, ↓e_call, ↓e_callK, ↓e_jint, ↓e_dict0, ↓e_dict1, ↓e_listRng, ↓e_append, ↓e_cut, ↓e_cutO, ↓e_onone, ↓e_osome, ↓e_iseq, ↓e_ienum, ↓e_irng, ↓e_gname, ↓e_lnil, ↓e_lcons, ↓e_lc, ↓e_yes, ↓f_addI, ↓f_addS, ↓f_addT, ↓f_addL, ↓f_i2, ↓f_mulI, ↓f_mulT, ↓f_mulL, ↓f_eq, ↓f_ne, ↓f_is, ↓f_isnot, ↓f_in, ↓f_notin, ↓f_ixL, ↓f_ixT, ↓f_lenL, ↓f_lenT, ↓f_lenS, ↓f_abs, ↓f_intI, ↓f_intB, ↓f_tupL, ↓f_tupT, ↓f_lstL, ↓f_lstT, ↓f_repr, ↓f_cutL, ↓f_cutT, ↓firm_d, ↓firm_ob, ↓zip_l, ↓zip_t, ↓e_izip, ↓zip_cons, ↓zip_nil1, ↓zip_nil2, ↓f_sorted, ↓e_inn, ↓e_inc, ↓e_l2n, ↓e_l2c, ↓e_lc2, ↓e_rev, ↓e_pop, ↓e_popAt, ↓e_extend, ↓e_lc3, ↓e_gon, ↓e_goc, ↓e_dbMid, ↓e_dbIn, ↓f_neu, ↓e_ifT, ↓e_newD, ↓e_retO, ↓e_fixK, ↓e_putO, ↓e_dkO, ↓e_dkF, ↓e_kdO, ↓e_kdF, ↓e_get2O, ↓e_get2F, ↓e_ListD, ↓e_ListF, ↓od_o, ↓dct_d, ↓key_int, ↓key_str, ↓g_item, ↓g_get, ↓g_in, ↓g_notin, ↓h_list, ↓fz_od, ↓ow_ex, ↓e_tr, ↓e_trO, ↓e_trK, ↓tru_b, ↓tru_n, ↓tru_i, ↓tru_l, ↓tru_t, ↓tru_s, ↓e_i63, ↓n63_d, ↓e_ss, ↓e_ssL, ↓e_ssF, ↓e_never, ↓e_kget, ↓str_ex, ↓e_disp, ↓e_vnil, ↓e_vcons, ↓f_equ, ↓e_ioL, ↓e_ioR, ↓e_ioN1, ↓e_ioPut, ↓e_consV, ↓e_consW, ↓e_callIO, ↓e_callJ, ↓ioK_io, ↓ioK_own, ↓ioK_d, ↓e_place, ↓e_kget1, ↓e_disp2, ↓f_max2, ↓f_min2, ↓e_callZ, ↓e_callKZ, ↓e_raiseZ, ↓e_raise0, ↓e_tryZ, ↓e_xf, ↓e_isx, ↓exc_o, ↓nox_d, ↓nox_ow, ↓nor_d, ↓nor_ow, ↓nor_jar, ↓e_boL, ↓e_boR, ↓e_boN1, ↓e_consN, ↓e_consB, ↓e_callB, ↓bor_o, ↓str_d, ↓e_jarRet, ↓e_scrN, ↓e_scr, ↓scr_o, ↓f_sortT, ↓at16, ↓set16, ↓at17, ↓set17, ↓at18, ↓set18, ↓at19, ↓set19, ↓at20, ↓set20, ↓at21, ↓set21, ↓at22, ↓set22, ↓at23, ↓set23, ↓at24, ↓set24, ↓e_isDec, ↓e_split, ↓e_join, ↓f_strI, ↓f_intUI, ↓f_intUB, ↓f_intUS, ↓e_dctC, ↓dgTup_tup, ↓dgCons_cons, ↓dgNil_nil, ite_t, ite_f, itK_not, List.cons_append, List.nil_append, List.append_nil, List.replicate, List.flatten_cons, List.flatten_nil, List.append_eq, List.length_cons, List.length_nil, Nat.zero_add, Nat.reduceAdd, true_and, and_true, eqOk_str, eqOk_int, eqOk_bool, str_eqv, int_eqv, tup_nil_eqv, lst_nil_eqv, rep_flat, isK_int, isK_bool, isK_tuple, isK_str, kInt, kBool, kTuple, kStr, GB.isNon, Bool.not_true, Bool.not_false, Bool.or_false, Bool.or_true, Bool.false_or, Bool.true_or, reduceCtorEq, $as,*] $[$l]?)
theorem at_neg {α : Type} (a : List α) (x : α) : atI (a ++ [x]) (-1) = some x := by
  unfold atI ixN
  rw [if_neg (by decide), if_pos (by simp; omega)]
  rw [show ((-1 : Int) + ((a ++ [x]).length : Nat)).toNat = a.length by simp only [List.length_append, List.length_cons, List.length_nil]; omega]
  simp
theorem six_neg {n d : Nat} : HT.sIx n d (some (-1)) = n - 1 := by
  unfold HT.sIx
  dsimp only
  rw [if_pos (by decide)]; omega
theorem cut_init {α : Type} (a : List α) (x : α) : GB.cutD (a ++ [x]) none (some (-1)) = a := by
  unfold GB.cutD
  rw [six_neg]
  show ((a ++ [x]).drop 0).take ((a ++ [x]).length - 1 - 0) = a
  simp
theorem cut_last {α : Type} (a : List α) (x : α) : GB.cutD (a ++ [x]) (some (-1)) none = [x] := by
  unfold GB.cutD
  rw [six_neg]
  show ((a ++ [x]).drop ((a ++ [x]).length - 1)).take ((a ++ [x]).length - ((a ++ [x]).length - 1)) = [x]
  simp
theorem split_d {d : Dkx} (h : OkX d) : ∃ ms x, d = (d.1, ms ++ [x]) := by
  have hl := h.len1
  obtain ⟨w, ns⟩ := d
  have hn : ns ≠ [] := fun e => by simp [e] at hl
  exact ⟨ns.dropLast, ns.getLast hn, by rw [List.dropLast_concat_getLast hn]⟩
theorem xkD_app {w : Str} {ms : List (Option Nat)} {x : Option Nat} : xkD (w, ms ++ [x]) = .tuple ((.str w :: ms.map xnD) ++ [xnD x]) := by
  unfold xkD; simp
theorem ok_last {w : Str} {ms : List (Option Nat)} {x : Option Nat} {m : Nat} (h : OkX (w, ms ++ [x])) (hm : m < 100) : OkX (w, ms ++ [some m]) := by
  refine ⟨by have := h.w; simpa using this, fun n hn => ?_, fun i hi => ?_⟩
  · rcases List.mem_append.mp hn with hn | hn
    · exact h.n n (List.mem_append_left _ hn)
    · have := List.mem_singleton.mp hn
      cases this; exact hm
  · by_cases hi2 : i < ms.length
    · have hi : (ms ++ [some m])[i]? = some none := hi
      rw [List.getElem?_append_left hi2] at hi
      exact h.z i (by show (ms ++ [x])[i]? = some none; rw [List.getElem?_append_left hi2]; exact hi)
    · have hi : (ms ++ [some m])[i]? = some none := hi
      rw [List.getElem?_append_right (by omega)] at hi
      obtain ⟨h1, h2⟩ := List.getElem?_eq_some_iff.mp hi
      simp at h2
theorem ks_inj {ds es : List Dkx} (hd : ∀ d ∈ ds, OkX d) (he : ∀ d ∈ es, OkX d) (h : xksT ds = xksT es) : ds = es := by
  by_cases e1 : ds = []
  · by_cases e2 : es = []
    · rw [e1, e2]
    · exact absurd (h.symm.trans (by rw [e1]; rfl)) (ks_ne he e2)
  · by_cases e2 : es = []
    · exact absurd (h.trans (by rw [e2]; rfl)) (ks_ne hd e1)
    · have := congrArg (fun z => Txt.split z "\n") h
      replace this : Txt.split (xksT ds) "\n" = Txt.split (xksT es) "\n" := this
      rw [xksT_split hd e1, xksT_split he e2] at this
      exact map_kT_inj hd he this
theorem both {p q : Bool} (h : p = q) : (PyData.bool p).eqv (.bool q) = true := by subst h; cases p <;> decide
theorem same_ds {ds es : List Dkx} (hd : ∀ d ∈ ds, OkX d) (he : ∀ d ∈ es, OkX d) : (PyData.str (xksT ds)).eqv (PyData.str (xksT es)) = (PyData.str (PyData.tuple (ds.map xkD)).shown).eqv (PyData.str (PyData.tuple (es.map xkD)).shown) := by
  by_cases e : ds = es
  · subst e; rw [eqv_self, eqv_self]
  · rw [eqv_s, eqv_s, beq_eq_false_iff_ne.mpr fun h => e (ks_inj hd he h), beq_eq_false_iff_ne.mpr fun h => e (shown_deeds hd he h)]
theorem same_d {d e : Dkx} (hd : OkX d) (he : OkX e) : (PyData.str (xkT d)).eqv (PyData.str (xkT e)) = (PyData.str (xkD d).shown).eqv (PyData.str (xkD e).shown) := by
  by_cases h : d = e
  · subst h; rw [eqv_self, eqv_self]
  · rw [eqv_s, eqv_s, beq_eq_false_iff_ne.mpr fun q => h (xkT_inj hd he q), beq_eq_false_iff_ne.mpr fun q => h (shown_deed hd he q)]
theorem fIx_x {w : Str} {ns : List (Option Nat)} {y : Option Nat} {k : S → Prop} (q : k (.d (xnD y))) : fIx (xkD (w, ns ++ [y])) (.int (-1)) k := by
  rw [xkD_app]
  simp? +zz [↓ix0, ↓ix1, ↓ix2, ↓ix3, ↓ix4, oc_firm]
  exact ⟨_, show atI ((PyData.str w :: ns.map xnD) ++ [xnD y]) (-1) = some (xnD y) from at_neg _ _, q⟩
theorem fCut_i {w : Str} {ns : List (Option Nat)} {y : Option Nat} {k : S → Prop} (q : k (.d (.tuple (.str w :: ns.map xnD)))) : fCut (xkD (w, ns ++ [y])) none (some (-1)) k := by
  rw [xkD_app]
  simp? +zz [↓ix0, ↓ix1, ↓ix2, ↓ix3, ↓ix4, oc_firm]
  rw [show PyData.str w :: (ns.map xnD ++ [xnD y]) = (PyData.str w :: ns.map xnD) ++ [xnD y] from rfl, cut_init]; exact q
theorem fCut_l {w : Str} {ns : List (Option Nat)} {y : Option Nat} {k : S → Prop} (q : k (.d (.tuple [xnD y]))) : fCut (xkD (w, ns ++ [y])) (some (-1)) none k := by
  rw [xkD_app]
  simp? +zz [↓ix0, ↓ix1, ↓ix2, ↓ix3, ↓ix4, oc_firm]
  rw [show PyData.str w :: (ns.map xnD ++ [xnD y]) = (PyData.str w :: ns.map xnD) ++ [xnD y] from rfl, cut_last]; exact q
theorem ma_law : ∀ ss R, ss.length = 1 → F_law ss R → rd_law { nx := fun _ => R (.d .none), rt := R } (ss ++ List.replicate 8 .un) := by
  rintro _ R - ⟨zs, rfl, hz, q⟩
  unfold rd_law
  simp? +zz [↓ix0, ↓ix1, ↓ix2, ↓ix3, ↓ix4, oc_firm]
  refine ⟨zs, rfl, hz, ?_⟩
  simp? +zz [↓ix0, ↓ix1, ↓ix2, ↓ix3, ↓ix4, oc_firm]
  refine ⟨by decide, by decide, ?_⟩
  refine loopR (fun k m ρ => ∃ (s2 s3 s4 s5 s6 : S), ρ = [S.ob (.scr zs), S.ob .jar, s2, s3, s4, s5, s6, .un, .un]) ?_ ?_ _ _ _ ⟨_, _, _, _, _, rfl⟩
  · rintro k _ ⟨s2, s3, s4, s5, s6, rfl⟩
    simp? +zz [↓ix0, ↓ix1, ↓ix2, ↓ix3, ↓ix4, oc_firm, ↓s_draw]
    refine ⟨by decide, fun r r0 r1 => ite2 (fun _ => ?_) fun _ => q⟩
    refine ⟨by decide, by decide, line_ge (by rw [irow_len]; decide), eachR (P := fun x => ∃ d, x = xkD d ∧ OkX d) ?_ fun d hd acc K hK => ?_⟩
    · intro acc ha hx
      obtain ⟨ds, rfl, hds⟩ := typed_of hx
      rw [irow_len, List.length_map] at ha
      simp? +zz [↓ix0, ↓ix1, ↓ix2, ↓ix3, ↓ix4, oc_firm, wipeD, List.set, ↓s_pick]
      refine ⟨by decide, by decide, line_ge (by rw [List.length_map, ha]; decide), by decide, List.cons_ne_nil _ _, by decide, fun x hx => ?_⟩
      obtain ⟨v, hv, rfl⟩ : ∃ v : Nat, v ≤ 400 ∧ x = .int (v : Int) := by
        simp only [List.mem_cons, List.not_mem_nil, or_false] at hx
        rcases hx with rfl | rfl
        · exact ⟨400, by decide, rfl⟩
        · exact ⟨399, by decide, rfl⟩
      simp? +zz [↓ix0, ↓ix1, ↓ix2, ↓ix3, ↓ix4, oc_firm]
      have e : (List.replicate (Int.toNat 60) (List.map xkD ds)).flatten = ((List.replicate (Int.toNat 60) ds).flatten).map xkD := by rw [List.map_flatten, List.map_replicate]
      rw [e, cutD_to, ← List.map_take]
      refine ⟨_, _, ⟨fun d hd => ?_, by rw [List.length_take]; omega⟩, rfl, q⟩
      have hd := List.mem_of_mem_take hd
      obtain ⟨l, hl, hd⟩ := List.mem_flatten.mp hd
      rw [(List.mem_replicate.mp hl).2] at hd
      exact hds d hd
    · simp? +zz [↓ix0, ↓ix1, ↓ix2, ↓ix3, ↓ix4, oc_firm, wipeD, List.set, ↓s_l_any_deed]
      exact fun d hd => hK _ ⟨d, rfl, hd⟩
  · rintro k m _ K hK ⟨s2, s3, s4, s5, s6, rfl⟩
    simp? +zz [↓ix0, ↓ix1, ↓ix2, ↓ix3, ↓ix4, oc_firm, ↓s_pick]
    refine ⟨by decide, List.cons_ne_nil _ _, by decide, fun x hx => ?_⟩
    obtain ⟨v, hv, rfl⟩ : ∃ v : Nat, v ≤ 12 ∧ x = .int (v : Int) := by
      simp only [List.mem_cons, List.not_mem_nil, or_false] at hx
      rcases hx with rfl | rfl | rfl | rfl | rfl | rfl
      · exact ⟨3, by decide, rfl⟩
      · exact ⟨1, by decide, rfl⟩
      · exact ⟨0, by decide, rfl⟩
      · exact ⟨2, by decide, rfl⟩
      · exact ⟨6, by decide, rfl⟩
      · exact ⟨12, by decide, rfl⟩
    simp? +zz [↓ix0, ↓ix1, ↓ix2, ↓ix3, ↓ix4, oc_firm]
    refine ⟨by omega, by omega, line_ge (by rw [irow_len]; omega), eachR (P := fun x => ∃ d, x = xkD d ∧ OkX d) ?_ fun d hd acc K hK => ?_⟩
    · intro acc ha hx
      obtain ⟨ds, rfl, hds⟩ := typed_of hx
      rw [irow_len, List.length_map] at ha
      have hds2 : ds.length ≤ 12 := by omega
      simp? +zz [↓ix0, ↓ix1, ↓ix2, ↓ix3, ↓ix4, oc_firm, wipeD, List.set]
      refine ⟨ds, hds, hds2, rfl, fun es hes hel => ?_⟩
      simp? +zz [↓ix0, ↓ix1, ↓ix2, ↓ix3, ↓ix4, oc_firm]
      refine ⟨ds, _, ⟨hds, by omega⟩, rfl, ?_⟩
      simp? +zz [↓ix0, ↓ix1, ↓ix2, ↓ix3, ↓ix4, oc_firm]
      refine ⟨es, _, ⟨hes, by omega⟩, rfl, ?_⟩
      simp? +zz [↓ix0, ↓ix1, ↓ix2, ↓ix3, ↓ix4, oc_firm, ↓s_deeds_text, ↓s_l_any_deed]
      have a1 := ds_sm (ds := ds) ⟨hds, by omega⟩
      have a2 := ds_sm (ds := es) ⟨hes, by omega⟩
      refine ⟨⟨hds, by omega⟩, ⟨hes, by omega⟩, a1.sh, a1.fits (by decide), Nat.le_trans a1.dp (by decide), a2.sh, a2.fits (by decide), Nat.le_trans a2.dp (by decide), ?_⟩
      rw [both (same_ds hds hes)]
      refine ite_t.mpr fun d hd e he => ?_
      obtain ⟨ms, x, ed⟩ := split_d hd
      obtain ⟨ns, y, ee⟩ := split_d he
      generalize d.1 = w1 at ed
      generalize e.1 = w2 at ee
      subst ed
      subst ee
      have b1 := d_sm hd
      have b2 := d_sm he
      have fin : ∀ e', K [S.ob (.scr zs), S.ob .jar, S.d (.int k), S.d (.tuple (ds.map xkD)), S.d (.tuple (es.map xkD)), S.d (xkD (w1, ms ++ [x])), S.d (xkD e'), .un, .un] := fun e' => hK _ ⟨_, _, _, _, _, rfl⟩
      refine fIx_x ?_
      rcases xnD_str y with ⟨e', rfl⟩ | ⟨m', rfl, e'⟩
      · rw [e']
        simp? +zz [↓ix0, ↓ix1, ↓ix2, ↓ix3, ↓ix4, oc_firm, ↓s_deed_text]
        refine ⟨hd, he, b1.sh, b1.fits (by decide), Nat.le_trans b1.dp (by decide), b2.sh, b2.fits (by decide), Nat.le_trans b2.dp (by decide), ?_⟩
        rw [both (same_d hd he)]
        exact fin _
      · rw [e']
        have hm := he.n m' (by simp)
        have hn := ok_last hd hm
        have b3 := d_sm hn
        simp? +zz [↓ix0, ↓ix1, ↓ix2, ↓ix3, ↓ix4, oc_firm, ↓s_deed_text, ↓s_draw]
        refine ⟨by decide, fun r r0 r1 => ite2 (fun _ => ?_) fun _ => ?_⟩
        · refine fCut_i ?_
          simp? +zz [↓ix0, ↓ix1, ↓ix2, ↓ix3, ↓ix4, oc_firm]
          refine fCut_l ?_
          simp? +zz [↓ix0, ↓ix1, ↓ix2, ↓ix3, ↓ix4, oc_firm]
          have new : PyData.tuple (.str w1 :: (ms.map xnD ++ [xnD (some m')])) = xkD (w1, ms ++ [some m']) := xkD_app.symm
          rw [new]
          simp? +zz [↓ix0, ↓ix1, ↓ix2, ↓ix3, ↓ix4, oc_firm, ↓s_deed_text]
          have hl := hd.len
          have hl2 : (ms ++ [x]).length ≤ 4 := hl
          rw [List.length_append] at hl2
          refine ⟨line_ge (by rw [List.length_map]; omega), hd, hn, b1.sh, b1.fits (by decide), Nat.le_trans b1.dp (by decide), b3.sh, b3.fits (by decide), Nat.le_trans b3.dp (by decide), ?_⟩
          rw [both (same_d hd hn)]
          exact fin _
        · refine ⟨hd, he, b1.sh, b1.fits (by decide), Nat.le_trans b1.dp (by decide), b2.sh, b2.fits (by decide), Nat.le_trans b2.dp (by decide), ?_⟩
          rw [both (same_d hd he)]
          exact fin _
    · simp? +zz [↓ix0, ↓ix1, ↓ix2, ↓ix3, ↓ix4, oc_firm, wipeD, List.set, ↓s_l_any_deed]
      exact fun d hd => hK _ ⟨d, rfl, hd⟩
end GK

set_option maxRecDepth 100000
namespace GK
open PySem PySem.Spec PyProof.Rows L2 GB
section
variable {P : Program} {w : World} {K : PySem.W.Frag} {mg : Str → Option Value} {base : Heap}
theorem xp_BadText (T : Tx K w mg) : ExP P w K mg base "BadText" "place" T.a_BadText := exP_mk T.m_BadText T.T_BadText T.xn_BadText T.ii_BadText T.it_BadText T.Bi_BadText (init_ok T.Fi_BadText sci_BadText fun cdv A outer s H E => pss_one (ps_ost (pv 0) (pv 1)))
theorem ok_l_bag (T : Tx K w mg) (hs : ∃ o, base.get? sysModules = some o) : FnG P w K mg base CX0 1 T.a_l_bag T.d_l_bag ["script"] (spD K (Jr P w K) 1 F_l_bag) :=
  fn_ok T.F_l_bag sc_l_bag hs (t := rd_l_bag) (fun cdv A outer s H E hg hr gd => (dss_cons (ds_par (i := 1) (j := 2) gd rfl rfl (by decide) rfl rfl (de_fz gd (de_lc (own := [("cell", 3)]) gd (di_seq rfl (de_fz gd (de_scr rfl (fun _ _ _ h => h) (pv 0)))) (blkOk_by (N := nm_l_bag) (sc := defScope st_l_bag) (by decide +kernel)) (fun _ _ _ _ _ => (pg_name (i := 3) (by exact gd.nd) (by rfl) (by exact (.inl rfl)))) (gown_name (by decide)) (fun _ _ _ _ _ gd => dts_nil) (fun _ _ _ _ _ gd => (de_fz gd (de_op (o_add rfl) (de_fz gd (de_op (o_mul rfl) de_int (de_callB (c_abs rfl) (by rfl) T.b_abs (by decide +kernel) (da_cons (de_var 3) da_nil)))) (de_callT (c_intU rfl) (by rfl) T.b_int (by decide +kernel) (da_cons (de_cmp (o_lt) (de_var 3) de_int (nomark _)) da_nil))))))) (de_fz gd (de_op (o_add rfl) de_int (de_fz gd (de_op (o_mul rfl) de_int (de_scrN rfl (fun _ _ _ h => h) (by rfl) T.b_len (pv 0)))))) rfl) (dss_cons (ds_for gd PassesOwn.never (di_seq rfl (de_var 1)) (dg_name (i := 3) gd rfl (.inl rfl)) (dss_one (ds_set (i := 2) gd rfl (.inl rfl) (de_op (o_mod) (de_callT (c_intU rfl) (by rfl) T.b_int (by decide +kernel) (da_cons (de_fz gd (de_op (o_add rfl) (de_fz gd (de_op (o_add rfl) (de_fz gd (de_op (o_mul rfl) (de_var 2) de_int)) (de_var 3))) de_int)) da_nil)) de_int)))) (dss_one (ds_jarRet (fun _ _ h => h) (by decide) (by decide) (by decide) (de_lc (own := [("cell", 3)]) gd (di_seq rfl (de_var 1)) (blkOk_by (N := nm_l_bag) (sc := defScope st_l_bag) (by decide +kernel)) (fun _ _ _ _ _ => (pg_name (i := 3) (by exact gd.nd) (by rfl) (by exact (.inl rfl)))) (gown_name (by decide)) (fun _ _ _ _ _ gd => (dts_one (dt_cmp (o_ge) (de_var 3) (de_op (o_pow) de_int de_int) (nomark _)))) (fun _ _ _ _ _ gd => (de_var 3))) (de_var 2) de_int))))) ma_l_bag
theorem ok_l_draw (T : Tx K w mg) (hs : ∃ o, base.get? sysModules = some o) : FnG P w K mg base CX0 1 T.a_l_draw T.d_l_draw ["bag", "many"] (spD K (Jr P w K) 2 F_l_draw) :=
  fn_ok T.F_l_draw sc_l_draw hs (t := rd_l_draw) (fun cdv A outer s H E hg hr gd => (dss_cons (ds_if (dt_cmp (o_lt) (de_var 1) de_int (nomark _)) (dss_one (ds_ret de_int)) dss_nil) (dss_cons (ds_jpop0 gd (fun _ _ h => h) rfl rfl (pv 0) (pv 0) (pv 0) (pv 2) (pv 1) (pv 2) (pv 1) (dss_one (ds_ret (de_op (o_mod) (de_callT (c_intU rfl) (by rfl) T.b_int (by decide +kernel) (da_cons (de_var 2) da_nil)) (de_var 1))))) (dss_cons (ds_jput gd (fun _ _ h => h) (by decide) (by decide) (pv 0) (de_op (o_add rfl) (de_jint gd (fun _ _ h => h) (by decide) (pv 0)) de_int)) (dss_cons (ds_set (i := 3) gd rfl (.inl rfl) (de_op (o_mod) (de_callT (c_intU rfl) (by rfl) T.b_int (by decide +kernel) (da_cons (de_fz gd (de_op (o_add rfl) (de_jint gd (fun _ _ h => h) (by decide) (pv 0)) (de_fz gd (de_op (o_mul rfl) de_int (de_jint gd (fun _ _ h => h) (by decide) (pv 0)))))) da_nil)) de_int)) (dss_cons (ds_set (i := 4) gd rfl (.inl rfl) (de_op (o_mod) (de_callT (c_intU rfl) (by rfl) T.b_int (by decide +kernel) (da_cons (de_fz gd (de_op (o_add rfl) (de_fz gd (de_op (o_add rfl) (de_fz gd (de_op (o_mul rfl) (de_var 3) (de_var 3))) (de_fz gd (de_op (o_mul rfl) de_int (de_jint gd (fun _ _ h => h) (by decide) (pv 0)))))) de_int)) da_nil)) de_int)) (dss_one (ds_ret (de_op (o_mod) (de_op (o_div) (de_op (o_mod) (de_callT (c_intU rfl) (by rfl) T.b_int (by decide +kernel) (da_cons (de_fz gd (de_op (o_add rfl) (de_fz gd (de_op (o_mul rfl) (de_var 4) (de_var 4))) (de_var 3))) da_nil)) de_int) de_int) (de_var 1)))))))))) ma_l_draw
theorem ok_l_pick (T : Tx K w mg) (hs : ∃ o, base.get? sysModules = some o) : FnG P w K mg base CX0 2 T.a_l_pick T.d_l_pick ["bag", "items"] (spD K (Jr P w K) 2 F_l_pick) :=
  fn_ok T.F_l_pick sc_l_pick hs (t := rd_l_pick) (fun cdv A outer s H E hg hr gd => (dss_one (ds_ret (de_ix (i_at rfl) (de_var 1) (de_call rfl (ok_l_draw T hs) (hr.mono (by decide)) gd (by rfl) T.m_l_draw T.F_l_draw.kp T.B_l_draw pass0 (da_cons (de_var 0) (da_cons (de_callB (c_len rfl) (by rfl) T.b_len (by decide +kernel) (da_cons (de_var 1) da_nil)) da_nil))) (fun _ _ => rfl))))) ma_l_pick
theorem ok_l_any_deed (T : Tx K w mg) (hs : ∃ o, base.get? sysModules = some o) : FnG P w K mg base CX0 3 T.a_l_any_deed T.d_l_any_deed ["bag"] (spD K (Jr P w K) 1 F_l_any_deed) :=
  fn_ok T.F_l_any_deed sc_l_any_deed hs (t := rd_l_any_deed) (fun cdv A outer s H E hg hr gd => (dss_cons (ds_set (i := 1) gd rfl (.inl rfl) (de_call rfl (ok_l_pick T hs) (hr.mono (by decide)) gd (by rfl) T.m_l_pick T.F_l_pick.kp T.B_l_pick pass0 (da_cons (de_var 0) (da_cons (de_fz gd (de_lst (da_cons de_str (da_cons de_str (da_cons de_str (da_cons de_str (da_cons de_str (da_cons de_str (da_cons de_str (da_cons de_str da_nil)))))))))) da_nil)))) (dss_cons (ds_set (i := 2) gd rfl (.inl rfl) (de_get2F gd (de_fz gd (de_disp (ks := ["look", "scan", "drop", "copy", "make"]) (ts := [(dK (.int 1)), (dK (.int 1)), (dK (.int 2)), (dK (.int 3)), (dK (.int 3))]) (pps_cons pe_str de_int (pps_cons pe_str de_int (pps_cons pe_str de_int (pps_cons pe_str de_int (pps_cons pe_str de_int pps_nil))))) rfl (by decide))) (de_var 1) de_int)) (dss_cons (ds_set (i := 3) gd rfl (.inl rfl) (de_tup (da_cons (de_var 1) da_nil))) (dss_cons (ds_for gd PassesOwn.never (di_rng (by rfl) T.b_range (de_var 2)) (dg_name (i := 4) gd rfl (.inl rfl)) (dss_one (ds_set (i := 3) gd rfl (.inl rfl) (de_fz gd (de_op (o_add rfl) (de_var 3) (de_tup (da_cons (de_call rfl (ok_l_pick T hs) (hr.mono (by decide)) gd (by rfl) T.m_l_pick T.F_l_pick.kp T.B_l_pick pass0 (da_cons (de_var 0) (da_cons (de_fz gd (de_lst (da_cons de_int (da_cons de_int (da_cons de_int (da_cons de_int (da_cons de_int (da_cons de_int (da_cons de_int (da_cons de_int (da_cons de_int (da_cons de_int (da_cons (de_call rfl (ok_l_draw T hs) (hr.mono (by decide)) gd (by rfl) T.m_l_draw T.F_l_draw.kp T.B_l_draw pass0 (da_cons (de_var 0) (da_cons de_int da_nil))) da_nil))))))))))))) da_nil))) da_nil))))))) (dss_one (ds_ret (de_fz gd (de_if (dw_and (dt_cmp (o_eq rfl gd) (de_var 1) de_str (nomark _)) (dw_and1 (dt_cmp (o_eq rfl gd) (de_call rfl (ok_l_draw T hs) (hr.mono (by decide)) gd (by rfl) T.m_l_draw T.F_l_draw.kp T.B_l_draw pass0 (da_cons (de_var 0) (da_cons de_int da_nil))) de_int (nomark _)))).pt (de_op (o_add rfl) (de_fz gd (de_cut rfl (de_var 3) do_none (do_some de_int))) (de_tup (da_cons de_non da_nil))) (de_var 3)))))))))) ma_l_any_deed
theorem ok_l_close (T : Tx K w mg) (hs : ∃ o, base.get? sysModules = some o) : FnG P w K mg base CX0 4 T.a_l_close T.d_l_close ["bag", "acts"] (spD K (Jr P w K) 2 F_l_close) :=
  fn_ok T.F_l_close sc_l_close hs (t := rd_l_close) (fun cdv A outer s H E hg hr gd => (dss_cons (ds_par3 (i := 2) (j := 3) (l := 4) gd rfl rfl rfl (by decide) (by decide) (by decide) rfl rfl rfl (de_call rfl (ok_l_draw T hs) (hr.mono (by decide)) gd (by rfl) T.m_l_draw T.F_l_draw.kp T.B_l_draw pass0 (da_cons (de_var 0) (da_cons (de_fz gd (de_op (o_add rfl) (de_callB (c_len rfl) (by rfl) T.b_len (by decide +kernel) (da_cons (de_var 1) da_nil)) de_int)) da_nil))) (de_call rfl (ok_l_draw T hs) (hr.mono (by decide)) gd (by rfl) T.m_l_draw T.F_l_draw.kp T.B_l_draw pass0 (da_cons (de_var 0) (da_cons de_int da_nil))) (de_call rfl (ok_l_any_deed T hs) (hr.mono (by decide)) gd (by rfl) T.m_l_any_deed T.F_l_any_deed.kp T.B_l_any_deed pass0 (da_cons (de_var 0) da_nil)) rfl) (dss_cons (ds_par (i := 5) (j := 6) gd rfl rfl (by decide) rfl rfl (de_fz gd (de_cut rfl (de_var 1) do_none (do_some (de_var 2)))) (de_fz gd (de_cut rfl (de_var 1) (do_some (de_var 2)) do_none)) rfl) (dss_cons (ds_if (dt_cmp (o_eq rfl gd) (de_var 3) de_int (nomark _)) (dss_one (ds_ret (de_fz gd (de_op (o_add rfl) (de_fz gd (de_op (o_add rfl) (de_var 5) (de_tup (da_cons (de_var 4) da_nil)))) (de_fz gd (de_cut rfl (de_var 6) (do_some de_int) do_none)))))) dss_nil) (dss_cons (ds_if (dt_cmp (o_eq rfl gd) (de_var 3) de_int (nomark _)) (dss_one (ds_ret (de_fz gd (de_op (o_add rfl) (de_fz gd (de_op (o_add rfl) (de_fz gd (de_op (o_add rfl) (de_var 5) (de_fz gd (de_cut rfl (de_var 6) (do_some de_int) (do_some de_int))))) (de_fz gd (de_cut rfl (de_var 6) do_none (do_some de_int))))) (de_fz gd (de_cut rfl (de_var 6) (do_some de_int) do_none)))))) dss_nil) (dss_one (ds_ret (de_fz gd (de_if (dt_cmp (o_eq rfl gd) (de_var 3) de_int (nomark _)) (de_op (o_add rfl) (de_var 5) (de_fz gd (de_cut rfl (de_var 6) (do_some de_int) do_none))) (de_op (o_add rfl) (de_fz gd (de_op (o_add rfl) (de_var 5) (de_tup (da_cons (de_var 4) da_nil)))) (de_var 6))))))))))) ma_l_close
theorem ok_l_text (T : Tx K w mg) (hs : ∃ o, base.get? sysModules = some o) : FnG P w K mg base CX0 1 T.a_l_text T.d_l_text ["deed"] (spD K (Jr P w K) 1 F_l_text) :=
  fn_ok T.F_l_text sc_l_text hs (t := rd_l_text) (fun cdv A outer s H E hg hr gd => (dss_one (ds_ret (de_join rfl de_str (de_fz gd (de_op (o_add rfl) (de_fz gd (de_lst (da_cons (de_ix (i_at rfl) (de_var 0) de_int (fun _ _ => rfl)) da_nil))) (de_fz gd (de_lc (own := [("item", 1)]) gd (di_seq rfl (de_fz gd (de_cut rfl (de_var 0) (do_some de_int) do_none))) (blkOk_by (N := nm_l_text) (sc := defScope st_l_text) (by decide +kernel)) (fun _ _ _ _ _ => (pg_name (i := 1) (by exact gd.nd) (by rfl) (by exact (.inl rfl)))) (gown_name (by decide)) (fun _ _ _ _ _ gd => dts_nil) (fun _ _ _ _ _ gd => (de_if (dt_cmp (o_is) (de_var 1) de_non (nomark _)) de_str (de_callT (c_str rfl) (by rfl) T.b_str (by decide +kernel) (da_cons (de_var 1) da_nil)))))))))))) ma_l_text
theorem ok_l_rows_text (T : Tx K w mg) (hs : ∃ o, base.get? sysModules = some o) : FnG P w K mg base CX0 2 T.a_l_rows_text T.d_l_rows_text ["acts"] (spD K (Jr P w K) 1 F_l_rows_text) :=
  fn_ok T.F_l_rows_text sc_l_rows_text hs (t := rd_l_rows_text) (fun cdv A outer s H E hg hr gd => (dss_one (ds_ret (de_if (dt_cmp (o_neu rfl gd) (de_var 0) (de_tup da_nil) (nomark _)) (de_join rfl de_str (de_fz gd (de_lc (own := [("deed", 1)]) gd (di_seq rfl (de_var 0)) (blkOk_by (N := nm_l_rows_text) (sc := defScope st_l_rows_text) (by decide +kernel)) (fun _ _ _ _ _ => (pg_name (i := 1) (by exact gd.nd) (by rfl) (by exact (.inl rfl)))) (gown_name (by decide)) (fun _ _ _ _ _ gd => dts_nil) (fun _ _ _ _ _ gd => (de_call rfl (ok_l_text T hs) (hr.mono (by decide)) gd (by rfl) T.m_l_text T.F_l_text.kp T.B_l_text pass0 (da_cons (de_var 1) da_nil)))))) de_str)))) ma_l_rows_text
theorem ok_deed_text (T : Tx K w mg) (hs : ∃ o, base.get? sysModules = some o) : FnG P w K mg base CX0 1 T.a_deed_text T.d_deed_text ["deed"] (spD K (Jr P w K) 1 F_deed_text) :=
  fn_ok T.F_deed_text sc_deed_text hs (t := rd_deed_text) (fun cdv A outer s H E hg hr gd => (dss_one (ds_ret (de_join rfl de_str (de_fz gd (de_op (o_add rfl) (de_fz gd (de_lst (da_cons (de_ix (i_at rfl) (de_var 0) de_int (fun _ _ => rfl)) da_nil))) (de_fz gd (de_lc (own := [("number", 1)]) gd (di_seq rfl (de_fz gd (de_cut rfl (de_var 0) (do_some de_int) do_none))) (blkOk_by (N := nm_deed_text) (sc := defScope st_deed_text) (by decide +kernel)) (fun _ _ _ _ _ => (pg_name (i := 1) (by exact gd.nd) (by rfl) (by exact (.inl rfl)))) (gown_name (by decide)) (fun _ _ _ _ _ gd => dts_nil) (fun _ _ _ _ _ gd => (de_if (dt_cmp (o_is) (de_var 1) de_non (nomark _)) (de_glob (by rfl) T.m_NOTHING T.r_NOTHING fun _ => .str _) (de_callT (c_str rfl) (by rfl) T.b_str (by decide +kernel) (da_cons (de_var 1) da_nil)))))))))))) ma_deed_text
theorem ok_deeds_text (T : Tx K w mg) (hs : ∃ o, base.get? sysModules = some o) : FnG P w K mg base CX0 2 T.a_deeds_text T.d_deeds_text ["deeds"] (spD K (Jr P w K) 1 F_deeds_text) :=
  fn_ok T.F_deeds_text sc_deeds_text hs (t := rd_deeds_text) (fun cdv A outer s H E hg hr gd => (dss_cons (ds_if (dt_not (dt_tr rfl (de_var 0))) (dss_one (ds_ret (de_glob (by rfl) T.m_NOTHING T.r_NOTHING fun _ => .str _))) dss_nil) (dss_one (ds_ret (de_join rfl de_str (de_fz gd (de_lc (own := [("deed", 1)]) gd (di_seq rfl (de_var 0)) (blkOk_by (N := nm_deeds_text) (sc := defScope st_deeds_text) (by decide +kernel)) (fun _ _ _ _ _ => (pg_name (i := 1) (by exact gd.nd) (by rfl) (by exact (.inl rfl)))) (gown_name (by decide)) (fun _ _ _ _ _ gd => dts_nil) (fun _ _ _ _ _ gd => (de_call rfl (ok_deed_text T hs) (hr.mono (by decide)) gd (by rfl) T.m_deed_text T.F_deed_text.kp T.B_deed_text pass0 (da_cons (de_var 1) da_nil)))))))))) ma_deeds_text
theorem ok_number_in (T : Tx K w mg) (hs : ∃ o, base.get? sysModules = some o) : FnG P w K mg base CX0 1 T.a_number_in T.d_number_in ["text", "figures"] (spD K (Jr P w K) 2 F_number_in) :=
  fn_ok T.F_number_in sc_number_in hs (t := rd_number_in) (fun cdv A outer s H E hg hr gd => (dss_cons (ds_if (dw_or (dt_not (dt_tr rfl (de_isDec (de_var 0)))) (dw_or1 (dt_cmp (o_gt) (de_callB (c_len rfl) (by rfl) T.b_len (by decide +kernel) (da_cons (de_var 0) da_nil)) (de_var 1) (nomark _)))).pt (dss_one (ds_ret de_non)) dss_nil) (dss_cons (ds_set (i := 2) gd rfl (.inl rfl) (de_callT (c_intU rfl) (by rfl) T.b_int (by decide +kernel) (da_cons (de_var 0) da_nil))) (dss_one (ds_ret (de_if (dt_cmp (o_eq rfl gd) (de_callT (c_str rfl) (by rfl) T.b_str (by decide +kernel) (da_cons (de_var 2) da_nil)) (de_var 0) (nomark _)) (de_var 2) de_non)))))) ma_number_in
theorem ok_told_by_line (T : Tx K w mg) (hs : ∃ o, base.get? sysModules = some o) : FnG P w K mg base CX0 2 T.a_told_by_line T.d_told_by_line ["line", "numbers", "figures"] (spD K (Jr P w K) 3 F_told_by_line) :=
  fn_ok T.F_told_by_line sc_told_by_line hs (t := rd_told_by_line) (fun cdv A outer s H E hg hr gd => (dss_cons (ds_set (i := 3) gd rfl (.inl rfl) (de_fz gd (de_split (de_var 0) de_str))) (dss_cons (ds_if (dt_cmp (o_ne rfl gd) (de_op (o_sub) (de_callB (c_len rfl) (by rfl) T.b_len (by decide +kernel) (da_cons (de_var 3) da_nil)) de_int) (de_getF gd (de_var 1) (de_ix (i_at rfl) (de_var 3) de_int (fun _ _ => rfl))) (nomark _)) (dss_one (ds_ret de_non)) dss_nil) (dss_cons (ds_set (i := 4) gd rfl (.inl rfl) (de_lst (da_cons (de_ix (i_at rfl) (de_var 3) de_int (fun _ _ => rfl)) da_nil))) (dss_cons (ds_for gd PassesOwn.never (di_rng2 (by rfl) T.b_range de_int (de_callB (c_len rfl) (by rfl) T.b_len (by decide +kernel) (da_cons (de_var 3) da_nil))) (dg_name (i := 5) gd rfl (.inl rfl)) (dss_cons (ds_set (i := 6) gd rfl (.inl rfl) (de_call rfl (ok_number_in T hs) (hr.mono (by decide)) gd (by rfl) T.m_number_in T.F_number_in.kp T.B_number_in pass0 (da_cons (de_ix (i_at rfl) (de_var 3) (de_var 5) (fun _ _ => rfl)) (da_cons (de_var 2) da_nil)))) (dss_cons (ds_if (dw_and (dt_cmp (o_is) (de_var 6) de_non (nomark _)) (dw_and1 (dt_not (dw_and (dt_cmp (o_eq rfl gd) (de_ix (i_at rfl) (de_var 3) de_int (fun _ _ => rfl)) de_str (nomark _)) (dw_and (dt_cmp (o_eq rfl gd) (de_var 5) de_int (nomark _)) (dw_and1 (dt_cmp (o_eq rfl gd) (de_ix (i_at rfl) (de_var 3) (de_var 5) (fun _ _ => rfl)) (de_glob (by rfl) T.m_NOTHING T.r_NOTHING fun _ => .str _) (nomark _))))).pt))).pt (dss_one (ds_ret de_non)) dss_nil) (dss_one (ds_expr (de_append (pv 4) (de_var 6))))))) (dss_one (ds_ret (de_callT1 (c_tuple rfl) (by rfl) T.b_tuple (by decide +kernel) (pv 4))))))))) ma_told_by_line
theorem ok_deed_in (T : Tx K w mg) (hs : ∃ o, base.get? sysModules = some o) : FnG P w K mg base CX0 3 T.a_deed_in T.d_deed_in ["line"] (spD K (Jr P w K) 1 F_deed_in) :=
  fn_ok T.F_deed_in sc_deed_in hs (t := rd_deed_in) (fun cdv A outer s H E hg hr gd => (dss_one (ds_ret (de_call rfl (ok_told_by_line T hs) (hr.mono (by decide)) gd (by rfl) T.m_told_by_line T.F_told_by_line.kp T.B_told_by_line pass0 (da_cons (de_var 0) (da_cons (de_fz gd (de_dictC (by rfl) T.b_dict (by rfl) T.m_NUMBERS T.xc_NUMBERS (by decide) (by decide))) (da_cons de_int da_nil))))))) ma_deed_in
theorem ok_read_deeds (T : Tx K w mg) (hs : ∃ o, base.get? sysModules = some o) : FnG P w K mg base (L2.CX P w) 4 T.a_read_deeds T.d_read_deeds ["value"] (spZ K (Jr P w K) T.xt 1 F_read_deeds) :=
  fnz_ok T.F_read_deeds sc_read_deeds hs (t := rd_read_deeds) (fun cdv A outer s H E Z hg hr gd po tk hz => (dss_cons (ds_if (dt_not (dt_tr rfl (de_isi (Ts := "str") rfl (by rfl) T.b_isinstance (by rfl) T.b_str (by decide +kernel) (.inr (.inr (.inl rfl))) (de_var 0)))) (dss_one (ds_raiseZ rfl gd (hr.mono (by decide)) tk hz (ec := .badText) (by rfl) (xp_BadText T) (by rfl) de_int)) dss_nil) (dss_cons (ds_if (dt_cmp (o_eq rfl gd) (de_var 0) (de_glob (by rfl) T.m_NOTHING T.r_NOTHING fun _ => .str _) (nomark _)) (dss_one (ds_ret (de_tup da_nil))) dss_nil) (dss_cons (ds_setLc (i := 1) (own := [("line", 4)]) gd rfl rfl (sw_true rfl rfl rfl (by decide +kernel)) (di_seq rfl (de_fz gd (de_split (de_var 0) de_str))) (blkOk_by (N := nm_read_deeds) (sc := defScope st_read_deeds) (by decide +kernel)) (fun _ _ _ _ _ => (pg_name (i := 4) (by exact gd.nd) (by rfl) (by exact (.inl rfl)))) (gown_name (by decide)) (fun _ _ _ _ _ gd => dts_nil) (fun _ _ _ _ _ gd => (de_call rfl (ok_deed_in T hs) (hr.mono (by decide)) gd (by rfl) T.m_deed_in T.F_deed_in.kp T.B_deed_in pass0 (da_cons (de_var 4) da_nil)))) (dss_fix gd 1 (dss_cons (ds_for gd po (di_enum rfl (by rfl) T.b_enumerate (de_var 1)) (dg_tup gd rfl (dgs_cons (dg_name (i := 2) gd rfl (.inl rfl)) (dgs_cons (dg_name (i := 3) gd rfl (.inl rfl)) dgs_nil))) (dss_one (ds_if (dt_cmp (o_is) (de_var 3) de_non (nomark _)) (dss_one (ds_raiseZ rfl gd (hr.mono (by decide)) tk hz (ec := .badText) (by rfl) (xp_BadText T) (by rfl) (de_var 2))) dss_nil))) (dss_cons (ds_if (dt_cmp (o_gt) (de_callB (c_len rfl) (by rfl) T.b_len (by decide +kernel) (da_cons (de_var 1) da_nil)) (de_glob (by rfl) T.m_MAX_DEEDS T.r_MAX_DEEDS fun _ => .int _) (nomark _)) (dss_one (ds_raiseZ rfl gd (hr.mono (by decide)) tk hz (ec := .badText) (by rfl) (xp_BadText T) (by rfl) (de_glob (by rfl) T.m_MAX_DEEDS T.r_MAX_DEEDS fun _ => .int _))) dss_nil) (dss_one (ds_ret (de_callT (c_tuple rfl) (by rfl) T.b_tuple (by decide +kernel) (da_cons (de_var 1) da_nil))))))))))) ma_read_deeds
theorem ok_read_deed (T : Tx K w mg) (hs : ∃ o, base.get? sysModules = some o) : FnG P w K mg base (L2.CX P w) 4 T.a_read_deed T.d_read_deed ["value"] (spZ K (Jr P w K) T.xt 1 F_read_deed) :=
  fnz_ok T.F_read_deed sc_read_deed hs (t := rd_read_deed) (fun cdv A outer s H E Z hg hr gd po tk hz => (dss_cons (ds_set (i := 1) gd rfl (.inl rfl) (de_if (dt_tr rfl (de_isi (Ts := "str") rfl (by rfl) T.b_isinstance (by rfl) T.b_str (by decide +kernel) (.inr (.inr (.inl rfl))) (de_var 0))) (de_call rfl (ok_deed_in T hs) (hr.mono (by decide)) gd (by rfl) T.m_deed_in T.F_deed_in.kp T.B_deed_in pass0 (da_cons (de_var 0) da_nil)) de_non)) (dss_cons (ds_if (dt_cmp (o_is) (de_var 1) de_non (nomark _)) (dss_one (ds_raiseZ rfl gd (hr.mono (by decide)) tk hz (ec := .badText) (by rfl) (xp_BadText T) (by rfl) de_int)) dss_nil) (dss_one (ds_ret (de_var 1)))))) ma_read_deed
theorem ok_l_is_written (T : Tx K w mg) (hs : ∃ o, base.get? sysModules = some o) : FnG P w K mg base (L2.CX P w) 5 T.a_l_is_written T.d_l_is_written ["acts", "is_named"] (spZ K (Jr P w K) T.xt 2 F_l_is_written) :=
  fnz_ok T.F_l_is_written sc_l_is_written hs (t := rd_l_is_written) (fun cdv A outer s H E Z hg hr gd po tk hz => (dss_cons (ds_par (i := 2) (j := 3) gd rfl rfl (by decide) rfl rfl (de_callB (c_repr rfl gd) (by rfl) T.b_repr (by decide +kernel) (da_cons (de_var 0) da_nil)) (de_call rfl (ok_l_rows_text T hs) (hr.mono (by decide)) gd (by rfl) T.m_l_rows_text T.F_l_rows_text.kp T.B_l_rows_text pass0 (da_cons (de_var 0) da_nil)) rfl) (dss_cons (ds_set (i := 4) gd rfl (.inl rfl) (de_if (dt_tr rfl (de_var 1)) (de_callK rfl (ok_deeds_text T hs) (hr.mono (by decide)) gd (by rfl) T.m_deeds_text T.F_deeds_text.kp T.P_deeds_text_0 pass0 (dk_cons (de_var 0) dk_nil)) (de_call rfl (ok_deeds_text T hs) (hr.mono (by decide)) gd (by rfl) T.m_deeds_text T.F_deeds_text.kp T.B_deeds_text pass0 (da_cons (de_var 0) da_nil)))) (dss_cons (ds_set (i := 5) gd rfl (.inl rfl) (de_if (dt_tr rfl (de_var 1)) (de_callKZ rfl (ok_read_deeds T hs) (hr.mono (by decide)) gd (by rfl) T.m_read_deeds T.F_read_deeds.kp T.P_read_deeds_0 tk hz (dk_cons (de_var 3) dk_nil)) (de_callZ rfl (ok_read_deeds T hs) (hr.mono (by decide)) gd (by rfl) T.m_read_deeds T.F_read_deeds.kp T.B_read_deeds tk hz (da_cons (de_var 3) da_nil)))) (dss_cons (ds_if (dt_cmp (o_ne rfl gd) (de_callB (c_repr rfl gd) (by rfl) T.b_repr (by decide +kernel) (da_cons (de_fz gd (de_lst (da_cons (de_var 4) (da_cons (de_call rfl (ok_deeds_text T hs) (hr.mono (by decide)) gd (by rfl) T.m_deeds_text T.F_deeds_text.kp T.B_deeds_text pass0 (da_cons (de_var 0) da_nil)) (da_cons (de_var 5) da_nil))))) da_nil)) (de_callB (c_repr rfl gd) (by rfl) T.b_repr (by decide +kernel) (da_cons (de_fz gd (de_lst (da_cons (de_var 3) (da_cons (de_var 3) (da_cons (de_var 0) da_nil))))) da_nil)) (nomark _)) (dss_one (ds_ret de_bl)) dss_nil) (dss_cons (ds_for gd po (di_seq rfl (de_fz gd (de_cut rfl (de_var 0) do_none (do_some de_int)))) (dg_name (i := 6) gd rfl (.inl rfl)) (dss_cons (ds_set (i := 7) gd rfl (.inl rfl) (de_if (dt_tr rfl (de_var 1)) (de_callK rfl (ok_deed_text T hs) (hr.mono (by decide)) gd (by rfl) T.m_deed_text T.F_deed_text.kp T.P_deed_text_0 pass0 (dk_cons (de_var 6) dk_nil)) (de_call rfl (ok_deed_text T hs) (hr.mono (by decide)) gd (by rfl) T.m_deed_text T.F_deed_text.kp T.B_deed_text pass0 (da_cons (de_var 6) da_nil)))) (dss_cons (ds_set (i := 8) gd rfl (.inl rfl) (de_if (dt_tr rfl (de_var 1)) (de_callKZ rfl (ok_read_deed T hs) (hr.mono (by decide)) gd (by rfl) T.m_read_deed T.F_read_deed.kp T.P_read_deed_0 tk hz (dk_cons (de_var 7) dk_nil)) (de_callZ rfl (ok_read_deed T hs) (hr.mono (by decide)) gd (by rfl) T.m_read_deed T.F_read_deed.kp T.B_read_deed tk hz (da_cons (de_var 7) da_nil)))) (dss_one (ds_if (dt_cmp (o_ne rfl gd) (de_callB (c_repr rfl gd) (by rfl) T.b_repr (by decide +kernel) (da_cons (de_fz gd (de_lst (da_cons (de_var 7) (da_cons (de_var 8) da_nil)))) da_nil)) (de_callB (c_repr rfl gd) (by rfl) T.b_repr (by decide +kernel) (da_cons (de_fz gd (de_lst (da_cons (de_call rfl (ok_l_text T hs) (hr.mono (by decide)) gd (by rfl) T.m_l_text T.F_l_text.kp T.B_l_text pass0 (da_cons (de_var 6) da_nil)) (da_cons (de_var 6) da_nil)))) da_nil)) (nomark _)) (dss_one (ds_ret de_bl)) dss_nil))))) (dss_one (ds_ret (de_cmp (o_eq rfl gd) (de_callB (c_repr rfl gd) (by rfl) T.b_repr (by decide +kernel) (da_cons (de_var 0) da_nil)) (de_var 2) (nomark _)))))))))) ma_l_is_written
theorem ok_law (T : Tx K w mg) (hs : ∃ o, base.get? sysModules = some o) : FnG P w K mg base CX0 6 T.a_law T.d_law ["script"] (spD K (Jr P w K) 1 F_law) :=
  fn_ok T.F_law sc_law hs (t := rd_law) (fun cdv A outer s H E hg hr gd => (dss_cons (ds_set (i := 1) gd rfl (.inr rfl) (de_call rfl (ok_l_bag T hs) (hr.mono (by decide)) gd (by rfl) T.m_l_bag T.F_l_bag.kp T.B_l_bag pass0 (da_cons (de_var 0) da_nil))) (dss_cons (ds_for gd PassesOwn.never (di_rng (by rfl) T.b_range de_int) (dg_name (i := 2) gd rfl (.inl rfl)) (dss_cons (ds_set (i := 3) gd rfl (.inl rfl) (de_callT (c_tuple rfl) (by rfl) T.b_tuple (by decide +kernel) (da_cons (de_fz gd (de_lc (own := [("place", 8)]) gd (di_rng (by rfl) T.b_range (de_call rfl (ok_l_pick T hs) (hr.mono (by decide)) gd (by rfl) T.m_l_pick T.F_l_pick.kp T.B_l_pick pass0 (da_cons (de_var 1) (da_cons (de_fz gd (de_lst (da_cons de_int (da_cons de_int (da_cons de_int (da_cons de_int (da_cons de_int (da_cons de_int da_nil)))))))) da_nil)))) (blkOk_by (N := nm_law) (sc := defScope st_law) (by decide +kernel)) (fun _ _ _ _ _ => (pg_name (i := 8) (by exact gd.nd) (by rfl) (by exact (.inl rfl)))) (gown_name (by decide)) (fun _ _ _ _ _ gd => dts_nil) (fun _ _ _ _ _ gd => (de_call rfl (ok_l_any_deed T hs) (hr.mono (by decide)) gd (by rfl) T.m_l_any_deed T.F_l_any_deed.kp T.B_l_any_deed pass0 (da_cons (de_var 1) da_nil))))) da_nil))) (dss_cons (ds_set (i := 4) gd rfl (.inl rfl) (de_call rfl (ok_l_close T hs) (hr.mono (by decide)) gd (by rfl) T.m_l_close T.F_l_close.kp T.B_l_close pass0 (da_cons (de_var 1) (da_cons (de_var 3) da_nil)))) (dss_cons (ds_if (dw_or (dt_not (dt_tr rfl (de_call rfl (ok_l_is_written T hs).calmZ (hr.mono (by decide)) gd (by rfl) T.m_l_is_written T.F_l_is_written.kp T.B_l_is_written pass0 (da_cons (de_var 3) (da_cons (de_cmp (o_eq rfl gd) (de_var 2) de_int (nomark _)) da_nil))))) (dw_or1 (dt_not (dt_tr rfl (de_call rfl (ok_l_is_written T hs).calmZ (hr.mono (by decide)) gd (by rfl) T.m_l_is_written T.F_l_is_written.kp T.B_l_is_written pass0 (da_cons (de_var 4) (da_cons de_bl da_nil))))))).pt (dss_one (ds_ret de_bl)) dss_nil) (dss_cons (ds_if (dt_cmp (o_ne rfl gd) (de_cmp (o_eq rfl gd) (de_call rfl (ok_deeds_text T hs) (hr.mono (by decide)) gd (by rfl) T.m_deeds_text T.F_deeds_text.kp T.B_deeds_text pass0 (da_cons (de_var 3) da_nil)) (de_call rfl (ok_deeds_text T hs) (hr.mono (by decide)) gd (by rfl) T.m_deeds_text T.F_deeds_text.kp T.B_deeds_text pass0 (da_cons (de_var 4) da_nil)) (nomark _)) (de_cmp (o_eq rfl gd) (de_callB (c_repr rfl gd) (by rfl) T.b_repr (by decide +kernel) (da_cons (de_var 3) da_nil)) (de_callB (c_repr rfl gd) (by rfl) T.b_repr (by decide +kernel) (da_cons (de_var 4) da_nil)) (nomark _)) (nomark _)) (dss_one (ds_ret de_bl)) dss_nil) (dss_cons (ds_par (i := 5) (j := 6) gd rfl rfl (by decide) rfl rfl (de_call rfl (ok_l_any_deed T hs) (hr.mono (by decide)) gd (by rfl) T.m_l_any_deed T.F_l_any_deed.kp T.B_l_any_deed pass0 (da_cons (de_var 1) da_nil)) (de_call rfl (ok_l_any_deed T hs) (hr.mono (by decide)) gd (by rfl) T.m_l_any_deed T.F_l_any_deed.kp T.B_l_any_deed pass0 (da_cons (de_var 1) da_nil)) rfl) (dss_cons (ds_if (dw_and (dt_cmp (o_isnot) (de_ix (i_at rfl) (de_var 6) (de_neg de_int) (fun _ _ => rfl)) de_non (nomark _)) (dw_and1 (dt_cmp (o_eq rfl gd) (de_call rfl (ok_l_draw T hs) (hr.mono (by decide)) gd (by rfl) T.m_l_draw T.F_l_draw.kp T.B_l_draw pass0 (da_cons (de_var 1) (da_cons de_int da_nil))) de_int (nomark _)))).pt (dss_one (ds_set (i := 6) gd rfl (.inl rfl) (de_fz gd (de_op (o_add rfl) (de_fz gd (de_cut rfl (de_var 5) do_none (do_some (de_neg de_int)))) (de_fz gd (de_cut rfl (de_var 6) (do_some (de_neg de_int)) do_none)))))) dss_nil) (dss_one (ds_if (dt_cmp (o_ne rfl gd) (de_cmp (o_eq rfl gd) (de_call rfl (ok_deed_text T hs) (hr.mono (by decide)) gd (by rfl) T.m_deed_text T.F_deed_text.kp T.B_deed_text pass0 (da_cons (de_var 5) da_nil)) (de_call rfl (ok_deed_text T hs) (hr.mono (by decide)) gd (by rfl) T.m_deed_text T.F_deed_text.kp T.B_deed_text pass0 (da_cons (de_var 6) da_nil)) (nomark _)) (de_cmp (o_eq rfl gd) (de_callB (c_repr rfl gd) (by rfl) T.b_repr (by decide +kernel) (da_cons (de_var 5) da_nil)) (de_callB (c_repr rfl gd) (by rfl) T.b_repr (by decide +kernel) (da_cons (de_var 6) da_nil)) (nomark _)) (nomark _)) (dss_one (ds_ret de_bl)) dss_nil))))))))) (dss_cons (ds_if (dt_cmp (o_eq rfl gd) (de_call rfl (ok_l_draw T hs) (hr.mono (by decide)) gd (by rfl) T.m_l_draw T.F_l_draw.kp T.B_l_draw pass0 (da_cons (de_var 1) (da_cons de_int da_nil))) de_int (nomark _)) (dss_cons (ds_setLc (i := 7) (own := [("place", 8)]) gd rfl rfl (sw_true rfl rfl rfl (by decide +kernel)) (di_rng (by rfl) T.b_range de_int) (blkOk_by (N := nm_law) (sc := defScope st_law) (by decide +kernel)) (fun _ _ _ _ _ => (pg_name (i := 8) (by exact gd.nd) (by rfl) (by exact (.inl rfl)))) (gown_name (by decide)) (fun _ _ _ _ _ gd => dts_nil) (fun _ _ _ _ _ gd => (de_call rfl (ok_l_any_deed T hs) (hr.mono (by decide)) gd (by rfl) T.m_l_any_deed T.F_l_any_deed.kp T.B_l_any_deed pass0 (da_cons (de_var 1) da_nil)))) (dss_fix gd 7 (dss_one (ds_ret (de_call rfl (ok_l_is_written T hs).calmZ (hr.mono (by decide)) gd (by rfl) T.m_l_is_written T.F_l_is_written.kp T.B_l_is_written pass0 (da_cons (de_callT (c_tuple rfl) (by rfl) T.b_tuple (by decide +kernel) (da_cons (de_fz gd (de_cut rfl (de_fz gd (de_op (o_mul rfl) (de_var 7) de_int)) do_none (do_some (de_call rfl (ok_l_pick T hs) (hr.mono (by decide)) gd (by rfl) T.m_l_pick T.F_l_pick.kp T.B_l_pick pass0 (da_cons (de_var 1) (da_cons (de_fz gd (de_lst (da_cons de_int (da_cons de_int da_nil)))) da_nil)))))) da_nil)) (da_cons de_bl da_nil))))))) dss_nil) (dss_one (ds_ret de_bl)))))) ma_law
end
set_option maxHeartbeats 0 in
theorem all_mk {P : Program} {w : World} {K : PySem.W.Frag} {h : Heap} {mg : Str → Option Value} {fa : Addr} (X : K.In h) (G : h.Ns mainGlobals mg) (hfa : mg "law" = some (.ref fa))
    {f_l_bag : Addr} {od_l_bag an_l_bag : Option Addr} {sl_l_bag : Array (Option Value)} {oc_l_bag kV_l_bag dc_l_bag pm_l_bag cd_l_bag ct_l_bag : Value}
    (a_l_bag : PySem.W.nsIn K mainGlobals "_law_bag" = some (some (.ref f_l_bag))) (l_l_bag : K.lookup f_l_bag = some ⟨oc_l_bag, od_l_bag, .func (PySem.W.fnOf "_law_bag" "_law_bag" (defArgs st_l_bag) (defBody st_l_bag) (defScope st_l_bag) .none kV_l_bag dc_l_bag pm_l_bag an_l_bag cd_l_bag ct_l_bag), sl_l_bag⟩) (c_l_bag : PySem.W.codeIn K cd_l_bag "_law_bag" = true) (k_l_bag : PySem.W.keepIn K (.ref f_l_bag) = true)
    {f_l_draw : Addr} {od_l_draw an_l_draw : Option Addr} {sl_l_draw : Array (Option Value)} {oc_l_draw kV_l_draw dc_l_draw pm_l_draw cd_l_draw ct_l_draw : Value}
    (a_l_draw : PySem.W.nsIn K mainGlobals "_law_draw" = some (some (.ref f_l_draw))) (l_l_draw : K.lookup f_l_draw = some ⟨oc_l_draw, od_l_draw, .func (PySem.W.fnOf "_law_draw" "_law_draw" (defArgs st_l_draw) (defBody st_l_draw) (defScope st_l_draw) .none kV_l_draw dc_l_draw pm_l_draw an_l_draw cd_l_draw ct_l_draw), sl_l_draw⟩) (c_l_draw : PySem.W.codeIn K cd_l_draw "_law_draw" = true) (k_l_draw : PySem.W.keepIn K (.ref f_l_draw) = true)
    {f_l_pick : Addr} {od_l_pick an_l_pick : Option Addr} {sl_l_pick : Array (Option Value)} {oc_l_pick kV_l_pick dc_l_pick pm_l_pick cd_l_pick ct_l_pick : Value}
    (a_l_pick : PySem.W.nsIn K mainGlobals "_law_pick" = some (some (.ref f_l_pick))) (l_l_pick : K.lookup f_l_pick = some ⟨oc_l_pick, od_l_pick, .func (PySem.W.fnOf "_law_pick" "_law_pick" (defArgs st_l_pick) (defBody st_l_pick) (defScope st_l_pick) .none kV_l_pick dc_l_pick pm_l_pick an_l_pick cd_l_pick ct_l_pick), sl_l_pick⟩) (c_l_pick : PySem.W.codeIn K cd_l_pick "_law_pick" = true) (k_l_pick : PySem.W.keepIn K (.ref f_l_pick) = true)
    {f_l_any_deed : Addr} {od_l_any_deed an_l_any_deed : Option Addr} {sl_l_any_deed : Array (Option Value)} {oc_l_any_deed kV_l_any_deed dc_l_any_deed pm_l_any_deed cd_l_any_deed ct_l_any_deed : Value}
    (a_l_any_deed : PySem.W.nsIn K mainGlobals "_law_any_deed" = some (some (.ref f_l_any_deed))) (l_l_any_deed : K.lookup f_l_any_deed = some ⟨oc_l_any_deed, od_l_any_deed, .func (PySem.W.fnOf "_law_any_deed" "_law_any_deed" (defArgs st_l_any_deed) (defBody st_l_any_deed) (defScope st_l_any_deed) .none kV_l_any_deed dc_l_any_deed pm_l_any_deed an_l_any_deed cd_l_any_deed ct_l_any_deed), sl_l_any_deed⟩) (c_l_any_deed : PySem.W.codeIn K cd_l_any_deed "_law_any_deed" = true) (k_l_any_deed : PySem.W.keepIn K (.ref f_l_any_deed) = true)
    {f_l_close : Addr} {od_l_close an_l_close : Option Addr} {sl_l_close : Array (Option Value)} {oc_l_close kV_l_close dc_l_close pm_l_close cd_l_close ct_l_close : Value}
    (a_l_close : PySem.W.nsIn K mainGlobals "_law_close" = some (some (.ref f_l_close))) (l_l_close : K.lookup f_l_close = some ⟨oc_l_close, od_l_close, .func (PySem.W.fnOf "_law_close" "_law_close" (defArgs st_l_close) (defBody st_l_close) (defScope st_l_close) .none kV_l_close dc_l_close pm_l_close an_l_close cd_l_close ct_l_close), sl_l_close⟩) (c_l_close : PySem.W.codeIn K cd_l_close "_law_close" = true) (k_l_close : PySem.W.keepIn K (.ref f_l_close) = true)
    {f_l_text : Addr} {od_l_text an_l_text : Option Addr} {sl_l_text : Array (Option Value)} {oc_l_text kV_l_text dc_l_text pm_l_text cd_l_text ct_l_text : Value}
    (a_l_text : PySem.W.nsIn K mainGlobals "_law_text" = some (some (.ref f_l_text))) (l_l_text : K.lookup f_l_text = some ⟨oc_l_text, od_l_text, .func (PySem.W.fnOf "_law_text" "_law_text" (defArgs st_l_text) (defBody st_l_text) (defScope st_l_text) .none kV_l_text dc_l_text pm_l_text an_l_text cd_l_text ct_l_text), sl_l_text⟩) (c_l_text : PySem.W.codeIn K cd_l_text "_law_text" = true) (k_l_text : PySem.W.keepIn K (.ref f_l_text) = true)
    {f_l_rows_text : Addr} {od_l_rows_text an_l_rows_text : Option Addr} {sl_l_rows_text : Array (Option Value)} {oc_l_rows_text kV_l_rows_text dc_l_rows_text pm_l_rows_text cd_l_rows_text ct_l_rows_text : Value}
    (a_l_rows_text : PySem.W.nsIn K mainGlobals "_law_rows_text" = some (some (.ref f_l_rows_text))) (l_l_rows_text : K.lookup f_l_rows_text = some ⟨oc_l_rows_text, od_l_rows_text, .func (PySem.W.fnOf "_law_rows_text" "_law_rows_text" (defArgs st_l_rows_text) (defBody st_l_rows_text) (defScope st_l_rows_text) .none kV_l_rows_text dc_l_rows_text pm_l_rows_text an_l_rows_text cd_l_rows_text ct_l_rows_text), sl_l_rows_text⟩) (c_l_rows_text : PySem.W.codeIn K cd_l_rows_text "_law_rows_text" = true) (k_l_rows_text : PySem.W.keepIn K (.ref f_l_rows_text) = true)
    {f_deed_text : Addr} {od_deed_text an_deed_text : Option Addr} {sl_deed_text : Array (Option Value)} {oc_deed_text kV_deed_text dc_deed_text pm_deed_text cd_deed_text ct_deed_text : Value}
    (a_deed_text : PySem.W.nsIn K mainGlobals "deed_text" = some (some (.ref f_deed_text))) (l_deed_text : K.lookup f_deed_text = some ⟨oc_deed_text, od_deed_text, .func (PySem.W.fnOf "deed_text" "deed_text" (defArgs st_deed_text) (defBody st_deed_text) (defScope st_deed_text) .none kV_deed_text dc_deed_text pm_deed_text an_deed_text cd_deed_text ct_deed_text), sl_deed_text⟩) (c_deed_text : PySem.W.codeIn K cd_deed_text "deed_text" = true) (k_deed_text : PySem.W.keepIn K (.ref f_deed_text) = true)
    {f_deeds_text : Addr} {od_deeds_text an_deeds_text : Option Addr} {sl_deeds_text : Array (Option Value)} {oc_deeds_text kV_deeds_text dc_deeds_text pm_deeds_text cd_deeds_text ct_deeds_text : Value}
    (a_deeds_text : PySem.W.nsIn K mainGlobals "deeds_text" = some (some (.ref f_deeds_text))) (l_deeds_text : K.lookup f_deeds_text = some ⟨oc_deeds_text, od_deeds_text, .func (PySem.W.fnOf "deeds_text" "deeds_text" (defArgs st_deeds_text) (defBody st_deeds_text) (defScope st_deeds_text) .none kV_deeds_text dc_deeds_text pm_deeds_text an_deeds_text cd_deeds_text ct_deeds_text), sl_deeds_text⟩) (c_deeds_text : PySem.W.codeIn K cd_deeds_text "deeds_text" = true) (k_deeds_text : PySem.W.keepIn K (.ref f_deeds_text) = true)
    {f_number_in : Addr} {od_number_in an_number_in : Option Addr} {sl_number_in : Array (Option Value)} {oc_number_in kV_number_in dc_number_in pm_number_in cd_number_in ct_number_in : Value}
    (a_number_in : PySem.W.nsIn K mainGlobals "number_in" = some (some (.ref f_number_in))) (l_number_in : K.lookup f_number_in = some ⟨oc_number_in, od_number_in, .func (PySem.W.fnOf "number_in" "number_in" (defArgs st_number_in) (defBody st_number_in) (defScope st_number_in) .none kV_number_in dc_number_in pm_number_in an_number_in cd_number_in ct_number_in), sl_number_in⟩) (c_number_in : PySem.W.codeIn K cd_number_in "number_in" = true) (k_number_in : PySem.W.keepIn K (.ref f_number_in) = true)
    {f_told_by_line : Addr} {od_told_by_line an_told_by_line : Option Addr} {sl_told_by_line : Array (Option Value)} {oc_told_by_line kV_told_by_line dc_told_by_line pm_told_by_line cd_told_by_line ct_told_by_line : Value}
    (a_told_by_line : PySem.W.nsIn K mainGlobals "told_by_line" = some (some (.ref f_told_by_line))) (l_told_by_line : K.lookup f_told_by_line = some ⟨oc_told_by_line, od_told_by_line, .func (PySem.W.fnOf "told_by_line" "told_by_line" (defArgs st_told_by_line) (defBody st_told_by_line) (defScope st_told_by_line) .none kV_told_by_line dc_told_by_line pm_told_by_line an_told_by_line cd_told_by_line ct_told_by_line), sl_told_by_line⟩) (c_told_by_line : PySem.W.codeIn K cd_told_by_line "told_by_line" = true) (k_told_by_line : PySem.W.keepIn K (.ref f_told_by_line) = true)
    {f_deed_in : Addr} {od_deed_in an_deed_in : Option Addr} {sl_deed_in : Array (Option Value)} {oc_deed_in kV_deed_in dc_deed_in pm_deed_in cd_deed_in ct_deed_in : Value}
    (a_deed_in : PySem.W.nsIn K mainGlobals "deed_in" = some (some (.ref f_deed_in))) (l_deed_in : K.lookup f_deed_in = some ⟨oc_deed_in, od_deed_in, .func (PySem.W.fnOf "deed_in" "deed_in" (defArgs st_deed_in) (defBody st_deed_in) (defScope st_deed_in) .none kV_deed_in dc_deed_in pm_deed_in an_deed_in cd_deed_in ct_deed_in), sl_deed_in⟩) (c_deed_in : PySem.W.codeIn K cd_deed_in "deed_in" = true) (k_deed_in : PySem.W.keepIn K (.ref f_deed_in) = true)
    {f_read_deeds : Addr} {od_read_deeds an_read_deeds : Option Addr} {sl_read_deeds : Array (Option Value)} {oc_read_deeds kV_read_deeds dc_read_deeds pm_read_deeds cd_read_deeds ct_read_deeds : Value}
    (a_read_deeds : PySem.W.nsIn K mainGlobals "read_deeds" = some (some (.ref f_read_deeds))) (l_read_deeds : K.lookup f_read_deeds = some ⟨oc_read_deeds, od_read_deeds, .func (PySem.W.fnOf "read_deeds" "read_deeds" (defArgs st_read_deeds) (defBody st_read_deeds) (defScope st_read_deeds) .none kV_read_deeds dc_read_deeds pm_read_deeds an_read_deeds cd_read_deeds ct_read_deeds), sl_read_deeds⟩) (c_read_deeds : PySem.W.codeIn K cd_read_deeds "read_deeds" = true) (k_read_deeds : PySem.W.keepIn K (.ref f_read_deeds) = true)
    {f_read_deed : Addr} {od_read_deed an_read_deed : Option Addr} {sl_read_deed : Array (Option Value)} {oc_read_deed kV_read_deed dc_read_deed pm_read_deed cd_read_deed ct_read_deed : Value}
    (a_read_deed : PySem.W.nsIn K mainGlobals "read_deed" = some (some (.ref f_read_deed))) (l_read_deed : K.lookup f_read_deed = some ⟨oc_read_deed, od_read_deed, .func (PySem.W.fnOf "read_deed" "read_deed" (defArgs st_read_deed) (defBody st_read_deed) (defScope st_read_deed) .none kV_read_deed dc_read_deed pm_read_deed an_read_deed cd_read_deed ct_read_deed), sl_read_deed⟩) (c_read_deed : PySem.W.codeIn K cd_read_deed "read_deed" = true) (k_read_deed : PySem.W.keepIn K (.ref f_read_deed) = true)
    {f_l_is_written : Addr} {od_l_is_written an_l_is_written : Option Addr} {sl_l_is_written : Array (Option Value)} {oc_l_is_written kV_l_is_written dc_l_is_written pm_l_is_written cd_l_is_written ct_l_is_written : Value}
    (a_l_is_written : PySem.W.nsIn K mainGlobals "_law_is_written" = some (some (.ref f_l_is_written))) (l_l_is_written : K.lookup f_l_is_written = some ⟨oc_l_is_written, od_l_is_written, .func (PySem.W.fnOf "_law_is_written" "_law_is_written" (defArgs st_l_is_written) (defBody st_l_is_written) (defScope st_l_is_written) .none kV_l_is_written dc_l_is_written pm_l_is_written an_l_is_written cd_l_is_written ct_l_is_written), sl_l_is_written⟩) (c_l_is_written : PySem.W.codeIn K cd_l_is_written "_law_is_written" = true) (k_l_is_written : PySem.W.keepIn K (.ref f_l_is_written) = true)
    {f_law : Addr} {od_law an_law : Option Addr} {sl_law : Array (Option Value)} {oc_law kV_law dc_law pm_law cd_law ct_law : Value}
    (a_law : PySem.W.nsIn K mainGlobals "law" = some (some (.ref f_law))) (l_law : K.lookup f_law = some ⟨oc_law, od_law, .func (PySem.W.fnOf "law" "law" (defArgs st_law) (defBody st_law) (defScope st_law) .none kV_law dc_law pm_law an_law cd_law ct_law), sl_law⟩) (c_law : PySem.W.codeIn K cd_law "law" = true) (k_law : PySem.W.keepIn K (.ref f_law) = true)
    {t_MAX_DEEDS : Tok} (e_MAX_DEEDS : PySem.W.nsIn K mainGlobals "MAX_DEEDS" = some (some (.int 400 t_MAX_DEEDS)))
    {t_NOTHING : Tok} (e_NOTHING : PySem.W.nsIn K mainGlobals "NOTHING" = some (some (.str "none" t_NOTHING)))
    {q_NUMBERS n_NUMBERS : Nat} {es_NUMBERS : Array DictEntry}
    (e_NUMBERS : PySem.W.nsIn K mainGlobals "NUMBERS" = some (some (.ref q_NUMBERS)))
    (d_NUMBERS : K.lookup q_NUMBERS = some ⟨.type "dict", none, .dict es_NUMBERS n_NUMBERS, #[]⟩)
    {t_NUMBERS_e0_0 : Tok}
    (g_NUMBERS_0 : PySem.W.nsIn K q_NUMBERS "look" = some (some (.int 1 t_NUMBERS_e0_0)))
    {t_NUMBERS_e1_0 : Tok}
    (g_NUMBERS_1 : PySem.W.nsIn K q_NUMBERS "scan" = some (some (.int 1 t_NUMBERS_e1_0)))
    {t_NUMBERS_e2_0 : Tok}
    (g_NUMBERS_2 : PySem.W.nsIn K q_NUMBERS "drop" = some (some (.int 2 t_NUMBERS_e2_0)))
    {t_NUMBERS_e3_0 : Tok}
    (g_NUMBERS_3 : PySem.W.nsIn K q_NUMBERS "copy" = some (some (.int 3 t_NUMBERS_e3_0)))
    {t_NUMBERS_e4_0 : Tok}
    (g_NUMBERS_4 : PySem.W.nsIn K q_NUMBERS "make" = some (some (.int 3 t_NUMBERS_e4_0)))
    {t_NUMBERS_e5_0 : Tok}
    (g_NUMBERS_5 : PySem.W.nsIn K q_NUMBERS "read" = some (some (.int 4 t_NUMBERS_e5_0)))
    {t_NUMBERS_e6_0 : Tok}
    (g_NUMBERS_6 : PySem.W.nsIn K q_NUMBERS "write" = some (some (.int 4 t_NUMBERS_e6_0)))
    (l_NUMBERS : PySem.W.KeysLit w.params es_NUMBERS.toList)
    (j_NUMBERS : GB.KeysAre es_NUMBERS.toList ["look", "scan", "drop", "copy", "make", "read", "write"] = true) (y_NUMBERS : (q_NUMBERS == sysModules) = false)
    (i_NUMBERS : GB.EntsI es_NUMBERS.toList ci_NUMBERS = true)
    {C_BadText : Addr} (e_BadText : PySem.W.nsIn K mainGlobals "BadText" = some (some (.ref C_BadText)))
    (xk_BadText : PySem.W.keepIn K (.ref C_BadText) = true) (xx_BadText : oexB K C_BadText = true) (xa_BadText : PySem.W.findIn K (.ref C_BadText) "__setattr__" = some (some (.builtin "object.__setattr__"))) (xb_BadText : PySem.W.subIn K (.ref C_BadText) (.type "BaseException") = some true) (xt_BadText : PySem.W.typeIn K (.ref C_BadText) = some (.type "type")) (xi_BadText : PySem.W.isClsIn K C_BadText = true) (xn_BadText : PySem.W.findIn K (.ref C_BadText) "place" = some none) (xf_BadText : xfB K C_BadText = true)
    {fI_BadText : Addr} {od_BadText an_BadText : Option Addr} {sl_BadText : Array (Option Value)} {oc_BadText kV_BadText dc_BadText pm_BadText cd_BadText ct_BadText : Value}
    (ii_BadText : PySem.W.findIn K (.ref C_BadText) "__init__" = some (some (.ref fI_BadText))) (il_BadText : K.lookup fI_BadText = some ⟨oc_BadText, od_BadText, .func (PySem.W.fnOf "__init__" "BadText.__init__" (defArgs si_BadText) (defBody si_BadText) (defScope si_BadText) .none kV_BadText dc_BadText pm_BadText an_BadText cd_BadText ct_BadText), sl_BadText⟩) (ic_BadText : PySem.W.codeIn K cd_BadText "BadText.__init__" = true) (ik_BadText : PySem.W.keepIn K (.ref fI_BadText) = true) (iy_BadText : PySem.W.typeIn K (.ref fI_BadText) = some (.type "function"))
    (z_abs : PySem.W.nsIn K mainGlobals "abs" = some none)
    (z_dict : PySem.W.nsIn K mainGlobals "dict" = some none)
    (z_enumerate : PySem.W.nsIn K mainGlobals "enumerate" = some none)
    (z_int : PySem.W.nsIn K mainGlobals "int" = some none)
    (z_isinstance : PySem.W.nsIn K mainGlobals "isinstance" = some none)
    (z_len : PySem.W.nsIn K mainGlobals "len" = some none)
    (z_range : PySem.W.nsIn K mainGlobals "range" = some none)
    (z_repr : PySem.W.nsIn K mainGlobals "repr" = some none)
    (z_str : PySem.W.nsIn K mainGlobals "str" = some none)
    (z_tuple : PySem.W.nsIn K mainGlobals "tuple" = some none) :
    ∃ fd : FuncData, (∀ (s : Shared) (v : Value), BindsTo s fd ⟨[v], []⟩ [("script", v)]) ∧ ∀ base : Heap, K.In base → base.Ns mainGlobals mg → (∃ o, base.get? sysModules = some o) → FnG P w K mg base CX0 6 fa fd ["script"] (spD K (Jr P w K) 1 F_law) := by
  have e := hfa.symm.trans (PySem.W.mg_of X G a_law)
  cases e
  have F_l_bag := fun_mk (st := st_l_bag) l_l_bag c_l_bag k_l_bag
  have B_l_bag := F_l_bag.binds (ps := ["script"]) fun _ _ _ _ _ _ us hl => match us, hl with | [_], _ => rfl
  have F_l_draw := fun_mk (st := st_l_draw) l_l_draw c_l_draw k_l_draw
  have B_l_draw := F_l_draw.binds (ps := ["bag", "many"]) fun _ _ _ _ _ _ us hl => match us, hl with | [_, _], _ => rfl
  have F_l_pick := fun_mk (st := st_l_pick) l_l_pick c_l_pick k_l_pick
  have B_l_pick := F_l_pick.binds (ps := ["bag", "items"]) fun _ _ _ _ _ _ us hl => match us, hl with | [_, _], _ => rfl
  have F_l_any_deed := fun_mk (st := st_l_any_deed) l_l_any_deed c_l_any_deed k_l_any_deed
  have B_l_any_deed := F_l_any_deed.binds (ps := ["bag"]) fun _ _ _ _ _ _ us hl => match us, hl with | [_], _ => rfl
  have F_l_close := fun_mk (st := st_l_close) l_l_close c_l_close k_l_close
  have B_l_close := F_l_close.binds (ps := ["bag", "acts"]) fun _ _ _ _ _ _ us hl => match us, hl with | [_, _], _ => rfl
  have F_l_text := fun_mk (st := st_l_text) l_l_text c_l_text k_l_text
  have B_l_text := F_l_text.binds (ps := ["deed"]) fun _ _ _ _ _ _ us hl => match us, hl with | [_], _ => rfl
  have F_l_rows_text := fun_mk (st := st_l_rows_text) l_l_rows_text c_l_rows_text k_l_rows_text
  have B_l_rows_text := F_l_rows_text.binds (ps := ["acts"]) fun _ _ _ _ _ _ us hl => match us, hl with | [_], _ => rfl
  have F_deed_text := fun_mk (st := st_deed_text) l_deed_text c_deed_text k_deed_text
  have B_deed_text := F_deed_text.binds (ps := ["deed"]) fun _ _ _ _ _ _ us hl => match us, hl with | [_], _ => rfl
  have F_deeds_text := fun_mk (st := st_deeds_text) l_deeds_text c_deeds_text k_deeds_text
  have B_deeds_text := F_deeds_text.binds (ps := ["deeds"]) fun _ _ _ _ _ _ us hl => match us, hl with | [_], _ => rfl
  have F_number_in := fun_mk (st := st_number_in) l_number_in c_number_in k_number_in
  have B_number_in := F_number_in.binds (ps := ["text", "figures"]) fun _ _ _ _ _ _ us hl => match us, hl with | [_, _], _ => rfl
  have F_told_by_line := fun_mk (st := st_told_by_line) l_told_by_line c_told_by_line k_told_by_line
  have B_told_by_line := F_told_by_line.binds (ps := ["line", "numbers", "figures"]) fun _ _ _ _ _ _ us hl => match us, hl with | [_, _, _], _ => rfl
  have F_deed_in := fun_mk (st := st_deed_in) l_deed_in c_deed_in k_deed_in
  have B_deed_in := F_deed_in.binds (ps := ["line"]) fun _ _ _ _ _ _ us hl => match us, hl with | [_], _ => rfl
  have F_read_deeds := fun_mk (st := st_read_deeds) l_read_deeds c_read_deeds k_read_deeds
  have B_read_deeds := F_read_deeds.binds (ps := ["value"]) fun _ _ _ _ _ _ us hl => match us, hl with | [_], _ => rfl
  have F_read_deed := fun_mk (st := st_read_deed) l_read_deed c_read_deed k_read_deed
  have B_read_deed := F_read_deed.binds (ps := ["value"]) fun _ _ _ _ _ _ us hl => match us, hl with | [_], _ => rfl
  have F_l_is_written := fun_mk (st := st_l_is_written) l_l_is_written c_l_is_written k_l_is_written
  have B_l_is_written := F_l_is_written.binds (ps := ["acts", "is_named"]) fun _ _ _ _ _ _ us hl => match us, hl with | [_, _], _ => rfl
  have F_law := fun_mk (st := st_law) l_law c_law k_law
  have B_law := F_law.binds (ps := ["script"]) fun _ _ _ _ _ _ us hl => match us, hl with | [_], _ => rfl
  have G_BadText := fun_mk (st := si_BadText) il_BadText ic_BadText ik_BadText
  have D_BadText := G_BadText.binds (ps := ["self", "place"]) fun _ _ _ _ _ _ us hl => match us, hl with | [_, _], _ => rfl
  refine ⟨_, fun s v => .of_eq rfl, fun base _ _ hs => ok_law (T := { a_l_bag := f_l_bag, d_l_bag := _, F_l_bag := F_l_bag, m_l_bag := PySem.W.mg_of X G a_l_bag, B_l_bag := B_l_bag, a_l_draw := f_l_draw, d_l_draw := _, F_l_draw := F_l_draw, m_l_draw := PySem.W.mg_of X G a_l_draw, B_l_draw := B_l_draw, a_l_pick := f_l_pick, d_l_pick := _, F_l_pick := F_l_pick, m_l_pick := PySem.W.mg_of X G a_l_pick, B_l_pick := B_l_pick, a_l_any_deed := f_l_any_deed, d_l_any_deed := _, F_l_any_deed := F_l_any_deed, m_l_any_deed := PySem.W.mg_of X G a_l_any_deed, B_l_any_deed := B_l_any_deed, a_l_close := f_l_close, d_l_close := _, F_l_close := F_l_close, m_l_close := PySem.W.mg_of X G a_l_close, B_l_close := B_l_close, a_l_text := f_l_text, d_l_text := _, F_l_text := F_l_text, m_l_text := PySem.W.mg_of X G a_l_text, B_l_text := B_l_text, a_l_rows_text := f_l_rows_text, d_l_rows_text := _, F_l_rows_text := F_l_rows_text, m_l_rows_text := PySem.W.mg_of X G a_l_rows_text, B_l_rows_text := B_l_rows_text, a_deed_text := f_deed_text, d_deed_text := _, F_deed_text := F_deed_text, m_deed_text := PySem.W.mg_of X G a_deed_text, B_deed_text := B_deed_text, a_deeds_text := f_deeds_text, d_deeds_text := _, F_deeds_text := F_deeds_text, m_deeds_text := PySem.W.mg_of X G a_deeds_text, B_deeds_text := B_deeds_text, a_number_in := f_number_in, d_number_in := _, F_number_in := F_number_in, m_number_in := PySem.W.mg_of X G a_number_in, B_number_in := B_number_in, a_told_by_line := f_told_by_line, d_told_by_line := _, F_told_by_line := F_told_by_line, m_told_by_line := PySem.W.mg_of X G a_told_by_line, B_told_by_line := B_told_by_line, a_deed_in := f_deed_in, d_deed_in := _, F_deed_in := F_deed_in, m_deed_in := PySem.W.mg_of X G a_deed_in, B_deed_in := B_deed_in, a_read_deeds := f_read_deeds, d_read_deeds := _, F_read_deeds := F_read_deeds, m_read_deeds := PySem.W.mg_of X G a_read_deeds, B_read_deeds := B_read_deeds, a_read_deed := f_read_deed, d_read_deed := _, F_read_deed := F_read_deed, m_read_deed := PySem.W.mg_of X G a_read_deed, B_read_deed := B_read_deed, a_l_is_written := f_l_is_written, d_l_is_written := _, F_l_is_written := F_l_is_written, m_l_is_written := PySem.W.mg_of X G a_l_is_written, B_l_is_written := B_l_is_written, a_law := fa, d_law := _, F_law := F_law, m_law := PySem.W.mg_of X G a_law, B_law := B_law, P_deed_text_0 := perm_mk (fun s us hl => match us, hl with | [], hl => nomatch hl | v0 :: _, _ => .of_eq rfl), P_deeds_text_0 := perm_mk (fun s us hl => match us, hl with | [], hl => nomatch hl | v0 :: _, _ => .of_eq rfl), P_read_deed_0 := perm_mk (fun s us hl => match us, hl with | [], hl => nomatch hl | v0 :: _, _ => .of_eq rfl), P_read_deeds_0 := perm_mk (fun s us hl => match us, hl with | [], hl => nomatch hl | v0 :: _, _ => .of_eq rfl), u_MAX_DEEDS := _, r_MAX_DEEDS := ⟨_, rfl⟩, m_MAX_DEEDS := PySem.W.mg_of X G e_MAX_DEEDS, u_NOTHING := _, r_NOTHING := ⟨_, rfl⟩, m_NOTHING := PySem.W.mg_of X G e_NOTHING, q_NUMBERS := q_NUMBERS, m_NUMBERS := PySem.W.mg_of X G e_NUMBERS, x_NUMBERS := dctG_mk d_NUMBERS l_NUMBERS j_NUMBERS y_NUMBERS (dctG_cons ⟨_, _, _, d_NUMBERS, l_NUMBERS, g_NUMBERS_0, (show L2.RelV (.int 1) (.int 1 t_NUMBERS_e0_0) from ⟨_, rfl⟩)⟩ (fun H => (.int _)) (dctG_cons ⟨_, _, _, d_NUMBERS, l_NUMBERS, g_NUMBERS_1, (show L2.RelV (.int 1) (.int 1 t_NUMBERS_e1_0) from ⟨_, rfl⟩)⟩ (fun H => (.int _)) (dctG_cons ⟨_, _, _, d_NUMBERS, l_NUMBERS, g_NUMBERS_2, (show L2.RelV (.int 2) (.int 2 t_NUMBERS_e2_0) from ⟨_, rfl⟩)⟩ (fun H => (.int _)) (dctG_cons ⟨_, _, _, d_NUMBERS, l_NUMBERS, g_NUMBERS_3, (show L2.RelV (.int 3) (.int 3 t_NUMBERS_e3_0) from ⟨_, rfl⟩)⟩ (fun H => (.int _)) (dctG_cons ⟨_, _, _, d_NUMBERS, l_NUMBERS, g_NUMBERS_4, (show L2.RelV (.int 3) (.int 3 t_NUMBERS_e4_0) from ⟨_, rfl⟩)⟩ (fun H => (.int _)) (dctG_cons ⟨_, _, _, d_NUMBERS, l_NUMBERS, g_NUMBERS_5, (show L2.RelV (.int 4) (.int 4 t_NUMBERS_e5_0) from ⟨_, rfl⟩)⟩ (fun H => (.int _)) (dctG_cons ⟨_, _, _, d_NUMBERS, l_NUMBERS, g_NUMBERS_6, (show L2.RelV (.int 4) (.int 4 t_NUMBERS_e6_0) from ⟨_, rfl⟩)⟩ (fun H => (.int _)) dctG_nil))))))), xc_NUMBERS := ⟨⟨_, _, d_NUMBERS, l_NUMBERS, i_NUMBERS⟩, y_NUMBERS⟩, a_BadText := C_BadText, m_BadText := PySem.W.mg_of X G e_BadText, T_BadText := oex_of xx_BadText xa_BadText xb_BadText xt_BadText xk_BadText, xn_BadText := xn_BadText, xf_BadText := xfB_ok xf_BadText, fi_BadText := fI_BadText, fd_BadText := _, Fi_BadText := G_BadText, ii_BadText := ii_BadText, it_BadText := iy_BadText, Bi_BadText := D_BadText, b_abs := PySem.W.mg_none_of X G z_abs, b_dict := PySem.W.mg_none_of X G z_dict, b_enumerate := PySem.W.mg_none_of X G z_enumerate, b_int := PySem.W.mg_none_of X G z_int, b_isinstance := PySem.W.mg_none_of X G z_isinstance, b_len := PySem.W.mg_none_of X G z_len, b_range := PySem.W.mg_none_of X G z_range, b_repr := PySem.W.mg_none_of X G z_repr, b_str := PySem.W.mg_none_of X G z_str, b_tuple := PySem.W.mg_none_of X G z_tuple }) hs⟩
end GK
open PySem PySem.W PyProof.Rows
set_option maxHeartbeats 0 in
theorem PySem.Challenge.cw_guardbooks_k24_whole_texts_of_deeds_holds : PySem.Challenge.rw_guardbooks_k24_whole_texts_of_deeds.Holds := by
  w_on; o_law; k_head; (case hw => w_witness2)
  k_fill
  refine GB.end_of (l := PySem.Challenge.rw_guardbooks_k24_whole_texts_of_deeds) (n := 63) (k := 6) (x := "script") (J := fun w => GK.Jr PySem.Challenge.pw_guardbooks_k24_whole_texts_of_deeds w _) (F := GK.F_law) rfl (by decide) rfl ⟨rfl, by decide, by decide⟩ (by decide +kernel) (fun w h Y => PySem.W.kIn_of Y) ?F (fun _ _ _ _ h => h) GK.go_law
  case F =>
    intro w mg fa h KX G hmg
    refine' GK.all_mk KX G hmg ?a_l_bag ?l_l_bag ?c_l_bag ?k_l_bag ?a_l_draw ?l_l_draw ?c_l_draw ?k_l_draw ?a_l_pick ?l_l_pick ?c_l_pick ?k_l_pick ?a_l_any_deed ?l_l_any_deed ?c_l_any_deed ?k_l_any_deed ?a_l_close ?l_l_close ?c_l_close ?k_l_close ?a_l_text ?l_l_text ?c_l_text ?k_l_text ?a_l_rows_text ?l_l_rows_text ?c_l_rows_text ?k_l_rows_text ?a_deed_text ?l_deed_text ?c_deed_text ?k_deed_text ?a_deeds_text ?l_deeds_text ?c_deeds_text ?k_deeds_text ?a_number_in ?l_number_in ?c_number_in ?k_number_in ?a_told_by_line ?l_told_by_line ?c_told_by_line ?k_told_by_line ?a_deed_in ?l_deed_in ?c_deed_in ?k_deed_in ?a_read_deeds ?l_read_deeds ?c_read_deeds ?k_read_deeds ?a_read_deed ?l_read_deed ?c_read_deed ?k_read_deed ?a_l_is_written ?l_l_is_written ?c_l_is_written ?k_l_is_written ?a_law ?l_law ?c_law ?k_law ?e_MAX_DEEDS ?e_NOTHING ?e_NUMBERS ?d_NUMBERS ?g_NUMBERS_0 ?g_NUMBERS_1 ?g_NUMBERS_2 ?g_NUMBERS_3 ?g_NUMBERS_4 ?g_NUMBERS_5 ?g_NUMBERS_6 ?lit_NUMBERS ?j_NUMBERS ?y_NUMBERS ?i_NUMBERS ?e_BadText ?xk_BadText ?xx_BadText ?xa_BadText ?xb_BadText ?xt_BadText ?xi_BadText ?xn_BadText ?xf_BadText ?ii_BadText ?il_BadText ?ic_BadText ?ik_BadText ?iy_BadText ?z_abs ?z_dict ?z_enumerate ?z_int ?z_isinstance ?z_len ?z_range ?z_repr ?z_str ?z_tuple
    (case a_l_bag => k_is); (case l_l_bag => k_is); (case c_l_bag => k_is); (case k_l_bag => k_is); (case a_l_draw => k_is); (case l_l_draw => k_is); (case c_l_draw => k_is); (case k_l_draw => k_is); (case a_l_pick => k_is); (case l_l_pick => k_is); (case c_l_pick => k_is); (case k_l_pick => k_is); (case a_l_any_deed => k_is); (case l_l_any_deed => k_is); (case c_l_any_deed => k_is); (case k_l_any_deed => k_is); (case a_l_close => k_is); (case l_l_close => k_is); (case c_l_close => k_is); (case k_l_close => k_is); (case a_l_text => k_is); (case l_l_text => k_is); (case c_l_text => k_is); (case k_l_text => k_is); (case a_l_rows_text => k_is); (case l_l_rows_text => k_is); (case c_l_rows_text => k_is); (case k_l_rows_text => k_is); (case a_deed_text => k_is); (case l_deed_text => k_is); (case c_deed_text => k_is); (case k_deed_text => k_is); (case a_deeds_text => k_is); (case l_deeds_text => k_is); (case c_deeds_text => k_is); (case k_deeds_text => k_is); (case a_number_in => k_is); (case l_number_in => k_is); (case c_number_in => k_is); (case k_number_in => k_is); (case a_told_by_line => k_is); (case l_told_by_line => k_is); (case c_told_by_line => k_is); (case k_told_by_line => k_is); (case a_deed_in => k_is); (case l_deed_in => k_is); (case c_deed_in => k_is); (case k_deed_in => k_is); (case a_read_deeds => k_is); (case l_read_deeds => k_is); (case c_read_deeds => k_is); (case k_read_deeds => k_is); (case a_read_deed => k_is); (case l_read_deed => k_is); (case c_read_deed => k_is); (case k_read_deed => k_is); (case a_l_is_written => k_is); (case l_l_is_written => k_is); (case c_l_is_written => k_is); (case k_l_is_written => k_is); (case a_law => k_is); (case l_law => k_is); (case c_law => k_is); (case k_law => k_is); (case e_MAX_DEEDS => k_is); (case e_NOTHING => k_is); (case z_abs => k_is); (case z_dict => k_is); (case z_enumerate => k_is); (case z_int => k_is); (case z_isinstance => k_is); (case z_len => k_is); (case z_range => k_is); (case z_repr => k_is); (case z_str => k_is); (case z_tuple => k_is); (case e_NUMBERS => k_is); (case d_NUMBERS => k_is); (case g_NUMBERS_0 => k_is); (case g_NUMBERS_1 => k_is); (case g_NUMBERS_2 => k_is); (case g_NUMBERS_3 => k_is); (case g_NUMBERS_4 => k_is); (case g_NUMBERS_5 => k_is); (case g_NUMBERS_6 => k_is); (case e_BadText => k_is); (case xk_BadText => first | k_exc | k_is | rfl | kit_is); (case xa_BadText => first | k_exc | k_is | rfl | kit_is); (case xb_BadText => first | k_exc | k_is | rfl | kit_is); (case xt_BadText => first | k_exc | k_is | rfl | kit_is); (case xi_BadText => first | k_exc | k_is | rfl | kit_is); (case xn_BadText => first | k_exc | k_is | rfl | kit_is); (case ii_BadText => first | k_exc | k_is | rfl | kit_is); (case il_BadText => first | k_exc | k_is | rfl | kit_is); (case ic_BadText => first | k_exc | k_is | rfl | kit_is); (case ik_BadText => first | k_exc | k_is | rfl | kit_is); (case iy_BadText => first | k_exc | k_is | rfl | kit_is); (case xx_BadText => first | kit_is | decide +kernel | rfl); (case xf_BadText => first | kit_is | decide +kernel | rfl); (case lit_NUMBERS => exact ⟨⟨_, _, rfl, rfl⟩, ⟨_, _, rfl, rfl⟩, ⟨_, _, rfl, rfl⟩, ⟨_, _, rfl, rfl⟩, ⟨_, _, rfl, rfl⟩, ⟨_, _, rfl, rfl⟩, ⟨_, _, rfl, rfl⟩, trivial⟩); (case j_NUMBERS => first | rfl | decide +kernel); (case y_NUMBERS => first | rfl | decide +kernel); (case i_NUMBERS => first | rfl | decide +kernel)

