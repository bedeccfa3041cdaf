import PyProof.Rows.All
import HandS.ForMost
import HandS.Walk
import HandS.IsInst
import HandS.Conv
import HandS.Deep
import PyProof.ReprRoads
import HandS.TupAny
import HandS.TupMul
import HandS.Wide
import HandS.Zip
import KE.GoesEnum
import HandS.More
import HandS.Dict
import HandS.Style
import PyProof.ReprBulk
import HandS.SortInts
import KE.DataCmp
import HandS.ExcOwn
import HandS.WordsExc
import HandS.Flow
import KE.KExcIs
import KE.KIsAll
import HandS.WordsDict
import HandS.Strs
import HandS.SetBool
import KE.GoesSet
import PySem.Challenge.RW_guardbooks_k05_whole_shortest_ways
set_option Elab.async false
set_option linter.all false
namespace GB
open PySem PySem.Spec PyProof.Rows L2

/-! data in the abstract heap: what lies there for good -/
def Firm : HO → Prop
  | .tup _ => True
  | .frz _ _ => True
  | .ext _ => True
  | _ => False
def Keep (H H' : Hp) : Prop := ∀ a o, H a = some o → Firm o → H' a = some o
theorem Keep.rfl' (H : Hp) : Keep H H := fun _ _ h _ => h
theorem Keep.tr {H H1 H2 : Hp} (p : Keep H H1) (q : Keep H1 H2) : Keep H H2 := fun a o h f => q a o (p a o h f) f
theorem keep_of_same {H H' : Hp} (p : Same H H') : Keep H H' := fun a o h _ => p a o h
theorem same_new {H : Hp} {p : Addr} {o : HO} (h : H p = none) : Same H (upd H p o) := fun b x e => by
  rw [upd_ne (ne_of_none e h)]; exact e

def keyD : Key → PyData
  | .inl i => .int i
  | .inr z => .str z
mutual
inductive Br (K : PySem.W.Frag) (H : Hp) : V → PyData → Prop
  | non : Br K H .non .none
  | bl (b : Bool) : Br K H (.bl b) (.bool b)
  | int (i : Int) : Br K H (.int i) (.int i)
  | str (z : Str) : Br K H (.str z) (.str z)
  | tup {a : Addr} {vs : List V} {ds : List PyData} : SqT K H a vs → BrA K H vs ds → Br K H (.ref a) (.tuple ds)
  | lst {a : Addr} {o : Obj} {vs : List V} {ds : List PyData} : H a = some (.frz o (.lst vs)) → (a == sysModules) = false → BrA K H vs ds → Br K H (.ref a) (.list ds)
  | dct {a : Addr} {o : Obj} {vks : List (Key × V)} {kvs : List (PyData × PyData)} : H a = some (.frz o (.dK vks)) → kvs.map (·.1) = vks.map (fun p => keyD p.1) → BrA K H (vks.map (·.2)) (kvs.map (·.2)) → Br K H (.ref a) (.dict kvs)
inductive BrA (K : PySem.W.Frag) (H : Hp) : List V → List PyData → Prop
  | nil : BrA K H [] []
  | cons {v : V} {vs : List V} {d : PyData} {ds : List PyData} : Br K H v d → BrA K H vs ds → BrA K H (v :: vs) (d :: ds)
end
section
variable {K : PySem.W.Frag} {H H' : Hp}
theorem sqT_keep (k : Keep H H') {a : Addr} {vs : List V} (h : SqT K H a vs) : SqT K H' a vs := by
  rcases h with (h | ⟨o, h⟩) | h
  · exact .inl (.inl (k _ _ h trivial))
  · exact .inl (.inr ⟨o, k _ _ h trivial⟩)
  · exact .inr h
mutual
theorem Br.keep (k : Keep H H') : ∀ (d : PyData) (v : V), Br K H v d → Br K H' v d
  | .none, _, h => by cases h; exact .non
  | .bool _, _, h => by cases h; exact .bl _
  | .int _, _, h => by cases h; exact .int _
  | .str _, _, h => by cases h; exact .str _
  | .tuple ds, _, h => by cases h with | tup h1 h2 => exact .tup (sqT_keep k h1) (BrA.keep k ds _ h2)
  | .list ds, _, h => by cases h with | lst h1 h2 h3 => exact .lst (k _ _ h1 trivial) h2 (BrA.keep k ds _ h3)
  | .dict kvs, _, h => by cases h with | dct h1 h2 h3 => exact .dct (k _ _ h1 trivial) h2 (BrK.keep k kvs _ h3)
theorem BrA.keep (k : Keep H H') : ∀ (ds : List PyData) (vs : List V), BrA K H vs ds → BrA K H' vs ds
  | [], _, h => by cases h; exact .nil
  | d :: ds, _, h => by cases h with | cons h1 h2 => exact .cons (Br.keep k d _ h1) (BrA.keep k ds _ h2)
theorem BrK.keep (k : Keep H H') : ∀ (kvs : List (PyData × PyData)) (vs : List V), BrA K H vs (kvs.map (·.2)) → BrA K H' vs (kvs.map (·.2))
  | [], _, h => by cases h; exact .nil
  | (_, d) :: kvs, _, h => by cases h with | cons h1 h2 => exact .cons (Br.keep k d _ h1) (BrK.keep k kvs _ h2)
end
theorem BrA.len : ∀ {vs : List V} {ds : List PyData}, BrA K H vs ds → vs.length = ds.length
  | _, [], h => by cases h; rfl
  | _, _ :: _, h => by cases h with | cons _ t => simp [BrA.len t]
theorem BrA.get : ∀ {vs : List V} {ds : List PyData} {i : Nat} {d : PyData}, BrA K H vs ds → ds[i]? = some d → ∃ v, vs[i]? = some v ∧ Br K H v d
  | _, [], _, _, _, e => by simp at e
  | _, _ :: _, 0, _, h, e => by cases h with | cons h1 _ => exact ⟨_, rfl, by simpa using (Option.some.inj e) ▸ h1⟩
  | _, _ :: _, i + 1, _, h, e => by cases h with | cons _ t => obtain ⟨v, h1, h2⟩ := BrA.get (i := i) t (by simpa using e); exact ⟨v, by simpa using h1, h2⟩
theorem BrA.getV : ∀ {vs : List V} {ds : List PyData} {i : Nat} {v : V}, BrA K H vs ds → vs[i]? = some v → ∃ d, ds[i]? = some d ∧ Br K H v d
  | _, [], _, _, h, e => by cases h; simp at e
  | _, _ :: _, 0, _, h, e => by cases h with | cons h1 _ => exact ⟨_, rfl, by simpa using (Option.some.inj e) ▸ h1⟩
  | _, _ :: _, i + 1, _, h, e => by cases h with | cons _ t => obtain ⟨v, h1, h2⟩ := BrA.getV (i := i) t (by simpa using e); exact ⟨v, by simpa using h1, h2⟩
theorem BrA.app : ∀ {vs ws : List V} {ds es : List PyData}, BrA K H vs ds → BrA K H ws es → BrA K H (vs ++ ws) (ds ++ es)
  | _, _, [], _, h, q => by cases h; exact q
  | _, _, _ :: _, _, h, q => by cases h with | cons h1 t => exact .cons h1 (BrA.app t q)
theorem BrA.take : ∀ {vs : List V} {ds : List PyData} (n : Nat), BrA K H vs ds → BrA K H (vs.take n) (ds.take n)
  | _, _, 0, _ => .nil
  | _, [], n + 1, h => by cases h; exact .nil
  | _, _ :: _, n + 1, h => by cases h with | cons h1 t => exact .cons h1 (BrA.take n t)
theorem BrA.drop : ∀ {vs : List V} {ds : List PyData} (n : Nat), BrA K H vs ds → BrA K H (vs.drop n) (ds.drop n)
  | _, _, 0, h => h
  | _, [], n + 1, h => by cases h; exact .nil
  | _, _ :: _, n + 1, h => by cases h with | cons _ t => exact BrA.drop n t
theorem BrA.one {v : V} {d : PyData} (h : Br K H v d) : BrA K H [v] [d] := .cons h .nil
theorem BrA.rep {vs : List V} {ds : List PyData} (h : BrA K H vs ds) : ∀ n : Nat, BrA K H (List.replicate n vs).flatten (List.replicate n ds).flatten
  | 0 => .nil
  | n + 1 => by simp only [List.replicate_succ, List.flatten_cons]; exact h.app (BrA.rep h n)
theorem BrA.set : ∀ {vs : List V} {ds : List PyData} (i : Nat) {v : V} {d : PyData}, BrA K H vs ds → Br K H v d → BrA K H (vs.set i v) (ds.set i d)
  | _, [], _, _, _, h, _ => by cases h; exact .nil
  | _, _ :: _, 0, _, _, h, q => by cases h with | cons _ t => exact .cons q t
  | _, _ :: _, i + 1, _, _, h, q => by cases h with | cons h1 t => exact .cons h1 (BrA.set i t q)
theorem BrA.erase : ∀ {vs : List V} {ds : List PyData} (i : Nat), BrA K H vs ds → BrA K H (vs.eraseIdx i) (ds.eraseIdx i)
  | _, [], _, h => by cases h; exact .nil
  | _, _ :: _, 0, h => by cases h with | cons _ t => exact t
  | _, _ :: _, i + 1, h => by cases h with | cons h1 t => exact .cons h1 (BrA.erase i t)
theorem BrA.dropLast {vs : List V} {ds : List PyData} (h : BrA K H vs ds) : BrA K H vs.dropLast ds.dropLast := by
  rw [List.dropLast_eq_take, List.dropLast_eq_take, h.len]; exact h.take _
end
/-! back to the library's readings of the plain heap -/
section
variable {X : Cx} {pins : List (Addr × Obj)} {σ : L2.St} {H : Hp} {s : Shared}
theorem kv_keys : ∀ {es : List DictEntry} {P : Program} {w : World} {vs : List (Key × Value)} {h : Heap}, Pairs (mixKind P w) es vs → ReadsAll h (es.map (·.key)) (vs.map fun p => keyD p.1) []
  | [], _, _, _, _, h => by cases h; exact .nil
  | e :: es, P, w, _, hp, h => by
    cases h with
    | @cons _ kv _ kvs h1 h2 h3 =>
      have t := kv_keys (h := hp) h3
      rcases keyIs_shape h1 with ⟨i, tk, q1, q2⟩ | ⟨i, tk, q1, q2⟩
      · have := ReadsAll.cons (Reads.int (h := hp) i tk) t
        simpa [q1, q2, keyD] using this
      · have := ReadsAll.cons (Reads.str (h := hp) i tk) t
        simpa [q1, q2, keyD] using this
theorem pairs_vals : ∀ {es : List DictEntry} {P : Program} {w : World} {vs : List (Key × Value)}, Pairs (mixKind P w) es vs → es.map (·.val) = vs.map (·.2)
  | [], _, _, _, h => by cases h; rfl
  | e :: es, _, _, _, h => by cases h with | cons h1 h2 h3 => simp [h2, pairs_vals h3]
theorem kv_vals : ∀ {vks : List (Key × V)} {vs : List (Key × Value)}, KV vks vs → Vals (vks.map (·.2)) (vs.map (·.2)) ∧ vks.map (·.1) = vs.map (·.1)
  | [], _, h => by cases h; exact ⟨.nil, rfl⟩
  | p :: r, _, h => by cases h with | cons h1 h2 => have q := kv_vals h2; exact ⟨.cons h1.2 q.1, by simp [h1.1, q.2]⟩
theorem not_sys {a : Addr} {as : List Addr} (h : (a == sysModules) = false) (h2 : sysModules ∉ as) : sysModules ∉ a :: as := fun m => by
  rcases List.mem_cons.mp m with e | e
  · exact absurd e.symm (beq_eq_false_iff_ne.mp h)
  · exact h2 e
mutual
theorem Br.reads (I : Inv X pins σ H s) : ∀ (d : PyData) (v : V) (u : Value), Br X.K H v d → RelV v u → ∃ as, Reads s.heap u d as ∧ sysModules ∉ as
  | .none, _, _, h, r => by cases h; cases r; exact ⟨_, .none, by simp⟩
  | .bool b, _, _, h, r => by cases h; cases r; exact ⟨_, .bool b, by simp⟩
  | .int i, _, _, h, r => by cases h; obtain ⟨t, rfl⟩ := r; exact ⟨_, .int i t, by simp⟩
  | .str z, _, _, h, r => by cases h; obtain ⟨t, rfl⟩ := r; exact ⟨_, .str z t, by simp⟩
  | .tuple ds, _, _, h, r => by
    cases h with
    | tup h1 h2 =>
      cases r
      obtain ⟨its, rv, ⟨o, ho, hc, n, hd⟩, _⟩ := I.tuple h1
      obtain ⟨as, q1, q2⟩ := BrA.reads I ds _ its h2 rv
      exact ⟨_, .tuple ho hc hd q1, q2⟩
  | .list ds, _, _, h, r => by
    cases h with
    | lst h1 h2 h3 =>
      cases r
      obtain ⟨its, rv, ⟨o, n, ho, hc, _, hd⟩, _⟩ := I.list (.inl (.inr ⟨_, h1⟩))
      obtain ⟨as, q1, q2⟩ := BrA.reads I ds _ its h3 rv
      exact ⟨_, .list ho hc hd q1, not_sys h2 q2⟩
  | .dict kvs, _, _, h, r => by
    cases h with
    | dct h1 h2 h3 =>
      cases r
      obtain ⟨hd, z, hs, vs, kv, o', es, ep, ho, hx, hdt, hk, hp, hn⟩ := I.hok _ _ h1
      obtain ⟨k1, k2⟩ := kv_vals kv
      obtain ⟨bs, q1, q2⟩ := BrK.reads I kvs _ (vs.map (·.2)) h3 k1
      have e1 : kvs.map (·.1) = vs.map fun p => keyD p.1 := by
        have e := congrArg (List.map keyD) k2
        rw [List.map_map, List.map_map] at e
        rw [h2]; exact e
      refine ⟨_, .dict ho hx.1 hdt (as := []) (by rw [e1]; exact kv_keys hp) (by rw [pairs_vals hp]; exact q1), ?_⟩
      simpa using not_sys hs q2
theorem BrA.reads (I : Inv X pins σ H s) : ∀ (ds : List PyData) (vs : List V) (us : List Value), BrA X.K H vs ds → Vals vs us → ∃ as, ReadsAll s.heap us ds as ∧ sysModules ∉ as
  | [], _, _, h, r => by cases h; cases r; exact ⟨_, .nil, by simp⟩
  | d :: ds, _, _, h, r => by
    cases h with
    | cons h1 h2 =>
      cases r with
      | cons r1 r2 =>
        obtain ⟨as, q1, z1⟩ := Br.reads I d _ _ h1 r1
        obtain ⟨bs, q2, z2⟩ := BrA.reads I ds _ _ h2 r2
        exact ⟨_, .cons q1 q2, by simp [z1, z2]⟩
theorem BrK.reads (I : Inv X pins σ H s) : ∀ (kvs : List (PyData × PyData)) (vs : List V) (us : List Value), BrA X.K H vs (kvs.map (·.2)) → Vals vs us → ∃ as, ReadsAll s.heap us (kvs.map (·.2)) as ∧ sysModules ∉ as
  | [], _, _, h, r => by cases h; cases r; exact ⟨_, .nil, by simp⟩
  | (_, d) :: kvs, _, _, h, r => by
    cases h with
    | cons h1 h2 =>
      cases r with
      | cons r1 r2 =>
        obtain ⟨as, q1, z1⟩ := Br.reads I d _ _ h1 r1
        obtain ⟨bs, q2, z2⟩ := BrK.reads I kvs _ _ h2 r2
        exact ⟨_, .cons q1 q2, by simp [z1, z2]⟩
end
end
end GB

namespace GB
open PySem PySem.Spec PyProof.Rows L2
section
variable {X : Cx} {pins : List (Addr × Obj)} {σ : L2.St} {H : Hp} {s : Shared}
/-! a list or dict of one's own is declared to be as it is for good -/
def Loose : HO → Prop
  | .lst _ => True
  | .dK _ => True
  | .dT _ => True
  | _ => False
theorem fix_inv (I : Inv X pins σ H s) {a : Addr} {u : HO} (h : H a = some u) (l : Loose u) : ∃ o, Inv X pins σ (upd H a (.frz o u)) s := by
  have ok := I.hok a u h
  obtain ⟨o, ho⟩ : ∃ o, s.heap.get? a = some o := by
    cases u with
    | lst xs => obtain ⟨_, _, _, _, e⟩ := ok; exact ⟨_, e⟩
    | dK kvs => obtain ⟨_, _, _, _, o, _, _, e, _⟩ := ok; exact ⟨_, e⟩
    | dT kvs => obtain ⟨_, _, _, _, o, _, _, e, _⟩ := ok; exact ⟨_, e⟩
    | _ => exact l.elim
  have nt : ∀ c xs, H c = some (.tup xs) → c ≠ a := fun c xs q z => by rw [z, h] at q; cases q; exact l
  have no : ∀ c y, H c = some (.own y) → c ≠ a := fun c y q z => by rw [z, h] at q; cases q; exact l
  have nf : ∀ c o' u', H c = some (.frz o' u') → c ≠ a := fun c o' u' q z => by rw [z, h] at q; cases q; exact l
  have nb : ∀ c ps, H c = some (.tbl ps) → c ≠ a := fun c ps q z => by rw [z, h] at q; cases q; exact l
  refine ⟨o, ?_⟩
  have un : Un X.fs [] H (upd H a (.frz o u)) s.heap s.heap := by
    refine ⟨fun b ob q _ _ _ => q, fun b ob q _ _ _ => ⟨ob.slots, q⟩, fun b ob q n _ => ?_, fun b ob q _ => ⟨ob, q⟩, fun b xs q => ?_, fun b ob xs q => ?_, fun b ps q => ⟨#[], ?_⟩⟩
    · rw [upd_ne (fun z => by rw [z, h] at n; cases n)]; exact n
    · rw [upd_ne (nt _ _ q)]; exact q
    · rw [upd_ne (nf _ _ _ q)]; exact q
    · rw [upd_ne (nb _ _ q), q]; simp
  have hok : HOk X.prog X.w (upd H a (.frz o u)) s.heap := fun b v q => by
    by_cases hb : b = a
    · subst hb
      rw [upd_same] at q; cases q
      refine ⟨ho, ok.stay (fun _ _ _ z => z) (fun c q => ?_) fun c xs q => ?_⟩
      · rw [upd_ne (no _ _ q)]; exact q
      · rw [upd_ne (nt _ _ q)]; exact q
    · rw [upd_ne hb] at q
      refine (I.hok b v q).stay (fun _ _ _ z => z) (fun c q => ?_) fun c xs q => ?_
      · rw [upd_ne (no _ _ q)]; exact q
      · rw [upd_ne (nt _ _ q)]; exact q
  exact I.un (t' := s.toks) un hok
theorem keep_fix {H : Hp} {a : Addr} {u : HO} {o : Obj} (h : H a = some u) (l : Loose u) : Keep H (upd H a (.frz o u)) := fun b v q f => by
  rw [upd_ne (fun z => by rw [z, h] at q; cases q; cases u <;> first | exact l.elim | exact f.elim)]; exact q
theorem keep_put {H : Hp} {a : Addr} {u v : HO} (h : H a = some u) (l : Loose u) : Keep H (upd H a v) := fun b w q f => by
  rw [upd_ne (fun z => by rw [z, h] at q; cases q; cases u <;> first | exact l.elim | exact f.elim)]; exact q
end

/-! a def's promise, where no repr is under way -/
structure FnG (P : Program) (w : World) (K : PySem.W.Frag) (mg : Str → Option Value) (base : Heap) (CX : CXT) (k : Nat) (f : Addr) (fd : FuncData) (ps : List Str) (sp : Sp) : Prop where
  arity : ∀ vs H Q E, sp vs H Q E → vs.length = ps.length
  go : ∀ (A : Around) (outer : List Env) (s : Shared) (H : Hp) (args : Args) (us : List Value) (vs : List V) (Q : VK) (E : XK), A.guards = some [] → Room k A → Env0 P w K mg base A outer s H →
    BindsTo s fd args (ps.zip us) → Vals vs us → sp vs H Q E → codeAny (model P w) A (.call (.ref f) args) (CR CX outer P w H s Q E) s
section
variable {P : Program} {w : World} {K : PySem.W.Frag} {mg : Str → Option Value} {base : Heap} {CX : CXT}
theorem FnG.up {j k : Nat} {f : Addr} {fd : FuncData} {ps : List Str} {sp : Sp} (F : FnG P w K mg base CX j f fd ps sp) (h : j ≤ k) : FnG P w K mg base CX k f fd ps sp :=
  ⟨F.arity, fun A outer s H args us vs Q E hg hr => F.go A outer s H args us vs Q E hg (hr.mono h)⟩
theorem FnG.weak {k : Nat} {f : Addr} {fd : FuncData} {ps : List Str} {sp sp' : Sp} (F : FnG P w K mg base CX k f fd ps sp) (h : ∀ vs H Q E, sp' vs H Q E → sp vs H Q E) : FnG P w K mg base CX k f fd ps sp' :=
  ⟨fun vs H Q E q => F.arity vs H Q E (h _ _ _ _ q), fun A outer s H args us vs Q E hg hr he hb hv hs => F.go A outer s H args us vs Q E hg hr he hb hv (h _ _ _ _ hs)⟩
theorem deeper_guards (A : Around) (env : Env) (h : A.guards = some []) : (A.deeper env).guards = some [] := h
theorem fng_of {k : Nat} {f : Addr} {fd : FuncData} {x qual : Str} {st : Stmt} {N ps : List Str} {sp : Sp} (F : Fun K x qual st f fd) (S : FnScope N ps (defScope st))
    (ar : ∀ vs H Q E, sp vs H Q E → vs.length = ps.length)
    (bd : ∀ (cdv : Value) (A : Around) (outer : List Env) (s : Shared) (H : Hp) (vs : List V) (Q : VK) (E : XK), A.guards = some [] →
      Room k (A.deeper (envOfC qual (defScope st) s.heap.objs.size f cdv)) → sp vs H Q E →
      ∃ t, PSs (cxOf CX P w K mg base N qual (defScope st) f cdv A outer s H E) (defBody st) t ∧ t { nx := fun _ H' => Q .non H', rt := Q } (L2.start N vs) H) :
    FnG P w K mg base CX (k + 1) f fd ps sp := by
  obtain ⟨oc, od, kV, doc, pm, an, cdv, ct, osl, rfl, lk, hcd⟩ := F.ex
  refine ⟨ar, fun A outer s H args us vs Q E hg hr e0 hb r hsp => ?_⟩
  have kept : ∀ b o, base.get? b = some o → s.heap.get? b = some o := fun b o e => (e0.bs b o e).1
  have KX : K.In s.heap := e0.mod.kin.keeps kept
  have lim : s.heap.NoLimit := e0.mod.nolimit.keeps kept
  refine codeAny_call_function hr.depth (KX _ _ lk) rfl S.co S.gen rfl (PySem.W.codeRec_of KX hcd) (hb _ _ _ _ ?_)
  refine wpAny_newFunctionEnv_cells S.kind (fun ⟨n, v⟩ hy => ?_) fun env he s1 x => ?_
  · rcases S.par n (List.of_mem_zip hy).1 with q | q
    · exact .inl q
    · exact .inr ⟨q, PySem.W.cellsFrom_some _ _ _ (.inl q)⟩
  subst he
  refine ⟨lim.keeps x.toInCall.keep, codeAny_func ?_⟩
  obtain ⟨t, ht, hq⟩ := bd cdv A outer s H vs Q E hg (hr.deeper _) hsp
  have I := inv_start (CX := CX) (E := E) (N := N) (mg := mg) (base := base) S hr.hd e0 (ar _ _ _ _ hsp) r x
  refine wpAny_mono (ht.run [] s1 (L2.start N vs) H _ I hq) (fun fl s' hs => ?_) fun e s' hs => hs
  cases fl with
  | ret u =>
    obtain ⟨v, σ', H', J, rv, q⟩ := hs
    exact ⟨v, H', J.os, J.bare, J.base, J.hok, rv, q⟩
  | next =>
    obtain ⟨σ', H', J, q⟩ := hs
    exact ⟨V.non, H', J.os, J.bare, J.base, J.hok, rfl, q⟩
  | brk => obtain ⟨_, _, _, q⟩ := hs; exact False.elim q
  | cont => obtain ⟨_, _, _, q⟩ := hs; exact False.elim q
/-- where no exception leaves -/
theorem fng_nox {k : Nat} {f : Addr} {fd : FuncData} {x qual : Str} {st : Stmt} {N ps : List Str} {sp : Sp} (F : Fun K x qual st f fd) (S : FnScope N ps (defScope st))
    (ar : ∀ vs H Q E, sp vs H Q E → vs.length = ps.length)
    (bd : ∀ (cdv : Value) (A : Around) (outer : List Env) (s : Shared) (H : Hp) (vs : List V) (Q : VK) (E : XK), A.guards = some [] →
      Room k (A.deeper (envOfC qual (defScope st) s.heap.objs.size f cdv)) → sp vs H Q E →
      ∃ t, PSs (cxOf CX P w K mg base N qual (defScope st) f cdv A outer s H E).nox (defBody st) t ∧ t { nx := fun _ H' => Q .non H', rt := Q } (L2.start N vs) H) :
    FnG P w K mg base CX (k + 1) f fd ps sp :=
  fng_of F S ar fun cdv A outer s H vs Q E hg hr hsp => let ⟨t, h, q⟩ := bd cdv A outer s H vs Q E hg hr hsp; ⟨t, h.nox, q⟩
end
section
variable {X : Cx} {CX : CXT} {k : Nat} {f : Addr} {fd : FuncData} {ps ks : List Str} {sp : Sp} {E : XK} {x : Str} {p pos : Pos} {e : Expr} {es : List Expr} {kws : List Keyword} {t tk : TA}
/-- a call by places -/
theorem g_call (F : FnG X.prog X.w X.K X.mg X.base CX k f fd ps sp) (hr : Room k X.A) (gd : X.A.guards = some []) (hg : Gl X x) (hm : X.mg x = some (.ref f)) (hk : PySem.W.keepIn X.K (.ref f) = true) (hb : Binds X.K fd ps []) (hx : Passes CX X E)
    (ha : PA X (e :: es) t) (hdb : (x == ("__debug__" : Str)) = false := by decide) (he : starEach (e :: es) X.env = (false, eval e X.env) :: starEach es X.env := by rfl)
    (hpl : (backTo pos (starEach es X.env)).any (·.1) = false := by rfl) : PE X (.Call (.Name x p) (e :: es) [] pos) (tCall sp [] E t) := by
  constructor
  intro pins s σ H Q I h
  refine wpAny_Call_Name_kw (ld_glob I hg hm ?_ hdb)
  refine PySem.W.callWith_K (h₀ := X.base) I.ok.mod.kin hk (thn (ha.run pos pins s σ H _ I h) fun us s1 z => ?_) he hpl
  obtain ⟨vs, H1, I1, r, q⟩ := z
  refine ⟨I1.kIn, ?_⟩
  have q : sp (vs ++ []) H1 Q E := q
  rw [List.append_nil] at q
  have hl : us.length = ps.length := by rw [← r.length]; exact F.arity _ _ _ _ q
  have bb := hb s1 us I1.kIn (by simpa using hl)
  rw [List.append_nil] at bb
  refine wpAny_call (codeAny_mono (F.go X.A X.stack s1 H1 ⟨us, []⟩ us vs Q E gd hr I1.env0 bb r q) fun r2 s' hq => ?_)
  match r2, hq with
  | .error e, hq => exact hx pins σ H1 s1 e s' I1 hq
  | .ok (.ret u), hq => exact I1.after hq
  | .ok .next, hq => exact False.elim hq
  | .ok .brk, hq => exact False.elim hq
  | .ok .cont, hq => exact False.elim hq
theorem g_call0 (F : FnG X.prog X.w X.K X.mg X.base CX k f fd ps sp) (hr : Room k X.A) (gd : X.A.guards = some []) (hg : Gl X x) (hm : X.mg x = some (.ref f)) (hk : PySem.W.keepIn X.K (.ref f) = true) (hb : Binds X.K fd ps []) (hx : Passes CX X E)
    (hdb : (x == ("__debug__" : Str)) = false := by decide) : PE X (.Call (.Name x p) [] [] pos) (tCall sp [] E tNil) := by
  constructor
  intro pins s σ H Q I q
  refine wpAny_Call_Name_kw (ld_glob I hg hm ?_ hdb)
  refine PySem.W.callWith_K0 I.kIn hk ?_
  have q : sp [] H Q E := q
  have hl := F.arity _ _ _ _ q
  have bb := hb s [] I.kIn (by simpa using hl)
  refine wpAny_call (codeAny_mono (F.go X.A X.stack s H ⟨[], []⟩ [] [] Q E gd hr I.env0 bb .nil q) fun r2 s' hq => ?_)
  match r2, hq with
  | .error e, hq => exact hx pins σ H s e s' I hq
  | .ok (.ret u), hq => exact I.after hq
  | .ok .next, hq => exact False.elim hq
  | .ok .brk, hq => exact False.elim hq
  | .ok .cont, hq => exact False.elim hq
/-- a call with keywords alone (some in front by place) -/
theorem g_callK {g : List Value → List Value → List Value} {gV : List V → List V → List V} (F : FnG X.prog X.w X.K X.mg X.base CX k f fd ps sp) (hr : Room k X.A) (gd : X.A.guards = some []) (hg : Gl X x) (hm : X.mg x = some (.ref f)) (hk : PySem.W.keepIn X.K (.ref f) = true)
    (hb : KBinds X.K fd ps ks g gV) (hx : Passes CX X E) (ha : PA X es t) (hkw : PK X kws tk)
    (run : ∀ {pins : List (Addr × Obj)} {s : Shared} {σ : L2.St} {H : Hp} {Q : VK}, Inv X pins σ H s → (∀ us s1, AP X pins σ (fun vs H1 => tk σ H1 fun zs H2 => sp (gV vs zs) H2 Q E) us s1 →
        wpAny (model X.prog X.w) X.A (evalAll ((backToKw pos (keywordEach kws X.env)).map (·.2))) (fun ws s2 => X.K.In s2.heap ∧ wpAny (model X.prog X.w) X.A (call (.ref f) us (ks.zip ws)) (EP X pins σ Q) X.xe s2) X.xe s1) →
      wpAny (model X.prog X.w) X.A (spliced (backTo pos (starEach es X.env))) (AP X pins σ fun vs H1 => tk σ H1 fun zs H2 => sp (gV vs zs) H2 Q E) X.xe s →
      wpAny (model X.prog X.w) X.A (eval (.Call (.Name x p) es kws pos) X.env) (EP X pins σ Q) X.xe s) :
    PE X (.Call (.Name x p) es kws pos) (tCallK sp gV E t tk) := by
  constructor
  intro pins s σ H Q I h
  refine run I (fun us s1 z => ?_) (ha.run pos pins s σ H _ I h)
  obtain ⟨vs, H1, I1, r, q⟩ := z
  refine thn (hkw.run pos pins s1 σ H1 _ I1 q) fun ws s2 z2 => ?_
  obtain ⟨zs, H2, I2, rz, q2⟩ := z2
  refine ⟨I2.kIn, ?_⟩
  have r2 := hb.rel r rz
  have hl : (g us ws).length = ps.length := by rw [← r2.length]; exact F.arity _ _ _ _ q2
  refine wpAny_call (codeAny_mono (F.go X.A X.stack s2 H2 ⟨us, ks.zip ws⟩ (g us ws) (gV vs zs) Q E gd hr I2.env0 (hb.to s2 us ws I2.kIn hl) r2 q2) fun r2 s' hq => ?_)
  match r2, hq with
  | .error e, hq => exact hx pins σ H2 s2 e s' I2 hq
  | .ok (.ret u), hq => exact I2.after hq
  | .ok .next, hq => exact False.elim hq
  | .ok .brk, hq => exact False.elim hq
  | .ok .cont, hq => exact False.elim hq
end
end GB

namespace GB
open PySem PySem.Spec PyProof.Rows L2

/-- a firm thing that is no datum: the draws' store, the script, others -/
inductive Tk where
  | jar
  | scr (ns : List Int)
  | more (n : Nat)
/-- what a slot, or a value, is as data -/
inductive Ow where
  | l (xs : List PyData)
  | k (kvs : List (Key × PyData))
  | io (m : Nat) (xs : List PyData)
inductive S where
  | un
  | d (x : PyData)
  | ow (o : Ow)
  | ob (t : Tk)
abbrev S.own (xs : List PyData) : S := .ow (.l xs)
abbrev S.od (kvs : List (Key × PyData)) : S := .ow (.k kvs)
abbrev S.io (m : Nat) (xs : List PyData) : S := .ow (.io m xs)
abbrev En := List S
/-- the draws' store, known by a fact that firm things bear -/
structure Jar where
  ok : Tk → Addr → Hp → Prop
  keep : ∀ t a H H', Keep H H' → ok t a H → ok t a H'
/-- the written part, the store, the heap at the def's entry -/
structure Lay where
  K : PySem.W.Frag
  J : Jar
  H0 : Hp
  io : Nat → Option Addr
abbrev lay (K : PySem.W.Frag) (J : Jar) (H : Hp) : Lay := ⟨K, J, H, fun _ => none⟩
/-- firm values -/
def FR (L : Lay) (H : Hp) (v : V) : S → Prop
  | .un => False
  | .d x => Br L.K H v x
  | .ow _ => False
  | .ob t => ∃ a, v = .ref a ∧ L.J.ok t a H
def OR (L : Lay) (H : Hp) (v : V) : Ow → Prop
  | .l xs => ∃ l vs, v = .ref l ∧ H l = some (.lst vs) ∧ BrA L.K H vs xs ∧ L.H0 l = none
  | .k kvs => ∃ l, ∃ vks : List (Key × V), v = .ref l ∧ H l = some (.dK vks) ∧ (kvs.map (·.1) = vks.map (·.1) ∧ BrA L.K H (vks.map (·.2)) (kvs.map (·.2))) ∧ L.H0 l = none
  | .io m xs => ∃ l vs, v = .ref l ∧ H l = some (.lst vs) ∧ (BrA L.K H vs xs ∧ L.io m = some l) ∧ L.H0 l = none
def SR (L : Lay) (H : Hp) (o : Option V) : S → Prop
  | .un => True
  | .d x => ∃ v, o = some v ∧ Br L.K H v x
  | .ow xs => ∃ v, o = some v ∧ OR L H v xs
  | .ob t => ∃ a, o = some (.ref a) ∧ L.J.ok t a H
structure Rel (L : Lay) (H : Hp) (σ : L2.St) (ρ : En) : Prop where
  len : σ.length = ρ.length
  at' : ∀ (i : Nat) (s : S), ρ[i]? = some s → SR L H (σ[i]?.getD none) s
  sep : ∀ (i j : Nat) (xs ys : Ow), ρ[i]? = some (.ow xs) → ρ[j]? = some (.ow ys) → σ[i]? = σ[j]? → i = j
  same : Same L.H0 H
/-- a value that an expression gave, begun at Hs -/
def VR (L : Lay) (Hs H : Hp) (v : V) : S → Prop
  | .ow xs => OR L H v xs ∧ ∀ l, v = .ref l → Hs l = none
  | s => FR L H v s
/-- what an expression leaves as it is: all but the lists that slots own -/
structure Go (σ : L2.St) (ρ ρ' : En) (H H' : Hp) : Prop where
  stay : ∀ a o, H a = some o → (∀ (i : Nat) (xs : Ow), ρ[i]? = some (.ow xs) → σ[i]? ≠ some (some (.ref a))) → H' a = some o
  less : ∀ (i : Nat) (xs : Ow), ρ'[i]? = some (.ow xs) → ∃ ys, ρ[i]? = some (.ow ys)
  dom : ∀ a, H' a = none → H a = none
def RR (L : Lay) (H : Hp) (v : V) : S → Prop
  | .ow xs => OR L H v xs
  | s => FR L H v s

abbrev TEd := En → (S → En → Prop) → Prop
abbrev TTd := En → (Bool → En → Prop) → Prop
abbrev TAd := En → (List S → En → Prop) → Prop
structure EndsD where
  nx : En → Prop
  rt : S → Prop
  bk : En → Prop := fun _ => False
  ct : En → Prop := fun _ => False
abbrev TSd := EndsD → En → Prop
inductive FRs (L : Lay) (H : Hp) : List V → List S → Prop
  | nil : FRs L H [] []
  | cons {v : V} {vs : List V} {s : S} {ss : List S} : FR L H v s → FRs L H vs ss → FRs L H (v :: vs) (s :: ss)
def tE (L : Lay) (t : TEd) : TE := fun σ H Q' => ∃ ρ Q, Rel L H σ ρ ∧ t ρ Q ∧ ∀ v H' s ρ', Go σ ρ ρ' H H' → Rel L H' σ ρ' → VR L H H' v s → Q s ρ' → Q' v H'
def tT (L : Lay) (t : TTd) : TT := fun σ H Q' => ∃ ρ Q, Rel L H σ ρ ∧ t ρ Q ∧ ∀ b H' ρ', Go σ ρ ρ' H H' → Rel L H' σ ρ' → Q b ρ' → Q' b H'
def tA (L : Lay) (t : TAd) : TA := fun σ H Q' => ∃ ρ Q, Rel L H σ ρ ∧ t ρ Q ∧ ∀ vs H' ss ρ', Go σ ρ ρ' H H' → Rel L H' σ ρ' → FRs L H' vs ss → Q ss ρ' → Q' vs H'
def tS (L : Lay) (t : TSd) : TS := fun D σ H => ∃ ρ De, Rel L H σ ρ ∧ t De ρ ∧ (∀ σ' H' ρ', Keep H H' → Rel L H' σ' ρ' → De.nx ρ' → D.nx σ' H') ∧ (∀ v H' s, Keep H H' → Same L.H0 H' → RR L H' v s → De.rt s → D.rt v H') ∧
  (∀ σ' H' ρ', Keep H H' → Rel L H' σ' ρ' → De.bk ρ' → D.bk σ' H') ∧ (∀ σ' H' ρ', Keep H H' → Rel L H' σ' ρ' → De.ct ρ' → D.ct σ' H')

section
variable {L : Lay} {H H' : Hp} {σ : L2.St} {ρ : En}
theorem FR.keep (k : Keep H H') {v : V} : ∀ {s : S}, FR L H v s → FR L H' v s
  | .d x, h => Br.keep k x v h
  | .ob t, ⟨a, e, h⟩ => ⟨a, e, L.J.keep t a _ _ k h⟩
theorem FRs.keep (k : Keep H H') {vs : List V} {ss : List S} (h : FRs L H vs ss) : FRs L H' vs ss := by
  induction h with
  | nil => exact .nil
  | cons h1 _ ih => exact .cons (h1.keep k) ih
theorem OR.keep (k : Keep H H') {v : V} {xs : Ow} (h : OR L H v xs) (hv : ∀ l u, v = .ref l → H l = some u → H' l = some u) : OR L H' v xs := by
  cases xs with
  | l xs =>
    obtain ⟨l, vs, e, h1, h2, h3⟩ := h
    exact ⟨l, vs, e, hv l _ e h1, BrA.keep k _ _ h2, h3⟩
  | k kvs =>
    obtain ⟨l, vs, e, h1, h2, h3⟩ := h
    exact ⟨l, vs, e, hv l _ e h1, ⟨h2.1, BrA.keep k _ _ h2.2⟩, h3⟩
  | io m xs =>
    obtain ⟨l, vs, e, h1, h2, h3⟩ := h
    exact ⟨l, vs, e, hv l _ e h1, ⟨BrA.keep k _ _ h2.1, h2.2⟩, h3⟩
theorem OR.same (k : Same H H') {v : V} {xs : Ow} (h : OR L H v xs) : OR L H' v xs := h.keep (keep_of_same k) fun l u _ e => k _ _ e
/-- what all own things have in common -/
theorem OR.any {v : V} {xs : Ow} (h : OR L H v xs) : ∃ l u, v = .ref l ∧ H l = some u ∧ Loose u ∧ L.H0 l = none := by
  cases xs with
  | l xs => obtain ⟨l, vs, e, h1, h2, h3⟩ := h; exact ⟨l, _, e, h1, trivial, h3⟩
  | k kvs => obtain ⟨l, vs, e, h1, h2, h3⟩ := h; exact ⟨l, _, e, h1, trivial, h3⟩
  | io m xs => obtain ⟨l, vs, e, h1, h2, h3⟩ := h; exact ⟨l, _, e, h1, trivial, h3⟩
theorem SR.same (k : Same H H') {o : Option V} : ∀ {s : S}, SR L H o s → SR L H' o s
  | .un, _ => trivial
  | .d x, ⟨v, e, h⟩ => ⟨v, e, Br.keep (keep_of_same k) x v h⟩
  | .ow xs, ⟨v, e, h⟩ => ⟨v, e, h.same k⟩
  | .ob t, ⟨a, e, h⟩ => ⟨a, e, L.J.keep t a _ _ (keep_of_same k) h⟩
/-- all that was tracked stays -/
theorem Rel.go (r : Rel L H σ ρ) (k : Same H H') : Rel L H' σ ρ := ⟨r.len, fun i s e => (r.at' i s e).same k, r.sep, r.same.trans k⟩
theorem Rel.get (r : Rel L H σ ρ) {i : Nat} {s : S} (h : ρ[i]? = some s) : ∃ o, σ[i]? = some o ∧ SR L H o s := by
  have hi : i < σ.length := by rw [r.len]; exact (List.getElem?_eq_some_iff.mp h).1
  have q := r.at' i s h
  rw [List.getElem?_eq_getElem hi] at q ⊢
  exact ⟨_, rfl, q⟩
theorem Rel.getD (r : Rel L H σ ρ) {i : Nat} {x : PyData} (h : ρ[i]? = some (.d x)) : ∃ v, σ[i]? = some (some v) ∧ Br L.K H v x := by
  obtain ⟨o, e, v, e2, q⟩ := r.get h
  exact ⟨v, by rw [e, e2], q⟩
theorem Rel.getO (r : Rel L H σ ρ) {i : Nat} {xs : List PyData} (h : ρ[i]? = some (.own xs)) : ∃ l vs, σ[i]? = some (some (.ref l)) ∧ H l = some (.lst vs) ∧ BrA L.K H vs xs ∧ L.H0 l = none := by
  obtain ⟨o, e, v, e2, l, vs, e3, h1, h2, h3⟩ := r.get h
  exact ⟨l, vs, by rw [e, e2, e3], h1, h2, h3⟩
theorem Rel.getW (r : Rel L H σ ρ) {i : Nat} {xs : Ow} (h : ρ[i]? = some (.ow xs)) : ∃ l u, σ[i]? = some (some (.ref l)) ∧ H l = some u ∧ Loose u ∧ L.H0 l = none := by
  obtain ⟨o, e, v, e2, q⟩ := r.get h
  obtain ⟨l, u, e3, h1, h2, h3⟩ := q.any
  exact ⟨l, u, by rw [e, e2, e3], h1, h2, h3⟩
theorem loose_not_firm {u : HO} (h : Loose u) (f : Firm u) : False := by cases u <;> first | exact h.elim | exact f.elim
theorem Go.rf : Go σ ρ ρ H H := ⟨fun _ _ h _ => h, fun _ xs h => ⟨xs, h⟩, fun _ h => h⟩
theorem Go.sm (k : Same H H') : Go σ ρ ρ H H' := ⟨fun a o h _ => k a o h, fun _ xs h => ⟨xs, h⟩, fun _ h => k.free h⟩
theorem Go.tr {ρ1 ρ2 : En} {H1 H2 : Hp} (p : Go σ ρ ρ1 H H1) (q : Go σ ρ1 ρ2 H1 H2) : Go σ ρ ρ2 H H2 :=
  ⟨fun a o h n => q.stay a o (p.stay a o h n) fun i xs e => let ⟨ys, e'⟩ := p.less i xs e; n i ys e', fun i xs e => let ⟨ys, e'⟩ := q.less i xs e; p.less i ys e', fun a h => p.dom a (q.dom a h)⟩
theorem Go.keep {ρ' : En} (p : Go σ ρ ρ' H H') (r : Rel L H σ ρ) : Keep H H' := fun a o h f => p.stay a o h fun i xs e z => by
  obtain ⟨l, vs, h1, h2, ls, _⟩ := r.getW e
  rw [h1] at z; cases z
  rw [h] at h2; cases h2; exact loose_not_firm ls f
theorem VR.of {Hs : Hp} {v : V} {s : S} (h : FR L H v s) : VR L Hs H v s := by
  cases s with
  | un => exact h
  | d x => exact h
  | ow xs => exact False.elim h
  | ob t => exact h
theorem get_set {α : Type} {l : List α} {i j : Nat} {x : α} : (l.set i x)[j]? = if i = j then (if j < l.length then some x else none) else l[j]? := by
  rw [List.getElem?_set]
  by_cases h : i = j
  · subst h; rfl
  · rw [if_neg h, if_neg h]
/-- a slot takes a firm value -/
theorem Rel.setF (r : Rel L H σ ρ) {i : Nat} {v : V} {s : S} (h : FR L H v s) : Rel L H (σ.set i (some v)) (ρ.set i s) := by
  have nown : ∀ xs, s ≠ .ow xs := fun xs e => by subst e; exact h
  refine ⟨by simp [r.len], fun j z e => ?_, fun j k xs ys e1 e2 e3 => ?_, r.same⟩
  · by_cases hj : i = j
    · subst hj
      rw [get_set, if_pos rfl] at e
      split at e
      · rename_i hl
        cases e
        rw [get_set, if_pos rfl, if_pos (by rw [r.len]; exact hl)]
        cases s with
        | un => exact h.elim
        | d x => exact ⟨v, rfl, h⟩
        | ow xs => exact h.elim
        | ob t => obtain ⟨a, rfl, q⟩ := h; exact ⟨a, rfl, q⟩
      · cases e
    · rw [get_set, if_neg hj] at e ⊢
      exact r.at' j z e
  · have h1 : i ≠ j := fun z => by
      subst z; rw [get_set, if_pos rfl] at e1; split at e1
      · exact nown xs (Option.some.inj e1)
      · cases e1
    have h2 : i ≠ k := fun z => by
      subst z; rw [get_set, if_pos rfl] at e2; split at e2
      · exact nown ys (Option.some.inj e2)
      · cases e2
    rw [get_set, if_neg h1] at e1 e3
    rw [get_set, if_neg h2] at e2 e3
    exact r.sep j k xs ys e1 e2 e3
/-- a slot takes a list of one's own -/
theorem Rel.setO (r : Rel L H σ ρ) {i : Nat} {v : V} {xs : Ow} (h : OR L H v xs) (hs : ∀ (i : Nat) (ys : Ow), ρ[i]? = some (.ow ys) → σ[i]? ≠ some (some v)) : Rel L H (σ.set i (some v)) (ρ.set i (.ow xs)) := by
  refine ⟨by simp [r.len], fun j z e => ?_, fun j k xs ys e1 e2 e3 => ?_, r.same⟩
  · by_cases hj : i = j
    · subst hj
      rw [get_set, if_pos rfl] at e
      split at e
      · rename_i hl
        cases e
        rw [get_set, if_pos rfl, if_pos (by rw [r.len]; exact hl)]
        exact ⟨v, rfl, h⟩
      · cases e
    · rw [get_set, if_neg hj] at e ⊢
      exact r.at' j z e
  · by_cases hj : i = j
    · subst hj
      by_cases hk : i = k
      · exact hk
      · exfalso
        have hl : i < ρ.length := by
          rw [get_set, if_pos rfl] at e1
          split at e1
          · assumption
          · cases e1
        rw [get_set, if_neg hk] at e2
        rw [get_set, if_pos rfl, if_pos (by rw [r.len]; exact hl), get_set, if_neg hk] at e3
        exact hs k ys e2 e3.symm
    · by_cases hk : i = k
      · subst hk
        exfalso
        have hl : i < ρ.length := by
          rw [get_set, if_pos rfl] at e2
          split at e2
          · assumption
          · cases e2
        rw [get_set, if_neg hj] at e1
        rw [get_set, if_neg hj, get_set, if_pos rfl, if_pos (by rw [r.len]; exact hl)] at e3
        exact hs j xs e1 e3
      · rw [get_set, if_neg hj] at e1 e3
        rw [get_set, if_neg hk] at e2 e3
        exact r.sep j k xs ys e1 e2 e3
/-- a list of one's own is changed in place -/
theorem Rel.putW (r : Rel L H σ ρ) {i : Nat} {xs ys : Ow} {l : Addr} {u w : HO} (h : ρ[i]? = some (.ow xs)) (hi : σ[i]? = some (some (.ref l))) (hl : H l = some u) (ls : Loose u) (hw : Keep H (upd H l w) → L.H0 l = none → OR L (upd H l w) (.ref l) ys) :
    Rel L (upd H l w) σ (ρ.set i (.ow ys)) ∧ Keep H (upd H l w) := by
  have k : Keep H (upd H l w) := keep_put hl ls
  obtain ⟨l', vs', hi', hl', _, h0⟩ := r.getW h
  rw [hi] at hi'; cases hi'
  refine ⟨⟨by simp [r.len], fun j z e => ?_, fun j m as bs e1 e2 e3 => ?_, fun b o q => ?_⟩, k⟩
  · by_cases hj : i = j
    · subst hj
      rw [get_set, if_pos rfl] at e
      split at e
      · cases e
        rw [hi]
        exact ⟨.ref l, rfl, hw k h0⟩
      · cases e
    · rw [get_set, if_neg hj] at e
      have q := r.at' j z e
      cases z with
      | un => trivial
      | d x => obtain ⟨v, e2, q⟩ := q; exact ⟨v, e2, Br.keep k _ _ q⟩
      | ow zs =>
        obtain ⟨v, e2, q⟩ := q
        refine ⟨v, e2, q.keep k fun m u' em hu => (upd_ne fun z => hj (r.sep i j xs zs h e ?_)).trans hu⟩
        subst em; subst z
        obtain ⟨o, e4, _⟩ := r.get e
        rw [hi, e4]
        rw [e4] at e2
        exact congrArg some (show some (V.ref m) = o from e2.symm)
      | ob t => obtain ⟨a, e2, q⟩ := q; exact ⟨a, e2, L.J.keep _ _ _ _ k q⟩
  · have f : ∀ (m : Nat) (as : Ow), (ρ.set i (.ow ys))[m]? = some (.ow as) → ∃ cs, ρ[m]? = some (.ow cs) := fun m as e => by
      by_cases hm : i = m
      · subst hm; exact ⟨xs, h⟩
      · rw [get_set, if_neg hm] at e; exact ⟨as, e⟩
    obtain ⟨cs, q1⟩ := f j as e1
    obtain ⟨ds, q2⟩ := f m bs e2
    exact r.sep j m cs ds q1 q2 e3
  · rw [upd_ne (fun z => by rw [z] at q; rw [q] at h0; cases h0)]
    exact r.same _ _ q
theorem Rel.put (r : Rel L H σ ρ) {i : Nat} {xs ys : List PyData} {l : Addr} {vs ws : List V} (h : ρ[i]? = some (.own xs)) (hi : σ[i]? = some (some (.ref l))) (hl : H l = some (.lst vs)) (hw : BrA L.K H ws ys) :
    Rel L (upd H l (.lst ws)) σ (ρ.set i (.own ys)) ∧ Keep H (upd H l (.lst ws)) :=
  r.putW h hi hl trivial fun k h0 => ⟨l, ws, rfl, upd_same, BrA.keep k _ _ hw, h0⟩
/-- a value goes into a slot -/
theorem Rel.set {ρ' : En} {H1 : Hp} (r : Rel L H σ ρ) (r1 : Rel L H1 σ ρ') (g : Go σ ρ ρ' H H1) {i : Nat} {v : V} {s : S} (h : VR L H H1 v s) : Rel L H1 (σ.set i (some v)) (ρ'.set i s) := by
  cases s with
  | un => exact h.elim
  | d x => exact r1.setF h
  | ob t => exact r1.setF h
  | ow xs =>
    refine r1.setO h.1 fun j ys e z => ?_
    obtain ⟨zs, e'⟩ := g.less j ys e
    obtain ⟨l, vs, h1, h2, _⟩ := r.getW e'
    rw [h1] at z; cases z
    rw [h.2 l rfl] at h2; cases h2
end
end GB

namespace GB
open PySem PySem.Spec PyProof.Rows L2

theorem _root_.L2.PE.less {X : Cx} {e : Expr} {t t2 : TE} (h : PE X e t) (w : ∀ σ H Q, t2 σ H Q → t σ H Q) : PE X e t2 := ⟨fun pins s σ H Q I q => h.run pins s σ H Q I (w _ _ _ q)⟩
theorem _root_.L2.PT.less {X : Cx} {e : Expr} {t t2 : TT} (h : PT X e t) (w : ∀ σ H Q, t2 σ H Q → t σ H Q) : PT X e t2 := ⟨fun pins s σ H Q I q => h.run pins s σ H Q I (w _ _ _ q)⟩
theorem _root_.L2.PW.less {X : Cx} {e : Expr} {t t2 : TT} (h : PW X e t) (w : ∀ σ H Q, t2 σ H Q → t σ H Q) : PW X e t2 := ⟨fun wh pins s σ H Q I q => h.run wh pins s σ H Q I (w _ _ _ q)⟩
theorem _root_.L2.PA.less {X : Cx} {e : List Expr} {t t2 : TA} (h : PA X e t) (w : ∀ σ H Q, t2 σ H Q → t σ H Q) : PA X e t2 := ⟨fun pos pins s σ H Q I q => h.run pos pins s σ H Q I (w _ _ _ q)⟩
theorem _root_.L2.PK.less' {X : Cx} {e : List Keyword} {t t2 : TA} (h : PK X e t) (w : ∀ σ H Q, t2 σ H Q → t σ H Q) : PK X e t2 := ⟨fun pos pins s σ H Q I q => h.run pos pins s σ H Q I (w _ _ _ q)⟩
theorem _root_.L2.PS.less {X : Cx} {e : Stmt} {t t2 : TS} (h : PS X e t) (w : ∀ D σ H, t2 D σ H → t D σ H) : PS X e t2 := ⟨fun pins s σ H D I q => h.run pins s σ H D I (w _ _ _ q)⟩
theorem _root_.L2.PSs.less {X : Cx} {e : List Stmt} {t t2 : TS} (h : PSs X e t) (w : ∀ D σ H, t2 D σ H → t D σ H) : PSs X e t2 := ⟨fun pins s σ H D I q => h.run pins s σ H D I (w _ _ _ q)⟩

/-- what a rule wants of its context -/
structure Good (X : Cx) : Prop where
  calm : X.calm = true
  gd : X.A.guards = some []
  sys : ∃ o, X.base.get? sysModules = some o
  un : X.A.units + 200 < cLine
  nd : X.N.Nodup

def S.firm : S → Prop
  | .d _ => True
  | .ob _ => True
  | _ => False
def Ow.fz : Ow → PyData
  | .l xs => .list xs
  | .k kvs => .dict (kvs.map fun p => (keyD p.1, p.2))
  | .io _ xs => .list xs
def S.fz : S → S
  | .ow xs => .d xs.fz
  | s => s
/-! names, constants -/
def dVar (i : Nat) : TEd := fun ρ Q => ∃ s, ρ[i]? = some s ∧ s.firm ∧ Q s ρ
def dK (x : PyData) : TEd := fun ρ Q => Q (.d x) ρ
def dFz (t : TEd) : TEd := fun ρ Q => t ρ fun s ρ' => Q s.fz ρ'
def dFix (i : Nat) : TEd := fun ρ Q => ∃ xs, ρ[i]? = some (.own xs) ∧ Q (.d (.list xs)) (ρ.set i (.d (.list xs)))
section
variable {X : Cx} {L : Lay} {pos : Pos} {e a b c : Expr} {t ta tb tc : TEd}
theorem firm_of {H : Hp} {o : Option V} {s : S} (f : s.firm) (h : SR L H o s) : ∃ v, o = some v ∧ FR L H v s := by
  cases s with
  | un => exact f.elim
  | d x => obtain ⟨v, e, q⟩ := h; exact ⟨v, e, q⟩
  | ow xs => exact f.elim
  | ob t => obtain ⟨a, e, q⟩ := h; exact ⟨_, e, a, rfl, q⟩
theorem de_var {x : Str} (i : Nat) (hN : X.N[i]? = some x := by rfl) (hv : Vis X.env.scope x := by first | exact Or.inl rfl | exact Or.inr (Or.inl rfl) | exact Or.inr (Or.inr rfl))
    (hd : (x == ("__debug__" : Str)) = false := by decide) (hcd : (x == ("__classdict__" : Str)) = false := by decide) : PE X (.Name x pos) (tE L (dVar i)) := by
  refine (pe_var hN hv hd hcd).less fun σ H Q' h => ?_
  obtain ⟨ρ, Q, r, ⟨s, e, f, q⟩, fin⟩ := h
  obtain ⟨o, e2, h2⟩ := r.get e
  obtain ⟨v, rfl, hv⟩ := firm_of f h2
  exact ⟨v, e2, fin v H s ρ Go.rf r (VR.of hv) q⟩
theorem de_k {t0 : TE} {x : PyData} {v : V} (h : PE X e t0) (ht : ∀ σ H Q, Q v H → t0 σ H Q) (hb : ∀ H, Br L.K H v x) : PE X e (tE L (dK x)) := by
  refine h.less fun σ H Q' h => ?_
  obtain ⟨ρ, Q, r, q, fin⟩ := h
  exact ht _ _ _ (fin v H (.d x) ρ Go.rf r (hb H) q)
theorem de_int {i j} : PE X (.Constant (.int i) j pos) (tE L (dK (.int i))) := de_k pe_int (fun _ _ _ q => q) fun _ => .int _
theorem de_bl {b j} : PE X (.Constant (.bool b) j pos) (tE L (dK (.bool b))) := de_k pe_bl (fun _ _ _ q => q) fun _ => .bl _
theorem de_non {j} : PE X (.Constant .none j pos) (tE L (dK .none)) := de_k pe_non (fun _ _ _ q => q) fun _ => .non
theorem de_str {x j} : PE X (.Constant (.str x) j pos) (tE L (dK (.str x))) := de_k pe_str (fun _ _ _ q => q) fun _ => .str _
/-- a constant of the module -/
theorem de_glob {x : Str} {d : PyData} {v : V} {u : Value} (hg : Gl X x) (hm : X.mg x = some u) (r : RelV v u) (hb : ∀ H, Br L.K H v d) (hd : (x == ("__debug__" : Str)) = false := by decide) : PE X (.Name x pos) (tE L (dK d)) :=
  de_k (pe_glob hg hm r hd) (fun _ _ _ q => q) hb

theorem ne_sys {pins : List (Addr × Obj)} {σ : L2.St} {H : Hp} {s : Shared} (I : Inv X pins σ H s) (g : Good X) {l : Addr} {u : HO} (h : H l = some u) : (l == sysModules) = false := by
  obtain ⟨o, ho⟩ := g.sys
  refine beq_eq_false_iff_ne.mpr fun z => ?_
  subst z
  rw [(I.bs _ _ ho).2] at h; cases h
theorem same_fix {H0 H : Hp} {l : Addr} {o : HO} (k : Same H0 H) (h0 : H0 l = none) : Same H0 (upd H l o) := fun b u q => by
  rw [upd_ne (fun z => by rw [z] at q; rw [q] at h0; cases h0)]; exact k _ _ q
/-- what else stays when a list of one's own, in no slot, is fixed -/
theorem Rel.fixOut {H : Hp} {σ : L2.St} {ρ : En} (r : Rel L H σ ρ) {l : Addr} {u : HO} {o : Obj} (hl : H l = some u) (ls : Loose u) (h0 : L.H0 l = none)
    (hs : ∀ (i : Nat) (ys : Ow), ρ[i]? = some (.ow ys) → σ[i]? ≠ some (some (.ref l))) : Rel L (upd H l (.frz o u)) σ ρ := by
  have k := keep_fix (o := o) hl ls
  refine ⟨r.len, fun j z e => ?_, r.sep, same_fix r.same h0⟩
  have q := r.at' j z e
  cases z with
  | un => trivial
  | d x => obtain ⟨v, e2, q⟩ := q; exact ⟨v, e2, Br.keep k _ _ q⟩
  | ow zs =>
    obtain ⟨v, e2, q⟩ := q
    refine ⟨v, e2, q.keep k fun m u' em hu => (upd_ne fun z => ?_).trans hu⟩
    subst em; subst z
    obtain ⟨w, e4, _⟩ := r.get e
    rw [e4] at e2
    refine hs j zs e ?_
    rw [e4]
    exact congrArg some (show w = some (V.ref m) from e2)
  | ob t => obtain ⟨a, e2, q⟩ := q; exact ⟨a, e2, L.J.keep _ _ _ _ k q⟩
theorem Rel.fixW {H : Hp} {σ : L2.St} {ρ : En} (r : Rel L H σ ρ) {i : Nat} {xs : Ow} {l : Addr} {u : HO} {o : Obj} {x : PyData} (h : ρ[i]? = some (.ow xs)) (hi : σ[i]? = some (some (.ref l))) (hl : H l = some u) (ls : Loose u)
    (br0 : Keep H (upd H l (.frz o u)) → Br L.K (upd H l (.frz o u)) (.ref l) x) : Rel L (upd H l (.frz o u)) σ (ρ.set i (.d x)) ∧ Br L.K (upd H l (.frz o u)) (.ref l) x := by
  obtain ⟨l', vs', hi', hl', _, h0⟩ := r.getW h
  rw [hi] at hi'; cases hi'
  rw [hl] at hl'; cases hl'
  have k := keep_fix (o := o) hl ls
  have br := br0 k
  have other : ∀ (j : Nat) (as : Ow), (ρ.set i (.d x))[j]? = some (.ow as) → i ≠ j ∧ ρ[j]? = some (.ow as) := fun j as e => by
    by_cases hj : i = j
    · subst hj
      rw [get_set, if_pos rfl] at e
      split at e <;> cases e
    · rw [get_set, if_neg hj] at e
      exact ⟨hj, e⟩
  refine ⟨⟨by simp [r.len], fun j z e => ?_, fun j m as bs e1 e2 e3 => ?_, same_fix r.same h0⟩, br⟩
  · by_cases hj : i = j
    · subst hj
      rw [get_set, if_pos rfl] at e
      split at e
      · cases e; rw [hi]; exact ⟨_, rfl, br⟩
      · cases e
    · rw [get_set, if_neg hj] at e
      have q := r.at' j z e
      cases z with
      | un => trivial
      | d x => obtain ⟨v, e2, q⟩ := q; exact ⟨v, e2, Br.keep k _ _ q⟩
      | ow zs =>
        obtain ⟨v, e2, q⟩ := q
        refine ⟨v, e2, q.keep k fun m u' em hu => (upd_ne fun z => hj (r.sep i j xs zs h e ?_)).trans hu⟩
        subst em; subst z
        obtain ⟨w, e4, _⟩ := r.get e
        rw [hi, e4]
        rw [e4] at e2
        exact congrArg some (show some (V.ref m) = w from e2.symm)
      | ob t => obtain ⟨a, e2, q⟩ := q; exact ⟨a, e2, L.J.keep _ _ _ _ k q⟩
  · obtain ⟨_, q1⟩ := other j as e1
    obtain ⟨_, q2⟩ := other m bs e2
    exact r.sep j m as bs q1 q2 e3
theorem Rel.fixIn {H : Hp} {σ : L2.St} {ρ : En} (r : Rel L H σ ρ) {i : Nat} {xs : List PyData} {l : Addr} {vs : List V} {o : Obj} (h : ρ[i]? = some (.own xs)) (hi : σ[i]? = some (some (.ref l))) (hl : H l = some (.lst vs)) (ns : (l == sysModules) = false) :
    Rel L (upd H l (.frz o (.lst vs))) σ (ρ.set i (.d (.list xs))) ∧ Br L.K (upd H l (.frz o (.lst vs))) (.ref l) (.list xs) := by
  obtain ⟨l', vs', hi', hl', hb, h0⟩ := r.getO h
  rw [hi] at hi'; cases hi'
  rw [hl] at hl'; cases hl'
  exact r.fixW h hi hl trivial fun k => .lst upd_same ns (BrA.keep k _ _ hb)
theorem dk_br {K : PySem.W.Frag} {H : Hp} {l : Addr} {o : Obj} {vks : List (Key × V)} {kvs : List (Key × PyData)} (h : H l = some (.frz o (.dK vks))) (e : kvs.map (·.1) = vks.map (·.1)) (b : BrA K H (vks.map (·.2)) (kvs.map (·.2))) :
    Br K H (.ref l) (.dict (kvs.map fun p => (keyD p.1, p.2))) := by
  refine .dct h ?_ ?_
  · have := congrArg (List.map keyD) e
    rw [List.map_map, List.map_map] at this
    rw [List.map_map]
    exact this
  · rw [List.map_map]
    exact b
theorem Rel.fixInK {H : Hp} {σ : L2.St} {ρ : En} (r : Rel L H σ ρ) {i : Nat} {kvs : List (Key × PyData)} {l : Addr} {u : HO} {o : Obj} (h : ρ[i]? = some (.od kvs)) (hi : σ[i]? = some (some (.ref l))) (hl : H l = some u) :
    Rel L (upd H l (.frz o u)) σ (ρ.set i (.d (.dict (kvs.map fun p => (keyD p.1, p.2))))) ∧ Br L.K (upd H l (.frz o u)) (.ref l) (.dict (kvs.map fun p => (keyD p.1, p.2))) := by
  obtain ⟨o', e, v, e2, l', vks, e3, hl', hb, h0⟩ := r.get h
  rw [hi, e2, e3] at e; cases e
  rw [hl] at hl'; cases hl'
  exact r.fixW h hi hl trivial fun k => dk_br upd_same hb.1 (BrA.keep k _ _ hb.2)
/-- a fresh list becomes a firm one -/
theorem de_fz (g : Good X) (h : PE X e (tE L t)) : PE X e (tE L (dFz t)) := by
  constructor
  intro pins s σ H Q' I q
  obtain ⟨ρ, Q, r, q, fin⟩ := q
  have q : t ρ fun s ρ' => Q s.fz ρ' := q
  refine thn (h.run pins s σ H (fun v H1 => ∃ s ρ', Go σ ρ ρ' H H1 ∧ Rel L H1 σ ρ' ∧ VR L H H1 v s ∧ Q s.fz ρ') I ⟨ρ, _, r, q, fun v H' s ρ' k r' hv q' => ⟨s, ρ', k, r', hv, q'⟩⟩) fun u s1 z => ?_
  obtain ⟨v, H1, I1, rv, sv, ρ', k, r', hv, q'⟩ := z
  cases sv with
  | un => exact False.elim hv
  | d x => exact ⟨v, H1, I1, rv, fin v H1 (.d x) ρ' k r' hv q'⟩
  | ob t => exact ⟨v, H1, I1, rv, fin v H1 (.ob t) ρ' k r' hv q'⟩
  | ow xs =>
    obtain ⟨hw, hs⟩ := hv
    obtain ⟨l, u, rfl, hl, ls, h0⟩ := hw.any
    obtain ⟨o, I2⟩ := fix_inv I1 hl ls
    have k2 := keep_fix (o := o) hl ls
    have hn : H l = none := hs l rfl
    have br : Br L.K (upd H1 l (.frz o u)) (.ref l) xs.fz := by
      cases xs with
      | l xs => obtain ⟨_, _, e, q1, q2, _⟩ := hw; cases e; rw [hl] at q1; cases q1; exact .lst upd_same (ne_sys I1 g hl) (BrA.keep k2 _ _ q2)
      | k kvs => obtain ⟨_, _, e, q1, q2, _⟩ := hw; cases e; rw [hl] at q1; cases q1; exact dk_br upd_same q2.1 (BrA.keep k2 _ _ q2.2)
      | io m xs => obtain ⟨_, _, e, q1, q2, _⟩ := hw; cases e; rw [hl] at q1; cases q1; exact .lst upd_same (ne_sys I1 g hl) (BrA.keep k2 _ _ q2.1)
    have out : ∀ (i : Nat) (ys : Ow), ρ'[i]? = some (.ow ys) → σ[i]? ≠ some (some (.ref l)) := fun i ys e z => by
      obtain ⟨zs, e'⟩ := k.less i ys e
      obtain ⟨l', vs', h1, h2, _⟩ := r.getW e'
      rw [h1] at z; cases z
      rw [hn] at h2; cases h2
    have go : Go σ ρ ρ' H (upd H1 l (.frz o u)) := by
      refine ⟨fun a o' q n => ?_, k.less, fun a q => ?_⟩
      · rw [upd_ne (fun z => by rw [z, hn] at q; cases q)]; exact k.stay a o' q n
      · by_cases z : a = l
        · rw [z]; exact hn
        · rw [upd_ne z] at q; exact k.dom a q
    exact ⟨.ref l, _, I2, rv, fin (.ref l) _ (.d xs.fz) ρ' go (r'.fixOut hl ls h0 out) br q'⟩
theorem de_fix (g : Good X) {x : Str} (i : Nat) (hN : X.N[i]? = some x := by rfl) (hv : Vis X.env.scope x := by first | exact Or.inl rfl | exact Or.inr (Or.inl rfl) | exact Or.inr (Or.inr rfl))
    (hd : (x == ("__debug__" : Str)) = false := by decide) (hcd : (x == ("__classdict__" : Str)) = false := by decide) : PE X (.Name x pos) (tE L (dFix i)) := by
  constructor
  intro pins s σ H Q' I q
  obtain ⟨ρ, Q, r, ⟨xs, e, q⟩, fin⟩ := q
  obtain ⟨l, vs, hi, hl, hb, h0⟩ := r.getO e
  obtain ⟨o, I2⟩ := fix_inv I hl trivial
  obtain ⟨r2, b2⟩ := r.fixIn (o := o) e hi hl (ne_sys I g hl)
  refine (pe_var (pos := pos) hN hv hd hcd).run pins s σ _ Q' I2 ⟨.ref l, hi, fin _ _ (.d (.list xs)) _ ?_ r2 b2 q⟩
  refine ⟨fun a o' q n => ?_, fun j ys q => ?_, fun a q => ?_⟩
  · rw [upd_ne (fun z => n i _ e (by rw [z]; exact hi))]; exact q
  · by_cases hj : i = j
    · subst hj; rw [get_set, if_pos rfl] at q; split at q <;> cases q
    · rw [get_set, if_neg hj] at q; exact ⟨ys, q⟩
  · by_cases z : a = l
    · rw [z, upd_same] at q; cases q
    · rw [upd_ne z] at q; exact q
end

/-! operations by value -/
def NR (L : Lay) (H H' : Hp) (v : V) : S → Prop
  | .ow (.l xs) => ∃ l vs, v = .ref l ∧ H l = none ∧ H' l = some (.lst vs) ∧ BrA L.K H' vs xs
  | .ow (.k kvs) => ∃ l, ∃ vks : List (Key × V), v = .ref l ∧ H l = none ∧ H' l = some (.dK vks) ∧ kvs.map (·.1) = vks.map (·.1) ∧ BrA L.K H' (vks.map (·.2)) (kvs.map (·.2))
  | s => FR L H' v s
abbrev F2 := PyData → PyData → (S → Prop) → Prop
abbrev FN := List PyData → (S → Prop) → Prop
/-- a value read now: a firm one, or a list of one's own -/
def Bk (L : Lay) (H : Hp) (v : V) : PyData → Prop
  | .list xs => ∃ a vs, v = .ref a ∧ (H a = some (.lst vs) ∨ ∃ o, H a = some (.frz o (.lst vs))) ∧ BrA L.K H vs xs
  | x => Br L.K H v x
theorem Bk.of {L : Lay} {H : Hp} {v : V} {x : PyData} (h : Br L.K H v x) : Bk L H v x := by
  cases h with
  | lst h1 h2 h3 => exact ⟨_, _, rfl, .inr ⟨_, h1⟩, h3⟩
  | non => exact .non
  | bl b => exact .bl b
  | int i => exact .int i
  | str z => exact .str z
  | tup h1 h2 => exact .tup h1 h2
  | dct h1 h2 h3 => exact .dct h1 h2 h3
inductive BkA (L : Lay) (H : Hp) : List V → List PyData → Prop
  | nil : BkA L H [] []
  | cons {v : V} {vs : List V} {x : PyData} {xs : List PyData} : Bk L H v x → BkA L H vs xs → BkA L H (v :: vs) (x :: xs)
theorem BkA.of {L : Lay} {H : Hp} : ∀ {vs : List V} {xs : List PyData}, BrA L.K H vs xs → BkA L H vs xs
  | _, [], h => by cases h; exact .nil
  | _, _ :: _, h => by cases h with | cons h1 h2 => exact .cons (Bk.of h1) (BkA.of h2)
def rD (L : Lay) (f : F2) : R2 := fun v u H Q' => ∃ x y Q, Bk L H v x ∧ Bk L H u y ∧ f x y Q ∧ ∀ w H' s, Same H H' → NR L H H' w s → Q s → Q' w H'
def rN (L : Lay) (f : FN) : List V → Hp → VK → Prop := fun vs H Q' => ∃ xs Q, BkA L H vs xs ∧ f xs Q ∧ ∀ w H' s, Same H H' → NR L H H' w s → Q s → Q' w H'
section
variable {L : Lay} {H H' : Hp} {σ : L2.St} {ρ : En}
theorem NR.vr {Hs : Hp} {ρ0 : En} (r : Rel L H σ ρ) (k : Same H H') (g : Go σ ρ0 ρ Hs H) {v : V} {s : S} (h : NR L H H' v s) : VR L Hs H' v s := by
  cases s with
  | un => exact h
  | d x => exact h
  | ob t => exact h
  | ow o =>
    cases o with
    | l xs =>
      obtain ⟨l, vs, rfl, h1, h2, h3⟩ := h
      exact ⟨⟨l, vs, rfl, h2, h3, r.same.free h1⟩, fun l' e => by cases e; exact g.dom _ h1⟩
    | k kvs =>
      obtain ⟨l, vs, rfl, h1, h2, h3⟩ := h
      exact ⟨⟨l, vs, rfl, h2, h3, r.same.free h1⟩, fun l' e => by cases e; exact g.dom _ h1⟩
    | io m xs => exact h.elim
theorem VR.back {Hs H1 H2 : Hp} {ρ' : En} (g : Go σ ρ ρ' Hs H1) {v : V} {s : S} (h : VR L H1 H2 v s) : VR L Hs H2 v s := by
  cases s with
  | un => exact h
  | d x => exact h
  | ob t => exact h
  | ow xs => exact ⟨h.1, fun l e => g.dom _ (h.2 l e)⟩
end
def dOp (f : F2) (ta tb : TEd) : TEd := fun ρ Q => ta ρ fun s1 ρ1 => tb ρ1 fun s2 ρ2 => ∃ x y, s1 = .d x ∧ s2 = .d y ∧ f x y fun s => Q s ρ2
def dN (f : FN) (ta : TAd) : TEd := fun ρ Q => ta ρ fun ss ρ1 => ∃ xs, ss = xs.map S.d ∧ f xs fun s => Q s ρ1
section
variable {X : Cx} {L : Lay} {pos p : Pos} {e a b c : Expr} {es : List Expr} {t ta tb tc : TEd} {tas : TAd}
theorem tE_op {r : R2} {f : F2} (hr : ∀ v u H Q, rD L f v u H Q → r v u H Q) : ∀ σ H Q, tE L (dOp f ta tb) σ H Q → tOp r (tE L ta) (tE L tb) σ H Q := fun σ H Q' h => by
  obtain ⟨ρ, Q, r0, q, fin⟩ := h
  refine ⟨ρ, _, r0, q, fun v H1 s ρ1 k1 r1 hv q1 => ?_⟩
  refine ⟨ρ1, _, r1, q1, fun u H2 s2 ρ2 k2 r2 hu q2 => ?_⟩
  obtain ⟨x, y, rfl, rfl, q3⟩ := q2
  exact hr _ _ _ _ ⟨x, y, _, Bk.of (Br.keep (k2.keep r1) _ _ hv), Bk.of hu, q3, fun w H3 s3 sm nr q4 => fin w H3 s3 ρ2 ((k1.tr k2).tr (Go.sm sm)) (r2.go sm) (nr.vr r2 sm (k1.tr k2)) q4⟩
theorem de_op {op : Operator} {f : F2} (ho : OpR X (binaryOp op) (rD L f)) (ha : PE X a (tE L ta)) (hb : PE X b (tE L tb)) : PE X (.BinOp a op b pos) (tE L (dOp f ta tb)) :=
  (pe_op ho ha hb).less (tE_op fun _ _ _ _ q => q)
theorem de_cmp {op : CmpOp} {f : F2} (ho : OpR X (compareOp op) (rD L f)) (ha : PE X a (tE L ta)) (hb : PE X b (tE L tb)) (hm : behindInMarks op b = false) : PE X (.Compare a [op] [b] pos) (tE L (dOp f ta tb)) :=
  (pe_cmpR ho ha hb hm).less (tE_op fun _ _ _ _ q => q)
theorem de_ix {f : F2} (ho : IxR X (rD L f)) (ha : PE X a (tE L ta)) (hb : PE X b (tE L tb)) (hs : PlainIx b) : PE X (.Subscript a b pos) (tE L (dOp f ta tb)) :=
  (pe_ix ho ha hb hs).less (tE_op fun _ _ _ _ q => q)
/-- tests -/
def dB (t : TEd) : TTd := fun ρ Q => t ρ fun s ρ1 => ∃ b, s = .d (.bool b) ∧ Q b ρ1
theorem tT_of {t0 : TE} (h0 : ∀ σ H Q, tE L t σ H Q → t0 σ H Q) : ∀ σ H Q, tT L (dB t) σ H Q → tTest t0 σ H Q := fun σ H Q' h => by
  obtain ⟨ρ, Q, r0, q, fin⟩ := h
  refine h0 _ _ _ ⟨ρ, _, r0, q, fun v H1 s ρ1 k1 r1 hv q1 => ?_⟩
  obtain ⟨b, rfl, q2⟩ := q1
  have hv : Br L.K H1 v (.bool b) := hv
  cases hv
  exact ⟨b, rfl, fin b H1 ρ1 k1 r1 q2⟩
theorem dt_cmp {op : CmpOp} {f : F2} (ho : OpR X (compareOp op) (rD L f)) (ha : PE X a (tE L ta)) (hb : PE X b (tE L tb)) (hm : behindInMarks op b = false) : PT X (.Compare a [op] [b] pos) (tT L (dB (dOp f ta tb))) :=
  (pt_cmpR ho ha hb hm).less (tT_of (tE_op fun _ _ _ _ q => q))
theorem dt_val (h : PE X e (tE L t)) (he : ∀ whole, isTrue e X.env whole = (do let v ← whole; standAt e.pos; holding [v] (truthy v)) := by intro _; rfl) : PT X e (tT L (dB t)) :=
  (pt_val h he).less (tT_of fun _ _ _ q => q)
def dNot (t : TTd) : TTd := fun ρ Q => t ρ fun b ρ1 => Q (!b) ρ1
def dAnd (t u : TTd) : TTd := fun ρ Q => t ρ fun b ρ1 => if b = true then u ρ1 Q else Q false ρ1
def dOr (t u : TTd) : TTd := fun ρ Q => t ρ fun b ρ1 => if b = true then Q true ρ1 else u ρ1 Q
variable {tq tr : TTd} {rest : List Expr}
theorem dt_not (h : PT X a (tT L tq)) : PT X (.UnaryOp .Not a pos) (tT L (dNot tq)) := by
  refine (pt_not h).less fun σ H Q' h => ?_
  obtain ⟨ρ, Q, r0, q, fin⟩ := h
  exact ⟨ρ, _, r0, q, fun b H1 ρ1 k1 r1 q1 => fin (!b) H1 ρ1 k1 r1 q1⟩
theorem dw_and1 (h : PT X a (tT L tq)) : PW X (.BoolOp .And [a] pos) (tT L tq) := pw_and1 h
theorem dw_or1 (h : PT X a (tT L tq)) : PW X (.BoolOp .Or [a] pos) (tT L tq) := pw_or1 h
theorem dw_and (h : PT X a (tT L tq)) (h2 : PW X (.BoolOp .And (b :: rest) pos) (tT L tr)) : PW X (.BoolOp .And (a :: b :: rest) pos) (tT L (dAnd tq tr)) := by
  refine (pw_and h h2).less fun σ H Q' h => ?_
  obtain ⟨ρ, Q, r0, q, fin⟩ := h
  refine ⟨ρ, _, r0, q, fun b H1 ρ1 k1 r1 q1 => ?_⟩
  cases b with
  | true => exact ⟨ρ1, _, r1, by simpa using q1, fun b H2 ρ2 k2 r2 q2 => fin b H2 ρ2 (k1.tr k2) r2 q2⟩
  | false => exact fin false H1 ρ1 k1 r1 (by simpa using q1)
theorem dw_or (h : PT X a (tT L tq)) (h2 : PW X (.BoolOp .Or (b :: rest) pos) (tT L tr)) : PW X (.BoolOp .Or (a :: b :: rest) pos) (tT L (dOr tq tr)) := by
  refine (pw_or h h2).less fun σ H Q' h => ?_
  obtain ⟨ρ, Q, r0, q, fin⟩ := h
  refine ⟨ρ, _, r0, q, fun b H1 ρ1 k1 r1 q1 => ?_⟩
  cases b with
  | false => exact ⟨ρ1, _, r1, by simpa using q1, fun b H2 ρ2 k2 r2 q2 => fin b H2 ρ2 (k1.tr k2) r2 q2⟩
  | true => exact fin true H1 ρ1 k1 r1 (by simpa using q1)
/-- a test's outcome as a value -/
def dTV (t : TTd) : TEd := fun ρ Q => t ρ fun b ρ1 => Q (.d (.bool b)) ρ1
def dAndV (ta tb : TEd) : TEd := fun ρ Q => ta ρ fun s ρ1 => ∃ b, s = .d (.bool b) ∧ if b = true then tb ρ1 Q else Q (.d (.bool false)) ρ1
def dOrV (ta tb : TEd) : TEd := fun ρ Q => ta ρ fun s ρ1 => ∃ b, s = .d (.bool b) ∧ if b = true then Q (.d (.bool true)) ρ1 else tb ρ1 Q
def dNotV (ta : TEd) : TEd := fun ρ Q => ta ρ fun s ρ1 => ∃ b, s = .d (.bool b) ∧ Q (.d (.bool (!b))) ρ1
theorem de_one {op} (h : PE X a (tE L t)) : PE X (.BoolOp op [a] pos) (tE L t) := pe_one h
theorem de_and (h : PE X a (tE L ta)) (h2 : PE X (.BoolOp .And (b :: rest) pos) (tE L tb)) : PE X (.BoolOp .And (a :: b :: rest) pos) (tE L (dAndV ta tb)) := by
  refine (pe_and h h2).less fun σ H Q' h => ?_
  obtain ⟨ρ, Q, r0, q, fin⟩ := h
  refine ⟨ρ, _, r0, q, fun v H1 s ρ1 k1 r1 hv q1 => ?_⟩
  obtain ⟨b, rfl, q2⟩ := q1
  have hv : Br L.K H1 v (.bool b) := hv
  cases hv
  refine ⟨b, rfl, ?_⟩
  cases b with
  | true => exact ⟨ρ1, _, r1, by simpa using q2, fun v H2 s ρ2 k2 r2 hv q3 => fin v H2 s ρ2 (k1.tr k2) r2 (hv.back k1) q3⟩
  | false => exact fin _ H1 (.d (.bool false)) ρ1 k1 r1 (.bl _) (by simpa using q2)
theorem de_or (h : PE X a (tE L ta)) (h2 : PE X (.BoolOp .Or (b :: rest) pos) (tE L tb)) : PE X (.BoolOp .Or (a :: b :: rest) pos) (tE L (dOrV ta tb)) := by
  refine (pe_or h h2).less fun σ H Q' h => ?_
  obtain ⟨ρ, Q, r0, q, fin⟩ := h
  refine ⟨ρ, _, r0, q, fun v H1 s ρ1 k1 r1 hv q1 => ?_⟩
  obtain ⟨b, rfl, q2⟩ := q1
  have hv : Br L.K H1 v (.bool b) := hv
  cases hv
  refine ⟨b, rfl, ?_⟩
  cases b with
  | false => exact ⟨ρ1, _, r1, by simpa using q2, fun v H2 s ρ2 k2 r2 hv q3 => fin v H2 s ρ2 (k1.tr k2) r2 (hv.back k1) q3⟩
  | true => exact fin _ H1 (.d (.bool true)) ρ1 k1 r1 (.bl _) (by simpa using q2)
theorem de_not (h : PE X a (tE L ta)) : PE X (.UnaryOp .Not a pos) (tE L (dNotV ta)) := by
  refine (pe_not h).less fun σ H Q' h => ?_
  obtain ⟨ρ, Q, r0, q, fin⟩ := h
  refine ⟨ρ, _, r0, q, fun v H1 s ρ1 k1 r1 hv q1 => ?_⟩
  obtain ⟨b, rfl, q2⟩ := q1
  have hv : Br L.K H1 v (.bool b) := hv
  cases hv
  exact ⟨b, rfl, fin _ H1 (.d (.bool (!b))) ρ1 k1 r1 (.bl _) q2⟩
def dIf (t : TTd) (ta tb : TEd) : TEd := fun ρ Q => t ρ fun b ρ1 => if b = true then ta ρ1 Q else tb ρ1 Q
theorem de_if (h : PT X c (tT L tq)) (ha : PE X a (tE L ta)) (hb : PE X b (tE L tb)) : PE X (.IfExp c a b pos) (tE L (dIf tq ta tb)) := by
  refine (pe_ifExp h ha hb).less fun σ H Q' h => ?_
  obtain ⟨ρ, Q, r0, q, fin⟩ := h
  refine ⟨ρ, _, r0, q, fun b H1 ρ1 k1 r1 q1 => ?_⟩
  cases b with
  | true => exact ⟨ρ1, _, r1, by simpa using q1, fun v H2 s ρ2 k2 r2 hv q2 => fin v H2 s ρ2 (k1.tr k2) r2 (hv.back k1) q2⟩
  | false => exact ⟨ρ1, _, r1, by simpa using q1, fun v H2 s ρ2 k2 r2 hv q2 => fin v H2 s ρ2 (k1.tr k2) r2 (hv.back k1) q2⟩
/-! argument lists -/
def dNil : TAd := fun ρ Q => Q [] ρ
def dCons (t : TEd) (tr : TAd) : TAd := fun ρ Q => t ρ fun s ρ1 => s.firm ∧ tr ρ1 fun ss ρ2 => Q (s :: ss) ρ2
theorem fr_of {Hs H : Hp} {v : V} {s : S} (f : s.firm) (h : VR L Hs H v s) : FR L H v s := by
  cases s with
  | un => exact f.elim
  | d x => exact h
  | ow xs => exact f.elim
  | ob t => exact h
theorem da_nil : PA X [] (tA L dNil) := by
  refine pa_nil.less fun σ H Q' h => ?_
  obtain ⟨ρ, Q, r0, q, fin⟩ := h
  exact fin [] H [] ρ Go.rf r0 .nil q
theorem da_cons (h : PE X e (tE L t)) (hr : PA X es (tA L tas)) (hs : starEach (e :: es) X.env = (false, eval e X.env) :: starEach es X.env := by rfl) : PA X (e :: es) (tA L (dCons t tas)) := by
  refine (pa_cons h hr hs).less fun σ H Q' h => ?_
  obtain ⟨ρ, Q, r0, q, fin⟩ := h
  refine ⟨ρ, _, r0, q, fun v H1 s ρ1 k1 r1 hv q1 => ?_⟩
  obtain ⟨f, q2⟩ := q1
  refine ⟨ρ1, _, r1, q2, fun vs H2 ss ρ2 k2 r2 hvs q3 => ?_⟩
  exact fin (v :: vs) H2 (s :: ss) ρ2 (k1.tr k2) r2 (.cons ((fr_of f hv).keep (k2.keep r1)) hvs) q3
theorem frs_brA {H : Hp} {vs : List V} {xs : List PyData} (h : FRs L H vs (xs.map S.d)) : BrA L.K H vs xs := by
  induction xs generalizing vs with
  | nil => cases h; exact .nil
  | cons x xs ih => cases h with | cons h1 h2 => exact .cons h1 (ih h2)
/-- displays -/
def dTup (ta : TAd) : TEd := fun ρ Q => ta ρ fun ss ρ1 => ∃ xs, ss = xs.map S.d ∧ xs.length ≤ sizeLine ∧ Q (.d (.tuple xs)) ρ1
def dLst (ta : TAd) : TEd := fun ρ Q => ta ρ fun ss ρ1 => ∃ xs, ss = xs.map S.d ∧ xs.length ≤ sizeLine ∧ Q (.own xs) ρ1
theorem de_tup {x1} (h : PA X es (tA L tas)) : PE X (.Tuple es x1 pos) (tE L (dTup tas)) := by
  refine (pe_tup h).less fun σ H Q' h => ?_
  obtain ⟨ρ, Q, r0, q, fin⟩ := h
  refine ⟨ρ, _, r0, q, fun vs H1 ss ρ1 k1 r1 hv q1 => ?_⟩
  obtain ⟨xs, rfl, hz, q2⟩ := q1
  have hb := frs_brA hv
  refine ⟨by rw [hb.len]; exact hz, fun p hp => ?_⟩
  have sm := same_new (o := .tup vs) hp
  exact fin _ _ (.d (.tuple xs)) ρ1 (k1.tr (Go.sm sm)) (r1.go sm) (.tup (.of upd_same) (BrA.keep (keep_of_same sm) _ _ hb)) q2
theorem de_lst (h : PA X es (tA L tas)) : PE X (.List es pos) (tE L (dLst tas)) := by
  refine (pe_lst h).less fun σ H Q' h => ?_
  obtain ⟨ρ, Q, r0, q, fin⟩ := h
  refine ⟨ρ, _, r0, q, fun vs H1 ss ρ1 k1 r1 hv q1 => ?_⟩
  obtain ⟨xs, rfl, hz, q2⟩ := q1
  have hb := frs_brA hv
  refine ⟨by rw [hb.len]; exact hz, fun p hp => ?_⟩
  have sm := same_new (o := .lst vs) hp
  exact fin _ _ (.own xs) ρ1 (k1.tr (Go.sm sm)) (r1.go sm) (NR.vr (s := .own xs) r1 sm k1 ⟨p, vs, rfl, hp, upd_same, BrA.keep (keep_of_same sm) _ _ hb⟩) q2
/-- calls of built-in things -/
theorem tE_n {r : List V → Hp → VK → Prop} {f : FN} (hr : ∀ v H Q, rN L f v H Q → r v H Q) : ∀ σ H Q, tE L (dN f tas) σ H Q → tCB r (tA L tas) σ H Q := fun σ H Q' h => by
  obtain ⟨ρ, Q, r0, q, fin⟩ := h
  refine ⟨ρ, _, r0, q, fun vs H1 ss ρ1 k1 r1 hv q1 => ?_⟩
  obtain ⟨xs, rfl, q2⟩ := q1
  exact hr _ _ _ ⟨xs, _, BkA.of (frs_brA hv), q2, fun w H2 s sm nr q3 => fin w H2 s ρ1 (k1.tr (Go.sm sm)) (r1.go sm) (nr.vr r1 sm k1) q3⟩
theorem de_callB {x : Str} {id : String} {f : FN} (hc : CallR X (.builtin id) (rN L f)) (hg : Gl X x) (hm : X.mg x = none) (hv : bootBuiltins x = some (.builtin id)) (ha : PA X (e :: es) (tA L tas)) (hn : x ≠ "__name__" := by decide)
    (hdb : (x == ("__debug__" : Str)) = false := by decide) (he : starEach (e :: es) X.env = (false, eval e X.env) :: starEach es X.env := by rfl) (hpl : (backTo pos (starEach es X.env)).any (·.1) = false := by rfl) :
    PE X (.Call (.Name x p) (e :: es) [] pos) (tE L (dN f tas)) := (pe_callB hc hg hm hv ha hn hdb he hpl).less (tE_n fun _ _ _ q => q)
theorem de_callT {x : Str} {T : String} {f : FN} (hc : CallR X (.type T) (rN L f)) (hg : Gl X x) (hm : X.mg x = none) (hv : bootBuiltins x = some (.type T)) (ha : PA X (e :: es) (tA L tas)) (hn : x ≠ "__name__" := by decide)
    (hdb : (x == ("__debug__" : Str)) = false := by decide) (he : starEach (e :: es) X.env = (false, eval e X.env) :: starEach es X.env := by rfl) (hpl : (backTo pos (starEach es X.env)).any (·.1) = false := by rfl) :
    PE X (.Call (.Name x p) (e :: es) [] pos) (tE L (dN f tas)) := (pe_callTy hc hg hm hv ha hn hdb he hpl).less (tE_n fun _ _ _ q => q)
/-! with lists of one's own, read in place -/
theorem pk_own {H : Hp} {σ : L2.St} {ρ : En} (r : Rel L H σ ρ) {i : Nat} {xs : List PyData} (h : ρ[i]? = some (.own xs)) : ∃ v, σ[i]? = some (some v) ∧ Bk L H v (.list xs) := by
  obtain ⟨l, vs, h1, h2, h3, _⟩ := r.getO h
  exact ⟨_, h1, l, vs, rfl, .inl h2, h3⟩
def dOpL (i : Nat) (f : F2) (tb : TEd) : TEd := fun ρ Q => (∃ ys, ρ[i]? = some (.own ys)) ∧ tb ρ fun s2 ρ2 => ∃ xs y, ρ2[i]? = some (.own xs) ∧ s2 = .d y ∧ f (.list xs) y fun s => Q s ρ2
def dOpR (f : F2) (ta : TEd) (i : Nat) : TEd := fun ρ Q => ta ρ fun s1 ρ1 => ∃ x ys, s1 = .d x ∧ ρ1[i]? = some (.own ys) ∧ f x (.list ys) fun s => Q s ρ1
def dN1 (f : FN) (i : Nat) : TEd := fun ρ Q => ∃ xs, ρ[i]? = some (.own xs) ∧ f [.list xs] fun s => Q s ρ
theorem tE_opL {r : R2} {f : F2} {i : Nat} (hr : ∀ v u H Q, rD L f v u H Q → r v u H Q) : ∀ σ H Q, tE L (dOpL i f tb) σ H Q → tOp r (tVar i) (tE L tb) σ H Q := fun σ H Q' h => by
  obtain ⟨ρ, Q, r0, ⟨⟨ys, ey⟩, q⟩, fin⟩ := h
  obtain ⟨l, vs, h1, _⟩ := r0.getO ey
  refine ⟨_, h1, ρ, _, r0, q, fun u H2 s2 ρ2 k2 r2 hu q2 => ?_⟩
  obtain ⟨xs, y, ex, rfl, q3⟩ := q2
  obtain ⟨v, h2, hv⟩ := pk_own r2 ex
  rw [h1] at h2; cases h2
  exact hr _ _ _ _ ⟨.list xs, y, _, hv, Bk.of hu, q3, fun w H3 s3 sm nr q4 => fin w H3 s3 ρ2 (k2.tr (Go.sm sm)) (r2.go sm) (nr.vr r2 sm k2) q4⟩
theorem tE_opR {r : R2} {f : F2} {i : Nat} (hr : ∀ v u H Q, rD L f v u H Q → r v u H Q) : ∀ σ H Q, tE L (dOpR f ta i) σ H Q → tOp r (tE L ta) (tVar i) σ H Q := fun σ H Q' h => by
  obtain ⟨ρ, Q, r0, q, fin⟩ := h
  refine ⟨ρ, _, r0, q, fun v H1 s ρ1 k1 r1 hv q1 => ?_⟩
  obtain ⟨x, ys, rfl, ey, q3⟩ := q1
  obtain ⟨u, h2, hu⟩ := pk_own r1 ey
  exact ⟨u, h2, hr _ _ _ _ ⟨x, .list ys, _, Bk.of hv, hu, q3, fun w H3 s3 sm nr q4 => fin w H3 s3 ρ1 (k1.tr (Go.sm sm)) (r1.go sm) (nr.vr r1 sm k1) q4⟩⟩
theorem tE_n1 {r : List V → Hp → VK → Prop} {f : FN} {i : Nat} (hr : ∀ v H Q, rN L f v H Q → r v H Q) : ∀ σ H Q, tE L (dN1 f i) σ H Q → tCB r (tCons (tVar i) tNil) σ H Q := fun σ H Q' h => by
  obtain ⟨ρ, Q, r0, ⟨xs, ex, q⟩, fin⟩ := h
  obtain ⟨v, h1, hv⟩ := pk_own r0 ex
  exact ⟨v, h1, hr _ _ _ ⟨[.list xs], _, .cons hv .nil, q, fun w H2 s sm nr q3 => fin w H2 s ρ (Go.sm sm) (r0.go sm) (nr.vr r0 sm Go.rf) q3⟩⟩
section
variable {px : Pos} {x y : Str} {i : Nat} {op : Operator} {cop : CmpOp} {f : F2} {fn : FN}
theorem de_opL (ho : OpR X (binaryOp op) (rD L f)) (hx : PE X a (tVar i)) (hb : PE X b (tE L tb)) : PE X (.BinOp a op b pos) (tE L (dOpL i f tb)) := (pe_op ho hx hb).less (tE_opL fun _ _ _ _ q => q)
theorem de_opR (ho : OpR X (binaryOp op) (rD L f)) (ha : PE X a (tE L ta)) (hx : PE X b (tVar i)) : PE X (.BinOp a op b pos) (tE L (dOpR f ta i)) := (pe_op ho ha hx).less (tE_opR fun _ _ _ _ q => q)
theorem de_cmpL (ho : OpR X (compareOp cop) (rD L f)) (hx : PE X a (tVar i)) (hb : PE X b (tE L tb)) (hm : behindInMarks cop b = false) : PE X (.Compare a [cop] [b] pos) (tE L (dOpL i f tb)) := (pe_cmpR ho hx hb hm).less (tE_opL fun _ _ _ _ q => q)
theorem de_cmpR (ho : OpR X (compareOp cop) (rD L f)) (ha : PE X a (tE L ta)) (hx : PE X b (tVar i)) (hm : behindInMarks cop b = false) : PE X (.Compare a [cop] [b] pos) (tE L (dOpR f ta i)) := (pe_cmpR ho ha hx hm).less (tE_opR fun _ _ _ _ q => q)
theorem dt_cmpL (ho : OpR X (compareOp cop) (rD L f)) (hx : PE X a (tVar i)) (hb : PE X b (tE L tb)) (hm : behindInMarks cop b = false) : PT X (.Compare a [cop] [b] pos) (tT L (dB (dOpL i f tb))) := (pt_cmpR ho hx hb hm).less (tT_of (tE_opL fun _ _ _ _ q => q))
theorem dt_cmpR (ho : OpR X (compareOp cop) (rD L f)) (ha : PE X a (tE L ta)) (hx : PE X b (tVar i)) (hm : behindInMarks cop b = false) : PT X (.Compare a [cop] [b] pos) (tT L (dB (dOpR f ta i))) := (pt_cmpR ho ha hx hm).less (tT_of (tE_opR fun _ _ _ _ q => q))
theorem de_ixL (ho : IxR X (rD L f)) (hx : PE X a (tVar i)) (hb : PE X b (tE L tb)) (hs : PlainIx b) : PE X (.Subscript a b pos) (tE L (dOpL i f tb)) := (pe_ix ho hx hb hs).less (tE_opL fun _ _ _ _ q => q)
theorem de_callB1 {id : String} (hc : CallR X (.builtin id) (rN L fn)) (hg : Gl X x) (hm : X.mg x = none) (hv : bootBuiltins x = some (.builtin id)) (hx : PE X a (tVar i)) (hn : x ≠ "__name__" := by decide) (hdb : (x == ("__debug__" : Str)) = false := by decide)
    (h1 : starEach (a :: []) X.env = (false, eval a X.env) :: starEach [] X.env := by rfl) (he : starEach (a :: []) X.env = (false, eval a X.env) :: starEach [] X.env := by rfl) (hpl : (backTo pos (starEach [] X.env)).any (·.1) = false := by rfl) :
    PE X (.Call (.Name x p) [a] [] pos) (tE L (dN1 fn i)) := (pe_callB hc hg hm hv (pa_cons hx pa_nil h1) hn hdb he hpl).less (tE_n1 fun _ _ _ q => q)
theorem de_callT1 {T : String} (hc : CallR X (.type T) (rN L fn)) (hg : Gl X x) (hm : X.mg x = none) (hv : bootBuiltins x = some (.type T)) (hx : PE X a (tVar i)) (hn : x ≠ "__name__" := by decide) (hdb : (x == ("__debug__" : Str)) = false := by decide)
    (h1 : starEach (a :: []) X.env = (false, eval a X.env) :: starEach [] X.env := by rfl) (he : starEach (a :: []) X.env = (false, eval a X.env) :: starEach [] X.env := by rfl) (hpl : (backTo pos (starEach [] X.env)).any (·.1) = false := by rfl) :
    PE X (.Call (.Name x p) [a] [] pos) (tE L (dN1 fn i)) := (pe_callTy hc hg hm hv (pa_cons hx pa_nil h1) hn hdb he hpl).less (tE_n1 fun _ _ _ q => q)
end
end
end GB

namespace GB
open PySem PySem.Spec PyProof.Rows L2 HT

/-! rows times numbers -/
theorem tmul_same (l : Addr) (items : Array Value) (n : Nat) (dd : Option Addr) (sl : Array (Option Value)) (x : Int) (u : Tok) (c0 : (decide (x < -(2 ^ 63)) || decide (x ≥ 2 ^ 63)) = false) (c1 : (items.isEmpty || x == 1) = true) :
    Meets (Builtin.«tuple.__mul__» ⟨[.ref l, .int x u], []⟩) (fun _ R s => s.heap.get? l = some { cls := .type "tuple", dict := dd, data := .seq items n, slots := sl } ∧ R (.ok (.ret (Value.ref l))) s) :=
  .of_wp fun prog w A R s h => by
    obtain ⟨hp, g, d, tk, os⟩ := s
    obtain ⟨hl, h⟩ := h
    have f1 := AutoSeq1.idx_int
    wp_walk using wpAny_loadPart' hl
    refine wpAny_ite_false (decide_eq_false (by rw [c0]; exact Bool.false_ne_true)) ?_
    wp_walk using wpAny_loadPart' hl
    exact ⟨_, rfl, h⟩
theorem tmul_none (l : Addr) (items : Array Value) (n : Nat) (dd : Option Addr) (sl : Array (Option Value)) (x : Int) (u : Tok) (c0 : (decide (x < -(2 ^ 63)) || decide (x ≥ 2 ^ 63)) = false) (c1 : (items.isEmpty || x == 1) = false) (c2 : (decide (x ≤ 0) || items.isEmpty) = true) :
    Meets (Builtin.«tuple.__mul__» ⟨[.ref l, .int x u], []⟩) (fun _ R s => s.heap.get? l = some { cls := .type "tuple", dict := dd, data := .seq items n, slots := sl } ∧ R (.ok (.ret (Value.ref s.heap.objs.size))) { s with heap := s.heap.push { cls := Value.type "tuple", data := Data.seq #[] }, toks := s.toks }) :=
  .of_wp fun prog w A R s h => by
    obtain ⟨hp, g, d, tk, os⟩ := s
    obtain ⟨hl, h⟩ := h
    have f1 := AutoSeq1.idx_int
    wp_walk using wpAny_loadPart' hl
    refine wpAny_ite_false (decide_eq_false (by rw [c0]; exact Bool.false_ne_true)) ?_
    wp_walk using wpAny_loadPart' hl
    exact ⟨_, rfl, h⟩

/-! arithmetic -/
def fI2 (g : Int → Int → PyData) (c : Int → Int → Prop) : F2 := fun x y Q => ∃ i j, x = .int i ∧ y = .int j ∧ c i j ∧ Q (.d (g i j))
def fAdd : F2 := fun x y Q => match x, y with
  | .int i, .int j => Q (.d (.int (i + j)))
  | .str a, .str b => a.length + b.length ≤ sizeLine ∧ Q (.d (.str (a ++ b)))
  | .tuple xs, .tuple ys => xs.length + ys.length ≤ sizeLine ∧ Q (.d (.tuple (xs ++ ys)))
  | .list xs, .list ys => xs.length + ys.length ≤ sizeLine ∧ Q (.own (xs ++ ys))
  | _, _ => False
abbrev fSub : F2 := fI2 (fun i j => .int (i - j)) fun _ _ => True
abbrev fDiv : F2 := fI2 (fun i j => .int (i / j)) fun _ j => 0 < j ∧ j < 2 ^ 2000
abbrev fMod : F2 := fI2 (fun i j => .int (i % j)) fun _ j => 0 < j
abbrev fPow : F2 := fI2 (fun i j => .int (i ^ j.toNat)) CPow
/-- numbers of a million bits together; rows times small numbers -/
def fMul : F2 := fun x y Q => match x, y with
  | .int i, .int j => (CMul i j ∨ CMulW i j) ∧ Q (.d (.int (i * j)))
  | .tuple xs, .int k => -(2 ^ 62) < k ∧ k < 2 ^ 62 ∧ xs.length * k.toNat ≤ sizeLine ∧ Q (.d (.tuple (List.replicate k.toNat xs).flatten))
  | .list xs, .int k => -(2 ^ 62) < k ∧ k < 2 ^ 62 ∧ xs.length * k.toNat ≤ sizeLine ∧ Q (.own (List.replicate k.toNat xs).flatten)
  | _, _ => False
/-- what == is asked of: rows without dicts, and any two texts -/
def eqOk : PyData → PyData → Bool
  | .str _, .str _ => true
  | x, y => SeqAt.shaped x && SeqAt.shaped y
def fEq : F2 := fun x y Q => eqOk x y = true ∧ Q (.d (.bool (PyData.eqv x y)))
def fNe : F2 := fun x y Q => eqOk x y = true ∧ Q (.d (.bool (!PyData.eqv x y)))
theorem eqOk_cases {x y : PyData} (h : eqOk x y = true) : (∃ a b, x = .str a ∧ y = .str b) ∨ (SeqAt.shaped x = true ∧ SeqAt.shaped y = true) := by
  cases x <;> cases y <;> first
    | exact .inl ⟨_, _, rfl, rfl⟩
    | exact .inr (by simpa [eqOk] using h)
abbrev fLt : F2 := fI2 (fun i j => .bool (decide (i < j))) fun _ _ => True
abbrev fLe : F2 := fI2 (fun i j => .bool (decide (i ≤ j))) fun _ _ => True
abbrev fGt : F2 := fI2 (fun i j => .bool (decide (j < i))) fun _ _ => True
abbrev fGe : F2 := fI2 (fun i j => .bool (decide (j ≤ i))) fun _ _ => True
def isNon : PyData → Bool
  | .none => true
  | _ => false
def fIs : F2 := fun x y Q => y = .none ∧ Q (.d (.bool (isNon x)))
def fIsNot : F2 := fun x y Q => y = .none ∧ Q (.d (.bool (!isNon x)))
/-- x in c -/
def inD (x : PyData) (c : PyData) : Option Bool := match c with
  | .list xs => if SeqAt.shaped x = true ∧ SeqAt.shaped (.list xs) = true then some (xs.any fun z => PyData.eqv z x) else none
  | .tuple xs => if SeqAt.shaped x = true ∧ SeqAt.shaped (.tuple xs) = true then some (xs.any fun z => PyData.eqv z x) else none
  | _ => none
def fIn : F2 := fun x c Q => ∃ b, inD x c = some b ∧ Q (.d (.bool b))
def fNotIn : F2 := fun x c Q => ∃ b, inD x c = some b ∧ Q (.d (.bool (!b)))
def fIx : F2 := fun x y Q => ∃ i, y = .int i ∧ match x with
  | .list xs => ∃ v, atI xs i = some v ∧ Q (.d v)
  | .tuple xs => ∃ v, atI xs i = some v ∧ Q (.d v)
  | .str z => z.length ≤ sizeLine ∧ ∃ c, atI z.cps.toList i = some c ∧ Q (.d (.str ⟨#[c]⟩))
  | _ => False
def fLen : FN := fun xs Q => match xs with
  | [.list ys] => Q (.d (.int ys.length))
  | [.tuple ys] => Q (.d (.int ys.length))
  | [.str z] => z.length ≤ sizeLine ∧ Q (.d (.int z.length))
  | _ => False
def fAbs : FN := fun xs Q => ∃ i, xs = [.int i] ∧ Q (.d (.int i.natAbs))
def fInt : FN := fun xs Q => match xs with
  | [.int i] => Q (.d (.int i))
  | [.bool b] => Q (.d (.int (if b then 1 else 0)))
  | _ => False
def fTuple : FN := fun xs Q => match xs with
  | [.list ys] => Q (.d (.tuple ys))
  | [.tuple ys] => Q (.d (.tuple ys))
  | _ => False
def fList : FN := fun xs Q => match xs with
  | [.list ys] => Q (.own ys)
  | [.tuple ys] => Q (.own ys)
  | _ => False
def fRepr : FN := fun xs Q => ∃ x, xs = [x] ∧ x.showable = true ∧ x.shown.length ≤ sizeLine ∧ x.depth ≤ 60 ∧ Q (.d (.str x.shown))
section
variable {X : Cx} {L : Lay}
theorem nr_d {H : Hp} {v : V} {x : PyData} (h : Br L.K H v x) : NR L H H v (.d x) := h
theorem op2_int {g : Value → Value → Sem Value} {gi : Int → Int → V} {gd : Int → Int → PyData} {c : Int → Int → Prop} {r : R2} (h : OpR X g r) (hr : ∀ v u H Q, (∃ i j, v = .int i ∧ u = .int j ∧ c i j ∧ Q (gi i j) H) → r v u H Q) (hb : ∀ H i j, Br L.K H (gi i j) (gd i j)) :
    OpR X g (rD L (fI2 gd c)) := by
  intro pins s σ H x y v u Q' I rx ry q
  obtain ⟨dx, dy, Q, bx, by_, ⟨i, j, rfl, rfl, hc, q⟩, fin⟩ := q
  have bx : Br L.K H x (.int i) := bx
  have by_ : Br L.K H y (.int j) := by_
  cases bx
  cases by_
  exact h pins s σ H _ _ v u Q' I rx ry (hr _ _ _ _ ⟨i, j, rfl, rfl, hc, fin _ H _ (Same.refl H) (nr_d (hb H i j)) q⟩)
theorem o_sub : OpR X (binaryOp .Sub) (rD L fSub) := op2_int op_sub (fun _ _ _ _ ⟨i, j, e1, e2, _, q⟩ => ⟨i, j, e1, e2, q⟩) fun _ _ _ => .int _
theorem o_mod : OpR X (binaryOp .Mod) (rD L fMod) := op2_int op_mod (fun _ _ _ _ h => h) fun _ _ _ => .int _
theorem o_div : OpR X (binaryOp .FloorDiv) (rD L fDiv) := op2_int op_fdivW (fun _ _ _ _ ⟨i, j, e1, e2, ⟨h1, h2⟩, q⟩ => ⟨i, j, e1, e2, wide_div (b := 2000) h1 (by omega) (by decide) (by decide), q⟩) fun _ _ _ => .int _
theorem o_pow : OpR X (binaryOp .Pow) (rD L fPow) := op2_int op_pow (fun _ _ _ _ h => h) fun _ _ _ => .int _
theorem o_lt : OpR X (compareOp .Lt) (rD L fLt) := op2_int op_lt (fun _ _ _ _ ⟨i, j, e1, e2, _, q⟩ => ⟨i, j, e1, e2, q⟩) fun _ _ _ => .bl _
theorem o_le : OpR X (compareOp .LtE) (rD L fLe) := op2_int op_le (fun _ _ _ _ ⟨i, j, e1, e2, _, q⟩ => ⟨i, j, e1, e2, q⟩) fun _ _ _ => .bl _
theorem o_gt : OpR X (compareOp .Gt) (rD L fGt) := op2_int op_gt (fun _ _ _ _ ⟨i, j, e1, e2, _, q⟩ => ⟨i, j, e1, e2, q⟩) fun _ _ _ => .bl _
theorem o_ge : OpR X (compareOp .GtE) (rD L fGe) := op2_int op_ge (fun _ _ _ _ ⟨i, j, e1, e2, _, q⟩ => ⟨i, j, e1, e2, q⟩) fun _ _ _ => .bl _
theorem isNon_v {H : Hp} {v : V} {x : PyData} (h : Bk L H v x) : decide (v = .non) = isNon x := by
  cases x with
  | list xs => obtain ⟨a, vs, rfl, _⟩ := h; rfl
  | _ => (have h : Br L.K H v _ := h; cases h <;> rfl)
theorem o_is : OpR X (compareOp .Is) (rD L fIs) := by
  intro pins s σ H x y v u Q' I rx ry q
  obtain ⟨dx, dy, Q, bx, by_, ⟨rfl, q⟩, fin⟩ := q
  have by_ : Br L.K H y .none := by_
  cases by_
  refine op_isN pins s σ H _ _ v u Q' I rx ry ⟨rfl, ?_⟩
  rw [isNon_v bx]
  exact fin _ H _ (Same.refl H) (nr_d (.bl _)) q
theorem o_isnot : OpR X (compareOp .IsNot) (rD L fIsNot) := by
  intro pins s σ H x y v u Q' I rx ry q
  obtain ⟨dx, dy, Q, bx, by_, ⟨rfl, q⟩, fin⟩ := q
  have by_ : Br L.K H y .none := by_
  cases by_
  refine op_notN pins s σ H _ _ v u Q' I rx ry ⟨rfl, ?_⟩
  rw [isNon_v bx]
  exact fin _ H _ (Same.refl H) (nr_d (.bl _)) q
variable (hK : L.K = X.K)
include hK
theorem Bk.reads {pins : List (Addr × Obj)} {s : Shared} {σ : L2.St} {H : Hp} (I : Inv X pins σ H s) {v : V} {u : Value} {d : PyData} (h : Bk L H v d) (r : RelV v u) : ∃ as, Reads s.heap u d as := by
  cases d with
  | list xs =>
    obtain ⟨a, vs, rfl, h1, h2⟩ := h
    have sq : SqL X.K H a vs := by
      rcases h1 with h1 | ⟨o, h1⟩
      · exact .inl (.inl h1)
      · exact .inl (.inr ⟨o, h1⟩)
    obtain ⟨its, rv, ⟨o, n, ho, hc, _, hd⟩, _⟩ := I.list sq
    cases r
    rw [hK] at h2
    obtain ⟨as, q1, q2⟩ := BrA.reads I xs _ its h2 rv
    exact ⟨_, .list ho hc hd q1⟩
  | _ =>
    (have h : Br L.K H v _ := h
     rw [hK] at h
     obtain ⟨as, q, _⟩ := Br.reads I _ v u h r
     exact ⟨as, q⟩)
theorem o_eq (g : Good X) : OpR X (compareOp .Eq) (rD L fEq) := by
  intro pins s σ H x y v u Q' I rx ry q
  obtain ⟨dx, dy, Q, bx, by_, ⟨s0, q⟩, fin⟩ := q
  rcases eqOk_cases s0 with ⟨a, b, rfl, rfl⟩ | ⟨s1, s2⟩
  · have bx : Br L.K H x (.str a) := bx
    have by_ : Br L.K H y (.str b) := by_
    cases bx; cases by_
    refine op_eq pins s σ H _ _ v u Q' I rx ry ⟨rfl, fin _ H (.d (.bool _)) (Same.refl H) (nr_d (.bl _)) ?_⟩
    have e : decide (V.str a = V.str b) = PyData.eqv (.str a) (.str b) := by
      by_cases h : a = b
      · subst h; simp [PyData.eqv]
      · simp [PyData.eqv, h]
    rw [e]; exact q
  obtain ⟨as, r1⟩ := Bk.reads hK I bx rx
  obtain ⟨bs, r2⟩ := Bk.reads hK I by_ ry
  exact eq_dataH r1 r2 s1 s2 (by have := g.un; omega) ⟨.bl _, H, I, rfl, fin _ H _ (Same.refl H) (nr_d (.bl _)) q⟩
theorem o_ne (g : Good X) : OpR X (compareOp .NotEq) (rD L fNe) := by
  intro pins s σ H x y v u Q' I rx ry q
  obtain ⟨dx, dy, Q, bx, by_, ⟨s0, q⟩, fin⟩ := q
  rcases eqOk_cases s0 with ⟨a, b, rfl, rfl⟩ | ⟨s1, s2⟩
  · have bx : Br L.K H x (.str a) := bx
    have by_ : Br L.K H y (.str b) := by_
    cases bx; cases by_
    refine op_ne pins s σ H _ _ v u Q' I rx ry ⟨rfl, fin _ H (.d (.bool _)) (Same.refl H) (nr_d (.bl _)) ?_⟩
    have e : decide (V.str a = V.str b) = PyData.eqv (.str a) (.str b) := by
      by_cases h : a = b
      · subst h; simp [PyData.eqv]
      · simp [PyData.eqv, h]
    rw [e]; exact q
  obtain ⟨as, r1⟩ := Bk.reads hK I bx rx
  obtain ⟨bs, r2⟩ := Bk.reads hK I by_ ry
  exact ne_dataH r1 r2 s1 s2 (by have := g.un; omega) ⟨.bl _, H, I, rfl, fin _ H _ (Same.refl H) (nr_d (.bl _)) q⟩
theorem lay_list {xs : List PyData} (h : SeqAt.shaped (.list xs) = true) : PyData.canLayAll0 xs = true := SeqAt.canLay_of_shaped h
theorem lay_tup {xs : List PyData} (h : SeqAt.shaped (.tuple xs) = true) : PyData.canLayAll0 xs = true := SeqAt.canLay_of_shaped h
theorem in_run (g : Good X) {pins : List (Addr × Obj)} {s : Shared} {σ : L2.St} {H : Hp} {x y : V} {v u : Value} {dx dy : PyData} {b : Bool} (I : Inv X pins σ H s) (rx : RelV x v) (ry : RelV y u) (bx : Bk L H x dx) (by_ : Bk L H y dy) (e : inD dx dy = some b)
    {E Q : Value → Shared → Prop} : (Q (.bool b) s → wpAny (model X.prog X.w) X.A (compareOp .In v u) Q E s) ∧ (Q (.bool (!b)) s → wpAny (model X.prog X.w) X.A (compareOp .NotIn v u) Q E s) := by
  obtain ⟨as, r1⟩ := Bk.reads hK I bx rx
  obtain ⟨bs, r2⟩ := Bk.reads hK I by_ ry
  cases dy with
  | list xs =>
    unfold inD at e
    simp only at e
    split at e
    · rename_i h
      cases e
      have hr := room_in_shaped (A := X.A) (xs := xs) h.1 (by have := g.un; omega)
      exact ⟨fun q => SeqAt.in_list_reads r2 r1 (SeqAt.canLay_of_shaped h.2) (SeqAt.canLay_of_shaped h.1) hr q, fun q => SeqAt.notIn_list_reads r2 r1 (SeqAt.canLay_of_shaped h.2) (SeqAt.canLay_of_shaped h.1) hr q⟩
    · cases e
  | tuple xs =>
    unfold inD at e
    simp only at e
    split at e
    · rename_i h
      cases e
      have hr := room_in_shaped (A := X.A) (xs := xs) h.1 (by have := g.un; omega)
      exact ⟨fun q => SeqAt.in_tuple_reads r2 r1 (SeqAt.canLay_of_shaped h.2) (SeqAt.canLay_of_shaped h.1) hr q, fun q => SeqAt.notIn_tuple_reads r2 r1 (SeqAt.canLay_of_shaped h.2) (SeqAt.canLay_of_shaped h.1) hr q⟩
    · cases e
  | _ => cases e
theorem o_in (g : Good X) : OpR X (compareOp .In) (rD L fIn) := by
  intro pins s σ H x y v u Q' I rx ry q
  obtain ⟨dx, dy, Q, bx, by_, ⟨b, e, q⟩, fin⟩ := q
  exact (in_run hK g I rx ry bx by_ e).1 ⟨.bl _, H, I, rfl, fin _ H _ (Same.refl H) (nr_d (.bl _)) q⟩
theorem o_notin (g : Good X) : OpR X (compareOp .NotIn) (rD L fNotIn) := by
  intro pins s σ H x y v u Q' I rx ry q
  obtain ⟨dx, dy, Q, bx, by_, ⟨b, e, q⟩, fin⟩ := q
  exact (in_run hK g I rx ry bx by_ e).2 ⟨.bl _, H, I, rfl, fin _ H _ (Same.refl H) (nr_d (.bl _)) q⟩
/-- a firm list in the plain heap -/
theorem list_at {pins : List (Addr × Obj)} {s : Shared} {σ : L2.St} {H : Hp} (I : Inv X pins σ H s) {v : V} {ds : List PyData} (b : Bk L H v (.list ds)) :
    ∃ a vs its n, v = .ref a ∧ BrA L.K H vs ds ∧ Vals vs its ∧ s.heap.get? a = some { cls := .type "list", data := .seq its.toArray n } ∧ vs.length ≤ sizeLine := by
  obtain ⟨a, vs, rfl, h1, h3⟩ := b
  rcases h1 with h1 | ⟨o, h1⟩
  · obtain ⟨hz, its, n, r, e⟩ := I.hok _ _ h1
    exact ⟨_, _, its, n, rfl, h3, r, e, hz⟩
  · obtain ⟨_, hz, its, n, r, e⟩ := I.hok _ _ h1
    exact ⟨_, _, its, n, rfl, h3, r, e, hz⟩
theorem Bk.readsN (g : Good X) {pins : List (Addr × Obj)} {s : Shared} {σ : L2.St} {H : Hp} (I : Inv X pins σ H s) {v : V} {u : Value} {d : PyData} (h : Bk L H v d) (r : RelV v u) : ∃ as, Reads s.heap u d as ∧ sysModules ∉ as := by
  cases d with
  | list xs =>
    obtain ⟨a, vs, rfl, h1, h2⟩ := h
    have ⟨sq, ns⟩ : SqL X.K H a vs ∧ (a == sysModules) = false := by
      rcases h1 with h1 | ⟨o, h1⟩
      · exact ⟨.inl (.inl h1), ne_sys I g h1⟩
      · exact ⟨.inl (.inr ⟨o, h1⟩), ne_sys I g h1⟩
    obtain ⟨its, rv, ⟨o, n, ho, hc, _, hd⟩, _⟩ := I.list sq
    cases r
    rw [hK] at h2
    obtain ⟨as, q1, q2⟩ := BrA.reads I xs _ its h2 rv
    exact ⟨_, .list ho hc hd q1, not_sys ns q2⟩
  | _ =>
    (have h : Br L.K H v _ := h
     rw [hK] at h
     exact Br.reads I _ v u h r)
theorem list_sq {H : Hp} {v : V} {ds : List PyData} (b : Bk L H v (.list ds)) : ∃ a vs, v = .ref a ∧ SqL X.K H a vs ∧ BrA L.K H vs ds := by
  obtain ⟨a, vs, rfl, h1, h3⟩ := b
  rcases h1 with h1 | ⟨o, h1⟩
  · exact ⟨a, vs, rfl, .inl (.inl h1), h3⟩
  · exact ⟨a, vs, rfl, .inl (.inr ⟨o, h1⟩), h3⟩
theorem o_add : OpR X (binaryOp .Add) (rD L fAdd) := by
  intro pins s σ H x y v u Q' I rx ry q
  obtain ⟨dx, dy, Q, bx, by_, q, fin⟩ := q
  unfold fAdd at q
  split at q
  · rename_i i j
    have bx : Br L.K H x (.int i) := bx
    have by_ : Br L.K H y (.int j) := by_
    cases bx; cases by_
    exact op_add pins s σ H _ _ v u Q' I rx ry ⟨_, _, rfl, rfl, fin _ H _ (Same.refl H) (nr_d (.int _)) q⟩
  · rename_i i j
    have bx : Br L.K H x (.str i) := bx
    have by_ : Br L.K H y (.str j) := by_
    cases bx; cases by_
    exact op_add_str pins s σ H _ _ v u Q' I rx ry ⟨_, _, rfl, rfl, q.1, fin _ H _ (Same.refl H) (nr_d (.str _)) q.2⟩
  · rename_i xs ys
    have bx : Br L.K H x (.tuple xs) := bx
    have by_ : Br L.K H y (.tuple ys) := by_
    cases bx with
    | tup h1 h2 =>
      cases by_ with
      | tup h3 h4 =>
        rw [hK] at h1 h3
        refine op_catA pins s σ H _ _ v u Q' I rx ry ⟨_, _, _, _, rfl, rfl, h1, h3, by rw [h2.len, h4.len]; exact q.1, fun e => ?_, fun e1 e2 => ?_, fun _ _ p hp => ?_⟩
        · have ex : xs = [] := by have := h2.len; rw [e] at this; exact List.length_eq_zero_iff.mp this.symm
          subst ex
          exact fin _ H _ (Same.refl H) (nr_d (.tup (by rw [hK]; exact h3) h4)) (by simpa using q.2)
        · have ex : ys = [] := by have := h4.len; rw [e2] at this; exact List.length_eq_zero_iff.mp this.symm
          subst ex
          exact fin _ H _ (Same.refl H) (nr_d (.tup (by rw [hK]; exact h1) h2)) (by simpa using q.2)
        · exact fin _ _ (.d _) (same_new hp) (.tup (.of upd_same) (BrA.keep (keep_of_same (same_new hp)) _ _ (h2.app h4))) q.2
  · rename_i xs ys
    obtain ⟨a, vs, its, n, rfl, b1, r1, e1, z1⟩ := list_at hK I bx
    obtain ⟨b, ws, its2, n2, rfl, b2, r2, e2, z2⟩ := list_at hK I by_
    cases rx; cases ry
    have l1 := r1.length
    have l2 := r2.length
    have hz : vs.length + ws.length ≤ sizeLine := by rw [b1.len, b2.len]; exact q.1
    refine PySem.P.add_list e1 e2 ?_ (by rw [List.size_toArray, List.size_toArray]; omega)
    rw [List.append_toArray]
    have sm := same_new (o := .lst (vs ++ ws)) I.fresh
    exact ⟨.ref _, _, I.lnew (t' := s.toks) (r1.append r2) (by rw [List.length_append]; exact hz), rfl, fin _ _ (.own _) sm ⟨_, _, rfl, I.fresh, upd_same, BrA.keep (keep_of_same sm) _ _ (b1.app b2)⟩ q.2⟩
  · exact q.elim
theorem o_mul : OpR X (binaryOp .Mult) (rD L fMul) := by
  intro pins s σ H x y v u Q' I rx ry q
  obtain ⟨dx, dy, Q, bx, by_, q, fin⟩ := q
  unfold fMul at q
  split at q
  · rename_i i j
    have bx : Br L.K H x (.int i) := bx
    have by_ : Br L.K H y (.int j) := by_
    cases bx; cases by_
    rcases q.1 with hc | hc
    · exact op_mul pins s σ H _ _ v u Q' I rx ry ⟨_, _, rfl, rfl, hc, fin _ H _ (Same.refl H) (nr_d (.int _)) q.2⟩
    · exact op_mulW pins s σ H _ _ v u Q' I rx ry ⟨_, _, rfl, rfl, hc, fin _ H _ (Same.refl H) (nr_d (.int _)) q.2⟩
  · rename_i xs k
    obtain ⟨hk1, hk2, hk3, q⟩ : -(2 ^ 62) < k ∧ k < 2 ^ 62 ∧ xs.length * k.toNat ≤ sizeLine ∧ Q (.d (.tuple (List.replicate k.toNat xs).flatten)) := q
    have bx : Br L.K H x (.tuple xs) := bx
    have by_ : Br L.K H y (.int k) := by_
    cases by_
    obtain ⟨t, rfl⟩ := ry
    cases bx with
    | tup h1 h2 =>
      rename_i l vs
      cases rx
      have h1' := h1
      rw [hK] at h1
      obtain ⟨its, r, ⟨⟨cls, dd, data, sl⟩, ho, hc, n, hd⟩, hs⟩ := I.tuple h1
      simp only at hc hd
      subst hc hd
      have hv := r.length
      have hx := h2.len
      have sz : its.toArray.size = xs.length := by rw [List.size_toArray]; omega
      have c0 : (decide (k < -(2 ^ 63)) || decide (k ≥ 2 ^ 63)) = false := by
        rw [decide_eq_false (by omega), decide_eq_false (by omega)]; rfl
      refine wpAny_binaryOp_repeat_ref (T := "tuple") (U := "int") (by decide) ⟨_, ho, rfl⟩ (fun s' => typeIs_int s' k t) noFill_tuple_mul F.fills_int_mul F.slot_int_rmul repeat_tuple F.slot_int_index.lookup
        (call_meets F.slot_int_rmul (typeIs_int s k t) F.entry_int_rmul (F.args_int_rmul_2 _ _) (int_rmul_tuple k t l its.toArray n dd sl) ⟨ho, rfl, ⟨_, ho, rfl⟩, ?_⟩)
      by_cases c1 : (its.toArray.isEmpty || k == 1) = true
      · refine call_meets F.slot_tuple_mul ⟨_, ho, rfl⟩ F.entry_tuple_mul (F.args_tuple_mul_2 _ _) (tmul_same l its.toArray n dd sl k t c0 c1) ⟨ho, ?_⟩
        have e : (List.replicate k.toNat xs).flatten = xs := by
          rcases Bool.or_eq_true_iff.mp c1 with z | z
          · have : xs = [] := by
              have : its.toArray.size = 0 := by simpa using z
              exact List.length_eq_zero_iff.mp (by omega)
            subst this; simp
          · have : k = 1 := by simpa using z
            subst this; simp
        rw [e] at q
        exact ⟨.ref l, H, I, rfl, fin _ H (.d (.tuple xs)) (Same.refl H) (nr_d (.tup h1' h2)) q⟩
      · have c1 : (its.toArray.isEmpty || k == 1) = false := by simpa using c1
        by_cases c2 : (decide (k ≤ 0) || its.toArray.isEmpty) = true
        · refine call_meets F.slot_tuple_mul ⟨_, ho, rfl⟩ F.entry_tuple_mul (F.args_tuple_mul_2 _ _) (tmul_none l its.toArray n dd sl k t c0 c1 c2) ⟨ho, ?_⟩
          have hk0 : k ≤ 0 := by
            rcases Bool.or_eq_true_iff.mp c2 with z | z
            · exact of_decide_eq_true z
            · rw [z, Bool.true_or] at c1; cases c1
          have e : (List.replicate k.toNat xs).flatten = [] := by
            have : k.toNat = 0 := by omega
            rw [this]; rfl
          rw [e] at q
          refine ⟨.ref s.heap.objs.size, _, I.laid (t' := s.toks) (o := .tup []) (fun b ob q => Heap.get?_push_of_some _ q) (Nat.le_refl _) ⟨Nat.zero_le _, [], .nil, IsTup.new _ _⟩, rfl, ?_⟩
          exact fin _ _ (.d (.tuple [])) (same_new I.fresh) (.tup (.of upd_same) .nil) q
        · have c2 : (decide (k ≤ 0) || its.toArray.isEmpty) = false := by simpa using c2
          have hk0 : 0 < k := by
            have := (Bool.or_eq_false_iff.mp c2).1
            have := of_decide_eq_false this
            omega
          have hm : ((its.toArray.size : Nat) : Int) * k = ((xs.length * k.toNat : Nat) : Int) := by
            rw [sz]; push_cast; rw [Int.toNat_of_nonneg (by omega)]
          have sl16 := sizeLine_eq
          have c4 : Builtin.Tuple.tupleTooMany (((its.toArray.size : Nat) : Int) * k) = false := by
            unfold Builtin.Tuple.tupleTooMany
            rw [hm]
            exact decide_eq_false (by omega)
          have lf : (List.replicate k.toNat its).flatten.length ≤ sizeLine := by
            rw [PyProof.Rows.lm_len_rep_flat, Nat.mul_comm, show its.length = xs.length by omega]; exact hk3
          refine call_meets F.slot_tuple_mul ⟨_, ho, rfl⟩ F.entry_tuple_mul (F.args_tuple_mul_2 _ _) (tuple_mulW l its.toArray n dd sl k t c0 c1 c2 (by rw [hm]; omega) c4 (by rw [size_rep, List.size_toArray]; exact lf)) ⟨ho, ?_⟩
          rw [size_rep]
          have lv : (List.replicate k.toNat vs).flatten.length ≤ sizeLine := by
            rw [PyProof.Rows.lm_len_rep_flat, Nat.mul_comm, show vs.length = xs.length by omega]; exact hk3
          refine ⟨.ref s.heap.objs.size, _, I.laid (t' := s.toks) (o := .tup (List.replicate k.toNat vs).flatten) (fun b ob q => Heap.get?_push_of_some _ q) (Nat.le_refl _) ⟨lv, _, r.rep k.toNat, IsTup.new _ _⟩, rfl, ?_⟩
          exact fin _ _ (.d _) (same_new I.fresh) (.tup (.of upd_same) (BrA.keep (keep_of_same (same_new I.fresh)) _ _ (h2.rep _))) q
  · rename_i xs k
    obtain ⟨hk1, hk2, hk3, q⟩ : -(2 ^ 62) < k ∧ k < 2 ^ 62 ∧ xs.length * k.toNat ≤ sizeLine ∧ Q (.own (List.replicate k.toNat xs).flatten) := q
    have by_ : Br L.K H y (.int k) := by_
    cases by_
    obtain ⟨t, rfl⟩ := ry
    obtain ⟨l, vs, its, n, rfl, b1, r, e, hz⟩ := list_at hK I bx
    cases rx
    have hv := r.length
    have hx := b1.len
    have sl16 := sizeLine_eq
    have sz : its.toArray.size = xs.length := by rw [List.size_toArray]; omega
    have fill : List.foldl (fun x1 x2 => x1 ++ x2) #[] (List.replicate (if its.toArray.isEmpty = true then 0 else k.toNat) its.toArray) = (List.replicate k.toNat its).flatten.toArray := by
      rw [size_rep]
      cases its with
      | nil => simp
      | cons a r' => rw [if_neg (by simp)]
    refine wpAny_binaryOp_repeat_ref (T := "list") (U := "int") (by decide) ⟨_, e, rfl⟩ (fun s' => typeIs_int s' k t) noFill_list_mul F.fills_int_mul F.slot_int_rmul repeat_list F.slot_int_index.lookup
      (call_meets F.slot_int_rmul (typeIs_int s k t) F.entry_int_rmul (F.args_int_rmul_2 _ _) (int___rmul___int_list k t l its.toArray n)
        ⟨e, rfl, ⟨_, e, rfl⟩, call_meets F.slot_list_mul ⟨_, e, rfl⟩ F.entry_list_mul (F.args_list_mul_2 _ _) (AutoListH.list___mul___list_int_3 l its.toArray n k t ?_ ?_ ?_) ⟨e, ?_⟩⟩)
    · rw [fitsIndex_both (by omega) (by omega)]; exact Bool.false_ne_true
    · rw [sz]; omega
    · rw [notLongL (by rw [sz]; exact hk3)]; exact Bool.false_ne_true
    · rw [fill]
      have lv : (List.replicate k.toNat vs).flatten.length ≤ sizeLine := by
        rw [PyProof.Rows.lm_len_rep_flat, Nat.mul_comm, show vs.length = xs.length by omega]; exact hk3
      exact ⟨.ref _, _, I.lnew (t' := s.toks) (r.rep k.toNat) lv, rfl, fin _ _ (.own _) (same_new I.fresh) ⟨_, _, rfl, I.fresh, upd_same, BrA.keep (keep_of_same (same_new I.fresh)) _ _ (b1.rep _)⟩ q⟩
  · exact q.elim
theorem i_at : IxR X (rD L fIx) := by
  intro ev es pins s σ H x y v u Q' I rx ry q hs
  obtain ⟨dx, dy, Q, bx, by_, ⟨i, rfl, q⟩, fin⟩ := q
  have by_ : Br L.K H y (.int i) := by_
  cases by_
  cases dx with
  | list xs =>
    obtain ⟨d, e, q⟩ := q
    obtain ⟨a, vs, rfl, h1, h3⟩ := list_sq hK bx
    · obtain ⟨j, hj, e3, _⟩ := atI_get e
      obtain ⟨v1, e4, b1⟩ := h3.get e3
      have e5 : atI vs i = some v1 := by
        unfold atI at e ⊢
        rw [h3.len]
        cases hx : ixN xs.length i with
        | none => rw [hx] at e; cases e
        | some k =>
          obtain ⟨q1, _, _, _⟩ := ixN_seq hx
          have : k = j := Option.some.inj (q1.symm.trans hj)
          subst this
          exact e4
      exact ix_list ev es pins s σ H _ _ v u Q' I rx ry ⟨_, _, i, v1, rfl, rfl, h1, e5, fin _ H _ (Same.refl H) (nr_d b1) q⟩ hs
  | tuple xs =>
    obtain ⟨d, e, q⟩ := q
    have bx : Br L.K H x (.tuple xs) := bx
    cases bx with
    | tup h1 h3 =>
      rename_i a vs
      rw [hK] at h1
      obtain ⟨j, hj, e3, _⟩ := atI_get e
      obtain ⟨v1, e4, b1⟩ := h3.get e3
      have e5 : atI vs i = some v1 := by
        unfold atI at e ⊢
        rw [h3.len]
        cases hx : ixN xs.length i with
        | none => rw [hx] at e; cases e
        | some k =>
          obtain ⟨q1, _, _, _⟩ := ixN_seq hx
          have : k = j := Option.some.inj (q1.symm.trans hj)
          subst this
          exact e4
      exact ix_tup ev es pins s σ H _ _ v u Q' I rx ry ⟨_, _, i, v1, rfl, rfl, h1, e5, fin _ H _ (Same.refl H) (nr_d b1) q⟩ hs
  | str z =>
    obtain ⟨hz, c, e, q⟩ := q
    have bx : Br L.K H x (.str z) := bx
    cases bx
    exact ix_str ev es pins s σ H _ _ v u Q' I rx ry ⟨z, i, c, rfl, rfl, hz, e, fin _ H _ (Same.refl H) (nr_d (.str _)) q⟩ hs
  | _ => exact q.elim
theorem brA1 {H : Hp} {vs : List V} {x : PyData} (h : BkA L H vs [x]) : ∃ v, vs = [v] ∧ Bk L H v x := by
  cases h with | cons h1 h2 => cases h2; exact ⟨_, rfl, h1⟩
theorem c_len : CallR X (.builtin "len") (rN L fLen) := by
  intro pins s σ H vs us Q' I r q
  obtain ⟨xs, Q, b, q, fin⟩ := q
  unfold fLen at q
  split at q
  · obtain ⟨v, rfl, b1⟩ := brA1 hK b
    obtain ⟨a, vs, rfl, h1, h3⟩ := list_sq hK b1
    exact call_len_seq pins s σ H _ us Q' I r ⟨_, _, rfl, .inl h1, fin _ H _ (Same.refl H) (nr_d (.int _)) (by rw [h3.len]; exact q)⟩
  · obtain ⟨v, rfl, b1⟩ := brA1 hK b
    cases b1 with
    | tup h1 h3 => rw [hK] at h1; exact call_len_seq pins s σ H _ us Q' I r ⟨_, _, rfl, .inr h1, fin _ H _ (Same.refl H) (nr_d (.int _)) (by rw [h3.len]; exact q)⟩
  · obtain ⟨v, rfl, b1⟩ := brA1 hK b
    cases b1
    exact call_len_str pins s σ H _ us Q' I r ⟨_, rfl, q.1, fin _ H _ (Same.refl H) (nr_d (.int _)) q.2⟩
  · exact q.elim
theorem c_abs : CallR X (.builtin "abs") (rN L fAbs) := by
  intro pins s σ H vs us Q' I r q
  obtain ⟨xs, Q, b, ⟨i, rfl, q⟩, fin⟩ := q
  obtain ⟨v, rfl, b1⟩ := brA1 hK b
  cases b1
  refine call_abs pins s σ H _ us Q' I r ⟨i, rfl, fin _ H (.d (.int i.natAbs)) (Same.refl H) ?_ q⟩
  have : (if i < 0 then -i else i) = (i.natAbs : Int) := by split <;> omega
  rw [this]; exact nr_d (.int _)
theorem c_int : CallR X (.type "int") (rN L fInt) := by
  intro pins s σ H vs us Q' I r q
  obtain ⟨xs, Q, b, q, fin⟩ := q
  unfold fInt at q
  split at q
  · obtain ⟨v, rfl, b1⟩ := brA1 hK b
    cases b1
    exact call_int1 pins s σ H _ us Q' I r (.inl ⟨_, rfl, fin _ H _ (Same.refl H) (nr_d (.int _)) q⟩)
  · obtain ⟨v, rfl, b1⟩ := brA1 hK b
    cases b1
    exact call_int1 pins s σ H _ us Q' I r (.inr ⟨_, rfl, fin _ H _ (Same.refl H) (nr_d (.int _)) q⟩)
  · exact q.elim
theorem c_tuple : CallR X (.type "tuple") (rN L fTuple) := by
  intro pins s σ H vs us Q' I r q
  obtain ⟨xs, Q, b, q, fin⟩ := q
  unfold fTuple at q
  split at q
  · obtain ⟨v, rfl, b1⟩ := brA1 hK b
    obtain ⟨a, vs, rfl, h1, h3⟩ := list_sq hK b1
    · refine call_tuple_of pins s σ H _ us Q' I r ⟨_, _, rfl, .inl ⟨h1, fun l hl => ?_⟩⟩
      exact fin _ _ (.d _) (same_new hl) (.tup (.of upd_same) (BrA.keep (keep_of_same (same_new hl)) _ _ h3)) q
  · obtain ⟨v, rfl, b1⟩ := brA1 hK b
    cases b1 with
    | tup h1 h3 =>
      rw [hK] at h1
      exact call_tuple_of pins s σ H _ us Q' I r ⟨_, _, rfl, .inr ⟨h1, fin _ H _ (Same.refl H) (nr_d (.tup (by rw [hK]; exact h1) h3)) q⟩⟩
  · exact q.elim
theorem c_list : CallR X (.type "list") (rN L fList) := by
  intro pins s σ H vs us Q' I r q
  obtain ⟨xs, Q, b, q, fin⟩ := q
  unfold fList at q
  split at q
  · obtain ⟨v, rfl, b1⟩ := brA1 hK b
    obtain ⟨a, vs, rfl, h1, h3⟩ := list_sq hK b1
    · refine call_list_of pins s σ H _ us Q' I r ⟨_, _, rfl, .inl h1, fun l hl => ?_⟩
      exact fin _ _ (.own _) (same_new hl) ⟨_, _, rfl, hl, upd_same, BrA.keep (keep_of_same (same_new hl)) _ _ h3⟩ q
  · obtain ⟨v, rfl, b1⟩ := brA1 hK b
    cases b1 with
    | tup h1 h3 =>
      rw [hK] at h1
      refine call_list_of pins s σ H _ us Q' I r ⟨_, _, rfl, .inr h1, fun l hl => ?_⟩
      exact fin _ _ (.own _) (same_new hl) ⟨_, _, rfl, hl, upd_same, BrA.keep (keep_of_same (same_new hl)) _ _ h3⟩ q
  · exact q.elim
theorem c_repr (g : Good X) : CallR X (.builtin "repr") (rN L fRepr) := by
  intro pins s σ H vs us Q' I r q
  obtain ⟨xs, Q, b, ⟨x, rfl, h1, h2, h3, q⟩, fin⟩ := q
  obtain ⟨v, rfl, b1⟩ := brA1 hK b
  obtain ⟨u, rfl, ru⟩ := vals1 r
  obtain ⟨as, rd, ns⟩ := Bk.readsN hK g I b1 ru
  have fn : Q' (.str x.shown) H := fin _ H (.d (.str x.shown)) (Same.refl H) (nr_d (.str _)) q
  have un := g.un
  have byRef : ∀ a, u = .ref a → wpAny (model X.prog X.w) X.A (call (.builtin "repr") [u]) (EP X pins σ Q') X.xe s := fun a e => by
    subst e
    exact repr_of_reads' rd h1 (fun _ => ns) g.gd (by omega) (fun _ _ e => e) (fun h' t tk hk => ⟨.str _, H, I.kept (t' := tk) hk, ⟨t, rfl⟩, fn⟩) h2
  cases x with
  | none => cases b1; cases ru; exact PySem.P.repr_of_none ⟨.str _, H, I.tok _, ⟨_, rfl⟩, by simpa [PyData.shown] using fn⟩
  | bool b => cases b1; cases ru; exact PySem.P.repr_of_bool ⟨.str _, H, I.tok _, ⟨_, rfl⟩, by cases b <;> simpa [PyData.shown] using fn⟩
  | int i => cases b1; obtain ⟨t, rfl⟩ := ru; exact PySem.P.repr_of_int (by simpa [PyData.showable] using h1) ⟨.str _, H, I.tok _, ⟨_, rfl⟩, by simpa [PyData.shown] using fn⟩
  | str z => cases b1; obtain ⟨t, rfl⟩ := ru; exact PySem.P.repr_of_str ⟨.str _, H, I.tok _, ⟨_, rfl⟩, by simpa [PyData.shown] using fn⟩ (by simpa [PyData.shown] using h2)
  | tuple ds => cases b1; exact byRef _ ru
  | list ds => obtain ⟨a, vs, rfl, _⟩ := b1; exact byRef _ ru
  | dict kvs => cases b1; exact byRef _ ru
end
end GB

namespace GB
open PySem PySem.Spec PyProof.Rows L2

/-! statements -/
def dNext : TSd := fun D ρ => D.nx ρ
def dSeq (t u : TSd) : TSd := fun D ρ => t { D with nx := u D } ρ
def dSet (i : Nat) (t : TEd) : TSd := fun D ρ => t ρ fun s ρ1 => D.nx (ρ1.set i s)
def dDrop (t : TEd) : TSd := fun D ρ => t ρ fun _ ρ1 => D.nx ρ1
def dRet (t : TEd) : TSd := fun D ρ => t ρ fun s _ => D.rt s
def dIfS (c : TTd) (t u : TSd) : TSd := fun D ρ => c ρ fun b ρ1 => if b = true then t D ρ1 else u D ρ1
def dBrk : TSd := fun D ρ => D.bk ρ
def dCnt : TSd := fun D ρ => D.ct ρ
/-- from here on the slot's list is as it is for good -/
def dFixS (i : Nat) (t : TSd) : TSd := fun D ρ => ∃ xs, ρ[i]? = some (.own xs) ∧ t D (ρ.set i (.d (.list xs)))
section
variable {X : Cx} {L : Lay} {pos : Pos} {e c : Expr} {st : Stmt} {sts sts2 : List Stmt} {t u : TSd} {te : TEd} {tc : TTd}
theorem tS_mono {D D' : Ends} {σ : L2.St} {H : Hp} (h : tS L t D σ H) (nx : ∀ σ' H' ρ', Keep H H' → Rel L H' σ' ρ' → D.nx σ' H' → D'.nx σ' H') (rt : ∀ v H', D.rt v H' → D'.rt v H') (bk : ∀ σ' H', D.bk σ' H' → D'.bk σ' H') (ct : ∀ σ' H', D.ct σ' H' → D'.ct σ' H') : tS L t D' σ H := by
  obtain ⟨ρ, De, r, q, h1, h2, h3, h4⟩ := h
  exact ⟨ρ, De, r, q, fun σ' H' ρ' k r' n => nx _ _ ρ' k r' (h1 σ' H' ρ' k r' n), fun v H' s k sm rr n => rt _ _ (h2 v H' s k sm rr n), fun σ' H' ρ' k r' n => bk _ _ (h3 σ' H' ρ' k r' n), fun σ' H' ρ' k r' n => ct _ _ (h4 σ' H' ρ' k r' n)⟩
theorem VR.rr {Hs H : Hp} {v : V} {s : S} (h : VR L Hs H v s) : RR L H v s := by
  cases s with
  | un => exact h
  | d x => exact h
  | ob t => exact h
  | ow xs => exact h.1
theorem dss_nil : PSs X [] (tS L dNext) := pss_nil.less fun D σ H h => by
  obtain ⟨ρ, De, r, q, h1, _⟩ := h
  exact h1 σ H ρ (Keep.rfl' H) r q
theorem dss_cons (h : PS X st (tS L t)) (h2 : PSs X sts (tS L u)) : PSs X (st :: sts) (tS L (dSeq t u)) := (pss_cons h h2).less fun D σ H q => by
  obtain ⟨ρ, De, r, q, h1, h2, h3, h4⟩ := q
  refine ⟨ρ, { De with nx := u De }, r, q, fun σ' H' ρ' k r' n => ?_, h2, h3, h4⟩
  exact ⟨ρ', De, r', n, fun σ2 H2 ρ2 k2 => h1 σ2 H2 ρ2 (k.tr k2), fun v H2 s k2 => h2 v H2 s (k.tr k2), fun σ2 H2 ρ2 k2 => h3 σ2 H2 ρ2 (k.tr k2), fun σ2 H2 ρ2 k2 => h4 σ2 H2 ρ2 (k.tr k2)⟩
theorem dss_one (h : PS X st (tS L t)) : PSs X [st] (tS L t) := pss_one h
theorem ds_set {i : Nat} {x : Str} {pos' : Pos} (g : Good X) (hi : X.N[i]? = some x) (hx : Loc X.env.scope x) (he : PE X e (tE L te)) (hs : swapsWith e (some (.Name x pos')) pos.line X.env = pure false := by rfl)
    (hf : X.fn x = true ∨ X.env.scope.names.lookup x = some .local := by first | exact .inl rfl | exact .inr rfl | assumption) : PS X (.Assign [.Name x pos'] e pos) (tS L (dSet i te)) :=
  (ps_set g.nd hi hx he hs hf).less fun D σ H q => by
    obtain ⟨ρ, De, r, q, h1, h2, h3, h4⟩ := q
    exact ⟨ρ, _, r, q, fun v H' s ρ' go r' hv n => h1 _ _ _ (go.keep r) (r.set r' go hv) n⟩
theorem ds_expr (he : PE X e (tE L te)) (hs : swapsWith e none pos.line X.env = pure false := by rfl) : PS X (.Expr e pos) (tS L (dDrop te)) := (ps_expr he hs).less fun D σ H q => by
  obtain ⟨ρ, De, r, q, h1, h2, h3, h4⟩ := q
  exact ⟨ρ, _, r, q, fun v H' s ρ' go r' hv n => h1 _ _ _ (go.keep r) r' n⟩
theorem ds_ret (he : PE X e (tE L te)) : PS X (.Return (some e) pos) (tS L (dRet te)) := (ps_ret he).less fun D σ H q => by
  obtain ⟨ρ, De, r, q, h1, h2, h3, h4⟩ := q
  exact ⟨ρ, _, r, q, fun v H' s ρ' go r' hv n => h2 _ _ _ (go.keep r) r'.same hv.rr n⟩
theorem ds_if (hc : PT X c (tT L tc)) (h : PSs X sts (tS L t)) (h2 : PSs X sts2 (tS L u)) : PS X (.If c sts sts2 pos) (tS L (dIfS tc t u)) := (ps_if hc h h2).less fun D σ H q => by
  obtain ⟨ρ, De, r, q, h1, h2, h3, h4⟩ := q
  refine ⟨ρ, _, r, q, fun b H' ρ' go r' n => ?_⟩
  have k := go.keep r
  cases b with
  | true => exact ⟨ρ', De, r', by simpa using n, fun σ2 H2 ρ2 k2 => h1 σ2 H2 ρ2 (k.tr k2), fun v H2 s k2 => h2 v H2 s (k.tr k2), fun σ2 H2 ρ2 k2 => h3 σ2 H2 ρ2 (k.tr k2), fun σ2 H2 ρ2 k2 => h4 σ2 H2 ρ2 (k.tr k2)⟩
  | false => exact ⟨ρ', De, r', by simpa using n, fun σ2 H2 ρ2 k2 => h1 σ2 H2 ρ2 (k.tr k2), fun v H2 s k2 => h2 v H2 s (k.tr k2), fun σ2 H2 ρ2 k2 => h3 σ2 H2 ρ2 (k.tr k2), fun σ2 H2 ρ2 k2 => h4 σ2 H2 ρ2 (k.tr k2)⟩
theorem ds_brk : PS X (.Break pos) (tS L dBrk) := ps_break.less fun D σ H q => by
  obtain ⟨ρ, De, r, q, h1, h2, h3, h4⟩ := q
  exact h3 _ _ _ (Keep.rfl' H) r q
theorem ds_cnt : PS X (.Continue pos) (tS L dCnt) := ps_continue.less fun D σ H q => by
  obtain ⟨ρ, De, r, q, h1, h2, h3, h4⟩ := q
  exact h4 _ _ _ (Keep.rfl' H) r q
theorem dss_fix (g : Good X) (i : Nat) (h : PSs X sts (tS L t)) : PSs X sts (tS L (dFixS i t)) := by
  constructor
  intro pins s σ H D I q
  obtain ⟨ρ, De, r, ⟨xs, e, q⟩, h1, h2, h3, h4⟩ := q
  obtain ⟨l, vs, hi, hl, hb, h0⟩ := r.getO e
  obtain ⟨o, I2⟩ := fix_inv I hl trivial
  obtain ⟨r2, b2⟩ := r.fixIn (o := o) e hi hl (ne_sys I g hl)
  have k := keep_fix (o := o) hl trivial
  exact h.run pins s σ _ D I2 ⟨_, De, r2, q, fun σ2 H2 ρ2 k2 => h1 σ2 H2 ρ2 (k.tr k2), fun v H2 s k2 => h2 v H2 s (k.tr k2), fun σ2 H2 ρ2 k2 => h3 σ2 H2 ρ2 (k.tr k2), fun σ2 H2 ρ2 k2 => h4 σ2 H2 ρ2 (k.tr k2)⟩
end

/-! defs: promises over data -/
abbrev FnD := List S → (S → Prop) → Prop
def spD (K : PySem.W.Frag) (J : Jar) (n : Nat) (F : FnD) : Sp := fun vs H Q _ => ∃ ss R, FRs (lay K J H) H vs ss ∧ ss.length = n ∧ F ss R ∧ ∀ v H' s, Same H H' → RR (lay K J H) H' v s → R s → Q v H'
def dCall (F : FnD) (n : Nat) (ta : TAd) : TEd := fun ρ Q => ta ρ fun ss ρ1 => ss.length = n ∧ F ss fun s => Q s ρ1
theorem FRs.len {L : Lay} {H : Hp} {vs : List V} {ss : List S} (h : FRs L H vs ss) : vs.length = ss.length := by
  induction h with
  | nil => rfl
  | cons _ _ ih => simp [ih]
theorem FRs.lay {L : Lay} {H H0 : Hp} {vs : List V} {ss : List S} (h : FRs L H vs ss) : FRs (lay L.K L.J H0) H vs ss := by
  induction h with
  | nil => exact .nil
  | @cons v vs s ss h1 _ ih => exact .cons (by cases s <;> exact h1) ih
section
variable {X : Cx} {L : Lay} {pos p : Pos} {e : Expr} {es : List Expr} {tas tks : TAd} {F : FnD} {x : Str} {f : Addr} {fd : FuncData} {ps ks : List Str} {k : Nat} {CX : CXT} {E : XK} {kws : List Keyword}
theorem rr_vr {H H1 H2 : Hp} {σ : L2.St} {ρ ρ1 : En} (r1 : Rel L H1 σ ρ1) (go : Go σ ρ ρ1 H H1) {v : V} {s : S} (h : RR (lay L.K L.J H1) H2 v s) : VR L H H2 v s := by
  cases s with
  | un => exact h
  | d x => exact h
  | ob t => exact h
  | ow xs =>
    cases xs with
    | l xs =>
      obtain ⟨l, vs, rfl, h1, h2, h3⟩ := h
      exact ⟨⟨l, vs, rfl, h1, h2, r1.same.free h3⟩, fun l' e => by cases e; exact go.dom _ h3⟩
    | k xs =>
      obtain ⟨l, vs, rfl, h1, h2, h3⟩ := h
      exact ⟨⟨l, vs, rfl, h1, h2, r1.same.free h3⟩, fun l' e => by cases e; exact go.dom _ h3⟩
    | io m xs =>
      obtain ⟨l, vs, rfl, h1, h2, h3⟩ := h
      exact absurd h2.2 (by simp)
theorem de_call (hK : L.K = X.K) (Fn : FnG X.prog X.w X.K X.mg X.base CX k f fd ps (spD X.K L.J ps.length F)) (hr : Room k X.A) (g : Good X) (hg : Gl X x) (hm : X.mg x = some (.ref f)) (hk : PySem.W.keepIn X.K (.ref f) = true) (hb : Binds X.K fd ps [])
    (hx : Passes CX X E) (ha : PA X (e :: es) (tA L tas)) (hdb : (x == ("__debug__" : Str)) = false := by decide) (he : starEach (e :: es) X.env = (false, eval e X.env) :: starEach es X.env := by rfl)
    (hpl : (backTo pos (starEach es X.env)).any (·.1) = false := by rfl) : PE X (.Call (.Name x p) (e :: es) [] pos) (tE L (dCall F ps.length tas)) :=
  (g_call Fn hr g.gd hg hm hk hb hx ha hdb he hpl).less fun σ H Q' h => by
    obtain ⟨ρ, Q, r, q, fin⟩ := h
    refine ⟨ρ, _, r, q, fun vs H1 ss ρ1 go r1 hv q1 => ?_⟩
    show spD X.K L.J ps.length F (vs ++ []) H1 Q' E
    rw [List.append_nil]
    refine ⟨ss, _, ?_, q1.1, q1.2, fun v H2 s sm rr q2 => fin v H2 s ρ1 (go.tr (Go.sm sm)) (r1.go sm) (rr_vr r1 go (by rw [hK]; exact rr)) q2⟩
    rw [← hK]; exact hv.lay
theorem de_call0 (hK : L.K = X.K) (Fn : FnG X.prog X.w X.K X.mg X.base CX k f fd ps (spD X.K L.J ps.length F)) (hr : Room k X.A) (g : Good X) (hg : Gl X x) (hm : X.mg x = some (.ref f)) (hk : PySem.W.keepIn X.K (.ref f) = true) (hb : Binds X.K fd ps [])
    (hx : Passes CX X E) (hdb : (x == ("__debug__" : Str)) = false := by decide) : PE X (.Call (.Name x p) [] [] pos) (tE L (dCall F ps.length dNil)) :=
  (g_call0 Fn hr g.gd hg hm hk hb hx hdb).less fun σ H Q' h => by
    obtain ⟨ρ, Q, r, q, fin⟩ := h
    show spD X.K L.J ps.length F [] H Q' E
    have q : ([] : List S).length = ps.length ∧ F [] fun s => Q s ρ := q
    exact ⟨[], _, .nil, q.1, q.2, fun v H2 s sm rr q2 => fin v H2 s ρ (Go.sm sm) (r.go sm) (rr_vr r Go.rf (by rw [hK]; exact rr)) q2⟩
/-- keywords: their places among the parameters -/
def dCallK (F : FnD) (n : Nat) (gS : List S → List S) (ta : TAd) : TEd := fun ρ Q => ta ρ fun ss ρ1 => (gS ss).length = n ∧ F (gS ss) fun s => Q s ρ1
theorem dk_nil : PK X [] (tA L dNil) := pk_nil.less' fun σ H Q' h => by
  obtain ⟨ρ, Q, r, q, fin⟩ := h
  exact fin [] H [] ρ Go.rf r .nil q
theorem dk_cons {te : TEd} {nm : Option Str} {kpos : Pos} (h : PE X e (tE L te)) (hr : PK X kws (tA L tks)) : PK X (⟨nm, e, kpos⟩ :: kws) (tA L (dCons te tks)) := (pk_cons h hr).less' fun σ H Q' h => by
  obtain ⟨ρ, Q, r0, q, fin⟩ := h
  refine ⟨ρ, _, r0, q, fun v H1 s ρ1 k1 r1 hv q1 => ?_⟩
  obtain ⟨f, q2⟩ := q1
  refine ⟨ρ1, _, r1, q2, fun vs H2 ss ρ2 k2 r2 hvs q3 => ?_⟩
  exact fin (v :: vs) H2 (s :: ss) ρ2 (k1.tr k2) r2 (.cons ((fr_of f hv).keep (k2.keep r1)) hvs) q3
/-- how names given bind: a permutation of what is given -/
structure Perm (K : PySem.W.Frag) (fd : FuncData) (ps ks : List Str) (g : List Value → List Value) (gV : List V → List V) (gS : List S → List S) : Prop where
  to : ∀ (s : Shared) (ws : List Value), (g ws).length = ps.length → BindsTo s fd ⟨[], ks.zip ws⟩ (ps.zip (g ws))
  rel : ∀ {zs : List V} {ws : List Value}, Vals zs ws → Vals (gV zs) (g ws)
  fr : ∀ {L : Lay} {H : Hp} {zs : List V} {ss : List S}, FRs L H zs ss → FRs L H (gV zs) (gS ss)
theorem g_kw {gV : List V → List V} {g : List Value → List Value} {sp : Sp} {tk : TA} (Fn : FnG X.prog X.w X.K X.mg X.base CX k f fd ps sp) (hr : Room k X.A) (gd : X.A.guards = some []) (hg : Gl X x) (hm : X.mg x = some (.ref f)) (hk : PySem.W.keepIn X.K (.ref f) = true)
    (hto : ∀ (s : Shared) (ws : List Value), (g ws).length = ps.length → BindsTo s fd ⟨[], ks.zip ws⟩ (ps.zip (g ws))) (hrel : ∀ {zs : List V} {ws : List Value}, Vals zs ws → Vals (gV zs) (g ws)) (hx : Passes CX X E) (hkw : PK X kws tk) (hall : (backToKw pos (keywordEach kws X.env)).all (·.1.isSome) = true := by rfl)
    (hks : (backToKw pos (keywordEach kws X.env)).filterMap (·.1) = ks := by rfl) (hdb : (x == ("__debug__" : Str)) = false := by decide)
    (hpl : ((backTo pos (starEach [] X.env)).any (·.1) || (backToKw pos (keywordEach kws X.env)).any (·.1.isNone)) = false := by rfl) :
    PE X (.Call (.Name x p) [] kws pos) fun σ H Q => tk σ H fun zs H2 => sp (gV zs) H2 Q E := by
  constructor
  intro pins s σ H Q I h
  refine wpAny_Call_Name_kw (ld_glob I hg hm ?_ hdb)
  refine PySem.W.callWith_KW0 (h₀ := X.base) I.ok.mod.kin hk hall (thn (hkw.run pos pins s σ H _ I h) fun ws s2 z => ?_) hpl
  obtain ⟨zs, H2, I2, rz, q⟩ := z
  refine ⟨I2.kIn, ?_⟩
  rw [hks]
  have r2 := hrel rz
  have hl : (g ws).length = ps.length := by rw [← r2.length]; exact Fn.arity _ _ _ _ q
  refine wpAny_call (codeAny_mono (Fn.go X.A X.stack s2 H2 ⟨[], ks.zip ws⟩ (g ws) (gV zs) Q E gd hr I2.env0 (hto s2 ws hl) r2 q) fun r3 s' hq => ?_)
  match r3, hq with
  | .error e, hq => exact hx pins σ H2 s2 e s' I2 hq
  | .ok (.ret u), hq => exact I2.after hq
  | .ok .next, hq => exact False.elim hq
  | .ok .brk, hq => exact False.elim hq
  | .ok .cont, hq => exact False.elim hq
theorem de_callK {gV : List V → List V} {g : List Value → List Value} {gS : List S → List S} (hK : L.K = X.K) (Fn : FnG X.prog X.w X.K X.mg X.base CX k f fd ps (spD X.K L.J ps.length F)) (hr : Room k X.A) (gd : Good X) (hg : Gl X x) (hm : X.mg x = some (.ref f)) (hk : PySem.W.keepIn X.K (.ref f) = true)
    (hb : Perm X.K fd ps ks g gV gS) (hx : Passes CX X E) (hkw : PK X kws (tA L tks)) (hall : (backToKw pos (keywordEach kws X.env)).all (·.1.isSome) = true := by rfl)
    (hks : (backToKw pos (keywordEach kws X.env)).filterMap (·.1) = ks := by rfl) (hdb : (x == ("__debug__" : Str)) = false := by decide)
    (hpl : ((backTo pos (starEach [] X.env)).any (·.1) || (backToKw pos (keywordEach kws X.env)).any (·.1.isNone)) = false := by rfl) :
    PE X (.Call (.Name x p) [] kws pos) (tE L (dCallK F ps.length gS tks)) :=
  (g_kw Fn hr gd.gd hg hm hk hb.to hb.rel hx hkw hall hks hdb hpl).less fun σ H Q' h => by
    obtain ⟨ρ, Q, r, q, fin⟩ := h
    refine ⟨ρ, _, r, q, fun vs H1 ss ρ1 go r1 hv q1 => ?_⟩
    refine ⟨gS ss, _, ?_, q1.1, q1.2, fun v H2 s sm rr q2 => fin v H2 s ρ1 (go.tr (Go.sm sm)) (r1.go sm) (rr_vr r1 go (by rw [hK]; exact rr)) q2⟩
    rw [← hK]; exact hb.fr hv.lay
end
theorem brA_start {L : Lay} {H : Hp} : ∀ {vs : List V} {ss : List S} {n : Nat}, FRs L H vs ss → L.H0 = H → Rel L H (vs.map some ++ List.replicate n none) (ss ++ List.replicate n S.un) := by
  intro vs ss n h h0
  have hl := h.len
  have nown : ∀ {vs : List V} {ss : List S}, FRs L H vs ss → ∀ (i : Nat) (s : S), ss[i]? = some s → ∃ v, vs[i]? = some v ∧ FR L H v s := by
    intro vs ss h
    induction h with
    | nil => intro i s e; simp at e
    | @cons v vs s ss h1 h2 ih =>
      intro i s' e
      cases i with
      | zero => simp at e; subst e; exact ⟨v, rfl, h1⟩
      | succ i => simp at e ⊢; exact ih i s' e
  have at0 : ∀ (i : Nat) (s : S), (ss ++ List.replicate n S.un)[i]? = some s → s = .un ∨ ∃ v, vs[i]? = some v ∧ FR L H v s := fun i s e => by
    by_cases hi : i < ss.length
    · rw [List.getElem?_append_left hi] at e
      exact .inr (nown h i s e)
    · rw [List.getElem?_append_right (by omega), List.getElem?_replicate] at e
      split at e
      · cases e; exact .inl rfl
      · cases e
  refine ⟨by simp [hl], fun i s e => ?_, fun i j xs ys e1 _ _ => ?_, by rw [h0]; exact Same.refl H⟩
  · rcases at0 i s e with rfl | ⟨v, hv, fr⟩
    · trivial
    · have hi : i < vs.length := (List.getElem?_eq_some_iff.mp hv).1
      have eq : ((vs.map some ++ List.replicate n none)[i]?).getD none = some v := by
        rw [List.getElem?_append_left (by simpa using hi), List.getElem?_map, hv]; rfl
      rw [eq]
      cases s with
      | un => trivial
      | d x => exact ⟨v, rfl, fr⟩
      | ow xs => exact fr.elim
      | ob t => obtain ⟨a, rfl, q⟩ := fr; exact ⟨a, rfl, q⟩
  · rcases at0 i _ e1 with q | ⟨v, _, fr⟩
    · cases q
    · exact fr.elim
section
variable {P : Program} {w : World} {K : PySem.W.Frag} {mg : Str → Option Value} {base : Heap} {J : Jar}
theorem good_of {CX : CXT} {N : List Str} {qual : Str} {scope : Scope} {f : Addr} {cdv : Value} {A : Around} {outer : List Env} {s : Shared} {H : Hp} {E : XK} {k : Nat} (hs : ∃ o, base.get? sysModules = some o) (nd : N.Nodup) (hg : A.guards = some [])
    (hr : Room k (A.deeper (envOfC qual scope s.heap.objs.size f cdv))) : Good (cxOf CX P w K mg base N qual scope f cdv A outer s H E).nox := ⟨rfl, hg, hs, by have := hr.un; show (A.deeper (envOfC qual scope s.heap.objs.size f cdv)).units + 200 < cLine; omega, nd⟩
/-- a def that lets no exception out -/
theorem fn_ok {f : Addr} {fd : FuncData} {x qual : Str} {st : Stmt} {N ps : List Str} {k : Nat} {F : FnD} {t : TSd} (Fn : Fun K x qual st f fd) (S0 : FnScope N ps (defScope st)) (hs : ∃ o, base.get? sysModules = some o)
    (body : ∀ (cdv : Value) (A : Around) (outer : List Env) (s : Shared) (H : Hp) (E : XK), A.guards = some [] → Room k (A.deeper (envOfC qual (defScope st) s.heap.objs.size f cdv)) → Good (cxOf CX0 P w K mg base N qual (defScope st) f cdv A outer s H E).nox →
      PSs (cxOf CX0 P w K mg base N qual (defScope st) f cdv A outer s H E).nox (defBody st) (tS (lay K J H) t))
    (math : ∀ ss R, ss.length = ps.length → F ss R → t { nx := fun _ => R (.d .none), rt := R } (ss ++ List.replicate (N.length - ps.length) .un)) :
    FnG P w K mg base CX0 (k + 1) f fd ps (spD K J ps.length F) := by
  refine fng_nox Fn S0 (fun vs H Q E h => ?_) fun cdv A outer s H vs Q E hg hr h => ?_
  · obtain ⟨ss, R, fr, hl, _⟩ := h
    rw [fr.len, hl]
  · obtain ⟨ss, R, fr, hl, hF, fin⟩ := h
    refine ⟨_, body cdv A outer s H E hg hr (good_of hs S0.nd hg hr), ss ++ List.replicate (N.length - ps.length) .un, { nx := fun _ => R (.d .none), rt := R }, ?_, math ss R hl hF, fun σ' H' ρ' k r n => ?_, fun v H' s k sm rr n => fin v H' s sm rr n, fun _ _ _ _ _ n => n, fun _ _ _ _ _ n => n⟩
    · have hv := fr.len
      unfold L2.start
      rw [hv, hl]
      exact brA_start fr rfl
    · exact fin .non H' (.d .none) r.same .non n
end
end GB

namespace GB
open PySem PySem.Spec PyProof.Rows L2

/-! targets -/
abbrev DTG := PyData → En → (En → Prop) → Prop
abbrev DTGs := List PyData → En → (En → Prop) → Prop
def tG (L : Lay) (g : DTG) : TG := fun v σ H Q' => ∃ ρ d Q, Rel L H σ ρ ∧ Br L.K H v d ∧ g d ρ Q ∧ ∀ σ' ρ', Rel L H σ' ρ' → Q ρ' → Q' σ' H
def tGs (L : Lay) (g : DTGs) : TGs := fun vs σ H Q' => ∃ ρ ds Q, Rel L H σ ρ ∧ BrA L.K H vs ds ∧ g ds ρ Q ∧ ∀ σ' ρ', Rel L H σ' ρ' → Q ρ' → Q' σ' H
def dgName (i : Nat) : DTG := fun d ρ Q => Q (ρ.set i (.d d))
def dgNil : DTGs := fun ds ρ Q => ds = [] ∧ Q ρ
def dgCons (g : DTG) (gs : DTGs) : DTGs := fun ds ρ Q => ∃ d r, ds = d :: r ∧ g d ρ fun ρ1 => gs r ρ1 Q
def dgTup (n : Nat) (gs : DTGs) : DTG := fun d ρ Q => ∃ ds, d = .tuple ds ∧ ds.length = n ∧ gs ds ρ Q
theorem _root_.L2.PG.less {X : Cx} {e : Expr} {t t2 : TG} (h : PG X e t) (w : ∀ v σ H Q, t2 v σ H Q → t v σ H Q) : PG X e t2 := ⟨fun pins s σ H v u Q I r q => h.run pins s σ H v u Q I r (w _ _ _ _ q)⟩
theorem _root_.L2.PGs.less {X : Cx} {e : List Expr} {t t2 : TGs} (h : PGs X e t) (w : ∀ v σ H Q, t2 v σ H Q → t v σ H Q) : PGs X e t2 := ⟨fun pins s σ H v u Q I r q => h.run pins s σ H v u Q I r (w _ _ _ _ q)⟩
section
variable {X : Cx} {L : Lay} {pos : Pos} {e : Expr} {es : List Expr} {g : DTG} {gs : DTGs}
theorem dg_name {i : Nat} {x : Str} (gd : Good X) (hi : X.N[i]? = some x) (hx : Loc X.env.scope x) (hf : X.fn x = true ∨ X.env.scope.names.lookup x = some .local := by first | exact .inl rfl | exact .inr rfl | assumption) : PG X (.Name x pos) (tG L (dgName i)) :=
  (pg_name gd.nd hi hx hf).less fun v σ H Q' h => by
    obtain ⟨ρ, d, Q, r, b, q, fin⟩ := h
    exact fin _ _ (r.setF (s := .d d) b) q
theorem dgs_nil : PGs X [] (tGs L dgNil) := pgs_nil.less fun vs σ H Q' h => by
  obtain ⟨ρ, ds, Q, r, b, ⟨rfl, q⟩, fin⟩ := h
  cases b
  exact ⟨rfl, fin _ _ r q⟩
theorem dgs_cons (h : PG X e (tG L g)) (h2 : PGs X es (tGs L gs)) (hs : (assignEach (e :: es) X.env).map (·.2) = assign e X.env :: (assignEach es X.env).map (·.2) := by rfl) : PGs X (e :: es) (tGs L (dgCons g gs)) := (pgs_cons h h2 hs).less fun vs σ H Q' h => by
  obtain ⟨ρ, ds, Q, r, b, ⟨d, rs, rfl, q⟩, fin⟩ := h
  cases b with
  | cons b1 b2 => exact ⟨_, _, rfl, ρ, d, _, r, b1, q, fun σ' ρ' r' n => ⟨ρ', rs, Q, r', b2, n, fin⟩⟩
theorem dg_tup {k : Nat} {n : Nat} (gd : Good X) (hK : L.K = X.K) (h : PGs X es (tGs L gs)) (hn : (assignEach es X.env).length = n := by rfl) (hst : (assignEach es X.env).findIdx? (·.1) = none := by rfl) : PG X (.Tuple es k pos) (tG L (dgTup n gs)) := (pg_tup gd.calm h hn hst).less fun v σ H Q' h => by
  obtain ⟨ρ, d, Q, r, b, ⟨ds, rfl, hl, q⟩, fin⟩ := h
  cases b with
  | tup h1 h2 =>
    rw [hK] at h1
    exact ⟨_, _, rfl, h1, by rw [h2.len]; exact hl, ρ, ds, Q, r, by rw [hK] at h2 ⊢; exact h2, q, fin⟩
end
end GB

namespace GB
open PySem PySem.Spec PyProof.Rows L2

set_option maxHeartbeats 1000000 in
theorem meets_enum_one {v : Value} {o : Obj} {H : Heap → Prop} (B : Begins v o H) :
    Meets (Builtin.«enumerate.__new__» ⟨[.type "enumerate", v], []⟩) (fun _ R s => H s.heap ∧
      R (.ok (.ret (.ref (s.heap.push o).objs.size))) { s with heap := (s.heap.push o).push { cls := .type "enumerate", data := .fields #[.none, .bool false, .ref s.heap.objs.size, rawInt 0, .none, .none] } }) :=
  .of_wp fun prog w A R s h => by
    obtain ⟨hp, g, d, tk, os⟩ := s
    obtain ⟨h1, h⟩ := h
    have hsub := sub_enumerate
    have q1 : ∀ {A' : Around} {E : Value → Shared → Prop} {Q : Value → Shared → Prop}, Q (.ref hp.objs.size) ⟨hp.push o, g, d, tk, os⟩ → wpAny (model prog w) A' (pyIter v) Q E ⟨hp, g, d, tk, os⟩ := fun q => B.iter prog w _ _ ⟨hp, g, d, tk, os⟩ _ h1 q
    wp_walk using q1
    refine wpAny_stack_any fun st => wpAny_pure ?_
    split
    · rename_i c _ _ _ _ _
      cases (c == Value.type "enumerate")
      · wp_walk using q1
        exact ⟨_, rfl, h⟩
      · wp_walk using q1
        exact ⟨_, rfl, h⟩
    · wp_walk using q1
      exact ⟨_, rfl, h⟩
theorem call_enum_one {prog : Program} {w : World} {A : Around} {E : Value → Shared → Prop} {s : Shared} {v : Value} {o : Obj} {H : Heap → Prop} {Q : Value → Shared → Prop} (B : Begins v o H) (h1 : H s.heap)
    (h : ∀ h', IsEnum h' (s.heap.objs.size + 1) s.heap.objs.size 0 .none → h'.get? s.heap.objs.size = some o → (∀ b o', s.heap.get? b = some o' → h'.get? b = some o') → Q (.ref (s.heap.objs.size + 1)) { s with heap := h' }) :
    wpAny (model prog w) A (call (.type "enumerate") [v]) Q E s := by
  refine callType_new F.called_enumerate (by decide) (F.typeCall_enumerate_1 _) (F.newCall_enumerate_1 _) (fun obj => F.args_object_init_2 obj _) F.entry_enumerate_new (meets_enum_one B) ⟨h1, ?_⟩
  have hz : (s.heap.push o).objs.size = s.heap.objs.size + 1 := Heap.size_push ..
  show _ ∧ _
  rw [hz]
  have he : IsEnum ((s.heap.push o).push { cls := .type "enumerate", data := .fields #[.none, .bool false, .ref s.heap.objs.size, rawInt 0, .none, .none] }) (s.heap.objs.size + 1) s.heap.objs.size 0 .none := by
    have q := Heap.get?_push_size (s.heap.push o) (o := { cls := .type "enumerate", data := .fields #[.none, .bool false, .ref s.heap.objs.size, rawInt 0, .none, .none] }) rfl
    rw [hz] at q; exact q
  exact ⟨⟨_, he, rfl⟩, h _ he (Heap.get?_push_of_some _ (Heap.get?_push_size _ B.free)) fun b o' x => Heap.get?_push_of_some _ (Heap.get?_push_of_some _ x)⟩

/-- the tuple at a, each item in a new pair with its place -/
def IteT (K : PySem.W.Frag) (a : Addr) : It where
  go := fun i H => ∃ (xs : List V) (x : V), SqT K H a xs ∧ xs[i]? = some x
  yld := fun i H v H' => ∃ T x, v = .ref T ∧ H T = none ∧ H' = upd H T (.tup [.int (i : Nat), x]) ∧ ∀ xs, SqT K H a xs → xs[i]? = some x
  stop := fun i H => ∃ xs : List V, SqT K H a xs ∧ xs.length ≤ i
theorem turn_enumT {P : Program} {w : World} {K : PySem.W.Frag} {elts : List Expr} {kk : Nat} {tpos : Pos} (a e it : Addr) :
    Turn P w K (.Tuple elts kk tpos) (IteT K a) [e, it] e (fun i h => (∃ old, IsEnum h e it ((i : Nat) : Int) old) ∧ h.IsTupleIter it a i ∧ e ≠ it) where
  mem := List.mem_cons_self
  obj := fun i h st b hb => by
    obtain ⟨⟨old, he⟩, ⟨o, ho, hc, hd⟩, _⟩ := st
    rcases List.mem_cons.mp hb with z | z
    · rw [z]; exact ⟨_, he, fun v q => nomatch q⟩
    · rw [List.mem_singleton.mp z]; exact ⟨o, ho, fun v q => by rw [hd] at q; cases q⟩
  keep := fun i h h' st k => let ⟨⟨old, he⟩, hi, hne⟩ := st; ⟨⟨old, k e (by simp) _ he⟩, hi.at fun o q => k it (by simp) o q, hne⟩
  item := by
    intro X hP hw hK hc i pins s σ H E I hf st hg
    subst hP hw hK
    obtain ⟨⟨old, he⟩, hit, hne⟩ := st
    obtain ⟨xs, x, hq, hx⟩ := hg
    obtain ⟨its, rv, p, hz⟩ := I.tuple hq
    obtain ⟨u, hu, ru⟩ := rv.get hx
    have hel : e < s.heap.objs.size := Heap.lt_size he
    have hil : it < s.heap.objs.size := by obtain ⟨_, q, _⟩ := hit; exact Heap.lt_size q
    have pa : s.heap.IsTuple a its.toArray := p
    have hai : a ≠ it := fun z => by
      obtain ⟨o1, e1, c1, _⟩ := p
      obtain ⟨o2, e2, c2, _⟩ := hit
      rw [z, e2] at e1; cases e1
      rw [c2] at c1; simp at c1
    have hae : a ≠ e := fun z => by
      obtain ⟨o1, e1, c1, _⟩ := p
      rw [z, he] at e1; cases e1
      simp at c1
    have D := Draws.tuple (prog := X.prog) (w := X.w) (A := X.A.in1) (I.ok.hd hc) it a hai its.toArray
    have hlt : i < its.toArray.size := by
      have := (List.getElem?_eq_some_iff.mp hu).1
      simpa using this
    refine wpAny_pyNext_enum_itemD D he ⟨hit, pa⟩ hlt hne (by simp [hne, hae.symm]) fun x' h' tk px ho st' hT hsz hk => ?_
    have ex : x' = u := by
      have : its.toArray[i]? = some u := by simpa using hu
      rw [this] at px; exact (Option.some.inj px).symm
    subst ex
    refine ⟨_, rfl, wpAny_letOwnedTupleGo_enum (s := { s with heap := h', toks := tk + 1 }) ho fun h'' he' sb => ?_⟩
    have hT2 : h''.get? s.heap.objs.size = some { cls := .type "tuple", data := .seq #[.int i tk, x'] } := (sb.2 _ (Nat.ne_of_gt hel)).trans hT
    have new : ObjOk X.prog X.w (upd H s.heap.objs.size (.tup [.int (i : Nat), x])) h'' s.heap.objs.size (.tup [.int (i : Nat), x]) :=
      ⟨by show 2 ≤ sizeLine; decide, [.int i tk, x'], .cons ⟨_, rfl⟩ (.cons ru .nil), ⟨_, hT2, rfl, _, rfl⟩⟩
    have I1 : Inv X pins σ (upd H s.heap.objs.size (.tup [.int (i : Nat), x])) { s with heap := h'', toks := tk + 1 } :=
      I.turnedNew (ch := [e, it]) (fun b ob hb q => (sb.2 b (fun z => hb (by simp [z]))).trans (hk b ob (fun z => hb (by simp [z])) (fun z => hb (by simp [z])) q)) hf (Nat.le_refl _) new
    refine ⟨.ref s.heap.objs.size, _, I1, rfl, ⟨_, x, rfl, I.hok.fresh (Nat.le_refl _), rfl, fun ys hy => by rw [I.tuple_inj hy hq]; exact hx⟩, ⟨⟨x', ?_⟩, st'.1.at fun o q => (sb.2 it (Ne.symm hne)).trans q, hne⟩, fun b hb => ?_⟩
    · have e1 : ((i + 1 : Nat) : Int) = (i : Int) + 1 := by omega
      rw [e1]; exact he'
    · have hb' : b < s.heap.objs.size := by
        rcases List.mem_cons.mp hb with z | z
        · rw [z]; exact hel
        · rw [List.mem_singleton.mp z]; exact hil
      rw [upd_ne (Nat.ne_of_lt hb')]
      exact (hf b hb).1
  done := by
    intro X hP hw hK hc i pins s σ H E I hf st hg
    subst hP hw hK
    obtain ⟨⟨old, he⟩, hit, hne⟩ := st
    obtain ⟨xs, hq, hx⟩ := hg
    obtain ⟨its, rv, p, hz⟩ := I.tuple hq
    obtain ⟨f0, f1, f2, f3, f4, f5⟩ := hf it (by simp)
    have pa : s.heap.IsTuple a its.toArray := p
    have hai : a ≠ it := fun z => by
      obtain ⟨o1, e1, c1, _⟩ := p
      obtain ⟨o2, e2, c2, _⟩ := hit
      rw [z, e2] at e1; cases e1
      rw [c2] at c1; simp at c1
    have hl := rv.length
    have hT : s.TypeIs (.ref e) "enumerate" := ⟨_, he, rfl⟩
    unfold pyNext
    refine wpAny_bind (wpAny_attempt (wpAny_callSpecial?_slot (name := Str.ofString "__next__") hT F.slot_enumerate_next (wpAny_call_entry F.slot_enumerate_next hT F.entry_enumerate_next ?_ (F.args_enumerate_next_1 _))))
    show wpAny _ _ (field (.ref e) 2 >>= _) _ _ _
    refine wpAny_bind (wpAny_field he rfl (x := .ref it) rfl ?_)
    refine wpAny_bind (wpAny_nextOf_tuple_end (I.ok.hd hc) hit pa (by simp; omega) fun h' x he' hx' => ?_)
    obtain ⟨o, ho, hc'⟩ := hx'
    refine wpAny_bind (wpAny_isInstance (T := "StopIteration") (b := true) ⟨o, ho, hc'⟩ isSubtype_stop ?_)
    exact wpAny_pure ⟨rfl, I.turned (t' := s.toks) (fun b o hb q => he' b o hb q) f0 f1 f3 f4 f5⟩
  self := fun A i s Q E st h => let ⟨⟨_, he⟩, _⟩ := st; wpAny_pyIter_enum he h
end GB

namespace GB
open PySem PySem.Spec PyProof.Rows L2

/-! what is walked -/
def ItD (L : Lay) (J : It) (H : Hp) (ds : List PyData) : Prop := ∃ G Y, Walk J ds.length G Y ∧ G H ∧ (∀ H1 H2, Keep H1 H2 → G H1 → G H2) ∧
  ∀ i H1 x H2, i < ds.length → Keep H H1 → G H1 → Y i H1 x H2 → Same H1 H2 ∧ ∃ d, ds[i]? = some d ∧ Br L.K H2 x d
abbrev TId := En → (List PyData → En → Prop) → Prop
def tI (L : Lay) (t : TId) : TI := fun σ H R => ∃ ρ Q, Rel L H σ ρ ∧ t ρ Q ∧ ∀ J H' ds ρ', Go σ ρ ρ' H H' → Rel L H' σ ρ' → Q ds ρ' → ItD L J H' ds → R J H'
theorem _root_.L2.PI.less {X : Cx} {tg e : Expr} {t t2 : TI} (h : PI X tg e t) (w : ∀ σ H R, t2 σ H R → t σ H R) : PI X tg e t2 := ⟨fun pins s σ H R I q => h.run pins s σ H R I (w _ _ _ q)⟩
section
variable {L : Lay} {H : Hp} {a : Addr} {vs : List V} {ds : List PyData}
theorem it_frz {o : Obj} (h : H a = some (.frz o (.lst vs))) (b : BrA L.K H vs ds) : ItD L (Itl L.K a) H ds := by
  refine ⟨fun H1 => H1 a = some (.frz o (.lst vs)), YAt vs, ?_, h, fun H1 H2 k q => k _ _ q trivial, fun i H1 x H2 hi k q y => ?_⟩
  · rw [← b.len]
    exact (walk_list (K := L.K) (a := a) (xs := vs)).mono (fun H q => .inl (.inr ⟨o, q⟩)) fun i H x H' _ _ y => y
  · obtain ⟨rfl, hx⟩ := y
    obtain ⟨d, e, bd⟩ := b.getV hx
    exact ⟨Same.refl _, d, e, Br.keep k _ _ bd⟩
theorem it_tup (h : SqT L.K H a vs) (b : BrA L.K H vs ds) : ItD L (Itt L.K a) H ds := by
  refine ⟨fun H1 => SqT L.K H1 a vs, YAt vs, ?_, h, fun H1 H2 k q => sqT_keep k q, fun i H1 x H2 hi k q y => ?_⟩
  · rw [← b.len]; exact walk_tup
  · obtain ⟨rfl, hx⟩ := y
    obtain ⟨d, e, bd⟩ := b.getV hx
    exact ⟨Same.refl _, d, e, Br.keep k _ _ bd⟩
/-- 0, lo + 1, .. -/
def irow (lo : Int) (n : Nat) : List PyData := (List.range n).map fun (i : Nat) => .int (lo + i)
theorem irow_len (lo : Int) (n : Nat) : (irow lo n).length = n := by simp [irow]
theorem it_rng {lo : Int} {n : Nat} : ItD L (Itr lo n) H (irow lo n) := by
  refine ⟨fun _ => True, YFn fun i => .int (lo + i), ?_, trivial, fun _ _ _ q => q, fun i H1 x H2 hi k q y => ?_⟩
  · rw [irow_len]; exact walk_range
  · obtain ⟨rfl, rfl⟩ := y
    rw [irow_len] at hi
    exact ⟨Same.refl _, .int (lo + i), by simp [irow, hi], .int _⟩
/-- pairs of places and items -/
def pairsOf (ds : List PyData) : List PyData := (List.range ds.length).map fun (i : Nat) => .tuple [.int i, ds.getD i .none]
theorem pairs_len (ds : List PyData) : (pairsOf ds).length = ds.length := by simp [pairsOf]
theorem pairs_get {ds : List PyData} {i : Nat} {d : PyData} (h : ds[i]? = some d) : (pairsOf ds)[i]? = some (.tuple [.int i, d]) := by
  obtain ⟨hi, e⟩ := List.getElem?_eq_some_iff.mp h
  simp [pairsOf, hi, e]
theorem walk_enT {K : PySem.W.Frag} {xs : List V} : Walk (IteT K a) xs.length (fun H => SqT K H a xs) (YPair (fun i => some (.int (i : Nat))) (fun i => xs[i]?)) := by
  refine ⟨fun i _ hi q => ⟨xs, xs[i], q, by simp [hi]⟩, fun _ q => ⟨xs, q, Nat.le_refl _⟩, fun i H v H' _ q y => ?_⟩
  obtain ⟨T, x, h1, h2, h3, h4⟩ := y
  exact ⟨T, .int (i : Nat), x, h1, h2, h3, rfl, h4 xs q⟩
theorem yp_enum {i : Nat} {H1 H2 : Hp} {x : V} (b : BrA L.K H vs ds) (k : Keep H H1) (y : YPair (fun i => some (.int (i : Nat))) (fun i => vs[i]?) i H1 x H2) : Same H1 H2 ∧ ∃ d, (pairsOf ds)[i]? = some d ∧ Br L.K H2 x d := by
  obtain ⟨T, z, u, rfl, hT, rfl, hz, hu⟩ := y
  cases hz
  obtain ⟨d, e, bd⟩ := b.getV hu
  have sm := same_new (o := .tup [.int (i : Nat), u]) hT
  exact ⟨sm, _, pairs_get e, .tup (.of upd_same) (.cons (.int _) (.cons (Br.keep (k.tr (keep_of_same sm)) _ _ bd) .nil))⟩
theorem it_enF {o : Obj} (h : H a = some (.frz o (.lst vs))) (b : BrA L.K H vs ds) : ItD L (Ite L.K a) H (pairsOf ds) := by
  refine ⟨fun H1 => H1 a = some (.frz o (.lst vs)), _, ?_, h, fun H1 H2 k q => k _ _ q trivial, fun i H1 x H2 hi k q y => yp_enum b k y⟩
  rw [pairs_len, ← b.len]
  exact (walk_enum (K := L.K) (a := a) (xs := vs)).mono (fun H q => .inl (.inr ⟨o, q⟩)) fun i H x H' _ _ y => y
theorem it_enT (h : SqT L.K H a vs) (b : BrA L.K H vs ds) : ItD L (IteT L.K a) H (pairsOf ds) := by
  refine ⟨fun H1 => SqT L.K H1 a vs, _, ?_, h, fun H1 H2 k q => sqT_keep k q, fun i H1 x H2 hi k q y => yp_enum b k y⟩
  rw [pairs_len, ← b.len]; exact walk_enT
end
def dISeq (t : TEd) : TId := fun ρ Q => t ρ fun s ρ1 => ∃ ds, (s = .d (.list ds) ∨ s = .d (.tuple ds)) ∧ Q ds ρ1
def dIEnum (t : TEd) : TId := fun ρ Q => t ρ fun s ρ1 => ∃ ds, (s = .d (.list ds) ∨ s = .d (.tuple ds)) ∧ Q (pairsOf ds) ρ1
def dIRng (t : TEd) : TId := fun ρ Q => t ρ fun s ρ1 => ∃ j, s = .d (.int j) ∧ j < 2 ^ 60 ∧ -(2 ^ 60) < j ∧ Q (irow 0 j.toNat) ρ1
def dIRng2 (t u : TEd) : TId := fun ρ Q => t ρ fun s ρ1 => u ρ1 fun s2 ρ2 => ∃ i j, s = .d (.int i) ∧ s2 = .d (.int j) ∧ (-(2 ^ 60) < i ∧ i < 2 ^ 60 ∧ -(2 ^ 60) < j ∧ j < 2 ^ 60) ∧ Q (irow i (j - i).toNat) ρ2
section
variable {X : Cx} {L : Lay} {tg e a b : Expr} {t u : TEd} {pos p : Pos}
theorem di_seq (hK : L.K = X.K) (h : PE X e (tE L t)) : PI X tg e (tI L (dISeq t)) := by
  constructor
  intro pins s σ H R I q
  obtain ⟨ρ, Q, r, q, fin⟩ := q
  refine thn (h.run pins s σ H (fun v H1 => ∃ ds ρ', Go σ ρ ρ' H H1 ∧ Rel L H1 σ ρ' ∧ (Br L.K H1 v (.list ds) ∨ Br L.K H1 v (.tuple ds)) ∧ Q ds ρ') I ⟨ρ, _, r, q, fun v H' sv ρ' go r' hv q' => ?_⟩) fun uv s1 z => ?_
  · obtain ⟨ds, hd, q2⟩ := q'
    rcases hd with rfl | rfl
    · exact ⟨ds, ρ', go, r', .inl hv, q2⟩
    · exact ⟨ds, ρ', go, r', .inr hv, q2⟩
  · obtain ⟨v, H1, I1, rv, ds, ρ', go, r', hd, q2⟩ := z
    have fp : ∀ b ∈ [s1.heap.objs.size], FpOk X pins H1 b := fun b hb => by
      rw [List.mem_singleton.mp hb]
      exact I1.fpOk (Nat.le_refl _) (I1.hok.fresh (Nat.le_refl _))
    rcases hd with hd | hd
    · cases hd with
      | lst h1 h2 h3 =>
        cases rv
        obtain ⟨its, rv, pl, hz⟩ := I1.list (.inl (.inr ⟨_, h1⟩))
        refine wpAny_pyIter_list pl.isList ?_
        have it := fin _ H1 ds ρ' go r' q2 (it_frz h1 h3)
        rw [hK] at it
        exact ⟨s1.heap.objs.size, [s1.heap.objs.size], _, _, H1, rfl, I1.kept (t' := s1.toks) fun b o e => Heap.get?_push_of_some _ e, turn_list _ _, ⟨_, Heap.get?_push_size _ rfl, rfl, rfl⟩, fp, it⟩
    · cases hd with
      | tup h1 h3 =>
        cases rv
        have h1' := h1
        rw [hK] at h1
        obtain ⟨its, rv, pl, hz⟩ := I1.tuple h1
        refine wpAny_pyIter_tuple (show s1.heap.IsTuple _ its.toArray from pl) ?_
        have it := fin _ H1 ds ρ' go r' q2 (it_tup h1' h3)
        rw [hK] at it
        exact ⟨s1.heap.objs.size, [s1.heap.objs.size], _, _, H1, rfl, I1.kept (t' := s1.toks) fun b o e => Heap.get?_push_of_some _ e, turn_tuple _ _, ⟨_, Heap.get?_push_size _ rfl, rfl, rfl⟩, fp, it⟩
theorem di_enum {elts : List Expr} {kk : Nat} {tpos : Pos} (hK : L.K = X.K) (hg : Gl X "enumerate") (hm : X.mg "enumerate" = none) (h : PE X e (tE L t)) (hs : starEach [e] X.env = [(false, eval e X.env)] := by rfl) :
    PI X (.Tuple elts kk tpos) (.Call (.Name "enumerate" p) [e] [] pos) (tI L (dIEnum t)) := by
  constructor
  intro pins s σ H R I q
  obtain ⟨ρ, Q, r, q, fin⟩ := q
  refine Call_ (ld_blt I hg hm boot_enumerate (PyProof.Rows.callWith_type1 (thn ((pa_cons h pa_nil (by rw [hs]; rfl)).run pos pins s σ H (fun vs H1 => ∃ v ds ρ', vs = [v] ∧ Go σ ρ ρ' H H1 ∧ Rel L H1 σ ρ' ∧ (Br L.K H1 v (.list ds) ∨ Br L.K H1 v (.tuple ds)) ∧ Q (pairsOf ds) ρ') I ⟨ρ, _, r, q, fun v H' sv ρ' go r' hv q' => ?_⟩) fun us s1 z => ?_) hs rfl))
  · obtain ⟨ds, hd, q2⟩ := q'
    rcases hd with rfl | rfl
    · exact ⟨v, ds, ρ', rfl, go, r', .inl hv, q2⟩
    · exact ⟨v, ds, ρ', rfl, go, r', .inr hv, q2⟩
  · obtain ⟨vs, H1, I1, rvs, v, ds, ρ', rfl, go, r', hd, q2⟩ := z
    obtain ⟨uv, rfl, rv⟩ := vals1 rvs
    have fp : ∀ b ∈ [s1.heap.objs.size + 1, s1.heap.objs.size], FpOk X pins H1 b := fun b hb => by
      have hle : s1.heap.objs.size ≤ b := by
        rcases List.mem_cons.mp hb with z | z
        · rw [z]; exact Nat.le_add_right _ _
        · rw [List.mem_singleton.mp z]; exact Nat.le_refl _
      exact I1.fpOk hle (I1.hok.fresh hle)
    rcases hd with hd | hd
    · cases hd with
      | lst h1 h2 h3 =>
        cases rv
        obtain ⟨its, rv, pl, hz⟩ := I1.list (.inl (.inr ⟨_, h1⟩))
        have it := fin _ H1 _ ρ' go r' q2 (it_enF h1 h3)
        rw [hK] at it
        refine call_enum_one (begins_list _ its.toArray) pl.isList fun h' he hit hk => wpAny_pyIter_enum he ?_
        exact ⟨s1.heap.objs.size + 1, _, _, _, H1, rfl, I1.kept (t' := s1.toks) hk, turn_enum _ (s1.heap.objs.size + 1) s1.heap.objs.size, ⟨⟨.none, he⟩, ⟨_, hit, rfl, rfl⟩, Nat.succ_ne_self _⟩, fp, it⟩
    · cases hd with
      | tup h1 h3 =>
        cases rv
        have h1' := h1
        rw [hK] at h1
        obtain ⟨its, rv, pl, hz⟩ := I1.tuple h1
        have it := fin _ H1 _ ρ' go r' q2 (it_enT h1' h3)
        rw [hK] at it
        refine call_enum_one (begins_tuple _ its.toArray) (show s1.heap.IsTuple _ its.toArray from pl) fun h' he hit hk => wpAny_pyIter_enum he ?_
        exact ⟨s1.heap.objs.size + 1, _, _, _, H1, rfl, I1.kept (t' := s1.toks) hk, turn_enumT _ (s1.heap.objs.size + 1) s1.heap.objs.size, ⟨⟨.none, he⟩, ⟨_, hit, rfl, rfl⟩, Nat.succ_ne_self _⟩, fp, it⟩
theorem di_rng (hg : Gl X "range") (hm : X.mg "range" = none) (h : PE X a (tE L t)) (hs : starEach [a] X.env = [(false, eval a X.env)] := by rfl) : PI X tg (.Call (.Name "range" p) [a] [] pos) (tI L (dIRng t)) :=
  (pi_range1 hg hm (pa_cons h pa_nil (by rw [hs]; rfl)) hs).less fun σ H R q => by
    obtain ⟨ρ, Q, r, q, fin⟩ := q
    refine ⟨ρ, _, r, q, fun v H1 sv ρ1 go r1 hv q1 => ?_⟩
    obtain ⟨j, rfl, h1, h2, q2⟩ := q1
    have hv : Br L.K H1 v (.int j) := hv
    cases hv
    exact ⟨j, rfl, by omega, by omega, fin _ H1 _ ρ1 go r1 q2 it_rng⟩
theorem di_rng2 (hg : Gl X "range") (hm : X.mg "range" = none) (h : PE X a (tE L t)) (h2 : PE X b (tE L u)) (hs : starEach [a, b] X.env = [(false, eval a X.env), (false, eval b X.env)] := by rfl) (hs2 : starEach [b] X.env = [(false, eval b X.env)] := by rfl) :
    PI X tg (.Call (.Name "range" p) [a, b] [] pos) (tI L (dIRng2 t u)) :=
  (pi_range2 hg hm (pa_cons h (pa_cons h2 pa_nil (by rw [hs2]; rfl)) (by rw [hs, hs2])) hs hs2).less fun σ H R q => by
    obtain ⟨ρ, Q, r, q, fin⟩ := q
    refine ⟨ρ, _, r, q, fun v H1 sv ρ1 go r1 hv q1 => ⟨ρ1, _, r1, q1, fun w H2 sw ρ2 go2 r2 hw q2 => ?_⟩⟩
    obtain ⟨i, j, rfl, rfl, hb, q3⟩ := q2
    have hv : Br L.K H1 v (.int i) := hv
    have hw : Br L.K H2 w (.int j) := hw
    cases hv; cases hw
    exact ⟨i, j, rfl, by omega, fin _ H2 _ ρ2 (go.tr go2) r2 q3 it_rng⟩
end
/-! loops -/
def dLoop (g : DTG) (tb : TSd) (D : EndsD) : List PyData → En → Prop
  | [], ρ => D.nx ρ
  | d :: ds, ρ => g d ρ fun ρ1 => tb { nx := dLoop g tb D ds, ct := dLoop g tb D ds, bk := D.nx, rt := D.rt } ρ1
def dFor (ti : TId) (g : DTG) (tb : TSd) : TSd := fun D ρ => ti ρ fun ds ρ1 => dLoop g tb D ds ρ1
def dWhile (c : TTd) (tb : TSd) : TSd := fun D ρ => ∃ W : Nat → En → Prop, (∃ m, W m ρ) ∧ ∀ m ρ, W m ρ → c ρ fun b ρ1 => if b = true then tb { nx := fun ρ' => ∃ m', m' < m ∧ W m' ρ', ct := fun ρ' => ∃ m', m' < m ∧ W m' ρ', bk := D.nx, rt := D.rt } ρ1 else D.nx ρ1
section
variable {X : Cx} {L : Lay} {tg iter c : Expr} {body : List Stmt} {ti : TId} {g : DTG} {tb : TSd} {tc : TTd} {pos : Pos}
theorem ds_for (gd : Good X) (hp : PassesOwn (model X.prog X.w) X.A X.env X.xe) (hi : PI X tg iter (tI L ti)) (hg : PG X tg (tG L g)) (hb : PSs X body (tS L tb)) (hs : ∀ x, foldedSetIterable iter X.env x = pure x := by intro _; rfl) :
    PS X (.For tg iter body [] pos) (tS L (dFor ti g tb)) := (ps_for hp gd.calm hi hg hb hs).less fun D σ H q => by
  obtain ⟨ρ, De, r, q, h1, h2, h3, h4⟩ := q
  refine ⟨ρ, _, r, q, fun J H1 ds ρ1 go r1 q1 it => ?_⟩
  have k0 := go.keep r
  obtain ⟨G, Y, wk, g0, gk, step⟩ := it
  refine for_it wk (fun i σ' H' => Keep H1 H' ∧ ∃ ρ', Rel L H' σ' ρ' ∧ dLoop g tb De (ds.drop i) ρ') ⟨Keep.rfl' H1, ρ1, r1, q1⟩ (fun i σ' H' _ ⟨k, _⟩ => gk _ _ k g0) (fun i x σ' H' H2 hi ⟨k, ρ', r', ql⟩ hy => ?_) fun σ' H' ⟨k, ρ', r', ql⟩ => ?_
  · obtain ⟨sm, d, hd, bd⟩ := step i H' x H2 hi k (gk _ _ k g0) hy
    have e : ds.drop i = d :: ds.drop (i + 1) := by
      obtain ⟨hi', e⟩ := List.getElem?_eq_some_iff.mp hd
      rw [List.drop_eq_getElem_cons hi', e]
    rw [e] at ql
    have kk := (k.tr (keep_of_same sm))
    refine ⟨ρ', d, _, r'.go sm, bd, ql, fun σ2 ρ2 r2 n => ⟨ρ2, _, r2, n, fun σ3 H4 ρ3 k4 r3 n3 => ⟨kk.tr k4, ρ3, r3, n3⟩, fun v H4 s k4 => h2 v H4 s (k0.tr (kk.tr k4)), fun σ3 H4 ρ3 k4 r3 n3 => h1 _ _ ρ3 (k0.tr (kk.tr k4)) r3 n3, fun σ3 H4 ρ3 k4 r3 n3 => ⟨kk.tr k4, ρ3, r3, n3⟩⟩⟩
  · rw [List.drop_length] at ql
    exact h1 _ _ ρ' (k0.tr k) r' ql
theorem ds_while (hp : PassesOwn (model X.prog X.w) X.A X.env X.xe) (hc : PT X c (tT L tc)) (hb : PSs X body (tS L tb)) : PS X (.While c body [] pos) (tS L (dWhile tc tb)) := (ps_while hp hc hb).less fun D σ H q => by
  obtain ⟨ρ, De, r, ⟨W, ⟨m0, w0⟩, turn⟩, h1, h2, h3, h4⟩ := q
  refine ⟨fun m σ' H' => Keep H H' ∧ ∃ ρ', Rel L H' σ' ρ' ∧ W m ρ', ⟨m0, Keep.rfl' H, ρ, r, w0⟩, fun m σ' H' ⟨k, ρ', r', w⟩ => ?_⟩
  refine ⟨ρ', _, r', turn m ρ' w, fun b H2 ρ2 go r2 n => ?_⟩
  have kk := k.tr (go.keep r')
  cases b with
  | false =>
    refine iteF ?_
    exact h1 _ _ ρ2 kk r2 (by simpa using n)
  | true =>
    refine iteT ?_
    refine ⟨fun σ3 H3 => ∃ m', m' < m ∧ Keep H H3 ∧ ∃ ρ3, Rel L H3 σ3 ρ3 ∧ W m' ρ3, fun σ3 H3 ⟨m', hm, z⟩ => ⟨m', hm, z⟩, ρ2, { nx := fun ρ' => ∃ m', m' < m ∧ W m' ρ', ct := fun ρ' => ∃ m', m' < m ∧ W m' ρ', bk := De.nx, rt := De.rt }, r2, by simpa using n, fun σ3 H3 ρ3 k3 r3 ⟨m', hm, w3⟩ => ⟨m', hm, kk.tr k3, ρ3, r3, w3⟩, fun v H3 s k3 => h2 v H3 s (kk.tr k3), fun σ3 H3 ρ3 k3 r3 n3 => h1 _ _ ρ3 (kk.tr k3) r3 n3, fun σ3 H3 ρ3 k3 r3 ⟨m', hm, w3⟩ => ⟨m', hm, kk.tr k3, ρ3, r3, w3⟩⟩
end
end GB

namespace GB
open PySem PySem.Spec PyProof.Rows L2

/-! methods of lists of one's own -/
def dAppend (i : Nat) (t : TEd) : TEd := fun ρ Q => (∃ ys, ρ[i]? = some (.own ys)) ∧ t ρ fun s ρ1 => ∃ x xs, s = .d x ∧ ρ1[i]? = some (.own xs) ∧ xs.length < sizeLine ∧ Q (.d .none) (ρ1.set i (.own (xs ++ [x])))
def dPop (i : Nat) : TEd := fun ρ Q => ∃ xs x, ρ[i]? = some (.own xs) ∧ xs[xs.length - 1]? = some x ∧ Q (.d x) (ρ.set i (.own xs.dropLast))
def dPopAt (i : Nat) (t : TEd) : TEd := fun ρ Q => (∃ ys, ρ[i]? = some (.own ys)) ∧ t ρ fun s ρ1 => ∃ j k x xs, s = .d (.int j) ∧ ρ1[i]? = some (.own xs) ∧ -(2 ^ 62) < j ∧ j < 2 ^ 62 ∧ seqIndex? j xs.length = some k ∧ xs[k]? = some x ∧ Q (.d x) (ρ1.set i (.own (xs.eraseIdx k)))
def dExtend (i : Nat) (t : TEd) : TEd := fun ρ Q => (∃ ys, ρ[i]? = some (.own ys)) ∧ t ρ fun s ρ1 => ∃ zs xs, s = .d (.list zs) ∧ ρ1[i]? = some (.own xs) ∧ xs.length + zs.length ≤ sizeLine ∧ Q (.d .none) (ρ1.set i (.own (xs ++ zs)))
section
variable {L : Lay} {H H1 : Hp} {σ : L2.St} {ρ ρ1 : En}
theorem Go.putW (go : Go σ ρ ρ1 H H1) {i : Nat} {xs ys zs : Ow} {l : Addr} {w : HO} (h0 : ρ[i]? = some (.ow zs)) (h : ρ1[i]? = some (.ow xs)) (hi : σ[i]? = some (some (.ref l))) :
    Go σ ρ (ρ1.set i (.ow ys)) H (upd H1 l w) := by
  refine ⟨fun a o q n => ?_, fun j as q => ?_, fun a q => ?_⟩
  · rw [upd_ne (fun z => n i zs h0 (by rw [z]; exact hi))]; exact go.stay a o q n
  · by_cases hj : i = j
    · subst hj; exact ⟨zs, h0⟩
    · rw [get_set, if_neg hj] at q; exact go.less j as q
  · by_cases z : a = l
    · rw [z, upd_same] at q; cases q
    · rw [upd_ne z] at q; exact go.dom a q
theorem Go.put (go : Go σ ρ ρ1 H H1) {i : Nat} {xs ys zs : List PyData} {l : Addr} {vs ws : List V} (h0 : ρ[i]? = some (.own zs)) (h : ρ1[i]? = some (.own xs)) (hi : σ[i]? = some (some (.ref l))) (hl : H1 l = some (.lst vs)) :
    Go σ ρ (ρ1.set i (.own ys)) H (upd H1 l (.lst ws)) := go.putW h0 h hi
end
section
variable {X : Cx} {L : Lay} {pos p apos cpos : Pos} {o e : Expr} {t : TEd} {i : Nat}
theorem own_ty {pins : List (Addr × Obj)} {K : PySem.W.Frag} {H : Hp} {l : Addr} {vs : List V} (h : H l = some (.lst vs)) : tyV K "list" (.ref l) H := .inl ⟨rfl, _, .inl (.inl h)⟩
theorem mr_of {id : String} {r : V → List V → Hp → VK → Prop} (h : MtM X id r) : MtR X id r := h
theorem de_append (ho : PE X o (tVar i)) (he : PE X e (tE L t)) (hs : starEach [e] X.env = (false, eval e X.env) :: starEach [] X.env := by rfl) (hbase : attributeBase o "append" X.env (eval o X.env) = eval o X.env := by rfl)
    (hfew : ((backTo cpos (starEach [e] X.env)).all (fun x => !x.1) && (backToKw cpos (keywordEach [] X.env)).all (fun x => x.1.isSome) && decide ([e].length + ([] : List Keyword).length + (if ([] : List Keyword).isEmpty then 0 else 1) < 30)) = true := by rfl)
    (hline : (apos.endLine == cpos.line) = true := by rfl) (hpl : (backTo cpos (starEach [] X.env)).any (·.1) = false := by rfl) : PE X (.Call (.Attribute o "append" apos) [e] [] cpos) (tE L (dAppend i t)) :=
  (pe_bm PySem.F.plainAttrs_list PySem.F.slot_list_append PySem.F.type_list_append mt_append ho (pa_cons he pa_nil hs) hbase hfew hline hs hpl).less fun σ H Q' q => by
    obtain ⟨ρ, Q, r, ⟨⟨ys, ey⟩, q⟩, fin⟩ := q
    obtain ⟨l, vs, hi, hl, _⟩ := r.getO ey
    refine ⟨_, hi, own_ty (pins := []) hl, ρ, _, r, q, fun v H1 s ρ1 go r1 hv q1 => ?_⟩
    obtain ⟨x, xs, rfl, ex, hz, q2⟩ := q1
    obtain ⟨l', ws, hi', hl', hb, _⟩ := r1.getO ex
    rw [hi] at hi'; cases hi'
    obtain ⟨r2, k2⟩ := r1.put ex hi hl' (hb.app (BrA.one hv))
    exact ⟨l, ws, v, rfl, rfl, hl', by rw [hb.len]; exact hz, fin .non _ (.d .none) _ (go.put ey ex hi hl') r2 .non q2⟩
theorem de_pop (ho : PE X o (tVar i)) (hbase : attributeBase o "pop" X.env (eval o X.env) = eval o X.env := by rfl) (hline : (apos.endLine == cpos.line) = true := by rfl) : PE X (.Call (.Attribute o "pop" apos) [] [] cpos) (tE L (dPop i)) :=
  (pe_bm0 PySem.F.plainAttrs_list PySem.F.slot_list_pop PySem.F.type_list_pop mt_pop ho hbase hline).less fun σ H Q' q => by
    obtain ⟨ρ, Q, r, ⟨xs, x, ex, hx, q⟩, fin⟩ := q
    obtain ⟨l, vs, hi, hl, hb, _⟩ := r.getO ex
    obtain ⟨v, hv, bv⟩ := hb.get hx
    obtain ⟨r2, k2⟩ := r.put ex hi hl hb.dropLast
    refine ⟨_, hi, own_ty (pins := []) hl, l, vs, v, rfl, rfl, hl, by rw [hb.len]; exact hv, fin v _ (.d x) _ (Go.rf.put ex ex hi hl) r2 (Br.keep k2 _ _ bv) q⟩
theorem de_popAt (ho : PE X o (tVar i)) (he : PE X e (tE L t)) (hs : starEach [e] X.env = (false, eval e X.env) :: starEach [] X.env := by rfl) (hbase : attributeBase o "pop" X.env (eval o X.env) = eval o X.env := by rfl)
    (hfew : ((backTo cpos (starEach [e] X.env)).all (fun x => !x.1) && (backToKw cpos (keywordEach [] X.env)).all (fun x => x.1.isSome) && decide ([e].length + ([] : List Keyword).length + (if ([] : List Keyword).isEmpty then 0 else 1) < 30)) = true := by rfl)
    (hline : (apos.endLine == cpos.line) = true := by rfl) (hpl : (backTo cpos (starEach [] X.env)).any (·.1) = false := by rfl) : PE X (.Call (.Attribute o "pop" apos) [e] [] cpos) (tE L (dPopAt i t)) :=
  (pe_bm PySem.F.plainAttrs_list PySem.F.slot_list_pop PySem.F.type_list_pop mt_popAt ho (pa_cons he pa_nil hs) hbase hfew hline hs hpl).less fun σ H Q' q => by
    obtain ⟨ρ, Q, r, ⟨⟨ys, ey⟩, q⟩, fin⟩ := q
    obtain ⟨l, vs, hi, hl, _⟩ := r.getO ey
    refine ⟨_, hi, own_ty (pins := []) hl, ρ, _, r, q, fun v H1 s ρ1 go r1 hv q1 => ?_⟩
    obtain ⟨j, k, x, xs, rfl, ex, b1, b2, hk, hx, q2⟩ := q1
    have hv : Br L.K H1 v (.int j) := hv
    cases hv
    obtain ⟨l', ws, hi', hl', hb, _⟩ := r1.getO ex
    rw [hi] at hi'; cases hi'
    obtain ⟨v, hv, bv⟩ := hb.get hx
    obtain ⟨r2, k2⟩ := r1.put ex hi hl' (hb.erase k)
    exact ⟨l, ws, j, k, v, rfl, rfl, hl', by omega, by omega, by rw [hb.len]; exact hk, hv, fin v _ (.d x) _ (go.put ey ex hi hl') r2 (Br.keep k2 _ _ bv) q2⟩
end

/-! a, b = x, y with plain local names -/
def dPar (i j : Nat) (t1 t2 : TEd) : TSd := fun D ρ => t1 ρ fun s1 ρ1 => t2 ρ1 fun s2 ρ2 => D.nx ((ρ2.set i s1).set j s2)
section
variable {L : Lay} {H H1 H2 : Hp} {σ : L2.St} {ρ ρ1 ρ2 : En}
theorem VR.later (r : Rel L H σ ρ) (g1 : Go σ ρ ρ1 H H1) (r1 : Rel L H1 σ ρ1) (g2 : Go σ ρ1 ρ2 H1 H2) {v : V} {s : S} (h : VR L H H1 v s) : VR L H H2 v s := by
  cases s with
  | un => exact h
  | d x => exact Br.keep (g2.keep r1) _ _ h
  | ob t => exact FR.keep (s := .ob t) (g2.keep r1) h
  | ow xs =>
    obtain ⟨hw, hn⟩ := h
    refine ⟨hw.keep (g2.keep r1) fun l u el h1 => g2.stay l _ h1 fun i ys e z => ?_, hn⟩
    subst el
    obtain ⟨zs, e'⟩ := g1.less i ys e
    obtain ⟨l', vs', q1, q2, _⟩ := r.getW e'
    rw [q1] at z; cases z
    rw [hn l rfl] at q2; cases q2
/-- the slots' own lists stood at Hs already -/
def Old (Hs : Hp) (σ : L2.St) (ρ : En) : Prop := ∀ (k : Nat) (ys : Ow), ρ[k]? = some (.ow ys) → ∀ l, σ[k]? = some (some (.ref l)) → Hs l ≠ none
theorem Rel.old (r : Rel L H σ ρ) (g : Go σ ρ ρ1 H H1) : Old H σ ρ1 := fun k ys e l hl hn => by
  obtain ⟨zs, e'⟩ := g.less k ys e
  obtain ⟨l', vs', q1, q2, _⟩ := r.getW e'
  rw [hl] at q1; cases q1
  rw [hn] at q2; cases q2
theorem Rel.put1 {Hs : Hp} {σ' : L2.St} {ρ' : En} (r : Rel L H2 σ' ρ') (o : Old Hs σ' ρ') {j : Nat} {v : V} {s : S} (h : VR L Hs H2 v s) : Rel L H2 (σ'.set j (some v)) (ρ'.set j s) := by
  cases s with
  | un => exact h.elim
  | d x => exact r.setF h
  | ob t => exact r.setF h
  | ow xs =>
    refine r.setO h.1 fun k ys e z => ?_
    obtain ⟨l, vs, rfl, _⟩ := h.1.any
    exact o k ys e l z (h.2 l rfl)
theorem Old.set {Hs Hm : Hp} {σ' : L2.St} {ρ' : En} (o : Old Hs σ' ρ') (up : ∀ a, Hm a = none → Hs a = none) {i : Nat} {v : V} {s : S} (h : ∀ l, v = .ref l → ∀ xs, s = .ow xs → Hm l ≠ none) : Old Hm (σ'.set i (some v)) (ρ'.set i s) := fun k ys e l z => by
  by_cases hk : i = k
  · subst hk
    rw [get_set, if_pos rfl] at e z
    split at e
    · split at z
      · cases e; cases z
        exact h l rfl ys rfl
      · cases z
    · cases e
  · rw [get_set, if_neg hk] at e z
    exact fun q => o k ys e l z (up l q)
theorem VR.there {Hs Hm : Hp} {v : V} {s : S} (h : VR L Hs Hm v s) : ∀ l, v = .ref l → ∀ xs, s = .ow xs → Hm l ≠ none := fun l e xs es q => by
  subst es
  obtain ⟨l', vs, e2, h1, _⟩ := h.1.any
  rw [e2] at e; cases e
  rw [q] at h1; cases h1
end
section
variable {X : Cx} {L : Lay} {a b : Expr} {t1 t2 : TEd} {pos : Pos}
theorem ds_par {i j : Nat} {x y : Str} {px py pt : Pos} {kt k2 pt2} (g : Good X) (hi : X.N[i]? = some x) (hj : X.N[j]? = some y) (hij : i ≠ j) (hx : X.env.scope.names.lookup x = some .local) (hy : X.env.scope.names.lookup y = some .local)
    (ha : PE X a (tE L t1)) (hb : PE X b (tE L t2)) (hw : swappedStores [.Tuple [.Name x px, .Name y py] kt pt] (.Tuple [a, b] k2 pt2) X.env = pure (some [x, y]))
    (h1 : starEach [a, b] X.env = (false, eval a X.env) :: starEach [b] X.env := by rfl) (h2 : starEach [b] X.env = (false, eval b X.env) :: starEach [] X.env := by rfl)
    (hs : swapsWithSole [.Tuple [.Name x px, .Name y py] kt pt] (.Tuple [a, b] k2 pt2) pos.line X.env = pure false := by rfl) :
    PS X (.Assign [.Tuple [.Name x px, .Name y py] kt pt] (.Tuple [a, b] k2 pt2) pos) (tS L (dPar i j t1 t2)) :=
  (ps_par g.calm g.nd hi hj hij hx hy (pa_cons ha (pa_cons hb pa_nil h2) h1) hw hs).less fun D σ H q => by
    obtain ⟨ρ, De, r, q, n1, _⟩ := q
    refine ⟨ρ, _, r, q, fun v H1 s ρ1 go r1 hv q1 => ⟨ρ1, _, r1, q1, fun w H2 s2 ρ2 go2 r2 hw q2 => ⟨v, w, rfl, ?_⟩⟩⟩
    have hv2 := hv.later r go r1 go2
    have ra := r2.put1 (j := i) (r.old (go.tr go2)) hv2
    have rb := ra.put1 (j := j) ((r.old (go.tr go2)).set (Hm := H1) (go.dom) hv.there) hw
    exact n1 _ _ _ ((go.tr go2).keep r) rb q2
end
end GB

namespace GB
open PySem PySem.Spec PyProof.Rows L2

/-! comprehensions -/
def wipeD (ρ : En) : List Nat → En
  | [] => ρ
  | v :: vs => (wipeD ρ vs).set v .un
theorem wipeD_get (ρ : En) (j : Nat) : ∀ vs : List Nat, (wipeD ρ vs)[j]? = if j ∈ vs then (if j < ρ.length then some .un else none) else ρ[j]?
  | [] => by simp [wipeD]
  | v :: vs => by
    have hl : ∀ vs : List Nat, (wipeD ρ vs).length = ρ.length := fun vs => by
      induction vs with
      | nil => rfl
      | cons a r ih => simp [wipeD, ih]
    unfold wipeD
    rw [get_set, hl, wipeD_get ρ j vs]
    by_cases h : v = j
    · subst h; simp
    · have : ¬ j = v := fun e => h e.symm
      simp [h, this]
theorem wipeD_len (ρ : En) : ∀ vs : List Nat, (wipeD ρ vs).length = ρ.length
  | [] => rfl
  | v :: vs => by simp [wipeD, wipeD_len ρ vs]
theorem wipe_get (σ : L2.St) (j : Nat) : ∀ vs : List Nat, (wipe σ vs)[j]? = if j ∈ vs then (if j < σ.length then some none else none) else σ[j]?
  | [] => by simp [wipe]
  | v :: vs => by
    unfold wipe
    rw [get_set, wipe_length, wipe_get σ j vs]
    by_cases h : v = j
    · subst h; simp
    · have : ¬ j = v := fun e => h e.symm
      simp [h, this]
section
variable {L : Lay} {H H' : Hp} {σ σ' : L2.St} {ρ : En} {vs : List Nat}
/-- only what is not forgotten counts -/
theorem Rel.move (r : Rel L H σ (wipeD ρ vs)) (hl : σ'.length = σ.length) (h : ∀ j, j ∉ vs → σ'[j]? = σ[j]?) : Rel L H σ' (wipeD ρ vs) := by
  have out : ∀ (j : Nat) (s : S), (wipeD ρ vs)[j]? = some s → s ≠ .un → j ∉ vs := fun j s e n m => by
    rw [wipeD_get, if_pos m] at e
    split at e
    · cases e; exact n rfl
    · cases e
  refine ⟨by rw [hl]; exact r.len, fun j s e => ?_, fun i j xs ys e1 e2 e3 => ?_, r.same⟩
  · by_cases hs : s = .un
    · subst hs; trivial
    · rw [h j (out j s e hs)]; exact r.at' j s e
  · rw [h i (out i _ e1 (by intro z; cases z)), h j (out j _ e2 (by intro z; cases z))] at e3
    exact r.sep i j xs ys e1 e2 e3
theorem Rel.wiped (r : Rel L H σ ρ) : Rel L H σ (wipeD ρ vs) := by
  have sub : ∀ (j : Nat) (s : S), (wipeD ρ vs)[j]? = some s → s = .un ∨ ρ[j]? = some s := fun j s e => by
    rw [wipeD_get] at e
    split at e
    · split at e
      · cases e; exact .inl rfl
      · cases e
    · exact .inr e
  refine ⟨by rw [wipeD_len]; exact r.len, fun j s e => ?_, fun i j xs ys e1 e2 e3 => ?_, r.same⟩
  · rcases sub j s e with rfl | e
    · trivial
    · exact r.at' j s e
  · rcases sub i _ e1 with q | q1
    · cases q
    · rcases sub j _ e2 with q | q2
      · cases q
      · exact r.sep i j xs ys q1 q2 e3
theorem wipe_out (σ : L2.St) (vs : List Nat) : ∀ j, j ∉ vs → (wipe σ vs)[j]? = σ[j]? := fun j h => by rw [wipe_get, if_neg h]
/-- outside of the lists that slots own -/
theorem Go.wiped (go : Go σ ρ ρ H H') : Go σ ρ (wipeD ρ vs) H H' := ⟨go.stay, fun i xs e => by
  rw [wipeD_get] at e
  split at e
  · split at e <;> cases e
  · exact ⟨xs, e⟩, go.dom⟩
end
def dLcGo (vs : List Nat) (g : DTG) (tt : TTd) (te : TEd) (ρw : En) (Q : List PyData → Prop) : List PyData → List PyData → Prop
  | [], acc => Q acc
  | d :: ds, acc => g d ρw fun ρ2 => wipeD ρ2 vs = ρw ∧ tt ρ2 fun b ρ3 => ρ3 = ρ2 ∧ if b = true then te ρ2 fun s ρ4 => ρ4 = ρ2 ∧ ∃ y, s = .d y ∧ dLcGo vs g tt te ρw Q ds (acc ++ [y]) else dLcGo vs g tt te ρw Q ds acc
def dLc (ti : TId) (vs : List Nat) (g : DTG) (tt : TTd) (te : TEd) : TEd := fun ρ Q => ti ρ fun ds ρ1 => ds.length ≤ sizeLine ∧ dLcGo vs g tt te (wipeD ρ1 vs) (fun acc => Q (.own acc) (wipeD ρ1 vs)) ds []
def dYes : TTd := fun ρ Q => Q true ρ
theorem _root_.L2.PTs.less {X : Cx} {e : List Expr} {t t2 : TT} (h : PTs X e t) (w : ∀ σ H Q, t2 σ H Q → t σ H Q) : PTs X e t2 := ⟨fun pins s σ H Q I q => h.run pins s σ H Q I (w _ _ _ q)⟩
theorem dts_nil {X : Cx} {L : Lay} : PTs X [] (tT L dYes) := pts_nil.less fun σ H Q' h => by
  obtain ⟨ρ, Q, r, q, fin⟩ := h
  exact fin true H ρ Go.rf r q
theorem dts_one {X : Cx} {L : Lay} {c : Expr} {t : TTd} (h : PT X c (tT L t)) : PTs X [c] (tT L t) := pts_one h
section
variable {L : Lay} {ti : TId} {vs : List Nat} {g : DTG} {tt : TTd} {te : TEd}
/-- in these slots there is no list of one's own -/
def NoOwn (vs : List Nat) (ρ : En) : Prop := ∀ j, j ∈ vs → ∀ xs, ρ[j]? ≠ some (.ow xs)
theorem noOwn_wiped (ρ : En) : NoOwn vs (wipeD ρ vs) := fun j hj xs e => by
  rw [wipeD_get, if_pos hj] at e
  split at e <;> cases e
/-- target assignments touch no slot but the block's own -/
def GOwn (L : Lay) (vs : List Nat) (tg : TG) (g : DTG) : Prop := ∀ {H : Hp} {σ : L2.St} {ρ : En} {v : V} {d : PyData} {Q : En → Prop} {Q' : L2.St → Hp → Prop}, Rel L H σ ρ → NoOwn vs ρ → Br L.K H v d → g d ρ Q →
  (∀ σ' ρ', Rel L H σ' ρ' → NoOwn vs ρ' → Q ρ' → wipe σ' vs = wipe σ vs → Q' σ' H) → tg v σ H Q'
theorem wipe_set {σ : L2.St} {i : Nat} {o : Option V} (h : i ∈ vs) : wipe (σ.set i o) vs = wipe σ vs := by
  apply List.ext_getElem?
  intro j
  rw [wipe_get, wipe_get, List.length_set]
  split
  · rfl
  · rename_i hj
    rw [get_set, if_neg (show ¬ i = j from fun e => hj (e ▸ h))]
theorem gown_name {i : Nat} (h : i ∈ vs) : GOwn L vs (gName i) (dgName i) := fun r n b q fin => by
  refine fin _ _ (r.setF (s := .d _) b) (fun j hj xs e => ?_) q (wipe_set h)
  by_cases hij : i = j
  · subst hij; rw [get_set, if_pos rfl] at e; split at e <;> cases e
  · rw [get_set, if_neg hij] at e; exact n j hj xs e
def GOwns (L : Lay) (vs : List Nat) (tg : TGs) (g : DTGs) : Prop := ∀ {H : Hp} {σ : L2.St} {ρ : En} {us : List V} {ds : List PyData} {Q : En → Prop} {Q' : L2.St → Hp → Prop}, Rel L H σ ρ → NoOwn vs ρ → BrA L.K H us ds → g ds ρ Q →
  (∀ σ' ρ', Rel L H σ' ρ' → NoOwn vs ρ' → Q ρ' → wipe σ' vs = wipe σ vs → Q' σ' H) → tg us σ H Q'
theorem gowns_nil : GOwns L vs gNil dgNil := fun r n b q fin => by
  obtain ⟨rfl, q⟩ := q
  cases b
  exact ⟨rfl, fin _ _ r n q rfl⟩
theorem gowns_cons {tg : TG} {tgs : TGs} {g : DTG} {gs : DTGs} (h : GOwn L vs tg g) (h2 : GOwns L vs tgs gs) : GOwns L vs (gCons tg tgs) (dgCons g gs) := fun r n b q fin => by
  obtain ⟨d, rs, rfl, q⟩ := q
  cases b with
  | cons b1 b2 => exact ⟨_, _, rfl, h r n b1 q fun σ' ρ' r' n' q' e => h2 r' n' b2 q' fun σ2 ρ2 r2 n2 q2 e2 => fin σ2 ρ2 r2 n2 q2 (e2.trans e)⟩
theorem gown_tup {k : Nat} {tgs : TGs} {gs : DTGs} (h : GOwns L vs tgs gs) : GOwn L vs (gTup L.K k tgs) (dgTup k gs) := fun r n b q fin => by
  obtain ⟨ds, rfl, hl, q⟩ := q
  cases b with
  | tup h1 h2 => exact ⟨_, _, rfl, h1, by rw [h2.len]; exact hl, h r n h2 q fin⟩
theorem Rel.other {H : Hp} {σ : L2.St} {ρ : En} (r : Rel L H σ ρ) {l : Addr} {us ws : List V} (hl : H l = some (.lst us)) (h0 : L.H0 l = none) (hs : ∀ (i : Nat) (ys : Ow), ρ[i]? = some (.ow ys) → σ[i]? ≠ some (some (.ref l))) : Rel L (upd H l (.lst ws)) σ ρ := by
  have k : Keep H (upd H l (.lst ws)) := keep_put hl trivial
  refine ⟨r.len, fun j z e => ?_, r.sep, same_fix r.same h0⟩
  have q := r.at' j z e
  cases z with
  | un => trivial
  | d x => obtain ⟨v, e2, q⟩ := q; exact ⟨v, e2, Br.keep k _ _ q⟩
  | ow zs =>
    obtain ⟨v, e2, q⟩ := q
    refine ⟨v, e2, q.keep k fun m u' em hu => (upd_ne fun z => ?_).trans hu⟩
    subst em; subst z
    obtain ⟨w, e4, _⟩ := r.get e
    rw [e4] at e2
    refine hs j zs e ?_
    rw [e4]
    exact congrArg some (show w = some (V.ref m) from e2)
  | ob t => obtain ⟨a, e2, q⟩ := q; exact ⟨a, e2, L.J.keep _ _ _ _ k q⟩
theorem lc_read {gt : TG} (hg : GOwn L vs gt g) : ∀ σ H Q', tE L (dLc ti vs g tt te) σ H Q' → tLc (tI L ti) gt (tT L tt) (tE L te) vs σ H Q' := by
  intro σ H Q' q
  obtain ⟨ρ, Q, r, q, fin⟩ := q
  refine ⟨ρ, _, r, q, fun J H1 ds ρ1 go r1 q1 it D hD => ?_⟩
  obtain ⟨hz, q1⟩ := q1
  obtain ⟨G, Y, wk, g0, gk, step⟩ := it
  have rw1 : Rel L H1 (wipe σ vs) (wipeD ρ1 vs) := r1.wiped.move (wipe_length σ vs) (wipe_out σ vs)
  have sD := same_new (o := .lst []) hD
  have d0 : L.H0 D = none := r1.same.free hD
  have dSlot : ∀ (i : Nat) (ys : Ow), (wipeD ρ1 vs)[i]? = some (.ow ys) → (wipe σ vs)[i]? ≠ some (some (.ref D)) := fun i ys e z => by
    obtain ⟨l', us', q1, q2, _⟩ := rw1.getW e
    rw [z] at q1; cases q1
    rw [hD] at q2; cases q2
  refine lc_it wk (fun i H2 => i ≤ ds.length ∧ Keep H1 H2 ∧ Go (wipe σ vs) (wipeD ρ1 vs) (wipeD ρ1 vs) H1 H2 ∧ Rel L H2 (wipe σ vs) (wipeD ρ1 vs) ∧ ∃ acc us, H2 D = some (.lst us) ∧ BrA L.K H2 us acc ∧ acc.length ≤ i ∧ dLcGo vs g tt te (wipeD ρ1 vs) (fun acc => Q (.own acc) (wipeD ρ1 vs)) (ds.drop i) acc)
    ⟨Nat.zero_le _, keep_of_same sD, Go.sm sD, rw1.go sD, [], [], upd_same, .nil, Nat.le_refl _, q1⟩ (fun i H2 _ ⟨_, k, _⟩ => gk _ _ k g0) (fun i x H2 H3 hi ⟨_, k, goi, r2, acc, us, hDl, hb, hacc, ql⟩ hy => ?_) fun H2 ⟨_, k, goi, r2, acc, us, hDl, hb, hacc, ql⟩ => ?_
  · obtain ⟨sm, d, hd, bd⟩ := step i H2 x H3 hi k (gk _ _ k g0) hy
    have e : ds.drop i = d :: ds.drop (i + 1) := by
      obtain ⟨hi', e⟩ := List.getElem?_eq_some_iff.mp hd
      rw [List.drop_eq_getElem_cons hi', e]
    rw [e] at ql
    refine hg (r2.go sm) (noOwn_wiped ρ1) bd ql fun σ2 ρ2 r3 no2 q3 ew => ⟨?_, ?_⟩
    · rw [ew]
      apply List.ext_getElem?
      intro j
      rw [wipe_get, wipe_length, wipe_get]
      split <;> rfl
    · obtain ⟨e2, q3⟩ := q3
      have ew2 : wipe σ2 vs = wipe σ vs := by
        rw [ew]
        apply List.ext_getElem?
        intro j
        rw [wipe_get, wipe_length, wipe_get]
        split <;> rfl
      have lw : σ2.length = σ.length := by
        have := congrArg List.length ew2
        rw [wipe_length, wipe_length] at this; exact this
      have outw : ∀ j, j ∉ vs → (wipe σ vs)[j]? = σ2[j]? := fun j hj => by
        rw [← ew2]; exact wipe_out σ2 vs j hj
      have goback : ∀ {H4 : Hp}, Go σ2 ρ2 ρ2 H3 H4 → Rel L H4 σ2 ρ2 → Go (wipe σ vs) (wipeD ρ1 vs) (wipeD ρ1 vs) H1 H4 ∧ Rel L H4 (wipe σ vs) (wipeD ρ1 vs) ∧ H4 D = some (.lst us) := fun {H4} g4 r4 => by
        have own2 : ∀ (j : Nat) (xs : Ow), ρ2[j]? = some (.ow xs) → j ∉ vs ∧ (wipeD ρ1 vs)[j]? = some (.ow xs) := fun j xs ej => by
          have nj : j ∉ vs := fun m => no2 j m xs ej
          exact ⟨nj, by rw [← e2, wipeD_get, if_neg nj]; exact ej⟩
        refine ⟨⟨fun a o h n => ?_, fun j xs ej => ⟨xs, ej⟩, fun a h => goi.dom a (sm.free (g4.dom a h))⟩, ?_, ?_⟩
        · refine g4.stay a o (sm a o (goi.stay a o h n)) fun j xs ej z => ?_
          obtain ⟨nj, ej'⟩ := own2 j xs ej
          exact n j xs ej' (by rw [outw j nj]; exact z)
        · have := (r4.wiped (vs := vs)).move (σ' := wipe σ vs) (by rw [wipe_length, lw]) outw
          rw [e2] at this; exact this
        · refine g4.stay D _ (sm D _ hDl) fun j xs ej z => ?_
          obtain ⟨nj, ej'⟩ := own2 j xs ej
          exact dSlot j xs ej' (by rw [outw j nj]; exact z)
      refine ⟨ρ2, _, r3, q3, fun b H4 ρ3 go4 r4 q4 => ?_⟩
      obtain ⟨e3, q4⟩ := q4
      subst e3
      obtain ⟨goA, rA, dA⟩ := goback go4 r4
      have k4 : Keep H2 H4 := (keep_of_same sm).tr (go4.keep r3)
      cases b with
      | false => exact iteF ⟨hi, k.tr k4, goA, rA, acc, us, dA, BrA.keep k4 _ _ hb, by omega, by simpa using q4⟩
      | true =>
        refine iteT ⟨ρ3, _, r4, by simpa using q4, fun y H5 s ρ4 go5 r5 hv q5 => ?_⟩
        obtain ⟨e4, y', rfl, q6⟩ := q5
        subst e4
        obtain ⟨goB, rB, dB⟩ := goback (go4.tr go5) r5
        have k5 : Keep H2 H5 := k4.tr (go5.keep r4)
        have kD : Keep H5 (upd H5 D (.lst (us ++ [y]))) := keep_put dB trivial
        have lu := hb.len
        refine ⟨us, dB, by omega, hi, (k.tr k5).tr kD, ⟨fun a o h n => ?_, fun j xs ej => ⟨xs, ej⟩, fun a h => ?_⟩, rB.other dB d0 dSlot, acc ++ [y'], us ++ [y], upd_same, ((BrA.keep (k5.tr kD) _ _ hb).app (BrA.one (Br.keep kD _ _ hv))), by simp; omega, q6⟩
        · rw [upd_ne (fun z => by rw [z, hD] at h; cases h)]; exact goB.stay a o h n
        · by_cases z : a = D
          · rw [z]; exact hD
          · rw [upd_ne z] at h; exact goB.dom a h
  · rw [List.drop_length] at ql
    have goF : Go σ ρ1 (wipeD ρ1 vs) H1 H2 := ⟨fun a o h n => goi.stay a o h fun j xs ej z => by
        by_cases nj : j ∈ vs
        · exact noOwn_wiped ρ1 j nj xs ej
        · rw [wipeD_get, if_neg nj] at ej
          rw [wipe_out σ vs j nj] at z
          exact n j xs ej z, fun j xs ej => by
        by_cases nj : j ∈ vs
        · exact absurd ej (noOwn_wiped ρ1 j nj xs)
        · rw [wipeD_get, if_neg nj] at ej; exact ⟨xs, ej⟩, goi.dom⟩
    exact fin (.ref D) H2 (.own acc) _ (go.tr goF) (r2.move (wipe_length σ vs).symm fun j hj => (wipe_out σ vs j hj).symm) ⟨⟨D, us, rfl, hDl, hb, d0⟩, fun l e => by cases e; exact go.dom _ hD⟩ ql
end
section
variable {X : Cx} {L : Lay} {elt tg iter : Expr} {ifs : List Expr} {scope : Scope} {own : List (Str × Nat)} {pos : Pos} {ti : TId} {g : DTG} {gt : TG} {tt : TTd} {te : TEd}
theorem de_lc (gd : Good X) (hi : PI X tg iter (tI L ti)) (ok : BlkOk X.N X.env.scope scope own)
    (hg : ∀ (s : Shared) (H : Hp) (C : Addr) (cl : List (Str × Addr)) (fp : List Addr), PG (X.blk s H scope (compEnvC scope cl C X.env) fp) tg gt) (ho : GOwn L (own.map (·.2)) gt g)
    (ht : ∀ (s : Shared) (H : Hp) (C : Addr) (cl : List (Str × Addr)) (fp : List Addr), Good (X.blk s H scope (compEnvC scope cl C X.env) fp) → PTs (X.blk s H scope (compEnvC scope cl C X.env) fp) ifs (tT L tt))
    (he : ∀ (s : Shared) (H : Hp) (C : Addr) (cl : List (Str × Addr)) (fp : List Addr), Good (X.blk s H scope (compEnvC scope cl C X.env) fp) → PE (X.blk s H scope (compEnvC scope cl C X.env) fp) elt (tE L te))
    (hs : ∀ x, foldedSetIterable iter X.env x = pure x := by intro _; rfl) : PE X (.ListComp elt [⟨tg, iter, ifs, 0⟩] scope pos) (tE L (dLc ti (own.map (·.2)) g tt te)) :=
  (pe_lc gd.calm gd.nd hi ok hg (fun s H C cl fp => ht s H C cl fp ⟨gd.calm, gd.gd, gd.sys, gd.un, gd.nd⟩) (fun s H C cl fp => he s H C cl fp ⟨gd.calm, gd.gd, gd.sys, gd.un, gd.nd⟩) hs).less (lc_read ho)
theorem ds_setLc {i : Nat} {y : Str} {py spos : Pos} (gd : Good X) (hy : X.N[i]? = some y) (hyl : X.env.scope.names.lookup y = some .local) (hsw : swapsWith (.ListComp elt [⟨tg, iter, ifs, 0⟩] scope pos) (some (.Name y py)) spos.line X.env = pure true)
    (hi : PI X tg iter (tI L ti)) (ok : BlkOk X.N X.env.scope scope own)
    (hg : ∀ (s : Shared) (H : Hp) (C : Addr) (cl : List (Str × Addr)) (fp : List Addr), PG (X.blk s H scope (compEnvC scope cl C X.env) fp) tg gt) (ho : GOwn L (own.map (·.2)) gt g)
    (ht : ∀ (s : Shared) (H : Hp) (C : Addr) (cl : List (Str × Addr)) (fp : List Addr), Good (X.blk s H scope (compEnvC scope cl C X.env) fp) → PTs (X.blk s H scope (compEnvC scope cl C X.env) fp) ifs (tT L tt))
    (he : ∀ (s : Shared) (H : Hp) (C : Addr) (cl : List (Str × Addr)) (fp : List Addr), Good (X.blk s H scope (compEnvC scope cl C X.env) fp) → PE (X.blk s H scope (compEnvC scope cl C X.env) fp) elt (tE L te))
    (hs : ∀ x, foldedSetIterable iter X.env x = pure x := by intro _; rfl) : PS X (.Assign [.Name y py] (.ListComp elt [⟨tg, iter, ifs, 0⟩] scope pos) spos) (tS L (dSet i (dLc ti (own.map (·.2)) g tt te))) :=
  (ps_setLc gd.calm gd.nd hy hyl hsw hi ok hg (fun s H C cl fp => ht s H C cl fp ⟨gd.calm, gd.gd, gd.sys, gd.un, gd.nd⟩) (fun s H C cl fp => he s H C cl fp ⟨gd.calm, gd.gd, gd.sys, gd.un, gd.nd⟩) hs).less fun D σ H q => by
    obtain ⟨ρ, De, r, q, n1, _⟩ := q
    exact lc_read ho σ H _ ⟨ρ, _, r, q, fun v H' s ρ' go r' hv n => n1 _ _ _ (go.keep r) (r.set r' go hv) n⟩
end
end GB

namespace GB
open PySem PySem.Spec PyProof.Rows L2

/-- the script: a firm list of ints, or one of the written part -/
def ScrOk (K : PySem.W.Frag) (a : Addr) (ns : List Int) (H : Hp) : Prop := (∃ o, H a = some (.frz o (.lst (ns.map V.int)))) ∨ SqL K (fun _ => none) a (ns.map V.int)
theorem sq_scr {K : PySem.W.Frag} {a : Addr} {ns : List Int} {H : Hp} (h : ScrOk K a ns H) : SqL K H a (ns.map V.int) := by
  rcases h with ⟨o, h⟩ | h
  · exact .inl (.inr ⟨o, h⟩)
  · rcases h with (h | ⟨o, h⟩) | h
    · cases h
    · cases h
    · exact .inr h
/-- the store's fact, the script's -/
def mkJar (K : PySem.W.Frag) (j : Addr → Hp → Prop) (hj : ∀ a H H', Keep H H' → j a H → j a H') : Jar where
  ok := fun t a H => match t with
    | .jar => j a H
    | .scr ns => ScrOk K a ns H
    | .more _ => False
  keep := fun t a H H' k h => by
    cases t with
    | jar => exact hj a H H' k h
    | scr ns =>
      rcases h with ⟨o, h⟩ | h
      · exact .inl ⟨o, k _ _ h trivial⟩
      · exact .inr h
    | more _ => exact h
section
variable {P : Program} {w : World} {K : PySem.W.Frag} {mg mb : Str → Option Value} {k : Nat} {fa a : Addr} {fd : FuncData} {x : Str} {J : Jar} {F : FnD} {s1 : Shared} {vs : List Value} {ns : List Int}
theorem end_call (KX : K.In s1.heap) (hns : s1.heap.Ns mainGlobals mg) (hb : s1.heap.Ns builtinsNs mb) (hbb : ∀ y : Str, y ≠ "__name__" → mb y = bootBuiltins y) (hlim : s1.heap.NoLimit) (sy : ∃ mm, s1.heap.Ns sysModules mm) (hg : s1.gens = #[])
    (ha : s1.heap.get? a = some { cls := .type "list", data := .seq vs.toArray }) (hi : IntsAre vs ns) (hl : ns.length ≤ sizeLine) (hr : Room k callerA)
    (hF : ∀ base : Heap, K.In base → base.Ns mainGlobals mg → (∃ o, base.get? sysModules = some o) → FnG P w K mg base CX0 k fa fd [x] (spD K J 1 F))
    (hbind : ∀ (s : Shared) (u : Value), BindsTo s fd ⟨[u], []⟩ [(x, u)]) (hJ : ∀ H, ScrOk K a ns H → J.ok (.scr ns) a H)
    (go : F [.ob (.scr ns)] fun s => s = .d (.bool true)) :
    codeAny (model P w) callerA (.call (.ref fa) ⟨[.ref a], []⟩) (fun r s' => r = .ok (.ret (.bool true)) ∧ OldK s1.heap s'.heap ∧ s'.os = s1.os ∧ AllBare s'.gens) s1 := by
  have rv := vals_ints hi
  have lv := hi.length
  have main : ∀ H : Hp, Only H → ScrOk K a ns H → HOk P w H s1.heap → (∀ b, H b ≠ none → b = a) → (H a ≠ none → K.lookup a = none) →
      codeAny (model P w) callerA (.call (.ref fa) ⟨[.ref a], []⟩) (fun r s' => r = .ok (.ret (.bool true)) ∧ OldK s1.heap s'.heap ∧ s'.os = s1.os ∧ AllBare s'.gens) s1 := by
    intro H hO hS ok hA hK
    have low : ∀ {b : Addr} {o : Obj}, s1.heap.get? b = some o → H b = none → (hidT s1.heap H).get? b = some o := fun e n => hidT_get e n
    have dictFree : ∀ {b : Addr} {o : Obj} {es : Array DictEntry} {ep : Nat}, s1.heap.get? b = some o → o.data = .dict es ep → H b = none := fun {b o es ep} e d => by
      cases q : H b with
      | none => rfl
      | some u =>
        obtain rfl : b = a := hA b (by rw [q]; simp)
        rw [ha] at e; cases e; cases d
    have ns0 : ∀ {b : Addr} {m : Str → Option Value}, s1.heap.Ns b m → (hidT s1.heap H).Ns b m := fun {b m} ⟨o, es, ep, e, d, r⟩ => ⟨o, es, ep, low e (dictFree e d), d, r⟩
    have kin : K.In (hidT s1.heap H) := fun b o e => low (KX b o e) (by
      cases q : H b with
      | none => rfl
      | some u =>
        obtain rfl : b = a := hA b (by rw [q]; simp)
        rw [hK (by rw [q]; simp)] at e; cases e)
    have md : Mod K mg (hidT s1.heap H) := ⟨kin, ns0 hns, ⟨mb, ns0 hb, hbb⟩, let ⟨mc, h1, h2⟩ := hlim; ⟨mc, ns0 h1, h2⟩⟩
    have sm : ∃ o, (hidT s1.heap H).get? sysModules = some o := let ⟨mm, q⟩ := sy; let ⟨o, _, _, e, _⟩ := ns0 q; ⟨o, e⟩
    have e0 : Env0 P w K mg (hidT s1.heap H) callerA [] s1 H := ⟨rfl, md, fun b o e => of_hidT e, Nat.le_of_eq (hidT_size _ _), trivial, fun b hb => (nomatch hb), ok, .of_eq hg⟩
    refine codeAny_mono ((hF _ kin (ns0 hns) sm).go callerA [] s1 H ⟨[.ref a], []⟩ [.ref a] [.ref a] (fun v _ => v = .bl true) (fun _ _ _ => False) rfl hr e0 (hbind s1 (.ref a)) (.cons rfl .nil) ⟨[.ob (.scr ns)], _, .cons ⟨a, rfl, hJ H hS⟩ .nil, rfl, go, fun v H' s _ rr e => ?_⟩) fun r s' h => ?_
    · subst e
      have rr : Br K H' v (.bool true) := rr
      cases rr; rfl
    match r, h with
    | .error e, h => exact False.elim h
    | .ok .next, h => exact False.elim h
    | .ok .brk, h => exact False.elim h
    | .ok .cont, h => exact False.elim h
    | .ok (.ret u), h =>
      obtain ⟨v, H', os, bare, un, hok', r', q⟩ := h
      obtain rfl : v = .bl true := q
      obtain rfl : u = Value.bool true := r'
      refine ⟨rfl, OldK.of_keep fun b o e => ?_, os, bare⟩
      cases q : H b with
      | none => exact un.keep b o e q (fun z => nomatch z) (fun z => nomatch z)
      | some u =>
        rcases hO b with z | ⟨ob, xs, z⟩
        · rw [q] at z; cases z
        · obtain ⟨e1, _⟩ := ok b _ z
          obtain ⟨e2, _⟩ := hok' b _ (un.frzs b ob _ z)
          rw [e] at e1; cases e1
          exact e2
  cases hk : K.lookup a with
  | some o =>
    have e := KX a o hk
    rw [ha] at e; cases e
    exact main (fun _ => none) (fun _ => .inl rfl) (.inr (.inr ⟨_, vs.toArray, _, hk, rfl, rfl, rfl, by rw [List.size_toArray, lv]; exact hl, by simpa using rv⟩)) (fun b u z => (nomatch z)) (fun b z => absurd rfl z) fun z => absurd rfl z
  | none =>
    refine main (upd (fun _ => none) a (.frz { cls := .type "list", data := .seq vs.toArray } (.lst (ns.map V.int)))) (fun b => ?_) (.inl ⟨_, upd_same⟩) (fun b u z => ?_) (fun b z => ?_) fun _ => hk
    · by_cases hb : b = a
      · subst hb; exact .inr ⟨_, _, upd_same⟩
      · exact .inl (upd_ne hb)
    · by_cases hb : b = a
      · subst hb
        rw [upd_same] at z; cases z
        exact ⟨ha, by rw [List.length_map]; exact hl, vs, _, rv, ha⟩
      · rw [upd_ne hb] at z; cases z
    · by_cases hb : b = a
      · exact hb
      · rw [upd_ne hb] at z; exact absurd rfl z
end
/-- THE END of a law's row -/
theorem end_of {l : PySem.W.OpenLaw} {n k : Nat} {q : Program} {loose : List Str} {XP : (Str → Option Value) → Heap → Prop} {YP : World → Heap → Prop} {d : DefRec} {Kp : Params → PySem.W.Frag} {x : Str} {J : World → Jar} {F : FnD}
    (hn : l.most = some n) (hn2 : n ≤ sizeLine) (hdf : d.params.defaults = []) (hr : Room k callerA) (hq : importsNone q = true) (hY : ∀ (w : World) (h : Heap), YP w h → (Kp w.params).In h)
    (hF : ∀ (w : World) (mg : Str → Option Value) (fa : Addr) (h : Heap), (Kp w.params).In h → h.Ns mainGlobals mg → mg d.name = some (.ref fa) → ∃ fd : FuncData, (∀ (s : Shared) (u : Value), BindsTo s fd ⟨[u], []⟩ [(x, u)]) ∧
      ∀ base : Heap, (Kp w.params).In base → base.Ns mainGlobals mg → (∃ o, base.get? sysModules = some o) → FnG l.prog w (Kp w.params) mg base CX0 k fa fd [x] (spD (Kp w.params) (J w) 1 F))
    (hJ : ∀ w a ns H, ScrOk (Kp w.params) a ns H → (J w).ok (.scr ns) a H) (go : ∀ ns : List Int, ns.length ≤ n → F [.ob (.scr ns)] fun s => s = .d (.bool true)) :
    PySem.W.WalkO q loose XP YP l.row.toRowW d [] (fun f vs => PySem.call f vs) := by
  refine Att.attach_call hn hdf fun w s0 s1 mg mb fa o pm cd doc a vs ns G Y ho hd hcd hmg hobj hints hlen hg => ?_
  obtain ⟨fd, hb, hF'⟩ := hF w mg fa _ (hY w _ Y) G.T.g hmg
  exact end_call (hY w _ Y) G.T.g G.T.b G.T.builtins G.T.nolimit (let ⟨mm, q, _⟩ := (G.T.seer hq).mods; ⟨mm, q⟩) hg hobj hints (Nat.le_trans hlen hn2) hr hF' hb (hJ _ a ns) (go ns hlen)
end GB

namespace GB
open PySem PySem.Spec PyProof.Rows L2

/-! slices -/
def cutD {α : Type} (xs : List α) (lo hi : Option Int) : List α := (xs.drop (HT.sIx xs.length 0 lo)).take (HT.sIx xs.length xs.length hi - HT.sIx xs.length 0 lo)
abbrev F3 := PyData → Option Int → Option Int → (S → Prop) → Prop
def fCut : F3 := fun x lo hi Q => match x with
  | .list xs => Q (.own (cutD xs lo hi))
  | .tuple xs => Q (.d (.tuple (cutD xs lo hi)))
  | _ => False
abbrev TOd := En → (Option Int → En → Prop) → Prop
def tO (L : Lay) (t : TOd) : TO := fun σ H Q' => ∃ ρ Q, Rel L H σ ρ ∧ t ρ Q ∧ ∀ o H' ρ', Go σ ρ ρ' H H' → Rel L H' σ ρ' → Q o ρ' → Q' o H'
theorem _root_.L2.PO.less {X : Cx} {e : Option Expr} {t t2 : TO} (h : PO X e t) (w : ∀ σ H Q, t2 σ H Q → t σ H Q) : PO X e t2 := ⟨fun pins s σ H Q I q => h.run pins s σ H Q I (w _ _ _ q)⟩
def dONone : TOd := fun ρ Q => Q none ρ
def dOSome (t : TEd) : TOd := fun ρ Q => t ρ fun s ρ1 => ∃ i, s = .d (.int i) ∧ Q (some i) ρ1
def dCut (t : TEd) (l u : TOd) : TEd := fun ρ Q => t ρ fun s ρ1 => l ρ1 fun lo ρ2 => u ρ2 fun hi ρ3 => ∃ x, s = .d x ∧ fCut x lo hi fun s => Q s ρ3
def dCutO (i : Nat) (l u : TOd) : TEd := fun ρ Q => (∃ ys, ρ[i]? = some (.own ys)) ∧ l ρ fun lo ρ2 => u ρ2 fun hi ρ3 => ∃ xs, ρ3[i]? = some (.own xs) ∧ Q (.own (cutD xs lo hi)) ρ3
section
variable {X : Cx} {L : Lay} {pos p2 p px : Pos} {e o : Expr} {lo hi : Option Expr} {t : TEd} {l u : TOd}
theorem do_none : PO X none (tO L dONone) := po_none.less fun σ H Q' q => by
  obtain ⟨ρ, Q, r, q, fin⟩ := q
  exact fin none H ρ Go.rf r q
theorem do_some (h : PE X e (tE L t)) : PO X (some e) (tO L (dOSome t)) := (po_some h).less fun σ H Q' q => by
  obtain ⟨ρ, Q, r, q, fin⟩ := q
  refine ⟨ρ, _, r, q, fun v H1 s ρ1 go r1 hv q1 => ?_⟩
  obtain ⟨i, rfl, q2⟩ := q1
  have hv : Br L.K H1 v (.int i) := hv
  cases hv
  exact ⟨i, rfl, fin (some i) H1 ρ1 go r1 q2⟩
theorem cut_br {K : PySem.W.Frag} {H : Hp} {vs : List V} {xs : List PyData} (h : BrA K H vs xs) (lo hi : Option Int) : BrA K H (cutV vs lo hi) (cutD xs lo hi) := by
  unfold cutV cutD
  rw [h.len]
  exact (h.drop _).take _
theorem sl_fin {H1 H2 H3 : Hp} {σ : L2.St} {ρ ρ3 : En} {H : Hp} {x : PyData} {v : V} {a b : Option Int} {Q : S → En → Prop} {Q' : VK} (hK : L.K = X.K) (r3 : Rel L H3 σ ρ3) (go : Go σ ρ ρ3 H H3) (hv : Bk L H3 v x) (q : fCut x a b fun s => Q s ρ3)
    (fin : ∀ (v : V) (H' : Hp) (s : S) (ρ' : En), Go σ ρ ρ' H H' → Rel L H' σ ρ' → VR L H H' v s → Q s ρ' → Q' v H') : rSlL X.K v a b H3 Q' ∨ rSlA X.K v a b H3 Q' := by
  cases x with
  | list xs =>
    obtain ⟨al, vs, rfl, h1, h3⟩ := list_sq hK hv
    refine .inl ⟨al, vs, rfl, h1, fun p hp => ?_⟩
    exact fin _ _ (.own _) ρ3 (go.tr (Go.sm (same_new hp))) (r3.go (same_new hp)) (NR.vr (s := .own _) r3 (same_new hp) go ⟨p, _, rfl, hp, upd_same, BrA.keep (keep_of_same (same_new hp)) _ _ (cut_br h3 a b)⟩) q
  | tuple xs =>
    have hv : Br L.K H3 v (.tuple xs) := hv
    cases hv with
    | tup h1 h3 =>
      rename_i al vs
      have h1' := h1
      rw [hK] at h1
      refine .inr ⟨al, vs, rfl, h1, fun hw => ?_, fun hw p hp => ?_⟩
      · have e : cutD xs a b = xs := by
          unfold cutD
          rw [← h3.len, hw.1, hw.2]
          simp [h3.len]
        have q : Q (.d (.tuple (cutD xs a b))) ρ3 := q
        rw [e] at q
        exact fin _ _ (.d (.tuple xs)) ρ3 go r3 (.tup h1' h3) q
      · exact fin _ _ (.d _) ρ3 (go.tr (Go.sm (same_new hp))) (r3.go (same_new hp)) (.tup (.of upd_same) (BrA.keep (keep_of_same (same_new hp)) _ _ (cut_br h3 a b))) q
  | _ => exact False.elim q
theorem de_cut (hK : L.K = X.K) (he : PE X e (tE L t)) (hl : PO X lo (tO L l)) (hu : PO X hi (tO L u)) : PE X (.Subscript e (.Slice lo hi none p2) pos) (tE L (dCut t l u)) :=
  (pe_slice (sl_list.or sl_tupA) he hl hu).less fun σ H Q' q => by
    obtain ⟨ρ, Q, r, q, fin⟩ := q
    refine ⟨ρ, _, r, q, fun v H1 s ρ1 g1 r1 hv q1 => ⟨ρ1, _, r1, q1, fun a H2 ρ2 g2 r2 q2 => ⟨ρ2, _, r2, q2, fun b H3 ρ3 g3 r3 q3 => ?_⟩⟩⟩
    obtain ⟨x, rfl, q4⟩ := q3
    exact sl_fin (H1 := H1) (H2 := H2) hK r3 ((g1.tr g2).tr g3) (Bk.of (Br.keep ((g2.tr g3).keep r1) _ _ hv)) q4 fin
theorem de_cutO {i : Nat} (hK : L.K = X.K) (he : PE X e (tVar i)) (hl : PO X lo (tO L l)) (hu : PO X hi (tO L u)) : PE X (.Subscript e (.Slice lo hi none p2) pos) (tE L (dCutO i l u)) :=
  (pe_slice (sl_list.or sl_tupA) he hl hu).less fun σ H Q' q => by
    obtain ⟨ρ, Q, r, ⟨⟨ys, ey⟩, q⟩, fin⟩ := q
    obtain ⟨la, vs, h1, _⟩ := r.getO ey
    refine ⟨_, h1, ρ, _, r, q, fun a H2 ρ2 g2 r2 q2 => ⟨ρ2, _, r2, q2, fun b H3 ρ3 g3 r3 q3 => ?_⟩⟩
    obtain ⟨xs, ex, q4⟩ := q3
    obtain ⟨v, h2, hv⟩ := pk_own r3 ex
    rw [h1] at h2; cases h2
    exact sl_fin (H1 := H) (H2 := H2) (x := .list xs) hK r3 (g2.tr g3) hv q4 fin
/-! isinstance of one built-in class -/
def kindOf : PyData → String
  | .none => "NoneType"
  | .bool _ => "bool"
  | .int _ => "int"
  | .str _ => "str"
  | .list _ => "list"
  | .tuple _ => "tuple"
  | .dict _ => "dict"
def isK (T : String) (x : PyData) : Bool := (kitB (kindOf x) T).getD false
theorem ty_of (hK : L.K = X.K) {H : Hp} {v : V} {x : PyData} (h : Bk L H v x) : TyX X.K H v (.type (kindOf x)) := by
  cases x with
  | none => cases h; exact .base .non
  | bool b => cases h; exact .base (.bl b)
  | int i => cases h; exact .base (.int i)
  | str z => cases h; exact .base (.str z)
  | list xs =>
    obtain ⟨a, vs, rfl, h1, _⟩ := h
    rcases h1 with h1 | ⟨o, h1⟩
    · exact .base (.lst h1)
    · exact .base (.frz h1)
  | tuple xs =>
    cases h with
    | tup h1 h2 =>
      rw [hK] at h1
      rcases h1 with (h1 | ⟨o, h1⟩) | ⟨o, its, n, h1, h3, _⟩
      · exact .base (.tup h1)
      · exact .fTuple h1
      · exact .kTuple h1 h3
  | dict kvs => cases h with | dct h1 _ _ => exact .fDict h1
def dIsi (T : String) (t : TEd) : TEd := fun ρ Q => t ρ fun s ρ1 => ∃ x, s = .d x ∧ Q (.d (.bool (isK T x))) ρ1
theorem kit_all {T : String} (h : T = "int" ∨ T = "bool" ∨ T = "str" ∨ T = "tuple" ∨ T = "list" ∨ T = "dict") (x : PyData) : kitB (kindOf x) T = some (isK T x) := by
  have dk : ∀ a ∈ ["NoneType", "bool", "int", "str", "list", "tuple", "dict"], ∀ b ∈ ["int", "bool", "str", "tuple", "list", "dict"], (kitB a b).isSome = true := by decide +kernel
  have hx : kindOf x ∈ ["NoneType", "bool", "int", "str", "list", "tuple", "dict"] := by cases x <;> simp [kindOf]
  have hT : T ∈ ["int", "bool", "str", "tuple", "list", "dict"] := by rcases h with h | h | h | h | h | h <;> subst h <;> simp
  have q := dk _ hx _ hT
  unfold isK
  cases e : kitB (kindOf x) T with
  | none => rw [e] at q; cases q
  | some b => rfl
theorem de_isi {T : Str} {Ts : String} (hK : L.K = X.K) (hg : Gl X "isinstance") (hm : X.mg "isinstance" = none) (hgT : Gl X T) (hmT : X.mg T = none) (hvT : bootBuiltins T = some (.type Ts)) (hT : Ts = "int" ∨ Ts = "bool" ∨ Ts = "str" ∨ Ts = "tuple" ∨ Ts = "list" ∨ Ts = "dict")
    (he : PE X e (tE L t)) (hv : bootBuiltins "isinstance" = some (.builtin "isinstance") := by decide +kernel) (hnT : T ≠ "__name__" := by decide) (hdT : (T == ("__debug__" : Str)) = false := by decide)
    (h1 : starEach (e :: [.Name T px]) X.env = (false, eval e X.env) :: starEach [.Name T px] X.env := by rfl) (h2 : starEach ([.Name T px]) X.env = (false, eval (.Name T px) X.env) :: starEach [] X.env := by rfl)
    (hpl : (backTo pos (starEach [.Name T px] X.env)).any (·.1) = false := by rfl) : PE X (.Call (.Name "isinstance" p) [e, .Name T px] [] pos) (tE L (dIsi Ts t)) :=
  (pe_callB call_isi hg hm hv (pa_cons he (pa_cons (pe_bltn (v := .ty Ts) hgT hmT hvT rfl hnT hdT) pa_nil h2) h1) (by decide) (by decide) h1 hpl).less fun σ H Q' q => by
    obtain ⟨ρ, Q, r, q, fin⟩ := q
    refine ⟨ρ, _, r, q, fun v H1 s ρ1 go r1 hv q1 => ?_⟩
    obtain ⟨x, rfl, q2⟩ := q1
    exact ⟨v, .ty Ts, .type (kindOf x), .type Ts, _, rfl, .ty Ts, ty_of hK (Bk.of hv), kit_ty (kit_all hT x), fin _ H1 (.d (.bool _)) ρ1 go r1 (.bl _) q2⟩
/-! a op b op' c -/
variable {a b c : Expr} {ta tb tc : TEd} {op op' : CmpOp} {f f' : F2}
def dChain (f f' : F2) (ta tb tc : TEd) : TEd := fun ρ Q => ta ρ fun s1 ρ1 => tb ρ1 fun s2 ρ2 => ∃ x y, s1 = .d x ∧ s2 = .d y ∧ f x y fun s => ∃ k, s = .d (.bool k) ∧
  if k = true then tc ρ2 fun s3 ρ3 => ∃ z, s3 = .d z ∧ f' y z fun s => Q s ρ3 else Q (.d (.bool false)) ρ2
theorem chain_read : ∀ σ H Q, tE L (dChain f f' ta tb tc) σ H Q → tChain (rD L f) (rD L f') (tE L ta) (tE L tb) (tE L tc) σ H Q := fun σ H Q' q => by
  obtain ⟨ρ, Q, r, q, fin⟩ := q
  refine ⟨ρ, _, r, q, fun v H1 s ρ1 k1 r1 hv q1 => ⟨ρ1, _, r1, q1, fun u H2 s2 ρ2 k2 r2 hu q2 => ?_⟩⟩
  obtain ⟨x, y, rfl, rfl, q3⟩ := q2
  refine ⟨x, y, _, Bk.of (Br.keep (k2.keep r1) _ _ hv), Bk.of hu, q3, fun w H3 s3 sm nr q4 => ?_⟩
  obtain ⟨k, rfl, q5⟩ := q4
  have nr : Br L.K H3 w (.bool k) := nr
  cases nr
  have g3 := (k1.tr k2).tr (Go.sm sm)
  have r3 := r2.go sm
  refine ⟨k, rfl, ?_⟩
  cases k with
  | false => exact iteF (fin _ H3 (.d (.bool false)) ρ2 g3 r3 (.bl _) (by simpa using q5))
  | true =>
    refine iteT ⟨ρ2, _, r3, by simpa using q5, fun z H4 s4 ρ4 k4 r4 hz q6 => ?_⟩
    obtain ⟨zd, rfl, q7⟩ := q6
    exact ⟨y, zd, _, Bk.of (Br.keep ((keep_of_same sm).tr (k4.keep r3)) _ _ hu), Bk.of hz, q7, fun w5 H5 s5 sm5 nr5 q8 => fin w5 H5 s5 ρ4 ((g3.tr k4).tr (Go.sm sm5)) (r4.go sm5) (nr5.vr r4 sm5 (g3.tr k4)) q8⟩
theorem de_chain (ho : OpR X (compareOp op) (rD L f)) (ho' : OpR X (compareOp op') (rD L f')) (ha : PE X a (tE L ta)) (hb : PE X b (tE L tb)) (hc : PE X c (tE L tc)) (hm : lastMarks [op, op'] [b, c] = false := by with_unfolding_all rfl) :
    PE X (.Compare a [op, op'] [b, c] pos) (tE L (dChain f f' ta tb tc)) := (pe_chain ho ho' ha hb hc hm).less chain_read
theorem dt_chain (ho : OpR X (compareOp op) (rD L f)) (ho' : OpR X (compareOp op') (rD L f')) (ha : PE X a (tE L ta)) (hb : PE X b (tE L tb)) (hc : PE X c (tE L tc)) (hm : lastMarks [op, op'] [b, c] = false := by with_unfolding_all rfl) :
    PT X (.Compare a [op, op'] [b, c] pos) (tT L (dB (dChain f f' ta tb tc))) := (pt_chain ho ho' ha hb hc hm).less (tT_of chain_read)
/-! -x -/
def dNeg (t : TEd) : TEd := fun ρ Q => t ρ fun s ρ1 => ∃ i, s = .d (.int i) ∧ Q (.d (.int (-i))) ρ1
theorem de_neg (h : PE X e (tE L t)) : PE X (.UnaryOp .USub e pos) (tE L (dNeg t)) := (pe_un un_neg h).less fun σ H Q' q => by
  obtain ⟨ρ, Q, r, q, fin⟩ := q
  refine ⟨ρ, _, r, q, fun v H1 s ρ1 go r1 hv q1 => ?_⟩
  obtain ⟨i, rfl, q2⟩ := q1
  have hv : Br L.K H1 v (.int i) := hv
  cases hv
  exact ⟨i, rfl, fin _ H1 (.d (.int (-i))) ρ1 go r1 (.int _) q2⟩
end
/-! what else lists do -/
section
variable {X : Cx} {L : Lay} {apos cpos : Pos} {o e e2 : Expr} {t t2 : TEd} {i : Nat}
def rExt (L : Lay) : V → List V → Hp → VK → Prop := fun x vs H Q => ∃ l xs z zs zv, x = .ref l ∧ vs = [z] ∧ H l = some (.lst xs) ∧ Bk L H z (.list zs) ∧ xs.length + zs.length ≤ sizeLine ∧ (∀ ws, BrA L.K H ws zs → ws.length = zs.length → zv = ws → Q .non (upd H l (.lst (xs ++ ws))))
theorem m_extend (hK : L.K = X.K) : MtM X "list.extend" (fun x vs H Q => ∃ l xs z zs, x = .ref l ∧ vs = [z] ∧ H l = some (.lst xs) ∧ Bk L H z (.list zs) ∧ xs.length + zs.length ≤ sizeLine ∧ ∀ ws, BrA L.K H ws zs → Q .non (upd H l (.lst (xs ++ ws)))) := by
  intro pins s σ H x vs v us Q I rx rv h
  obtain ⟨l, xs, z, zs, rfl, rfl, hH, hb, hz, q⟩ := h
  cases rx
  obtain ⟨u, rfl, ru⟩ := rv.one
  obtain ⟨b, ws, its2, n2, rfl, b2, r2, e2, z2⟩ := list_at hK I hb
  cases ru
  obtain ⟨z1, its, n, r, hl, e1⟩ := I.lstM hH
  have l2 := r2.length
  have lb := b2.len
  have hsz : its.toArray.size + its2.toArray.size ≤ sizeLine := by rw [List.size_toArray, List.size_toArray]; omega
  refine call_meets F.slot_list_extend ⟨_, e1, rfl⟩ F.entry_list_extend (F.args_list_extend_2 _ _)
    (AutoSeq1.list_extend_list_list_0 l its.toArray n b its2.toArray n2 (by rw [notLongL hsz, Bool.and_false]; exact Bool.false_ne_true) (by rw [List.size_toArray]; omega) (by omega)) ⟨e1, e2, ?_⟩
  exact ⟨.non, _, I.lset (its' := its ++ its2) hH e1 (by simp) (r.append r2) (by rw [List.length_append]; omega), rfl, q ws b2⟩
theorem de_extend (hK : L.K = X.K) (ho : PE X o (tVar i)) (he : PE X e (tE L t)) (hs : starEach [e] X.env = (false, eval e X.env) :: starEach [] X.env := by rfl) (hbase : attributeBase o "extend" X.env (eval o X.env) = eval o X.env := by rfl)
    (hfew : ((backTo cpos (starEach [e] X.env)).all (fun x => !x.1) && (backToKw cpos (keywordEach [] X.env)).all (fun x => x.1.isSome) && decide ([e].length + ([] : List Keyword).length + (if ([] : List Keyword).isEmpty then 0 else 1) < 30)) = true := by rfl)
    (hline : (apos.endLine == cpos.line) = true := by rfl) (hpl : (backTo cpos (starEach [] X.env)).any (·.1) = false := by rfl) : PE X (.Call (.Attribute o "extend" apos) [e] [] cpos) (tE L (dExtend i t)) :=
  (pe_bm PySem.F.plainAttrs_list PySem.F.slot_list_extend PySem.F.type_list_extend (mr_of (m_extend hK)) ho (pa_cons he pa_nil hs) hbase hfew hline hs hpl).less fun σ H Q' q => by
    obtain ⟨ρ, Q, r, ⟨⟨ys, ey⟩, q⟩, fin⟩ := q
    obtain ⟨l, vs, hi, hl, _⟩ := r.getO ey
    refine ⟨_, hi, own_ty (pins := []) hl, ρ, _, r, q, fun v H1 s ρ1 go r1 hv q1 => ?_⟩
    obtain ⟨zs, xs, rfl, ex, hz, q2⟩ := q1
    obtain ⟨l', ws, hi', hl', hb, _⟩ := r1.getO ex
    rw [hi] at hi'; cases hi'
    refine ⟨l, ws, v, zs, rfl, rfl, hl', Bk.of hv, by rw [hb.len]; exact hz, fun us hu => ?_⟩
    obtain ⟨r2, k2⟩ := r1.put ex hi hl' (hb.app hu)
    exact fin .non _ (.d .none) _ (go.put ey ex hi hl') r2 .non q2
def dInsert (i : Nat) (t t2 : TEd) : TEd := fun ρ Q => (∃ ys, ρ[i]? = some (.own ys)) ∧ t ρ fun s ρ1 => t2 ρ1 fun s2 ρ2 => ∃ j x xs, s = .d (.int j) ∧ s2 = .d x ∧ ρ2[i]? = some (.own xs) ∧ xs.length < sizeLine ∧ 0 ≤ j ∧ j < 2 ^ 62 ∧ Q (.d .none) (ρ2.set i (.own (xs.take j.toNat ++ [x] ++ xs.drop j.toNat)))
end
end GB

namespace GB
open PySem PySem.Spec PyProof.Rows L2

/-! the draws' store: a dict of one list and one int, known by name alone outside of the draws -/
def Shy : HO → Prop
  | .lst _ => True
  | .dK _ => True
  | .dT _ => True
  | .ext _ => True
  | _ => False
theorem swap_inv {X : Cx} {pins : List (Addr × Obj)} {σ : L2.St} {H : Hp} {s : Shared} (I : Inv X pins σ H s) {a : Addr} {u v : HO} (h : H a = some u) (l : Shy u) (new : ObjOk X.prog X.w (upd H a v) s.heap a v) : Inv X pins σ (upd H a v) s := by
  have nt : ∀ c xs, H c = some (.tup xs) → c ≠ a := fun c xs q z => by rw [z, h] at q; cases q; exact l
  have no : ∀ c y, H c = some (.own y) → c ≠ a := fun c y q z => by rw [z, h] at q; cases q; exact l
  have nf : ∀ c o' u', H c = some (.frz o' u') → c ≠ a := fun c o' u' q z => by rw [z, h] at q; cases q; exact l
  have nb : ∀ c ps, H c = some (.tbl ps) → c ≠ a := fun c ps q z => by rw [z, h] at q; cases q; exact l
  have un : Un X.fs [] H (upd H a v) s.heap s.heap := by
    refine ⟨fun b ob q _ _ _ => q, fun b ob q _ _ _ => ⟨ob.slots, q⟩, fun b ob q n _ => ?_, fun b ob q _ => ⟨ob, q⟩, fun b xs q => ?_, fun b ob xs q => ?_, fun b ps q => ⟨#[], ?_⟩⟩
    · rw [upd_ne (fun z => by rw [z, h] at n; cases n)]; exact n
    · rw [upd_ne (nt _ _ q)]; exact q
    · rw [upd_ne (nf _ _ _ q)]; exact q
    · rw [upd_ne (nb _ _ q), q]; simp
  have hok : HOk X.prog X.w (upd H a v) s.heap := fun b z q => by
    by_cases hb : b = a
    · subst hb
      rw [upd_same] at q; cases q
      exact new
    · rw [upd_ne hb] at q
      refine (I.hok b z q).stay (fun _ _ _ z => z) (fun c q => ?_) fun c xs q => ?_
      · rw [upd_ne (no _ _ q)]; exact q
      · rw [upd_ne (nt _ _ q)]; exact q
  exact I.un (t' := s.toks) un hok
/-- the store's dict, the list's place in it -/
def kvJ (nd ns : Str) (l : Addr) (st : Int) : List (Key × V) := [(.inr nd, .ref l), (.inr ns, .int st)]
def hoD (P : Program) (w : World) (nd ns : Str) (a l : Addr) : HO := .ext fun h => ∃ st : Int, (kvJ nd ns l st).length ≤ sizeLine ∧ (a == sysModules) = false ∧ ∃ vs, KV (kvJ nd ns l st) vs ∧ h.DictOf (mixKind P w) a vs
def hoL (l : Addr) : HO := .ext fun h => ∃ is : List Int, is.length ≤ sizeLine ∧ ∃ (its : List Value) (n : Nat), Vals (is.map V.int) its ∧ h.get? l = some { cls := .type "list", data := .seq its.toArray n }
section
variable {P : Program} {w : World} {nd ns : Str} {a l : Addr} {H : Hp} {h : Heap}
theorem hoD_ok {st : Int} (q : ObjOk P w H h a (.dK (kvJ nd ns l st))) : ObjOk P w H h a (hoD P w nd ns a l) := by
  obtain ⟨z, hs, vs, r, o, es, ep, e, c⟩ := q
  refine ⟨⟨st, z, hs, vs, r, o, es, ep, e, c⟩, ⟨o, e⟩, fun h1 h2 ⟨st', z', hs', vs', r', o', es', ep', e', c'⟩ k => ⟨st', z', hs', vs', r', o', es', ep', k _ e', c'⟩⟩
theorem hoL_ok {is : List Int} (q : ObjOk P w H h l (.lst (is.map V.int))) : ObjOk P w H h l (hoL l) := by
  obtain ⟨z, its, n, r, e⟩ := q
  rw [List.length_map] at z
  exact ⟨⟨is, z, its, n, r, e⟩, ⟨_, e⟩, fun h1 h2 ⟨is', z', its', n', r', e'⟩ k => ⟨is', z', its', n', r', k _ e'⟩⟩
end
/-- the store's fact -/
def JarOk (P : Program) (w : World) (nd ns : Str) (a : Addr) (H : Hp) : Prop := ∃ l, H a = some (hoD P w nd ns a l) ∧ H l = some (hoL l) ∧ l ≠ a
theorem jar_keep {P : Program} {w : World} {nd ns : Str} : ∀ a H H', Keep H H' → JarOk P w nd ns a H → JarOk P w nd ns a H' := fun a H H' k ⟨l, h1, h2, h3⟩ => ⟨l, k _ _ h1 trivial, k _ _ h2 trivial, h3⟩
section
variable {X : Cx} {nd ns : Str} {sts : List Stmt} {t : TS}
/-- a body that works on the store: opened at its begin, closed where it returns -/
def tOpen (P : Program) (w : World) (nd ns : Str) (t : TS) : TS := fun D σ H => ∃ a l, H a = some (hoD P w nd ns a l) ∧ H l = some (hoL l) ∧ l ≠ a ∧ ∀ (st : Int) (is : List Int),
  t { nx := fun _ _ => False, bk := fun _ _ => False, ct := fun _ _ => False, rt := fun v H' => (∃ (st' : Int) (is' : List Int), H' a = some (.dK (kvJ nd ns l st')) ∧ H' l = some (.lst (is'.map V.int))) ∧ D.rt v (upd (upd H' a (hoD P w nd ns a l)) l (hoL l)) } σ
    (upd (upd H a (.dK (kvJ nd ns l st))) l (.lst (is.map V.int)))
theorem close_inv {pins : List (Addr × Obj)} {σ : L2.St} {H : Hp} {s : Shared} (I : Inv X pins σ H s) {a l : Addr} {st : Int} {is : List Int} (h1 : H a = some (.dK (kvJ nd ns l st))) (h2 : H l = some (.lst (is.map V.int))) :
    Inv X pins σ (upd (upd H a (hoD X.prog X.w nd ns a l)) l (hoL l)) s := by
  have ne : l ≠ a := fun z => by rw [z, h1] at h2; cases h2
  have I1 := swap_inv I (v := hoD X.prog X.w nd ns a l) h1 trivial (hoD_ok (st := st) ((I.hok a _ h1).stay (fun _ _ _ z => z) (fun c q => by rw [upd_ne (fun z => by rw [z, h1] at q; cases q)]; exact q) fun c xs q => by rw [upd_ne (fun z => by rw [z, h1] at q; cases q)]; exact q))
  have e2 : (upd H a (hoD X.prog X.w nd ns a l)) l = some (.lst (is.map V.int)) := by rw [upd_ne ne]; exact h2
  exact swap_inv I1 (v := hoL l) e2 trivial (hoL_ok (is := is) ((I1.hok l _ e2).stay (fun _ _ _ z => z) (fun c q => by rw [upd_ne (fun z => by rw [z, e2] at q; cases q)]; exact q) fun c xs q => by rw [upd_ne (fun z => by rw [z, e2] at q; cases q)]; exact q))
theorem pss_open (h : PSs X sts t) : PSs X sts (tOpen X.prog X.w nd ns t) := by
  constructor
  intro pins s σ H D I q
  obtain ⟨a, l, ha, hl, ne, q⟩ := q
  obtain ⟨⟨st, z1, z2, vs, z3, o, es, ep, z4, z5⟩, _⟩ := I.hok a _ ha
  have I1 := swap_inv I (v := .dK (kvJ nd ns l st)) ha trivial ⟨z1, z2, vs, z3, o, es, ep, z4, z5⟩
  have e2 : (upd H a (.dK (kvJ nd ns l st))) l = some (hoL l) := by rw [upd_ne ne]; exact hl
  obtain ⟨⟨is, y1, its, n, y2, y3⟩, _⟩ := I1.hok l _ e2
  have I2 := swap_inv I1 (v := .lst (is.map V.int)) e2 trivial ⟨by rw [List.length_map]; exact y1, its, n, y2, y3⟩
  refine thn (h.run pins s σ _ _ I2 (q st is)) fun f s1 z => ?_
  match f, z with
  | .next, ⟨_, _, _, z⟩ => exact z.elim
  | .brk, ⟨_, _, _, z⟩ => exact z.elim
  | .cont, ⟨_, _, _, z⟩ => exact z.elim
  | .ret u, ⟨v, σ', H', I', rv, ⟨st', is', h1, h2⟩, q'⟩ => exact ⟨v, σ', _, close_inv I' h1 h2, rv, q'⟩
/-- a body that makes the store and returns it -/
def tMake (P : Program) (w : World) (nd ns : Str) (t : TS) : TS := fun D σ H =>
  t { nx := fun _ _ => False, bk := fun _ _ => False, ct := fun _ _ => False, rt := fun v H' => ∃ (a l : Addr) (st' : Int) (is' : List Int), v = .ref a ∧ H' a = some (.dK (kvJ nd ns l st')) ∧ H' l = some (.lst (is'.map V.int)) ∧ D.rt v (upd (upd H' a (hoD P w nd ns a l)) l (hoL l)) } σ H
theorem pss_make (h : PSs X sts t) : PSs X sts (tMake X.prog X.w nd ns t) := by
  constructor
  intro pins s σ H D I q
  refine thn (h.run pins s σ _ _ I q) fun f s1 z => ?_
  match f, z with
  | .next, ⟨_, _, _, z⟩ => exact z.elim
  | .brk, ⟨_, _, _, z⟩ => exact z.elim
  | .cont, ⟨_, _, _, z⟩ => exact z.elim
  | .ret u, ⟨v, σ', H', I', rv, a, l, st', is', e, h1, h2, q'⟩ => exact ⟨v, σ', _, close_inv I' h1 h2, rv, q'⟩
end
end GB

namespace GB
open PySem PySem.Spec PyProof.Rows L2

/-! more assignments -/
def dAsg (t : TEd) (g : DTG) : TSd := fun D ρ => t ρ fun s ρ1 => ∃ x, s = .d x ∧ g x ρ1 D.nx
def dPar3 (i j l : Nat) (t1 t2 t3 : TEd) : TSd := fun D ρ => t1 ρ fun s1 ρ1 => t2 ρ1 fun s2 ρ2 => t3 ρ2 fun s3 ρ3 => D.nx (((ρ3.set i s1).set j s2).set l s3)
section
variable {X : Cx} {L : Lay} {pos : Pos} {tg e a b c : Expr} {t t1 t2 t3 : TEd} {g : DTG}
theorem ds_asg (he : PE X e (tE L t)) (hg : PG X tg (tG L g)) (hw : swappedStores [tg] e X.env = pure none := by rfl) (hs : swapsWithSole [tg] e pos.line X.env = pure false := by rfl) (h1 : (assignEach [tg] X.env).map (·.2) = [assign tg X.env] := by rfl) :
    PS X (.Assign [tg] e pos) (tS L (dAsg t g)) := (ps_asg he hg hs hw h1).less fun D σ H q => by
  obtain ⟨ρ, De, r, q, n1, _⟩ := q
  refine ⟨ρ, _, r, q, fun v H1 s ρ1 go r1 hv q1 => ?_⟩
  obtain ⟨x, rfl, q2⟩ := q1
  exact ⟨ρ1, x, _, r1, hv, q2, fun σ' ρ' r' n => n1 _ _ _ (go.keep r) r' n⟩
theorem ds_par3 {i j l : Nat} {x y z : Str} {px py pz pt : Pos} {kt k2 pt2} (gd : Good X) (hi : X.N[i]? = some x) (hj : X.N[j]? = some y) (hl : X.N[l]? = some z) (hij : i ≠ j) (hil : i ≠ l) (hjl : j ≠ l)
    (hx : X.env.scope.names.lookup x = some .local) (hy : X.env.scope.names.lookup y = some .local) (hz : X.env.scope.names.lookup z = some .local) (ha : PE X a (tE L t1)) (hb : PE X b (tE L t2)) (hc : PE X c (tE L t3))
    (hw : swappedStores [.Tuple [.Name x px, .Name y py, .Name z pz] kt pt] (.Tuple [a, b, c] k2 pt2) X.env = pure (some [x, y, z]))
    (h1 : starEach [a, b, c] X.env = (false, eval a X.env) :: starEach [b, c] X.env := by rfl) (h2 : starEach [b, c] X.env = (false, eval b X.env) :: starEach [c] X.env := by rfl) (h3 : starEach [c] X.env = (false, eval c X.env) :: starEach [] X.env := by rfl)
    (hs : swapsWithSole [.Tuple [.Name x px, .Name y py, .Name z pz] kt pt] (.Tuple [a, b, c] k2 pt2) pos.line X.env = pure false := by rfl) :
    PS X (.Assign [.Tuple [.Name x px, .Name y py, .Name z pz] kt pt] (.Tuple [a, b, c] k2 pt2) pos) (tS L (dPar3 i j l t1 t2 t3)) :=
  (ps_par3 gd.calm gd.nd hi hj hl hij hil hjl hx hy hz (pa_cons ha (pa_cons hb (pa_cons hc pa_nil h3) h2) h1) hw hs).less fun D σ H q => by
    obtain ⟨ρ, De, r, q, n1, _⟩ := q
    refine ⟨ρ, _, r, q, fun v H1 s ρ1 go r1 hv q1 => ⟨ρ1, _, r1, q1, fun w H2 s2 ρ2 go2 r2 hw q2 => ⟨ρ2, _, r2, q2, fun u H3 s3 ρ3 go3 r3 hu q3 => ⟨v, w, u, rfl, ?_⟩⟩⟩⟩
    have gg := (go.tr go2).tr go3
    have hv3 := hv.later r go r1 (go2.tr go3)
    have hw3 := hw.later r1 go2 r2 go3
    have ra := r3.put1 (j := i) (r.old gg) hv3
    have oa := (r.old gg).set (Hm := H1) (i := i) go.dom hv.there
    have rb := ra.put1 (j := j) oa hw3
    have ob := oa.set (Hm := H2) (i := j) go2.dom hw.there
    have rc := rb.put1 (j := l) ob hu
    exact n1 _ _ _ (gg.keep r) rc q3
/-! rows of numbers -/
def dListRng (t : TEd) : TEd := fun ρ Q => t ρ fun s ρ1 => ∃ n, s = .d (.int n) ∧ 0 ≤ n ∧ n ≤ 16777216 ∧ Q (.own (irow 0 n.toNat)) ρ1
theorem rg_br {K : PySem.W.Frag} {H : Hp} : ∀ (is : List Nat) (lo : Int), BrA K H (is.map fun i => V.int (lo + (i : Nat))) (is.map fun (i : Nat) => PyData.int (lo + i))
  | [], _ => .nil
  | _ :: is, lo => .cons (.int _) (rg_br is lo)
theorem de_listRng {p p2 pos pos2 : Pos} (gd : Good X) (hl : Gl X "list") (ml : X.mg "list" = none) (hg : Gl X "range") (hm : X.mg "range" = none) (he : PE X e (tE L t)) (na : starEach [e] X.env = (false, eval e X.env) :: starEach [] X.env := by rfl)
    (nb : starEach [.Call (.Name "range" p) [e] [] pos] X.env = (false, eval (.Call (.Name "range" p) [e] [] pos) X.env) :: starEach [] X.env := by rfl) : PE X (.Call (.Name "list" p2) [.Call (.Name "range" p) [e] [] pos] [] pos2) (tE L (dListRng t)) :=
  (pe_listRg gd.calm hl ml (prg_1 hg hm he na) nb).less fun σ H Q' q => by
    obtain ⟨ρ, Q, r, q, fin⟩ := q
    refine ⟨ρ, _, r, q, fun v H1 s ρ1 go r1 hv q1 => ?_⟩
    obtain ⟨n, rfl, h0, hn, q2⟩ := q1
    have hv : Br L.K H1 v (.int n) := hv
    cases hv
    refine ⟨n, rfl, ?_⟩
    · refine ⟨.of_le (by omega) hn (by omega) h0, fun p hp => ?_⟩
      have e : rgV 0 n = (List.range n.toNat).map fun i => V.int (0 + (i : Nat)) := by unfold rgV; rw [Int.sub_zero]
      exact fin _ _ (.own _) ρ1 (go.tr (Go.sm (same_new hp))) (r1.go (same_new hp)) (NR.vr (s := .own _) r1 (same_new hp) go ⟨p, _, rfl, hp, upd_same, by rw [e]; exact rg_br _ 0⟩) q2
end
/-! dicts as they stand -/
def dDict0 : TEd := fun ρ Q => Q (.d (.dict [])) ρ
def dDict1 (k : Str) (t : TEd) : TEd := fun ρ Q => t ρ fun s ρ1 => ∃ x, s = .d x ∧ Q (.d (.dict [(.str k, x)])) ρ1
section
variable {X : Cx} {L : Lay} {pos p2 : Pos} {e : Expr} {t : TEd} {σ : L2.St} {ρ : En} {H : Hp}
theorem Rel.fixNew {l : Addr} {u : HO} {o : Obj} (r : Rel L H σ ρ) (hn : H l = none) : Rel L (upd H l (.frz o u)) σ ρ ∧ Same H (upd H l (.frz o u)) := ⟨r.go (same_new hn), same_new hn⟩
theorem de_dict0 (gd : Good X) : PE X (.Dict [] [] pos) (tE L dDict0) := by
  constructor
  intro pins s σ H Q' I q
  obtain ⟨ρ, Q, r, q, fin⟩ := q
  refine thn (pe_dnewK.run pins s σ H (fun v H1 => ∃ p, v = .ref p ∧ H p = none ∧ H1 = upd H p (.dK [])) I fun p hp => ⟨p, rfl, hp, rfl⟩) fun u s1 z => ?_
  obtain ⟨v, H1, I1, rv, p, rfl, hp, rfl⟩ := z
  obtain ⟨o, I2⟩ := fix_inv I1 upd_same trivial
  rw [upd_upd] at I2
  obtain ⟨r2, sm⟩ := r.fixNew (u := .dK []) (o := o) hp
  exact ⟨.ref p, _, I2, rv, fin _ _ (.d (.dict [])) ρ (Go.sm sm) r2 (.dct upd_same rfl .nil) q⟩
theorem de_dict1 {k : Str} {j : Nat} (gd : Good X) (h : PE X e (tE L t)) : PE X (.Dict [some (.Constant (.str k) j p2)] [e] pos) (tE L (dDict1 k t)) := by
  constructor
  intro pins s σ H Q' I q
  obtain ⟨ρ, Q, r, q, fin⟩ := q
  have core := (pe_disp (pos := pos) (pps_cons (pos := pos) (pe_str (x := k) (j := j) (pos := p2)) h pps_nil) rfl rfl (by simp) (by simp)).run pins s σ H
    (fun v H1 => ∃ p w x ρ' H2, v = .ref p ∧ H p = none ∧ H1 = upd H2 p (.dK [(.inr k, w)]) ∧ H2 p = some (.dK []) ∧ Go σ ρ ρ' (upd H p (.dK [])) H2 ∧ Rel L H2 σ ρ' ∧ Br L.K H2 w x ∧ Q (.d (.dict [(.str k, x)])) ρ') I fun p hp => ?_
  · refine thn core fun u s1 z => ?_
    obtain ⟨v, H1, I1, rv, p, w, x, ρ', H2, rfl, hp, rfl, h2, go, r2, hw, q2⟩ := z
    obtain ⟨o, I2⟩ := fix_inv I1 upd_same trivial
    rw [upd_upd] at I2
    have kp : Keep H2 (upd H2 p (.frz o (.dK [(.inr k, w)]))) := keep_put h2 trivial
    have h0 : L.H0 p = none := r.same.free hp
    have out : ∀ (i : Nat) (ys : Ow), ρ'[i]? = some (.ow ys) → σ[i]? ≠ some (some (.ref p)) := fun i ys e z => by
      obtain ⟨zs, e'⟩ := go.less i ys e
      obtain ⟨l', vs', q1, q2, _⟩ := r.getW e'
      rw [z] at q1; cases q1
      rw [hp] at q2; cases q2
    have rel : Rel L (upd H2 p (.frz o (.dK [(.inr k, w)]))) σ ρ' := by
      refine ⟨r2.len, fun j z e => ?_, r2.sep, same_fix r2.same h0⟩
      have q := r2.at' j z e
      cases z with
      | un => trivial
      | d x => obtain ⟨v, e2, q⟩ := q; exact ⟨v, e2, Br.keep kp _ _ q⟩
      | ow zs =>
        obtain ⟨v, e2, q⟩ := q
        refine ⟨v, e2, q.keep kp fun m u' em hu => (upd_ne fun z => ?_).trans hu⟩
        subst em; subst z
        obtain ⟨w', e4, _⟩ := r2.get e
        rw [e4] at e2
        refine out j zs e ?_
        rw [e4]
        exact congrArg some (show w' = some (V.ref m) from e2)
      | ob t => obtain ⟨a, e2, q⟩ := q; exact ⟨a, e2, L.J.keep _ _ _ _ kp q⟩
    refine ⟨.ref p, _, I2, rv, fin _ _ (.d (.dict [(.str k, x)])) ρ' ⟨fun a o' q n => ?_, go.less, fun a q => ?_⟩ rel (.dct upd_same rfl (.cons (Br.keep kp _ _ hw) .nil)) q2⟩
    · have ne : a ≠ p := fun z => by rw [z, hp] at q; cases q
      rw [upd_ne ne]
      exact go.stay a o' (by rw [upd_ne ne]; exact q) n
    · by_cases z : a = p
      · rw [z]; exact hp
      · rw [upd_ne z] at q
        have := go.dom a q
        rw [upd_ne z] at this; exact this
  · refine ⟨ρ, _, r.go (same_new hp), q, fun w H2 s ρ' go r2 hw q2 => ?_⟩
    obtain ⟨x, rfl, q3⟩ := q2
    have h2 : H2 p = some (.dK []) := go.stay p _ upd_same fun i ys e z => by
      obtain ⟨l', vs', q1, q2, _⟩ := r.getW e
      rw [z] at q1; cases q1
      rw [hp] at q2; cases q2
    exact ⟨h2, [(.inr k, w)], rfl, by simp, p, w, x, ρ', H2, rfl, hp, rfl, h2, go, r2, hw, q3⟩
end
end GB

namespace GB
open PySem PySem.Spec PyProof.Rows L2

/-! the draws' store: a dict with one list of ints and some ints; closed (known by name alone) outside of each step -/
def KvOk (nd : Str) (ks : List Str) (l : Addr) (kvs : List (Key × V)) : Prop := kvs.length ≤ 15 ∧ valV kvs (.inr nd) = some (.ref l) ∧ ∀ k ∈ ks, ∃ n : Int, valV kvs (.inr k) = some (.int n)
def hoQ (P : Program) (w : World) (nd : Str) (ks : List Str) (a l : Addr) : HO := .ext fun h => ∃ kvs, KvOk nd ks l kvs ∧ (a == sysModules) = false ∧ ∃ vs, KV kvs vs ∧ h.DictOf (mixKind P w) a vs
def StoOk (P : Program) (w : World) (nd : Str) (ks : List Str) (a : Addr) (H : Hp) : Prop := ∃ l, H a = some (hoQ P w nd ks a l) ∧ H l = some (hoL l) ∧ l ≠ a
theorem sto_keep {P : Program} {w : World} {nd : Str} {ks : List Str} : ∀ a H H', Keep H H' → StoOk P w nd ks a H → StoOk P w nd ks a H' := fun a H H' k ⟨l, h1, h2, h3⟩ => ⟨l, k _ _ h1 trivial, k _ _ h2 trivial, h3⟩
theorem le_line {n : Nat} (h : n ≤ 15) : n ≤ sizeLine := Nat.le_trans h (by decide)
theorem hoQ_ok {P : Program} {w : World} {nd : Str} {ks : List Str} {a l : Addr} {H : Hp} {h : Heap} {kvs : List (Key × V)} (k : KvOk nd ks l kvs) (q : ObjOk P w H h a (.dK kvs)) : ObjOk P w H h a (hoQ P w nd ks a l) := by
  obtain ⟨z, hs, vs, r, o, es, ep, e, c⟩ := q
  refine ⟨⟨kvs, k, hs, vs, r, o, es, ep, e, c⟩, ⟨o, e⟩, fun h1 h2 ⟨kvs', k', hs', vs', r', o', es', ep', e', c'⟩ kk => ⟨kvs', k', hs', vs', r', o', es', ep', kk _ e', c'⟩⟩
def opn (H : Hp) (a l : Addr) (kvs : List (Key × V)) (is : List Int) : Hp := upd (upd H a (.dK kvs)) l (.lst (is.map V.int))
def cls (P : Program) (w : World) (nd : Str) (ks : List Str) (H : Hp) (a l : Addr) : Hp := upd (upd H a (hoQ P w nd ks a l)) l (hoL l)
/-- the store stands open at a, l -/
structure Opn (nd : Str) (ks : List Str) (H : Hp) (a l : Addr) (kvs : List (Key × V)) (is : List Int) : Prop where
  ha : H a = some (.dK kvs)
  hl : H l = some (.lst (is.map V.int))
  kv : KvOk nd ks l kvs
theorem Opn.ne {nd : Str} {ks : List Str} {H : Hp} {a l : Addr} {kvs : List (Key × V)} {is : List Int} (o : Opn nd ks H a l kvs is) : l ≠ a := fun z => by
  have h := o.hl
  rw [z, o.ha] at h; cases h
section
variable {X : Cx} {nd : Str} {ks : List Str} {e : Expr} {st : Stmt} {sts : List Stmt} {t : TE} {tt : TT} {ts : TS}
theorem close_of {pins : List (Addr × Obj)} {σ : L2.St} {H : Hp} {s : Shared} (I : Inv X pins σ H s) {a l : Addr} {kvs : List (Key × V)} {is : List Int} (o : Opn nd ks H a l kvs is) : Inv X pins σ (cls X.prog X.w nd ks H a l) s := by
  have h1 := o.ha
  have h2 := o.hl
  have ne := o.ne
  have I1 := swap_inv I (v := hoQ X.prog X.w nd ks a l) h1 trivial (hoQ_ok o.kv ((I.hok a _ h1).stay (fun _ _ _ z => z) (fun c q => by rw [upd_ne (fun z => by rw [z, h1] at q; cases q)]; exact q) fun c xs q => by rw [upd_ne (fun z => by rw [z, h1] at q; cases q)]; exact q))
  have e2 : (upd H a (hoQ X.prog X.w nd ks a l)) l = some (.lst (is.map V.int)) := by rw [upd_ne ne]; exact h2
  exact swap_inv I1 (v := hoL l) e2 trivial (hoL_ok (is := is) ((I1.hok l _ e2).stay (fun _ _ _ z => z) (fun c q => by rw [upd_ne (fun z => by rw [z, e2] at q; cases q)]; exact q) fun c xs q => by rw [upd_ne (fun z => by rw [z, e2] at q; cases q)]; exact q))
theorem open_of {pins : List (Addr × Obj)} {σ : L2.St} {H : Hp} {s : Shared} (I : Inv X pins σ H s) {a l : Addr} (ha : H a = some (hoQ X.prog X.w nd ks a l)) (hl : H l = some (hoL l)) (ne : l ≠ a) :
    ∃ kvs is, KvOk nd ks l kvs ∧ is.length ≤ sizeLine ∧ Inv X pins σ (opn H a l kvs is) s := by
  obtain ⟨⟨kvs, z1, z2, vs, z3, o, es, ep, z4, z5⟩, _⟩ := I.hok a _ ha
  have I1 := swap_inv I (v := .dK kvs) ha trivial ⟨le_line z1.1, z2, vs, z3, o, es, ep, z4, z5⟩
  have e2 : (upd H a (.dK kvs)) l = some (hoL l) := by rw [upd_ne ne]; exact hl
  obtain ⟨⟨is, y1, its, n, y2, y3⟩, _⟩ := I1.hok l _ e2
  have I2 := swap_inv I1 (v := .lst (is.map V.int)) e2 trivial ⟨by rw [List.length_map]; exact y1, its, n, y2, y3⟩
  exact ⟨kvs, is, z1, y1, I2⟩
/-- what is read of an opened store -/
def Opens (P : Program) (w : World) (nd : Str) (ks : List Str) (H : Hp) (go : Hp → Addr → Addr → List (Key × V) → List Int → Prop) : Prop :=
  ∃ a l, H a = some (hoQ P w nd ks a l) ∧ H l = some (hoL l) ∧ l ≠ a ∧ ∀ kvs is, is.length ≤ sizeLine → Opn nd ks (opn H a l kvs is) a l kvs is → go (opn H a l kvs is) a l kvs is
theorem opens_inv {pins : List (Addr × Obj)} {σ : L2.St} {H : Hp} {s : Shared} (I : Inv X pins σ H s) {go : Hp → Addr → Addr → List (Key × V) → List Int → Prop} (h : Opens X.prog X.w nd ks H go) :
    ∃ a l kvs is, Inv X pins σ (opn H a l kvs is) s ∧ go (opn H a l kvs is) a l kvs is := by
  obtain ⟨a, l, ha, hl, ne, q⟩ := h
  obtain ⟨kvs, is, k, z, I2⟩ := open_of I ha hl ne
  exact ⟨a, l, kvs, is, I2, q kvs is z ⟨by unfold opn; rw [upd_ne (Ne.symm ne), upd_same], upd_same, k⟩⟩
theorem pe_open (h : PE X e t) : PE X e (fun σ H Q => Opens X.prog X.w nd ks H fun H1 _ _ _ _ => t σ H1 Q) := ⟨fun pins s σ H Q I q => by
  obtain ⟨a, l, kvs, is, I2, q⟩ := opens_inv I q
  exact h.run pins s σ _ Q I2 q⟩
theorem pe_opened (h : PE X e t) : PE X e (fun σ H Q => t σ H fun v H1 => Opens X.prog X.w nd ks H1 fun H2 _ _ _ _ => Q v H2) := ⟨fun pins s σ H Q I q => by
  refine thn (h.run pins s σ H _ I q) fun u s1 z => ?_
  obtain ⟨v, H1, I1, rv, q1⟩ := z
  obtain ⟨a, l, kvs, is, I2, q2⟩ := opens_inv I1 q1
  exact ⟨v, _, I2, rv, q2⟩⟩
theorem pe_closed (h : PE X e t) : PE X e (fun σ H Q => t σ H fun v H1 => ∃ a l kvs is, Opn nd ks H1 a l kvs is ∧ Q v (cls X.prog X.w nd ks H1 a l)) := ⟨fun pins s σ H Q I q => by
  refine thn (h.run pins s σ H _ I q) fun u s1 z => ?_
  obtain ⟨v, H1, I1, rv, a, l, kvs, is, o, q2⟩ := z
  exact ⟨v, _, close_of I1 o, rv, q2⟩⟩
theorem pss_closing (h : PSs X sts ts) : PSs X sts (fun D σ H => ∃ a l kvs is, Opn nd ks H a l kvs is ∧ ts D σ (cls X.prog X.w nd ks H a l)) := ⟨fun pins s σ H D I q => by
  obtain ⟨a, l, kvs, is, o, q⟩ := q
  exact h.run pins s σ _ D (close_of I o) q⟩
theorem ps_open (h : PS X st ts) : PS X st (fun D σ H => Opens X.prog X.w nd ks H fun H1 _ _ _ _ => ts D σ H1) := ⟨fun pins s σ H D I q => by
  obtain ⟨a, l, kvs, is, I2, q⟩ := opens_inv I q
  exact h.run pins s σ _ D I2 q⟩
theorem ps_closed (h : PS X st ts) : PS X st (fun D σ H => ts { D with nx := fun σ1 H1 => ∃ a l kvs is, Opn nd ks H1 a l kvs is ∧ D.nx σ1 (cls X.prog X.w nd ks H1 a l) } σ H) := ⟨fun pins s σ H D I q => by
  refine thn (h.run pins s σ H _ I q) fun f s1 z => ?_
  match f, z with
  | .next, ⟨σ1, H1, I1, a, l, kvs, is, o, q2⟩ => exact ⟨σ1, _, close_of I1 o, q2⟩
  | .brk, z => exact z
  | .cont, z => exact z
  | .ret u, z => exact z⟩
end
/-- closed again: the heap as it was, but for what is new -/
theorem cls_opn {P : Program} {w : World} {nd : Str} {ks : List Str} {H H1 : Hp} {a l : Addr} (ha : H a = some (hoQ P w nd ks a l)) (hl : H l = some (hoL l)) (h : ∀ b, b ≠ a → b ≠ l → H1 b = H b) : cls P w nd ks H1 a l = H := by
  funext b
  unfold cls
  by_cases h1 : b = l
  · subst h1; rw [upd_same, hl]
  · rw [upd_ne h1]
    by_cases h2 : b = a
    · subst h2; rw [upd_same, ha]
    · rw [upd_ne h2]; exact h b h2 h1
theorem opn_off {H : Hp} {a l : Addr} {kvs : List (Key × V)} {is : List Int} {b : Addr} (h1 : b ≠ a) (h2 : b ≠ l) : opn H a l kvs is b = H b := by unfold opn; rw [upd_ne h2, upd_ne h1]
end GB

namespace GB
open PySem PySem.Spec PyProof.Rows L2

theorem ints_lay : ∀ is : List Int, PyData.canLayAll0 (is.map PyData.int) = true
  | [] => rfl
  | i :: is => by simp [PyData.canLayAll0, PyData.canLay0, ints_lay is]
theorem ints_deep : ∀ is : List Int, PyData.depthAll (is.map PyData.int) ≤ 1
  | [] => by simp [PyData.depthAll]
  | i :: is => by have := ints_deep is; simp [PyData.depthAll, PyData.depth]; omega
theorem ints_shaped (is : List Int) : SeqAt.shaped (.list (is.map PyData.int)) = true := by
  have := ints_deep is
  simp [SeqAt.shaped, PyData.canLay0, PyData.depth, ints_lay is]; omega
theorem ints_dp {K : PySem.W.Frag} {H : Hp} : ∀ is : List Int, DpAll K H (is.map V.int) (is.map PyData.int)
  | [] => .nil
  | _ :: is => .cons (.int _) (ints_dp is)
theorem ints_empty : ∀ is : List Int, PyData.eqv (.list (is.map PyData.int)) (.list []) = is.isEmpty
  | [] => rfl
  | _ :: _ => rfl
/-- a number of the store -/
def dJInt (i : Nat) : TEd := fun ρ Q => ρ[i]? = some (.ob .jar) ∧ ∀ n : Int, Q (.d (.int n)) ρ
/-- a number put into the store -/
def dJPut (i : Nat) (t : TEd) : TSd := fun D ρ => t ρ fun s ρ1 => ∃ n, s = .d (.int n) ∧ ρ1[i]? = some (.ob .jar) ∧ D.nx ρ1
/-- a digit of the store's last (first) number, where there is one -/
def dJPop (i iw im : Nat) (tb : TSd) : TSd := fun D ρ => ρ[i]? = some (.ob .jar) ∧ (∃ m : Int, ρ[im]? = some (.d (.int m)) ∧ 0 < m ∧ m < 1073741824) ∧ iw < ρ.length ∧ iw ≠ i ∧ iw ≠ im ∧ (∀ n : Int, tb { D with nx := fun _ => False } (ρ.set iw (.d (.int n)))) ∧ D.nx ρ
section
variable {X : Cx} {L : Lay} {nd : Str} {ks : List Str} {e o o1 o2 o3 : Expr} {pos p1 p2 : Pos} {i j : Nat} {t : TEd} {H : Hp} {σ : L2.St} {ρ : En}
theorem de_jint {k : Str} (gd : Good X) (hJ : ∀ a H, L.J.ok .jar a H → StoOk X.prog X.w nd ks a H) (hk : k ∈ ks) (ho : PE X o (tVar i)) (hs : NoSl (.Constant (.str k) j p1) := by intro _ _; rfl) : PE X (.Subscript o (.Constant (.str k) j p1) pos) (tE L (dJInt i)) :=
  (pe_open (nd := nd) (ks := ks) (pe_closed (nd := nd) (ks := ks) (pe_dget (by have := gd.un; omega) ho pe_str hs))).less fun σ H Q' q => by
    obtain ⟨ρ, Q, r, ⟨ej, q⟩, fin⟩ := q
    obtain ⟨o, e2, a, rfl, ja⟩ := r.get ej
    obtain ⟨l, ha, hl, ne⟩ := hJ a H ja
    refine ⟨a, l, ha, hl, ne, fun kvs is z op => ?_⟩
    obtain ⟨n, hn⟩ := op.kv.2.2 k hk
    refine ⟨.ref a, e2, a, .int n, rfl, ?_, a, l, kvs, is, op, ?_⟩
    · rw [← hn]; exact DGet.k (k := .inr k) op.ha
    · rw [cls_opn ha hl fun b h1 h2 => opn_off h1 h2]
      exact fin _ _ (.d (.int n)) ρ Go.rf r (.int n) (q n)
theorem kv_put {l : Addr} {kvs : List (Key × V)} {k : Str} {n : Int} (h : KvOk nd ks l kvs) (hk : k ∈ ks) (hn : k ≠ nd) : KvOk nd ks l (putK kvs (.inr k) (.int n)) := by
  obtain ⟨h1, h2, h3⟩ := h
  obtain ⟨n0, e0⟩ := h3 k hk
  refine ⟨?_, ?_, fun k' hk' => ?_⟩
  · unfold putK; rw [if_pos (by rw [valV_any, e0]; rfl), List.length_map]; exact h1
  · rw [valV_put, if_neg (fun z => by cases z; exact hn rfl)]; exact h2
  · rw [valV_put]
    split
    · exact ⟨n, rfl⟩
    · exact h3 k' hk'
theorem ds_jput {k : Str} {v : Expr} (gd : Good X) (hJ : ∀ a H, L.J.ok .jar a H → StoOk X.prog X.w nd ks a H) (hk : k ∈ ks) (hn : k ≠ nd) (ho : PE X o (tVar i)) (hv : PE X v (tE L t))
    (hw : swapsWith v (some (.Subscript o (.Constant (.str k) j p1) p2)) pos.line X.env = pure false := by rfl) (hs : NoSl (.Constant (.str k) j p1) := by intro _ _; rfl) :
    PS X (.Assign [.Subscript o (.Constant (.str k) j p1) p2] v pos) (tS L (dJPut i t)) :=
  (ps_closed (nd := nd) (ks := ks) (ps_dput (by have := gd.un; omega) ho pe_str (pe_opened (nd := nd) (ks := ks) hv) hw)).less fun D σ H q => by
    obtain ⟨ρ, De, r, q, n1, _⟩ := q
    refine ⟨ρ, _, r, q, fun v H1 s ρ1 go r1 hv q1 => ?_⟩
    obtain ⟨n, rfl, ej, q2⟩ := q1
    have hv : Br L.K H1 v (.int n) := hv
    cases hv
    obtain ⟨o, e2, a, rfl, ja⟩ := r1.get ej
    obtain ⟨l, ha, hl, ne⟩ := hJ a H1 ja
    refine ⟨a, l, ha, hl, ne, fun kvs is z op => ⟨.ref a, e2, a, _, rfl, DPut.k (k := .inr k) op.ha (Nat.lt_of_le_of_lt op.kv.1 (by decide)), a, l, _, is, ⟨upd_same, by rw [upd_ne op.ne]; exact op.hl, kv_put op.kv hk hn⟩, ?_⟩⟩
    rw [cls_opn ha hl fun b h1 h2 => by rw [upd_ne h1]; exact opn_off h1 h2]
    exact n1 _ _ _ (go.keep r) r1 q2
/-- what comes behind the digit -/
theorem jpop_end {P : Program} {w : World} (r : Rel L H σ ρ) {a l p : Addr} {kvs : List (Key × V)} {is js : List Int} {iw : Nat} {n : Int} {H3 : Hp} {tb : TSd} {D : Ends} {De : EndsD} (ha : H a = some (hoQ P w nd ks a l)) (hl : H l = some (hoL l)) (op : Opn nd ks (opn H a l kvs is) a l kvs is) (hp : opn H a l kvs is p = none)
    (h3 : H3 = upd (upd (opn H a l kvs is) p (.lst [])) l (.lst (js.map V.int))) (qn : tb { De with nx := fun _ => False } (ρ.set iw (.d (.int n))))
    (n2 : ∀ v H' s, Keep H H' → Same L.H0 H' → RR L H' v s → De.rt s → D.rt v H') (n3 : ∀ σ' H' ρ', Keep H H' → Rel L H' σ' ρ' → De.bk ρ' → D.bk σ' H') (n4 : ∀ σ' H' ρ', Keep H H' → Rel L H' σ' ρ' → De.ct ρ' → D.ct σ' H') (nx : L2.St → Hp → Prop) :
    ∃ a l kvs is, Opn nd ks H3 a l kvs is ∧ tS L tb { D with nx := nx } (σ.set iw (some (.int n))) (cls P w nd ks H3 a l) := by
  have pa : p ≠ a := fun z => by rw [z, op.ha] at hp; cases hp
  have pl : p ≠ l := fun z => by rw [z, op.hl] at hp; cases hp
  have hp0 : H p = none := (opn_off pa pl).symm.trans hp
  refine ⟨a, l, kvs, js, ⟨?_, ?_, op.kv⟩, ?_⟩
  · rw [h3, upd_ne (Ne.symm op.ne), upd_ne (Ne.symm pa)]; exact op.ha
  · rw [h3, upd_same]
  · have ec : cls P w nd ks H3 a l = upd H p (.lst []) := cls_opn (H := upd H p (.lst [])) (by rw [upd_ne (Ne.symm pa)]; exact ha) (by rw [upd_ne (Ne.symm pl)]; exact hl) fun b h1 h2 => by
      rw [h3, upd_ne h2]
      by_cases hb : b = p
      · subst hb; rw [upd_same, upd_same]
      · rw [upd_ne hb, upd_ne hb]; exact opn_off h1 h2
    have sm : Same H (upd H p (.lst [])) := same_new hp0
    have kp : Keep H (upd H p (.lst [])) := keep_of_same sm
    rw [ec]
    exact ⟨_, _, (r.go sm).setF (s := .d (.int n)) (.int n), qn, fun _ _ _ _ _ n => n.elim, fun v H' s k => n2 v H' s (kp.tr k), fun σ' H' ρ' k => n3 σ' H' ρ' (kp.tr k), fun σ' H' ρ' k => n4 σ' H' ρ' (kp.tr k)⟩
end
end GB

namespace GB
open PySem PySem.Spec PyProof.Rows L2

section
variable {X : Cx} {L : Lay} {nd x : Str} {ks : List Str} {o1 o2 o3 w1 m1 w2 m2 : Expr} {pos p1 p2 p3 p4 p5 p6 p7 p8 p9 p10 p11 p12 p13 p14 p15 p16 p17 p18 p19 p20 : Pos} {i j1 j2 j3 j4 j5 iw im : Nat} {rest : List Stmt} {tb : TSd}
/-- while there is a great number, a digit of the last one -/
theorem ds_jpop (gd : Good X) (hJ : ∀ a H, L.J.ok .jar a H → StoOk X.prog X.w nd ks a H) (hx : X.N[iw]? = some x) (hxl : X.env.scope.names.lookup x = some .local)
    (ho1 : PE X o1 (tVar i)) (ho2 : PE X o2 (tVar i)) (ho3 : PE X o3 (tVar i)) (hw1 : PE X w1 (tVar iw)) (hm1 : PE X m1 (tVar im)) (hw2 : PE X w2 (tVar iw)) (hm2 : PE X m2 (tVar im)) (hr : PSs X rest (tS L tb))
    (hn1 : NoSl (.Constant (.str nd) j1 p1) := by intro _ _; rfl) (hn2 : NoSl (.Constant (.str nd) j2 p6) := by intro _ _; rfl) (hn3 : NoSl (.Constant (.str nd) j3 p12) := by intro _ _; rfl)
    (hb1 : attributeBase (.Subscript o2 (.Constant (.str nd) j2 p6) p7) "pop" X.env (eval (.Subscript o2 (.Constant (.str nd) j2 p6) p7) X.env) = eval (.Subscript o2 (.Constant (.str nd) j2 p6) p7) X.env := by rfl) (li1 : (p8.endLine == p9.line) = true := by rfl)
    (hb2 : attributeBase (.Subscript o3 (.Constant (.str nd) j3 p12) p13) "append" X.env (eval (.Subscript o3 (.Constant (.str nd) j3 p12) p13) X.env) = eval (.Subscript o3 (.Constant (.str nd) j3 p12) p13) X.env := by rfl)
    (fw2 : ((backTo p16 (starEach [.BinOp w2 .FloorDiv m2 p15] X.env)).all (fun x => !x.1) && (backToKw p16 (keywordEach [] X.env)).all (fun x => x.1.isSome) && decide (([.BinOp w2 .FloorDiv m2 p15] : List Expr).length + ([] : List Keyword).length + (if ([] : List Keyword).isEmpty then 0 else 1) < 30)) = true := by rfl)
    (li2 : (p14.endLine == p16.line) = true := by rfl) (st2 : starEach [.BinOp w2 .FloorDiv m2 p15] X.env = (false, eval (.BinOp w2 .FloorDiv m2 p15) X.env) :: starEach [] X.env := by rfl) (pl2 : (backTo p16 (starEach [] X.env)).any (·.1) = false := by rfl)
    (sw1 : swapsWith (.Call (.Attribute (.Subscript o2 (.Constant (.str nd) j2 p6) p7) "pop" p8) [] [] p9) (some (.Name x p5)) p10.line X.env = pure false := by rfl)
    (sw2 : swapsWith (.Call (.Attribute (.Subscript o3 (.Constant (.str nd) j3 p12) p13) "append" p14) [.BinOp w2 .FloorDiv m2 p15] [] p16) none p17.line X.env = pure false := by rfl) :
    PS X (.If (.Compare (.Subscript o1 (.Constant (.str nd) j1 p1) p2) [.NotEq] [.List [] p3] p4)
      (.Assign [.Name x p5] (.Call (.Attribute (.Subscript o2 (.Constant (.str nd) j2 p6) p7) "pop" p8) [] [] p9) p10 ::
        .If (.Compare w1 [.GtE] [m1] p11) [.Expr (.Call (.Attribute (.Subscript o3 (.Constant (.str nd) j3 p12) p13) "append" p14) [.BinOp w2 .FloorDiv m2 p15] [] p16) p17] [] p18 :: rest) [] pos)
      (tS L (dJPop i iw im tb)) :=
  (ps_open (nd := nd) (ks := ks) (ps_closed (nd := nd) (ks := ks) (ps_if (pt_cmpR (op_neD (by have := gd.un; omega)) (pe_dget (by have := gd.un; omega) ho1 pe_str hn1) (pe_lst pa_nil) (nomark _))
    (pss_cons (ps_set (i := iw) gd.nd hx (.inl hxl) (pe_bm0 PySem.F.plainAttrs_list PySem.F.slot_list_pop PySem.F.type_list_pop mt_pop (pe_dget (by have := gd.un; omega) ho2 pe_str hn2) hb1 li1) sw1 (.inr hxl))
      (pss_cons (ps_if (pt_cmpR op_ge hw1 hm1 (nomark _)) (pss_one (ps_expr (pe_bm PySem.F.plainAttrs_list PySem.F.slot_list_append PySem.F.type_list_append mt_append (pe_dget (by have := gd.un; omega) ho3 pe_str hn3) (pa_cons (pe_op op_fdiv hw2 hm2) pa_nil st2) hb2 fw2 li2 st2 pl2) sw2)) pss_nil) (pss_closing (nd := nd) (ks := ks) hr))) pss_nil))).less fun D σ H q => by
    obtain ⟨ρ, De, r, ⟨ej, ⟨m, em, m0, m1⟩, hlen, hi, hm, qn, qx⟩, n1, n2, n3, n4⟩ := q
    obtain ⟨ov, e2, a, rfl, ja⟩ := r.get ej
    obtain ⟨vm, em2, bm⟩ := r.getD em
    cases bm
    obtain ⟨l, ha, hl, ne⟩ := hJ a H ja
    refine ⟨a, l, ha, hl, ne, fun kvs is z op => ?_⟩
    have rd : DGet (opn H a l kvs is) a (.str nd) (some (.ref l)) := by
      have q := DGet.k (k := .inr nd) op.ha
      rw [op.kv.2.1] at q; exact q
    refine ⟨.ref a, e2, a, .ref l, rfl, rd, Nat.zero_le _, fun p hp => ?_⟩
    have pa : p ≠ a := fun z => by rw [z, op.ha] at hp; cases hp
    have pl : p ≠ l := fun z => by rw [z, op.hl] at hp; cases hp
    refine ⟨.list (is.map .int), .list [], .lst (.inl (.inl (by rw [upd_ne (Ne.symm pl)]; exact op.hl))) (ints_dp is), .lst (.inl (.inl upd_same)) .nil, ints_shaped is, rfl, _, rfl, ?_⟩
    rw [ints_empty]
    have hl1 : (upd (opn H a l kvs is) p (.lst [])) l = some (.lst (is.map V.int)) := by rw [upd_ne (Ne.symm pl)]; exact op.hl
    have ha1 : (upd (opn H a l kvs is) p (.lst [])) a = some (.dK kvs) := by rw [upd_ne (Ne.symm pa)]; exact op.ha
    have rd2 : ∀ {H2 : Hp}, H2 a = some (.dK kvs) → DGet H2 a (.str nd) (some (.ref l)) := fun h => by
      have q := DGet.k (k := .inr nd) h
      rw [op.kv.2.1] at q; exact q
    cases is with
    | nil =>
      have hp0 : H p = none := (opn_off pa pl).symm.trans hp
      have sm : Same H (upd H p (.lst [])) := same_new hp0
      refine ⟨a, l, kvs, [], ⟨ha1, hl1, op.kv⟩, ?_⟩
      have ec : cls X.prog X.w nd ks (upd (opn H a l kvs []) p (.lst [])) a l = upd H p (.lst []) := cls_opn (H := upd H p (.lst [])) (by rw [upd_ne (Ne.symm pa)]; exact ha) (by rw [upd_ne (Ne.symm pl)]; exact hl) fun b h1 h2 => by
        by_cases hb : b = p
        · subst hb; rw [upd_same, upd_same]
        · rw [upd_ne hb, upd_ne hb]; exact opn_off h1 h2
      rw [ec]
      exact n1 _ _ _ (keep_of_same sm) (r.go sm) qx
    | cons y is =>
      have hne : (y :: is).map V.int ≠ [] := by simp
      have hlast : ((y :: is).map V.int)[((y :: is).map V.int).length - 1]? = some (.int ((y :: is).getLast (by simp))) := by
        rw [List.length_map, List.getElem?_map, ← List.getLast?_eq_getElem?, List.getLast?_eq_getLast (by simp)]; rfl
      refine ⟨.ref a, e2, ?_⟩
      refine ⟨a, .ref l, rfl, rd2 ha1, own_ty (pins := []) hl1, l, _, _, rfl, rfl, hl1, hlast, ?_⟩
      have ei : (σ.set iw (some (V.int ((y :: is).getLast (by simp)))))[i]? = some (some (.ref a)) := by
        rw [List.getElem?_set_ne hi]; exact e2
      have ew : (σ.set iw (some (V.int ((y :: is).getLast (by simp)))))[iw]? = some (some (V.int ((y :: is).getLast (by simp)))) := List.getElem?_set_self (by rw [r.len]; exact hlen)
      have emm : (σ.set iw (some (V.int ((y :: is).getLast (by simp)))))[im]? = some (some (.int m)) := by
        rw [List.getElem?_set_ne hm]; exact em2
      have dl : ((y :: is).map V.int).dropLast = ((y :: is).dropLast).map V.int := by rw [List.map_dropLast]
      have hl2 : (upd (upd (opn H a l kvs (y :: is)) p (.lst [])) l (.lst ((y :: is).map V.int).dropLast)) l = some (.lst (((y :: is).dropLast).map V.int)) := by rw [upd_same, dl]
      have ha2 : (upd (upd (opn H a l kvs (y :: is)) p (.lst [])) l (.lst ((y :: is).map V.int).dropLast)) a = some (.dK kvs) := by rw [upd_ne (Ne.symm op.ne)]; exact ha1
      refine ⟨_, ew, _, emm, _, m, rfl, rfl, _, rfl, ite2 (fun _ => ?_) fun _ => ?_⟩
      · refine ⟨.ref a, ei, a, .ref l, rfl, rd2 ha2, own_ty (pins := []) hl2, _, ew, _, emm, _, m, rfl, rfl, ⟨m0, m1⟩, l, _, _, rfl, rfl, hl2, ?_, ?_⟩
        · rw [List.length_map, List.length_dropLast]
          have : (y :: is).length ≤ sizeLine := z
          have : 0 < (y :: is).length := by simp
          omega
        · refine jpop_end (js := (y :: is).dropLast ++ [(y :: is).getLast (by simp) / m]) r ha hl op hp ?_ (qn _) n2 n3 n4 _
          rw [upd_upd, List.map_append]; rfl
      · exact jpop_end (js := (y :: is).dropLast) r ha hl op hp (by rw [dl]) (qn _) n2 n3 n4 _
/-- the same with the first one -/
theorem ds_jpop0 (gd : Good X) (hJ : ∀ a H, L.J.ok .jar a H → StoOk X.prog X.w nd ks a H) (hx : X.N[iw]? = some x) (hxl : X.env.scope.names.lookup x = some .local)
    (ho1 : PE X o1 (tVar i)) (ho2 : PE X o2 (tVar i)) (ho3 : PE X o3 (tVar i)) (hw1 : PE X w1 (tVar iw)) (hm1 : PE X m1 (tVar im)) (hw2 : PE X w2 (tVar iw)) (hm2 : PE X m2 (tVar im)) (hr : PSs X rest (tS L tb))
    (hn1 : NoSl (.Constant (.str nd) j1 p1) := by intro _ _; rfl) (hn2 : NoSl (.Constant (.str nd) j2 p6) := by intro _ _; rfl) (hn3 : NoSl (.Constant (.str nd) j3 p12) := by intro _ _; rfl)
    (hb1 : attributeBase (.Subscript o2 (.Constant (.str nd) j2 p6) p7) "pop" X.env (eval (.Subscript o2 (.Constant (.str nd) j2 p6) p7) X.env) = eval (.Subscript o2 (.Constant (.str nd) j2 p6) p7) X.env := by rfl) (li1 : (p8.endLine == p9.line) = true := by rfl)
    (hb2 : attributeBase (.Subscript o3 (.Constant (.str nd) j3 p12) p13) "insert" X.env (eval (.Subscript o3 (.Constant (.str nd) j3 p12) p13) X.env) = eval (.Subscript o3 (.Constant (.str nd) j3 p12) p13) X.env := by rfl)
    (fw2 : ((backTo p16 (starEach [.Constant (.int 0) j5 p20, .BinOp w2 .FloorDiv m2 p15] X.env)).all (fun x => !x.1) && (backToKw p16 (keywordEach [] X.env)).all (fun x => x.1.isSome) && decide (([.Constant (.int 0) j5 p20, .BinOp w2 .FloorDiv m2 p15] : List Expr).length + ([] : List Keyword).length + (if ([] : List Keyword).isEmpty then 0 else 1) < 30)) = true := by rfl)
    (li2 : (p14.endLine == p16.line) = true := by rfl) (st2 : starEach [.BinOp w2 .FloorDiv m2 p15] X.env = (false, eval (.BinOp w2 .FloorDiv m2 p15) X.env) :: starEach [] X.env := by rfl) (st3 : starEach [.Constant (.int 0) j5 p20, .BinOp w2 .FloorDiv m2 p15] X.env = (false, eval (.Constant (.int 0) j5 p20) X.env) :: starEach [.BinOp w2 .FloorDiv m2 p15] X.env := by rfl) (pl2 : (backTo p16 (starEach [.BinOp w2 .FloorDiv m2 p15] X.env)).any (·.1) = false := by rfl)
    (fw1 : ((backTo p9 (starEach [.Constant (.int 0) j4 p19] X.env)).all (fun x => !x.1) && (backToKw p9 (keywordEach [] X.env)).all (fun x => x.1.isSome) && decide (([.Constant (.int 0) j4 p19] : List Expr).length + ([] : List Keyword).length + (if ([] : List Keyword).isEmpty then 0 else 1) < 30)) = true := by rfl)
    (st1 : starEach [.Constant (.int 0) j4 p19] X.env = (false, eval (.Constant (.int 0) j4 p19) X.env) :: starEach [] X.env := by rfl) (pl1 : (backTo p9 (starEach [] X.env)).any (·.1) = false := by rfl)
    (sw1 : swapsWith (.Call (.Attribute (.Subscript o2 (.Constant (.str nd) j2 p6) p7) "pop" p8) [.Constant (.int 0) j4 p19] [] p9) (some (.Name x p5)) p10.line X.env = pure false := by rfl)
    (sw2 : swapsWith (.Call (.Attribute (.Subscript o3 (.Constant (.str nd) j3 p12) p13) "insert" p14) [.Constant (.int 0) j5 p20, .BinOp w2 .FloorDiv m2 p15] [] p16) none p17.line X.env = pure false := by rfl) :
    PS X (.If (.Compare (.Subscript o1 (.Constant (.str nd) j1 p1) p2) [.NotEq] [.List [] p3] p4)
      (.Assign [.Name x p5] (.Call (.Attribute (.Subscript o2 (.Constant (.str nd) j2 p6) p7) "pop" p8) [.Constant (.int 0) j4 p19] [] p9) p10 ::
        .If (.Compare w1 [.GtE] [m1] p11) [.Expr (.Call (.Attribute (.Subscript o3 (.Constant (.str nd) j3 p12) p13) "insert" p14) [.Constant (.int 0) j5 p20, .BinOp w2 .FloorDiv m2 p15] [] p16) p17] [] p18 :: rest) [] pos)
      (tS L (dJPop i iw im tb)) :=
  (ps_open (nd := nd) (ks := ks) (ps_closed (nd := nd) (ks := ks) (ps_if (pt_cmpR (op_neD (by have := gd.un; omega)) (pe_dget (by have := gd.un; omega) ho1 pe_str hn1) (pe_lst pa_nil) (nomark _))
    (pss_cons (ps_set (i := iw) gd.nd hx (.inl hxl) (pe_bm PySem.F.plainAttrs_list PySem.F.slot_list_pop PySem.F.type_list_pop mt_popAt (pe_dget (by have := gd.un; omega) ho2 pe_str hn2) (pa_cons pe_int pa_nil st1) hb1 fw1 li1 st1 pl1) sw1 (.inr hxl))
      (pss_cons (ps_if (pt_cmpR op_ge hw1 hm1 (nomark _)) (pss_one (ps_expr (pe_bm PySem.F.plainAttrs_list PySem.F.slot_list_insert PySem.F.type_list_insert mt_insert (pe_dget (by have := gd.un; omega) ho3 pe_str hn3) (pa_cons pe_int (pa_cons (pe_op op_fdiv hw2 hm2) pa_nil st2) st3) hb2 fw2 li2 st3 pl2) sw2)) pss_nil) (pss_closing (nd := nd) (ks := ks) hr))) pss_nil))).less fun D σ H q => by
    obtain ⟨ρ, De, r, ⟨ej, ⟨m, em, m0, m1⟩, hlen, hi, hm, qn, qx⟩, n1, n2, n3, n4⟩ := q
    obtain ⟨ov, e2, a, rfl, ja⟩ := r.get ej
    obtain ⟨vm, em2, bm⟩ := r.getD em
    cases bm
    obtain ⟨l, ha, hl, ne⟩ := hJ a H ja
    refine ⟨a, l, ha, hl, ne, fun kvs is z op => ?_⟩
    have rd : DGet (opn H a l kvs is) a (.str nd) (some (.ref l)) := by
      have q := DGet.k (k := .inr nd) op.ha
      rw [op.kv.2.1] at q; exact q
    refine ⟨.ref a, e2, a, .ref l, rfl, rd, Nat.zero_le _, fun p hp => ?_⟩
    have pa : p ≠ a := fun z => by rw [z, op.ha] at hp; cases hp
    have pl : p ≠ l := fun z => by rw [z, op.hl] at hp; cases hp
    refine ⟨.list (is.map .int), .list [], .lst (.inl (.inl (by rw [upd_ne (Ne.symm pl)]; exact op.hl))) (ints_dp is), .lst (.inl (.inl upd_same)) .nil, ints_shaped is, rfl, _, rfl, ?_⟩
    rw [ints_empty]
    have hl1 : (upd (opn H a l kvs is) p (.lst [])) l = some (.lst (is.map V.int)) := by rw [upd_ne (Ne.symm pl)]; exact op.hl
    have ha1 : (upd (opn H a l kvs is) p (.lst [])) a = some (.dK kvs) := by rw [upd_ne (Ne.symm pa)]; exact op.ha
    have rd2 : ∀ {H2 : Hp}, H2 a = some (.dK kvs) → DGet H2 a (.str nd) (some (.ref l)) := fun h => by
      have q := DGet.k (k := .inr nd) h
      rw [op.kv.2.1] at q; exact q
    cases is with
    | nil =>
      have hp0 : H p = none := (opn_off pa pl).symm.trans hp
      have sm : Same H (upd H p (.lst [])) := same_new hp0
      refine ⟨a, l, kvs, [], ⟨ha1, hl1, op.kv⟩, ?_⟩
      have ec : cls X.prog X.w nd ks (upd (opn H a l kvs []) p (.lst [])) a l = upd H p (.lst []) := cls_opn (H := upd H p (.lst [])) (by rw [upd_ne (Ne.symm pa)]; exact ha) (by rw [upd_ne (Ne.symm pl)]; exact hl) fun b h1 h2 => by
        by_cases hb : b = p
        · subst hb; rw [upd_same, upd_same]
        · rw [upd_ne hb, upd_ne hb]; exact opn_off h1 h2
      rw [ec]
      exact n1 _ _ _ (keep_of_same sm) (r.go sm) qx
    | cons y is =>
      have hne : (y :: is).map V.int ≠ [] := by simp
      refine ⟨.ref a, e2, ?_⟩
      refine ⟨a, .ref l, rfl, rd2 ha1, own_ty (pins := []) hl1, l, _, 0, 0, .int y, rfl, rfl, hl1, by decide, by decide, by simp [seqIndex?], by simp, ?_⟩
      have ei : (σ.set iw (some (V.int y)))[i]? = some (some (.ref a)) := by
        rw [List.getElem?_set_ne hi]; exact e2
      have ew : (σ.set iw (some (V.int y)))[iw]? = some (some (V.int y)) := List.getElem?_set_self (by rw [r.len]; exact hlen)
      have emm : (σ.set iw (some (V.int y)))[im]? = some (some (.int m)) := by
        rw [List.getElem?_set_ne hm]; exact em2
      have dl : ((y :: is).map V.int).eraseIdx 0 = is.map V.int := rfl
      have hl2 : (upd (upd (opn H a l kvs (y :: is)) p (.lst [])) l (.lst (((y :: is).map V.int).eraseIdx 0))) l = some (.lst (is.map V.int)) := by rw [upd_same, dl]
      have ha2 : (upd (upd (opn H a l kvs (y :: is)) p (.lst [])) l (.lst (((y :: is).map V.int).eraseIdx 0))) a = some (.dK kvs) := by rw [upd_ne (Ne.symm op.ne)]; exact ha1
      refine ⟨_, ew, _, emm, _, m, rfl, rfl, _, rfl, ite2 (fun _ => ?_) fun _ => ?_⟩
      · refine ⟨.ref a, ei, a, .ref l, rfl, rd2 ha2, own_ty (pins := []) hl2, _, ew, _, emm, _, m, rfl, rfl, ⟨m0, m1⟩, l, _, 0, _, rfl, rfl, hl2, ?_, by decide, by decide, ?_⟩
        · rw [List.length_map]
          have : (y :: is).length ≤ sizeLine := z
          simp at this; omega
        · refine jpop_end (js := (y / m) :: is) r ha hl op hp ?_ (qn _) n2 n3 n4 _
          rw [upd_upd]; rfl
      · exact jpop_end (js := is) r ha hl op hp (by rw [dl]) (qn _) n2 n3 n4 _
end
end GB

namespace GB
open PySem PySem.Spec PyProof.Rows L2

theorem BrA.put {K : PySem.W.Frag} {H : Hp} : ∀ {vs : List V} {ds : List PyData} (j : Nat) {v : V} {x : PyData}, BrA K H vs ds → Br K H v x → BrA K H (vs.set j v) (ds.set j x)
  | _, _, _, _, _, .nil, _ => .nil
  | _, _, 0, _, _, .cons _ h2, b => .cons b h2
  | _, _, j + 1, _, _, .cons h1 h2, b => .cons h1 (BrA.put j h2 b)
/-- an item of a list of one's own put in another's place -/
def dPutAt (i : Nat) (ti tv : TEd) : TSd := fun D ρ => tv ρ fun s ρ1 => ∃ x ys, s = .d x ∧ ρ1[i]? = some (.own ys) ∧ ti ρ1 fun s2 ρ2 => ∃ k j xs, s2 = .d (.int k) ∧ ρ2[i]? = some (.own xs) ∧ ixN xs.length k = some j ∧ D.nx (ρ2.set i (.own (xs.set j x)))
section
variable {X : Cx} {L : Lay} {o ix v : Expr} {pos p1 : Pos} {i : Nat} {ti tv : TEd}
theorem ds_putAt (ho : PE X o (tVar i)) (hi : PE X ix (tE L ti)) (hv : PE X v (tE L tv)) (hw : swappedStores [.Subscript o ix p1] v X.env = pure none := by rfl) (hs : swapsWithSole [.Subscript o ix p1] v pos.line X.env = pure false := by rfl)
    (h1 : (assignEach [.Subscript o ix p1] X.env).map (·.2) = [assign (.Subscript o ix p1) X.env] := by rfl)
    (ha : ∀ v, assign (.Subscript o ix p1) X.env v = (do
      let ov ← holding [v] (eval o X.env)
      let iv ← holding [v, ov] (eval ix X.env)
      standAt p1
      holding [v, ov, iv] (setItem ov iv v)
      release [v, ov, iv] []) := by intro _; rfl) :
    PS X (.Assign [.Subscript o ix p1] v pos) (tS L (dPutAt i ti tv)) :=
  (ps_asg hv (pg_sub ho hi set_list ha) hs hw h1).less fun D σ H q => by
    obtain ⟨ρ, De, r, q, n1, _⟩ := q
    refine ⟨ρ, _, r, q, fun v H1 s ρ1 go r1 hv q1 => ?_⟩
    obtain ⟨x, ys, rfl, ey, q2⟩ := q1
    obtain ⟨l, us, hi, hl, _⟩ := r1.getO ey
    refine ⟨.ref l, hi, ρ1, _, r1, q2, fun u H2 s2 ρ2 go2 r2 hu q3 => ?_⟩
    obtain ⟨k, j, xs, rfl, ex, hj, q4⟩ := q3
    have hu : Br L.K H2 u (.int k) := hu
    cases hu
    obtain ⟨l', ws, hi', hl', hb, _⟩ := r2.getO ex
    rw [hi] at hi'; cases hi'
    have hv2 : Br L.K H2 v x := Br.keep (go2.keep r1) _ _ hv
    obtain ⟨r3, k3⟩ := r2.put ex hi hl' (hb.put j hv2)
    exact ⟨l, ws, k, j, rfl, rfl, hl', by rw [hb.len]; exact hj, n1 _ _ _ (((go.keep r).tr (go2.keep r1)).tr k3) r3 q4⟩
end
end GB

namespace GB
open PySem PySem.Spec PyProof.Rows L2

/-! what is given by name -/
def pick {α : Type} (is : List Nat) (l : List α) : List α := is.filterMap fun i => l[i]?
theorem pick_vals {is : List Nat} {zs : List V} {ws : List Value} (h : Vals zs ws) : Vals (pick is zs) (pick is ws) := by
  induction is with
  | nil => exact .nil
  | cons i is ih =>
    unfold pick at ih ⊢
    rw [List.filterMap_cons, List.filterMap_cons]
    cases e : zs[i]? with
    | none =>
      have : ws[i]? = none := by
        rw [List.getElem?_eq_none_iff] at e ⊢
        rw [← h.length]; exact e
      rw [this]; exact ih
    | some v =>
      obtain ⟨u, hu, r⟩ := h.get e
      rw [hu]; exact .cons r ih
theorem fr_get {L : Lay} {H : Hp} {vs : List V} {ss : List S} (h : FRs L H vs ss) : ∀ (i : Nat) (v : V), vs[i]? = some v → ∃ s, ss[i]? = some s ∧ FR L H v s := by
  induction h with
  | nil => intro i v e; simp at e
  | @cons v vs s ss h1 h2 ih =>
    intro i w e
    cases i with
    | zero => simp at e; subst e; exact ⟨s, rfl, h1⟩
    | succ i => simp at e ⊢; exact ih i w e
theorem pick_frs {L : Lay} {H : Hp} {is : List Nat} {vs : List V} {ss : List S} (h : FRs L H vs ss) : FRs L H (pick is vs) (pick is ss) := by
  induction is with
  | nil => exact .nil
  | cons i is ih =>
    unfold pick at ih ⊢
    rw [List.filterMap_cons, List.filterMap_cons]
    cases e : vs[i]? with
    | none =>
      have : ss[i]? = none := by
        rw [List.getElem?_eq_none_iff] at e ⊢
        rw [← h.len]; exact e
      rw [this]; exact ih
    | some v =>
      obtain ⟨u, hu, r⟩ := fr_get h i v e
      rw [hu]; exact .cons r ih
theorem perm_mk {K : PySem.W.Frag} {fd : FuncData} {ps ks : List Str} {is : List Nat} (h : ∀ (s : Shared) (us : List Value), (pick is us).length = ps.length → BindsTo s fd ⟨[], ks.zip us⟩ (ps.zip (pick is us))) :
    Perm K fd ps ks (pick is) (pick is) (pick is) := ⟨h, pick_vals, pick_frs⟩
end GB

namespace GB
open PySem PySem.Spec PyProof.Rows L2

/-! kinds -/
def kTuple : PyData → Bool
  | .tuple _ => true
  | _ => false
def kBool : PyData → Bool
  | .bool _ => true
  | _ => false
def kInt : PyData → Bool
  | .int _ => true
  | _ => false
def kStr : PyData → Bool
  | .str _ => true
  | _ => false
theorem isK_tuple (x : PyData) : isK "tuple" x = kTuple x := by
  cases x with
  | none => exact (by decide +kernel : (kitB "NoneType" "tuple").getD false = false)
  | bool _ => exact (by decide +kernel : (kitB "bool" "tuple").getD false = false)
  | int _ => exact (by decide +kernel : (kitB "int" "tuple").getD false = false)
  | str _ => exact (by decide +kernel : (kitB "str" "tuple").getD false = false)
  | list _ => exact (by decide +kernel : (kitB "list" "tuple").getD false = false)
  | tuple _ => exact (by decide +kernel : (kitB "tuple" "tuple").getD false = true)
  | dict _ => exact (by decide +kernel : (kitB "dict" "tuple").getD false = false)
theorem isK_bool (x : PyData) : isK "bool" x = kBool x := by
  cases x with
  | none => exact (by decide +kernel : (kitB "NoneType" "bool").getD false = false)
  | bool _ => exact (by decide +kernel : (kitB "bool" "bool").getD false = true)
  | int _ => exact (by decide +kernel : (kitB "int" "bool").getD false = false)
  | str _ => exact (by decide +kernel : (kitB "str" "bool").getD false = false)
  | list _ => exact (by decide +kernel : (kitB "list" "bool").getD false = false)
  | tuple _ => exact (by decide +kernel : (kitB "tuple" "bool").getD false = false)
  | dict _ => exact (by decide +kernel : (kitB "dict" "bool").getD false = false)
theorem isK_str (x : PyData) : isK "str" x = kStr x := by
  cases x with
  | none => exact (by decide +kernel : (kitB "NoneType" "str").getD false = false)
  | bool _ => exact (by decide +kernel : (kitB "bool" "str").getD false = false)
  | int _ => exact (by decide +kernel : (kitB "int" "str").getD false = false)
  | str _ => exact (by decide +kernel : (kitB "str" "str").getD false = true)
  | list _ => exact (by decide +kernel : (kitB "list" "str").getD false = false)
  | tuple _ => exact (by decide +kernel : (kitB "tuple" "str").getD false = false)
  | dict _ => exact (by decide +kernel : (kitB "dict" "str").getD false = false)
theorem isK_int (x : PyData) : isK "int" x = (kInt x || kBool x) := by
  cases x with
  | none => exact (by decide +kernel : (kitB "NoneType" "int").getD false = false)
  | bool _ => exact (by decide +kernel : (kitB "bool" "int").getD false = true)
  | int _ => exact (by decide +kernel : (kitB "int" "int").getD false = true)
  | str _ => exact (by decide +kernel : (kitB "str" "int").getD false = false)
  | list _ => exact (by decide +kernel : (kitB "list" "int").getD false = false)
  | tuple _ => exact (by decide +kernel : (kitB "tuple" "int").getD false = false)
  | dict _ => exact (by decide +kernel : (kitB "dict" "int").getD false = false)
theorem ex_nil {P : List PyData → Prop} : (∃ xs, ([] : List S) = xs.map S.d ∧ P xs) ↔ P [] := by
  constructor
  · intro ⟨xs, e, p⟩
    cases xs with
    | nil => exact p
    | cons _ _ => cases e
  · intro p; exact ⟨[], rfl, p⟩
theorem ex_cons {P : List PyData → Prop} {a : PyData} {ss : List S} : (∃ xs, (S.d a :: ss) = xs.map S.d ∧ P xs) ↔ ∃ xs, ss = xs.map S.d ∧ P (a :: xs) := by
  constructor
  · intro ⟨xs, e, p⟩
    cases xs with
    | nil => cases e
    | cons b xs =>
      simp only [List.map_cons, List.cons.injEq, S.d.injEq] at e
      obtain ⟨rfl, e⟩ := e
      exact ⟨xs, e, p⟩
  · intro ⟨xs, e, p⟩; exact ⟨a :: xs, by simp [e], p⟩
/-! rows that are walked -/
def pairsFrom (k : Int) : List PyData → List PyData
  | [] => []
  | x :: xs => .tuple [.int k, x] :: pairsFrom (k + 1) xs
theorem pairsFrom_get : ∀ (xs : List PyData) (k : Int) (i : Nat), (pairsFrom k xs)[i]? = xs[i]?.map fun x => .tuple [.int (k + i), x]
  | [], k, i => by simp [pairsFrom]
  | x :: xs, k, 0 => by simp [pairsFrom]
  | x :: xs, k, i + 1 => by
    simp only [pairsFrom, List.getElem?_cons_succ, pairsFrom_get xs (k + 1) i]
    congr 1; funext y; congr 3; omega
theorem pairsOf_eq (xs : List PyData) : GB.pairsOf xs = pairsFrom 0 xs := by
  apply List.ext_getElem?
  intro i
  rw [pairsFrom_get]
  unfold GB.pairsOf
  rw [List.getElem?_map]
  by_cases h : i < xs.length
  · rw [List.getElem?_range h]; simp [h]
  · rw [List.getElem?_eq_none (by simpa using h), List.getElem?_eq_none (by omega)]; rfl
theorem irow_zero (lo : Int) : irow lo 0 = [] := rfl
theorem irow_succ (lo : Int) (n : Nat) : irow lo (n + 1) = .int lo :: irow (lo + 1) n := by
  unfold irow
  rw [List.range_succ_eq_map, List.map_cons, List.map_map]
  rw [List.cons.injEq]
  refine ⟨by simp, List.map_congr_left fun i _ => ?_⟩
  simp; omega
theorem irow_mem {lo : Int} {n : Nat} {x : PyData} (h : x ∈ irow lo n) : ∃ i : Int, x = .int i ∧ lo ≤ i ∧ i < lo + n := by
  simp only [irow, List.mem_map, List.mem_range] at h
  obtain ⟨i, hi, rfl⟩ := h
  exact ⟨_, rfl, by omega, by omega⟩
theorem atI_mem {xs : List PyData} {r : Int} (h0 : 0 ≤ r) (h1 : r < xs.length) : ∃ v, atI xs r = some v ∧ v ∈ xs := by
  have hn : r.toNat < xs.length := by omega
  refine ⟨xs[r.toNat], ?_, List.getElem_mem hn⟩
  unfold atI ixN
  rw [if_pos h0, if_pos (by omega)]
  simp [hn]
theorem dgCons_cons {g : DTG} {gs : DTGs} {d : PyData} {r : List PyData} {ρ : En} {Q : En → Prop} : dgCons g gs (d :: r) ρ Q ↔ g d ρ fun ρ1 => gs r ρ1 Q := by
  constructor
  · intro ⟨d', r', e, q⟩; cases e; exact q
  · intro q; exact ⟨d, r, rfl, q⟩
theorem dgNil_nil {ρ : En} {Q : En → Prop} : dgNil [] ρ Q ↔ Q ρ := ⟨fun q => q.2, fun q => ⟨rfl, q⟩⟩
theorem dgTup_tup {n : Nat} {gs : DTGs} {ds : List PyData} {ρ : En} {Q : En → Prop} : dgTup n gs (.tuple ds) ρ Q ↔ ds.length = n ∧ gs ds ρ Q := by
  constructor
  · intro ⟨d', e, q⟩; cases e; exact q
  · intro q; exact ⟨ds, rfl, q⟩
theorem rb {R : S → Prop} {a b : Bool} (h : R (.d (.bool a))) (e : a = b) : R (.d (.bool b)) := e ▸ h
theorem ri {R : S → Prop} {a b : Int} (h : R (.d (.int a))) (e : a = b) : R (.d (.int b)) := e ▸ h
theorem eqOk_str (a b : Str) : eqOk (.str a) (.str b) = true := rfl
theorem eqOk_int (a b : Int) : eqOk (.int a) (.int b) = true := rfl
theorem eqOk_bool (a b : Bool) : eqOk (.bool a) (.bool b) = true := rfl
theorem str_eqv (s : Str) : PyData.eqv (.str s) (.str s) = true := by simp [PyData.eqv]
theorem int_eqv (a b : Int) : PyData.eqv (.int a) (.int b) = decide (a = b) := by
  by_cases h : a = b
  · subst h; simp [PyData.eqv]
  · simp [PyData.eqv, h]
theorem tup_nil_eqv (xs : List PyData) : PyData.eqv (.tuple xs) (.tuple []) = xs.isEmpty := by cases xs <;> rfl
theorem lst_nil_eqv (xs : List PyData) : PyData.eqv (.list xs) (.list []) = xs.isEmpty := by cases xs <;> rfl
theorem cutD_mem {α : Type} {xs : List α} {lo hi : Option Int} {x : α} (h : x ∈ cutD xs lo hi) : x ∈ xs := List.mem_of_mem_drop (List.mem_of_mem_take h)
theorem cutD_len {α : Type} (xs : List α) (lo hi : Option Int) : (cutD xs lo hi).length ≤ xs.length := by
  unfold cutD
  rw [List.length_take, List.length_drop]; omega
theorem cutD_to {α : Type} (xs : List α) (n : Nat) : cutD xs none (some (n : Int)) = xs.take n := by
  unfold cutD
  rw [HT.sIx_none, HT.sIx_nat, List.drop_zero, Nat.sub_zero]
  exact (List.take_eq_take_min).symm
theorem rep_flat {α : Type} (n : Nat) (x : α) : (List.replicate n [x]).flatten = List.replicate n x := by
  induction n with
  | zero => rfl
  | succ n ih => rw [List.replicate_succ, List.flatten_cons, ih]; rfl
theorem cmul_r {i j : Int} (h1 : -(2 ^ 64) < j) (h2 : j < 2 ^ 64) : CMul i j ∨ CMulW i j := .inl (.inr ⟨h1, h2⟩)
theorem cmul_l {i j : Int} (h1 : -(2 ^ 64) < i) (h2 : i < 2 ^ 64) : CMul i j ∨ CMulW i j := .inl (.inl ⟨h1, h2⟩)
theorem pow2000 {k : Int} (h : k < 2 ^ 64) : k < 2 ^ 2000 := Int.lt_of_lt_of_le h (by decide +kernel)
end GB

namespace GB
open PySem PySem.Spec PyProof.Rows L2

/-! readings, step by step from without: what is looked at stands first -/
def atK (ρ : En) (i : Nat) (k : S → Prop) : Prop := ∃ s, ρ[i]? = some s ∧ k s
def setK (f : En → Prop) (ρ : En) (i : Nat) (s : S) : Prop := f (ρ.set i s)
def fzK (s : S) (k : S → Prop) : Prop := k s.fz
def oneK (s : S) (k : PyData → Prop) : Prop := ∃ x, s = .d x ∧ k x
def intK (s : S) (k : Int → Prop) : Prop := ∃ i, s = .d (.int i) ∧ k i
def boolK (s : S) (k : Bool → Prop) : Prop := ∃ b, s = .d (.bool b) ∧ k b
def dsK (ss : List S) (k : List PyData → Prop) : Prop := ∃ xs, ss = xs.map S.d ∧ k xs
def seqK (s : S) (k : List PyData → Prop) : Prop := ∃ ds, (s = .d (.list ds) ∨ s = .d (.tuple ds)) ∧ k ds
def ownK (s : S) (k : List PyData → Prop) : Prop := ∃ xs, s = .own xs ∧ k xs
def iteK (b : Bool) (p q : Prop) : Prop := if b = true then p else q
section
variable {ρ : En} {Q : S → En → Prop} {QB : Bool → En → Prop} {QA : List S → En → Prop} {D : EndsD} {k : S → Prop} {i j : Nat} {t ta tb : TEd} {tt tu : TTd} {as : TAd} {g : DTG} {gs : DTGs}
theorem ex1 {α : Type} {a : α} {p : α → Prop} : (∃ x, a = x ∧ p x) ↔ p a := ⟨fun ⟨x, e, h⟩ => e ▸ h, fun h => ⟨a, rfl, h⟩⟩

theorem at0 {a0 : S} {r : En} {k : S → Prop} : atK (a0 :: r) 0 k ↔ k a0 := ⟨fun ⟨s, e, h⟩ => by cases e; exact h, fun h => ⟨_, rfl, h⟩⟩
theorem set0 {a0 : S} {r : En} {s : S} {f : En → Prop} : setK f (a0 :: r) 0 s ↔ f (s :: r) := Iff.rfl
theorem at1 {a0 a1 : S} {r : En} {k : S → Prop} : atK (a0 :: a1 :: r) 1 k ↔ k a1 := ⟨fun ⟨s, e, h⟩ => by cases e; exact h, fun h => ⟨_, rfl, h⟩⟩
theorem set1 {a0 a1 : S} {r : En} {s : S} {f : En → Prop} : setK f (a0 :: a1 :: r) 1 s ↔ f (a0 :: s :: r) := Iff.rfl
theorem at2 {a0 a1 a2 : S} {r : En} {k : S → Prop} : atK (a0 :: a1 :: a2 :: r) 2 k ↔ k a2 := ⟨fun ⟨s, e, h⟩ => by cases e; exact h, fun h => ⟨_, rfl, h⟩⟩
theorem set2 {a0 a1 a2 : S} {r : En} {s : S} {f : En → Prop} : setK f (a0 :: a1 :: a2 :: r) 2 s ↔ f (a0 :: a1 :: s :: r) := Iff.rfl
theorem at3 {a0 a1 a2 a3 : S} {r : En} {k : S → Prop} : atK (a0 :: a1 :: a2 :: a3 :: r) 3 k ↔ k a3 := ⟨fun ⟨s, e, h⟩ => by cases e; exact h, fun h => ⟨_, rfl, h⟩⟩
theorem set3 {a0 a1 a2 a3 : S} {r : En} {s : S} {f : En → Prop} : setK f (a0 :: a1 :: a2 :: a3 :: r) 3 s ↔ f (a0 :: a1 :: a2 :: s :: r) := Iff.rfl
theorem at4 {a0 a1 a2 a3 a4 : S} {r : En} {k : S → Prop} : atK (a0 :: a1 :: a2 :: a3 :: a4 :: r) 4 k ↔ k a4 := ⟨fun ⟨s, e, h⟩ => by cases e; exact h, fun h => ⟨_, rfl, h⟩⟩
theorem set4 {a0 a1 a2 a3 a4 : S} {r : En} {s : S} {f : En → Prop} : setK f (a0 :: a1 :: a2 :: a3 :: a4 :: r) 4 s ↔ f (a0 :: a1 :: a2 :: a3 :: s :: r) := Iff.rfl
theorem at5 {a0 a1 a2 a3 a4 a5 : S} {r : En} {k : S → Prop} : atK (a0 :: a1 :: a2 :: a3 :: a4 :: a5 :: r) 5 k ↔ k a5 := ⟨fun ⟨s, e, h⟩ => by cases e; exact h, fun h => ⟨_, rfl, h⟩⟩
theorem set5 {a0 a1 a2 a3 a4 a5 : S} {r : En} {s : S} {f : En → Prop} : setK f (a0 :: a1 :: a2 :: a3 :: a4 :: a5 :: r) 5 s ↔ f (a0 :: a1 :: a2 :: a3 :: a4 :: s :: r) := Iff.rfl
theorem at6 {a0 a1 a2 a3 a4 a5 a6 : S} {r : En} {k : S → Prop} : atK (a0 :: a1 :: a2 :: a3 :: a4 :: a5 :: a6 :: r) 6 k ↔ k a6 := ⟨fun ⟨s, e, h⟩ => by cases e; exact h, fun h => ⟨_, rfl, h⟩⟩
theorem set6 {a0 a1 a2 a3 a4 a5 a6 : S} {r : En} {s : S} {f : En → Prop} : setK f (a0 :: a1 :: a2 :: a3 :: a4 :: a5 :: a6 :: r) 6 s ↔ f (a0 :: a1 :: a2 :: a3 :: a4 :: a5 :: s :: r) := Iff.rfl
theorem at7 {a0 a1 a2 a3 a4 a5 a6 a7 : S} {r : En} {k : S → Prop} : atK (a0 :: a1 :: a2 :: a3 :: a4 :: a5 :: a6 :: a7 :: r) 7 k ↔ k a7 := ⟨fun ⟨s, e, h⟩ => by cases e; exact h, fun h => ⟨_, rfl, h⟩⟩
theorem set7 {a0 a1 a2 a3 a4 a5 a6 a7 : S} {r : En} {s : S} {f : En → Prop} : setK f (a0 :: a1 :: a2 :: a3 :: a4 :: a5 :: a6 :: a7 :: r) 7 s ↔ f (a0 :: a1 :: a2 :: a3 :: a4 :: a5 :: a6 :: s :: r) := Iff.rfl
theorem at8 {a0 a1 a2 a3 a4 a5 a6 a7 a8 : S} {r : En} {k : S → Prop} : atK (a0 :: a1 :: a2 :: a3 :: a4 :: a5 :: a6 :: a7 :: a8 :: r) 8 k ↔ k a8 := ⟨fun ⟨s, e, h⟩ => by cases e; exact h, fun h => ⟨_, rfl, h⟩⟩
theorem set8 {a0 a1 a2 a3 a4 a5 a6 a7 a8 : S} {r : En} {s : S} {f : En → Prop} : setK f (a0 :: a1 :: a2 :: a3 :: a4 :: a5 :: a6 :: a7 :: a8 :: r) 8 s ↔ f (a0 :: a1 :: a2 :: a3 :: a4 :: a5 :: a6 :: a7 :: s :: r) := Iff.rfl
theorem at9 {a0 a1 a2 a3 a4 a5 a6 a7 a8 a9 : S} {r : En} {k : S → Prop} : atK (a0 :: a1 :: a2 :: a3 :: a4 :: a5 :: a6 :: a7 :: a8 :: a9 :: r) 9 k ↔ k a9 := ⟨fun ⟨s, e, h⟩ => by cases e; exact h, fun h => ⟨_, rfl, h⟩⟩
theorem set9 {a0 a1 a2 a3 a4 a5 a6 a7 a8 a9 : S} {r : En} {s : S} {f : En → Prop} : setK f (a0 :: a1 :: a2 :: a3 :: a4 :: a5 :: a6 :: a7 :: a8 :: a9 :: r) 9 s ↔ f (a0 :: a1 :: a2 :: a3 :: a4 :: a5 :: a6 :: a7 :: a8 :: s :: r) := Iff.rfl
theorem at10 {a0 a1 a2 a3 a4 a5 a6 a7 a8 a9 a10 : S} {r : En} {k : S → Prop} : atK (a0 :: a1 :: a2 :: a3 :: a4 :: a5 :: a6 :: a7 :: a8 :: a9 :: a10 :: r) 10 k ↔ k a10 := ⟨fun ⟨s, e, h⟩ => by cases e; exact h, fun h => ⟨_, rfl, h⟩⟩
theorem set10 {a0 a1 a2 a3 a4 a5 a6 a7 a8 a9 a10 : S} {r : En} {s : S} {f : En → Prop} : setK f (a0 :: a1 :: a2 :: a3 :: a4 :: a5 :: a6 :: a7 :: a8 :: a9 :: a10 :: r) 10 s ↔ f (a0 :: a1 :: a2 :: a3 :: a4 :: a5 :: a6 :: a7 :: a8 :: a9 :: s :: r) := Iff.rfl
theorem at11 {a0 a1 a2 a3 a4 a5 a6 a7 a8 a9 a10 a11 : S} {r : En} {k : S → Prop} : atK (a0 :: a1 :: a2 :: a3 :: a4 :: a5 :: a6 :: a7 :: a8 :: a9 :: a10 :: a11 :: r) 11 k ↔ k a11 := ⟨fun ⟨s, e, h⟩ => by cases e; exact h, fun h => ⟨_, rfl, h⟩⟩
theorem set11 {a0 a1 a2 a3 a4 a5 a6 a7 a8 a9 a10 a11 : S} {r : En} {s : S} {f : En → Prop} : setK f (a0 :: a1 :: a2 :: a3 :: a4 :: a5 :: a6 :: a7 :: a8 :: a9 :: a10 :: a11 :: r) 11 s ↔ f (a0 :: a1 :: a2 :: a3 :: a4 :: a5 :: a6 :: a7 :: a8 :: a9 :: a10 :: s :: r) := Iff.rfl
theorem at12 {a0 a1 a2 a3 a4 a5 a6 a7 a8 a9 a10 a11 a12 : S} {r : En} {k : S → Prop} : atK (a0 :: a1 :: a2 :: a3 :: a4 :: a5 :: a6 :: a7 :: a8 :: a9 :: a10 :: a11 :: a12 :: r) 12 k ↔ k a12 := ⟨fun ⟨s, e, h⟩ => by cases e; exact h, fun h => ⟨_, rfl, h⟩⟩
theorem set12 {a0 a1 a2 a3 a4 a5 a6 a7 a8 a9 a10 a11 a12 : S} {r : En} {s : S} {f : En → Prop} : setK f (a0 :: a1 :: a2 :: a3 :: a4 :: a5 :: a6 :: a7 :: a8 :: a9 :: a10 :: a11 :: a12 :: r) 12 s ↔ f (a0 :: a1 :: a2 :: a3 :: a4 :: a5 :: a6 :: a7 :: a8 :: a9 :: a10 :: a11 :: s :: r) := Iff.rfl
theorem at13 {a0 a1 a2 a3 a4 a5 a6 a7 a8 a9 a10 a11 a12 a13 : S} {r : En} {k : S → Prop} : atK (a0 :: a1 :: a2 :: a3 :: a4 :: a5 :: a6 :: a7 :: a8 :: a9 :: a10 :: a11 :: a12 :: a13 :: r) 13 k ↔ k a13 := ⟨fun ⟨s, e, h⟩ => by cases e; exact h, fun h => ⟨_, rfl, h⟩⟩
theorem set13 {a0 a1 a2 a3 a4 a5 a6 a7 a8 a9 a10 a11 a12 a13 : S} {r : En} {s : S} {f : En → Prop} : setK f (a0 :: a1 :: a2 :: a3 :: a4 :: a5 :: a6 :: a7 :: a8 :: a9 :: a10 :: a11 :: a12 :: a13 :: r) 13 s ↔ f (a0 :: a1 :: a2 :: a3 :: a4 :: a5 :: a6 :: a7 :: a8 :: a9 :: a10 :: a11 :: a12 :: s :: r) := Iff.rfl
theorem at14 {a0 a1 a2 a3 a4 a5 a6 a7 a8 a9 a10 a11 a12 a13 a14 : S} {r : En} {k : S → Prop} : atK (a0 :: a1 :: a2 :: a3 :: a4 :: a5 :: a6 :: a7 :: a8 :: a9 :: a10 :: a11 :: a12 :: a13 :: a14 :: r) 14 k ↔ k a14 := ⟨fun ⟨s, e, h⟩ => by cases e; exact h, fun h => ⟨_, rfl, h⟩⟩
theorem set14 {a0 a1 a2 a3 a4 a5 a6 a7 a8 a9 a10 a11 a12 a13 a14 : S} {r : En} {s : S} {f : En → Prop} : setK f (a0 :: a1 :: a2 :: a3 :: a4 :: a5 :: a6 :: a7 :: a8 :: a9 :: a10 :: a11 :: a12 :: a13 :: a14 :: r) 14 s ↔ f (a0 :: a1 :: a2 :: a3 :: a4 :: a5 :: a6 :: a7 :: a8 :: a9 :: a10 :: a11 :: a12 :: a13 :: s :: r) := Iff.rfl
theorem at15 {a0 a1 a2 a3 a4 a5 a6 a7 a8 a9 a10 a11 a12 a13 a14 a15 : S} {r : En} {k : S → Prop} : atK (a0 :: a1 :: a2 :: a3 :: a4 :: a5 :: a6 :: a7 :: a8 :: a9 :: a10 :: a11 :: a12 :: a13 :: a14 :: a15 :: r) 15 k ↔ k a15 := ⟨fun ⟨s, e, h⟩ => by cases e; exact h, fun h => ⟨_, rfl, h⟩⟩
theorem set15 {a0 a1 a2 a3 a4 a5 a6 a7 a8 a9 a10 a11 a12 a13 a14 a15 : S} {r : En} {s : S} {f : En → Prop} : setK f (a0 :: a1 :: a2 :: a3 :: a4 :: a5 :: a6 :: a7 :: a8 :: a9 :: a10 :: a11 :: a12 :: a13 :: a14 :: a15 :: r) 15 s ↔ f (a0 :: a1 :: a2 :: a3 :: a4 :: a5 :: a6 :: a7 :: a8 :: a9 :: a10 :: a11 :: a12 :: a13 :: a14 :: s :: r) := Iff.rfl

theorem fz_d {x : PyData} : fzK (.d x) k ↔ k (.d x) := Iff.rfl
theorem fz_own {xs : List PyData} : fzK (.own xs) k ↔ k (.d (.list xs)) := Iff.rfl
theorem fz_ob {t : Tk} : fzK (.ob t) k ↔ k (.ob t) := Iff.rfl
theorem one_d {x : PyData} {k : PyData → Prop} : oneK (.d x) k ↔ k x := ⟨fun ⟨y, e, h⟩ => by cases e; exact h, fun h => ⟨_, rfl, h⟩⟩
theorem int_d {x : Int} {k : Int → Prop} : intK (.d (.int x)) k ↔ k x := ⟨fun ⟨y, e, h⟩ => by cases e; exact h, fun h => ⟨_, rfl, h⟩⟩
theorem bool_d {x : Bool} {k : Bool → Prop} : boolK (.d (.bool x)) k ↔ k x := ⟨fun ⟨y, e, h⟩ => by cases e; exact h, fun h => ⟨_, rfl, h⟩⟩
theorem own_o {xs : List PyData} {k : List PyData → Prop} : ownK (.own xs) k ↔ k xs := ⟨fun ⟨y, e, h⟩ => by cases e; exact h, fun h => ⟨_, rfl, h⟩⟩
theorem ds_nil {k : List PyData → Prop} : dsK [] k ↔ k [] := ex_nil
theorem ds_cons {a : PyData} {r : List S} {k : List PyData → Prop} : dsK (.d a :: r) k ↔ dsK r fun xs => k (a :: xs) := ex_cons
theorem seq_l {xs : List PyData} {k : List PyData → Prop} : seqK (.d (.list xs)) k ↔ k xs := ⟨fun ⟨y, e, h⟩ => by rcases e with e | e <;> cases e; exact h, fun h => ⟨_, .inl rfl, h⟩⟩
theorem seq_t {xs : List PyData} {k : List PyData → Prop} : seqK (.d (.tuple xs)) k ↔ k xs := ⟨fun ⟨y, e, h⟩ => by rcases e with e | e <;> cases e; exact h, fun h => ⟨_, .inr rfl, h⟩⟩
theorem ite_t {p q : Prop} : iteK true p q ↔ p := Iff.rfl
theorem ite_f {p q : Prop} : iteK false p q ↔ q := by simp [iteK]
theorem ite_dec {c : Prop} [Decidable c] {p q : Prop} : iteK (decide c) p q ↔ ((c → p) ∧ (¬ c → q)) := by
  unfold iteK
  by_cases h : c <;> simp [h]
theorem ite_ndec {c : Prop} [Decidable c] {p q : Prop} : iteK (!decide c) p q ↔ ((¬ c → p) ∧ (c → q)) := by
  unfold iteK
  by_cases h : c <;> simp [h]
theorem itK_not {b : Bool} {p q : Prop} : iteK (!b) p q ↔ iteK b q p := by cases b <;> simp [iteK]
theorem ite_bool {b : Bool} {p q : Prop} : iteK b p q ↔ ((b = true → p) ∧ (b = false → q)) := by cases b <;> simp [iteK]
theorem iteI {c : Prop} [Decidable c] {p q : Prop} (h1 : c → p) (h2 : ¬ c → q) : iteK (decide c) p q := ite_dec.mpr ⟨h1, h2⟩
theorem iteB {b : Bool} {p q : Prop} (h1 : b = true → p) (h2 : b = false → q) : iteK b p q := ite_bool.mpr ⟨h1, h2⟩
/-! statements -/
theorem e_next : dNext D ρ ↔ D.nx ρ := Iff.rfl
theorem e_seq {a b : TSd} : dSeq a b D ρ ↔ a { D with nx := b D } ρ := Iff.rfl
theorem e_set : dSet i t D ρ ↔ t ρ fun s ρ1 => setK D.nx ρ1 i s := Iff.rfl
theorem e_drop : dDrop t D ρ ↔ t ρ fun _ ρ1 => D.nx ρ1 := Iff.rfl
theorem e_ret : dRet t D ρ ↔ t ρ fun s _ => D.rt s := Iff.rfl
theorem e_ifs {a b : TSd} : dIfS tt a b D ρ ↔ tt ρ fun c ρ1 => iteK c (a D ρ1) (b D ρ1) := Iff.rfl
theorem e_brk : dBrk D ρ ↔ D.bk ρ := Iff.rfl
theorem e_cnt : dCnt D ρ ↔ D.ct ρ := Iff.rfl
theorem e_fixs {a : TSd} : dFixS i a D ρ ↔ atK ρ i fun s => ownK s fun xs => setK (a D) ρ i (.d (.list xs)) := by
  constructor
  · intro ⟨xs, e, q⟩; exact ⟨_, e, xs, rfl, q⟩
  · intro ⟨_, e, xs, z, q⟩; exact ⟨xs, z ▸ e, q⟩
theorem e_par : dPar i j ta tb D ρ ↔ ta ρ fun s1 ρ1 => tb ρ1 fun s2 ρ2 => setK (fun ρ3 => setK D.nx ρ3 j s2) ρ2 i s1 := Iff.rfl
theorem e_par3 {l : Nat} {tc : TEd} : dPar3 i j l ta tb tc D ρ ↔ ta ρ fun s1 ρ1 => tb ρ1 fun s2 ρ2 => tc ρ2 fun s3 ρ3 => setK (fun ρ4 => setK (fun ρ5 => setK D.nx ρ5 l s3) ρ4 j s2) ρ3 i s1 := Iff.rfl
theorem e_asg : dAsg t g D ρ ↔ t ρ fun s ρ1 => oneK s fun x => g x ρ1 D.nx := Iff.rfl
theorem e_for {ti : TId} {b : TSd} : dFor ti g b D ρ ↔ ti ρ fun ds ρ1 => dLoop g b D ds ρ1 := Iff.rfl
theorem e_putAt : dPutAt i ta tb D ρ ↔ tb ρ fun s ρ1 => oneK s fun x => atK ρ1 i fun o => ownK o fun _ => ta ρ1 fun s2 ρ2 => intK s2 fun n => atK ρ2 i fun o => ownK o fun xs => ∃ j, ixN xs.length n = some j ∧ setK D.nx ρ2 i (.own (xs.set j x)) := by
  have e : ∀ (s2 : S) (ρ2 : En) (x : PyData), (∃ k j xs, s2 = .d (.int k) ∧ ρ2[i]? = some (.own xs) ∧ ixN xs.length k = some j ∧ D.nx (ρ2.set i (.own (xs.set j x)))) ↔ (intK s2 fun n => atK ρ2 i fun o => ownK o fun xs => ∃ j, ixN xs.length n = some j ∧ setK D.nx ρ2 i (.own (xs.set j x))) := by
    intro s2 ρ2 x
    constructor
    · intro ⟨k, j, xs, e1, e2, e3, q⟩; exact ⟨k, e1, _, e2, xs, rfl, j, e3, q⟩
    · intro ⟨k, e1, _, e2, xs, z, j, e3, q⟩; exact ⟨k, j, xs, e1, z ▸ e2, e3, q⟩
  have e2 : ∀ (s : S) (ρ1 : En), (∃ x ys, s = .d x ∧ ρ1[i]? = some (.own ys) ∧ ta ρ1 fun s2 ρ2 => ∃ k j xs, s2 = .d (.int k) ∧ ρ2[i]? = some (.own xs) ∧ ixN xs.length k = some j ∧ D.nx (ρ2.set i (.own (xs.set j x)))) ↔
      (oneK s fun x => atK ρ1 i fun o => ownK o fun _ => ta ρ1 fun s2 ρ2 => intK s2 fun n => atK ρ2 i fun o => ownK o fun xs => ∃ j, ixN xs.length n = some j ∧ setK D.nx ρ2 i (.own (xs.set j x))) := by
    intro s ρ1
    simp only [e]
    constructor
    · intro ⟨x, ys, e1, e2, q⟩; exact ⟨x, e1, _, e2, ys, rfl, q⟩
    · intro ⟨x, e1, _, e2, ys, z, q⟩; exact ⟨x, ys, e1, z ▸ e2, q⟩
  unfold dPutAt
  simp only [e2]
theorem e_jput : dJPut i t D ρ ↔ t ρ fun s ρ1 => intK s fun _ => ρ1[i]? = some (.ob .jar) ∧ D.nx ρ1 := Iff.rfl
/-! expressions -/
theorem e_var : dVar i ρ Q ↔ atK ρ i fun s => s.firm ∧ Q s ρ := Iff.rfl
theorem e_k {x : PyData} : dK x ρ Q ↔ Q (.d x) ρ := Iff.rfl
theorem e_fz : dFz t ρ Q ↔ t ρ fun s ρ1 => fzK s fun s => Q s ρ1 := Iff.rfl
theorem e_op {f : F2} : dOp f ta tb ρ Q ↔ ta ρ fun s1 ρ1 => tb ρ1 fun s2 ρ2 => oneK s1 fun x => oneK s2 fun y => f x y fun s => Q s ρ2 := by
  have e : ∀ (s1 s2 : S) (ρ2 : En), (∃ x y, s1 = .d x ∧ s2 = .d y ∧ f x y fun s => Q s ρ2) ↔ (oneK s1 fun x => oneK s2 fun y => f x y fun s => Q s ρ2) := fun s1 s2 ρ2 => ⟨fun ⟨x, y, a, b, h⟩ => ⟨x, a, y, b, h⟩, fun ⟨x, a, y, b, h⟩ => ⟨x, y, a, b, h⟩⟩
  unfold dOp
  simp only [e]
theorem e_opL {f : F2} : dOpL i f tb ρ Q ↔ (atK ρ i fun o => ownK o fun _ => tb ρ fun s2 ρ2 => oneK s2 fun y => atK ρ2 i fun o => ownK o fun xs => f (.list xs) y fun s => Q s ρ2) := by
  have e : ∀ (s2 : S) (ρ2 : En), (∃ xs y, ρ2[i]? = some (.own xs) ∧ s2 = .d y ∧ f (.list xs) y fun s => Q s ρ2) ↔ (oneK s2 fun y => atK ρ2 i fun o => ownK o fun xs => f (.list xs) y fun s => Q s ρ2) := fun s2 ρ2 => ⟨fun ⟨x, y, a, b, h⟩ => ⟨y, b, .own x, a, x, rfl, h⟩, fun ⟨y, b, _, a, x, e, h⟩ => ⟨x, y, e ▸ a, b, h⟩⟩
  unfold dOpL
  simp only [e]
  exact ⟨fun ⟨⟨ys, a⟩, h⟩ => ⟨.own ys, a, ys, rfl, h⟩, fun ⟨_, a, ys, e, h⟩ => ⟨⟨ys, e ▸ a⟩, h⟩⟩
theorem e_opR {f : F2} : dOpR f ta i ρ Q ↔ ta ρ fun s1 ρ1 => oneK s1 fun x => atK ρ1 i fun o => ownK o fun ys => f x (.list ys) fun s => Q s ρ1 := by
  have e : ∀ (s1 : S) (ρ1 : En), (∃ x ys, s1 = .d x ∧ ρ1[i]? = some (.own ys) ∧ f x (.list ys) fun s => Q s ρ1) ↔ (oneK s1 fun x => atK ρ1 i fun o => ownK o fun ys => f x (.list ys) fun s => Q s ρ1) := fun s1 ρ1 => ⟨fun ⟨x, y, a, b, h⟩ => ⟨x, a, .own y, b, y, rfl, h⟩, fun ⟨x, a, _, b, y, e, h⟩ => ⟨x, y, a, e ▸ b, h⟩⟩
  unfold dOpR
  simp only [e]
theorem e_n {f : FN} : dN f as ρ Q ↔ as ρ fun ss ρ1 => dsK ss fun xs => f xs fun s => Q s ρ1 := Iff.rfl
theorem e_n1 {f : FN} : dN1 f i ρ Q ↔ atK ρ i fun o => ownK o fun xs => f [.list xs] fun s => Q s ρ := ⟨fun ⟨xs, a, h⟩ => ⟨.own xs, a, xs, rfl, h⟩, fun ⟨_, a, xs, e, h⟩ => ⟨xs, e ▸ a, h⟩⟩
theorem e_nil : dNil ρ QA ↔ QA [] ρ := Iff.rfl
theorem e_cons : dCons t as ρ QA ↔ t ρ fun s ρ1 => s.firm ∧ as ρ1 fun ss ρ2 => QA (s :: ss) ρ2 := Iff.rfl
theorem e_tup : dTup as ρ Q ↔ as ρ fun ss ρ1 => dsK ss fun xs => xs.length ≤ sizeLine ∧ Q (.d (.tuple xs)) ρ1 := Iff.rfl
theorem e_lst : dLst as ρ Q ↔ as ρ fun ss ρ1 => dsK ss fun xs => xs.length ≤ sizeLine ∧ Q (.own xs) ρ1 := Iff.rfl
theorem e_b : dB t ρ QB ↔ t ρ fun s ρ1 => boolK s fun b => QB b ρ1 := Iff.rfl
theorem e_not : dNot tt ρ QB ↔ tt ρ fun b ρ1 => QB (!b) ρ1 := Iff.rfl
theorem e_and : dAnd tt tu ρ QB ↔ tt ρ fun b ρ1 => iteK b (tu ρ1 QB) (QB false ρ1) := Iff.rfl
theorem e_or : dOr tt tu ρ QB ↔ tt ρ fun b ρ1 => iteK b (QB true ρ1) (tu ρ1 QB) := Iff.rfl
theorem e_andV : dAndV ta tb ρ Q ↔ ta ρ fun s ρ1 => boolK s fun b => iteK b (tb ρ1 Q) (Q (.d (.bool false)) ρ1) := Iff.rfl
theorem e_orV : dOrV ta tb ρ Q ↔ ta ρ fun s ρ1 => boolK s fun b => iteK b (Q (.d (.bool true)) ρ1) (tb ρ1 Q) := Iff.rfl
theorem e_notV : dNotV ta ρ Q ↔ ta ρ fun s ρ1 => boolK s fun b => Q (.d (.bool (!b))) ρ1 := Iff.rfl
theorem e_if : dIf tt ta tb ρ Q ↔ tt ρ fun b ρ1 => iteK b (ta ρ1 Q) (tb ρ1 Q) := Iff.rfl
theorem e_isi {T : String} : dIsi T t ρ Q ↔ t ρ fun s ρ1 => oneK s fun x => Q (.d (.bool (isK T x))) ρ1 := Iff.rfl
theorem e_neg : dNeg t ρ Q ↔ t ρ fun s ρ1 => intK s fun i => Q (.d (.int (-i))) ρ1 := Iff.rfl
theorem e_chain {f f' : F2} {tc : TEd} : dChain f f' ta tb tc ρ Q ↔ ta ρ fun s1 ρ1 => tb ρ1 fun s2 ρ2 => oneK s1 fun x => oneK s2 fun y => f x y fun s => boolK s fun b => iteK b (tc ρ2 fun s3 ρ3 => oneK s3 fun z => f' y z fun s => Q s ρ3) (Q (.d (.bool false)) ρ2) := by
  have e : ∀ (s1 s2 : S) (ρ2 : En) (P : PyData → PyData → Prop), (∃ x y, s1 = .d x ∧ s2 = .d y ∧ P x y) ↔ (oneK s1 fun x => oneK s2 fun y => P x y) := fun s1 s2 ρ2 P => ⟨fun ⟨x, y, a, b, h⟩ => ⟨x, a, y, b, h⟩, fun ⟨x, a, y, b, h⟩ => ⟨x, y, a, b, h⟩⟩
  unfold dChain
  simp only [e _ _ ρ]
  exact Iff.rfl
theorem e_call {F : FnD} {n : Nat} : dCall F n as ρ Q ↔ as ρ fun ss ρ1 => ss.length = n ∧ F ss fun s => Q s ρ1 := Iff.rfl
theorem e_callK {F : FnD} {n : Nat} {gS : List S → List S} : dCallK F n gS as ρ Q ↔ as ρ fun ss ρ1 => (gS ss).length = n ∧ F (gS ss) fun s => Q s ρ1 := Iff.rfl
theorem e_jint : dJInt i ρ Q ↔ (atK ρ i fun s => s = .ob .jar ∧ ∀ n : Int, Q (.d (.int n)) ρ) := ⟨fun ⟨e, h⟩ => ⟨_, e, rfl, h⟩, fun ⟨_, e, z, h⟩ => ⟨z ▸ e, h⟩⟩
theorem e_dict0 : dDict0 ρ Q ↔ Q (.d (.dict [])) ρ := Iff.rfl
theorem e_dict1 {z : Str} : dDict1 z t ρ Q ↔ t ρ fun s ρ1 => oneK s fun x => Q (.d (.dict [(.str z, x)])) ρ1 := Iff.rfl
theorem e_listRng : dListRng t ρ Q ↔ t ρ fun s ρ1 => intK s fun n => 0 ≤ n ∧ n ≤ 16777216 ∧ Q (.own (irow 0 n.toNat)) ρ1 := Iff.rfl
theorem e_append : dAppend i t ρ Q ↔ (atK ρ i fun o => ownK o fun _ => t ρ fun s ρ1 => oneK s fun x => atK ρ1 i fun o => ownK o fun xs => xs.length < sizeLine ∧ setK (Q (.d .none)) ρ1 i (.own (xs ++ [x]))) := by
  have e : ∀ (s : S) (ρ1 : En), (∃ x xs, s = .d x ∧ ρ1[i]? = some (.own xs) ∧ xs.length < sizeLine ∧ Q (.d .none) (ρ1.set i (.own (xs ++ [x])))) ↔ (oneK s fun x => atK ρ1 i fun o => ownK o fun xs => xs.length < sizeLine ∧ setK (Q (.d .none)) ρ1 i (.own (xs ++ [x]))) := fun s ρ1 => ⟨fun ⟨x, y, a, b, h⟩ => ⟨x, a, .own y, b, y, rfl, h⟩, fun ⟨x, a, _, b, y, e, h⟩ => ⟨x, y, a, e ▸ b, h⟩⟩
  unfold dAppend
  simp only [e]
  exact ⟨fun ⟨⟨ys, a⟩, h⟩ => ⟨.own ys, a, ys, rfl, h⟩, fun ⟨_, a, ys, e, h⟩ => ⟨⟨ys, e ▸ a⟩, h⟩⟩
theorem e_cut {l u : TOd} : dCut t l u ρ Q ↔ t ρ fun s ρ1 => l ρ1 fun lo ρ2 => u ρ2 fun hi ρ3 => oneK s fun x => fCut x lo hi fun s => Q s ρ3 := Iff.rfl
theorem e_cutO {l u : TOd} : dCutO i l u ρ Q ↔ (atK ρ i fun o => ownK o fun _ => l ρ fun lo ρ2 => u ρ2 fun hi ρ3 => atK ρ3 i fun o => ownK o fun xs => Q (.own (cutD xs lo hi)) ρ3) := by
  have e : ∀ (lo hi : Option Int) (ρ3 : En), (∃ xs, ρ3[i]? = some (.own xs) ∧ Q (.own (cutD xs lo hi)) ρ3) ↔ (atK ρ3 i fun o => ownK o fun xs => Q (.own (cutD xs lo hi)) ρ3) := fun lo hi ρ3 => ⟨fun ⟨x, a, h⟩ => ⟨.own x, a, x, rfl, h⟩, fun ⟨_, a, x, e, h⟩ => ⟨x, e ▸ a, h⟩⟩
  unfold dCutO
  simp only [e]
  exact ⟨fun ⟨⟨ys, a⟩, h⟩ => ⟨.own ys, a, ys, rfl, h⟩, fun ⟨_, a, ys, e, h⟩ => ⟨⟨ys, e ▸ a⟩, h⟩⟩
theorem e_onone {QO : Option Int → En → Prop} : dONone ρ QO ↔ QO none ρ := Iff.rfl
theorem e_osome {QO : Option Int → En → Prop} : dOSome t ρ QO ↔ t ρ fun s ρ1 => intK s fun i => QO (some i) ρ1 := Iff.rfl
theorem e_iseq {QI : List PyData → En → Prop} : dISeq t ρ QI ↔ t ρ fun s ρ1 => seqK s fun ds => QI ds ρ1 := Iff.rfl
theorem e_ienum {QI : List PyData → En → Prop} : dIEnum t ρ QI ↔ t ρ fun s ρ1 => seqK s fun ds => QI (pairsFrom 0 ds) ρ1 := by
  unfold dIEnum
  simp only [pairsOf_eq]
  exact Iff.rfl
theorem e_irng {QI : List PyData → En → Prop} : dIRng t ρ QI ↔ t ρ fun s ρ1 => intK s fun j => j < 2 ^ 60 ∧ -(2 ^ 60) < j ∧ QI (irow 0 j.toNat) ρ1 := Iff.rfl
theorem e_gname {d : PyData} {f : En → Prop} : dgName i d ρ f ↔ setK f ρ i (.d d) := Iff.rfl
theorem e_lnil {b : TSd} : dLoop g b D [] ρ ↔ D.nx ρ := Iff.rfl
theorem e_lcons {b : TSd} {d : PyData} {ds : List PyData} : dLoop g b D (d :: ds) ρ ↔ g d ρ fun ρ1 => b { nx := dLoop g b D ds, ct := dLoop g b D ds, bk := D.nx, rt := D.rt } ρ1 := Iff.rfl
theorem e_lc {ti : TId} {vs : List Nat} : dLc ti vs g tt t ρ Q ↔ ti ρ fun ds ρ1 => ds.length ≤ sizeLine ∧ dLcGo vs g tt t (wipeD ρ1 vs) (fun acc => Q (.own acc) (wipeD ρ1 vs)) ds [] := Iff.rfl
theorem e_yes : dYes ρ QB ↔ QB true ρ := Iff.rfl
/-! what is worked out -/
theorem f_addI {a b : Int} : fAdd (.int a) (.int b) k ↔ k (.d (.int (a + b))) := Iff.rfl
theorem f_addS {a b : Str} : fAdd (.str a) (.str b) k ↔ a.length + b.length ≤ sizeLine ∧ k (.d (.str (a ++ b))) := Iff.rfl
theorem f_addT {a b : List PyData} : fAdd (.tuple a) (.tuple b) k ↔ a.length + b.length ≤ sizeLine ∧ k (.d (.tuple (a ++ b))) := Iff.rfl
theorem f_addL {a b : List PyData} : fAdd (.list a) (.list b) k ↔ a.length + b.length ≤ sizeLine ∧ k (.own (a ++ b)) := Iff.rfl
theorem f_i2 {g : Int → Int → PyData} {c : Int → Int → Prop} {a b : Int} : fI2 g c (.int a) (.int b) k ↔ c a b ∧ k (.d (g a b)) := ⟨fun ⟨_, _, e1, e2, h⟩ => by cases e1; cases e2; exact h, fun h => ⟨_, _, rfl, rfl, h⟩⟩
theorem f_mulI {a b : Int} : fMul (.int a) (.int b) k ↔ (CMul a b ∨ CMulW a b) ∧ k (.d (.int (a * b))) := Iff.rfl
theorem f_mulT {a : List PyData} {n : Int} : fMul (.tuple a) (.int n) k ↔ -(2 ^ 62) < n ∧ n < 2 ^ 62 ∧ a.length * n.toNat ≤ sizeLine ∧ k (.d (.tuple (List.replicate n.toNat a).flatten)) := Iff.rfl
theorem f_mulL {a : List PyData} {n : Int} : fMul (.list a) (.int n) k ↔ -(2 ^ 62) < n ∧ n < 2 ^ 62 ∧ a.length * n.toNat ≤ sizeLine ∧ k (.own (List.replicate n.toNat a).flatten) := Iff.rfl
theorem f_eq {x y : PyData} : fEq x y k ↔ eqOk x y = true ∧ k (.d (.bool (PyData.eqv x y))) := Iff.rfl
theorem f_ne {x y : PyData} : fNe x y k ↔ eqOk x y = true ∧ k (.d (.bool (!PyData.eqv x y))) := Iff.rfl
theorem f_is {x : PyData} : fIs x .none k ↔ k (.d (.bool (isNon x))) := ⟨fun h => h.2, fun h => ⟨rfl, h⟩⟩
theorem f_isnot {x : PyData} : fIsNot x .none k ↔ k (.d (.bool (!isNon x))) := ⟨fun h => h.2, fun h => ⟨rfl, h⟩⟩
theorem f_in {x c : PyData} : fIn x c k ↔ ∃ b, inD x c = some b ∧ k (.d (.bool b)) := Iff.rfl
theorem f_notin {x c : PyData} : fNotIn x c k ↔ ∃ b, inD x c = some b ∧ k (.d (.bool (!b))) := Iff.rfl
theorem f_ixL {xs : List PyData} {n : Int} : fIx (.list xs) (.int n) k ↔ ∃ v, atI xs n = some v ∧ k (.d v) := ⟨fun ⟨_, e, h⟩ => by cases e; exact h, fun h => ⟨_, rfl, h⟩⟩
theorem f_ixT {xs : List PyData} {n : Int} : fIx (.tuple xs) (.int n) k ↔ ∃ v, atI xs n = some v ∧ k (.d v) := ⟨fun ⟨_, e, h⟩ => by cases e; exact h, fun h => ⟨_, rfl, h⟩⟩
theorem f_lenL {xs : List PyData} : fLen [.list xs] k ↔ k (.d (.int xs.length)) := Iff.rfl
theorem f_lenT {xs : List PyData} : fLen [.tuple xs] k ↔ k (.d (.int xs.length)) := Iff.rfl
theorem f_lenS {z : Str} : fLen [.str z] k ↔ z.length ≤ sizeLine ∧ k (.d (.int z.length)) := Iff.rfl
theorem f_abs {n : Int} : fAbs [.int n] k ↔ k (.d (.int n.natAbs)) := ⟨fun ⟨_, e, h⟩ => by cases e; exact h, fun h => ⟨_, rfl, h⟩⟩
theorem f_intI {n : Int} : fInt [.int n] k ↔ k (.d (.int n)) := Iff.rfl
theorem f_intB {b : Bool} : fInt [.bool b] k ↔ k (.d (.int (if b then 1 else 0))) := Iff.rfl
theorem f_tupL {xs : List PyData} : fTuple [.list xs] k ↔ k (.d (.tuple xs)) := Iff.rfl
theorem f_tupT {xs : List PyData} : fTuple [.tuple xs] k ↔ k (.d (.tuple xs)) := Iff.rfl
theorem f_lstL {xs : List PyData} : fList [.list xs] k ↔ k (.own xs) := Iff.rfl
theorem f_lstT {xs : List PyData} : fList [.tuple xs] k ↔ k (.own xs) := Iff.rfl
theorem f_repr {x : PyData} : fRepr [x] k ↔ x.showable = true ∧ x.shown.length ≤ sizeLine ∧ x.depth ≤ 60 ∧ k (.d (.str x.shown)) := ⟨fun ⟨_, e, h⟩ => by cases e; exact h, fun h => ⟨_, rfl, h⟩⟩
theorem f_cutL {xs : List PyData} {lo hi : Option Int} : fCut (.list xs) lo hi k ↔ k (.own (cutD xs lo hi)) := Iff.rfl
theorem f_cutT {xs : List PyData} {lo hi : Option Int} : fCut (.tuple xs) lo hi k ↔ k (.d (.tuple (cutD xs lo hi))) := Iff.rfl
theorem firm_d {x : PyData} : S.firm (.d x) ↔ True := Iff.rfl
theorem firm_ob {t : Tk} : S.firm (.ob t) ↔ True := Iff.rfl
end
end GB

namespace GB
open PySem PySem.Spec PyProof.Rows L2

/-! comprehensions of two clauses -/
theorem walk_it {J : It} {n : Nat} {G : Hp → Prop} {Y : Nat → Hp → V → Hp → Prop} (w : Walk J n G Y) {Body : (Hp → Prop) → V → Hp → Prop} {Qd : Hp → Prop} {H0 : Hp} (Pv : Nat → Hp → Prop) (h0 : Pv 0 H0) (hG : ∀ i H, i ≤ n → Pv i H → G H)
    (hs : ∀ i x H H', i < n → Pv i H → Y i H x H' → Body (Pv (i + 1)) x H') (hd : ∀ H, Pv n H → Qd H) :
    ∃ W : Nat → Nat → Hp → Prop, (∃ m, W 0 m H0) ∧ ∀ i m H, W i m H → (J.stop i H ∧ Qd H) ∨ (J.go i H ∧ ∃ Nx : Hp → Prop, (∀ H', Nx H' → ∃ m', m' < m ∧ W (i + 1) m' H') ∧ ∀ x H', J.yld i H x H' → Body Nx x H') := by
  refine ⟨fun i m H => m = n - i ∧ i ≤ n ∧ Pv i H, ⟨n, by simp, Nat.zero_le _, h0⟩, ?_⟩
  rintro i m H ⟨rfl, hi, p⟩
  have q := hG i H hi p
  by_cases hlt : i < n
  · exact .inr ⟨w.goes i H hlt q, Pv (i + 1), fun H' p' => ⟨n - (i + 1), by omega, rfl, hlt, p'⟩, fun x H' y => hs i x H H' hlt p (w.yields i H x H' hlt q y)⟩
  · have e : i = n := by omega
    subst e
    exact .inl ⟨w.stops H q, hd H p⟩
def dInGo (vs : List Nat) (g : DTG) (tt : TTd) (te : TEd) (ρw : En) (K : List PyData → Prop) : List PyData → List PyData → Prop
  | [], acc => K acc
  | d :: ds, acc => g d ρw fun ρ2 => wipeD ρ2 vs = ρw ∧ tt ρ2 fun b ρ3 => ρ3 = ρ2 ∧ if b = true then te ρ2 fun s ρ4 => ρ4 = ρ2 ∧ ∃ y, s = .d y ∧ acc.length < sizeLine ∧ dInGo vs g tt te ρw K ds (acc ++ [y]) else dInGo vs g tt te ρw K ds acc
def dLc2Go (vs vs1 : List Nat) (g : DTG) (tt : TTd) (ti1 : TId) (g1 : DTG) (tt1 : TTd) (te : TEd) (ρw : En) (Q : List PyData → Prop) : List PyData → List PyData → Prop
  | [], acc => Q acc
  | d :: ds, acc => g d ρw fun ρ2 => wipeD ρ2 vs = ρw ∧ tt ρ2 fun b ρ3 => ρ3 = ρ2 ∧ if b = true then ti1 ρ2 fun ds1 ρ4 => ρ4 = ρ2 ∧ dInGo vs1 g1 tt1 te (wipeD ρ2 vs1) (fun acc => dLc2Go vs vs1 g tt ti1 g1 tt1 te ρw Q ds acc) ds1 acc else dLc2Go vs vs1 g tt ti1 g1 tt1 te ρw Q ds acc
def dLc2 (ti : TId) (vs vs1 : List Nat) (g : DTG) (tt : TTd) (ti1 : TId) (g1 : DTG) (tt1 : TTd) (te : TEd) : TEd := fun ρ Q => ti ρ fun ds ρ1 => dLc2Go vs vs1 g tt ti1 g1 tt1 te (wipeD ρ1 vs) (fun acc => Q (.own acc) (wipeD ρ1 vs)) ds []
section
variable {L : Lay}
theorem wipe_wipe {σ : L2.St} {vs : List Nat} : wipe (wipe σ vs) vs = wipe σ vs := by
  apply List.ext_getElem?
  intro j
  rw [wipe_get, wipe_length, wipe_get]
  split <;> rfl
theorem back {σ2 σw : L2.St} {ρw ρ2 : En} {vs : List Nat} {H1 H3 H4 : Hp} {D : Addr} {o : HO} (e2 : wipeD ρ2 vs = ρw) (no2 : NoOwn vs ρ2) (ew : wipe σ2 vs = σw) (dS : ∀ (i : Nat) (ys : Ow), ρw[i]? = some (.ow ys) → σw[i]? ≠ some (some (.ref D)))
    (goi : Go σw ρw ρw H1 H3) (hD : H3 D = some o) (g4 : Go σ2 ρ2 ρ2 H3 H4) (r4 : Rel L H4 σ2 ρ2) : Go σw ρw ρw H1 H4 ∧ Rel L H4 σw ρw ∧ H4 D = some o := by
  subst ew
  have outw : ∀ j, j ∉ vs → (wipe σ2 vs)[j]? = σ2[j]? := fun j hj => GB.wipe_out σ2 vs j hj
  have own2 : ∀ (j : Nat) (xs : Ow), ρ2[j]? = some (.ow xs) → j ∉ vs ∧ ρw[j]? = some (.ow xs) := fun j xs ej => by
    have nj : j ∉ vs := fun m => no2 j m xs ej
    exact ⟨nj, by rw [← e2, wipeD_get, if_neg nj]; exact ej⟩
  refine ⟨⟨fun a o h n => ?_, fun j xs ej => ⟨xs, ej⟩, fun a h => goi.dom a (g4.dom a h)⟩, ?_, ?_⟩
  · refine g4.stay a o (goi.stay a o h n) fun j xs ej z => ?_
    obtain ⟨nj, ej'⟩ := own2 j xs ej
    exact n j xs ej' (by rw [outw j nj]; exact z)
  · have := (r4.wiped (vs := vs)).move (σ' := wipe σ2 vs) (wipe_length σ2 vs) outw
    rw [e2] at this; exact this
  · refine g4.stay D _ hD fun j xs ej z => ?_
    obtain ⟨nj, ej'⟩ := own2 j xs ej
    exact dS j xs ej' (by rw [outw j nj]; exact z)
theorem wipeD_in {ρ : En} {vs vs1 : List Nat} (hv : ∀ i ∈ vs1, i ∈ vs) : wipeD (wipeD ρ vs1) vs = wipeD ρ vs := by
  apply List.ext_getElem?
  intro j
  rw [wipeD_get, wipeD_get, wipeD_len, wipeD_get]
  by_cases h : j ∈ vs
  · rw [if_pos h, if_pos h]
  · rw [if_neg h, if_neg h, if_neg fun m => h (hv j m)]
theorem Go.shift {σ σ' : L2.St} {ρ ρ' : En} {H H' : Hp} (go : Go σ ρ ρ H H') (h : ∀ (i : Nat) (xs : Ow), ρ[i]? = some (.ow xs) → ρ'[i]? = some (.ow xs) ∧ σ'[i]? = σ[i]?) : Go σ' ρ' ρ' H H' :=
  ⟨fun a o e n => go.stay a o e fun i xs q z => n i xs (h i xs q).1 ((h i xs q).2.trans z), fun i xs e => ⟨xs, e⟩, go.dom⟩
theorem app_go {σw : L2.St} {ρw : En} {H1 H : Hp} {D : Addr} {ws : List V} (go : Go σw ρw ρw H1 H) (hD : H1 D = none) : Go σw ρw ρw H1 (upd H D (.lst ws)) := by
  refine ⟨fun a o h n => ?_, fun j xs ej => ⟨xs, ej⟩, fun a h => ?_⟩
  · rw [upd_ne (fun z => by rw [z, hD] at h; cases h)]; exact go.stay a o h n
  · by_cases z : a = D
    · rw [z]; exact hD
    · rw [upd_ne z] at h; exact go.dom a h
variable {ti ti1 : TId} {vs vs1 : List Nat} {g g1 : DTG} {tt tt1 : TTd} {te : TEd}
theorem lc2_read {gt gt1 : TG} (hv : ∀ i ∈ vs1, i ∈ vs) (hg : GOwn L vs gt g) (hg1 : GOwn L vs1 gt1 g1) : ∀ σ H Q', tE L (dLc2 ti vs vs1 g tt ti1 g1 tt1 te) σ H Q' → tLc2 (tI L ti) gt (tT L tt) (tI L ti1) gt1 (tT L tt1) (tE L te) vs vs1 σ H Q' := by
  intro σ H Q' q
  obtain ⟨ρ, Q, r, q, fin⟩ := q
  refine ⟨ρ, _, r, q, fun J H1 ds ρ1 go r1 q1 it D hD => ?_⟩
  obtain ⟨G, Y, wk, g0, gk, step⟩ := it
  have rw1 : Rel L H1 (wipe σ vs) (wipeD ρ1 vs) := r1.wiped.move (wipe_length σ vs) (GB.wipe_out σ vs)
  have sD := same_new (o := .lst []) hD
  have d0 : L.H0 D = none := r1.same.free hD
  have dSlot : ∀ (i : Nat) (ys : Ow), (wipeD ρ1 vs)[i]? = some (.ow ys) → (wipe σ vs)[i]? ≠ some (some (.ref D)) := fun i ys e z => by
    obtain ⟨l', us', q1, q2, _⟩ := rw1.getW e
    rw [z] at q1; cases q1
    rw [hD] at q2; cases q2
  refine walk_it wk (fun i H2 => Keep H1 H2 ∧ Go (wipe σ vs) (wipeD ρ1 vs) (wipeD ρ1 vs) H1 H2 ∧ Rel L H2 (wipe σ vs) (wipeD ρ1 vs) ∧ ∃ acc us, H2 D = some (.lst us) ∧ BrA L.K H2 us acc ∧ dLc2Go vs vs1 g tt ti1 g1 tt1 te (wipeD ρ1 vs) (fun acc => Q (.own acc) (wipeD ρ1 vs)) (ds.drop i) acc)
    ⟨keep_of_same sD, Go.sm sD, rw1.go sD, [], [], upd_same, .nil, q1⟩ (fun i H2 _ ⟨k, _⟩ => gk _ _ k g0) (fun i x H2 H3 hi ⟨k, goi, r2, acc, us, hDl, hb, ql⟩ hy => ?_) fun H2 ⟨k, goi, r2, acc, us, hDl, hb, ql⟩ => ?_
  · obtain ⟨sm, d, hd, bd⟩ := step i H2 x H3 hi k (gk _ _ k g0) hy
    have e : ds.drop i = d :: ds.drop (i + 1) := by
      obtain ⟨hi', e⟩ := List.getElem?_eq_some_iff.mp hd
      rw [List.drop_eq_getElem_cons hi', e]
    rw [e] at ql
    have go3 : Go (wipe σ vs) (wipeD ρ1 vs) (wipeD ρ1 vs) H1 H3 := goi.tr (Go.sm sm)
    have hD3 : H3 D = some (.lst us) := sm D _ hDl
    refine hg (r2.go sm) (noOwn_wiped ρ1) bd ql fun σ2 ρ2 r3 no2 q3 ew => ⟨?_, ?_⟩
    · rw [ew, wipe_wipe]
    · obtain ⟨e2, q3⟩ := q3
      have ew2 : wipe σ2 vs = wipe σ vs := by rw [ew, wipe_wipe]
      refine ⟨ρ2, _, r3, q3, fun b H4 ρ3 go4 r4 q4 => ?_⟩
      obtain ⟨e3, q4⟩ := q4
      subst e3
      obtain ⟨goA, rA, dA⟩ := back e2 no2 ew2 dSlot go3 hD3 go4 r4
      have k4 : Keep H2 H4 := (keep_of_same sm).tr (go4.keep r3)
      cases b with
      | false => exact iteF ⟨k.tr k4, goA, rA, acc, us, dA, BrA.keep k4 _ _ hb, by simpa using q4⟩
      | true =>
        refine iteT ⟨ρ3, _, r4, by simpa using q4, fun J1 H5 ds1 ρ4 go5 r5 q5 it1 => ?_⟩
        obtain ⟨e4, q5⟩ := q5
        subst e4
        obtain ⟨goB, rB, dB⟩ := back e2 no2 ew2 dSlot go3 hD3 (go4.tr go5) r5
        have k5 : Keep H2 H5 := k4.tr (go5.keep r4)
        obtain ⟨G1, Y1, wk1, g01, gk1, step1⟩ := it1
        have rin : Rel L H5 (wipe σ2 vs1) (wipeD ρ4 vs1) := r5.wiped.move (wipe_length σ2 vs1) (GB.wipe_out σ2 vs1)
        have dSl2 : ∀ (i : Nat) (ys : Ow), ρ4[i]? = some (.ow ys) → σ2[i]? ≠ some (some (.ref D)) := fun j ys ej z => by
          have nj : j ∉ vs := fun m => no2 j m ys ej
          have ej' : (wipeD ρ1 vs)[j]? = some (.ow ys) := by rw [← e2, wipeD_get, if_neg nj]; exact ej
          exact dSlot j ys ej' (by rw [← ew2, GB.wipe_out σ2 vs j nj]; exact z)
        have dSin : ∀ (i : Nat) (ys : Ow), (wipeD ρ4 vs1)[i]? = some (.ow ys) → (wipe σ2 vs1)[i]? ≠ some (some (.ref D)) := fun j ys ej z => by
          have nj : j ∉ vs1 := fun m => noOwn_wiped (vs := vs1) ρ4 j m ys ej
          rw [wipeD_get, if_neg nj] at ej
          rw [GB.wipe_out σ2 vs1 j nj] at z
          exact dSl2 j ys ej z
        have out2 : ∀ (i : Nat) (xs : Ow), (wipeD ρ1 vs)[i]? = some (.ow xs) → (wipeD ρ4 vs1)[i]? = some (.ow xs) ∧ (wipe σ2 vs1)[i]? = (wipe σ vs)[i]? := fun j xs ej => by
          have nj : j ∉ vs := fun m => noOwn_wiped (vs := vs) ρ1 j m xs ej
          have nj1 : j ∉ vs1 := fun m => nj (hv j m)
          rw [← e2, wipeD_get, if_neg nj] at ej
          refine ⟨by rw [wipeD_get, if_neg nj1]; exact ej, by rw [GB.wipe_out σ2 vs1 j nj1, ← GB.wipe_out σ2 vs j nj, ew2]⟩
        have in2 : ∀ (i : Nat) (xs : Ow), (wipeD ρ4 vs1)[i]? = some (.ow xs) → (wipeD ρ1 vs)[i]? = some (.ow xs) ∧ (wipe σ vs)[i]? = (wipe σ2 vs1)[i]? := fun j xs ej => by
          have nj1 : j ∉ vs1 := fun m => noOwn_wiped (vs := vs1) ρ4 j m xs ej
          rw [wipeD_get, if_neg nj1] at ej
          have nj : j ∉ vs := fun m => no2 j m xs ej
          refine ⟨by rw [← e2, wipeD_get, if_neg nj]; exact ej, by rw [GB.wipe_out σ2 vs1 j nj1, ← GB.wipe_out σ2 vs j nj, ew2]⟩
        refine walk_it wk1 (fun j H6 => Keep H5 H6 ∧ Go (wipe σ2 vs1) (wipeD ρ4 vs1) (wipeD ρ4 vs1) H1 H6 ∧ Rel L H6 (wipe σ2 vs1) (wipeD ρ4 vs1) ∧ ∃ acc us, H6 D = some (.lst us) ∧ BrA L.K H6 us acc ∧
            dInGo vs1 g1 tt1 te (wipeD ρ4 vs1) (fun acc => dLc2Go vs vs1 g tt ti1 g1 tt1 te (wipeD ρ1 vs) (fun acc => Q (.own acc) (wipeD ρ1 vs)) (ds.drop (i + 1)) acc) (ds1.drop j) acc)
          ⟨Keep.rfl' H5, goB.shift out2, rin, acc, us, dB, BrA.keep k5 _ _ hb, q5⟩ (fun j H6 _ ⟨k6, _⟩ => gk1 _ _ k6 g01) (fun j x1 H6 H7 hj ⟨k6, goD, rD, acc6, us6, hD6, hb6, ql6⟩ hy1 => ?_) fun H6 ⟨k6, goD, rD, acc6, us6, hD6, hb6, ql6⟩ => ?_
        · obtain ⟨sm1, d1, hd1, bd1⟩ := step1 j H6 x1 H7 hj k6 (gk1 _ _ k6 g01) hy1
          have e1 : ds1.drop j = d1 :: ds1.drop (j + 1) := by
            obtain ⟨hj', e⟩ := List.getElem?_eq_some_iff.mp hd1
            rw [List.drop_eq_getElem_cons hj', e]
          rw [e1] at ql6
          have go7 : Go (wipe σ2 vs1) (wipeD ρ4 vs1) (wipeD ρ4 vs1) H1 H7 := goD.tr (Go.sm sm1)
          have hD7 : H7 D = some (.lst us6) := sm1 D _ hD6
          refine hg1 (rD.go sm1) (noOwn_wiped ρ4) bd1 ql6 fun σ3 ρ5 r7 no3 q7 ew3 => ⟨?_, ?_⟩
          · rw [ew3, wipe_wipe]
          · obtain ⟨e5, q7⟩ := q7
            have ew4 : wipe σ3 vs1 = wipe σ2 vs1 := by rw [ew3, wipe_wipe]
            refine ⟨ρ5, _, r7, q7, fun b H8 ρ6 go8 r8 q8 => ?_⟩
            obtain ⟨e6, q8⟩ := q8
            subst e6
            obtain ⟨goE, rE, dE⟩ := back e5 no3 ew4 dSin go7 hD7 go8 r8
            have k8 : Keep H6 H8 := (keep_of_same sm1).tr (go8.keep r7)
            cases b with
            | false => exact iteF ⟨k6.tr k8, goE, rE, acc6, us6, dE, BrA.keep k8 _ _ hb6, by simpa using q8⟩
            | true =>
              refine iteT ⟨ρ6, _, r8, by simpa using q8, fun y H9 s ρ7 go9 r9 hvv q9 => ?_⟩
              obtain ⟨e7, y', rfl, hz, q10⟩ := q9
              subst e7
              obtain ⟨goG, rG, dG⟩ := back e5 no3 ew4 dSin go7 hD7 (go8.tr go9) r9
              have k9 : Keep H6 H9 := k8.tr (go9.keep r8)
              have kD : Keep H9 (upd H9 D (.lst (us6 ++ [y]))) := keep_put dG trivial
              have lu := hb6.len
              exact ⟨us6, dG, by omega, (k6.tr k9).tr kD, app_go goG hD, rG.other dG d0 dSin, acc6 ++ [y'], us6 ++ [y], upd_same, ((BrA.keep (k9.tr kD) _ _ hb6).app (BrA.one (Br.keep kD _ _ hvv))), q10⟩
        · rw [List.drop_length] at ql6
          refine ⟨(k.tr k5).tr k6, goD.shift in2, ?_, acc6, us6, hD6, hb6, ql6⟩
          have h := (rD.wiped (vs := vs)).move (σ' := wipe σ vs) (by rw [wipe_length, wipe_length, ← wipe_length σ vs, ← ew2, wipe_length]) fun j hj => by
            rw [GB.wipe_out σ2 vs1 j (fun m => hj (hv j m)), ← GB.wipe_out σ2 vs j hj, ew2]
          rw [wipeD_in hv, e2] at h; exact h
  · rw [List.drop_length] at ql
    have goF : Go σ ρ1 (wipeD ρ1 vs) H1 H2 := ⟨fun a o h n => goi.stay a o h fun j xs ej z => by
        by_cases nj : j ∈ vs
        · exact noOwn_wiped ρ1 j nj xs ej
        · rw [wipeD_get, if_neg nj] at ej
          rw [GB.wipe_out σ vs j nj] at z
          exact n j xs ej z, fun j xs ej => by
        by_cases nj : j ∈ vs
        · exact absurd ej (noOwn_wiped ρ1 j nj xs)
        · rw [wipeD_get, if_neg nj] at ej; exact ⟨xs, ej⟩, goi.dom⟩
    exact fin (.ref D) H2 (.own acc) _ (go.tr goF) (r2.move (wipe_length σ vs).symm fun j hj => (GB.wipe_out σ vs j hj).symm) ⟨⟨D, us, rfl, hDl, hb, d0⟩, fun l e => by cases e; exact go.dom _ hD⟩ ql
end
section
variable {X : Cx} {L : Lay} {elt tg iter tg1 iter1 : Expr} {ifs ifs1 : List Expr} {scope : Scope} {own : List (Str × Nat)} {vs1 : List Nat} {pos : Pos} {ti ti1 : TId} {g g1 : DTG} {gt gt1 : TG} {tt tt1 : TTd} {te : TEd}
theorem de_lc2 (gd : Good X) (hi : PI X tg iter (tI L ti)) (ok : BlkOk X.N X.env.scope scope own) (hv : ∀ i ∈ vs1, i ∈ own.map (·.2))
    (hg : ∀ (s : Shared) (H : Hp) (C : Addr) (cl : List (Str × Addr)) (fp : List Addr), PG (X.blk s H scope (compEnvC scope cl C X.env) fp) tg gt) (ho : GOwn L (own.map (·.2)) gt g) (ht : ∀ (s : Shared) (H : Hp) (C : Addr) (cl : List (Str × Addr)) (fp : List Addr), Good (X.blk s H scope (compEnvC scope cl C X.env) fp) → PTs (X.blk s H scope (compEnvC scope cl C X.env) fp) ifs (tT L tt))
    (hi1 : ∀ (s : Shared) (H : Hp) (C : Addr) (cl : List (Str × Addr)) (fp : List Addr), Good (X.blk s H scope (compEnvC scope cl C X.env) fp) → PI (X.blk s H scope (compEnvC scope cl C X.env) fp) tg1 iter1 (tI L ti1)) (hg1 : ∀ (s : Shared) (H : Hp) (C : Addr) (cl : List (Str × Addr)) (fp : List Addr), PG (X.blk s H scope (compEnvC scope cl C X.env) fp) tg1 gt1) (ho1 : GOwn L vs1 gt1 g1) (ht1 : ∀ (s : Shared) (H : Hp) (C : Addr) (cl : List (Str × Addr)) (fp : List Addr), Good (X.blk s H scope (compEnvC scope cl C X.env) fp) → PTs (X.blk s H scope (compEnvC scope cl C X.env) fp) ifs1 (tT L tt1))
    (he : ∀ (s : Shared) (H : Hp) (C : Addr) (cl : List (Str × Addr)) (fp : List Addr), Good (X.blk s H scope (compEnvC scope cl C X.env) fp) → PE (X.blk s H scope (compEnvC scope cl C X.env) fp) elt (tE L te)) (hs : ∀ x, foldedSetIterable iter X.env x = pure x := by intro _; rfl) (hs1 : ∀ env x, foldedSetIterable iter1 env x = pure x := by intro _ _; rfl) : PE X (.ListComp elt [⟨tg, iter, ifs, 0⟩, ⟨tg1, iter1, ifs1, 0⟩] scope pos) (tE L (dLc2 ti (own.map (·.2)) vs1 g tt ti1 g1 tt1 te)) :=
  (pe_lc2 gd.calm gd.nd hi ok hv hg (fun s H C cl fp => ht s H C cl fp ⟨gd.calm, gd.gd, gd.sys, gd.un, gd.nd⟩) (fun s H C cl fp => hi1 s H C cl fp ⟨gd.calm, gd.gd, gd.sys, gd.un, gd.nd⟩) hg1 (fun s H C cl fp => ht1 s H C cl fp ⟨gd.calm, gd.gd, gd.sys, gd.un, gd.nd⟩) (fun s H C cl fp => he s H C cl fp ⟨gd.calm, gd.gd, gd.sys, gd.un, gd.nd⟩) hs hs1).less (lc2_read hv ho ho1)
theorem ds_setLc2 {i : Nat} {y : Str} {py spos : Pos} (gd : Good X) (hy : X.N[i]? = some y) (hyl : X.env.scope.names.lookup y = some .local) (hsw : swapsWith (.ListComp elt [⟨tg, iter, ifs, 0⟩, ⟨tg1, iter1, ifs1, 0⟩] scope pos) (some (.Name y py)) spos.line X.env = pure true) (hi : PI X tg iter (tI L ti)) (ok : BlkOk X.N X.env.scope scope own) (hv : ∀ i ∈ vs1, i ∈ own.map (·.2))
    (hg : ∀ (s : Shared) (H : Hp) (C : Addr) (cl : List (Str × Addr)) (fp : List Addr), PG (X.blk s H scope (compEnvC scope cl C X.env) fp) tg gt) (ho : GOwn L (own.map (·.2)) gt g) (ht : ∀ (s : Shared) (H : Hp) (C : Addr) (cl : List (Str × Addr)) (fp : List Addr), Good (X.blk s H scope (compEnvC scope cl C X.env) fp) → PTs (X.blk s H scope (compEnvC scope cl C X.env) fp) ifs (tT L tt))
    (hi1 : ∀ (s : Shared) (H : Hp) (C : Addr) (cl : List (Str × Addr)) (fp : List Addr), Good (X.blk s H scope (compEnvC scope cl C X.env) fp) → PI (X.blk s H scope (compEnvC scope cl C X.env) fp) tg1 iter1 (tI L ti1)) (hg1 : ∀ (s : Shared) (H : Hp) (C : Addr) (cl : List (Str × Addr)) (fp : List Addr), PG (X.blk s H scope (compEnvC scope cl C X.env) fp) tg1 gt1) (ho1 : GOwn L vs1 gt1 g1) (ht1 : ∀ (s : Shared) (H : Hp) (C : Addr) (cl : List (Str × Addr)) (fp : List Addr), Good (X.blk s H scope (compEnvC scope cl C X.env) fp) → PTs (X.blk s H scope (compEnvC scope cl C X.env) fp) ifs1 (tT L tt1))
    (he : ∀ (s : Shared) (H : Hp) (C : Addr) (cl : List (Str × Addr)) (fp : List Addr), Good (X.blk s H scope (compEnvC scope cl C X.env) fp) → PE (X.blk s H scope (compEnvC scope cl C X.env) fp) elt (tE L te)) (hs : ∀ x, foldedSetIterable iter X.env x = pure x := by intro _; rfl) (hs1 : ∀ env x, foldedSetIterable iter1 env x = pure x := by intro _ _; rfl) :
    PS X (.Assign [.Name y py] (.ListComp elt [⟨tg, iter, ifs, 0⟩, ⟨tg1, iter1, ifs1, 0⟩] scope pos) spos) (tS L (dSet i (dLc2 ti (own.map (·.2)) vs1 g tt ti1 g1 tt1 te))) :=
  (ps_setLc2 gd.calm gd.nd hy hyl hsw hi ok hv hg (fun s H C cl fp => ht s H C cl fp ⟨gd.calm, gd.gd, gd.sys, gd.un, gd.nd⟩) (fun s H C cl fp => hi1 s H C cl fp ⟨gd.calm, gd.gd, gd.sys, gd.un, gd.nd⟩) hg1 (fun s H C cl fp => ht1 s H C cl fp ⟨gd.calm, gd.gd, gd.sys, gd.un, gd.nd⟩) (fun s H C cl fp => he s H C cl fp ⟨gd.calm, gd.gd, gd.sys, gd.un, gd.nd⟩) hs hs1).less fun D σ H q => by
    obtain ⟨ρ, De, r, q, n1, _⟩ := q
    exact lc2_read hv ho ho1 _ _ _ ⟨ρ, _, r, q, fun v H' s ρ' go r' hv n => n1 _ _ _ (go.keep r) (r.set r' go hv) n⟩
theorem e_lc2 {ρ : En} {Q : S → En → Prop} {vs : List Nat} : dLc2 ti vs vs1 g tt ti1 g1 tt1 te ρ Q ↔ ti ρ fun ds ρ1 => dLc2Go vs vs1 g tt ti1 g1 tt1 te (wipeD ρ1 vs) (fun acc => Q (.own acc) (wipeD ρ1 vs)) ds [] := Iff.rfl
end
end GB

namespace GB
open PySem PySem.Spec PyProof.Rows L2

/-! x, y = a, b with names that a block captures: the pair is built and taken apart -/
section
variable {X : Cx} {L : Lay} {a b : Expr} {t1 t2 : TEd} {pos : Pos}
theorem ds_parT {i j : Nat} {x y : Str} {px py pt : Pos} {kt k2 pt2} (g : Good X) (hK : L.K = X.K) (hi : X.N[i]? = some x) (hj : X.N[j]? = some y) (hij : i ≠ j) (hx : Loc X.env.scope x) (hy : Loc X.env.scope y)
    (ha : PE X a (tE L t1)) (hb : PE X b (tE L t2))
    (hfx : X.fn x = true ∨ X.env.scope.names.lookup x = some .local := by first | exact .inl rfl | exact .inr rfl) (hfy : X.fn y = true ∨ X.env.scope.names.lookup y = some .local := by first | exact .inl rfl | exact .inr rfl)
    (hw : swappedStores [.Tuple [.Name x px, .Name y py] kt pt] (.Tuple [a, b] k2 pt2) X.env = pure none := by rfl)
    (h1 : starEach [a, b] X.env = (false, eval a X.env) :: starEach [b] X.env := by rfl) (h2 : starEach [b] X.env = (false, eval b X.env) :: starEach [] X.env := by rfl)
    (e1 : (assignEach [.Name x px, .Name y py] X.env).map (·.2) = assign (.Name x px) X.env :: (assignEach [.Name y py] X.env).map (·.2) := by rfl) (e2 : (assignEach [.Name y py] X.env).map (·.2) = assign (.Name y py) X.env :: (assignEach [] X.env).map (·.2) := by rfl)
    (e3 : (assignEach [.Name x px, .Name y py] X.env).length = 2 := by rfl) (e4 : (assignEach [.Name x px, .Name y py] X.env).findIdx? (·.1) = none := by rfl)
    (e5 : (assignEach [.Tuple [.Name x px, .Name y py] kt pt] X.env).map (·.2) = [assign (.Tuple [.Name x px, .Name y py] kt pt) X.env] := by rfl)
    (hs : swapsWithSole [.Tuple [.Name x px, .Name y py] kt pt] (.Tuple [a, b] k2 pt2) pos.line X.env = pure false := by rfl) :
    PS X (.Assign [.Tuple [.Name x px, .Name y py] kt pt] (.Tuple [a, b] k2 pt2) pos) (tS L (dPar i j t1 t2)) :=
  (ps_asg (pe_tup (pa_cons ha (pa_cons hb pa_nil h2) h1)) (pg_tup g.calm (pgs_cons (pg_name g.nd hi hx hfx) (pgs_cons (pg_name g.nd hj hy hfy) pgs_nil e2) e1) e3 e4) hs hw e5).less fun D σ H q => by
    obtain ⟨ρ, De, r, q, n1, _⟩ := q
    refine ⟨ρ, _, r, q, fun v H1 s ρ1 go r1 hv q1 => ⟨ρ1, _, r1, q1, fun w H2 s2 ρ2 go2 r2 hw q2 => ⟨(show (2 : Nat) ≤ sizeLine by decide), fun p hp => ?_⟩⟩⟩
    have sm : Same H2 (upd H2 p (.tup [v, w])) := same_new hp
    have r3 := r2.go sm
    have g3 : Go σ ρ2 ρ2 H2 (upd H2 p (.tup [v, w])) := Go.sm sm
    have hv3 := (hv.later r go r1 go2).later r (go.tr go2) r2 g3
    have hw3 := hw.later r1 go2 r2 g3
    have ra := r3.put1 (j := i) (r.old (go.tr go2)) hv3
    have rb := ra.put1 (j := j) ((r.old (go.tr go2)).set (Hm := H1) (go.dom) hv.there) hw3
    exact ⟨p, [v, w], rfl, .inl (.inl upd_same), rfl, v, [w], rfl, w, [], rfl, rfl, n1 _ _ _ (((go.tr go2).keep r).tr (keep_of_same sm)) rb q2⟩
end
end GB

namespace GB
open PySem PySem.Spec PyProof.Rows L2 HT

/-! a row backwards: t[::-1] -/
section
variable {prog : Program} {w : World} {A : Around} {E : Value → Shared → Prop} {s : Shared}
theorem rev_places (n : Nat) : Builtin.Slice.slicePlaces ((n : Int) - 1) (-1) (-1) = n := by
  unfold Builtin.Slice.slicePlaces
  have h1 : ¬ ((-1 : Int) > 0) := by decide
  simp only [h1, if_false]
  by_cases h : (n : Int) - 1 > -1
  · rw [if_pos h, show (- -1 : Int) = 1 by decide, Int.ediv_one]; omega
  · rw [if_neg h]; omega
theorem fm_congr {α β : Type} {f g : α → Option β} : ∀ {xs : List α}, (∀ x ∈ xs, f x = g x) → xs.filterMap f = xs.filterMap g
  | [], _ => rfl
  | x :: xs, h => by
    rw [List.filterMap_cons, List.filterMap_cons, h x (by simp), fm_congr fun y hy => h y (by simp [hy])]
theorem rev_pick (xs : Array Value) : ((List.range xs.size).filterMap fun (m : Nat) => xs[((xs.size : Int) - 1 + (m : Int) * (-1)).toNat]?).toArray = xs.toList.reverse.toArray := by
  have e : (List.range xs.size).filterMap (fun (m : Nat) => xs[((xs.size : Int) - 1 + (m : Int) * (-1)).toNat]?) = ((List.range xs.size).map fun k => xs.size - 1 - k).filterMap (xs[·]?) := by
    rw [List.filterMap_map]
    refine fm_congr fun m hm => ?_
    have := List.mem_range.mp hm
    have q : ((xs.size : Int) - 1 + (m : Int) * (-1)).toNat = xs.size - 1 - m := by omega
    rw [q]; rfl
  rw [e, PySem.W.krv_range, List.filterMap_reverse, PySem.W.krv_all]
theorem applied_rev {sl : Addr} {vs : Value} {n : Nat} {Q : Int × Int × Nat → Shared → Prop} (hs : s.heap.IsSliceOf sl .none .none vs) (ps : IsPart vs (some (-1)))
    (h : Q ((n : Int) - 1, -1, n) s) : wpAny (model prog w) A (Builtin.Slice.sliceApplied (.ref sl) (pure (n : Int))) Q E s := by
  obtain ⟨os, hos, hcs, hds⟩ := id hs
  unfold Builtin.Slice.sliceApplied Builtin.Slice.sliceFields
  refine wpAny_bind (wpAny_bind (wpAny_field hos hds (x := .none) rfl (wpAny_bind (wpAny_field hos hds (x := .none) rfl (wpAny_bind (wpAny_field hos hds (x := vs) rfl (wpAny_pure ?_)))))))
  refine wpAny_bind (slicePart_ ps ?_)
  show wpAny _ _ (if ((-1 : Int) == 0) = true then _ else _) _ _ s
  rw [if_neg (by decide)]
  refine wpAny_bind (slicePart_none (wpAny_bind (slicePart_none (wpAny_bind (wpAny_pure ?_)))))
  show wpAny _ _ (pure ((n : Int) - 1, (-1 : Int), Builtin.Slice.slicePlaces ((n : Int) - 1) (-1) (-1))) _ _ s
  rw [rev_places]
  exact wpAny_pure h
theorem get_tup_rev {t sl : Addr} {items : Array Value} {vs : Value} {Q : Value → Shared → Prop} (ht : IsTup s.heap t items) (hs : s.heap.IsSliceOf sl .none .none vs) (ps : IsPart vs (some (-1)))
    (h : Q (.ref s.heap.objs.size) { s with heap := s.heap.push { cls := .type "tuple", data := .seq items.toList.reverse.toArray } }) (hsz : items.size ≤ sizeLine) : wpAny (model prog w) A (getItem (.ref t) (.ref sl)) Q E s := by
  have hmade : sizeOk (.seq items.toList.reverse.toArray) := by
    show items.toList.reverse.toArray.size ≤ sizeLine
    rw [List.size_toArray, List.length_reverse, Array.length_toList]; exact hsz
  obtain ⟨os, hos, hcs, hds⟩ := id hs
  have hTs : s.TypeIs (.ref sl) "slice" := ⟨os, hos, hcs⟩
  unfold getItem
  try with_reducible refine wpAny_holding ?_
  first | refine wpAny_bind (wpAny_pure ?_) | skip
  refine wpAny_bind (wpAny_sequenceKey ht.typeIs (by decide) ?_)
  refine wpAny_bind (wpAny_callSpecial?_slot (name := Str.ofString "__getitem__") ht.typeIs PyProof.Rows.slot_tuple_getitem
    (wpAny_call_entry PyProof.Rows.slot_tuple_getitem ht.typeIs PyProof.Rows.entry_tuple_getitem ?_ (PyProof.Rows.args_tuple_getitem _ _)))
  show wpAny _ _ (Builtin.Tuple.tupleItemsOf (.ref t) >>= _) _ _ s
  refine wpAny_bind (tupleItemsOf_ ht ?_)
  refine wpAny_bind (wpAny_typeOf hTs ?_)
  rw [if_pos (by decide)]
  refine wpAny_bind (applied_rev hs ps ?_)
  have hno : ¬ (((((items.size : Nat) : Int) - 1) == 0 && (-1 : Int) == 1 && items.size == items.size) = true) := by simp
  show wpAny _ _ (if ((((items.size : Nat) : Int) - 1) == 0 && (-1 : Int) == 1 && items.size == items.size) = true then _ else _) _ _ s
  rw [if_neg hno, rev_pick]
  first
    | exact wpAny_bind (m := Builtin.Tuple.tupleExact _) (wpAny_newObj_type (wpAny_pure ⟨_, rfl, wpAny_pure h⟩) hmade)
    | exact wpAny_bind (m := Builtin.Tuple.tupleExact _) (wpAny_newObj_type (wpAny_bind (wpAny_pure (wpAny_pure ⟨_, rfl, wpAny_pure h⟩))) hmade)
    | exact wpAny_bind (wpAny_bind (m := Builtin.Tuple.tupleExact _) (wpAny_newObj_type (wpAny_pure (wpAny_pure ⟨_, rfl, wpAny_pure h⟩)) hmade))
    | exact wpAny_bind (wpAny_bind (m := Builtin.Tuple.tupleExact _) (wpAny_newObj_type (wpAny_pure ⟨_, rfl, wpAny_pure h⟩) hmade))
end
def tRevT (K : PySem.W.Frag) (te : TE) : TE := fun σ H Q => te σ H fun x H1 => ∃ a xs, x = .ref a ∧ SqT K H1 a xs ∧ ∀ p, H1 p = none → Q (.ref p) (upd H1 p (.tup xs.reverse))
theorem pe_revT {X : Cx} {e : Expr} {te : TE} {k : Nat} {p1 p2 p3 pos : Pos} (he : PE X e te) : PE X (.Subscript e (.Slice none none (some (.UnaryOp .USub (.Constant (.int 1) k p1) p2)) p3) pos) (tRevT X.K te) := by
  refine ⟨fun pins s σ H Q I h => ?_⟩
  refine Subscript_ (thn (he.run pins s σ H _ I h) fun v s1 ⟨x, H1, I1, r1, q1⟩ => ?_)
  obtain ⟨a, xs, ex, hx, q⟩ := q1
  subst ex
  cases r1
  have hst : PO X (some (.UnaryOp .USub (.Constant (.int 1) k p1) p2)) (tPart (tUn (rU fun i => .int (-i)) (tC (.int 1)))) := po_some (pe_un un_neg pe_int)
  refine wpAny_Slice (thn (po_none.run pins s1 σ H1 (fun o H2 => o = none ∧ H2 = H1) I1 ⟨rfl, rfl⟩) fun vl s2 ⟨l, H2, I2, pl, el, e2⟩ => ?_)
  subst el e2
  refine thn (po_none.run pins s2 σ H2 (fun o H3 => o = none ∧ H3 = H2) I2 ⟨rfl, rfl⟩) fun vu s3 ⟨u, H3, I3, pu, eu, e3⟩ => ?_
  subst eu e3
  refine thn (hst.run pins s3 σ H3 (fun o H4 => o = some (-1) ∧ H4 = H3) I3 ⟨1, rfl, -1, rfl, rfl, rfl⟩) fun vs s4 ⟨o, H4, I4, ps, eo, e4⟩ => ?_
  subst eo e4
  cases pl
  cases pu
  have I5 : Inv X pins σ H4 { s4 with heap := s4.heap.push { cls := .type "slice", data := .fields #[.none, .none, vs] } } := I4.kept (t' := s4.toks) fun b ob q => Heap.get?_push_of_some _ q
  obtain ⟨its, r, ht, hz⟩ := I5.tuple hx
  have hlen := r.length
  show wpAny (model X.prog X.w) X.A (subscriptTail e (.Slice none none (some (.UnaryOp .USub (.Constant (.int 1) k p1) p2)) p3) (.ref a) (.ref s4.heap.objs.size)) (EP X pins σ Q) X.xe { s4 with heap := s4.heap.push { cls := .type "slice", data := .fields #[.none, .none, vs] } }
  refine tail_any (ops := [.ref a, .ref s4.heap.objs.size]) ht.typeIs (PyProof.Rows.slot_tuple_getitem.lookup) ?_ (by with_unfolding_all rfl)
  refine get_tup_rev ht (Heap.IsSliceOf.new _ .none .none vs) ps ?_ (by rw [List.size_toArray]; omega)
  refine ⟨.ref _, _, I5.laid (t' := s4.toks) (o := .tup xs.reverse) (fun b ob q => Heap.get?_push_of_some _ q) (Nat.le_refl _) ?_, rfl, q _ (I5.hok.fresh (Nat.le_refl _))⟩
  exact ⟨by rw [List.length_reverse]; exact hz, _, r.reverse, IsTup.new _ _⟩
/-- backwards, of data -/
def dRev (t : TEd) : TEd := fun ρ Q => t ρ fun s ρ1 => ∃ xs, s = .d (.tuple xs) ∧ Q (.d (.tuple xs.reverse)) ρ1
theorem BrA.rev {K : PySem.W.Frag} {H : Hp} {vs : List V} {ds : List PyData} (h : BrA K H vs ds) : BrA K H vs.reverse ds.reverse := by
  induction ds generalizing vs with
  | nil => cases h; exact .nil
  | cons d ds ih =>
    cases h with
    | cons h1 h2 =>
      rw [List.reverse_cons, List.reverse_cons]
      exact (ih h2).app (.cons h1 .nil)
theorem de_rev {X : Cx} {L : Lay} {e : Expr} {t : TEd} {k : Nat} {p1 p2 p3 pos : Pos} (hK : L.K = X.K) (he : PE X e (tE L t)) : PE X (.Subscript e (.Slice none none (some (.UnaryOp .USub (.Constant (.int 1) k p1) p2)) p3) pos) (tE L (dRev t)) :=
  (pe_revT he).less fun σ H Q' q => by
    obtain ⟨ρ, Q, r, q, fin⟩ := q
    refine ⟨ρ, _, r, q, fun v H1 s ρ1 go r1 hv q1 => ?_⟩
    obtain ⟨xs, rfl, q2⟩ := q1
    have hv : Br L.K H1 v (.tuple xs) := hv
    cases hv with
    | @tup a ws _ h1 h3 =>
      refine ⟨_, _, rfl, by rw [← hK]; exact h1, fun p hp => ?_⟩
      have sm := same_new (o := .tup ws.reverse) hp
      exact fin (.ref p) _ (.d (.tuple xs.reverse)) ρ1 (go.tr (Go.sm sm)) (r1.go sm) (.tup (.inl (.inl upd_same)) (BrA.keep (keep_of_same sm) _ _ h3.rev)) q2
theorem e_rev {t : TEd} {ρ : En} {Q : S → En → Prop} : dRev t ρ Q ↔ t ρ fun s ρ1 => oneK s fun x => ∃ xs, x = .tuple xs ∧ Q (.d (.tuple xs.reverse)) ρ1 := by
  have e : ∀ (s : S) (ρ1 : En), (∃ xs, s = .d (.tuple xs) ∧ Q (.d (.tuple xs.reverse)) ρ1) ↔ (oneK s fun x => ∃ xs, x = .tuple xs ∧ Q (.d (.tuple xs.reverse)) ρ1) := fun s ρ1 => ⟨fun ⟨xs, a, h⟩ => ⟨_, a, xs, rfl, h⟩, fun ⟨x, a, xs, e, h⟩ => ⟨xs, e ▸ a, h⟩⟩
  unfold dRev
  simp only [e]
end GB

namespace GB
open PySem PySem.Spec PyProof.Rows L2

/-! sorted rows of ints -/
def fSorted : FN := fun xs Q => ∃ ns : List Int, xs = [.list (ns.map .int)] ∧ ∀ ns' : List Int, ns'.Perm ns → ns'.Pairwise (· ≤ ·) → Q (.own (ns'.map .int))
theorem br_ints {K : PySem.W.Frag} {H : Hp} : ∀ {ns : List Int} {vs : List V}, BrA K H vs (ns.map PyData.int) → vs = ns.map V.int
  | [], _, h => by cases h; rfl
  | n :: ns, _, h => by
    cases h with
    | cons h1 h2 => cases h1; rw [br_ints h2]; rfl
theorem ints_br {K : PySem.W.Frag} {H : Hp} : ∀ ns : List Int, BrA K H (ns.map V.int) (ns.map PyData.int)
  | [] => .nil
  | _ :: ns => .cons (.int _) (ints_br ns)
theorem c_sorted {X : Cx} {L : Lay} (hK : L.K = X.K) : CallR X (.builtin "sorted") (rN L fSorted) := by
  intro pins s σ H vs us Q' I r q
  obtain ⟨xs, Q, b, ⟨ns, rfl, q⟩, fin⟩ := q
  obtain ⟨v, rfl, b1⟩ := brA1 hK b
  obtain ⟨a, ws, rfl, h1, h3⟩ := list_sq hK b1
  obtain rfl := br_ints h3
  refine cr_sortedI pins s σ H _ us Q' I r ⟨a, ns, rfl, h1, fun ns' p hp hs hl => ?_⟩
  exact fin _ _ (.own _) (same_new hl) ⟨_, _, rfl, hl, upd_same, ints_br ns'⟩ (q ns' hp hs)
end GB

namespace GB
open PySem PySem.Spec PyProof.Rows L2 RZ

/-! two rows side by side -/
def zipOf (ds es : List PyData) : List PyData := (ds.zip es).map fun p => .tuple [p.1, p.2]
def dIZip (t u : TEd) : TId := fun ρ Q => t ρ fun s ρ1 => u ρ1 fun s2 ρ2 => ∃ ds es, ((s = .d (.list ds) ∧ s2 = .d (.list es)) ∨ (s = .d (.tuple ds) ∧ s2 = .d (.tuple es))) ∧ Q (zipOf ds es) ρ2
section
variable {L : Lay} {H : Hp} {a b : Addr} {vs ws : List V} {ds es : List PyData}
theorem zip_len (hb : BrA L.K H vs ds) (hc : BrA L.K H ws es) : (zipOf ds es).length = min vs.length ws.length := by simp [zipOf, hb.len, hc.len]
theorem yp_zip {i : Nat} {H1 H2 : Hp} {x : V} (hb : BrA L.K H vs ds) (hc : BrA L.K H ws es) (k : Keep H H1) (y : YPair (fun i => vs[i]?) (fun i => ws[i]?) i H1 x H2) : Same H1 H2 ∧ ∃ d, (zipOf ds es)[i]? = some d ∧ Br L.K H2 x d := by
  obtain ⟨T, z, u, rfl, hT, rfl, hz, hu⟩ := y
  obtain ⟨d, e1, bd⟩ := hb.getV hz
  obtain ⟨e, e2, be⟩ := hc.getV hu
  have sm := same_new (o := .tup [z, u]) hT
  refine ⟨sm, .tuple [d, e], ?_, .tup (.of upd_same) (.cons (Br.keep (k.tr (keep_of_same sm)) _ _ bd) (.cons (Br.keep (k.tr (keep_of_same sm)) _ _ be) .nil))⟩
  unfold zipOf
  rw [List.getElem?_map, (List.getElem?_zip_eq_some (z := (d, e))).mpr ⟨e1, e2⟩]; rfl
theorem walk_zT {K : PySem.W.Frag} : Walk (ItzT K a b) (min vs.length ws.length) (fun H => SqT K H a vs ∧ SqT K H b ws) (YPair (fun i => vs[i]?) (fun i => ws[i]?)) := by
  refine ⟨fun i _ hi q => ⟨vs, ws, vs[i]'(by omega), ws[i]'(by omega), q.1, q.2, by simp [show i < vs.length by omega], by simp [show i < ws.length by omega]⟩, fun _ q => ⟨vs, ws, q.1, q.2, by omega⟩, fun i H v H' _ q y => ?_⟩
  obtain ⟨T, x, z, h1, h2, h3, h4, h5⟩ := y
  exact ⟨T, x, z, h1, h2, h3, h4 vs q.1, h5 ws q.2⟩
theorem it_zT (h1 : SqT L.K H a vs) (h2 : SqT L.K H b ws) (hb : BrA L.K H vs ds) (hc : BrA L.K H ws es) : ItD L (ItzT L.K a b) H (zipOf ds es) := by
  refine ⟨fun H1 => SqT L.K H1 a vs ∧ SqT L.K H1 b ws, _, ?_, ⟨h1, h2⟩, fun H1 H2 k q => ⟨sqT_keep k q.1, sqT_keep k q.2⟩, fun i H1 x H2 hi k q y => yp_zip hb hc k y⟩
  rw [zip_len hb hc]; exact walk_zT
theorem it_zF {o o2 : Obj} (h1 : H a = some (.frz o (.lst vs))) (h2 : H b = some (.frz o2 (.lst ws))) (hb : BrA L.K H vs ds) (hc : BrA L.K H ws es) : ItD L (Itz L.K a b) H (zipOf ds es) := by
  refine ⟨fun H1 => H1 a = some (.frz o (.lst vs)) ∧ H1 b = some (.frz o2 (.lst ws)), _, ?_, ⟨h1, h2⟩, fun H1 H2 k q => ⟨k _ _ q.1 trivial, k _ _ q.2 trivial⟩, fun i H1 x H2 hi k q y => yp_zip hb hc k y⟩
  rw [zip_len hb hc]
  exact (walk_zip (K := L.K) (a := a) (b := b) (xs := vs) (ys := ws) rfl).mono (fun H q => ⟨.inl (.inr ⟨o, q.1⟩), .inl (.inr ⟨o2, q.2⟩)⟩) fun i H x H' _ _ y => y
end
section
variable {X : Cx} {L : Lay} {e e2 : Expr} {t u : TEd} {p pos tpos : Pos} {elts : List Expr} {kk : Nat}
theorem di_zip (hK : L.K = X.K) (hg : Gl X "zip") (hm : X.mg "zip" = none) (h1 : PE X e (tE L t)) (h2 : PE X e2 (tE L u)) (n2 : starEach [e2] X.env = (false, eval e2 X.env) :: starEach [] X.env := by rfl)
    (hs : starEach [e, e2] X.env = (false, eval e X.env) :: starEach [e2] X.env := by rfl) (hpl : (backTo pos (starEach [e2] X.env)).any (·.1) = false := by rfl) :
    PI X (.Tuple elts kk tpos) (.Call (.Name "zip" p) [e, e2] [] pos) (tI L (dIZip t u)) :=
  (pi_zipA hg hm (pa_cons h1 (pa_cons h2 pa_nil n2) hs) hs hpl).less fun σ H R q => by
    obtain ⟨ρ, Q, r, q, fin⟩ := q
    refine ⟨ρ, _, r, q, fun v H1 s ρ1 go r1 hv q1 => ⟨ρ1, _, r1, q1, fun w H2 s2 ρ2 go2 r2 hw q2 => ?_⟩⟩
    obtain ⟨ds, es, hd, q3⟩ := q2
    rcases hd with ⟨rfl, rfl⟩ | ⟨rfl, rfl⟩
    · have hv : Br L.K H2 v (.list ds) := Br.keep (go2.keep r1) _ _ hv
      have hw : Br L.K H2 w (.list es) := hw
      cases hv with
      | lst a1 a2 a3 =>
        cases hw with
        | lst b1 b2 b3 =>
          have it := fin _ H2 _ ρ2 (go.tr go2) r2 q3 (it_zF a1 b1 a3 b3)
          rw [hK] at it
          exact ⟨_, _, _, _, rfl, .inl ⟨.inl (.inr ⟨_, a1⟩), .inl (.inr ⟨_, b1⟩), it⟩⟩
    · have hv : Br L.K H2 v (.tuple ds) := Br.keep (go2.keep r1) _ _ hv
      have hw : Br L.K H2 w (.tuple es) := hw
      cases hv with
      | tup a1 a3 =>
        cases hw with
        | tup b1 b3 =>
          have it := fin _ H2 _ ρ2 (go.tr go2) r2 q3 (it_zT a1 b1 a3 b3)
          rw [hK] at it a1 b1
          exact ⟨_, _, _, _, rfl, .inr ⟨a1, b1, it⟩⟩
end
end GB

namespace GB
open PySem PySem.Spec PyProof.Rows L2

/-! more steps from without -/
def zipK (s s2 : S) (k : List PyData → List PyData → Prop) : Prop := ∃ ds es, ((s = .d (.list ds) ∧ s2 = .d (.list es)) ∨ (s = .d (.tuple ds) ∧ s2 = .d (.tuple es))) ∧ k ds es
section
variable {ρ : En} {Q : S → En → Prop} {k : S → Prop} {t u : TEd} {tt tt1 : TTd} {g g1 : DTG} {ti1 : TId}
theorem zip_l {a b : List PyData} {k : List PyData → List PyData → Prop} : zipK (.d (.list a)) (.d (.list b)) k ↔ k a b := by
  constructor
  · intro ⟨_, _, e, h⟩
    rcases e with ⟨e1, e2⟩ | ⟨e1, e2⟩
    · cases e1; cases e2; exact h
    · cases e1
  · intro h; exact ⟨_, _, .inl ⟨rfl, rfl⟩, h⟩
theorem zip_t {a b : List PyData} {k : List PyData → List PyData → Prop} : zipK (.d (.tuple a)) (.d (.tuple b)) k ↔ k a b := by
  constructor
  · intro ⟨_, _, e, h⟩
    rcases e with ⟨e1, e2⟩ | ⟨e1, e2⟩
    · cases e1
    · cases e1; cases e2; exact h
  · intro h; exact ⟨_, _, .inr ⟨rfl, rfl⟩, h⟩
theorem e_izip {QI : List PyData → En → Prop} : dIZip t u ρ QI ↔ t ρ fun s ρ1 => u ρ1 fun s2 ρ2 => zipK s s2 fun ds es => QI (zipOf ds es) ρ2 := Iff.rfl
theorem zip_cons {d e : PyData} {ds es : List PyData} : zipOf (d :: ds) (e :: es) = .tuple [d, e] :: zipOf ds es := rfl
theorem zip_nil1 {es : List PyData} : zipOf [] es = [] := rfl
theorem zip_nil2 {ds : List PyData} : zipOf ds [] = [] := by simp [zipOf]
theorem ints_inj : ∀ {a b : List Int}, a.map PyData.int = b.map PyData.int → a = b
  | [], [], _ => rfl
  | [], _ :: _, h => by cases h
  | _ :: _, [], h => by cases h
  | x :: a, y :: b, h => by
    simp only [List.map_cons, List.cons.injEq, PyData.int.injEq] at h
    rw [h.1, ints_inj h.2]
theorem f_sorted {ns : List Int} : fSorted [.list (ns.map .int)] k ↔ ∀ ns' : List Int, ns'.Perm ns → ns'.Pairwise (· ≤ ·) → k (.own (ns'.map .int)) := by
  constructor
  · intro ⟨ms, e, h⟩
    simp only [List.cons.injEq, PyData.list.injEq, and_true] at e
    rw [ints_inj e]; exact h
  · intro h; exact ⟨ns, rfl, h⟩
theorem e_lcn {vs : List Nat} {R : List PyData → Prop} {acc : List PyData} : dLcGo vs g tt t ρ R [] acc ↔ R acc := Iff.rfl
theorem e_lcc {vs : List Nat} {R : List PyData → Prop} {acc ds : List PyData} {d : PyData} : dLcGo vs g tt t ρ R (d :: ds) acc ↔ g d ρ fun ρ2 => wipeD ρ2 vs = ρ ∧ tt ρ2 fun b ρ3 => ρ3 = ρ2 ∧ iteK b (t ρ2 fun s ρ4 => ρ4 = ρ2 ∧ oneK s fun y => dLcGo vs g tt t ρ R ds (acc ++ [y])) (dLcGo vs g tt t ρ R ds acc) := Iff.rfl
theorem e_inn {vs : List Nat} {R : List PyData → Prop} {acc : List PyData} : dInGo vs g tt t ρ R [] acc ↔ R acc := Iff.rfl
theorem e_inc {vs : List Nat} {R : List PyData → Prop} {acc ds : List PyData} {d : PyData} : dInGo vs g tt t ρ R (d :: ds) acc ↔ g d ρ fun ρ2 => wipeD ρ2 vs = ρ ∧ tt ρ2 fun b ρ3 => ρ3 = ρ2 ∧ iteK b (t ρ2 fun s ρ4 => ρ4 = ρ2 ∧ oneK s fun y => acc.length < sizeLine ∧ dInGo vs g tt t ρ R ds (acc ++ [y])) (dInGo vs g tt t ρ R ds acc) := by
  have e : ∀ (s : S), (∃ y, s = .d y ∧ acc.length < sizeLine ∧ dInGo vs g tt t ρ R ds (acc ++ [y])) ↔ (oneK s fun y => acc.length < sizeLine ∧ dInGo vs g tt t ρ R ds (acc ++ [y])) := fun s => Iff.rfl
  exact Iff.rfl
theorem e_l2n {vs vs1 : List Nat} {R : List PyData → Prop} {acc : List PyData} : dLc2Go vs vs1 g tt ti1 g1 tt1 t ρ R [] acc ↔ R acc := Iff.rfl
theorem e_l2c {vs vs1 : List Nat} {R : List PyData → Prop} {acc ds : List PyData} {d : PyData} : dLc2Go vs vs1 g tt ti1 g1 tt1 t ρ R (d :: ds) acc ↔ g d ρ fun ρ2 => wipeD ρ2 vs = ρ ∧ tt ρ2 fun b ρ3 => ρ3 = ρ2 ∧
    iteK b (ti1 ρ2 fun ds1 ρ4 => ρ4 = ρ2 ∧ dInGo vs1 g1 tt1 t (wipeD ρ2 vs1) (fun acc => dLc2Go vs vs1 g tt ti1 g1 tt1 t ρ R ds acc) ds1 acc) (dLc2Go vs vs1 g tt ti1 g1 tt1 t ρ R ds acc) := Iff.rfl
theorem e_pop {i : Nat} : dPop i ρ Q ↔ (atK ρ i fun o => ownK o fun xs => ∃ x, xs[xs.length - 1]? = some x ∧ setK (Q (.d x)) ρ i (.own xs.dropLast)) := by
  constructor
  · intro ⟨xs, x, e, h1, h2⟩; exact ⟨.own xs, e, xs, rfl, x, h1, h2⟩
  · intro ⟨_, e, xs, z, x, h1, h2⟩; exact ⟨xs, x, z ▸ e, h1, h2⟩
theorem e_popAt {i : Nat} : dPopAt i t ρ Q ↔ (atK ρ i fun o => ownK o fun _ => t ρ fun s ρ1 => intK s fun j => atK ρ1 i fun o => ownK o fun xs => -(2 ^ 62) < j ∧ j < 2 ^ 62 ∧ ∃ n x, seqIndex? j xs.length = some n ∧ xs[n]? = some x ∧ setK (Q (.d x)) ρ1 i (.own (xs.eraseIdx n))) := by
  have e : ∀ (s : S) (ρ1 : En), (∃ j n x xs, s = .d (.int j) ∧ ρ1[i]? = some (.own xs) ∧ -(2 ^ 62) < j ∧ j < 2 ^ 62 ∧ seqIndex? j xs.length = some n ∧ xs[n]? = some x ∧ Q (.d x) (ρ1.set i (.own (xs.eraseIdx n)))) ↔
      (intK s fun j => atK ρ1 i fun o => ownK o fun xs => -(2 ^ 62) < j ∧ j < 2 ^ 62 ∧ ∃ n x, seqIndex? j xs.length = some n ∧ xs[n]? = some x ∧ setK (Q (.d x)) ρ1 i (.own (xs.eraseIdx n))) := fun s ρ1 =>
    ⟨fun ⟨j, n, x, xs, a, b, c, d, h1, h2, h3⟩ => ⟨j, a, .own xs, b, xs, rfl, c, d, n, x, h1, h2, h3⟩, fun ⟨j, a, _, b, xs, z, c, d, n, x, h1, h2, h3⟩ => ⟨j, n, x, xs, a, z ▸ b, c, d, h1, h2, h3⟩⟩
  unfold dPopAt
  simp only [e]
  exact ⟨fun ⟨⟨ys, a⟩, h⟩ => ⟨.own ys, a, ys, rfl, h⟩, fun ⟨_, a, ys, z, h⟩ => ⟨⟨ys, z ▸ a⟩, h⟩⟩
theorem e_extend {i : Nat} : dExtend i t ρ Q ↔ (atK ρ i fun o => ownK o fun _ => t ρ fun s ρ1 => oneK s fun z => ∃ zs, z = .list zs ∧ atK ρ1 i fun o => ownK o fun xs => xs.length + zs.length ≤ sizeLine ∧ setK (Q (.d .none)) ρ1 i (.own (xs ++ zs))) := by
  have e : ∀ (s : S) (ρ1 : En), (∃ zs xs, s = .d (.list zs) ∧ ρ1[i]? = some (.own xs) ∧ xs.length + zs.length ≤ sizeLine ∧ Q (.d .none) (ρ1.set i (.own (xs ++ zs)))) ↔
      (oneK s fun z => ∃ zs, z = .list zs ∧ atK ρ1 i fun o => ownK o fun xs => xs.length + zs.length ≤ sizeLine ∧ setK (Q (.d .none)) ρ1 i (.own (xs ++ zs))) := fun s ρ1 =>
    ⟨fun ⟨zs, xs, a, b, c, h⟩ => ⟨_, a, zs, rfl, .own xs, b, xs, rfl, c, h⟩, fun ⟨_, a, zs, y, _, b, xs, z, c, h⟩ => ⟨zs, xs, y ▸ a, z ▸ b, c, h⟩⟩
  unfold dExtend
  simp only [e]
  exact ⟨fun ⟨⟨ys, a⟩, h⟩ => ⟨.own ys, a, ys, rfl, h⟩, fun ⟨_, a, ys, z, h⟩ => ⟨⟨ys, z ▸ a⟩, h⟩⟩
end
end GB

namespace GB
open PySem PySem.Spec PyProof.Rows L2

/-! loops and comprehensions by what holds at their turns -/
section
variable {g : DTG} {b : TSd} {D : EndsD}
theorem loopI (I : List PyData → En → Prop) (hn : ∀ ρ, I [] ρ → D.nx ρ) (hc : ∀ d ds ρ (K : En → Prop), (∀ ρ', I ds ρ' → K ρ') → I (d :: ds) ρ → g d ρ fun ρ1 => b { nx := K, ct := K, bk := D.nx, rt := D.rt } ρ1) : ∀ ds ρ, I ds ρ → dLoop g b D ds ρ
  | [], ρ, h => hn ρ h
  | d :: ds, ρ, h => e_lcons.mpr (hc d ds ρ _ (fun ρ' h' => loopI I hn hc ds ρ' h') h)
theorem loopP (I : Int → List PyData → En → Prop) (hn : ∀ k ρ, I k [] ρ → D.nx ρ) (hc : ∀ k y ys ρ (K : En → Prop), (∀ ρ', I (k + 1) ys ρ' → K ρ') → I k (y :: ys) ρ → g (.tuple [.int k, y]) ρ fun ρ1 => b { nx := K, ct := K, bk := D.nx, rt := D.rt } ρ1) : ∀ ys k ρ, I k ys ρ → dLoop g b D (pairsFrom k ys) ρ
  | [], k, ρ, h => hn k ρ h
  | y :: ys, k, ρ, h => e_lcons.mpr (hc k y ys ρ _ (fun ρ' h' => loopP I hn hc ys (k + 1) ρ' h') h)
theorem loopR (I : Int → Nat → En → Prop) (hn : ∀ k ρ, I k 0 ρ → D.nx ρ) (hc : ∀ k n ρ (K : En → Prop), (∀ ρ', I (k + 1) n ρ' → K ρ') → I k (n + 1) ρ → g (.int k) ρ fun ρ1 => b { nx := K, ct := K, bk := D.nx, rt := D.rt } ρ1) : ∀ n k ρ, I k n ρ → dLoop g b D (irow k n) ρ
  | 0, k, ρ, h => hn k ρ h
  | n + 1, k, ρ, h => by
    rw [irow_succ]
    exact e_lcons.mpr (hc k n ρ _ (fun ρ' h' => loopR I hn hc n (k + 1) ρ' h') h)
variable {vs : List Nat} {tt : TTd} {te : TEd} {ρw : En} {R : List PyData → Prop}
theorem lcI (I : List PyData → List PyData → Prop) (hn : ∀ acc, I [] acc → R acc) (hc : ∀ d ds acc (K : List PyData → Prop), (∀ acc', I ds acc' → K acc') → I (d :: ds) acc → g d ρw fun ρ2 => wipeD ρ2 vs = ρw ∧ tt ρ2 fun b ρ3 => ρ3 = ρ2 ∧ iteK b (te ρ2 fun s ρ4 => ρ4 = ρ2 ∧ oneK s fun y => K (acc ++ [y])) (K acc)) :
    ∀ ds acc, I ds acc → dLcGo vs g tt te ρw R ds acc
  | [], acc, h => hn acc h
  | d :: ds, acc, h => e_lcc.mpr (hc d ds acc _ (fun acc' h' => lcI I hn hc ds acc' h') h)
theorem lcR (I : Int → Nat → List PyData → Prop) (hn : ∀ k acc, I k 0 acc → R acc) (hc : ∀ k n acc (K : List PyData → Prop), (∀ acc', I (k + 1) n acc' → K acc') → I k (n + 1) acc → g (.int k) ρw fun ρ2 => wipeD ρ2 vs = ρw ∧ tt ρ2 fun b ρ3 => ρ3 = ρ2 ∧ iteK b (te ρ2 fun s ρ4 => ρ4 = ρ2 ∧ oneK s fun y => K (acc ++ [y])) (K acc)) :
    ∀ n k acc, I k n acc → dLcGo vs g tt te ρw R (irow k n) acc
  | 0, k, acc, h => hn k acc h
  | n + 1, k, acc, h => by
    rw [irow_succ]
    exact e_lcc.mpr (hc k n acc _ (fun acc' h' => lcR I hn hc n (k + 1) acc' h') h)
end
end GB

namespace GB
open PySem PySem.Spec PyProof.Rows L2

/-! comprehensions of three clauses: one turn of one clause -/
abbrev noE : Value → Shared → Prop := fun _ _ => False
def tests (fs : List Expr) (en : Env) : Sem Bool := forIn fs true fun cc z => if z = true then do let y ← isTrue cc en (eval cc en); pure (ForInStep.yield y) else pure (ForInStep.yield z)
def midRun (t i' : Expr) (p : Pos) (fs : List Expr) (it : Value) (en : Env) (nxt : Value → Code) (more : Code) : Sem Fin := do
  standAt p
  match ← pyNext it with
  | none => pure (.done .next)
  | some v =>
    letOwnedTupleGo t it v
    assign t en v
    let mut good := true
    for cc in fs do
      if good then good ← isTrue cc en (eval cc en)
    if good then
      let y ← eval i' en
      standAt i'.pos
      let y ← foldedSetIterable i' en y
      let _ ← runOwn (nxt (← holding [y] (pyIter y))) en
    again more
def inRun (t el : Expr) (p : Pos) (fs : List Expr) (it li : Value) (en : Env) (more : Code) : Sem Fin := do
  standAt p
  match ← pyNext it with
  | none => pure (.done .next)
  | some v =>
    letOwnedTupleGo t it v
    assign t en v
    let mut good := true
    for cc in fs do
      if good then good ← isTrue cc en (eval cc en)
    if good then
      (do let _ ← call (.builtin "list.append") [li, ← eval el en])
    again more
section
variable (el t0 i0 t1 i1 t2 i2 : Expr) (f0 f1 f2 : List Expr) (sc : Scope) (p : Pos) (it li : Value) (en : Env)
theorem turn3_0 : compTurn (.ListComp el [⟨t0, i0, f0, 0⟩, ⟨t1, i1, f1, 0⟩, ⟨t2, i2, f2, 0⟩] sc p) 0 it li en = midRun t0 i1 i0.pos f0 it en (fun v => .compStart (.ListComp el [⟨t0, i0, f0, 0⟩, ⟨t1, i1, f1, 0⟩, ⟨t2, i2, f2, 0⟩] sc p) 1 v li en) (.compLoop (.ListComp el [⟨t0, i0, f0, 0⟩, ⟨t1, i1, f1, 0⟩, ⟨t2, i2, f2, 0⟩] sc p) 0 it li en) := by rfl
theorem turn3_1 : compTurn (.ListComp el [⟨t0, i0, f0, 0⟩, ⟨t1, i1, f1, 0⟩, ⟨t2, i2, f2, 0⟩] sc p) 1 it li en = midRun t1 i2 i1.pos f1 it en (fun v => .compStart (.ListComp el [⟨t0, i0, f0, 0⟩, ⟨t1, i1, f1, 0⟩, ⟨t2, i2, f2, 0⟩] sc p) 2 v li en) (.compLoop (.ListComp el [⟨t0, i0, f0, 0⟩, ⟨t1, i1, f1, 0⟩, ⟨t2, i2, f2, 0⟩] sc p) 1 it li en) := by rfl
theorem turn3_2 : compTurn (.ListComp el [⟨t0, i0, f0, 0⟩, ⟨t1, i1, f1, 0⟩, ⟨t2, i2, f2, 0⟩] sc p) 2 it li en = inRun t2 el i2.pos f2 it li en (.compLoop (.ListComp el [⟨t0, i0, f0, 0⟩, ⟨t1, i1, f1, 0⟩, ⟨t2, i2, f2, 0⟩] sc p) 2 it li en) := by rfl
end
section
variable (prog : Program) (w : World) (A : Around)
/-- the source is asked, what comes is stored and tested; body is what a good one leads to -/
def Turn1 (t : Expr) (fs : List Expr) (it : Value) (en : Env) (body : (Shared → Prop) → Shared → Prop) (done back : Shared → Prop) (s : Shared) : Prop :=
  wpAny (model prog w) A (pyNext it) (fun r s1 => match r with
    | none => done s1
    | some v => wpAny (model prog w) A (letOwnedTupleGo t it v) (fun _ s2 => wpAny (model prog w) A (assign t en v) (fun _ s3 => wpAny (model prog w) A (tests fs en) (fun z s4 => if z = true then body back s4 else back s4) noE s3) noE s2) noE s1) noE s
def bodyMid (i' : Expr) (en : Env) (nxt : Value → Code) : (Shared → Prop) → Shared → Prop := fun back s =>
  wpAny (model prog w) A (eval i' en) (fun x s1 => wpAny (model prog w) A (pyIter x) (fun it1 s2 => codeAny (model prog w) A (nxt it1) (fun r s' => match r with
    | .ok _ => back s'
    | .error _ => False) s2) noE s1) noE s
def bodyIn (el : Expr) (en : Env) (li : Value) : (Shared → Prop) → Shared → Prop := fun back s =>
  wpAny (model prog w) A (eval el en) (fun x s1 => wpAny (model prog w) A (call (.builtin "list.append") [li, x]) (fun _ s2 => back s2) noE s1) noE s
/-- a clause's loop, by an invariant -/
def LoopOk (e : Expr) (k : Nat) (li : Value) (t : Expr) (fs : List Expr) (en : Env) (body : (Shared → Prop) → Shared → Prop) : Prop :=
  ∀ (it : Value) (R : Result → Shared → Prop) (I : Nat → Shared → Prop), (∀ n s, I n s → Turn1 prog w A t fs it en body (R (.ok .next)) (fun s' => ∃ m, m < n ∧ I m s') s) → ∀ n s, I n s → codeAny (model prog w) A (.compLoop e k it li en) R s
def StartOk (e : Expr) (k : Nat) (li : Value) (en : Env) : Prop :=
  ∀ (it : Value) (R : Result → Shared → Prop) (s : Shared), codeAny (model prog w) A (.compLoop e k it li en) R s → wpAny (model prog w) A (pyIter it) (fun it' s' => codeAny (model prog w) A (.compLoop e k it' li en) R s') noE s → codeAny (model prog w) A (.compStart e k it li en) R s
end
section
variable {prog : Program} {w : World} {A : Around}
theorem wk {α : Type} {m : Sem α} {Q Q' : α → Shared → Prop} {E : Value → Shared → Prop} {s : Shared} (h : wpAny (model prog w) A m Q noE s) (q : ∀ a s', Q a s' → Q' a s') : wpAny (model prog w) A m Q' E s := wpAny_mono h q fun _ _ z => z.elim
theorem mid_loop {el t i' : Expr} {cs : List Comprehension} {sc : Scope} {pp : Pos} {k : Nat} {p : Pos} {fs : List Expr} {li : Value} {en : Env} {nxt : Value → Code} (hE : ∀ it, compTurn (.ListComp el cs sc pp) k it li en = midRun t i' p fs it en nxt (.compLoop (.ListComp el cs sc pp) k it li en)) (hs : ∀ x, foldedSetIterable i' en x = pure x) : LoopOk prog w A (.ListComp el cs sc pp) k li t fs en (bodyMid prog w A i' en nxt) := by
  intro it R I turn n s h
  refine codeAny_loop rfl I (fun n s hI => ?_) n h
  show wpAny (model prog w) A ((compTurn (.ListComp el cs sc pp) k it li en).onRaise fun x => do noteFrame x en; theTreesLotGoes x) _ _ s
  refine wpAny_noted ?_
  rw [hE it]
  unfold midRun
  refine wpAny_bind (wpAny_standAt (wpAny_bind (wk (turn n s hI) fun r s1 h1 => ?_)))
  cases r with
  | none => exact wpAny_pure h1
  | some v =>
    refine wpAny_bind (wk h1 fun _ s2 h2 => wpAny_bind (wk h2 fun _ s3 h3 => wpAny_bind (wk h3 fun z s4 h4 => ?_)))
    cases z with
    | false => exact wpAny_pure ⟨rfl, h4⟩
    | true =>
      refine wpAny_bind (wk h4 fun x s5 h5 => wpAny_bind (wpAny_standAt (wpAny_bind (wpAny_of_eq (hs x) (wpAny_bind (wpAny_holding (wk h5 fun it1 s6 h6 => ?_)))))))
      refine wpAny_bind (wpAny_runOwn ?_)
      rw [Around.mark_none]
      refine codeAny_mono h6 fun r s' hr => ?_
      cases r with
      | ok f => first | exact wpAny_pure ⟨rfl, hr⟩ | exact wpAny_bind (wpAny_pure (wpAny_pure ⟨rfl, hr⟩))
      | error x => exact hr.elim
theorem in_loop {el t : Expr} {cs : List Comprehension} {sc : Scope} {pp : Pos} {k : Nat} {p : Pos} {fs : List Expr} {li : Value} {en : Env} (hE : ∀ it, compTurn (.ListComp el cs sc pp) k it li en = inRun t el p fs it li en (.compLoop (.ListComp el cs sc pp) k it li en)) : LoopOk prog w A (.ListComp el cs sc pp) k li t fs en (bodyIn prog w A el en li) := by
  intro it R I turn n s h
  refine codeAny_loop rfl I (fun n s hI => ?_) n h
  show wpAny (model prog w) A ((compTurn (.ListComp el cs sc pp) k it li en).onRaise fun x => do noteFrame x en; theTreesLotGoes x) _ _ s
  refine wpAny_noted ?_
  rw [hE it]
  unfold inRun
  refine wpAny_bind (wpAny_standAt (wpAny_bind (wk (turn n s hI) fun r s1 h1 => ?_)))
  cases r with
  | none => exact wpAny_pure h1
  | some v =>
    refine wpAny_bind (wk h1 fun _ s2 h2 => wpAny_bind (wk h2 fun _ s3 h3 => wpAny_bind (wk h3 fun z s4 h4 => ?_)))
    cases z with
    | false => exact wpAny_pure ⟨rfl, h4⟩
    | true => exact wpAny_bind (wpAny_bind (wk h4 fun x s5 h5 => wpAny_bind (wk h5 fun _ s6 h6 => wpAny_pure (wpAny_pure ⟨rfl, h6⟩))))
theorem start_any {el : Expr} {cs : List Comprehension} {sc : Scope} {pp : Pos} {k : Nat} {li : Value} {en : Env} {c : Comprehension} (hc : cs[k]? = some c) (ha : (c.is_async != 0) = false) : StartOk prog w A (.ListComp el cs sc pp) k li en := by
  intro it R s h0 h
  refine codeAny_of_tree (show wpAny _ _ ((compStart (.ListComp el cs sc pp) k it li en).onRaise fun x => do noteFrame x en; standAt theWindowsPlace) _ _ s from wpAny_notedAt ?_)
  unfold compStart
  show wpAny _ _ (if (cs[k]?).elim false (·.is_async != 0) = true then _ else _) _ _ s
  rw [hc]
  have e : ((some c).elim false fun x => x.is_async != 0) = false := ha
  rw [if_neg (by rw [e]; decide)]
  refine wpAny_bind (wpAny_askSetting (wpAny_ite ?_)) (A := A)
  split
  · first | exact wpAny_pure ⟨rfl, h0⟩ | exact wpAny_bind (wpAny_pure (wpAny_pure ⟨rfl, h0⟩))
  · refine wpAny_bind (wpAny_rule ?_)
    have e2 : (clausesOf (el.ListComp cs sc pp))[k]? = some c := hc
    rw [e2]
    exact wpAny_bind (wpAny_standAt (wpAny_bind (wk h fun it' s' h' => wpAny_pure ⟨rfl, h'⟩)))
end
end GB

namespace GB
open PySem PySem.Spec PyProof.Rows L2

/-! comprehensions of three clauses: the levels -/
def Kn (σ' σ : L2.St) : Prop := σ'.length = σ.length ∧ ∀ (i : Nat) (v : V), σ'[i]? = some (some v) → σ[i]? = some (some v)
theorem kn_wipe {σ : L2.St} {vs : List Nat} : Kn (wipe σ vs) σ := ⟨wipe_length σ vs, fun i v e => (wipe_some e).1⟩
theorem kn_in {σ : L2.St} {vs vb : List Nat} (hv : ∀ i ∈ vb, i ∈ vs) : Kn (wipe σ vs) (wipe σ vb) :=
  ⟨by rw [wipe_length, wipe_length], fun i v e => by
    obtain ⟨e1, e2⟩ := wipe_some e
    rw [GB.wipe_out σ vb i fun z => e2 (hv i z)]; exact e1⟩
theorem Kn.tr {a b c : L2.St} (h : Kn a b) (k : Kn b c) : Kn a c := ⟨h.1.trans k.1, fun i v e => k.2 i v (h.2 i v e)⟩
abbrev TB := L2.St → Hp → (Hp → Prop) → Prop
def BodyOk (Y : Cx) (vb : List Nat) (tb : TB) (body : (Shared → Prop) → Shared → Prop) : Prop :=
  ∀ (pins : List (Addr × Obj)) (σ : L2.St) (H : Hp) (s : Shared) (Nx : Hp → Prop) (Φ : Shared → Prop), L2.Inv Y pins σ H s → tb σ H Nx → (∀ σ' H' s', L2.Inv Y pins σ' H' s' → Kn (wipe σ vb) σ' → Nx H' → Φ s') → body Φ s
def tWalk (J : It) (g : TG) (tt : TT) (tb : TB) (vs : List Nat) (σw : L2.St) (W : Nat → Nat → Hp → Prop) (Stop : Hp → Prop) : Prop :=
  ∀ i m H, W i m H → (J.stop i H ∧ Stop H) ∨ (J.go i H ∧ ∃ Nx : Hp → Prop, (∀ H', Nx H' → ∃ m', m' < m ∧ W (i + 1) m' H') ∧ ∀ x H', J.yld i H x H' → g x σw H' fun σ2 H2 => wipe σ2 vs = σw ∧ tt σ2 H2 fun b H3 => if b = true then tb σ2 H3 Nx else Nx H3)
def tMid (wi : TI) (g : TG) (tt : TT) (tb : TB) (vs : List Nat) : TB := fun σ H Nx => wi σ H fun J H1 => ∃ W : Nat → Nat → Hp → Prop, (∃ m, W 0 m H1) ∧ tWalk J g tt tb vs (wipe σ vs) W Nx
def tIn (te : TE) (D : Addr) : TB := fun σ H Nx => te σ H fun y H' => ∃ acc, H' D = some (.lst acc) ∧ acc.length < sizeLine ∧ Nx (upd H' D (.lst (acc ++ [y])))
def tLc3 (wi : TI) (g : TG) (tt : TT) (wi1 : TI) (g1 : TG) (tt1 : TT) (wi2 : TI) (g2 : TG) (tt2 : TT) (te : TE) (vs vs1 vs2 : List Nat) : TE := fun σ H Q => wi σ H fun J H1 => ∀ D, H1 D = none →
  ∃ W : Nat → Nat → Hp → Prop, (∃ m, W 0 m (upd H1 D (.lst []))) ∧ tWalk J g tt (tMid wi1 g1 tt1 (tMid wi2 g2 tt2 (tIn te D) vs2) vs1) vs (wipe σ vs) W (Q (.ref D))
section
variable {Y : Cx} {pins : List (Addr × Obj)} {t : Expr} {fs : List Expr} {g : TG} {tt : TT} {tb : TB} {vs vb : List Nat} {body : (Shared → Prop) → Shared → Prop}
theorem turn_done {prog : Program} {w : World} {A : Around} {it : Value} {en : Env} {d d' b : Shared → Prop} {s : Shared} (h : Turn1 prog w A t fs it en body d b s) (q : ∀ s, d s → d' s) : Turn1 prog w A t fs it en body d' b s := by
  refine wk h fun r s1 h1 => ?_
  cases r with
  | none => exact q _ h1
  | some v => exact h1
theorem level (hc : Y.calm = true) (hx : Y.xe = noE) {σw : L2.St} {J : It} {fp : List Addr} {it : Addr} {tn : Nat → Heap → Prop} {W : Nat → Nat → Hp → Prop} {Stop : Hp → Prop}
    (T : Turn Y.prog Y.w Y.K t J fp it tn) (pg : PG Y t g) (pt : PTs Y fs tt) (hb : BodyOk Y vb tb body) (hv : ∀ i ∈ vb, i ∈ vs)
    (stat : ∀ {σ' : L2.St} {H' : Hp} {s' : Shared}, L2.Inv Y pins σ' H' s' → (∀ b ∈ fp, H' b = none) → ∀ b ∈ fp, FpOk Y pins H' b) (wl : tWalk J g tt tb vs σw W Stop) (n : Nat) (s : Shared)
    (h : ∃ i H, L2.Inv Y pins σw H s ∧ tn i s.heap ∧ (∀ b ∈ fp, H b = none) ∧ W i n H) :
    Turn1 Y.prog Y.w Y.A t fs (.ref it) Y.env body (fun s' => ∃ H', L2.Inv Y pins σw H' s' ∧ Stop H') (fun s' => ∃ m, m < n ∧ ∃ i H, L2.Inv Y pins σw H s' ∧ tn i s'.heap ∧ (∀ b ∈ fp, H b = none) ∧ W i m H) s := by
  obtain ⟨i, H, I, st, nf, w0⟩ := h
  rcases wl i n H w0 with ⟨stop, qq⟩ | ⟨go, Nx, hN, step⟩
  · refine wk (T.done Y rfl rfl rfl hc i pins s σw H noE I (stat I nf) st stop) fun r s' hr => ?_
    obtain ⟨hr, I'⟩ := hr
    cases hr
    exact ⟨H, I', qq⟩
  · refine wk (T.item Y rfl rfl rfl hc i pins s σw H noE I (stat I nf) st go) fun r s1 h1 => ?_
    obtain ⟨u, hr, h1⟩ := h1
    cases hr
    refine wk h1 fun _ s2 h2 => ?_
    obtain ⟨x, H2, I2, r2, y2, st2, n2⟩ := h2
    have e1 := pg.run _ s2 _ H2 x u _ (I2.pinned (stat I2 n2) (T.obj _ _ st2)) r2 (step x H2 y2)
    rw [hx] at e1
    refine wk e1 fun _ s3 h3 => ?_
    obtain ⟨σ3, H3, I3, hw3, q3⟩ := h3
    have e2 := pt.run _ s3 σ3 H3 _ I3 q3
    rw [hx] at e2
    refine wk e2 fun b s4 h4 => ?_
    obtain ⟨H4, I4, q4⟩ := h4
    have fin : ∀ {σ' : L2.St} {H' : Hp} {s' : Shared}, L2.Inv Y (pins ++ pinsAt fp s2.heap) σ' H' s' → Kn σw σ' → Nx H' → ∃ m, m < n ∧ ∃ i H, L2.Inv Y pins σw H s' ∧ tn i s'.heap ∧ (∀ b ∈ fp, H b = none) ∧ W i m H := fun {σ' H' s'} I' kn nx => by
      obtain ⟨m', hm, w'⟩ := hN H' nx
      have held : ∀ b ∈ fp, ∀ o, s2.heap.get? b = some o → s'.heap.get? b = some o ∧ H' b = none := fun b hb o e => by
        have z := I'.pin (b, o) (List.mem_append_right _ (List.mem_append_right _ (mem_pinsAt hb e)))
        exact ⟨z.1, z.2.1⟩
      refine ⟨m', hm, i + 1, H', I'.unpinned.weak kn.1 kn.2, T.keep _ _ _ st2 fun b hb o e => (held b hb o e).1, fun b hb => ?_, w'⟩
      obtain ⟨o, e, _⟩ := T.obj _ _ st2 b hb
      exact (held b hb o e).2
    cases b with
    | false => exact fin I4 (hw3 ▸ kn_wipe) (by simpa using q4)
    | true => exact hb _ _ _ _ Nx _ I4 (by simpa using q4) fun σ' H' s' I' kn nx => fin I' (Kn.tr (hw3 ▸ kn_in hv) kn) nx
theorem body_in {el : Expr} {te : TE} {D : Addr} (hx : Y.xe = noE) (pe : PE Y el te) : BodyOk Y [] (tIn te D) (bodyIn Y.prog Y.w Y.A el Y.env (.ref D)) := by
  intro pins σ H s Nx Φ I h k
  have e := pe.run pins s σ H _ I h
  rw [hx] at e
  refine wk e fun z s1 h1 => ?_
  obtain ⟨y, H1, I1, r1, acc, hD, hz, nx⟩ := h1
  exact app_ok I1 hD hz r1 fun s2 I2 => k σ _ s2 I2 ⟨rfl, fun _ _ e => e⟩ nx
theorem body_mid {e i' : Expr} {k : Nat} {li : Value} {wi : TI} (hc : Y.calm = true) (hx : Y.xe = noE) (pi : PI Y t i' wi) (hl : LoopOk Y.prog Y.w Y.A e k li t fs Y.env body) (hst : StartOk Y.prog Y.w Y.A e k li Y.env)
    (pg : PG Y t g) (pt : PTs Y fs tt) (hb : BodyOk Y vb tb body) (hv : ∀ i ∈ vb, i ∈ vs) : BodyOk Y vs (tMid wi g tt tb vs) (bodyMid Y.prog Y.w Y.A i' Y.env fun v => .compStart e k v li Y.env) := by
  intro pins σ H s Nx Φ I h kk
  have e0 := pi.run pins s σ H _ I h
  simp only [hx] at e0
  refine wk e0 fun xv s1 h1 => wk h1 fun itv s2 h2 => ?_
  obtain ⟨it, fp, tn, J, H2, ei, I2, T, st2, f2, W, ⟨m0, w0⟩, wl⟩ := h2
  subst ei
  have loop : codeAny (model Y.prog Y.w) Y.A (.compLoop e k (.ref it) li Y.env) (fun r s' => match r with
      | .ok _ => Φ s'
      | .error _ => False) s2 := hl (.ref it) _ (fun n s' => ∃ i H', L2.Inv Y pins (wipe σ vs) H' s' ∧ tn i s'.heap ∧ (∀ b ∈ fp, H' b = none) ∧ W i n H')
    (fun n s' hI => turn_done (level hc hx T pg pt hb hv (fun I' nf b hb => ⟨nf b hb, (f2 b hb).2⟩) wl n s' hI) fun s'' hd => by
      obtain ⟨H', I', nx⟩ := hd
      exact kk _ _ _ I' ⟨rfl, fun _ _ e => e⟩ nx) m0 s2 ⟨0, H2, I2.weak kn_wipe.1 kn_wipe.2, st2, fun b hb => (f2 b hb).1, w0⟩
  exact hst (.ref it) _ s2 loop (T.self Y.A 0 _ _ _ st2 loop)
end
end GB

namespace GB
open PySem PySem.Spec PyProof.Rows L2

/-! comprehensions of three clauses: the block -/
/-- of every context of the block -/
def OfBlk (X : Cx) (scope : Scope) (F : Cx → Prop) : Prop := ∀ (s : Shared) (H : Hp) (C : Addr) (cl : List (Str × Addr)) (fp : List Addr), F (X.blk s H scope (compEnvC scope cl C X.env) fp)
section
variable {X : Cx} {el tg it0 tg1 it1 tg2 it2 : Expr} {f0 f1 f2 : List Expr} {scope : Scope} {own : List (Str × Nat)} {vs1 vs2 : List Nat} {pos : Pos} {wi wi1 wi2 : TI} {g g1 g2 : TG} {tt tt1 tt2 : TT} {te : TE}
set_option maxHeartbeats 4000000 in
theorem lc3_core {pins : List (Addr × Obj)} {s : Shared} {σ : L2.St} {H : Hp} {Q : VK} {pos' : Pos} {use : Option (Value → Sem Unit)} {Qf : Value → Shared → Prop} (cal : X.calm = true) (nd : X.N.Nodup) (I : L2.Inv X pins σ H s) (src : PI X tg it0 wi) (ok : BlkOk X.N X.env.scope scope own)
    (v1 : ∀ i ∈ vs1, i ∈ own.map (·.2)) (v2 : ∀ i ∈ vs2, i ∈ vs1) (b0 : OfBlk X scope fun Y => PG Y tg g) (c0 : OfBlk X scope fun Y => PTs Y f0 tt) (a1 : OfBlk X scope fun Y => PI Y tg1 it1 wi1) (b1 : OfBlk X scope fun Y => PG Y tg1 g1) (c1 : OfBlk X scope fun Y => PTs Y f1 tt1)
    (a2 : OfBlk X scope fun Y => PI Y tg2 it2 wi2) (b2 : OfBlk X scope fun Y => PG Y tg2 g2) (c2 : OfBlk X scope fun Y => PTs Y f2 tt2) (lst : OfBlk X scope fun Y => PE Y el te)
    (n0 : ∀ x, foldedSetIterable it0 X.env x = pure x) (n1 : ∀ env x, foldedSetIterable it1 env x = pure x) (n2 : ∀ env x, foldedSetIterable it2 env x = pure x)
    (h : tLc3 wi g tt wi1 g1 tt1 wi2 g2 tt2 te (own.map (·.2)) vs1 vs2 σ H Q)
    (out : ∀ D C s' m H', L2.Inv X pins σ H' s' → Q (.ref D) H' → s'.heap.Ns C m → FpOk X pins H' C → compPost (model X.prog X.w) X.A X.xe use Qf (.ref D) C (.ok .next) s') :
    wpAny (model X.prog X.w) X.A (comprehension (.ListComp el [⟨tg, it0, f0, 0⟩, ⟨tg1, it1, f1, 0⟩, ⟨tg2, it2, f2, 0⟩] scope pos) scope X.env pos' (newList []) false (eval it0 X.env) use) Qf X.xe s := by
  have fr : ∀ y ∈ scope.names, y.2 = .free → ∃ c, X.env.cells.lookup y.1 = some c := fun y hy e => (ok.free y hy e).elim (fun k => I.ok.has _ (.inl k)) fun k => I.ok.has _ (.inr k)
  refine wpAny_comprehension_free (use := use) rfl n0 (closure_ok fr) ok.kind (fun y hy e => by rw [ok.uniq y hy, e]) (thn (src.run pins s σ H _ I h) fun xv s1 hx => thn hx fun itv s2 h2 => ?_)
  obtain ⟨it, fp, tn, J, H2, ei, I2, T, st2, fp2, q⟩ := h2
  subst ei
  refine wpAny_newObj_type (newEnv_comp ?_) (by show 0 ≤ sizeLine; decide)
  generalize eD : s2.heap.objs.size = D0
  have un : H2 D0 = none := I2.hok.fresh (Nat.le_of_eq eD)
  obtain ⟨W, ⟨m0, w0⟩, wl⟩ := q D0 un
  generalize e3 : ({ s2 with heap := s2.heap.push { cls := .type "list", data := .seq ([] : List Value).toArray } } : Shared) = s3
  have I3 : L2.Inv X pins σ (upd H2 D0 (.lst [])) s3 := by
    rw [← e3]
    refine I2.laid (t' := s2.toks) (fun b o e => Heap.get?_push_of_some _ e) (Nat.le_of_eq eD) ⟨Nat.zero_le _, [], 0, .nil, by rw [← eD]; exact Heap.get?_push_size _ rfl⟩
  have hp3 : s3.heap = s2.heap.push { cls := .type "list", data := .seq ([] : List Value).toArray } := by rw [← e3]
  have old : ∀ b ∈ fp, b < s2.heap.objs.size := fun b hb => by
    obtain ⟨o, e, _⟩ := T.obj _ _ st2 b hb
    exact Heap.lt_size e
  have fp3 : ∀ b ∈ fp, FpOk X pins (upd H2 D0 (.lst [])) b ∧ b < s3.heap.objs.size := fun b hb => by
    have lt := old b hb
    refine ⟨⟨?_, (fp2 b hb).2⟩, by rw [hp3, Heap.size_push]; exact Nat.lt_succ_of_lt lt⟩
    rw [upd_ne (by rw [← eD]; exact Nat.ne_of_lt lt)]; exact (fp2 b hb).1
  have st3 : tn 0 s3.heap := T.keep _ _ _ st2 fun b _ o e => by rw [hp3]; exact Heap.get?_push_of_some _ e
  have I4 := block_start I3 ok nd fp3
  generalize eH : upd H2 D0 (.lst []) = H3 at I3 I4 w0 fp3
  have k0 := b0 s3 H3 s3.heap.objs.size (cellsFrom (s3.heap.objs.size + 1) scope.names (cloFrom X.env.cells scope.names [])) fp
  have k1 := c0 s3 H3 s3.heap.objs.size (cellsFrom (s3.heap.objs.size + 1) scope.names (cloFrom X.env.cells scope.names [])) fp
  have k2 := a1 s3 H3 s3.heap.objs.size (cellsFrom (s3.heap.objs.size + 1) scope.names (cloFrom X.env.cells scope.names [])) fp
  have k3 := b1 s3 H3 s3.heap.objs.size (cellsFrom (s3.heap.objs.size + 1) scope.names (cloFrom X.env.cells scope.names [])) fp
  have k4 := c1 s3 H3 s3.heap.objs.size (cellsFrom (s3.heap.objs.size + 1) scope.names (cloFrom X.env.cells scope.names [])) fp
  have k5 := a2 s3 H3 s3.heap.objs.size (cellsFrom (s3.heap.objs.size + 1) scope.names (cloFrom X.env.cells scope.names [])) fp
  have k6 := b2 s3 H3 s3.heap.objs.size (cellsFrom (s3.heap.objs.size + 1) scope.names (cloFrom X.env.cells scope.names [])) fp
  have k7 := c2 s3 H3 s3.heap.objs.size (cellsFrom (s3.heap.objs.size + 1) scope.names (cloFrom X.env.cells scope.names [])) fp
  have k8 := lst s3 H3 s3.heap.objs.size (cellsFrom (s3.heap.objs.size + 1) scope.names (cloFrom X.env.cells scope.names [])) fp
  show codeAny _ _ (.compStart (.ListComp el [⟨tg, it0, f0, 0⟩, ⟨tg1, it1, f1, 0⟩, ⟨tg2, it2, f2, 0⟩] scope pos) 0 (.ref it) (.ref D0) (compEnvC scope (cellsFrom (s3.heap.objs.size + 1) scope.names (cloFrom X.env.cells scope.names [])) s3.heap.objs.size X.env)) (compPost (model X.prog X.w) X.A X.xe use Qf (.ref D0) s3.heap.objs.size) _
  generalize ec : compEnvC scope (cellsFrom (s3.heap.objs.size + 1) scope.names (cloFrom X.env.cells scope.names [])) s3.heap.objs.size X.env = ce at I4 k0 k1 k2 k3 k4 k5 k6 k7 k8 ⊢
  have cl : ce.locals = s3.heap.objs.size := by subst ec; rfl
  generalize e4 : ({ s3 with heap := pushCells (s3.heap.push { cls := .type "dict", data := .dict #[] }) scope.names } : Shared) = s4 at I4 ⊢
  have st4 : tn 0 s4.heap := T.keep _ _ _ st3 fun b _ o e => by rw [← e4]; exact pushCells_keeps _ _ _ _ (Heap.get?_push_of_some _ e)
  have nfp : ∀ b ∈ fp, H3 b = none := fun b hb => (fp3 b hb).1.1
  let Y : Cx := X.blk s3 H3 scope ce fp
  have stat : ∀ {σ' : L2.St} {H' : Hp} {s' : Shared}, L2.Inv Y [] σ' H' s' → (∀ b ∈ fp, H' b = none) → ∀ b ∈ fp, FpOk Y [] H' b := fun {σ' H' s'} I' hn b hb =>
    ⟨hn b hb, (I'.ok.exf b hb).1, I'.ok.exfs b hb, .inl hb, fun x c e => (I'.ok.exf b hb).2 x c e, fun p hp => absurd (show p ∈ ([] : List (Addr × Obj)) ++ [] from hp) (by simp)⟩
  have l2 : LoopOk X.prog X.w X.A (.ListComp el [⟨tg, it0, f0, 0⟩, ⟨tg1, it1, f1, 0⟩, ⟨tg2, it2, f2, 0⟩] scope pos) 2 (.ref D0) tg2 f2 ce (bodyIn X.prog X.w X.A el ce (.ref D0)) := in_loop fun it => turn3_2 ..
  have m2 : BodyOk Y vs2 (tMid wi2 g2 tt2 (tIn te D0) vs2) (bodyMid X.prog X.w X.A it2 ce fun v => .compStart (.ListComp el [⟨tg, it0, f0, 0⟩, ⟨tg1, it1, f1, 0⟩, ⟨tg2, it2, f2, 0⟩] scope pos) 2 v (.ref D0) ce) :=
    body_mid (Y := Y) cal rfl k5 l2 (start_any (c := ⟨tg2, it2, f2, 0⟩) rfl rfl) k6 k7 (body_in (Y := Y) rfl k8) (fun i hi => (nomatch hi))
  have l1 : LoopOk X.prog X.w X.A (.ListComp el [⟨tg, it0, f0, 0⟩, ⟨tg1, it1, f1, 0⟩, ⟨tg2, it2, f2, 0⟩] scope pos) 1 (.ref D0) tg1 f1 ce (bodyMid X.prog X.w X.A it2 ce fun v => .compStart (.ListComp el [⟨tg, it0, f0, 0⟩, ⟨tg1, it1, f1, 0⟩, ⟨tg2, it2, f2, 0⟩] scope pos) 2 v (.ref D0) ce) := mid_loop (fun it => turn3_1 ..) (n2 ce)
  have m1 : BodyOk Y vs1 (tMid wi1 g1 tt1 (tMid wi2 g2 tt2 (tIn te D0) vs2) vs1) (bodyMid X.prog X.w X.A it1 ce fun v => .compStart (.ListComp el [⟨tg, it0, f0, 0⟩, ⟨tg1, it1, f1, 0⟩, ⟨tg2, it2, f2, 0⟩] scope pos) 1 v (.ref D0) ce) :=
    body_mid (Y := Y) cal rfl k2 l1 (start_any (c := ⟨tg1, it1, f1, 0⟩) rfl rfl) k3 k4 m2 v2
  have l0 : LoopOk X.prog X.w X.A (.ListComp el [⟨tg, it0, f0, 0⟩, ⟨tg1, it1, f1, 0⟩, ⟨tg2, it2, f2, 0⟩] scope pos) 0 (.ref D0) tg f0 ce (bodyMid X.prog X.w X.A it1 ce fun v => .compStart (.ListComp el [⟨tg, it0, f0, 0⟩, ⟨tg1, it1, f1, 0⟩, ⟨tg2, it2, f2, 0⟩] scope pos) 1 v (.ref D0) ce) := mid_loop (fun it => turn3_0 ..) (n1 ce)
  have lv := level (Y := Y) (pins := []) (vb := vs1) cal rfl T k0 k1 m1 v1 stat wl
  have loop : codeAny (model X.prog X.w) X.A (.compLoop (.ListComp el [⟨tg, it0, f0, 0⟩, ⟨tg1, it1, f1, 0⟩, ⟨tg2, it2, f2, 0⟩] scope pos) 0 (.ref it) (.ref D0) ce) (compPost (model X.prog X.w) X.A X.xe use Qf (.ref D0) s3.heap.objs.size) s4 := by
    refine l0 (.ref it) _ (fun n s' => ∃ i H', L2.Inv Y [] (wipe σ (own.map (·.2))) H' s' ∧ tn i s'.heap ∧ (∀ b ∈ fp, H' b = none) ∧ W i n H') (fun n s' hI => turn_done (lv n s' hI) fun s'' hd => ?_) m0 s4 ⟨0, H3, I4, st4, nfp, w0⟩
    obtain ⟨H5, I6, qq⟩ := hd
    have I7 : L2.Inv X pins σ H5 s'' := I3.call' (ch := fp) I6.os I6.base I6.hok I6.bare fun b hb => ⟨(fp3 b hb).1.2.2.2.1, (fp3 b hb).1.2.1, (fp3 b hb).1.2.2.2.2.1, (fp3 b hb).1.2.2.2.2.2⟩
    have z : H5 ce.locals = none := I6.free
    obtain ⟨m, hn, _⟩ := I6.loc
    have hn : s''.heap.Ns ce.locals m := hn
    rw [cl] at z hn
    exact out D0 s3.heap.objs.size s'' m H5 I7 qq hn (I3.fpOk (Nat.le_refl _) z)
  exact codeAny_compStart_list loop (T.self X.A 0 _ _ _ st4 loop)
theorem ps_setLc3 {i : Nat} {y : Str} {py spos : Pos} (cal : X.calm = true) (nd : X.N.Nodup) (hy : X.N[i]? = some y) (hyl : X.env.scope.names.lookup y = some .local)
    (sw : swapsWith (.ListComp el [⟨tg, it0, f0, 0⟩, ⟨tg1, it1, f1, 0⟩, ⟨tg2, it2, f2, 0⟩] scope pos) (some (.Name y py)) spos.line X.env = pure true) (src : PI X tg it0 wi) (ok : BlkOk X.N X.env.scope scope own)
    (v1 : ∀ i ∈ vs1, i ∈ own.map (·.2)) (v2 : ∀ i ∈ vs2, i ∈ vs1) (b0 : OfBlk X scope fun Y => PG Y tg g) (c0 : OfBlk X scope fun Y => PTs Y f0 tt) (a1 : OfBlk X scope fun Y => PI Y tg1 it1 wi1) (b1 : OfBlk X scope fun Y => PG Y tg1 g1) (c1 : OfBlk X scope fun Y => PTs Y f1 tt1)
    (a2 : OfBlk X scope fun Y => PI Y tg2 it2 wi2) (b2 : OfBlk X scope fun Y => PG Y tg2 g2) (c2 : OfBlk X scope fun Y => PTs Y f2 tt2) (lst : OfBlk X scope fun Y => PE Y el te)
    (n0 : ∀ x, foldedSetIterable it0 X.env x = pure x) (n1 : ∀ env x, foldedSetIterable it1 env x = pure x) (n2 : ∀ env x, foldedSetIterable it2 env x = pure x) :
    PS X (.Assign [.Name y py] (.ListComp el [⟨tg, it0, f0, 0⟩, ⟨tg1, it1, f1, 0⟩, ⟨tg2, it2, f2, 0⟩] scope pos) spos) (tAsg (tLc3 wi g tt wi1 g1 tt1 wi2 g2 tt2 te (own.map (·.2)) vs1 vs2) (gName i)) := by
  refine ⟨fun pins s σ H D I h => ?_⟩
  rw [exec_Assign_Name_used _ _ _ _ sw]
  refine wpAny_bind (wpAny_standAt (wpAny_bind ?_))
  show wpAny _ X.A (do let _ ← comprehension (.ListComp el [⟨tg, it0, f0, 0⟩, ⟨tg1, it1, f1, 0⟩, ⟨tg2, it2, f2, 0⟩] scope pos) scope X.env (firstIterPos [⟨tg, it0, f0, 0⟩, ⟨tg1, it1, f1, 0⟩, ⟨tg2, it2, f2, 0⟩] pos) (newList []) false (eval it0 X.env) (some (assign (.Name y py) X.env))) _ _ s
  have h : tLc3 wi g tt wi1 g1 tt1 wi2 g2 tt2 te (own.map (·.2)) vs1 vs2 σ H (fun x H1 => gName i x σ H1 D.nx) := h
  refine wpAny_bind (thn (lc3_core (Qf := fun _ s' => SP X pins D .next s') cal nd I src ok v1 v2 b0 c0 a1 b1 c1 a2 b2 c2 lst n0 n1 n2 h fun L C s' m H' I' q hn f => ?_) fun _ s' hq => wpAny_pure (wpAny_pure hq))
  show wpAny _ _ (assign (.Name y py) X.env (.ref L)) _ _ _
  obtain ⟨q0, q1, q2, q3, q4, q5⟩ := f
  refine wpAny_assign_Name (store_ok2 (v := V.ref L) I' nd hy (.inl hyl) rfl (fun s2 I2 hs2 => ?_) (.inr hyl))
  obtain ⟨a, sb, ha⟩ := hs2
  have far : C ≠ a := ha.elim (fun z => by rw [z]; exact q1) fun z e => q4 y a z e.symm
  exact ⟨m, hn.sameBut sb far, fun h3 sb3 => ⟨_, H', I2.turned (t' := s2.toks) (fun b o hb e => (sb3.2 b hb).trans e) q0 q1 q3 q4 q5, q⟩⟩
end
end GB

namespace GB
open PySem PySem.Spec PyProof.Rows L2

/-! comprehensions of three clauses: data -/
abbrev DB := En → (List PyData → Prop) → List PyData → Prop
def dGo (vs : List Nat) (g : DTG) (tt : TTd) (db : DB) (ρw : En) (K : List PyData → Prop) : List PyData → List PyData → Prop
  | [], acc => K acc
  | d :: ds, acc => g d ρw fun ρ2 => wipeD ρ2 vs = ρw ∧ tt ρ2 fun b ρ3 => ρ3 = ρ2 ∧ if b = true then db ρ2 (fun acc => dGo vs g tt db ρw K ds acc) acc else dGo vs g tt db ρw K ds acc
def dbIn (te : TEd) : DB := fun ρ K acc => te ρ fun s ρ4 => ρ4 = ρ ∧ ∃ y, s = .d y ∧ acc.length < sizeLine ∧ K (acc ++ [y])
def dbMid (ti : TId) (vs : List Nat) (g : DTG) (tt : TTd) (db : DB) : DB := fun ρ K acc => ti ρ fun ds ρ4 => ρ4 = ρ ∧ dGo vs g tt db (wipeD ρ vs) K ds acc
def dLc3 (ti : TId) (vs vs1 vs2 : List Nat) (g : DTG) (tt : TTd) (ti1 : TId) (g1 : DTG) (tt1 : TTd) (ti2 : TId) (g2 : DTG) (tt2 : TTd) (te : TEd) : TEd :=
  fun ρ Q => ti ρ fun ds ρ1 => dGo vs g tt (dbMid ti1 vs1 g1 tt1 (dbMid ti2 vs2 g2 tt2 (dbIn te))) (wipeD ρ1 vs) (fun acc => Q (.own acc) (wipeD ρ1 vs)) ds []
section
variable {L : Lay} {H1 : Hp} {D : Addr}
/-- no own slot holds D -/
def Apart (D : Addr) (σ : L2.St) (ρ : En) : Prop := ∀ (i : Nat) (ys : Ow), ρ[i]? = some (.ow ys) → σ[i]? ≠ some (some (.ref D))
def LsAt (L : Lay) (D : Addr) (H : Hp) (acc : List PyData) : Prop := ∃ us, H D = some (.lst us) ∧ BrA L.K H us acc
def DbOk (L : Lay) (H1 : Hp) (D : Addr) (vb : List Nat) (db : DB) (tb : TB) : Prop :=
  ∀ (σ : L2.St) (ρ : En) (H : Hp) (acc : List PyData) (K : List PyData → Prop) (Nx : Hp → Prop), NoOwn vb ρ → Go σ ρ ρ H1 H → Rel L H σ ρ → Apart D σ ρ → LsAt L D H acc → db ρ K acc →
    (∀ H' acc', Keep H H' → Go (wipe σ vb) (wipeD ρ vb) (wipeD ρ vb) H1 H' → Rel L H' (wipe σ vb) (wipeD ρ vb) → LsAt L D H' acc' → K acc' → Nx H') → tb σ H Nx
theorem own_in {vs : List Nat} {ρ : En} {j : Nat} {ys : Ow} (e : (wipeD ρ vs)[j]? = some (.ow ys)) : j ∉ vs ∧ ρ[j]? = some (.ow ys) := by
  have nj : j ∉ vs := fun m => noOwn_wiped (vs := vs) ρ j m ys e
  rw [wipeD_get, if_neg nj] at e
  exact ⟨nj, e⟩
theorem own_out {vs : List Nat} {ρ : En} {j : Nat} {ys : Ow} (no : NoOwn vs ρ) (e : ρ[j]? = some (.ow ys)) : j ∉ vs ∧ (wipeD ρ vs)[j]? = some (.ow ys) := by
  have nj : j ∉ vs := fun m => no j m ys e
  exact ⟨nj, by rw [wipeD_get, if_neg nj]; exact e⟩
theorem apart_wipe {σ : L2.St} {ρ : En} {vs : List Nat} (h : Apart D σ ρ) : Apart D (wipe σ vs) (wipeD ρ vs) := fun j ys e z => by
  obtain ⟨nj, e'⟩ := own_in e
  exact h j ys e' (by rw [← GB.wipe_out σ vs j nj]; exact z)
theorem walk_lv {vs vb : List Nat} {gt : TG} {g : DTG} {tt : TTd} {db : DB} {tb : TB} {J : It} {ds : List PyData} {G : Hp → Prop} {Yy : Nat → Hp → V → Hp → Prop} {σw : L2.St} {ρw : En} {Hs : Hp} {acc : List PyData} {K : List PyData → Prop} {Stop : Hp → Prop}
    (hg : GOwn L vs gt g) (bok : DbOk L H1 D vb db tb) (hv : ∀ i ∈ vb, i ∈ vs) (d1 : H1 D = none)
    (wk : Walk J ds.length G Yy) (g0 : G Hs) (gk : ∀ H H', Keep H H' → G H → G H') (step : ∀ i H x H', i < ds.length → Keep Hs H → G H → Yy i H x H' → Same H H' ∧ ∃ d, ds[i]? = some d ∧ Br L.K H' x d)
    (nw : NoOwn vs ρw) (ew : wipe σw vs = σw) (go : Go σw ρw ρw H1 Hs) (r : Rel L Hs σw ρw) (ap : Apart D σw ρw) (ls : LsAt L D Hs acc) (q : dGo vs g tt db ρw K ds acc)
    (fin : ∀ H' acc', Keep Hs H' → Go σw ρw ρw H1 H' → Rel L H' σw ρw → LsAt L D H' acc' → K acc' → Stop H') :
    ∃ W : Nat → Nat → Hp → Prop, (∃ m, W 0 m Hs) ∧ tWalk J gt (tT L tt) tb vs σw W Stop := by
  refine walk_it (Body := fun Nx x H' => gt x σw H' fun σ2 H2 => wipe σ2 vs = σw ∧ tT L tt σ2 H2 fun b H3 => if b = true then tb σ2 H3 Nx else Nx H3) wk
    (fun i H2 => Keep Hs H2 ∧ Go σw ρw ρw H1 H2 ∧ Rel L H2 σw ρw ∧ ∃ acc, LsAt L D H2 acc ∧ dGo vs g tt db ρw K (ds.drop i) acc) ⟨Keep.rfl' Hs, go, r, acc, ls, q⟩ (fun i H2 _ h => gk _ _ h.1 g0) (fun i x H2 H3 hi hP hy => ?_) fun H2 hP => ?_
  · obtain ⟨k, go2, r2, acc2, ⟨us, hD2, hb2⟩, ql⟩ := hP
    obtain ⟨sm, d, hd, bd⟩ := step i H2 x H3 hi k (gk _ _ k g0) hy
    have e : ds.drop i = d :: ds.drop (i + 1) := by
      obtain ⟨hi', e⟩ := List.getElem?_eq_some_iff.mp hd
      rw [List.drop_eq_getElem_cons hi', e]
    rw [e] at ql
    have go3 : Go σw ρw ρw H1 H3 := go2.tr (Go.sm sm)
    have hD3 : H3 D = some (.lst us) := sm D _ hD2
    refine hg (r2.go sm) nw bd ql fun σ2 ρ2 r3 no2 q3 e2w => ⟨by rw [e2w, ew], ?_⟩
    obtain ⟨e2, q3⟩ := q3
    have ew2 : wipe σ2 vs = σw := by rw [e2w, ew]
    refine ⟨ρ2, _, r3, q3, fun b H4 ρ3 go4 r4 q4 => ?_⟩
    obtain ⟨e3, q4⟩ := q4
    subst e3
    have k4 : Keep H2 H4 := (keep_of_same sm).tr (go4.keep r3)
    obtain ⟨goA, rA, dA⟩ := back e2 no2 ew2 ap go3 hD3 go4 r4
    cases b with
    | false =>
      rw [if_neg (by decide)] at q4 ⊢
      exact ⟨k.tr k4, goA, rA, acc2, ⟨us, dA, BrA.keep k4 _ _ hb2⟩, q4⟩
    | true =>
      rw [if_pos rfl] at q4 ⊢
      have outw : ∀ (i : Nat) (xs : Ow), ρw[i]? = some (.ow xs) → ρ3[i]? = some (.ow xs) ∧ σ2[i]? = σw[i]? := fun j xs ej => by
        rw [← e2] at ej
        obtain ⟨nj, ej'⟩ := own_in ej
        exact ⟨ej', by rw [← ew2, GB.wipe_out σ2 vs j nj]⟩
      have ap2 : Apart D σ2 ρ3 := fun j ys ej z => by
        obtain ⟨nj, ej'⟩ := own_out no2 ej
        rw [e2] at ej'
        exact ap j ys ej' (by rw [← ew2, GB.wipe_out σ2 vs j nj]; exact z)
      refine bok σ2 ρ3 H4 acc2 _ _ (fun j m xs ej => no2 j (hv j m) xs ej) ((go3.shift outw).tr go4) r4 ap2 ⟨us, dA, BrA.keep k4 _ _ hb2⟩ q4 fun H' acc' kk go' r' hl' qk => ⟨(k.tr k4).tr kk, go'.shift fun j xs ej => ?_, ?_, acc', hl', qk⟩
      · obtain ⟨nj1, ej1⟩ := own_in ej
        obtain ⟨nj, ej2⟩ := own_out no2 ej1
        rw [e2] at ej2
        exact ⟨ej2, by rw [GB.wipe_out σ2 vb j nj1, ← ew2, GB.wipe_out σ2 vs j nj]⟩
      · have h := (r'.wiped (vs := vs)).move (σ' := σw) (by rw [wipe_length, ← ew2, wipe_length]) fun j hj => by
          rw [GB.wipe_out σ2 vb j (fun m => hj (hv j m)), ← ew2, GB.wipe_out σ2 vs j hj]
        rw [wipeD_in hv, e2] at h
        exact h
  · obtain ⟨k, go2, r2, acc2, hl2, ql⟩ := hP
    rw [List.drop_length] at ql
    exact fin H2 acc2 k go2 r2 hl2 ql
theorem db_in {te : TEd} (d1 : H1 D = none) (d0 : L.H0 D = none) : DbOk L H1 D [] (dbIn te) (tIn (tE L te) D) := by
  intro σ ρ H acc K Nx _ go r ap hl q fin
  obtain ⟨us, hD, hb⟩ := hl
  refine ⟨ρ, _, r, q, fun y H9 s ρ7 go9 r9 hvv q9 => ?_⟩
  obtain ⟨e7, y', rfl, hz, q10⟩ := q9
  subst e7
  have dG : H9 D = some (.lst us) := go9.stay D _ hD fun j xs ej z => ap j xs ej z
  have k9 : Keep H H9 := go9.keep r
  have kD : Keep H9 (upd H9 D (.lst (us ++ [y]))) := keep_put dG trivial
  have lu := hb.len
  exact ⟨us, dG, by omega, fin _ (acc ++ [y']) (k9.tr kD) (app_go (go.tr go9) d1) (r9.other dG d0 ap) ⟨us ++ [y], upd_same, (BrA.keep (k9.tr kD) _ _ hb).app (BrA.one (Br.keep kD _ _ hvv))⟩ q10⟩
theorem db_mid {vs vb : List Nat} {ti : TId} {gt : TG} {g : DTG} {tt : TTd} {db : DB} {tb : TB} (hg : GOwn L vs gt g) (bok : DbOk L H1 D vb db tb) (hv : ∀ i ∈ vb, i ∈ vs) (d1 : H1 D = none) :
    DbOk L H1 D vs (dbMid ti vs g tt db) (tMid (tI L ti) gt (tT L tt) tb vs) := by
  intro σ ρ H acc K Nx no go r ap hl q fin
  obtain ⟨us, hD, hb⟩ := hl
  refine ⟨ρ, _, r, q, fun J H5 ds ρ4 go5 r5 q5 it => ?_⟩
  obtain ⟨e4, q5⟩ := q5
  subst e4
  obtain ⟨G, Yy, wk, g0, gk, step⟩ := it
  have k5 : Keep H H5 := go5.keep r
  have d5 : H5 D = some (.lst us) := go5.stay D _ hD fun j xs ej z => ap j xs ej z
  refine walk_lv hg bok hv d1 wk g0 gk step (noOwn_wiped ρ4) wipe_wipe ((go.tr go5).shift fun j xs ej => ?_) (r5.wiped.move (wipe_length σ vs) (GB.wipe_out σ vs)) (apart_wipe ap) ⟨us, d5, BrA.keep k5 _ _ hb⟩ q5 fun H' acc' kk go' r' hl' qk => fin H' acc' (k5.tr kk) go' r' hl' qk
  obtain ⟨nj, ej'⟩ := own_out no ej
  exact ⟨ej', GB.wipe_out σ vs j nj⟩
theorem lc3_read {ti ti1 ti2 : TId} {vs vs1 vs2 : List Nat} {gt gt1 gt2 : TG} {g g1 g2 : DTG} {tt tt1 tt2 : TTd} {te : TEd} (h1 : ∀ i ∈ vs1, i ∈ vs) (h2 : ∀ i ∈ vs2, i ∈ vs1) (hg : GOwn L vs gt g) (hg1 : GOwn L vs1 gt1 g1) (hg2 : GOwn L vs2 gt2 g2) :
    ∀ σ H Q', tE L (dLc3 ti vs vs1 vs2 g tt ti1 g1 tt1 ti2 g2 tt2 te) σ H Q' → tLc3 (tI L ti) gt (tT L tt) (tI L ti1) gt1 (tT L tt1) (tI L ti2) gt2 (tT L tt2) (tE L te) vs vs1 vs2 σ H Q' := by
  intro σ H Q' q
  obtain ⟨ρ, Q, r, q, fin⟩ := q
  refine ⟨ρ, _, r, q, fun J H1 ds ρ1 go r1 q1 it D hD => ?_⟩
  obtain ⟨G, Yy, wk, g0, gk, step⟩ := it
  have sD := same_new (o := .lst []) hD
  have d0 : L.H0 D = none := r1.same.free hD
  have rw1 : Rel L H1 (wipe σ vs) (wipeD ρ1 vs) := r1.wiped.move (wipe_length σ vs) (GB.wipe_out σ vs)
  have ap : Apart D (wipe σ vs) (wipeD ρ1 vs) := fun i ys e z => by
    obtain ⟨l', us', q1, q2, _⟩ := rw1.getW e
    rw [z] at q1; cases q1
    rw [hD] at q2; cases q2
  refine walk_lv (H1 := H1) (D := D) hg (db_mid hg1 (db_mid hg2 (db_in hD d0) (fun _ m => (nomatch m)) hD) h2 hD) h1 hD wk (gk _ _ (keep_of_same sD) g0) gk (fun i H2 x H3 hi k gg hy => step i H2 x H3 hi ((keep_of_same sD).tr k) gg hy) (noOwn_wiped ρ1) wipe_wipe (Go.sm sD) (rw1.go sD) ap ⟨[], upd_same, .nil⟩ q1 fun H2 acc k goi r2 hl ql => ?_
  obtain ⟨us, hDl, hb⟩ := hl
  have goF : Go σ ρ1 (wipeD ρ1 vs) H1 H2 := ⟨fun a o h n => goi.stay a o h fun j xs ej z => by
      obtain ⟨nj, ej'⟩ := own_in ej
      rw [GB.wipe_out σ vs j nj] at z
      exact n j xs ej' z, fun j xs ej => ⟨xs, (own_in ej).2⟩, goi.dom⟩
  exact fin (.ref D) H2 (.own acc) _ (go.tr goF) (r2.move (wipe_length σ vs).symm fun j hj => (GB.wipe_out σ vs j hj).symm) ⟨⟨D, us, rfl, hDl, hb, d0⟩, fun l e => by cases e; exact go.dom _ hD⟩ ql
end
end GB

namespace GB
open PySem PySem.Spec PyProof.Rows L2

/-! comprehensions of three clauses: as a row of a def; steps from without -/
section
variable {X : Cx} {L : Lay} {el tg it0 tg1 it1 tg2 it2 : Expr} {f0 f1 f2 : List Expr} {scope : Scope} {own : List (Str × Nat)} {vs1 vs2 : List Nat} {pos : Pos} {ti ti1 ti2 : TId} {g g1 g2 : DTG} {gt gt1 gt2 : TG} {tt tt1 tt2 : TTd} {te : TEd}
theorem ds_setLc3 {i : Nat} {y : Str} {py spos : Pos} (gd : Good X) (hy : X.N[i]? = some y) (hyl : X.env.scope.names.lookup y = some .local)
    (sw : swapsWith (.ListComp el [⟨tg, it0, f0, 0⟩, ⟨tg1, it1, f1, 0⟩, ⟨tg2, it2, f2, 0⟩] scope pos) (some (.Name y py)) spos.line X.env = pure true) (src : PI X tg it0 (tI L ti)) (ok : BlkOk X.N X.env.scope scope own)
    (v1 : ∀ i ∈ vs1, i ∈ own.map (·.2)) (v2 : ∀ i ∈ vs2, i ∈ vs1) (b0 : OfBlk X scope fun Y => PG Y tg gt) (o0 : GOwn L (own.map (·.2)) gt g) (c0 : OfBlk X scope fun Y => Good Y → PTs Y f0 (tT L tt))
    (a1 : OfBlk X scope fun Y => Good Y → PI Y tg1 it1 (tI L ti1)) (b1 : OfBlk X scope fun Y => PG Y tg1 gt1) (o1 : GOwn L vs1 gt1 g1) (c1 : OfBlk X scope fun Y => Good Y → PTs Y f1 (tT L tt1))
    (a2 : OfBlk X scope fun Y => Good Y → PI Y tg2 it2 (tI L ti2)) (b2 : OfBlk X scope fun Y => PG Y tg2 gt2) (o2 : GOwn L vs2 gt2 g2) (c2 : OfBlk X scope fun Y => Good Y → PTs Y f2 (tT L tt2))
    (lst : OfBlk X scope fun Y => Good Y → PE Y el (tE L te)) (n0 : ∀ x, foldedSetIterable it0 X.env x = pure x := by intro _; rfl) (n1 : ∀ env x, foldedSetIterable it1 env x = pure x := by intro _ _; rfl) (n2 : ∀ env x, foldedSetIterable it2 env x = pure x := by intro _ _; rfl) :
    PS X (.Assign [.Name y py] (.ListComp el [⟨tg, it0, f0, 0⟩, ⟨tg1, it1, f1, 0⟩, ⟨tg2, it2, f2, 0⟩] scope pos) spos) (tS L (dSet i (dLc3 ti (own.map (·.2)) vs1 vs2 g tt ti1 g1 tt1 ti2 g2 tt2 te))) := by
  have good : ∀ {s : Shared} {H : Hp} {C : Addr} {cl : List (Str × Addr)} {fp : List Addr}, Good (X.blk s H scope (compEnvC scope cl C X.env) fp) := ⟨gd.calm, gd.gd, gd.sys, gd.un, gd.nd⟩
  refine (ps_setLc3 gd.calm gd.nd hy hyl sw src ok v1 v2 b0 (fun s H C cl fp => c0 s H C cl fp good) (fun s H C cl fp => a1 s H C cl fp good) b1 (fun s H C cl fp => c1 s H C cl fp good) (fun s H C cl fp => a2 s H C cl fp good) b2 (fun s H C cl fp => c2 s H C cl fp good)
    (fun s H C cl fp => lst s H C cl fp good) n0 n1 n2).less fun D σ H q => ?_
  obtain ⟨ρ, De, r, q, m1, _⟩ := q
  exact lc3_read v1 v2 o0 o1 o2 _ _ _ ⟨ρ, _, r, q, fun v H' s ρ' go r' hv n => m1 _ _ _ (go.keep r) (r.set r' go hv) n⟩
end
section
variable {ti ti1 ti2 : TId} {vs vs1 vs2 : List Nat} {g g1 g2 : DTG} {tt tt1 tt2 : TTd} {te : TEd} {ρ : En} {db : DB} {K : List PyData → Prop} {acc ds : List PyData} {d : PyData}
theorem e_lc3 {Q : S → En → Prop} : dLc3 ti vs vs1 vs2 g tt ti1 g1 tt1 ti2 g2 tt2 te ρ Q ↔ ti ρ fun ds ρ1 => dGo vs g tt (dbMid ti1 vs1 g1 tt1 (dbMid ti2 vs2 g2 tt2 (dbIn te))) (wipeD ρ1 vs) (fun acc => Q (.own acc) (wipeD ρ1 vs)) ds [] := Iff.rfl
theorem e_gon : dGo vs g tt db ρ K [] acc ↔ K acc := Iff.rfl
theorem e_goc : dGo vs g tt db ρ K (d :: ds) acc ↔ g d ρ fun ρ2 => wipeD ρ2 vs = ρ ∧ tt ρ2 fun b ρ3 => ρ3 = ρ2 ∧ iteK b (db ρ2 (fun acc => dGo vs g tt db ρ K ds acc) acc) (dGo vs g tt db ρ K ds acc) := Iff.rfl
theorem e_dbMid : dbMid ti vs g tt db ρ K acc ↔ ti ρ fun ds ρ4 => ρ4 = ρ ∧ dGo vs g tt db (wipeD ρ vs) K ds acc := Iff.rfl
theorem e_dbIn : dbIn te ρ K acc ↔ te ρ fun s ρ4 => ρ4 = ρ ∧ oneK s fun y => acc.length < sizeLine ∧ K (acc ++ [y]) := Iff.rfl
end
end GB

namespace GB
open PySem PySem.Spec PyProof.Rows L2 SeqAt

/-! a tuple of anything beside the empty one -/
def fNeU : F2 := fun x y Q => ∃ xs, x = .tuple xs ∧ y = .tuple [] ∧ Q (.d (.bool (!xs.isEmpty)))
theorem f_neu {xs : List PyData} {k : S → Prop} : fNeU (.tuple xs) (.tuple []) k ↔ k (.d (.bool (!xs.isEmpty))) :=
  ⟨fun ⟨_, e, _, h⟩ => by cases e; exact h, fun h => ⟨xs, rfl, rfl, h⟩⟩
section
variable {X : Cx} {L : Lay}
theorem o_neu (hK : L.K = X.K) (g : Good X) : OpR X (compareOp .NotEq) (rD L fNeU) := by
  intro pins s σ H x y v u Q' I rx ry q
  obtain ⟨dx, dy, Q, bx, by_, ⟨xs, rfl, rfl, q⟩, fin⟩ := q
  obtain ⟨as, r1⟩ := Bk.reads hK I bx rx
  obtain ⟨bs, r2⟩ := Bk.reads hK I by_ ry
  cases r1 with
  | @tuple l o vs n _ as1 h1 h2 h3 h4 =>
    cases r2 with
    | @tuple l' o' vs' n' _ bs1 k1 k2 k3 k4 =>
      have n1 : vs.size = xs.length := by simpa using ReadsAll.length _ _ _ h4
      have n2 : vs'.size = 0 := by simpa using ReadsAll.length _ _ _ k4
      have e : (!((List.range (min vs.size vs'.size)).all (fun _ => true) && vs.size == vs'.size)) = !xs.isEmpty := by
        rw [n2, n1]
        cases xs <;> simp
      refine RcNeAt.tuples (e := fun _ => true) ⟨_, h1, h2, _, h3⟩ ⟨_, k1, k2, _, k3⟩ (by have := g.un; omega) (fun j j1 j2 => absurd j2 (by omega)) X.prog X.w _ _ ?_
      rw [e]
      exact ⟨.bl _, H, I, rfl, fin _ H _ (Same.refl H) (nr_d (.bl _)) q⟩
end
end GB

namespace GB
open PySem PySem.Spec PyProof.Rows L2 SeqAt

/-! texts and tuples beside tables: never equal -/
theorem tup_no_dict (l b : Addr) (vs : Array Value) (n m : Nat) (es : Array DictEntry) (d1 d2 : Option Addr) (z1 z2 : Array (Option Value)) :
    Meets (Builtin.«tuple.__eq__» ⟨[.ref l, .ref b], []⟩) (fun _ R s => s.heap.get? l = some { cls := .type "tuple", dict := d1, data := .seq vs n, slots := z1 } ∧ s.heap.get? b = some { cls := .type "dict", dict := d2, data := .dict es m, slots := z2 } ∧ R (.ok (.ret .notImplemented)) s) :=
  .of_wp fun prog w A R s h => by obtain ⟨hp, g, d, tk, os⟩ := s; obtain ⟨hl, hb, h⟩ := h; have f1 := F.sub_dict_tuple; wp_walk using wpAny_loadPart' hl, wpAny_loadPart' hb; exact ⟨_, rfl, h⟩
theorem dict_no_tup (l b : Addr) (vs : Array Value) (n m : Nat) (es : Array DictEntry) (d1 d2 : Option Addr) (z1 z2 : Array (Option Value)) :
    Meets (Builtin.«dict.__eq__» ⟨[.ref b, .ref l], []⟩) (fun _ R s => s.heap.get? l = some { cls := .type "tuple", dict := d1, data := .seq vs n, slots := z1 } ∧ s.heap.get? b = some { cls := .type "dict", dict := d2, data := .dict es m, slots := z2 } ∧ R (.ok (.ret .notImplemented)) s) :=
  .of_wp fun prog w A R s h => by obtain ⟨hp, g, d, tk, os⟩ := s; obtain ⟨hl, hb, h⟩ := h; have f1 := F.sub_tuple_dict; wp_walk using wpAny_loadPart' hl, wpAny_loadPart' hb; exact ⟨_, rfl, h⟩
theorem str_no_dict (x : Str) (t : Tok) (b : Addr) (m : Nat) (es : Array DictEntry) (d2 : Option Addr) (z2 : Array (Option Value)) :
    Meets (Builtin.«str.__eq__» ⟨[.str x t, .ref b], []⟩) (fun _ R s => s.heap.get? b = some { cls := .type "dict", dict := d2, data := .dict es m, slots := z2 } ∧ R (.ok (.ret .notImplemented)) s) :=
  .of_wp fun prog w A R s h => by obtain ⟨hp, g, d, tk, os⟩ := s; obtain ⟨hb, h⟩ := h; wp_walk using wpAny_loadPart' hb, wpAny_load hb; exact ⟨_, rfl, h⟩
theorem dict_no_str (x : Str) (t : Tok) (b : Addr) (m : Nat) (es : Array DictEntry) (d2 : Option Addr) (z2 : Array (Option Value)) :
    Meets (Builtin.«dict.__eq__» ⟨[.ref b, .str x t], []⟩) (fun _ R s => s.heap.get? b = some { cls := .type "dict", dict := d2, data := .dict es m, slots := z2 } ∧ R (.ok (.ret .notImplemented)) s) :=
  .of_wp fun prog w A R s h => by obtain ⟨hp, g, d, tk, os⟩ := s; obtain ⟨hb, h⟩ := h; have f1 := F.sub_str_dict; wp_walk using wpAny_loadPart' hb, wpAny_load hb; exact ⟨_, rfl, h⟩
end GB

namespace GB
open PySem PySem.Spec PyProof.Rows L2 SeqAt

/-! plain things beside anything -/
def IsTab (h : Heap) (b : Addr) : Prop := ∃ o es n, h.get? b = some o ∧ o.cls = .type "dict" ∧ o.data = .dict es n
section
variable {A : Around} {s : Shared}
theorem ne_tab {l b : Addr} {vs : Array Value} (hl : s.heap.IsTuple l vs) (hb : IsTab s.heap b) : l ≠ b := fun e => by
  subst e
  obtain ⟨o, ho, hc, _⟩ := hl
  obtain ⟨o2, _, _, ho2, hc2, _⟩ := hb
  rw [ho] at ho2; cases ho2
  rw [hc] at hc2; exact absurd hc2 (by simp)
theorem rc_tup_tab {l b : Addr} {vs : Array Value} (hl : s.heap.IsTuple l vs) (hb : IsTab s.heap b) (hu : A.units < cLine) : RcAt A s (.ref l) (.ref b) false := fun prog w E Q h => by
  have hne := ne_tab hl hb
  obtain ⟨⟨cls, dd, data, sl⟩, ho, hc, n, hd⟩ := id hl
  obtain ⟨⟨cls2, dd2, data2, sl2⟩, es, m, ho2, hc2, hd2⟩ := id hb
  simp only at hc hd hc2 hd2
  subst hc hd hc2 hd2
  exact (rc_eq_decline_or (k := false) ⟨_, ho, rfl⟩ ⟨_, ho2, rfl⟩ (by decide) F.sub_dict_tuple F.slot_tuple_eq F.slot_dict_eq_refl
    (fun _ hq => call_meets F.slot_tuple_eq ⟨_, ho, rfl⟩ F.entry_tuple_eq (F.args_tuple_eq_2 _ _) (tup_no_dict l b vs n m es dd dd2 sl sl2) ⟨ho, ho2, hq⟩)
    (fun _ hq => call_meets F.slot_dict_eq_refl ⟨_, ho2, rfl⟩ F.entry_dict_eq (F.args_dict_eq_2 _ _) (dict_no_tup l b vs n m es dd dd2 sl sl2) ⟨ho, ho2, hq⟩)
    (fun _ hq => wpAny_isSame_ref_other' hne ho ho2 (by simp) hq) (.inr hu) h)
theorem rc_str_tab {x : Str} {t : Tok} {b : Addr} (hb : IsTab s.heap b) (hu : A.units < cLine) : RcAt A s (.str x t) (.ref b) false := fun prog w E Q h => by
  obtain ⟨⟨cls2, dd2, data2, sl2⟩, es, m, ho2, hc2, hd2⟩ := id hb
  simp only at hc2 hd2
  subst hc2 hd2
  exact (rc_eq_decline_or (k := false) (typeIs_str s x t) ⟨_, ho2, rfl⟩ (by decide) F.sub_dict_str F.slot_str_eq F.slot_dict_eq_refl
    (fun _ hq => call_meets F.slot_str_eq (typeIs_str s x t) F.entry_str_eq (F.args_str_eq_2 _ _) (str_no_dict x t b m es dd2 sl2) ⟨ho2, hq⟩)
    (fun _ hq => call_meets F.slot_dict_eq_refl ⟨_, ho2, rfl⟩ F.entry_dict_eq (F.args_dict_eq_2 _ _) (dict_no_str x t b m es dd2 sl2) ⟨ho2, hq⟩)
    (fun _ hq => wpAny_of_eq (rfl : isSame (.str x t) (.ref b) = pure false) hq) (.inr hu) h)
theorem eq_str_tab {x : Str} {t : Tok} {b : Addr} (hb : IsTab s.heap b) (hu : A.units < cLine) : EqAt A s (.str x t) (.ref b) false := fun prog w E Q h => by
  unfold eqBool
  refine wpAny_holding (wpAny_ite_split (fun hab => absurd (eq_of_beq hab) nofun) fun _ => ?_)
  exact wpAny_bind (rc_str_tab hb hu prog w E _ (wpAny_truthy_bool h))
def strB : PyData → Bool
  | .str _ => true
  | _ => false
def plainB : PyData → Bool
  | .str _ => true
  | .tuple zs => zs.all strB
  | _ => false
theorem eq_str_any {x : Str} {t : Tok} {u : Value} {d : PyData} {as : List Addr} (r : Reads s.heap u d as) (hu : A.units < cLine) : EqAt A s (.str x t) u (PyData.eqv (.str x) d) := by
  cases r with
  | none => exact EqAt.str_none x t
  | bool y => exact EqAt.str_bool x t y
  | int y u => exact EqAt.str_int x t y u
  | str y u => exact EqAt.str_str x t y u
  | list k1 k2 k3 k4 => exact EqAt.str_list x t ⟨_, k1, k2, _, k3⟩ hu
  | tuple k1 k2 k3 k4 => exact EqAt.str_tuple x t ⟨_, k1, k2, _, k3⟩ hu
  | dict k1 k2 k3 k4 k5 => exact eq_str_tab ⟨_, _, _, k1, k2, k3⟩ hu
theorem strs_any : ∀ (xs ys : List PyData) (vs ws : List Value) (as bs : List Addr), xs.all strB = true → ReadsAll s.heap vs xs as → ReadsAll s.heap ws ys bs → A.units < cLine → ∀ j (h1 : j < vs.length) (h2 : j < ws.length), EqAt A s vs[j] ws[j] (pairEq xs ys j)
  | [], _, _, _, _, _, _, ra, _, _, j, h1, _ => by cases ra; exact absurd h1 (Nat.not_lt_zero _)
  | _ :: _, [], _, _, _, _, _, _, rb, _, j, _, h2 => by cases rb; exact absurd h2 (Nat.not_lt_zero _)
  | x :: xs, y :: ys, _, _, _, _, h, ra, rb, hu, j, h1, h2 => by
    rw [List.all_cons, Bool.and_eq_true] at h
    cases ra with
    | cons r rs =>
      cases rb with
      | cons r' rs' =>
        cases j with
        | zero =>
          cases x with
          | str z =>
            cases r with
            | str _ t => exact eq_str_any r' hu
          | _ => exact absurd h.1 (by simp [strB])
        | succ j => exact strs_any xs ys _ _ _ _ h.2 rs rs' hu j (by simpa using h1) (by simpa using h2)
theorem strs_lay : ∀ {xs : List PyData}, xs.all strB = true → (xs.all fun z => z.canLay0) = true → PyData.canLayAll0 xs = true
  | [], _, _ => rfl
  | x :: xs, h, h' => by
    rw [List.all_cons, Bool.and_eq_true] at h h'
    simp [PyData.canLayAll0, h'.1, strs_lay h.2 h'.2]
theorem eq_plain_any {z d : PyData} {v u : Value} {as bs : List Addr} (hp : plainB z = true) (hl : z.canLay0 = true) (ra : Reads s.heap v z as) (rb : Reads s.heap u d bs) (hu : A.in1.units < cLine) (hu0 : A.units < cLine) : EqAt A s v u (PyData.eqv z d) := by
  cases ra with
  | str x t => exact eq_str_any rb hu0
  | @tuple l o vs n xs as1 h1 h2 h3 h4 =>
    have ht : s.heap.IsTuple l vs := ⟨_, h1, h2, _, h3⟩
    cases rb with
    | none => exact EqAt.tuple_none ht hu0
    | bool y => exact EqAt.tuple_bool y ht hu0
    | int y u => exact EqAt.tuple_int y u ht hu0
    | str y u => exact EqAt.tuple_str y u ht hu0
    | list k1 k2 k3 k4 => exact EqAt.tuple_list ht ⟨_, k1, k2, _, k3⟩ hu0
    | dict k1 k2 k3 k4 k5 => exact EqAt.of_refs (ne_tab ht ⟨_, _, _, k1, k2, k3⟩) (rc_tup_tab ht ⟨_, _, _, k1, k2, k3⟩ hu0)
    | @tuple l' o' vs' n' ys bs1 k1 k2 k3 k4 =>
      have ht' : s.heap.IsTuple l' vs' := ⟨_, k1, k2, _, k3⟩
      have n1 : vs.size = xs.length := by simpa using ReadsAll.length _ _ _ h4
      have n2 : vs'.size = ys.length := by simpa using ReadsAll.length _ _ _ k4
      show EqAt A s (.ref l) (.ref l') (PyData.eqvAll xs ys)
      by_cases hll : l = l'
      · subst hll
        have e : PyData.tuple xs = PyData.tuple ys := Reads.unique (.tuple xs) (.tuple ys) _ _ _ hl (.tuple h1 h2 h3 h4) (.tuple k1 k2 k3 k4)
        injection e with e
        subst e
        rw [eqvAll_refl xs hl]
        exact EqAt.same _
      · rw [← eqvAll_eq xs ys, ← n1, ← n2]
        refine EqAt.of_refs hll (RcAt.tuples ht ht' hu0 fun j j1 j2 => ?_)
        have := strs_any (A := A.in1) xs ys vs.toList vs'.toList _ _ hp h4 k4 hu j (by simpa using j1) (by simpa using j2)
        simpa using this
  | _ => exact absurd hp (by simp [plainB])
end
/-- x in c, c a tuple of plain things, x anything -/
def plains (zs : List PyData) : Bool := zs.all fun z => plainB z && z.canLay0
def fInP : F2 := fun x c Q => ∃ zs, c = .tuple zs ∧ plains zs = true ∧ Q (.d (.bool (zs.any fun z => PyData.eqv z x)))
def fNotInP : F2 := fun x c Q => ∃ zs, c = .tuple zs ∧ plains zs = true ∧ Q (.d (.bool (!zs.any fun z => PyData.eqv z x)))
def fGeS : F2 := fun x y Q => ∃ a b, x = .str a ∧ y = .str b ∧ Q (.d (.bool (!PySem.W.dataLt (.str a) (.str b))))
theorem f_inP {x : PyData} {zs : List PyData} {k : S → Prop} : fInP x (.tuple zs) k ↔ plains zs = true ∧ k (.d (.bool (zs.any fun z => PyData.eqv z x))) :=
  ⟨fun ⟨_, e, h⟩ => by cases e; exact h, fun h => ⟨_, rfl, h⟩⟩
theorem f_notInP {x : PyData} {zs : List PyData} {k : S → Prop} : fNotInP x (.tuple zs) k ↔ plains zs = true ∧ k (.d (.bool (!zs.any fun z => PyData.eqv z x))) :=
  ⟨fun ⟨_, e, h⟩ => by cases e; exact h, fun h => ⟨_, rfl, h⟩⟩
theorem f_geS {a b : Str} {k : S → Prop} : fGeS (.str a) (.str b) k ↔ k (.d (.bool (!PySem.W.dataLt (.str a) (.str b)))) :=
  ⟨fun ⟨_, _, e1, e2, h⟩ => by cases e1; cases e2; exact h, fun h => ⟨_, _, rfl, rfl, h⟩⟩
theorem plains_lay : ∀ {zs : List PyData}, plains zs = true → PyData.canLayAll0 zs = true
  | [], _ => rfl
  | z :: zs, h => by
    unfold plains at h
    rw [List.all_cons, Bool.and_eq_true, Bool.and_eq_true] at h
    simp [PyData.canLayAll0, h.1.2, plains_lay (zs := zs) h.2]
theorem plains_mem {h : Heap} : ∀ {zs : List PyData} {vs : List Value} {as : List Addr}, plains zs = true → ReadsAll h vs zs as → ∀ y ∈ vs, ∃ z bs, Reads h y z bs ∧ plainB z = true ∧ z.canLay0 = true
  | [], _, _, _, r, y, hy => by cases r; cases hy
  | z :: zs, _, _, h, r, y, hy => by
    unfold plains at h
    rw [List.all_cons, Bool.and_eq_true, Bool.and_eq_true] at h
    cases r with
    | cons r rs =>
      rcases List.mem_cons.mp hy with rfl | hy
      · exact ⟨z, _, r, h.1.1, h.1.2⟩
      · exact plains_mem h.2 rs y hy
section
variable {X : Cx} {L : Lay}
theorem in_plain (hK : L.K = X.K) (g : Good X) {pins : List (Addr × Obj)} {s : Shared} {σ : L2.St} {H : Hp} {x y : V} {v u : Value} {dx : PyData} {zs : List PyData} (I : L2.Inv X pins σ H s) (rx : L2.RelV x v) (ry : L2.RelV y u) (bx : Bk L H x dx) (by_ : Bk L H y (.tuple zs)) (hz : plains zs = true)
    {E Q : Value → Shared → Prop} : (Q (.bool (zs.any fun z => PyData.eqv z dx)) s → wpAny (model X.prog X.w) X.A (compareOp .In v u) Q E s) ∧ (Q (.bool (!zs.any fun z => PyData.eqv z dx)) s → wpAny (model X.prog X.w) X.A (compareOp .NotIn v u) Q E s) := by
  obtain ⟨as, r1⟩ := Bk.reads hK I bx rx
  obtain ⟨bs, r2⟩ := Bk.reads hK I by_ ry
  have un := g.un
  cases r2 with
  | @tuple l o vs n _ as1 h1 h2 h3 h4 =>
    have each : ∀ y, y ∈ vs → EqAt X.A.in1 s y v (PyData.eqv (readOf s.heap y) dx) := fun y hy => by
      obtain ⟨z, cs, rz, p1, p2⟩ := plains_mem hz h4 y (by simpa using hy)
      rw [readOf_eq p2 rz]
      exact eq_plain_any p1 p2 rz r1 (by show X.A.units + 1 + 1 < cLine; omega) (by show X.A.units + 1 < cLine; omega)
    have e := any_by_data (vs := vs) (d := dx) h4 (plains_lay hz)
    exact ⟨fun h => in_tupleAt _ ⟨_, h1, h2, _, h3⟩ each (by rw [e]; exact h), fun h => notIn_tupleAt _ ⟨_, h1, h2, _, h3⟩ each (by rw [e]; exact h)⟩
theorem o_inP (hK : L.K = X.K) (g : Good X) : OpR X (compareOp .In) (rD L fInP) := by
  intro pins s σ H x y v u Q' I rx ry q
  obtain ⟨dx, dy, Q, bx, by_, ⟨zs, rfl, hz, q⟩, fin⟩ := q
  exact (in_plain hK g I rx ry bx by_ hz).1 ⟨.bl _, H, I, rfl, fin _ H _ (Same.refl H) (nr_d (.bl _)) q⟩
theorem o_notInP (hK : L.K = X.K) (g : Good X) : OpR X (compareOp .NotIn) (rD L fNotInP) := by
  intro pins s σ H x y v u Q' I rx ry q
  obtain ⟨dx, dy, Q, bx, by_, ⟨zs, rfl, hz, q⟩, fin⟩ := q
  exact (in_plain hK g I rx ry bx by_ hz).2 ⟨.bl _, H, I, rfl, fin _ H _ (Same.refl H) (nr_d (.bl _)) q⟩
theorem o_geS (hK : L.K = X.K) (g : Good X) : OpR X (compareOp .GtE) (rD L fGeS) := by
  intro pins s σ H x y v u Q' I rx ry q
  obtain ⟨dx, dy, Q, bx, by_, ⟨a, b, rfl, rfl, q⟩, fin⟩ := q
  obtain ⟨as, r1⟩ := Bk.reads hK I bx rx
  obtain ⟨bs, r2⟩ := Bk.reads hK I by_ ry
  exact PySem.W.ge_data r1 r2 rfl (by simp) (by have := g.un; simp only [PyData.depth]; omega) ⟨.bl _, H, I, rfl, fin _ H _ (Same.refl H) (nr_d (.bl _)) q⟩
end
end GB

set_option maxRecDepth 100000
namespace GB
open PySem PySem.Spec PyProof.Rows L2
/-! a dict of the top, texts to ints -/
def dDct (d : List (Str × Int)) (t : TEd) : TEd := fun ρ Q => t ρ fun s ρ1 => ∃ z n, s = .d (.str z) ∧ d.lookup z = some n ∧ Q (.d (.int n)) ρ1
def DctOk (K : PySem.W.Frag) (w : World) (a : Addr) (d : List (Str × Int)) : Prop := ∀ z n, d.lookup z = some n → KDct K w a z (.int n)
theorem de_dct {X : Cx} {L : Lay} {x : Str} {a : Addr} {d : List (Str × Int)} {t : TEd} {b : Expr} {p pos : Pos} (hg : Gl X x) (hm : X.mg x = some (.ref a)) (T : DctOk X.K X.w a d) (hb : PE X b (tE L t)) (hs : PlainIx b)
    (hd : (x == ("__debug__" : Str)) = false := by decide) : PE X (.Subscript (.Name x p) b pos) (tE L (dDct d t)) :=
  (pe_ix ix_kdict (pe_glob (v := .ref a) hg hm rfl hd) hb hs).less fun σ H Q' h => by
    obtain ⟨ρ, Q, r, q, fin⟩ := h
    refine (show tE L t σ H _ from ⟨ρ, _, r, q, fun u H2 s2 ρ2 k2 r2 hu q2 => ?_⟩)
    obtain ⟨z, n, rfl, e, q3⟩ := q2
    have hu : Br L.K H2 u (.str z) := hu
    cases hu
    exact ⟨a, z, .int n, rfl, rfl, T z n e, fin _ H2 (.d (.int n)) ρ2 k2 r2 (.int n) q3⟩
theorem dctOk_nil {K : PySem.W.Frag} {w : World} {a : Addr} : DctOk K w a [] := fun _ _ h => by cases h
theorem dctOk_cons {K : PySem.W.Frag} {w : World} {a : Addr} {k : Str} {i : Int} {d : List (Str × Int)} (h : KDct K w a k (.int i)) (r : DctOk K w a d) : DctOk K w a ((k, i) :: d) := fun z n e => by
  rw [List.lookup_cons] at e
  split at e
  · rename_i q
    cases e
    rw [eq_of_beq q]; exact h
  · exact r z n e
end GB

set_option maxRecDepth 100000
set_option maxHeartbeats 1000000
namespace GB
open PySem PySem.Spec PyProof.Rows L2 SrtO Srt
/-! sorted of texts, of a tuple or a list -/
section
variable {prog : Program} {w : World} {A : Around} {E : Value → Shared → Prop} {s : Shared}
def ltSv (v u : Value) : Bool := decide ((strOf v).cps.toList < (strOf u).cps.toList)
theorem swo_str : Swo ltSv := by
  refine ⟨fun x y h => ?_, fun x y z h1 h2 => ?_⟩
  · exact decide_eq_false (List.lt_asymm (of_decide_eq_true h))
  · have a := of_decide_eq_false h1
    have b := of_decide_eq_false h2
    exact decide_eq_false (fun c => (List.le_trans (List.not_lt.mp a) (List.not_lt.mp b)) c)
theorem str_cmp {vs : List Value} {ss : List Str} (hS : StrsAre vs ss) : Cmp prog w A s oneType' (fun p => p.1 ∈ vs) (lt2 ltSv) := by
  intro p q hm hm'
  obtain ⟨a, t, e⟩ := hS.all _ hm
  obtain ⟨b, u, e'⟩ := hS.all _ hm'
  show wpAny (model prog w) A (keyLt' oneType' p.1 q.1) (fun r s' => s' = s ∧ r = ltSv p.1 q.1) (fun _ _ => False) s
  rw [e, e', keyLt'_oneType]
  exact oneLt_str ⟨rfl, rfl⟩
theorem strs_sortable {a : Addr} {vs : List Value} {ss : List Str} (hS : StrsAre vs ss) (h2 : 2 ≤ vs.length) : SortableO prog w A s a vs ltSv := by
  intro h' _
  refine ⟨oneType', fun Q E hq => ?_, str_cmp hS⟩
  match vs, hS, h2 with
  | v1 :: v2 :: rest, hS, _ =>
    rw [keyKind_strs hS]
    exact wpAny_pure hq
  | [], _, h => exact absurd h (by decide)
  | [v], _, h => exact absurd h (by simp)
theorem collect_sq {l : Addr} {T : String} {o : Obj} {n : Nat} {vs : List Value} {Q : List Value → Shared → Prop} (hT : T = "list" ∨ T = "tuple") (ho : s.heap.get? l = some o) (hc : o.cls = .type T) (hd : o.data = .seq vs.toArray n)
    (h : Q vs { s with heap := (s.heap.push (seqObj "list" #[] 0)).update s.heap.objs.size (Obj.mapSeq (· ++ vs.toArray)) }) (hsz : vs.length ≤ sizeLine) :
    wpAny (model prog w) A (collect (.ref l)) Q E s := by
  unfold collect
  refine wpAny_bind (wpAny_runValue (codeAny_builtin entry_proto_collect' ?_))
  show wpAny _ _ (do again (.builtin "list.__iadd__" ⟨[← newList [], .ref l], []⟩)) _ _ s
  refine wpAny_bind (wpAny_newList (wpAny_pure ⟨Code.quiet_builtin _ (by decide +kernel), codeAny_builtin entry_list_iadd' ?_⟩))
  show wpAny _ _ (Builtin.List.listExtendWith (.ref s.heap.objs.size) (.ref l) (.ref s.heap.objs.size)) _ _ { s with heap := s.heap.push (seqObj "list" #[] 0) }
  unfold Builtin.List.listExtendWith
  have ho' : (s.heap.push (seqObj "list" #[] 0)).get? l = some o := Heap.get?_push_of_some _ ho
  refine wpAny_bind (wpAny_typeOf (T := T) ⟨o, ho', hc⟩ ?_)
  have ht1 : (Value.type "list" == Value.type "list") = true := by rfl
  have ht2 : (Value.type "tuple" == Value.type "tuple") = true := by rfl
  rw [if_pos (by rcases hT with rfl | rfl <;> simp [ht1, ht2])]
  refine wpAny_bind (listItems_at ho' hd ?_)
  refine wpAny_bind (listItems_at (xs := #[]) (n := 0) (Heap.get?_push_size _ rfl) rfl ?_)
  rw [if_neg (by simp)]
  refine wpAny_bind (listUpdate_at (xs := #[]) (n := 0) (Heap.get?_push_size _ rfl) rfl ?_ (Nat.zero_le _) (by show (#[] ++ vs.toArray).size ≤ sizeLine + 1; simp only [Array.size_append, List.size_toArray, List.length_nil]; omega))
  refine wpAny_pure ?_
  show wpAny (model prog w) A (do
      let o ← load s.heap.objs.size
      match o.data with
      | .seq xs _ => pure xs.toList
      | _ => unsupported "internal:collect") Q E { s with heap := (s.heap.push (seqObj "list" #[] 0)).update s.heap.objs.size (Obj.mapSeq (· ++ vs.toArray)) }
  refine wpAny_bind (wpAny_load (get?_update_seq (Heap.get?_push_size _ rfl) _) ?_)
  show wpAny _ _ (pure ((#[] : Array Value) ++ vs.toArray).toList) Q E _
  rw [show ((#[] : Array Value) ++ vs.toArray).toList = vs by simp]
  exact wpAny_pure h
theorem sorted_sq {l : Addr} {T : String} {o : Obj} {n : Nat} {vs : List Value} {ltv : Value → Value → Bool} {Q : Value → Shared → Prop} (O : Swo ltv) (hT : T = "list" ∨ T = "tuple") (ho : s.heap.get? l = some o) (hc : o.cls = .type T) (hd : o.data = .seq vs.toArray n) (hz : vs.length ≤ sizeLine)
    (hS : 2 ≤ vs.length → ∀ (h₁ : Heap) (a : Addr), SortableO prog w A.in1.in1 { s with heap := h₁ } a vs ltv)
    (h : ∀ out : List Value, Srtd ltv out → Stb ltv out vs → Q (.ref (s.heap.objs.size + 1)) { s with heap := sortedAll s.heap vs out.toArray }) :
    wpAny (model prog w) A (call (.builtin "sorted") [.ref l]) Q E s := by
  refine Calls.call_function_entry kind_sorted plain_sorted entry_sorted (args_sorted1 _) ?_
  unfold Builtin.«sorted»
  refine wpAny_bind (m := checkCount "sorted" 1 1 _) (wpAny_pure ?_)
  refine wpAny_bind (collect_sq hT ho hc hd ?_ hz)
  refine wpAny_bind (wpAny_newList ?_ hz)
  have hsz : ((s.heap.push (seqObj "list" #[] 0)).update s.heap.objs.size (Obj.mapSeq (· ++ vs.toArray))).objs.size = s.heap.objs.size + 1 := by
    rw [Heap.size_update, size_push']
  have hoL : (((s.heap.push (seqObj "list" #[] 0)).update s.heap.objs.size (Obj.mapSeq (· ++ vs.toArray))).push (seqObj "list" vs.toArray 0)).get? (s.heap.objs.size + 1) = some (seqObj "list" vs.toArray 0) := by
    rw [← hsz]; exact Heap.get?_push_size _ rfl
  show wpAny _ _ _ _ _ { s with heap := ((s.heap.push (seqObj "list" #[] 0)).update s.heap.objs.size (Obj.mapSeq (· ++ vs.toArray))).push (seqObj "list" vs.toArray 0) }
  rw [hsz]
  refine wpAny_bind (wpAny_holding (wpAny_call_entry slot_list_sort ⟨_, hoL, rfl⟩ entry_list_sort (list_sort_ord O hoL hz (fun h2 => hS h2 _ _) fun out hs hb => ⟨_, rfl, ?_⟩) (args_list_sort _)))
  exact wpAny_pure ⟨_, rfl, h out hs hb⟩
end
def strLe (x y : Str) : Prop := ¬ (y.cps.toList < x.cps.toList)
instance (x y : Str) : Decidable (strLe x y) := by unfold strLe; infer_instance
theorem strLe_anti {x y : Str} (h1 : strLe x y) (h2 : strLe y x) : x = y := by
  have e : x.cps.toList = y.cps.toList := List.le_antisymm (List.not_lt.mp h1) (List.not_lt.mp h2)
  cases x; cases y; simp at e; simp [e]
theorem sorted_one {l m n : List Str} (h1 : l.Perm n) (h2 : m.Perm n) (p1 : l.Pairwise strLe) (p2 : m.Pairwise strLe) : l = m :=
  List.Perm.eq_of_pairwise (fun _ _ _ _ a b => strLe_anti a b) p1 p2 (h1.trans h2.symm)
def fSortS : FN := fun xs Q => ∃ ss tt : List Str, (xs = [.tuple (ss.map .str)] ∨ xs = [.list (ss.map .str)]) ∧ tt.Perm ss ∧ tt.Pairwise strLe ∧ Q (.own (tt.map .str))
theorem br_strs {K : PySem.W.Frag} {H : Hp} : ∀ {ns : List Str} {vs : List V}, BrA K H vs (ns.map PyData.str) → vs = ns.map V.str
  | [], _, h => by cases h; rfl
  | n :: ns, _, h => by
    cases h with
    | cons h1 h2 => cases h1; rw [br_strs h2]; rfl
theorem strs_br {K : PySem.W.Frag} {H : Hp} : ∀ ns : List Str, BrA K H (ns.map V.str) (ns.map PyData.str)
  | [] => .nil
  | _ :: ns => .cons (.str _) (strs_br ns)
theorem vals_strsAre : ∀ {ss : List Str} {vs : List Value}, Vals (ss.map V.str) vs → StrsAre vs ss
  | [], _, h => by cases h; exact .nil
  | _ :: _, _, h => by
    cases h with
    | cons r h2 => obtain ⟨t, rfl⟩ := r; exact .cons _ t (vals_strsAre h2)
theorem strsAre_vals : ∀ {ss : List Str} {vs : List Value}, StrsAre vs ss → Vals (ss.map V.str) vs
  | _, _, .nil => .nil
  | _, _, .cons x t h => .cons ⟨t, rfl⟩ (strsAre_vals h)
theorem c_sortedS {X : Cx} {L : Lay} (hK : L.K = X.K) : CallR X (.builtin "sorted") (rN L fSortS) := by
  intro pins s σ H vs us Q' I r q
  obtain ⟨xs, Q, b, ⟨ss, tt, hx, hp, ho, q⟩, fin⟩ := q
  have go : ∀ (a : Addr) (T : String) (its : List Value) (o : Obj) (n : Nat), T = "list" ∨ T = "tuple" → s.heap.get? a = some o → o.cls = .type T → o.data = .seq its.toArray n → Vals (ss.map V.str) its → (ss.map V.str).length ≤ sizeLine →
      wpAny (model X.prog X.w) X.A (call (.builtin "sorted") [.ref a]) (EP X pins σ Q') X.xe s := by
    intro a T its o n hT h1 h2 h3 rv hz
    have hS := vals_strsAre rv
    refine sorted_sq swo_str hT h1 h2 h3 (by rw [← rv.length]; exact hz) (fun h2 h₁ a' => strs_sortable hS h2) fun out k1 k2 => ?_
    have hO : StrsAre out (out.map strOf) := strsAre_map out fun v hv => hS.all v (k2.perm.mem_iff.mp hv)
    have hP : (out.map strOf).Perm ss := by
      have q := k2.perm.map strOf
      rw [hS.strs] at q; exact q
    have hW : (out.map strOf).Pairwise strLe := List.pairwise_map.mpr (k1.imp fun {x y} h => of_decide_eq_false h)
    have e := sorted_one hP hp hW ho
    rw [e] at hO
    obtain ⟨ep, he'⟩ := PyProof.Rows.sortedAll_at s.heap its out.toArray
    have hlen : (tt.map V.str).length ≤ sizeLine := by
      rw [List.length_map, hp.length_eq]
      rw [List.length_map] at hz
      exact hz
    refine ⟨.ref _, upd H (s.heap.objs.size + 1) (.lst (tt.map V.str)), I.laid (t' := s.toks) (fun _ _ => PyProof.Rows.sortedAll_old) (Nat.le_succ _) ⟨hlen, out, ep, strsAre_vals hO, he'⟩, rfl, ?_⟩
    have hl := I.hok.fresh (Nat.le_succ s.heap.objs.size)
    exact fin _ _ (.own _) (same_new hl) ⟨_, _, rfl, hl, upd_same, strs_br tt⟩ q
  rcases hx with rfl | rfl
  · obtain ⟨v, rfl, b1⟩ := brA1 hK b
    have b1 : Br X.K H v (.tuple (ss.map .str)) := hK ▸ b1
    cases b1 with
    | tup h1 h3 =>
      obtain rfl := br_strs h3
      obtain ⟨its, rv, ⟨o, e1, e2, n, e3⟩, hz⟩ := I.tuple h1
      rw [Vals.ref1 r]
      exact go _ _ its o n (.inr rfl) e1 e2 e3 rv hz
  · obtain ⟨v, rfl, b1⟩ := brA1 hK b
    obtain ⟨a, ws, rfl, h1, h3⟩ := list_sq hK b1
    obtain rfl := br_strs h3
    obtain ⟨its, rv, ⟨o, n, e1, e2, _, e3⟩, hz⟩ := I.list h1
    rw [Vals.ref1 r]
    exact go _ _ its o n (.inl rfl) e1 e2 e3 rv hz
end GB

set_option maxRecDepth 100000
namespace GB
open PySem PySem.Spec PyProof.Rows L2
/-! the truth of a tuple -/
def dTu (t : TEd) : TTd := fun ρ Q => t ρ fun s ρ1 => ∃ xs, s = .d (.tuple xs) ∧ Q (!xs.isEmpty) ρ1
theorem dt_tu {X : Cx} {L : Lay} {e : Expr} {t : TEd} (hK : L.K = X.K) (h : PE X e (tE L t)) (he : ∀ whole, isTrue e X.env whole = (do let v ← whole; standAt e.pos; holding [v] (truthy v)) := by intro _; rfl) : PT X e (tT L (dTu t)) :=
  (pt_truth h he).less fun σ H Q' h => by
    obtain ⟨ρ, Q, r0, q, fin⟩ := h
    refine (show tE L t σ H _ from ⟨ρ, _, r0, q, fun v H1 s ρ1 k1 r1 hv q1 => ?_⟩)
    obtain ⟨xs, rfl, q2⟩ := q1
    have hv : Br L.K H1 v (.tuple xs) := hv
    cases hv with
    | @tup a vs _ h1 h3 =>
      have e : vs.isEmpty = xs.isEmpty := by
        have := h3.len
        cases vs <;> cases xs <;> first | rfl | simp at this
      refine ⟨!vs.isEmpty, .inr (.inl ⟨vs, hK ▸ h1, rfl⟩), ?_⟩
      rw [e]
      exact fin _ H1 ρ1 k1 r1 q2
end GB

set_option maxRecDepth 100000
namespace GB
open PySem PySem.Spec PyProof.Rows L2
/-! any, of a list of bools -/
def fAny : FN := fun xs Q => ∃ bs : List Bool, xs = [.list (bs.map .bool)] ∧ Q (.d (.bool (bs.any id)))
theorem br_bls {K : PySem.W.Frag} {H : Hp} : ∀ {bs : List Bool} {vs : List V}, BrA K H vs (bs.map PyData.bool) → vs = bs.map V.bl
  | [], _, h => by cases h; rfl
  | n :: ns, _, h => by
    cases h with
    | cons h1 h2 => cases h1; rw [br_bls h2]; rfl
theorem c_any {X : Cx} {L : Lay} (hK : L.K = X.K) (gd : Good X) : CallR X (.builtin "any") (rN L fAny) := by
  intro pins s σ H vs us Q' I r q
  obtain ⟨xs, Q, b, ⟨bs, rfl, q⟩, fin⟩ := q
  obtain ⟨v, rfl, b1⟩ := brA1 hK b
  obtain ⟨a, ws, rfl, h1, h3⟩ := list_sq hK b1
  obtain rfl := br_bls h3
  exact cr_any gd.calm pins s σ H _ us Q' I r ⟨a, bs, rfl, h1, fin _ H (.d (.bool (bs.any id))) (Same.refl H) (.bl _) q⟩
end GB

set_option maxRecDepth 100000
namespace GB
open PySem PySem.Spec PyProof.Rows L2
/-! the truth of a list -/
def dLu (t : TEd) : TTd := fun ρ Q => t ρ fun s ρ1 => ∃ xs, s = .d (.list xs) ∧ Q (!xs.isEmpty) ρ1
theorem dt_lu {X : Cx} {L : Lay} {e : Expr} {t : TEd} (hK : L.K = X.K) (h : PE X e (tE L t)) (he : ∀ whole, isTrue e X.env whole = (do let v ← whole; standAt e.pos; holding [v] (truthy v)) := by intro _; rfl) : PT X e (tT L (dLu t)) :=
  (pt_truth h he).less fun σ H Q' h => by
    obtain ⟨ρ, Q, r0, q, fin⟩ := h
    refine (show tE L t σ H _ from ⟨ρ, _, r0, q, fun v H1 s ρ1 k1 r1 hv q1 => ?_⟩)
    obtain ⟨xs, rfl, q2⟩ := q1
    have hv : Br L.K H1 v (.list xs) := hv
    cases hv with
    | @lst a o vs _ h1 h2 h3 =>
      have e : vs.isEmpty = xs.isEmpty := by
        have := h3.len
        cases vs <;> cases xs <;> first | rfl | simp at this
      refine ⟨!vs.isEmpty, .inl ⟨vs, .inl (.inr ⟨o, h1⟩), rfl⟩, ?_⟩
      rw [e]
      exact fin _ H1 ρ1 k1 r1 q2
end GB

set_option maxRecDepth 100000
namespace GB
open PySem PySem.Spec PyProof.Rows L2
/-! sum of ints -/
def fSum : FN := fun xs Q => ∃ ns : List Int, xs = [.list (ns.map .int)] ∧ Q (.d (.int ns.sum))
theorem c_sum {X : Cx} {L : Lay} (hK : L.K = X.K) (gd : Good X) : CallR X (.builtin "sum") (rN L fSum) := by
  intro pins s σ H vs us Q' I r q
  obtain ⟨xs, Q, b, ⟨ns, rfl, q⟩, fin⟩ := q
  obtain ⟨v, rfl, b1⟩ := brA1 hK b
  obtain ⟨a, ws, rfl, h1, h3⟩ := list_sq hK b1
  obtain rfl := br_ints h3
  exact cr_sum gd.calm pins s σ H _ us Q' I r ⟨a, ns, rfl, h1, fin _ H (.d (.int ns.sum)) (Same.refl H) (.int _) q⟩
/-! the draws' store as a list: a list of ints (closed), a list of ints (for good), two ints -/
def vsS (l0 l1 : Addr) (s t : Int) : List V := [.ref l0, .ref l1, .int s, .int t]
def hoS (a l0 l1 : Addr) : HO := .ext fun h => ∃ s t : Int, ∃ (its : List Value) (n : Nat), Vals (vsS l0 l1 s t) its ∧ h.get? a = some { cls := .type "list", data := .seq its.toArray n }
theorem hoS_ok {P : Program} {w : World} {H : Hp} {h : Heap} {a l0 l1 : Addr} {s t : Int} (q : ObjOk P w H h a (.lst (vsS l0 l1 s t))) : ObjOk P w H h a (hoS a l0 l1) := by
  obtain ⟨z, its, n, r, e⟩ := q
  exact ⟨⟨s, t, its, n, r, e⟩, ⟨_, e⟩, fun h1 h2 ⟨s', t', its', n', r', e'⟩ k => ⟨s', t', its', n', r', k _ e'⟩⟩
def StoS (a : Addr) (H : Hp) : Prop := ∃ l0 l1 o is, H a = some (hoS a l0 l1) ∧ H l0 = some (hoL l0) ∧ l0 ≠ a ∧ H l1 = some (.frz o (.lst (is.map V.int))) ∧ is ≠ []
theorem stoS_keep : ∀ a H H', Keep H H' → StoS a H → StoS a H' := fun a H H' k ⟨l0, l1, o, is, h1, h2, h3, h4, h5⟩ => ⟨l0, l1, o, is, k _ _ h1 trivial, k _ _ h2 trivial, h3, k _ _ h4 trivial, h5⟩
def opnS (H : Hp) (a l0 l1 : Addr) (s t : Int) (js : List Int) : Hp := upd (upd H a (.lst (vsS l0 l1 s t))) l0 (.lst (js.map V.int))
def clsS (H : Hp) (a l0 l1 : Addr) : Hp := upd (upd H a (hoS a l0 l1)) l0 (hoL l0)
structure OpnS (H : Hp) (a l0 l1 : Addr) (s t : Int) (js : List Int) : Prop where
  ha : H a = some (.lst (vsS l0 l1 s t))
  hl : H l0 = some (.lst (js.map V.int))
  ne : l0 ≠ a
theorem clsS_opn {H H1 : Hp} {a l0 l1 : Addr} (ha : H a = some (hoS a l0 l1)) (hl : H l0 = some (hoL l0)) (h : ∀ b, b ≠ a → b ≠ l0 → H1 b = H b) : clsS H1 a l0 l1 = H := by
  funext b
  unfold clsS
  by_cases h1 : b = l0
  · subst h1; rw [upd_same, hl]
  · rw [upd_ne h1]
    by_cases h2 : b = a
    · subst h2; rw [upd_same, ha]
    · rw [upd_ne h2]; exact h b h2 h1
theorem opnS_off {H : Hp} {a l0 l1 : Addr} {s t : Int} {js : List Int} {b : Addr} (h1 : b ≠ a) (h2 : b ≠ l0) : opnS H a l0 l1 s t js b = H b := by unfold opnS; rw [upd_ne h2, upd_ne h1]
section
variable {X : Cx} {e : Expr} {st : Stmt} {sts : List Stmt} {t : TE} {tt : TT} {ts : TS}
theorem closeS_of {pins : List (Addr × Obj)} {σ : L2.St} {H : Hp} {s : Shared} (I : Inv X pins σ H s) {a l0 l1 : Addr} {x y : Int} {js : List Int} (o : OpnS H a l0 l1 x y js) : Inv X pins σ (clsS H a l0 l1) s := by
  have h1 := o.ha
  have h2 := o.hl
  have ne := o.ne
  have I1 := swap_inv I (v := hoS a l0 l1) h1 trivial (hoS_ok (s := x) (t := y) ((I.hok a _ h1).stay (fun _ _ _ z => z) (fun c q => by rw [upd_ne (fun z => by rw [z, h1] at q; cases q)]; exact q) fun c xs q => by rw [upd_ne (fun z => by rw [z, h1] at q; cases q)]; exact q))
  have e2 : (upd H a (hoS a l0 l1)) l0 = some (.lst (js.map V.int)) := by rw [upd_ne ne]; exact h2
  exact swap_inv I1 (v := hoL l0) e2 trivial (hoL_ok (is := js) ((I1.hok l0 _ e2).stay (fun _ _ _ z => z) (fun c q => by rw [upd_ne (fun z => by rw [z, e2] at q; cases q)]; exact q) fun c xs q => by rw [upd_ne (fun z => by rw [z, e2] at q; cases q)]; exact q))
theorem openS_of {pins : List (Addr × Obj)} {σ : L2.St} {H : Hp} {s : Shared} (I : Inv X pins σ H s) {a l0 l1 : Addr} (ha : H a = some (hoS a l0 l1)) (hl : H l0 = some (hoL l0)) (ne : l0 ≠ a) :
    ∃ x y js, js.length ≤ sizeLine ∧ Inv X pins σ (opnS H a l0 l1 x y js) s := by
  obtain ⟨⟨x, y, its, n, z1, z2⟩, _⟩ := I.hok a _ ha
  have I1 := swap_inv I (v := .lst (vsS l0 l1 x y)) ha trivial ⟨(show (4 : Nat) ≤ sizeLine by decide), its, n, z1, z2⟩
  have e2 : (upd H a (.lst (vsS l0 l1 x y))) l0 = some (hoL l0) := by rw [upd_ne ne]; exact hl
  obtain ⟨⟨js, y1, its2, n2, y2, y3⟩, _⟩ := I1.hok l0 _ e2
  have I2 := swap_inv I1 (v := .lst (js.map V.int)) e2 trivial ⟨by rw [List.length_map]; exact y1, its2, n2, y2, y3⟩
  exact ⟨x, y, js, y1, I2⟩
def OpensS (H : Hp) (go : Hp → Addr → Addr → Addr → Int → Int → List Int → Prop) : Prop :=
  ∃ a l0 l1, H a = some (hoS a l0 l1) ∧ H l0 = some (hoL l0) ∧ l0 ≠ a ∧ ∀ x y js, js.length ≤ sizeLine → OpnS (opnS H a l0 l1 x y js) a l0 l1 x y js → go (opnS H a l0 l1 x y js) a l0 l1 x y js
theorem opensS_inv {pins : List (Addr × Obj)} {σ : L2.St} {H : Hp} {s : Shared} (I : Inv X pins σ H s) {go : Hp → Addr → Addr → Addr → Int → Int → List Int → Prop} (h : OpensS H go) :
    ∃ a l0 l1 x y js, Inv X pins σ (opnS H a l0 l1 x y js) s ∧ go (opnS H a l0 l1 x y js) a l0 l1 x y js := by
  obtain ⟨a, l0, l1, ha, hl, ne, q⟩ := h
  obtain ⟨x, y, js, z, I2⟩ := openS_of I ha hl ne
  exact ⟨a, l0, l1, x, y, js, I2, q x y js z ⟨by unfold opnS; rw [upd_ne (Ne.symm ne), upd_same], by unfold opnS; exact upd_same, ne⟩⟩
theorem pe_openS (h : PE X e t) : PE X e (fun σ H Q => OpensS H fun H1 _ _ _ _ _ _ => t σ H1 Q) := ⟨fun pins s σ H Q I q => by
  obtain ⟨a, l0, l1, x, y, js, I2, q⟩ := opensS_inv I q
  exact h.run pins s σ _ Q I2 q⟩
theorem pe_openedS (h : PE X e t) : PE X e (fun σ H Q => t σ H fun v H1 => OpensS H1 fun H2 _ _ _ _ _ _ => Q v H2) := ⟨fun pins s σ H Q I q => by
  refine thn (h.run pins s σ H _ I q) fun u s1 z => ?_
  obtain ⟨v, H1, I1, rv, q1⟩ := z
  obtain ⟨a, l0, l1, x, y, js, I2, q2⟩ := opensS_inv I1 q1
  exact ⟨v, _, I2, rv, q2⟩⟩
theorem pe_closedS (h : PE X e t) : PE X e (fun σ H Q => t σ H fun v H1 => ∃ a l0 l1 x y js, OpnS H1 a l0 l1 x y js ∧ Q v (clsS H1 a l0 l1)) := ⟨fun pins s σ H Q I q => by
  refine thn (h.run pins s σ H _ I q) fun u s1 z => ?_
  obtain ⟨v, H1, I1, rv, a, l0, l1, x, y, js, o, q2⟩ := z
  exact ⟨v, _, closeS_of I1 o, rv, q2⟩⟩
theorem pss_closingS (h : PSs X sts ts) : PSs X sts (fun D σ H => ∃ a l0 l1 x y js, OpnS H a l0 l1 x y js ∧ ts D σ (clsS H a l0 l1)) := ⟨fun pins s σ H D I q => by
  obtain ⟨a, l0, l1, x, y, js, o, q⟩ := q
  exact h.run pins s σ _ D (closeS_of I o) q⟩
theorem ps_openS (h : PS X st ts) : PS X st (fun D σ H => OpensS H fun H1 _ _ _ _ _ _ => ts D σ H1) := ⟨fun pins s σ H D I q => by
  obtain ⟨a, l0, l1, x, y, js, I2, q⟩ := opensS_inv I q
  exact h.run pins s σ _ D I2 q⟩
theorem ps_closedS (h : PS X st ts) : PS X st (fun D σ H => ts { D with nx := fun σ1 H1 => ∃ a l0 l1 x y js, OpnS H1 a l0 l1 x y js ∧ D.nx σ1 (clsS H1 a l0 l1) } σ H) := ⟨fun pins s σ H D I q => by
  refine thn (h.run pins s σ H _ I q) fun f s1 z => ?_
  match f, z with
  | .next, ⟨σ1, H1, I1, a, l0, l1, x, y, js, o, q2⟩ => exact ⟨σ1, _, closeS_of I1 o, q2⟩
  | .brk, z => exact z
  | .cont, z => exact z
  | .ret u, z => exact z⟩
end
section
variable {X : Cx} {L : Lay} {o o1 o2 o3 w1 w2 m1 m2 : Expr} {pos p1 p2 p3 p4 p5 p6 p7 p8 p9 p10 p11 p12 p13 p14 p15 p16 p17 p18 : Pos} {i j j1 j2 j3 it iw im : Nat} {t : TEd} {tb : TSd} {rest : List Stmt} {x : Str}
theorem at_S {l0 l1 : Addr} {a b : Int} : atI (vsS l0 l1 a b) 0 = some (.ref l0) ∧ atI (vsS l0 l1 a b) 1 = some (.ref l1) ∧ atI (vsS l0 l1 a b) 2 = some (.int a) ∧ atI (vsS l0 l1 a b) 3 = some (.int b) :=
  ⟨atI_nat (j := 0) rfl, atI_nat (j := 1) rfl, atI_nat (j := 2) rfl, atI_nat (j := 3) rfl⟩
/-- a number of the store: its places 2 and 3 -/
theorem de_sint {k : Int} (hJ : ∀ a H, L.J.ok .jar a H → StoS a H) (hk : k = 2 ∨ k = 3) (ho : PE X o (tVar i)) : PE X (.Subscript o (.Constant (.int k) j p1) pos) (tE L (dJInt i)) :=
  (pe_openS (pe_closedS (pe_ix ix_list ho pe_int fun _ _ => rfl))).less fun σ H Q' q => by
    obtain ⟨ρ, Q, r, ⟨ej, q⟩, fin⟩ := q
    obtain ⟨o, e2, a, rfl, ja⟩ := r.get ej
    obtain ⟨l0, l1, o', is, ha, hl, ne, hl1, _⟩ := hJ a H ja
    refine ⟨a, l0, l1, ha, hl, ne, fun x y js z op => ?_⟩
    have fin' : ∀ n : Int, Q' (.int n) (clsS (opnS H a l0 l1 x y js) a l0 l1) := fun n => by
      rw [clsS_opn ha hl fun b h1 h2 => opnS_off h1 h2]
      exact fin _ _ (.d (.int n)) ρ Go.rf r (.int n) (q n)
    refine ⟨.ref a, e2, ?_⟩
    rcases hk with rfl | rfl
    · exact ⟨a, _, _, _, rfl, rfl, .inl (.inl op.ha), at_S.2.2.1, a, l0, l1, x, y, js, op, fin' _⟩
    · exact ⟨a, _, _, _, rfl, rfl, .inl (.inl op.ha), at_S.2.2.2, a, l0, l1, x, y, js, op, fin' _⟩
/-- a number put into the store, at its place 3 -/
theorem ds_sput {v : Expr} (hJ : ∀ a H, L.J.ok .jar a H → StoS a H) (ho : PE X o (tVar i)) (hv : PE X v (tE L t))
    (hw : swappedStores [.Subscript o (.Constant (.int 3) j p1) p2] v X.env = pure none := by rfl) (hs : swapsWithSole [.Subscript o (.Constant (.int 3) j p1) p2] v pos.line X.env = pure false := by rfl)
    (h1 : (assignEach [.Subscript o (.Constant (.int 3) j p1) p2] X.env).map (·.2) = [assign (.Subscript o (.Constant (.int 3) j p1) p2) X.env] := by rfl)
    (ha : ∀ v, assign (.Subscript o (.Constant (.int 3) j p1) p2) X.env v = (do
      let ov ← holding [v] (eval o X.env)
      let iv ← holding [v, ov] (eval (.Constant (.int 3) j p1) X.env)
      standAt p2
      holding [v, ov, iv] (setItem ov iv v)
      release [v, ov, iv] []) := by intro _; rfl) :
    PS X (.Assign [.Subscript o (.Constant (.int 3) j p1) p2] v pos) (tS L (dJPut i t)) :=
  (ps_closedS (ps_asg (pe_openedS hv) (pg_sub ho pe_int set_list ha) hs hw h1)).less fun D σ H q => by
    obtain ⟨ρ, De, r, q, n1, _⟩ := q
    refine ⟨ρ, _, r, q, fun v H1 s ρ1 go r1 hv q1 => ?_⟩
    obtain ⟨n, rfl, ej, q2⟩ := q1
    have hv : Br L.K H1 v (.int n) := hv
    cases hv
    obtain ⟨o, e2, a, rfl, ja⟩ := r1.get ej
    obtain ⟨l0, l1, o', is, ha, hl, ne, hl1, _⟩ := hJ a H1 ja
    refine ⟨a, l0, l1, ha, hl, ne, fun x y js z op => ⟨.ref a, e2, a, _, 3, 3, rfl, rfl, op.ha, rfl, a, l0, l1, x, n, js, ⟨upd_same, by rw [upd_ne op.ne]; exact op.hl, op.ne⟩, ?_⟩⟩
    rw [clsS_opn ha hl fun b h1 h2 => by rw [upd_ne h1]; exact opnS_off h1 h2]
    exact n1 _ _ _ (go.keep r) r1 q2
/-- a number of the list that stays -/
def dJMix (i it : Nat) : TEd := fun ρ Q => ρ[i]? = some (.ob .jar) ∧ (∃ m : Int, ρ[it]? = some (.d (.int m))) ∧ ∀ n : Int, Q (.d (.int n)) ρ
theorem de_smix (hJ : ∀ a H, L.J.ok .jar a H → StoS a H) (ho1 : PE X o1 (tVar i)) (ho2 : PE X o2 (tVar i)) (hw1 : PE X w1 (tVar it))
    (gi : Gl X "int") (mi : X.mg "int" = none) (gl : Gl X "len") (ml : X.mg "len" = none)
    (s1 : starEach [w1] X.env = (false, eval w1 X.env) :: starEach [] X.env := by rfl) (s2 : starEach [.Subscript o2 (.Constant (.int 1) j2 p3) p4] X.env = (false, eval (.Subscript o2 (.Constant (.int 1) j2 p3) p4) X.env) :: starEach [] X.env := by rfl)
    (b1 : (backTo p6 (starEach [] X.env)).any (·.1) = false := by rfl) (b2 : (backTo p8 (starEach [] X.env)).any (·.1) = false := by rfl)
    (hp : PlainIx (.BinOp (.Call (.Name "int" p5) [w1] [] p6) .Mod (.Call (.Name "len" p7) [.Subscript o2 (.Constant (.int 1) j2 p3) p4] [] p8) p9) := by exact fun _ _ => rfl) :
    PE X (.Subscript (.Subscript o1 (.Constant (.int 1) j1 p1) p2) (.BinOp (.Call (.Name "int" p5) [w1] [] p6) .Mod (.Call (.Name "len" p7) [.Subscript o2 (.Constant (.int 1) j2 p3) p4] [] p8) p9) pos) (tE L (dJMix i it)) :=
  (pe_openS (pe_closedS (pe_ix ix_list (pe_ix ix_list ho1 pe_int fun _ _ => rfl) (pe_op op_mod (pe_callTy call_int1 gi mi (by decide +kernel) (pa_cons hw1 pa_nil s1) (by decide) (by decide) s1 b1) (pe_callB call_len_seq gl ml (by decide +kernel) (pa_cons (pe_ix ix_list ho2 pe_int fun _ _ => rfl) pa_nil s2) (by decide) (by decide) s2 b2)) hp))).less fun σ H Q' q => by
    obtain ⟨ρ, Q, r, ⟨ej, ⟨m, em⟩, q⟩, fin⟩ := q
    obtain ⟨o, e2, a, rfl, ja⟩ := r.get ej
    obtain ⟨vm, em2, bm⟩ := r.getD em
    cases bm
    obtain ⟨l0, l1, o', is, ha, hl, ne, hl1, hne⟩ := hJ a H ja
    refine ⟨a, l0, l1, ha, hl, ne, fun x y js z op => ?_⟩
    have n1a : l1 ≠ a := fun z => by rw [z, ha] at hl1; cases hl1
    have n10 : l1 ≠ l0 := fun z => by rw [z, hl] at hl1; cases hl1
    have q1 : SqL X.K (opnS H a l0 l1 x y js) l1 (is.map V.int) := .inl (.inr ⟨o', by rw [opnS_off n1a n10]; exact hl1⟩)
    have hpos : 0 < is.length := List.length_pos_iff.mpr hne
    have hp2 : (0 : Int) < ((is.map V.int).length : Nat) := by rw [List.length_map]; omega
    have c0 := Int.emod_nonneg m (show (((is.map V.int).length : Nat) : Int) ≠ 0 by omega)
    have c1 := Int.emod_lt_of_pos m hp2
    have c2 : (m % (((is.map V.int).length : Nat) : Int)).toNat < (is.map V.int).length := by omega
    have c3 : (m % (((is.map V.int).length : Nat) : Int)).toNat < is.length := by rw [List.length_map] at c2; rw [List.length_map]; exact c2
    have g1 : atI (is.map V.int) (m % (((is.map V.int).length : Nat) : Int)) = some (.int is[(m % (((is.map V.int).length : Nat) : Int)).toNat]) := by
      have h := atI_nat (xs := is.map V.int) (j := (m % (((is.map V.int).length : Nat) : Int)).toNat) (v := .int is[(m % (((is.map V.int).length : Nat) : Int)).toNat]) (by rw [List.getElem?_map, List.getElem?_eq_getElem c3]; rfl)
      rw [show (((m % (((is.map V.int).length : Nat) : Int)).toNat : Nat) : Int) = m % (((is.map V.int).length : Nat) : Int) by omega] at h
      exact h
    refine ⟨.ref a, e2, a, _, _, _, rfl, rfl, .inl (.inl op.ha), at_S.2.1, _, em2, .inl ⟨m, rfl, .ref a, e2, a, _, _, _, rfl, rfl, .inl (.inl op.ha), at_S.2.1, l1, _, rfl, .inl q1, _, _, rfl, rfl, hp2, l1, _, _, _, rfl, rfl, q1, g1, a, l0, l1, x, y, js, op, ?_⟩⟩
    rw [clsS_opn ha hl fun b h1 h2 => opnS_off h1 h2]
    exact fin _ _ (.d (.int _)) ρ Go.rf r (.int _) (q _)
/-- what comes behind the digit -/
theorem spop_end {H : Hp} {σ : L2.St} {ρ : En} (r : Rel L H σ ρ) {a l0 l1 p : Addr} {x y : Int} {js ks : List Int} {iw : Nat} {n : Int} {H3 : Hp} {tb : TSd} {D : Ends} {De : EndsD} (ha : H a = some (hoS a l0 l1)) (hl : H l0 = some (hoL l0)) (op : OpnS (opnS H a l0 l1 x y js) a l0 l1 x y js) (hp : opnS H a l0 l1 x y js p = none)
    (h3 : H3 = upd (upd (opnS H a l0 l1 x y js) p (.lst [])) l0 (.lst (ks.map V.int))) (qn : tb { De with nx := fun _ => False } (ρ.set iw (.d (.int n))))
    (n2 : ∀ v H' s, Keep H H' → Same L.H0 H' → RR L H' v s → De.rt s → D.rt v H') (n3 : ∀ σ' H' ρ', Keep H H' → Rel L H' σ' ρ' → De.bk ρ' → D.bk σ' H') (n4 : ∀ σ' H' ρ', Keep H H' → Rel L H' σ' ρ' → De.ct ρ' → D.ct σ' H') (nx : L2.St → Hp → Prop) :
    ∃ a l0 l1 x y js, OpnS H3 a l0 l1 x y js ∧ tS L tb { D with nx := nx } (σ.set iw (some (.int n))) (clsS H3 a l0 l1) := by
  have pa : p ≠ a := fun z => by rw [z, op.ha] at hp; cases hp
  have pl : p ≠ l0 := fun z => by rw [z, op.hl] at hp; cases hp
  have hp0 : H p = none := (opnS_off pa pl).symm.trans hp
  refine ⟨a, l0, l1, x, y, ks, ⟨?_, ?_, op.ne⟩, ?_⟩
  · rw [h3, upd_ne (Ne.symm op.ne), upd_ne (Ne.symm pa)]; exact op.ha
  · rw [h3, upd_same]
  · have ec : clsS H3 a l0 l1 = upd H p (.lst []) := clsS_opn (H := upd H p (.lst [])) (by rw [upd_ne (Ne.symm pa)]; exact ha) (by rw [upd_ne (Ne.symm pl)]; exact hl) fun b h1 h2 => by
      rw [h3, upd_ne h2]
      by_cases hb : b = p
      · subst hb; rw [upd_same, upd_same]
      · rw [upd_ne hb, upd_ne hb]; exact opnS_off h1 h2
    have sm : Same H (upd H p (.lst [])) := same_new hp0
    have kp : Keep H (upd H p (.lst [])) := keep_of_same sm
    rw [ec]
    exact ⟨_, _, (r.go sm).setF (s := .d (.int n)) (.int n), qn, fun _ _ _ _ _ n => n.elim, fun v H' s k => n2 v H' s (kp.tr k), fun σ' H' ρ' k => n3 σ' H' ρ' (kp.tr k), fun σ' H' ρ' k => n4 σ' H' ρ' (kp.tr k)⟩
/-- while there is a great number, a digit of the last one -/
theorem ds_spop (gd : Good X) (hJ : ∀ a H, L.J.ok .jar a H → StoS a H) (hx : X.N[iw]? = some x) (hxl : X.env.scope.names.lookup x = some .local)
    (ho1 : PE X o1 (tVar i)) (ho2 : PE X o2 (tVar i)) (ho3 : PE X o3 (tVar i)) (hw1 : PE X w1 (tVar iw)) (hm1 : PE X m1 (tVar im)) (hw2 : PE X w2 (tVar iw)) (hm2 : PE X m2 (tVar im)) (hr : PSs X rest (tS L tb))
    (hb1 : attributeBase (.Subscript o2 (.Constant (.int 0) j2 p6) p7) "pop" X.env (eval (.Subscript o2 (.Constant (.int 0) j2 p6) p7) X.env) = eval (.Subscript o2 (.Constant (.int 0) j2 p6) p7) X.env := by rfl) (li1 : (p8.endLine == p9.line) = true := by rfl)
    (hb2 : attributeBase (.Subscript o3 (.Constant (.int 0) j3 p12) p13) "append" X.env (eval (.Subscript o3 (.Constant (.int 0) j3 p12) p13) X.env) = eval (.Subscript o3 (.Constant (.int 0) j3 p12) p13) X.env := by rfl)
    (fw2 : ((backTo p16 (starEach [.BinOp w2 .FloorDiv m2 p15] X.env)).all (fun x => !x.1) && (backToKw p16 (keywordEach [] X.env)).all (fun x => x.1.isSome) && decide (([.BinOp w2 .FloorDiv m2 p15] : List Expr).length + ([] : List Keyword).length + (if ([] : List Keyword).isEmpty then 0 else 1) < 30)) = true := by rfl)
    (li2 : (p14.endLine == p16.line) = true := by rfl) (st2 : starEach [.BinOp w2 .FloorDiv m2 p15] X.env = (false, eval (.BinOp w2 .FloorDiv m2 p15) X.env) :: starEach [] X.env := by rfl) (pl2 : (backTo p16 (starEach [] X.env)).any (·.1) = false := by rfl)
    (sw1 : swapsWith (.Call (.Attribute (.Subscript o2 (.Constant (.int 0) j2 p6) p7) "pop" p8) [] [] p9) (some (.Name x p5)) p10.line X.env = pure false := by rfl)
    (sw2 : swapsWith (.Call (.Attribute (.Subscript o3 (.Constant (.int 0) j3 p12) p13) "append" p14) [.BinOp w2 .FloorDiv m2 p15] [] p16) none p17.line X.env = pure false := by rfl) :
    PS X (.If (.Compare (.Subscript o1 (.Constant (.int 0) j1 p1) p2) [.NotEq] [.List [] p3] p4)
      (.Assign [.Name x p5] (.Call (.Attribute (.Subscript o2 (.Constant (.int 0) j2 p6) p7) "pop" p8) [] [] p9) p10 ::
        .If (.Compare w1 [.GtE] [m1] p11) [.Expr (.Call (.Attribute (.Subscript o3 (.Constant (.int 0) j3 p12) p13) "append" p14) [.BinOp w2 .FloorDiv m2 p15] [] p16) p17] [] p18 :: rest) [] pos)
      (tS L (dJPop i iw im tb)) :=
  (ps_openS (ps_closedS (ps_if (pt_cmpR (op_neD (by have := gd.un; omega)) (pe_ix ix_list ho1 pe_int fun _ _ => rfl) (pe_lst pa_nil) (nomark _))
    (pss_cons (ps_set (i := iw) gd.nd hx (.inl hxl) (pe_bm0 PySem.F.plainAttrs_list PySem.F.slot_list_pop PySem.F.type_list_pop mt_pop (pe_ix ix_list ho2 pe_int fun _ _ => rfl) hb1 li1) sw1 (.inr hxl))
      (pss_cons (ps_if (pt_cmpR op_ge hw1 hm1 (nomark _)) (pss_one (ps_expr (pe_bm PySem.F.plainAttrs_list PySem.F.slot_list_append PySem.F.type_list_append mt_append (pe_ix ix_list ho3 pe_int fun _ _ => rfl) (pa_cons (pe_op op_fdiv hw2 hm2) pa_nil st2) hb2 fw2 li2 st2 pl2) sw2)) pss_nil) (pss_closingS hr))) pss_nil))).less fun D σ H q => by
    obtain ⟨ρ, De, r, ⟨ej, ⟨m, em, m0, m1⟩, hlen, hi, hm, qn, qx⟩, n1, n2, n3, n4⟩ := q
    obtain ⟨ov, e2, a, rfl, ja⟩ := r.get ej
    obtain ⟨vm, em2, bm⟩ := r.getD em
    cases bm
    obtain ⟨l0, l1, o', ks, ha, hl, ne, hl1', _⟩ := hJ a H ja
    refine ⟨a, l0, l1, ha, hl, ne, fun x y is z op => ?_⟩
    refine ⟨.ref a, e2, a, _, _, _, rfl, rfl, .inl (.inl op.ha), at_S.1, Nat.zero_le _, fun p hp => ?_⟩
    have pa : p ≠ a := fun z => by rw [z, op.ha] at hp; cases hp
    have pl : p ≠ l0 := fun z => by rw [z, op.hl] at hp; cases hp
    refine ⟨.list (is.map .int), .list [], .lst (.inl (.inl (by rw [upd_ne (Ne.symm pl)]; exact op.hl))) (ints_dp is), .lst (.inl (.inl upd_same)) .nil, ints_shaped is, rfl, _, rfl, ?_⟩
    rw [ints_empty]
    have hl1 : (upd (opnS H a l0 l1 x y is) p (.lst [])) l0 = some (.lst (is.map V.int)) := by rw [upd_ne (Ne.symm pl)]; exact op.hl
    have ha1 : (upd (opnS H a l0 l1 x y is) p (.lst [])) a = some (.lst (vsS l0 l1 x y)) := by rw [upd_ne (Ne.symm pa)]; exact op.ha
    cases is with
    | nil =>
      have hp0 : H p = none := (opnS_off pa pl).symm.trans hp
      have sm : Same H (upd H p (.lst [])) := same_new hp0
      refine ⟨a, l0, l1, x, y, [], ⟨ha1, hl1, op.ne⟩, ?_⟩
      have ec : clsS (upd (opnS H a l0 l1 x y []) p (.lst [])) a l0 l1 = upd H p (.lst []) := clsS_opn (H := upd H p (.lst [])) (by rw [upd_ne (Ne.symm pa)]; exact ha) (by rw [upd_ne (Ne.symm pl)]; exact hl) fun b h1 h2 => by
        by_cases hb : b = p
        · subst hb; rw [upd_same, upd_same]
        · rw [upd_ne hb, upd_ne hb]; exact opnS_off h1 h2
      rw [ec]
      exact n1 _ _ _ (keep_of_same sm) (r.go sm) qx
    | cons y0 is =>
      have hlast : ((y0 :: is).map V.int)[((y0 :: is).map V.int).length - 1]? = some (.int ((y0 :: is).getLast (by simp))) := by
        rw [List.length_map, List.getElem?_map, ← List.getLast?_eq_getElem?, List.getLast?_eq_getLast (by simp)]; rfl
      refine ⟨.ref a, e2, ?_⟩
      refine ⟨a, _, _, .ref l0, rfl, rfl, .inl (.inl ha1), at_S.1, own_ty (pins := []) hl1, l0, _, _, rfl, rfl, hl1, hlast, ?_⟩
      have ei : (σ.set iw (some (V.int ((y0 :: is).getLast (by simp)))))[i]? = some (some (.ref a)) := by
        rw [List.getElem?_set_ne hi]; exact e2
      have ew : (σ.set iw (some (V.int ((y0 :: is).getLast (by simp)))))[iw]? = some (some (V.int ((y0 :: is).getLast (by simp)))) := List.getElem?_set_self (by rw [r.len]; exact hlen)
      have emm : (σ.set iw (some (V.int ((y0 :: is).getLast (by simp)))))[im]? = some (some (.int m)) := by
        rw [List.getElem?_set_ne hm]; exact em2
      have dl : ((y0 :: is).map V.int).dropLast = ((y0 :: is).dropLast).map V.int := by rw [List.map_dropLast]
      have hl2 : (upd (upd (opnS H a l0 l1 x y (y0 :: is)) p (.lst [])) l0 (.lst ((y0 :: is).map V.int).dropLast)) l0 = some (.lst (((y0 :: is).dropLast).map V.int)) := by rw [upd_same, dl]
      have ha2 : (upd (upd (opnS H a l0 l1 x y (y0 :: is)) p (.lst [])) l0 (.lst ((y0 :: is).map V.int).dropLast)) a = some (.lst (vsS l0 l1 x y)) := by rw [upd_ne (Ne.symm op.ne)]; exact ha1
      refine ⟨_, ew, _, emm, _, m, rfl, rfl, _, rfl, ite2 (fun _ => ?_) fun _ => ?_⟩
      · refine ⟨.ref a, ei, a, _, _, .ref l0, rfl, rfl, .inl (.inl ha2), at_S.1, own_ty (pins := []) hl2, _, ew, _, emm, _, m, rfl, rfl, ⟨m0, m1⟩, l0, _, _, rfl, rfl, hl2, ?_, ?_⟩
        · rw [List.length_map, List.length_dropLast]
          have : (y0 :: is).length ≤ sizeLine := z
          have : 0 < (y0 :: is).length := by simp
          omega
        · refine spop_end (ks := (y0 :: is).dropLast ++ [(y0 :: is).getLast (by simp) / m]) r ha hl op hp ?_ (qn _) n2 n3 n4 _
          rw [upd_upd, List.map_append]; rfl
      · exact spop_end (ks := (y0 :: is).dropLast) r ha hl op hp (by rw [dl]) (qn _) n2 n3 n4 _
/-- the store is made and handed out -/
def dStock (t0 t1 t2 : TEd) : TSd := fun D ρ => t0 ρ fun s0 ρ1 => t1 ρ1 fun s1 ρ2 => t2 ρ2 fun s2 _ => ∃ (is0 is1 : List Int) (n : Int), s0 = .own (is0.map .int) ∧ s1 = .own (is1.map .int) ∧ is1 ≠ [] ∧ s2 = .d (.int n) ∧ D.rt (.ob .jar)
theorem pe_madeS {e : Expr} {t : TE} (h : PE X e t) : PE X e (fun σ H Q => t σ H fun v H1 => ∃ a l0 l1 x y js, ∃ ks : List Int, v = .ref a ∧ OpnS H1 a l0 l1 x y js ∧ H1 l1 = some (.lst (ks.map V.int)) ∧ l1 ≠ l0 ∧ ∀ o, Q v (clsS (upd H1 l1 (.frz o (.lst (ks.map V.int)))) a l0 l1)) := ⟨fun pins s σ H Q I q => by
  refine thn (h.run pins s σ H _ I q) fun u s1 z => ?_
  obtain ⟨v, H1, I1, rv, a, l0, l1, x, y, js, ks, ev, o, h1, n10, q2⟩ := z
  obtain ⟨ob, I2⟩ := fix_inv I1 h1 trivial
  have n1a : l1 ≠ a := fun z => by
    have h := o.ha
    rw [← z, h1] at h
    cases ks with
    | nil => cases h
    | cons k ks => cases h
  exact ⟨v, _, closeS_of I2 (x := x) (y := y) (js := js) ⟨by rw [upd_ne (Ne.symm n1a)]; exact o.ha, by rw [upd_ne (Ne.symm n10)]; exact o.hl, o.ne⟩, rv, q2 ob⟩⟩
theorem ds_stock {e0 e1 e2 : Expr} {t0 t1 t2 : TEd} (hJ : ∀ a H, StoS a H → L.J.ok .jar a H) (h0 : PE X e0 (tE L t0)) (h1 : PE X e1 (tE L t1)) (h2 : PE X e2 (tE L t2))
    (s0 : starEach [e0, e1, e2, .Constant (.int 0) j p1] X.env = (false, eval e0 X.env) :: starEach [e1, e2, .Constant (.int 0) j p1] X.env := by rfl) (s1 : starEach [e1, e2, .Constant (.int 0) j p1] X.env = (false, eval e1 X.env) :: starEach [e2, .Constant (.int 0) j p1] X.env := by rfl)
    (s2 : starEach [e2, .Constant (.int 0) j p1] X.env = (false, eval e2 X.env) :: starEach [.Constant (.int 0) j p1] X.env := by rfl) (s3 : starEach [.Constant (.int 0) j p1] X.env = (false, eval (.Constant (.int 0) j p1) X.env) :: starEach [] X.env := by rfl) :
    PS X (.Return (some (.List [e0, e1, e2, .Constant (.int 0) j p1] p2)) pos) (tS L (dStock t0 t1 t2)) :=
  (ps_ret (pe_madeS (pe_lst (pa_cons h0 (pa_cons h1 (pa_cons h2 (pa_cons pe_int pa_nil s3) s2) s1) s0)))).less fun D σ H q => by
    obtain ⟨ρ, De, r, q, n1, n2, n3, n4⟩ := q
    refine ⟨ρ, _, r, q, fun v0 H1 x0 ρ1 g1 r1 hv0 q1 => ⟨ρ1, _, r1, q1, fun v1 H2 x1 ρ2 g2 r2 hv1 q2 => ⟨ρ2, _, r2, q2, fun v2 H3 x2 ρ3 g3 r3 hv2 q3 => ?_⟩⟩⟩
    obtain ⟨is0, is1, n, rfl, rfl, hne, rfl, q4⟩ := q3
    have hv2 : Br L.K H3 v2 (.int n) := hv2
    cases hv2
    have a0 := hv0.later r g1 r1 (g2.tr g3)
    have a1 := hv1.later r1 g2 r2 g3
    obtain ⟨⟨l0, vs0, rfl, b0, b1, b2⟩, b3⟩ := a0
    obtain ⟨⟨l1, vs1, rfl, c0, c1, c2⟩, c3⟩ := a1
    obtain rfl := br_ints b1
    obtain rfl := br_ints c1
    have n10 : l1 ≠ l0 := fun z => by
      have h := c3 l1 rfl
      have h' := hv0.there l0 rfl _ rfl
      rw [z] at h; exact h' h
    refine ⟨(show (4 : Nat) ≤ sizeLine by decide), fun a na => ?_⟩
    have na0 : l0 ≠ a := ne_of_none b0 na
    have na1 : l1 ≠ a := ne_of_none c0 na
    refine ⟨a, l0, l1, n, 0, is0, is1, rfl, ⟨upd_same, by rw [upd_ne na0]; exact b0, na0⟩, by rw [upd_ne na1]; exact c0, n10, fun ob => ?_⟩
    have hs : StoS a (clsS (upd (upd H3 a (.lst (vsS l0 l1 n 0))) l1 (.frz ob (.lst (is1.map V.int)))) a l0 l1) := by
      refine ⟨l0, l1, ob, is1, ?_, ?_, na0, ?_, hne⟩
      · unfold clsS; rw [upd_ne (Ne.symm na0), upd_same]
      · unfold clsS; rw [upd_same]
      · unfold clsS; rw [upd_ne n10, upd_ne na1, upd_same]
    refine n2 (.ref a) _ (.ob .jar) (fun b o hb f => ?_) (fun b o hb => ?_) ⟨a, rfl, hJ _ _ hs⟩ q4
    · have h3 := ((g1.tr g2).tr g3).keep r b o hb f
      unfold clsS
      have e0 : b ≠ l0 := fun z => by rw [z, b0] at h3; cases h3; exact f
      have e1 : b ≠ l1 := fun z => by rw [z, c0] at h3; cases h3; exact f
      rw [upd_ne e0, upd_ne (ne_of_none h3 na), upd_ne e1, upd_ne (ne_of_none h3 na)]; exact h3
    · have h3 := r3.same b o hb
      unfold clsS
      rw [upd_ne (ne_of_none hb b2), upd_ne (ne_of_none h3 na), upd_ne (ne_of_none hb c2), upd_ne (ne_of_none h3 na)]; exact h3
theorem cutV_map (ns : List Int) (lo hi : Option Int) : cutV (ns.map V.int) lo hi = (cutD ns lo hi).map V.int := by
  unfold cutV cutD
  rw [List.map_take, List.map_drop, List.length_map]
/-- the script's first items -/
def dScr (i : Nat) (k : Int) : TEd := fun ρ Q => ∃ ns, ρ[i]? = some (.ob (.scr ns)) ∧ Q (.own ((cutD ns none (some k)).map .int)) ρ
theorem de_scr {k : Int} {j2 : Nat} (hK : L.K = X.K) (hS : ∀ a ns H, L.J.ok (.scr ns) a H → ScrOk L.K a ns H) (ho : PE X o (tVar i)) : PE X (.Subscript o (.Slice none (some (.Constant (.int k) j2 p1)) none p2) pos) (tE L (dScr i k)) :=
  (pe_slice sl_list ho po_none (po_some pe_int)).less fun σ H Q' q => by
    obtain ⟨ρ, Q, r, ⟨ns, ej, q⟩, fin⟩ := q
    obtain ⟨o, e2, a, rfl, ja⟩ := r.get ej
    have sq := sq_scr (hS a ns H ja)
    rw [hK] at sq
    refine ⟨.ref a, e2, k, rfl, a, ns.map V.int, rfl, sq, fun c nc => ?_⟩
    rw [cutV_map]
    have sm := same_new (o := .lst ((cutD ns none (some k)).map V.int)) nc
    exact fin _ _ (.own _) ρ (Go.sm sm) (r.go sm) ⟨⟨c, _, rfl, upd_same, ints_br _, r.same.free nc⟩, fun l e => by cases e; exact nc⟩ q
end
end GB

set_option maxRecDepth 100000
namespace GB
open PySem PySem.Spec PyProof.Rows L2
/-! is, is not, of bools -/
def fIsB : F2 := fun x y Q => ∃ a b : Bool, x = .bool a ∧ y = .bool b ∧ Q (.d (.bool (a == b)))
def fIsNotB : F2 := fun x y Q => ∃ a b : Bool, x = .bool a ∧ y = .bool b ∧ Q (.d (.bool (!(a == b))))
theorem f_isB {a b : Bool} {k : S → Prop} : fIsB (.bool a) (.bool b) k ↔ k (.d (.bool (a == b))) := ⟨fun ⟨_, _, e, e', h⟩ => by cases e; cases e'; exact h, fun h => ⟨_, _, rfl, rfl, h⟩⟩
theorem f_isNotB {a b : Bool} {k : S → Prop} : fIsNotB (.bool a) (.bool b) k ↔ k (.d (.bool (!(a == b)))) := ⟨fun ⟨_, _, e, e', h⟩ => by cases e; cases e'; exact h, fun h => ⟨_, _, rfl, rfl, h⟩⟩
theorem o_isB {X : Cx} {L : Lay} : OpR X (compareOp .Is) (rD L fIsB) := by
  intro pins s σ H x y v u Q' I rx ry q
  obtain ⟨dx, dy, Q, bx, by_, ⟨a, b, rfl, rfl, q⟩, fin⟩ := q
  have bx : Br L.K H x (.bool a) := bx
  have by_ : Br L.K H y (.bool b) := by_
  cases bx; cases by_; cases rx; cases ry
  exact is_bool (fin_bl I (fin _ H (.d (.bool (a == b))) (Same.refl H) (.bl _) q) rfl)
theorem o_isNotB {X : Cx} {L : Lay} : OpR X (compareOp .IsNot) (rD L fIsNotB) := by
  intro pins s σ H x y v u Q' I rx ry q
  obtain ⟨dx, dy, Q, bx, by_, ⟨a, b, rfl, rfl, q⟩, fin⟩ := q
  have bx : Br L.K H x (.bool a) := bx
  have by_ : Br L.K H y (.bool b) := by_
  cases bx; cases by_; cases rx; cases ry
  exact isnot_bool (fin_bl I (fin _ H (.d (.bool (!(a == b)))) (Same.refl H) (.bl _) q) rfl)
end GB

set_option maxRecDepth 100000
namespace GB
open PySem PySem.Spec PyProof.Rows L2
/-! an own exception class without own __init__, called without arguments -/
section
variable {X : Cx} {C : Addr} {bmB : List Value} {B newId initId : String}
theorem pmk_own0 {x : Str} {p pos : Pos} (F : ExcBaseFacts B newId initId bmB) (q : PySem.W.excIn X.K C bmB newId = true) (gC : X.mg x = some (.ref C)) (kC : PySem.W.keepIn X.K (.ref C) = true) (r : Raises X (.ref C)) (hg : Gl X x)
    (hdb : (x == ("__debug__" : Str)) = false := by decide) : PMk X (.Call (.Name x p) [] [] pos) (fun _ H Q => Q (.ref C) none H) := by
  intro pins s σ H Q I h
  refine wpAny_Call_Name_kw (ld_glob I hg gC ?_ hdb)
  refine PySem.W.callWith_K0 I.kIn kC ?_
  obtain ⟨bm, N, nm, qn, bs, hdct, sn, sub, ab, col, dd, k0, k1, k2, k3, k5, mN, hC, hN, hni, T⟩ := exc_obj I.kIn q
  refine wpAny_call_exc_subT F T hC hN hni (fun h' e hm => ?_) (Nat.zero_le _)
  exact mk_of I hm r h (I.hok.gone hm.new)
end
/-- a class of the program that is raised -/
structure ExC (K : PySem.W.Frag) (mg : Str → Option Value) (x : Str) (C : Addr) : Prop where
  gC : mg x = some (.ref C)
  kC : PySem.W.keepIn K (.ref C) = true
  xC : ∃ bm, ExcBaseFacts "ValueError" "ValueError.__new__" "ValueError.__init__" bm ∧ PySem.W.excIn K C bm "ValueError.__new__" = true
  bC : PySem.W.subIn K (.ref C) (.type "BaseException") = some true
  tC : PySem.W.typeIn K (.ref C) = some (.type "type")
  eC : PySem.W.exmOne K (.ref C) (.ref C) = some true
/-! a raise -/
def dRaise (Z : Prop) : TSd := fun _ _ => Z
section
variable {X : Cx} {L : Lay} {C : Addr} {W : WX} {x : Str} {p pos pos2 : Pos} {Z : Prop}
theorem ds_raise (g : Good X) (tk : Takes X W) (hK : L.K = X.K) (c : ExC X.K X.mg x C) (hg : Gl X x) (hz : ∀ σ H, Same L.H0 H → Z → W (.ref C) none σ H) (hdb : (x == ("__debug__" : Str)) = false := by decide) :
    PS X (.Raise (some (.Call (.Name x p) [] [] pos)) none pos2) (tS L (dRaise Z)) := by
  obtain ⟨bm, F, q⟩ := c.xC
  refine (ps_raise g.calm tk (pmk_own0 F q c.gC c.kC (raises_own c.bC c.tC) hg hdb)).less fun D σ H h => ?_
  obtain ⟨ρ, De, r, z, _⟩ := h
  exact hz σ H r.same z
end
/-! defs that raise an error of one class, without payload -/
abbrev FnE := List S → (S → Prop) → Prop → Prop
def spX (K : PySem.W.Frag) (J : Jar) (n : Nat) (C : Addr) (F : FnE) : Sp := fun vs H Q E => ∃ ss R Z, FRs (lay K J H) H vs ss ∧ ss.length = n ∧ F ss R Z ∧ (∀ v H' s, Same H H' → RR (lay K J H) H' v s → R s → Q v H') ∧ (Z → ∀ H', Same H H' → E (.ref C) none H')
section
variable {P : Program} {w : World} {K : PySem.W.Frag} {mg : Str → Option Value} {base : Heap} {J : Jar}
theorem good_of' {CX : CXT} {N : List Str} {qual : Str} {scope : Scope} {f : Addr} {cdv : Value} {A : Around} {outer : List Env} {s : Shared} {H : Hp} {E : XK} {k : Nat} (hs : ∃ o, base.get? sysModules = some o) (nd : N.Nodup) (hg : A.guards = some [])
    (hr : Room k (A.deeper (envOfC qual scope s.heap.objs.size f cdv))) : Good (cxOf CX P w K mg base N qual scope f cdv A outer s H E) := ⟨rfl, hg, hs, by have := hr.un; show (A.deeper (envOfC qual scope s.heap.objs.size f cdv)).units + 200 < cLine; omega, nd⟩
theorem fnx_ok {f C : Addr} {fd : FuncData} {x qual : Str} {st : Stmt} {N ps : List Str} {k : Nat} {F : FnE} {t : Prop → TSd} (Fn : Fun K x qual st f fd) (S0 : FnScope N ps (defScope st)) (hs : ∃ o, base.get? sysModules = some o)
    (body : ∀ (cdv : Value) (A : Around) (outer : List Env) (s : Shared) (H : Hp) (E : XK) (Z : Prop), A.guards = some [] → Room k (A.deeper (envOfC qual (defScope st) s.heap.objs.size f cdv)) → Good (cxOf (L2.CX P w) P w K mg base N qual (defScope st) f cdv A outer s H E) →
      PassesOwn (model P w) (cxOf (L2.CX P w) P w K mg base N qual (defScope st) f cdv A outer s H E).A (cxOf (L2.CX P w) P w K mg base N qual (defScope st) f cdv A outer s H E).env (cxOf (L2.CX P w) P w K mg base N qual (defScope st) f cdv A outer s H E).xe →
      Takes (cxOf (L2.CX P w) P w K mg base N qual (defScope st) f cdv A outer s H E) (fun cls d _ H' => E cls d H') → (∀ H', Same H H' → Z → E (.ref C) none H') →
      PSs (cxOf (L2.CX P w) P w K mg base N qual (defScope st) f cdv A outer s H E) (defBody st) (tS (lay K J H) (t Z)))
    (math : ∀ ss R Z, ss.length = ps.length → F ss R Z → t Z { nx := fun _ => R (.d .none), rt := R } (ss ++ List.replicate (N.length - ps.length) .un)) :
    FnG P w K mg base (L2.CX P w) (k + 1) f fd ps (spX K J ps.length C F) := by
  refine fng_of Fn S0 (fun vs H Q E h => ?_) fun cdv A outer s H vs Q E hg hr h => ?_
  · obtain ⟨ss, R, Z, fr, hl, _⟩ := h
    rw [fr.len, hl]
  · obtain ⟨ss, R, Z, fr, hl, hF, fin, hz⟩ := h
    refine ⟨_, body cdv A outer s H E Z hg hr (good_of' hs S0.nd hg hr) (passes_of rfl) (takes_of rfl rfl rfl rfl) (fun H' sm z => hz z H' sm), ss ++ List.replicate (N.length - ps.length) .un, { nx := fun _ => R (.d .none), rt := R }, ?_, math ss R Z hl hF, fun σ' H' ρ' k r n => ?_, fun v H' s k sm rr n => fin v H' s sm rr n, fun _ _ _ _ _ n => n, fun _ _ _ _ _ n => n⟩
    · have hv := fr.len
      unfold L2.start
      rw [hv, hl]
      exact brA_start fr rfl
    · exact fin .non H' (.d .none) r.same .non n
end
/-! calls of such defs, in the body of a try -/
def tEX (L : Lay) (C : Addr) (W : WX) (t : (En → Prop) → TEd) : TE := fun σ H Q' => ∃ ρ Q Z, Rel L H σ ρ ∧ t Z ρ Q ∧ (∀ v H' s ρ', Go σ ρ ρ' H H' → Rel L H' σ ρ' → VR L H H' v s → Q s ρ' → Q' v H') ∧ (∀ H' ρ', Go σ ρ ρ' H H' → Rel L H' σ ρ' → Z ρ' → W (.ref C) none σ H')
def tSX (L : Lay) (C : Addr) (W : WX) (t : (En → Prop) → TSd) : TS := fun D σ H => ∃ ρ De Z, Rel L H σ ρ ∧ t Z De ρ ∧ (∀ σ' H' ρ', Keep H H' → Rel L H' σ' ρ' → De.nx ρ' → D.nx σ' H') ∧ (∀ v H' s, Keep H H' → Same L.H0 H' → RR L H' v s → De.rt s → D.rt v H') ∧
  (∀ σ' H' ρ', Keep H H' → Rel L H' σ' ρ' → De.bk ρ' → D.bk σ' H') ∧ (∀ σ' H' ρ', Keep H H' → Rel L H' σ' ρ' → De.ct ρ' → D.ct σ' H') ∧ (∀ σ' H' ρ', Keep H H' → Rel L H' σ' ρ' → Z ρ' → W (.ref C) none σ' H')
def dCallX (F : FnE) (n : Nat) (Z : En → Prop) (ta : TAd) : TEd := fun ρ Q => ta ρ fun ss ρ1 => ss.length = n ∧ F ss (fun s => Q s ρ1) (Z ρ1)
def dCallKX (F : FnE) (n : Nat) (gS : List S → List S) (Z : En → Prop) (ta : TAd) : TEd := fun ρ Q => ta ρ fun ss ρ1 => (gS ss).length = n ∧ F (gS ss) (fun s => Q s ρ1) (Z ρ1)
section
variable {X : Cx} {L : Lay} {C : Addr} {W : WX} {pos p : Pos} {e c a b : Expr} {es : List Expr} {tas tks : TAd} {F : FnE} {x : Str} {f : Addr} {fd : FuncData} {ps ks : List Str} {k : Nat} {kws : List Keyword} {te : TEd} {tq : TTd} {ta tb : (En → Prop) → TEd}
theorem g_callS {sp : Sp} {E : L2.St → XK} {t : TA} (Fn : FnG X.prog X.w X.K X.mg X.base (L2.CX X.prog X.w) k f fd ps sp) (hr : Room k X.A) (gd : X.A.guards = some []) (hg : Gl X x) (hm : X.mg x = some (.ref f)) (hk : PySem.W.keepIn X.K (.ref f) = true) (hb : Binds X.K fd ps []) (hx : ∀ σ, PassesAt (L2.CX X.prog X.w) X σ (E σ))
    (ha : PA X (e :: es) t) (hdb : (x == ("__debug__" : Str)) = false := by decide) (he : starEach (e :: es) X.env = (false, eval e X.env) :: starEach es X.env := by rfl)
    (hpl : (backTo pos (starEach es X.env)).any (·.1) = false := by rfl) : PE X (.Call (.Name x p) (e :: es) [] pos) (fun σ H Q => t σ H fun vs H1 => sp vs H1 Q (E σ)) := by
  constructor
  intro pins s σ H Q I h
  refine wpAny_Call_Name_kw (ld_glob I hg hm ?_ hdb)
  refine PySem.W.callWith_K (h₀ := X.base) I.ok.mod.kin hk (thn (ha.run pos pins s σ H _ I h) fun us s1 z => ?_) he hpl
  obtain ⟨vs, H1, I1, r, q⟩ := z
  refine ⟨I1.kIn, ?_⟩
  have hl : us.length = ps.length := by rw [← r.length]; exact Fn.arity _ _ _ _ q
  have bb := hb s1 us I1.kIn (by simpa using hl)
  rw [List.append_nil] at bb
  refine wpAny_call (codeAny_mono (Fn.go X.A X.stack s1 H1 ⟨us, []⟩ us vs Q (E σ) gd hr I1.env0 bb r q) fun r2 s' hq => ?_)
  match r2, hq with
  | .error e, hq => exact hx σ pins H1 s1 e s' I1 hq
  | .ok (.ret u), hq => exact I1.after hq
  | .ok .next, hq => exact False.elim hq
  | .ok .brk, hq => exact False.elim hq
  | .ok .cont, hq => exact False.elim hq
theorem g_kwS {gV : List V → List V} {g : List Value → List Value} {sp : Sp} {E : L2.St → XK} {tk : TA} (Fn : FnG X.prog X.w X.K X.mg X.base (L2.CX X.prog X.w) k f fd ps sp) (hr : Room k X.A) (gd : X.A.guards = some []) (hg : Gl X x) (hm : X.mg x = some (.ref f)) (hk : PySem.W.keepIn X.K (.ref f) = true)
    (hto : ∀ (s : Shared) (ws : List Value), (g ws).length = ps.length → BindsTo s fd ⟨[], ks.zip ws⟩ (ps.zip (g ws))) (hrel : ∀ {zs : List V} {ws : List Value}, Vals zs ws → Vals (gV zs) (g ws)) (hx : ∀ σ, PassesAt (L2.CX X.prog X.w) X σ (E σ)) (hkw : PK X kws tk) (hall : (backToKw pos (keywordEach kws X.env)).all (·.1.isSome) = true := by rfl)
    (hks : (backToKw pos (keywordEach kws X.env)).filterMap (·.1) = ks := by rfl) (hdb : (x == ("__debug__" : Str)) = false := by decide)
    (hpl : ((backTo pos (starEach [] X.env)).any (·.1) || (backToKw pos (keywordEach kws X.env)).any (·.1.isNone)) = false := by rfl) :
    PE X (.Call (.Name x p) [] kws pos) fun σ H Q => tk σ H fun zs H2 => sp (gV zs) H2 Q (E σ) := by
  constructor
  intro pins s σ H Q I h
  refine wpAny_Call_Name_kw (ld_glob I hg hm ?_ hdb)
  refine PySem.W.callWith_KW0 (h₀ := X.base) I.ok.mod.kin hk hall (thn (hkw.run pos pins s σ H _ I h) fun ws s2 z => ?_) hpl
  obtain ⟨zs, H2, I2, rz, q⟩ := z
  refine ⟨I2.kIn, ?_⟩
  rw [hks]
  have r2 := hrel rz
  have hl : (g ws).length = ps.length := by rw [← r2.length]; exact Fn.arity _ _ _ _ q
  refine wpAny_call (codeAny_mono (Fn.go X.A X.stack s2 H2 ⟨[], ks.zip ws⟩ (g ws) (gV zs) Q (E σ) gd hr I2.env0 (hto s2 ws hl) r2 q) fun r3 s' hq => ?_)
  match r3, hq with
  | .error e, hq => exact hx σ pins H2 s2 e s' I2 hq
  | .ok (.ret u), hq => exact I2.after hq
  | .ok .next, hq => exact False.elim hq
  | .ok .brk, hq => exact False.elim hq
  | .ok .cont, hq => exact False.elim hq
theorem de_liftX (h : PE X e (tE L te)) : PE X e (tEX L C W fun _ => te) := h.less fun σ H Q' q => by
  obtain ⟨ρ, Q, Z, r, q, fin, _⟩ := q
  exact ⟨ρ, Q, r, q, fin⟩
theorem de_callX (hK : L.K = X.K) (Fn : FnG X.prog X.w X.K X.mg X.base (L2.CX X.prog X.w) k f fd ps (spX X.K L.J ps.length C F)) (hr : Room k X.A) (g : Good X) (hg : Gl X x) (hm : X.mg x = some (.ref f)) (hk : PySem.W.keepIn X.K (.ref f) = true) (hb : Binds X.K fd ps [])
    (tk : Takes X W) (ha : PA X (e :: es) (tA L tas)) (hdb : (x == ("__debug__" : Str)) = false := by decide) (he : starEach (e :: es) X.env = (false, eval e X.env) :: starEach es X.env := by rfl)
    (hpl : (backTo pos (starEach es X.env)).any (·.1) = false := by rfl) : PE X (.Call (.Name x p) (e :: es) [] pos) (tEX L C W fun Z => dCallX F ps.length Z tas) :=
  (g_callS (E := WE W) Fn hr g.gd hg hm hk hb (fun σ => passAt tk σ) ha hdb he hpl).less fun σ H Q' h => by
    obtain ⟨ρ, Q, Z, r, q, fin, hz⟩ := h
    refine ⟨ρ, _, r, q, fun vs H1 ss ρ1 go r1 hv q1 => ?_⟩
    refine ⟨ss, _, _, ?_, q1.1, q1.2, fun v H2 s sm rr q2 => fin v H2 s ρ1 (go.tr (Go.sm sm)) (r1.go sm) (rr_vr r1 go (by rw [hK]; exact rr)) q2, fun z H2 sm => hz H2 ρ1 (go.tr (Go.sm sm)) (r1.go sm) z⟩
    rw [← hK]; exact hv.lay
theorem de_callKX {gV : List V → List V} {g : List Value → List Value} {gS : List S → List S} (hK : L.K = X.K) (Fn : FnG X.prog X.w X.K X.mg X.base (L2.CX X.prog X.w) k f fd ps (spX X.K L.J ps.length C F)) (hr : Room k X.A) (gd : Good X) (hg : Gl X x) (hm : X.mg x = some (.ref f)) (hk : PySem.W.keepIn X.K (.ref f) = true)
    (hb : Perm X.K fd ps ks g gV gS) (tk : Takes X W) (hkw : PK X kws (tA L tks)) (hall : (backToKw pos (keywordEach kws X.env)).all (·.1.isSome) = true := by rfl)
    (hks : (backToKw pos (keywordEach kws X.env)).filterMap (·.1) = ks := by rfl) (hdb : (x == ("__debug__" : Str)) = false := by decide)
    (hpl : ((backTo pos (starEach [] X.env)).any (·.1) || (backToKw pos (keywordEach kws X.env)).any (·.1.isNone)) = false := by rfl) :
    PE X (.Call (.Name x p) [] kws pos) (tEX L C W fun Z => dCallKX F ps.length gS Z tks) :=
  (g_kwS (E := WE W) Fn hr gd.gd hg hm hk hb.to hb.rel (fun σ => passAt tk σ) hkw hall hks hdb hpl).less fun σ H Q' h => by
    obtain ⟨ρ, Q, Z, r, q, fin, hz⟩ := h
    refine ⟨ρ, _, r, q, fun vs H1 ss ρ1 go r1 hv q1 => ?_⟩
    refine ⟨gS ss, _, _, ?_, q1.1, q1.2, fun v H2 s sm rr q2 => fin v H2 s ρ1 (go.tr (Go.sm sm)) (r1.go sm) (rr_vr r1 go (by rw [hK]; exact rr)) q2, fun z H2 sm => hz H2 ρ1 (go.tr (Go.sm sm)) (r1.go sm) z⟩
    rw [← hK]; exact hb.fr hv.lay
theorem de_ifX (h : PT X c (tT L tq)) (ha : PE X a (tEX L C W ta)) (hb : PE X b (tEX L C W tb)) : PE X (.IfExp c a b pos) (tEX L C W fun Z => dIf tq (ta Z) (tb Z)) := by
  refine (pe_ifExp h ha hb).less fun σ H Q' h => ?_
  obtain ⟨ρ, Q, Z, r0, q, fin, hz⟩ := h
  refine ⟨ρ, _, r0, q, fun b H1 ρ1 k1 r1 q1 => ?_⟩
  cases b with
  | true => exact ⟨ρ1, _, Z, r1, by simpa using q1, fun v H2 s ρ2 k2 r2 hv q2 => fin v H2 s ρ2 (k1.tr k2) r2 (hv.back k1) q2, fun H2 ρ2 k2 r2 z => hz H2 ρ2 (k1.tr k2) r2 z⟩
  | false => exact ⟨ρ1, _, Z, r1, by simpa using q1, fun v H2 s ρ2 k2 r2 hv q2 => fin v H2 s ρ2 (k1.tr k2) r2 (hv.back k1) q2, fun H2 ρ2 k2 r2 z => hz H2 ρ2 (k1.tr k2) r2 z⟩
theorem ds_retX (he : PE X e (tEX L C W ta)) : PS X (.Return (some e) pos) (tSX L C W fun Z => dRet (ta Z)) := (ps_ret he).less fun D σ H q => by
  obtain ⟨ρ, De, Z, r, q, h1, h2, h3, h4, hz⟩ := q
  exact ⟨ρ, _, Z, r, q, fun v H' s ρ' go r' hv n => h2 _ _ _ (go.keep r) r'.same hv.rr n, fun H' ρ' go r' z => hz σ H' ρ' (go.keep r) r' z⟩
theorem ds_setX {i : Nat} {x : Str} {pos' : Pos} (g : Good X) (hi : X.N[i]? = some x) (hx : Loc X.env.scope x) (he : PE X e (tEX L C W ta)) (hs : swapsWith e (some (.Name x pos')) pos.line X.env = pure false := by rfl)
    (hf : X.fn x = true ∨ X.env.scope.names.lookup x = some .local := by first | exact .inl rfl | exact .inr rfl | assumption) : PS X (.Assign [.Name x pos'] e pos) (tSX L C W fun Z => dSet i (ta Z)) :=
  (ps_set g.nd hi hx he hs hf).less fun D σ H q => by
    obtain ⟨ρ, De, Z, r, q, h1, h2, h3, h4, hz⟩ := q
    exact ⟨ρ, _, Z, r, q, fun v H' s ρ' go r' hv n => h1 _ _ _ (go.keep r) (r.set r' go hv) n, fun H' ρ' go r' z => hz σ H' ρ' (go.keep r) r' z⟩
end
/-! try: body, except C as n: suite -/
def dTry (t : (En → Prop) → TSd) (i : Nat) (u : TSd) : TSd := fun D ρ => t (fun ρ1 => i < ρ1.length ∧ u { nx := fun ρ2 => D.nx (ρ2.set i .un), rt := D.rt, bk := fun ρ2 => D.bk (ρ2.set i .un), ct := fun ρ2 => D.ct (ρ2.set i .un) } (ρ1.set i .un)) D ρ
theorem Rel.setU {L : Lay} {H : Hp} {σ : L2.St} {ρ : En} (r : Rel L H σ ρ) (i : Nat) (v : Option V) : Rel L H (σ.set i v) (ρ.set i .un) := by
  have sub : ∀ (j : Nat) (s : S), (ρ.set i .un)[j]? = some s → s = .un ∨ (j ≠ i ∧ ρ[j]? = some s) := fun j s e => by
    by_cases h : i = j
    · subst h
      by_cases hl : i < ρ.length
      · rw [List.getElem?_set_self hl] at e; cases e; exact .inl rfl
      · rw [List.getElem?_eq_none (by simpa using hl)] at e; cases e
    · rw [List.getElem?_set_ne h] at e
      exact .inr ⟨Ne.symm h, e⟩
  refine ⟨by simp [r.len], fun j s e => ?_, fun j k xs ys e1 e2 e3 => ?_, r.same⟩
  · rcases sub j s e with rfl | ⟨n, e⟩
    · trivial
    · rw [List.getElem?_set_ne (Ne.symm n)]
      exact r.at' j s e
  · rcases sub j _ e1 with q | ⟨n1, q1⟩
    · cases q
    · rcases sub k _ e2 with q | ⟨n2, q2⟩
      · cases q
      · rw [List.getElem?_set_ne (Ne.symm n1), List.getElem?_set_ne (Ne.symm n2)] at e3
        exact r.sep j k xs ys q1 q2 e3
/-- what a suite knows of its error -/
def sG (i : Nat) (a C : Addr) (cls : Value) (d : Option Addr) (σ : L2.St) : Prop := σ[i]? = some (some (.ref a)) ∧ cls = .ref C ∧ d = none
section
variable {X : Cx} {L : Lay} {C : Addr} {x n : Str} {i : Nat} {body suite : List Stmt} {b₀ : Stmt} {np pos pos' : Pos} {t : (En → Prop) → TSd} {u : TSd}
theorem ds_try (g : Good X) (hs : X.stack = X.env :: X.outer) (hf : X.env.frame = some X.env.locals) (hi : X.N[i]? = some n) (hln : X.env.kindOf n = some .local) (c : ExC X.K X.mg x C) (hg : Gl X x) 
    (hb : ∀ (W : WX) (pn : List (Addr × Obj)) (xe : Value → Shared → Prop), Good (X.tr pn xe) → Takes (X.tr pn xe) W → PassesOwn (model X.prog X.w) X.A X.env xe → PSs (X.tr pn xe) body (tSX L C W t))
    (hsu : ∀ (a : Addr) (oe : Obj) (cls : Value) (d : Option Addr) (pn : List (Addr × Obj)), Zc cls d oe → (∃ vs, oe.data = .fields vs) → PSs (X.suite a ((a, oe) :: pn)) (b₀ :: suite) (fun D σ H => sG i a C cls d σ ∧ tS L u D σ H)) (hdb : (x == ("__debug__" : Str)) = false := by decide) :
    PS X (.Try body [.ExceptHandler (some (.Name x np)) (some n) (b₀ :: suite) pos'] [] [] pos) (tS L (dTry t i u)) :=
  (ps_try_as (i := i) (tb := fun W => tSX L C W t) (ts := fun a cls d D σ H => sG i a C cls d σ ∧ tS L u D σ H) (Wout := fun _ _ _ _ => False) hs hf g.nd hi hln ⟨hg, hdb, .inl c.gC⟩ takes0
    (fun W pn xe tk po => hb W pn xe ⟨g.calm, g.gd, g.sys, g.un, g.nd⟩ tk po) hsu).less fun D σ H q => by
    obtain ⟨ρ, De, r, q, h1, h2, h3, h4⟩ := q
    refine ⟨ρ, De, _, r, q, h1, h2, h3, h4, fun σ' H' ρ' k r' z => ⟨true, c.eC, fun _ a ha => ?_, fun z => nomatch z⟩⟩
    obtain ⟨hl, z⟩ := z
    refine ⟨⟨by rw [List.getElem?_set_self (by rw [r'.len]; exact hl)], rfl, rfl⟩, ρ'.set i .un, _, r'.setU i _, z, fun σ2 H2 ρ2 k2 r2 n => h1 _ _ _ (k.tr k2) (r2.setU i none) n, fun v H2 s k2 sm rr n => h2 v H2 s (k.tr k2) sm rr n, fun σ2 H2 ρ2 k2 r2 n => h3 _ _ _ (k.tr k2) (r2.setU i none) n, fun σ2 H2 ρ2 k2 r2 n => h4 _ _ _ (k.tr k2) (r2.setU i none) n⟩
end
/-! the suite's expressions -/
structure ExI (K : PySem.W.Frag) (C G : Addr) : Prop where
  hcl : (PySem.W.clsIn K C).isSome = true
  ga : PySem.W.findIn K (.ref C) "__getattribute__" = some (some (.builtin "BaseException.__getattribute__"))
  gg : ∃ gt, PySem.W.findIn K (.ref C) "__getattr__" = some gt
  ha : PySem.W.findIn K (.ref C) "__class__" = some (some (.builtin "object.__class__"))
  hn : PySem.W.specialIn K (.builtin "object.__class__") "__get__" = some (some (.builtin "getset_descriptor.__get__"))
  htk : PySem.W.takesIn K (.builtin "object.__class__") = some true
  hm : PySem.W.mroIn K C (.type "object") = some true
  bC : PySem.W.subIn K (.ref C) (.type "BaseException") = some true
  one : PySem.W.kitOne K (.ref C) (.ref G) = some true
def tGu (g : L2.St → Prop) (t : TE) : TE := fun σ H Q => g σ ∧ t σ H Q
def tGuT (g : L2.St → Prop) (t : TT) : TT := fun σ H Q => g σ ∧ t σ H Q
def tGuA (g : L2.St → Prop) (t : TA) : TA := fun σ H Q => g σ ∧ t σ H Q
section
variable {X : Cx} {L : Lay} {g : L2.St → Prop} {pos p : Pos} {e a b c : Expr} {es : List Expr} {tas : TAd} {te ta tb : TEd} {tq : TTd}
theorem di_lift {t : TE} (h : PE X e t) : PE X e (tGu g t) := h.less fun _ _ _ q => q.2
theorem dit_lift {t : TT} (h : PT X e t) : PT X e (tGuT g t) := h.less fun _ _ _ q => q.2
theorem dit_val (h : PE X e (tGu g (tE L te))) (he : ∀ whole, isTrue e X.env whole = (do let v ← whole; standAt e.pos; holding [v] (truthy v)) := by intro _; rfl) : PT X e (tGuT g (tT L (dB te))) :=
  (pt_val h he).less fun σ H Q' q => by
    obtain ⟨hg, ρ, Q, r, q, fin⟩ := q
    refine ⟨hg, ρ, _, r, q, fun v H1 s ρ1 k1 r1 hv q1 => ?_⟩
    obtain ⟨b, rfl, q2⟩ := q1
    have hv : Br L.K H1 v (.bool b) := hv
    cases hv
    exact ⟨b, rfl, fin b H1 ρ1 k1 r1 q2⟩
theorem dit_if (h : PT X c (tGuT g (tT L tq))) (ha : PE X a (tGu g (tE L ta))) (hb : PE X b (tGu g (tE L tb))) : PE X (.IfExp c a b pos) (tGu g (tE L (dIf tq ta tb))) := by
  refine (pe_ifExp h ha hb).less fun σ H Q' h => ?_
  obtain ⟨hg, ρ, Q, r0, q, fin⟩ := h
  refine ⟨hg, ρ, _, r0, q, fun b H1 ρ1 k1 r1 q1 => ?_⟩
  cases b with
  | true => exact ⟨hg, ρ1, _, r1, by simpa using q1, fun v H2 s ρ2 k2 r2 hv q2 => fin v H2 s ρ2 (k1.tr k2) r2 (hv.back k1) q2⟩
  | false => exact ⟨hg, ρ1, _, r1, by simpa using q1, fun v H2 s ρ2 k2 r2 hv q2 => fin v H2 s ρ2 (k1.tr k2) r2 (hv.back k1) q2⟩
theorem dia_nil : PA X [] (tGuA g (tA L dNil)) := (da_nil (L := L)).less fun _ _ _ q => q.2
theorem dia_cons (h : PE X e (tGu g (tE L te))) (hr : PA X es (tGuA g (tA L tas))) (hs : starEach (e :: es) X.env = (false, eval e X.env) :: starEach es X.env := by rfl) : PA X (e :: es) (tGuA g (tA L (dCons te tas))) := by
  refine (pa_cons h hr hs).less fun σ H Q' h => ?_
  obtain ⟨hg, ρ, Q, r0, q, fin⟩ := h
  refine ⟨hg, ρ, _, r0, q, fun v H1 s ρ1 k1 r1 hv q1 => ?_⟩
  obtain ⟨f, q2⟩ := q1
  refine ⟨hg, ρ1, _, r1, q2, fun vs H2 ss ρ2 k2 r2 hvs q3 => ?_⟩
  exact fin (v :: vs) H2 (s :: ss) ρ2 (k1.tr k2) r2 (.cons ((fr_of f hv).keep (k2.keep r1)) hvs) q3
theorem dia_lst (h : PA X es (tGuA g (tA L tas))) : PE X (.List es pos) (tGu g (tE L (dLst tas))) := by
  refine (pe_lst h).less fun σ H Q' h => ?_
  obtain ⟨hg, ρ, Q, r0, q, fin⟩ := h
  refine ⟨hg, ρ, _, r0, q, fun vs H1 ss ρ1 k1 r1 hv q1 => ?_⟩
  obtain ⟨xs, rfl, hz, q2⟩ := q1
  have hb := frs_brA hv
  refine ⟨by rw [hb.len]; exact hz, fun p hp => ?_⟩
  have sm := same_new (o := .lst vs) hp
  exact fin _ _ (.own xs) ρ1 (k1.tr (Go.sm sm)) (r1.go sm) (NR.vr (s := .own xs) r1 sm k1 ⟨p, vs, rfl, hp, upd_same, BrA.keep (keep_of_same sm) _ _ hb⟩) q2
theorem dis_ret (h : PE X e (tGu g (tE L te))) : PSs X [.Return (some e) pos] (fun D σ H => g σ ∧ tS L (dRet te) D σ H) := (pss_one (ps_ret h)).less fun D σ H q => by
  obtain ⟨hg, ρ, De, r, q, h1, h2, h3, h4⟩ := q
  exact ⟨hg, ρ, _, r, q, fun v H' s ρ' go r' hv n => h2 _ _ _ (go.keep r) r'.same hv.rr n⟩
end
section
variable {X : Cx} {L : Lay} {i : Nat} {a C G : Addr} {oe : Obj} {cls : Value} {d : Option Addr} {pn : List (Addr × Obj)} {n x : Str} {p p1 p2 pos : Pos}
theorem call_isx (hz : Zc cls d oe) (hf : ∃ vs, oe.data = .fields vs) (c : ExI X.K C G) : CallR (X.suite a ((a, oe) :: pn)) (.builtin "isinstance") (fun xs H Q => xs = [.ref a, .ref G] ∧ cls = .ref C ∧ d = none ∧ Q (.bl true) H) := by
  intro pins s σ H xs us Q I r h
  obtain ⟨rfl, ec, ed, q⟩ := h
  obtain ⟨u1, u2, rfl, r1, r2⟩ := vals2 r
  cases (show u1 = Value.ref a from r1)
  cases (show u2 = Value.ref G from r2)
  subst ec
  subst ed
  obtain ⟨ha, _⟩ := I.pin (a, oe) (List.mem_append_left _ List.mem_cons_self)
  obtain ⟨vs, hd⟩ := hf
  have J : PySem.W.InstAt s.heap a oe C none := ⟨ha, hz.1, by unfold PySem.W.notCls; rw [hd] <;> rfl, by rw [hz.2]; trivial⟩
  obtain ⟨gt, gg⟩ := c.gg
  exact PySem.W.kia_one (PySem.W.kitx_exc (x := a) (ox := oe) (od := none) c.hcl c.ga gg c.bC c.ha c.hn c.htk c.hm) I.kIn J c.one (fun z => nomatch z) fun tk => ⟨.bl true, H, I.tok tk, rfl, q⟩
theorem dis_isx (hz : Zc cls d oe) (hf : ∃ vs, oe.data = .fields vs) (c : ExI X.K C G) (hN : X.N[i]? = some n) (hv : Vis X.env.scope n) (hg : Gl (X.suite a ((a, oe) :: pn)) "isinstance") (hm : X.mg "isinstance" = none) (hgG : Gl (X.suite a ((a, oe) :: pn)) x) (hmG : X.mg x = some (.ref G))
    (hdn : (n == ("__debug__" : Str)) = false := by decide) (hcd : (n == ("__classdict__" : Str)) = false := by decide) (hdx : (x == ("__debug__" : Str)) = false := by decide) (hb : bootBuiltins "isinstance" = some (.builtin "isinstance") := by decide +kernel)
    (h1 : starEach ((.Name n p1) :: [.Name x p2]) X.env = (false, eval (.Name n p1) X.env) :: starEach [.Name x p2] X.env := by rfl) (h2 : starEach ([.Name x p2]) X.env = (false, eval (.Name x p2) X.env) :: starEach [] X.env := by rfl)
    (hpl : (backTo pos (starEach [.Name x p2] X.env)).any (·.1) = false := by rfl) :
    PE (X.suite a ((a, oe) :: pn)) (.Call (.Name "isinstance" p) [.Name n p1, .Name x p2] [] pos) (tGu (sG i a C cls d) (tE L (dK (.bool true)))) :=
  (pe_callB (X := X.suite a ((a, oe) :: pn)) (call_isx (X := X) (pn := pn) hz hf c) hg hm hb (pa_cons (pe_var (X := X.suite a ((a, oe) :: pn)) hN hv hdn hcd) (pa_cons (pe_glob (X := X.suite a ((a, oe) :: pn)) (v := .ref G) hgG hmG rfl hdx) pa_nil h2) h1) (by decide) (by decide) h1 hpl).less fun σ H Q' q => by
    obtain ⟨⟨e, ec, ed⟩, ρ, Q, r, q, fin⟩ := q
    exact ⟨.ref a, e, rfl, ec, ed, fin _ H (.d (.bool true)) ρ Go.rf r (.bl _) q⟩
end
/-! a def that raises, where it doesn't -/
theorem FnG.calm {P : Program} {w : World} {K : PySem.W.Frag} {mg : Str → Option Value} {base : Heap} {J : Jar} {k n : Nat} {f C : Addr} {fd : FuncData} {ps : List Str} {F : FnE} (Fn : FnG P w K mg base (L2.CX P w) k f fd ps (spX K J n C F)) :
    FnG P w K mg base CX0 k f fd ps (spD K J n fun ss R => F ss R False) := by
  have up : ∀ vs H Q E, spD K J n (fun ss R => F ss R False) vs H Q E → spX K J n C F vs H Q (fun _ _ _ => False) := fun vs H Q E h => by
    obtain ⟨ss, R, fr, hl, hF, fin⟩ := h
    exact ⟨ss, R, False, fr, hl, hF, fin, fun z => z.elim⟩
  refine ⟨fun vs H Q E h => Fn.arity vs H Q _ (up vs H Q E h), fun A outer s H args us vs Q E hg hr he hb hv h => codeAny_mono (Fn.go A outer s H args us vs Q _ hg hr he hb hv (up vs H Q E h)) fun r s' hq => ?_⟩
  cases r with
  | error e =>
    obtain ⟨_, _, _, _, _, _, _, _, _, _, _, _, z⟩ := (show L2.CX P w outer H s (fun _ _ _ => False) e s' from hq)
    exact z.elim
  | ok fl => cases fl <;> exact hq
theorem exm_own {K : PySem.W.Frag} {C : Addr} (h1 : PySem.W.subIn K (.ref C) (.type "BaseException") = some true) (h2 : PySem.W.isClsIn K C = true) (h3 : PySem.W.typeIn K (.ref C) = some (.type "type")) (h4 : PySem.W.subIn K (.ref C) (.ref C) = some true) :
    PySem.W.exmOne K (.ref C) (.ref C) = some true := by
  have e1 : (PySem.W.subIn K (.ref C) (.type "BaseException") == some true) = true := by rw [h1] <;> rfl
  have e2 : ((PySem.W.clsIn K C).isSome && PySem.W.typeIn K (.ref C) == some (.type "type")) = true := by
    have h2' : (PySem.W.clsIn K C).isSome = true := h2
    rw [h2', h3] <;> rfl
  show (if (PySem.W.subIn K (.ref C) (.type "BaseException") == some true) = true then (if ((PySem.W.clsIn K C).isSome && PySem.W.typeIn K (.ref C) == some (.type "type")) = true then PySem.W.subIn K (.ref C) (.ref C) else none) else none) = some true
  rw [if_pos e1, if_pos e2]
  exact h4
theorem exC_mk {K : PySem.W.Frag} {mg : Str → Option Value} {x : Str} {C : Addr} (gC : mg x = some (.ref C)) (kC : PySem.W.keepIn K (.ref C) = true) (xC : PySem.W.excIn K C [.type "ValueError", .type "Exception", .type "BaseException", .type "object"] "ValueError.__new__" = true)
    (bC : PySem.W.subIn K (.ref C) (.type "BaseException") = some true) (tC : PySem.W.typeIn K (.ref C) = some (.type "type")) (iC : PySem.W.isClsIn K C = true) (sC : PySem.W.subIn K (.ref C) (.ref C) = some true) : ExC K mg x C :=
  ⟨gC, kC, ⟨_, PySem.F.excBase_ValueError, xC⟩, bC, tC, exm_own bC iC tC sC⟩
/-! not of a tuple -/
def dNotTu (t : TEd) : TEd := fun ρ Q => t ρ fun s ρ1 => ∃ xs, s = .d (.tuple xs) ∧ Q (.d (.bool xs.isEmpty)) ρ1
theorem de_notTu {X : Cx} {L : Lay} {e : Expr} {t : TEd} {pos : Pos} (hK : L.K = X.K) (h : PE X e (tE L t)) : PE X (.UnaryOp .Not e pos) (tE L (dNotTu t)) :=
  (pe_notT h).less fun σ H Q' h => by
    obtain ⟨ρ, Q, r0, q, fin⟩ := h
    refine (show tE L t σ H _ from ⟨ρ, _, r0, q, fun v H1 s ρ1 k1 r1 hv q1 => ?_⟩)
    obtain ⟨xs, rfl, q2⟩ := q1
    have hv : Br L.K H1 v (.tuple xs) := hv
    cases hv with
    | @tup a vs _ h1 h3 =>
      have e : vs.isEmpty = xs.isEmpty := by
        have := h3.len
        cases vs <;> cases xs <;> first | rfl | simp at this
      refine ⟨!vs.isEmpty, .inr (.inl ⟨vs, hK ▸ h1, rfl⟩), ?_⟩
      rw [Bool.not_not, e]
      exact fin _ H1 (.d (.bool xs.isEmpty)) ρ1 k1 r1 (.bl _) q2
section
variable {t : TEd} {as : TAd} {ρ : En} {D : EndsD} {Q : S → En → Prop}
theorem e_raise {Z : Prop} : dRaise Z D ρ ↔ Z := Iff.rfl
theorem e_try {u : (En → Prop) → TSd} {i : Nat} {v : TSd} : dTry u i v D ρ ↔ u (fun ρ1 => i < ρ1.length ∧ v { nx := fun ρ2 => D.nx (ρ2.set i .un), rt := D.rt, bk := fun ρ2 => D.bk (ρ2.set i .un), ct := fun ρ2 => D.ct (ρ2.set i .un) } (ρ1.set i .un)) D ρ := Iff.rfl
theorem e_callX {F : FnE} {n : Nat} {Z : En → Prop} : dCallX F n Z as ρ Q ↔ as ρ fun ss ρ1 => ss.length = n ∧ F ss (fun s => Q s ρ1) (Z ρ1) := Iff.rfl
theorem e_callKX {F : FnE} {n : Nat} {gS : List S → List S} {Z : En → Prop} : dCallKX F n gS Z as ρ Q ↔ as ρ fun ss ρ1 => (gS ss).length = n ∧ F (gS ss) (fun s => Q s ρ1) (Z ρ1) := Iff.rfl
theorem e_notTu {Q : S → En → Prop} : dNotTu t ρ Q ↔ t ρ fun s ρ1 => ∃ xs, s = .d (.tuple xs) ∧ Q (.d (.bool xs.isEmpty)) ρ1 := Iff.rfl
end
end GB

set_option maxRecDepth 100000
namespace GB
open PySem PySem.Spec PyProof.Rows L2
/-! all, of a list of bools -/
def fAll : FN := fun xs Q => ∃ bs : List Bool, xs = [.list (bs.map .bool)] ∧ Q (.d (.bool (bs.all id)))
theorem c_all {X : Cx} {L : Lay} (hK : L.K = X.K) (gd : Good X) : CallR X (.builtin "all") (rN L fAll) := by
  intro pins s σ H vs us Q' I r q
  obtain ⟨xs, Q, b, ⟨bs, rfl, q⟩, fin⟩ := q
  obtain ⟨v, rfl, b1⟩ := brA1 hK b
  obtain ⟨a, ws, rfl, h1, h3⟩ := list_sq hK b1
  obtain rfl := br_bls h3
  exact cr_all gd.calm pins s σ H _ us Q' I r ⟨a, bs, rfl, h1, fin _ H (.d (.bool (bs.all id))) (Same.refl H) (.bl _) q⟩
/-! the truth of an int -/
def dIu (t : TEd) : TTd := fun ρ Q => t ρ fun s ρ1 => ∃ i : Int, s = .d (.int i) ∧ Q (i != 0) ρ1
theorem dt_iu {X : Cx} {L : Lay} {e : Expr} {t : TEd} (hK : L.K = X.K) (h : PE X e (tE L t)) (he : ∀ whole, isTrue e X.env whole = (do let v ← whole; standAt e.pos; holding [v] (truthy v)) := by intro _; rfl) : PT X e (tT L (dIu t)) :=
  (pt_truth h he).less fun σ H Q' h => by
    obtain ⟨ρ, Q, r0, q, fin⟩ := h
    refine (show tE L t σ H _ from ⟨ρ, _, r0, q, fun v H1 s ρ1 k1 r1 hv q1 => ?_⟩)
    obtain ⟨i, rfl, q2⟩ := q1
    have hv : Br L.K H1 v (.int i) := hv
    cases hv
    exact ⟨i != 0, (show (i != 0) = (i != 0) from rfl), fin _ H1 ρ1 k1 r1 q2⟩
theorem e_iu {t : TEd} {ρ : En} {Q : Bool → En → Prop} : dIu t ρ Q ↔ t ρ fun s ρ1 => intK s fun i => Q (i != 0) ρ1 := Iff.rfl
theorem e_irng2 {t u : TEd} {ρ : En} {QI : List PyData → En → Prop} : dIRng2 t u ρ QI ↔ t ρ fun s ρ1 => u ρ1 fun s2 ρ2 => intK s fun i => intK s2 fun j => (-(2 ^ 60) < i ∧ i < 2 ^ 60 ∧ -(2 ^ 60) < j ∧ j < 2 ^ 60) ∧ QI (irow i (j - i).toNat) ρ2 := by
  have e : ∀ (s1 s2 : S) (P : Int → Int → Prop), (∃ x y, s1 = .d (.int x) ∧ s2 = .d (.int y) ∧ P x y) ↔ (intK s1 fun x => intK s2 fun y => P x y) := fun s1 s2 P => ⟨fun ⟨x, y, a, b, h⟩ => ⟨x, a, y, b, h⟩, fun ⟨x, a, y, b, h⟩ => ⟨x, y, a, b, h⟩⟩
  unfold dIRng2
  simp only [e]
end GB

set_option maxRecDepth 100000
namespace GB
open PySem PySem.Spec PyProof.Rows L2
/-! a conditional as a test -/
theorem pt_cond {X : Cx} {c a b : Expr} {pos : Pos} {tc ta tb : TT} (hc : PT X c tc) (ha : PT X a ta) (hb : PT X b tb) : PT X (.IfExp c a b pos) (fun σ H Q => tc σ H fun k H1 => if k = true then ta σ H1 Q else tb σ H1 Q) := by
  constructor
  intro pins s σ H Q I h
  show wpAny _ _ (isTrue c X.env (eval c X.env) >>= fun k => if k = true then isTrue a X.env (eval a X.env) else isTrue b X.env (eval b X.env)) _ _ s
  refine wpAny_bind (thn (hc.run pins s σ H _ I h) fun k s1 z => ?_)
  obtain ⟨H1, I1, q1⟩ := z
  cases k with
  | true => exact ha.run pins s1 σ H1 Q I1 q1
  | false => exact hb.run pins s1 σ H1 Q I1 q1
def dIfT (t ta tb : TTd) : TTd := fun ρ Q => t ρ fun k ρ1 => if k = true then ta ρ1 Q else tb ρ1 Q
theorem dt_cond {X : Cx} {L : Lay} {c a b : Expr} {pos : Pos} {t ta tb : TTd} (hc : PT X c (tT L t)) (ha : PT X a (tT L ta)) (hb : PT X b (tT L tb)) : PT X (.IfExp c a b pos) (tT L (dIfT t ta tb)) := by
  refine (pt_cond hc ha hb).less fun σ H Q' h => ?_
  obtain ⟨ρ, Q, r0, q, fin⟩ := h
  refine ⟨ρ, _, r0, q, fun k H1 ρ1 k1 r1 q1 => ?_⟩
  cases k with
  | true => exact ⟨ρ1, _, r1, by simpa using q1, fun b H2 ρ2 k2 r2 q2 => fin b H2 ρ2 (k1.tr k2) r2 q2⟩
  | false => exact ⟨ρ1, _, r1, by simpa using q1, fun b H2 ρ2 k2 r2 q2 => fin b H2 ρ2 (k1.tr k2) r2 q2⟩
theorem e_ifT {t ta tb : TTd} {ρ : En} {Q : Bool → En → Prop} : dIfT t ta tb ρ Q ↔ t ρ fun b ρ1 => iteK b (ta ρ1 Q) (tb ρ1 Q) := Iff.rfl

/-! dicts, keys ints and texts -/
def lookD (kvs : List (Key × PyData)) (k : Key) : Option PyData := (kvs.find? fun p => decide (p.1 = k)).map (·.2)
def putD (kvs : List (Key × PyData)) (k : Key) (x : PyData) : List (Key × PyData) := if (kvs.any fun p => decide (p.1 = k)) = true then kvs.map (fun p => if p.1 = k then (p.1, x) else p) else kvs ++ [(k, x)]
abbrev dctD (kvs : List (Key × PyData)) : PyData := .dict (kvs.map fun p => (keyD p.1, p.2))
def keyO : PyData → Option Key
  | .int i => some (.inl i)
  | .str z => some (.inr z)
  | _ => none
theorem keyD_inj {a b : Key} (h : keyD a = keyD b) : a = b := by
  cases a <;> cases b <;> simp [keyD] at h <;> simp [h]
theorem keys_inj : ∀ {as bs : List Key}, as.map keyD = bs.map keyD → as = bs
  | [], [], _ => rfl
  | [], _ :: _, h => by simp at h
  | _ :: _, [], h => by simp at h
  | a :: as, b :: bs, h => by
    simp only [List.map_cons, List.cons.injEq] at h
    rw [keyD_inj h.1, keys_inj h.2]
theorem kvs_inj : ∀ {xs ys : List (Key × PyData)}, xs.map (fun p => (keyD p.1, p.2)) = ys.map (fun p => (keyD p.1, p.2)) → xs = ys
  | [], [], _ => rfl
  | [], _ :: _, h => by simp at h
  | _ :: _, [], h => by simp at h
  | p :: xs, q :: ys, h => by
    simp only [List.map_cons, List.cons.injEq, Prod.mk.injEq] at h
    obtain ⟨⟨h1, h2⟩, h3⟩ := h
    rw [kvs_inj h3]
    congr 1
    exact Prod.ext (keyD_inj h1) h2
theorem dctD_inj {xs ys : List (Key × PyData)} (h : dctD xs = dctD ys) : xs = ys := kvs_inj (PyData.dict.inj h)
def DR (L : Lay) (H : Hp) (a : Addr) (kvs : List (Key × PyData)) : Prop := ∃ vks : List (Key × V), Rd H a (.dK vks) ∧ kvs.map (·.1) = vks.map (·.1) ∧ BrA L.K H (vks.map (·.2)) (kvs.map (·.2))
section
variable {L : Lay} {H H' : Hp} {a : Addr} {kvs : List (Key × PyData)} {σ : L2.St} {ρ : En}
theorem look_rel {K : PySem.W.Frag} (k : Key) : ∀ {kvs : List (Key × PyData)} {vks : List (Key × V)}, kvs.map (·.1) = vks.map (·.1) → BrA K H (vks.map (·.2)) (kvs.map (·.2)) → (∀ x, lookD kvs k = some x → ∃ v, valV vks k = some v ∧ Br K H v x) ∧ (lookD kvs k = none → valV vks k = none)
  | [], [], _, _ => ⟨fun _ h => (nomatch h), fun _ => rfl⟩
  | [], _ :: _, h, _ => by simp at h
  | _ :: _, [], h, _ => by simp at h
  | p :: kvs, q :: vks, h, b => by
    simp only [List.map_cons, List.cons.injEq] at h
    cases b with
    | cons b1 b2 =>
      have ih := look_rel k h.2 b2
      unfold lookD valV
      rw [List.find?_cons, List.find?_cons, ← h.1]
      by_cases e : p.1 = k
      · rw [decide_eq_true e]
        exact ⟨fun x hx => ⟨q.2, rfl, by simp at hx; rw [← hx]; exact b1⟩, fun hx => by simp at hx⟩
      · rw [decide_eq_false e]
        exact ih
theorem DR.get (h : DR L H a kvs) (k : Key) : (∀ x, lookD kvs k = some x → ∃ v, DGet H a (kV k) (some v) ∧ Br L.K H v x) ∧ (lookD kvs k = none → DGet H a (kV k) none) := by
  obtain ⟨vks, h1, h2, h3⟩ := h
  obtain ⟨q1, q2⟩ := look_rel k h2 h3
  refine ⟨fun x hx => ?_, fun hx => .inl ⟨vks, k, h1, rfl, (q2 hx).symm⟩⟩
  obtain ⟨v, e, b⟩ := q1 x hx
  exact ⟨v, .inl ⟨vks, k, h1, rfl, e.symm⟩, b⟩
theorem DR.isD (h : DR L H a kvs) : IsD H a := by
  obtain ⟨vks, h1, _⟩ := h
  exact .inl ⟨vks, h1⟩
theorem dr_frz {v : V} (h : Br L.K H v (dctD kvs)) : ∃ a, v = .ref a ∧ DR L H a kvs := by
  cases h with
  | @dct a o vks _ h1 h2 h3 =>
    refine ⟨a, rfl, vks, .inr ⟨o, h1⟩, ?_, ?_⟩
    · refine keys_inj ?_
      rw [List.map_map, List.map_map]
      rw [List.map_map] at h2
      exact h2
    · rw [List.map_map] at h3
      exact h3
theorem dr_own (r : Rel L H σ ρ) {i : Nat} (h : ρ[i]? = some (.od kvs)) : ∃ a, ∃ vks : List (Key × V), σ[i]? = some (some (.ref a)) ∧ H a = some (.dK vks) ∧ kvs.map (·.1) = vks.map (·.1) ∧ BrA L.K H (vks.map (·.2)) (kvs.map (·.2)) ∧ L.H0 a = none := by
  obtain ⟨o, e, v, e2, l, vks, e3, h1, h2, h3⟩ := r.get h
  exact ⟨l, vks, by rw [e, e2, e3], h1, h2.1, h2.2, h3⟩
theorem key_br {u : V} {y : PyData} {k : Key} {K : PySem.W.Frag} (h : Br K H u y) (e : keyO y = some k) : u = kV k := by
  cases h <;> simp [keyO] at e <;> subst e <;> rfl
theorem put_rel {K : PySem.W.Frag} {k : Key} {x : PyData} {v : V} (b : Br K H v x) {kvs : List (Key × PyData)} {vks : List (Key × V)} (e : kvs.map (·.1) = vks.map (·.1)) (h : BrA K H (vks.map (·.2)) (kvs.map (·.2))) :
    (putD kvs k x).map (·.1) = (putK vks k v).map (·.1) ∧ BrA K H ((putK vks k v).map (·.2)) ((putD kvs k x).map (·.2)) := by
  have an : (kvs.any fun p => decide (p.1 = k)) = (vks.any fun p => decide (p.1 = k)) := by
    have q : (kvs.map (·.1)).any (fun j => decide (j = k)) = (vks.map (·.1)).any (fun j => decide (j = k)) := by rw [e]
    rw [List.any_map, List.any_map] at q
    exact q
  unfold putD putK
  rw [an]
  by_cases hk : (vks.any fun p => decide (p.1 = k)) = true
  · rw [if_pos hk, if_pos hk]
    clear an hk
    induction kvs generalizing vks with
    | nil => cases vks with
      | nil => exact ⟨rfl, .nil⟩
      | cons _ _ => simp at e
    | cons p kvs ih => cases vks with
      | nil => simp at e
      | cons q vks =>
        simp only [List.map_cons, List.cons.injEq] at e
        cases h with
        | cons h1 h2 =>
          obtain ⟨i1, i2⟩ := ih e.2 h2
          simp only [List.map_cons]
          have eq : q.1 = p.1 := e.1.symm
          by_cases z : p.1 = k
          · rw [if_pos z, if_pos (eq.trans z)]
            exact ⟨by simp only [e.1]; rw [i1], .cons b i2⟩
          · rw [if_neg z, if_neg (fun w => z (eq.symm.trans w))]
            exact ⟨by simp only [e.1]; rw [i1], .cons h1 i2⟩
  · rw [if_neg hk, if_neg hk]
    exact ⟨by rw [List.map_append, List.map_append, e]; rfl, by rw [List.map_append, List.map_append]; exact h.app (BrA.one b)⟩
end
/-! own dicts: readings -/
def dNewD : TEd := fun ρ Q => Q (.od []) ρ
def dPutO (i : Nat) (ti tv : TEd) : TSd := fun D ρ => tv ρ fun s ρ1 => ∃ x, s = .d x ∧ (∃ kvs, ρ1[i]? = some (.od kvs)) ∧ ti ρ1 fun s2 ρ2 => ∃ y, s2 = .d y ∧ ∃ k, keyO y = some k ∧ ∃ kvs, ρ2[i]? = some (.od kvs) ∧ kvs.length < sizeLine ∧ D.nx (ρ2.set i (.od (putD kvs k x)))
def dFixK (i : Nat) (t : TSd) : TSd := fun D ρ => ∃ kvs, ρ[i]? = some (.od kvs) ∧ t D (ρ.set i (.d (dctD kvs)))
/-- what is done with a dict and a key -/
abbrev GD := List (Key × PyData) → Key → (S → Prop) → Prop
def gItem : GD := fun kvs k Q => ∃ x, lookD kvs k = some x ∧ Q (.d x)
def gGet : GD := fun kvs k Q => Q (.d ((lookD kvs k).getD .none))
def gIn : GD := fun kvs k Q => Q (.d (.bool (lookD kvs k).isSome))
def gNotIn : GD := fun kvs k Q => Q (.d (.bool (!(lookD kvs k).isSome)))
/-- the dict ahead of the key: own, or firm -/
def dDkO (g : GD) (i : Nat) (ty : TEd) : TEd := fun ρ Q => (∃ kvs, ρ[i]? = some (.od kvs)) ∧ ty ρ fun s ρ1 => ∃ y, s = .d y ∧ ∃ k, keyO y = some k ∧ ∃ kvs, ρ1[i]? = some (.od kvs) ∧ g kvs k fun s => Q s ρ1
def dDkF (g : GD) (td ty : TEd) : TEd := fun ρ Q => td ρ fun s ρ1 => ∃ kvs, s = .d (dctD kvs) ∧ ty ρ1 fun s2 ρ2 => ∃ y, s2 = .d y ∧ ∃ k, keyO y = some k ∧ g kvs k fun s => Q s ρ2
/-- the key ahead of the dict -/
def dKdO (g : GD) (ty : TEd) (i : Nat) : TEd := fun ρ Q => ty ρ fun s ρ1 => ∃ y, s = .d y ∧ ∃ k, keyO y = some k ∧ ∃ kvs, ρ1[i]? = some (.od kvs) ∧ g kvs k fun s => Q s ρ1
def dKdF (g : GD) (ty td : TEd) : TEd := fun ρ Q => ty ρ fun s ρ1 => ∃ y, s = .d y ∧ ∃ k, keyO y = some k ∧ td ρ1 fun s2 ρ2 => ∃ kvs, s2 = .d (dctD kvs) ∧ g kvs k fun s => Q s ρ2
def dGet2O (i : Nat) (ty tz : TEd) : TEd := fun ρ Q => (∃ kvs, ρ[i]? = some (.od kvs)) ∧ ty ρ fun s ρ1 => ∃ y, s = .d y ∧ ∃ k, keyO y = some k ∧ tz ρ1 fun s2 ρ2 => ∃ z, s2 = .d z ∧ ∃ kvs, ρ2[i]? = some (.od kvs) ∧ Q (.d ((lookD kvs k).getD z)) ρ2
def dGet2F (td ty tz : TEd) : TEd := fun ρ Q => td ρ fun s ρ1 => ∃ kvs, s = .d (dctD kvs) ∧ ty ρ1 fun s2 ρ2 => ∃ y, s2 = .d y ∧ ∃ k, keyO y = some k ∧ tz ρ2 fun s3 ρ3 => ∃ z, s3 = .d z ∧ Q (.d ((lookD kvs k).getD z)) ρ3
section
variable {X : Cx} {L : Lay} {o e f iE v : Expr} {pos p1 apos cpos : Pos} {i : Nat} {td ty tz ti tv t : TEd}
theorem de_newD : PE X (.Dict [] [] pos) (tE L dNewD) := pe_dnewK.less fun σ H Q' q p hp => by
  obtain ⟨ρ, Q, r, q, fin⟩ := q
  have sm := same_new (o := .dK []) hp
  exact fin _ _ (.od []) ρ (Go.sm sm) (r.go sm) ⟨⟨p, [], rfl, upd_same, ⟨rfl, .nil⟩, r.same.free hp⟩, fun l e => by cases e; exact hp⟩ q
theorem ds_putO (gd : Good X) (ho : PE X o (tVar i)) (hi : PE X iE (tE L ti)) (hv : PE X v (tE L tv)) (hs : swapsWith v (some (.Subscript o iE p1)) pos.line X.env = pure false := by rfl) :
    PS X (.Assign [.Subscript o iE p1] v pos) (tS L (dPutO i ti tv)) :=
  (ps_dput (by have := gd.un; omega) ho hi hv hs).less fun D σ H q => by
    obtain ⟨ρ, De, r, q, n1, _⟩ := q
    refine ⟨ρ, _, r, q, fun v H1 s ρ1 go r1 hv q1 => ?_⟩
    obtain ⟨x, rfl, ⟨kvs0, e0⟩, q2⟩ := q1
    obtain ⟨a, vks0, ha, _⟩ := dr_own r1 e0
    refine ⟨.ref a, ha, ρ1, _, r1, q2, fun u H2 s2 ρ2 go2 r2 hu q3 => ?_⟩
    obtain ⟨y, rfl, k, hk, kvs, ek, hl, q4⟩ := q3
    obtain ⟨a', vks, ha', h1, h2, h3, h0⟩ := dr_own r2 ek
    rw [ha] at ha'; cases ha'
    have hu := key_br hu hk
    subst hu
    have hv2 : Br L.K H2 v x := Br.keep (go2.keep r1) _ _ hv
    have len : vks.length = kvs.length := by have := congrArg List.length h2; simpa using this.symm
    refine ⟨a, _, rfl, DPut.k h1 (by rw [len]; exact hl), ?_⟩
    obtain ⟨r3, k3⟩ := r2.putW (w := .dK (putK vks k v)) (ys := .k (putD kvs k x)) ek ha h1 trivial fun kk _ => by
      obtain ⟨g1, g2⟩ := put_rel (k := k) hv2 h2 h3
      exact ⟨a, _, rfl, upd_same, ⟨g1, BrA.keep kk _ _ g2⟩, h0⟩
    exact n1 _ _ _ (((go.keep r).tr (go2.keep r1)).tr k3) r3 q4
theorem dss_fixK (g : Good X) {sts : List Stmt} {t : TSd} (i : Nat) (h : PSs X sts (tS L t)) : PSs X sts (tS L (dFixK i t)) := by
  constructor
  intro pins s σ H D I q
  obtain ⟨ρ, De, r, ⟨kvs, e, q⟩, h1, h2, h3, h4⟩ := q
  obtain ⟨l, vks, hi, hl, _⟩ := dr_own r e
  obtain ⟨o, I2⟩ := fix_inv I hl trivial
  obtain ⟨r2, b2⟩ := r.fixInK (o := o) e hi hl
  have k := keep_fix (o := o) hl trivial
  exact h.run pins s σ _ D I2 ⟨_, De, r2, q, fun σ2 H2 ρ2 k2 => h1 σ2 H2 ρ2 (k.tr k2), fun v H2 s k2 => h2 v H2 s (k.tr k2), fun σ2 H2 ρ2 k2 => h3 σ2 H2 ρ2 (k.tr k2), fun σ2 H2 ρ2 k2 => h4 σ2 H2 ρ2 (k.tr k2)⟩
/-- one answer for all four looks -/
theorem look_item {H : Hp} {a : Addr} {kvs : List (Key × PyData)} {k : Key} {Q : S → Prop} (d : DR L H a kvs) (q : gItem kvs k Q) : ∃ v, DGet H a (kV k) (some v) ∧ ∃ x, Br L.K H v x ∧ Q (.d x) := by
  obtain ⟨x, hx, q⟩ := q
  obtain ⟨v, g, b⟩ := (d.get k).1 x hx
  exact ⟨v, g, x, b, q⟩
theorem look_get {H : Hp} {a : Addr} {kvs : List (Key × PyData)} (k : Key) (d : DR L H a kvs) {z : PyData} {vz : V} (bz : Br L.K H vz z) : ∃ o, DGet H a (kV k) o ∧ Br L.K H (o.getD vz) ((lookD kvs k).getD z) ∧ o.isSome = (lookD kvs k).isSome := by
  cases h : lookD kvs k with
  | none => exact ⟨none, (d.get k).2 h, bz, rfl⟩
  | some x =>
    obtain ⟨v, g, b⟩ := (d.get k).1 x h
    exact ⟨some v, g, b, rfl⟩
theorem own_dr {H : Hp} {σ : L2.St} {ρ : En} (r : Rel L H σ ρ) {kvs : List (Key × PyData)} {a : Addr} (e : ρ[i]? = some (.od kvs)) (ha : σ[i]? = some (some (.ref a))) : DR L H a kvs := by
  obtain ⟨a', vks, ha', h1, h2, h3, _⟩ := dr_own r e
  rw [ha] at ha'; cases ha'
  exact ⟨vks, .inl h1, h2, h3⟩
theorem DR.keep {H H' : Hp} {v : V} {kvs : List (Key × PyData)} (k : Keep H H') (h : Br L.K H v (dctD kvs)) : ∃ a, v = .ref a ∧ DR L H' a kvs := dr_frz (Br.keep k _ _ h)
theorem de_itemO (gd : Good X) (ho : PE X o (tVar i)) (hi : PE X iE (tE L ty)) (hs : NoSl iE := by intro _ _; rfl) : PE X (.Subscript o iE pos) (tE L (dDkO gItem i ty)) :=
  (pe_dget (by have := gd.un; omega) ho hi hs).less fun σ H Q' q => by
    obtain ⟨ρ, Q, r, ⟨⟨kvs0, e0⟩, q⟩, fin⟩ := q
    obtain ⟨a, vks0, ha, _⟩ := dr_own r e0
    refine ⟨.ref a, ha, ρ, _, r, q, fun u H2 s2 ρ2 go2 r2 hu q3 => ?_⟩
    obtain ⟨y, rfl, k, hk, kvs, ek, q4⟩ := q3
    have hu := key_br hu hk
    subst hu
    obtain ⟨v, g, x, b, q5⟩ := look_item (own_dr r2 ek ha) q4
    exact ⟨a, v, rfl, g, fin v H2 (.d x) ρ2 go2 r2 b q5⟩
theorem de_itemF (gd : Good X) (ho : PE X o (tE L td)) (hi : PE X iE (tE L ty)) (hs : NoSl iE := by intro _ _; rfl) : PE X (.Subscript o iE pos) (tE L (dDkF gItem td ty)) :=
  (pe_dget (by have := gd.un; omega) ho hi hs).less fun σ H Q' q => by
    obtain ⟨ρ, Q, r, q, fin⟩ := q
    refine ⟨ρ, _, r, q, fun w H1 s1 ρ1 go1 r1 hw q1 => ?_⟩
    obtain ⟨kvs, rfl, q2⟩ := q1
    refine ⟨ρ1, _, r1, q2, fun u H2 s2 ρ2 go2 r2 hu q3 => ?_⟩
    obtain ⟨y, rfl, k, hk, q4⟩ := q3
    have hu := key_br hu hk
    subst hu
    obtain ⟨a, rfl, d⟩ := DR.keep (go2.keep r1) hw
    obtain ⟨v, g, x, b, q5⟩ := look_item d q4
    exact ⟨a, v, rfl, g, fin v H2 (.d x) ρ2 (go1.tr go2) r2 b q5⟩
theorem de_getO (gd : Good X) (ho : PE X o (tVar i)) (hi : PE X e (tE L ty)) (m : M1 X o "get" apos e cpos := by exact ⟨rfl, rfl, rfl, rfl⟩) : PE X (.Call (.Attribute o "get" apos) [e] [] cpos) (tE L (dDkO gGet i ty)) :=
  (pe_dget1 (by have := gd.un; omega) ho hi m).less fun σ H Q' q => by
    obtain ⟨ρ, Q, r, ⟨⟨kvs0, e0⟩, q⟩, fin⟩ := q
    obtain ⟨a, vks0, ha, _⟩ := dr_own r e0
    refine ⟨.ref a, ha, a, rfl, (own_dr r e0 ha).isD, ρ, _, r, q, fun u H2 s2 ρ2 go2 r2 hu q3 => ?_⟩
    obtain ⟨y, rfl, k, hk, kvs, ek, q4⟩ := q3
    have hu := key_br hu hk
    subst hu
    obtain ⟨o, g, b, _⟩ := look_get k (own_dr r2 ek ha) .non
    exact ⟨o, g, fin _ H2 (.d _) ρ2 go2 r2 b q4⟩
theorem de_getF (gd : Good X) (ho : PE X o (tE L td)) (hi : PE X e (tE L ty)) (m : M1 X o "get" apos e cpos := by exact ⟨rfl, rfl, rfl, rfl⟩) : PE X (.Call (.Attribute o "get" apos) [e] [] cpos) (tE L (dDkF gGet td ty)) :=
  (pe_dget1 (by have := gd.un; omega) ho hi m).less fun σ H Q' q => by
    obtain ⟨ρ, Q, r, q, fin⟩ := q
    refine ⟨ρ, _, r, q, fun w H1 s1 ρ1 go1 r1 hw q1 => ?_⟩
    obtain ⟨kvs, rfl, q2⟩ := q1
    obtain ⟨a, rfl, d1⟩ := dr_frz hw
    refine ⟨a, rfl, d1.isD, ρ1, _, r1, q2, fun u H2 s2 ρ2 go2 r2 hu q3 => ?_⟩
    obtain ⟨y, rfl, k, hk, q4⟩ := q3
    have hu := key_br hu hk
    subst hu
    obtain ⟨a', ea, d⟩ := DR.keep (go2.keep r1) hw
    cases ea
    obtain ⟨o, g, b, _⟩ := look_get k d .non
    exact ⟨o, g, fin _ H2 (.d _) ρ2 (go1.tr go2) r2 b q4⟩
theorem de_get2O (gd : Good X) (ho : PE X o (tVar i)) (hi : PE X e (tE L ty)) (hf : PE X f (tE L tz)) (m : M2 X o "get" apos e f cpos := by exact ⟨rfl, rfl, rfl, rfl⟩) : PE X (.Call (.Attribute o "get" apos) [e, f] [] cpos) (tE L (dGet2O i ty tz)) :=
  (pe_dget2 (by have := gd.un; omega) ho hi hf m).less fun σ H Q' q => by
    obtain ⟨ρ, Q, r, ⟨⟨kvs0, e0⟩, q⟩, fin⟩ := q
    obtain ⟨a, vks0, ha, _⟩ := dr_own r e0
    refine ⟨.ref a, ha, a, rfl, (own_dr r e0 ha).isD, ρ, _, r, q, fun u H2 s2 ρ2 go2 r2 hu q3 => ?_⟩
    obtain ⟨y, rfl, k, hk, q4⟩ := q3
    have hu := key_br hu hk
    subst hu
    refine ⟨ρ2, _, r2, q4, fun vz H3 s3 ρ3 go3 r3 hz q5 => ?_⟩
    obtain ⟨z, rfl, kvs, ek, q6⟩ := q5
    obtain ⟨o, g, b, _⟩ := look_get k (own_dr r3 ek ha) hz
    exact ⟨o, g, fin _ H3 (.d _) ρ3 (go2.tr go3) r3 b q6⟩
theorem de_get2F (gd : Good X) (ho : PE X o (tE L td)) (hi : PE X e (tE L ty)) (hf : PE X f (tE L tz)) (m : M2 X o "get" apos e f cpos := by exact ⟨rfl, rfl, rfl, rfl⟩) : PE X (.Call (.Attribute o "get" apos) [e, f] [] cpos) (tE L (dGet2F td ty tz)) :=
  (pe_dget2 (by have := gd.un; omega) ho hi hf m).less fun σ H Q' q => by
    obtain ⟨ρ, Q, r, q, fin⟩ := q
    refine ⟨ρ, _, r, q, fun w H1 s1 ρ1 go1 r1 hw q1 => ?_⟩
    obtain ⟨kvs, rfl, q2⟩ := q1
    obtain ⟨a, rfl, d1⟩ := dr_frz hw
    refine ⟨a, rfl, d1.isD, ρ1, _, r1, q2, fun u H2 s2 ρ2 go2 r2 hu q3 => ?_⟩
    obtain ⟨y, rfl, k, hk, q4⟩ := q3
    have hu := key_br hu hk
    subst hu
    refine ⟨ρ2, _, r2, q4, fun vz H3 s3 ρ3 go3 r3 hz q5 => ?_⟩
    obtain ⟨z, rfl, q6⟩ := q5
    obtain ⟨a', ea, d⟩ := DR.keep ((go2.tr go3).keep r1) hw
    cases ea
    obtain ⟨o, g, b, _⟩ := look_get k d hz
    exact ⟨o, g, fin _ H3 (.d _) ρ3 ((go1.tr go2).tr go3) r3 b q6⟩
theorem kd_own {Q' : VK} {σ : L2.St} {H : Hp} (g : GD) (F : Bool → Bool) (hg : ∀ kvs k Q, g kvs k Q → Q (.d (.bool (F (lookD kvs k).isSome)))) (q : tE L (dKdO g ty i) σ H Q') :
    tE L ty σ H fun y H1 => tVar i σ H1 fun x H2 => ∃ a o, x = .ref a ∧ DGet H2 a y o ∧ Q' (.bl (F o.isSome)) H2 := by
  obtain ⟨ρ, Q, r, q, fin⟩ := q
  refine ⟨ρ, _, r, q, fun u H2 s2 ρ2 go2 r2 hu q3 => ?_⟩
  obtain ⟨y, rfl, k, hk, kvs, ek, q4⟩ := q3
  have hu := key_br hu hk
  subst hu
  obtain ⟨a, vks, ha, _⟩ := dr_own r2 ek
  obtain ⟨o, g', _, e⟩ := look_get k (own_dr r2 ek ha) (z := .none) .non
  exact ⟨.ref a, ha, a, o, rfl, g', fin _ H2 (.d (.bool (F o.isSome))) ρ2 go2 r2 (.bl _) (by rw [e]; exact hg _ _ _ q4)⟩
theorem kd_frz {Q' : VK} {σ : L2.St} {H : Hp} (g : GD) (F : Bool → Bool) (hg : ∀ kvs k Q, g kvs k Q → Q (.d (.bool (F (lookD kvs k).isSome)))) (q : tE L (dKdF g ty td) σ H Q') :
    tE L ty σ H fun y H1 => tE L td σ H1 fun x H2 => ∃ a o, x = .ref a ∧ DGet H2 a y o ∧ Q' (.bl (F o.isSome)) H2 := by
  obtain ⟨ρ, Q, r, q, fin⟩ := q
  refine ⟨ρ, _, r, q, fun u H1 s1 ρ1 go1 r1 hu q3 => ?_⟩
  obtain ⟨y, rfl, k, hk, q4⟩ := q3
  have hu := key_br hu hk
  subst hu
  refine ⟨ρ1, _, r1, q4, fun w H2 s2 ρ2 go2 r2 hw q5 => ?_⟩
  obtain ⟨kvs, rfl, q6⟩ := q5
  obtain ⟨a, rfl, d⟩ := dr_frz hw
  obtain ⟨o, g', _, e⟩ := look_get k d (z := .none) .non
  exact ⟨a, o, rfl, g', fin _ H2 (.d (.bool (F o.isSome))) ρ2 (go1.tr go2) r2 (.bl _) (by rw [e]; exact hg _ _ _ q6)⟩
theorem de_inO (gd : Good X) (hi : PE X e (tE L ty)) (ho : PE X o (tVar i)) (hm : behindInMarks .In o = false := by rfl) : PE X (.Compare e [.In] [o] pos) (tE L (dKdO gIn ty i)) := (pe_cmp (pc_din (by have := gd.un; omega) hi ho) hm).less fun _ _ _ q => kd_own gIn id (fun _ _ _ h => h) q
theorem de_notInO (gd : Good X) (hi : PE X e (tE L ty)) (ho : PE X o (tVar i)) (hm : behindInMarks .NotIn o = false := by rfl) : PE X (.Compare e [.NotIn] [o] pos) (tE L (dKdO gNotIn ty i)) := (pe_cmp (pc_dnotin (by have := gd.un; omega) hi ho) hm).less fun _ _ _ q => kd_own gNotIn (fun b => !b) (fun _ _ _ h => h) q
theorem de_inF (gd : Good X) (hi : PE X e (tE L ty)) (ho : PE X o (tE L td)) (hm : behindInMarks .In o = false := by rfl) : PE X (.Compare e [.In] [o] pos) (tE L (dKdF gIn ty td)) := (pe_cmp (pc_din (by have := gd.un; omega) hi ho) hm).less fun _ _ _ q => kd_frz gIn id (fun _ _ _ h => h) q
theorem de_notInF (gd : Good X) (hi : PE X e (tE L ty)) (ho : PE X o (tE L td)) (hm : behindInMarks .NotIn o = false := by rfl) : PE X (.Compare e [.NotIn] [o] pos) (tE L (dKdF gNotIn ty td)) := (pe_cmp (pc_dnotin (by have := gd.un; omega) hi ho) hm).less fun _ _ _ q => kd_frz gNotIn (fun b => !b) (fun _ _ _ h => h) q
theorem dt_inO (gd : Good X) (hi : PE X e (tE L ty)) (ho : PE X o (tVar i)) (hm : behindInMarks .In o = false := by rfl) : PT X (.Compare e [.In] [o] pos) (tT L (dB (dKdO gIn ty i))) := (pt_cmp (pc_din (by have := gd.un; omega) hi ho) hm).less (tT_of fun _ _ _ q => kd_own gIn id (fun _ _ _ h => h) q)
theorem dt_notInO (gd : Good X) (hi : PE X e (tE L ty)) (ho : PE X o (tVar i)) (hm : behindInMarks .NotIn o = false := by rfl) : PT X (.Compare e [.NotIn] [o] pos) (tT L (dB (dKdO gNotIn ty i))) := (pt_cmp (pc_dnotin (by have := gd.un; omega) hi ho) hm).less (tT_of fun _ _ _ q => kd_own gNotIn (fun b => !b) (fun _ _ _ h => h) q)
theorem dt_inF (gd : Good X) (hi : PE X e (tE L ty)) (ho : PE X o (tE L td)) (hm : behindInMarks .In o = false := by rfl) : PT X (.Compare e [.In] [o] pos) (tT L (dB (dKdF gIn ty td))) := (pt_cmp (pc_din (by have := gd.un; omega) hi ho) hm).less (tT_of fun _ _ _ q => kd_frz gIn id (fun _ _ _ h => h) q)
theorem dt_notInF (gd : Good X) (hi : PE X e (tE L ty)) (ho : PE X o (tE L td)) (hm : behindInMarks .NotIn o = false := by rfl) : PT X (.Compare e [.NotIn] [o] pos) (tT L (dB (dKdF gNotIn ty td))) := (pt_cmp (pc_dnotin (by have := gd.un; omega) hi ho) hm).less (tT_of fun _ _ _ q => kd_frz gNotIn (fun b => !b) (fun _ _ _ h => h) q)
/-- an own thing is handed back as it is -/
def dRetO (i : Nat) : TSd := fun D ρ => ∃ o, ρ[i]? = some (.ow o) ∧ D.rt (.ow o)
theorem ds_retO (h : PE X e (tVar i)) : PS X (.Return (some e) pos) (tS L (dRetO i)) := (ps_ret h).less fun D σ H q => by
  obtain ⟨ρ, De, r, ⟨o, e, q⟩, h1, h2, h3, h4⟩ := q
  obtain ⟨_, e1, v, e2, w⟩ := r.get e
  exact ⟨v, by rw [e1, e2], h2 v H (.ow o) (Keep.rfl' H) r.same w q⟩
end
end GB

set_option maxRecDepth 100000
namespace GB
open PySem PySem.Spec PyProof.Rows L2
/-! dicts as they are gone through: list(d), sorted(d), len(d) -/
def ListD (f : List (Key × PyData) → (S → Prop) → Prop) (i : Nat) : TEd := fun ρ Q => ∃ kvs, ρ[i]? = some (.od kvs) ∧ f kvs fun s => Q s ρ
def ListF (f : List (Key × PyData) → (S → Prop) → Prop) (t : TEd) : TEd := fun ρ Q => t ρ fun s ρ1 => ∃ kvs, s = .d (dctD kvs) ∧ f kvs fun s => Q s ρ1
def hList (kvs : List (Key × PyData)) (Q : S → Prop) : Prop := Q (.own (kvs.map fun p => keyD p.1))
def hLen (kvs : List (Key × PyData)) (Q : S → Prop) : Prop := Q (.d (.int kvs.length))
def hSort (kvs : List (Key × PyData)) (Q : S → Prop) : Prop := ∃ ks : List Int, kvs.map (·.1) = ks.map Sum.inl ∧ ks.length < 64 ∧ ∀ ys : List Int, ys.Perm ks → ys.Pairwise (· ≤ ·) → Q (.own (ys.map .int))
def rDct (L : Lay) (f : List (Key × PyData) → (S → Prop) → Prop) : List V → Hp → VK → Prop := fun vs H Q' => ∃ a kvs Q, vs = [.ref a] ∧ DR L H a kvs ∧ f kvs Q ∧ ∀ w H' s, Same H H' → NR L H H' w s → Q s → Q' w H'
section
variable {X : Cx} {L : Lay} {pos p : Pos} {e : Expr} {i : Nat} {t : TEd} {f : List (Key × PyData) → (S → Prop) → Prop}
theorem dct_own {r : List V → Hp → VK → Prop} (hr : ∀ v H Q, rDct L f v H Q → r v H Q) : ∀ σ H Q, tE L (ListD f i) σ H Q → tCB r (tCons (tVar i) tNil) σ H Q := fun σ H Q' h => by
  obtain ⟨ρ, Q, r0, ⟨kvs, ek, q⟩, fin⟩ := h
  obtain ⟨a, vks, ha, _⟩ := dr_own r0 ek
  exact ⟨.ref a, ha, hr _ _ _ ⟨a, kvs, _, rfl, own_dr r0 ek ha, q, fun w H2 s sm nr q3 => fin w H2 s ρ (Go.sm sm) (r0.go sm) (nr.vr r0 sm Go.rf) q3⟩⟩
theorem dct_frz {r : List V → Hp → VK → Prop} (hr : ∀ v H Q, rDct L f v H Q → r v H Q) : ∀ σ H Q, tE L (ListF f t) σ H Q → tCB r (tCons (tE L t) tNil) σ H Q := fun σ H Q' h => by
  obtain ⟨ρ, Q, r0, q, fin⟩ := h
  refine ⟨ρ, _, r0, q, fun w H1 s1 ρ1 go1 r1 hw q1 => ?_⟩
  obtain ⟨kvs, rfl, q2⟩ := q1
  obtain ⟨a, rfl, d⟩ := dr_frz hw
  exact hr _ _ _ ⟨a, kvs, _, rfl, d, q2, fun w H2 s sm nr q3 => fin w H2 s ρ1 (go1.tr (Go.sm sm)) (r1.go sm) (nr.vr r1 sm go1) q3⟩
theorem br_keys {K : PySem.W.Frag} {H : Hp} : ∀ {kvs : List (Key × PyData)} {vks : List (Key × V)}, kvs.map (·.1) = vks.map (·.1) → BrA K H (vks.map fun q => kV q.1) (kvs.map fun q => keyD q.1)
  | [], [], _ => .nil
  | [], _ :: _, h => by simp at h
  | _ :: _, [], h => by simp at h
  | p :: kvs, q :: vks, h => by
    simp only [List.map_cons, List.cons.injEq] at h
    refine .cons (show Br K H (kV q.1) (keyD p.1) from ?_) (br_keys h.2)
    rw [h.1]
    rcases q with ⟨k, w⟩
    cases k with
    | inl i => exact .int i
    | inr z => exact .str z
theorem c_listD (gd : Good X) : CallR X (.type "list") (rDct L hList) := by
  intro pins s σ H vs us Q' I r q
  obtain ⟨a, kvs, Q, rfl, ⟨vks, h1, h2, h3⟩, q, fin⟩ := q
  exact call_listD gd.calm pins s σ H _ us Q' I r ⟨a, vks, rfl, h1, fun p hp => fin _ _ (.own _) (same_new hp) ⟨p, _, rfl, hp, upd_same, br_keys h2⟩ q⟩
theorem br_intsD {K : PySem.W.Frag} {H : Hp} : ∀ ys : List Int, BrA K H (ys.map V.int) (ys.map PyData.int)
  | [] => .nil
  | y :: ys => .cons (.int y) (br_intsD ys)
theorem c_sortD (gd : Good X) : CallR X (.builtin "sorted") (rDct L hSort) := by
  intro pins s σ H vs us Q' I r q
  obtain ⟨a, kvs, Q, rfl, ⟨vks, h1, h2, h3⟩, ⟨ks, k1, k2, q⟩, fin⟩ := q
  exact call_sortedDI gd.calm pins s σ H _ us Q' I r ⟨a, vks, ks, rfl, h1, by rw [← h2, k1], k2, fun ys p y1 y2 hp => fin _ _ (.own (ys.map .int)) (same_new hp) ⟨p, _, rfl, hp, upd_same, br_intsD ys⟩ (q ys y1 y2)⟩
theorem de_listO (gd : Good X) (hg : Gl X "list") (hm : X.mg "list" = none) (hx : PE X e (tVar i)) (h1 : starEach (e :: []) X.env = (false, eval e X.env) :: starEach [] X.env := by rfl) (hpl : (backTo pos (starEach [] X.env)).any (·.1) = false := by rfl) :
    PE X (.Call (.Name "list" p) [e] [] pos) (tE L (ListD hList i)) := (pe_callTy (c_listD (L := L) gd) hg hm (by decide +kernel) (pa_cons hx pa_nil h1) (by decide) (by decide) h1 hpl).less (dct_own fun _ _ _ q => q)
theorem de_listF (gd : Good X) (hg : Gl X "list") (hm : X.mg "list" = none) (hx : PE X e (tE L t)) (h1 : starEach (e :: []) X.env = (false, eval e X.env) :: starEach [] X.env := by rfl) (hpl : (backTo pos (starEach [] X.env)).any (·.1) = false := by rfl) :
    PE X (.Call (.Name "list" p) [e] [] pos) (tE L (ListF hList t)) := (pe_callTy (c_listD (L := L) gd) hg hm (by decide +kernel) (pa_cons hx pa_nil h1) (by decide) (by decide) h1 hpl).less (dct_frz fun _ _ _ q => q)
theorem de_sortO (gd : Good X) (hg : Gl X "sorted") (hm : X.mg "sorted" = none) (hx : PE X e (tVar i)) (h1 : starEach (e :: []) X.env = (false, eval e X.env) :: starEach [] X.env := by rfl) (hpl : (backTo pos (starEach [] X.env)).any (·.1) = false := by rfl) :
    PE X (.Call (.Name "sorted" p) [e] [] pos) (tE L (ListD hSort i)) := (pe_callB (c_sortD (L := L) gd) hg hm (by decide +kernel) (pa_cons hx pa_nil h1) (by decide) (by decide) h1 hpl).less (dct_own fun _ _ _ q => q)
theorem de_sortF (gd : Good X) (hg : Gl X "sorted") (hm : X.mg "sorted" = none) (hx : PE X e (tE L t)) (h1 : starEach (e :: []) X.env = (false, eval e X.env) :: starEach [] X.env := by rfl) (hpl : (backTo pos (starEach [] X.env)).any (·.1) = false := by rfl) :
    PE X (.Call (.Name "sorted" p) [e] [] pos) (tE L (ListF hSort t)) := (pe_callB (c_sortD (L := L) gd) hg hm (by decide +kernel) (pa_cons hx pa_nil h1) (by decide) (by decide) h1 hpl).less (dct_frz fun _ _ _ q => q)
end
/-! from without -/
def odK (s : S) (k : List (Key × PyData) → Prop) : Prop := ∃ kvs, s = .od kvs ∧ k kvs
def dctK (s : S) (k : List (Key × PyData) → Prop) : Prop := ∃ kvs, s = .d (dctD kvs) ∧ k kvs
def keyK (y : PyData) (p : Key → Prop) : Prop := ∃ k, keyO y = some k ∧ p k
section
variable {ρ : En} {Q : S → En → Prop} {D : EndsD} {i : Nat} {t ty td tz tv ti : TEd} {g : GD} {f : List (Key × PyData) → (S → Prop) → Prop}
theorem od_o {kvs : List (Key × PyData)} {k : List (Key × PyData) → Prop} : odK (.od kvs) k ↔ k kvs := ⟨fun ⟨_, e, h⟩ => by cases e; exact h, fun h => ⟨_, rfl, h⟩⟩
theorem dct_d {kvs : List (Key × PyData)} {k : List (Key × PyData) → Prop} : dctK (.d (dctD kvs)) k ↔ k kvs := ⟨fun ⟨_, e, h⟩ => by rw [dctD_inj (S.d.inj e)]; exact h, fun h => ⟨_, rfl, h⟩⟩
theorem key_int {n : Int} {p : Key → Prop} : keyK (.int n) p ↔ p (.inl n) := ⟨fun ⟨_, e, h⟩ => by cases e; exact h, fun h => ⟨_, rfl, h⟩⟩
theorem key_str {n : Str} {p : Key → Prop} : keyK (.str n) p ↔ p (.inr n) := ⟨fun ⟨_, e, h⟩ => by cases e; exact h, fun h => ⟨_, rfl, h⟩⟩
theorem e_newD : dNewD ρ Q ↔ Q (.od []) ρ := Iff.rfl
theorem e_retO : dRetO i D ρ ↔ atK ρ i fun s => ∃ o, s = .ow o ∧ D.rt (.ow o) := ⟨fun ⟨o, e, h⟩ => ⟨_, e, o, rfl, h⟩, fun ⟨_, e, o, z, h⟩ => ⟨o, z ▸ e, h⟩⟩
theorem ow_ex {o : Ow} {k : S → Prop} : (∃ o', S.ow o = .ow o' ∧ k (.ow o')) ↔ k (.ow o) := ⟨fun ⟨_, e, h⟩ => by cases e; exact h, fun h => ⟨_, rfl, h⟩⟩
theorem e_fixK {a : TSd} : dFixK i a D ρ ↔ atK ρ i fun s => odK s fun kvs => setK (a D) ρ i (.d (dctD kvs)) := ⟨fun ⟨kvs, e, h⟩ => ⟨_, e, kvs, rfl, h⟩, fun ⟨_, e, kvs, z, h⟩ => ⟨kvs, z ▸ e, h⟩⟩
theorem at_od {k : List (Key × PyData) → Prop} : (∃ kvs, ρ[i]? = some (.od kvs) ∧ k kvs) ↔ atK ρ i fun s => odK s k := ⟨fun ⟨kvs, e, h⟩ => ⟨_, e, kvs, rfl, h⟩, fun ⟨_, e, kvs, z, h⟩ => ⟨kvs, z ▸ e, h⟩⟩
theorem at_od0 : (∃ kvs, ρ[i]? = some (.od kvs)) ↔ atK ρ i fun s => odK s fun _ => True := ⟨fun ⟨kvs, e⟩ => ⟨_, e, kvs, rfl, trivial⟩, fun ⟨_, e, kvs, z, h⟩ => ⟨kvs, z ▸ e⟩⟩
theorem e_putO : dPutO i ti tv D ρ ↔ tv ρ fun s ρ1 => oneK s fun x => (atK ρ1 i fun o => odK o fun _ => True) ∧ ti ρ1 fun s2 ρ2 => oneK s2 fun y => keyK y fun k => atK ρ2 i fun o => odK o fun kvs => kvs.length < sizeLine ∧ setK D.nx ρ2 i (.od (putD kvs k x)) := by
  unfold dPutO
  simp only [at_od, at_od0]
  exact Iff.rfl
theorem e_dkO : dDkO g i ty ρ Q ↔ (atK ρ i fun o => odK o fun _ => True) ∧ ty ρ fun s ρ1 => oneK s fun y => keyK y fun k => atK ρ1 i fun o => odK o fun kvs => g kvs k fun s => Q s ρ1 := by
  unfold dDkO
  simp only [at_od, at_od0]
  exact Iff.rfl
theorem e_dkF : dDkF g td ty ρ Q ↔ td ρ fun s ρ1 => dctK s fun kvs => ty ρ1 fun s2 ρ2 => oneK s2 fun y => keyK y fun k => g kvs k fun s => Q s ρ2 := Iff.rfl
theorem e_kdO : dKdO g ty i ρ Q ↔ ty ρ fun s ρ1 => oneK s fun y => keyK y fun k => atK ρ1 i fun o => odK o fun kvs => g kvs k fun s => Q s ρ1 := by
  unfold dKdO
  simp only [at_od]
  exact Iff.rfl
theorem e_kdF : dKdF g ty td ρ Q ↔ ty ρ fun s ρ1 => oneK s fun y => keyK y fun k => td ρ1 fun s2 ρ2 => dctK s2 fun kvs => g kvs k fun s => Q s ρ2 := Iff.rfl
theorem e_get2O : dGet2O i ty tz ρ Q ↔ (atK ρ i fun o => odK o fun _ => True) ∧ ty ρ fun s ρ1 => oneK s fun y => keyK y fun k => tz ρ1 fun s2 ρ2 => oneK s2 fun z => atK ρ2 i fun o => odK o fun kvs => Q (.d ((lookD kvs k).getD z)) ρ2 := by
  unfold dGet2O
  simp only [at_od, at_od0]
  exact Iff.rfl
theorem e_get2F : dGet2F td ty tz ρ Q ↔ td ρ fun s ρ1 => dctK s fun kvs => ty ρ1 fun s2 ρ2 => oneK s2 fun y => keyK y fun k => tz ρ2 fun s3 ρ3 => oneK s3 fun z => Q (.d ((lookD kvs k).getD z)) ρ3 := Iff.rfl
theorem e_ListD : ListD f i ρ Q ↔ atK ρ i fun s => odK s fun kvs => f kvs fun s => Q s ρ := at_od
theorem e_ListF : ListF f t ρ Q ↔ t ρ fun s ρ1 => dctK s fun kvs => f kvs fun s => Q s ρ1 := Iff.rfl
theorem g_item {kvs : List (Key × PyData)} {k : Key} {p : S → Prop} : gItem kvs k p ↔ ∃ x, lookD kvs k = some x ∧ p (.d x) := Iff.rfl
theorem g_get {kvs : List (Key × PyData)} {k : Key} {p : S → Prop} : gGet kvs k p ↔ p (.d ((lookD kvs k).getD .none)) := Iff.rfl
theorem g_in {kvs : List (Key × PyData)} {k : Key} {p : S → Prop} : gIn kvs k p ↔ p (.d (.bool (lookD kvs k).isSome)) := Iff.rfl
theorem g_notin {kvs : List (Key × PyData)} {k : Key} {p : S → Prop} : gNotIn kvs k p ↔ p (.d (.bool (!(lookD kvs k).isSome))) := Iff.rfl
theorem h_list {kvs : List (Key × PyData)} {p : S → Prop} : hList kvs p ↔ p (.own (kvs.map fun p => keyD p.1)) := Iff.rfl
theorem fz_od {kvs : List (Key × PyData)} {k : S → Prop} : fzK (.od kvs) k ↔ k (.d (dctD kvs)) := Iff.rfl
end
end GB

set_option maxRecDepth 100000
set_option maxHeartbeats 2000000
namespace GB
open PySem PySem.Spec PyProof.Rows L2
/-! sets of ints, by a comprehension: the machine's side -/
section
variable {prog : Program} {w : World} {A : Around} {R : Result → Shared → Prop} {s : Shared} {env : Env}
abbrev oneGen (tg it : Expr) (ifs : List Expr) : List Comprehension := [⟨tg, it, ifs, 0⟩]
theorem set_eval (el : Expr) (gs : List Comprehension) (sc : Scope) (at' : Pos) : eval (.SetComp el gs sc at') env = comprehension (.SetComp el gs sc at') sc env (firstIterPos gs at') (newSet (.type "set")) (firstAsync gs) (firstIter gs env) := rfl
theorem set_start {el tg it : Expr} {ifs : List Expr} {sc : Scope} {at' : Pos} {iv D : Value} (h0 : codeAny (model prog w) A (.compLoop (.SetComp el (oneGen tg it ifs) sc at') 0 iv D env) R s)
    (h1 : wpAny (model prog w) A (pyIter iv) (fun iv2 s2 => codeAny (model prog w) A (.compLoop (.SetComp el (oneGen tg it ifs) sc at') 0 iv2 D env) R s2) (notedBy (model prog w) A env fun x s2 => R (.error x) s2) s) :
    codeAny (model prog w) A (.compStart (.SetComp el (oneGen tg it ifs) sc at') 0 iv D env) R s := PpSet.codeAny_compStart_set h0 h1
end
section
variable {X : Cx}
/-- what the block of a set of ints asks: it is at D, S its members, n how many -/
def tSi (w : World) (wi : TI) (g : TG) (tt : TT) (te : TE) (vs : List Nat) : TE := fun σ H Q => wi σ H fun J H1 => ∀ D, H1 D = none → ∃ W : Nat → Nat → Hp → Prop, (∃ m, W 0 m (upd H1 D (SetO w D (fun _ => false) 0))) ∧
  ∀ i m H, W i m H → (J.stop i H ∧ Q (.ref D) H) ∨ (J.go i H ∧ ∃ Nx : Hp → Prop, (∀ H', Nx H' → ∃ m', m' < m ∧ W (i + 1) m' H') ∧ ∀ x H', J.yld i H x H' → g x (wipe σ vs) H' fun σ2 H2 => wipe σ2 vs = wipe σ vs ∧
    tt σ2 H2 fun b H3 => if b = true then te σ2 H3 fun y H4 => ∃ (c : Int) (S : Int → Bool) (n : Nat), y = .int c ∧ H4 D = some (SetO w D S n) ∧ n + 1 < scanBound ∧ Nx (upd H4 D (SetO w D (fun j => S j || decide (j = c)) (if S c = true then n else n + 1))) else Nx H3)
theorem add_int {pins : List (Addr × Obj)} {σ : L2.St} {H : Hp} {s : Shared} {E : Value → Shared → Prop} {D : Addr} {S : Int → Bool} {n : Nat} {c : Int} {tok : Tok} {Q : Value → Shared → Prop} (I : Inv X pins σ H s) (at' : H D = some (SetO X.w D S n)) (room : n + 1 < scanBound)
    (k : ∀ s2, Inv X pins σ (upd H D (SetO X.w D (fun j => S j || decide (j = c)) (if S c = true then n else n + 1))) s2 → Q .none s2) : wpAny (model X.prog X.w) X.A (call (.builtin "set.add") [.ref D, .int c tok]) Q E s := by
  refine setR_add (setO_get I at') room fun h2 only now => ?_
  have ⟨o, _, _, _, there, _⟩ := now
  exact k _ (I.write (e := D) (t' := s.toks + 1) (by rw [at']; trivial) (.inl rfl) (fun b u ne hu => (only.2 b ne).trans hu) ⟨o, there⟩ (setO_new now))
theorem si_core {pins : List (Addr × Obj)} {s : Shared} {σ : L2.St} {H : Hp} {Q : VK} {el tg it : Expr} {ifs : List Expr} {sc : Scope} {own : List (Str × Nat)} {p1 p2 : Pos} {wi : TI} {g : TG} {tt : TT} {te : TE} {use : Option (Value → Sem Unit)} {Qf : Value → Shared → Prop}
    (calm : X.calm = true) (nd : X.N.Nodup) (I : Inv X pins σ H s) (src : PI X tg it wi) (blk : BlkOk X.N X.env.scope sc own)
    (tgt : ∀ (s : Shared) (H : Hp) (C : Addr) (cl : List (Str × Addr)) (fp : List Addr), PG (X.blk s H sc (compEnvC sc cl C X.env) fp) tg g)
    (tst : ∀ (s : Shared) (H : Hp) (C : Addr) (cl : List (Str × Addr)) (fp : List Addr), PTs (X.blk s H sc (compEnvC sc cl C X.env) fp) ifs tt)
    (elm : ∀ (s : Shared) (H : Hp) (C : Addr) (cl : List (Str × Addr)) (fp : List Addr), PE (X.blk s H sc (compEnvC sc cl C X.env) fp) el te) (plain : ∀ x, foldedSetIterable it X.env x = pure x)
    (h : tSi X.w wi g tt te (own.map (·.2)) σ H Q)
    (back : ∀ D C s' m H', Inv X pins σ H' s' → Q (.ref D) H' → s'.heap.Ns C m → FpOk X pins H' C → compPost (model X.prog X.w) X.A X.xe use Qf (.ref D) C (.ok .next) s') :
    wpAny (model X.prog X.w) X.A (comprehension (.SetComp el [⟨tg, it, ifs, 0⟩] sc p1) sc X.env p2 (newSet (.type "set")) false (eval it X.env) use) Qf X.xe s := by
  have frees : ∀ y ∈ sc.names, y.2 = .free → ∃ c, X.env.cells.lookup y.1 = some c := fun y hy e => (blk.free y hy e).elim (fun z => I.ok.has _ (.inl z)) fun z => I.ok.has _ (.inr z)
  refine wpAny_comprehension_free (use := use) rfl plain (closure_ok frees) blk.kind (fun y hy e => by rw [blk.uniq y hy, e])
    (thn (src.run pins s σ H _ I h) fun xv s1 hx => thn hx fun iv s2 h2 => ?_)
  obtain ⟨itA, fp, tn, J, H2, rfl, I2, T, st2, f2, q⟩ := h2
  refine PpSet.newSet_ok (newEnv_comp ?_)
  generalize dEq : s2.heap.objs.size = D
  obtain ⟨W, ⟨m0, w0⟩, turn⟩ := q D (I2.hok.fresh (Nat.le_of_eq dEq))
  generalize eq3 : ({ s2 with heap := s2.heap.push { cls := .type "set", dict := none, data := .set #[] 0 (.fresh 0 0 (!X.w.params.followText "set-order")) } } : Shared) = s3
  have heap3 : s3.heap = s2.heap.push { cls := .type "set", dict := none, data := .set #[] 0 (.fresh 0 0 (!X.w.params.followText "set-order")) } := by rw [← eq3]
  have I3 : Inv X pins σ (upd H2 D (SetO X.w D (fun _ => false) 0)) s3 := by
    rw [← eq3]
    exact I2.laid (t' := s2.toks) (fun b o e => Heap.get?_push_of_some _ e) (Nat.le_of_eq dEq) (by rw [← dEq]; exact setO_new (setR_fresh X.w))
  have small : ∀ b ∈ fp, b < s2.heap.objs.size := fun b hb => let ⟨_, e, _⟩ := T.obj _ _ st2 b hb; Heap.lt_size e
  have f3 : ∀ b ∈ fp, FpOk X pins (upd H2 D (SetO X.w D (fun _ => false) 0)) b ∧ b < s3.heap.objs.size := fun b hb => by
    have lt := small b hb
    exact ⟨⟨by rw [upd_ne (by rw [← dEq]; exact Nat.ne_of_lt lt)]; exact (f2 b hb).1, (f2 b hb).2⟩, by rw [heap3, Heap.size_push]; exact Nat.lt_succ_of_lt lt⟩
  have st3 : tn 0 s3.heap := T.keep _ _ _ st2 fun b _ o e => by rw [heap3]; exact Heap.get?_push_of_some _ e
  have I4 := block_start I3 blk nd f3
  have PGb := tgt s3 (upd H2 D (SetO X.w D (fun _ => false) 0)) s3.heap.objs.size (cellsFrom (s3.heap.objs.size + 1) sc.names (cloFrom X.env.cells sc.names [])) fp
  have PTb := tst s3 (upd H2 D (SetO X.w D (fun _ => false) 0)) s3.heap.objs.size (cellsFrom (s3.heap.objs.size + 1) sc.names (cloFrom X.env.cells sc.names [])) fp
  have PEb := elm s3 (upd H2 D (SetO X.w D (fun _ => false) 0)) s3.heap.objs.size (cellsFrom (s3.heap.objs.size + 1) sc.names (cloFrom X.env.cells sc.names [])) fp
  have out : ∀ b ∈ fp, (upd H2 D (SetO X.w D (fun _ => false) 0)) b = none := fun b hb => (f3 b hb).1.1
  show codeAny _ _ (.compStart (.SetComp el (oneGen tg it ifs) sc p1) 0 (.ref itA) (.ref D) (compEnvC sc (cellsFrom (s3.heap.objs.size + 1) sc.names (cloFrom X.env.cells sc.names [])) s3.heap.objs.size X.env)) (compPost (model X.prog X.w) X.A X.xe use Qf (.ref D) s3.heap.objs.size) { s3 with heap := pushCells (s3.heap.push { cls := .type "dict", data := .dict #[] }) sc.names }
  generalize hBE : compEnvC sc (cellsFrom (s3.heap.objs.size + 1) sc.names (cloFrom X.env.cells sc.names [])) s3.heap.objs.size X.env = be at I4 PGb PTb PEb ⊢
  have hloc : be.locals = s3.heap.objs.size := by subst hBE; rfl
  generalize hH3 : upd H2 D (SetO X.w D (fun _ => false) 0) = H3 at I3 I4 PGb PTb PEb w0 out f3
  generalize eq4 : ({ s3 with heap := pushCells (s3.heap.push { cls := .type "dict", data := .dict #[] }) sc.names } : Shared) = s4 at I4 ⊢
  have st4 : tn 0 s4.heap := T.keep _ _ _ st3 fun b _ o e => by rw [← eq4]; exact pushCells_keeps _ _ _ _ (Heap.get?_push_of_some _ e)
  have fpb : ∀ {σ' : L2.St} {H' : Hp} {s' : Shared}, Inv (X.blk s3 H3 sc be fp) [] σ' H' s' → (∀ b ∈ fp, H' b = none) → ∀ b ∈ fp, FpOk (X.blk s3 H3 sc be fp) [] H' b := fun {σ' H' s'} I' n b hb =>
    ⟨n b hb, (I'.ok.exf b hb).1, I'.ok.exfs b hb, .inl hb, fun x c e => (I'.ok.exf b hb).2 x c e, fun z hz => absurd (show z ∈ ([] : List (Addr × Obj)) ++ [] from hz) (by simp)⟩
  have loop : codeAny (model X.prog X.w) X.A (.compLoop (.SetComp el (oneGen tg it ifs) sc p1) 0 (.ref itA) (.ref D) be) (compPost (model X.prog X.w) X.A X.xe use Qf (.ref D) s3.heap.objs.size) s4 := by
    refine PpSet.compLoopS_any (fun n s' => ∃ i H', Inv (X.blk s3 H3 sc be fp) [] (wipe σ (own.map (·.2))) H' s' ∧ tn i s'.heap ∧ (∀ b ∈ fp, H' b = none) ∧ W i n H') ?_ m0 ⟨0, H3, I4, st4, out, w0⟩
    rintro n s5 ⟨i, H5, I5, st5, n5, w5⟩
    rcases turn i n H5 w5 with ⟨stop, fine⟩ | ⟨go, Nx, less, step⟩
    · refine thnF (T.done (X.blk s3 H3 sc be fp) rfl rfl rfl calm i [] s5 _ H5 (fun _ _ => False) I5 (fpb I5 n5) st5 stop) fun r s6 ⟨er, I6⟩ => ?_
      subst er
      have I7 : Inv X pins σ H5 s6 := I3.call' (ch := fp) I6.os I6.base I6.hok I6.bare fun b hb => ⟨(f3 b hb).1.2.2.2.1, (f3 b hb).1.2.1, (f3 b hb).1.2.2.2.2.1, (f3 b hb).1.2.2.2.2.2⟩
      have free5 : H5 s3.heap.objs.size = none := by rw [← hloc]; exact I6.free
      obtain ⟨m, hns, _⟩ := I6.loc
      refine back D s3.heap.objs.size s6 m H5 I7 fine ?_ (I3.fpOk (Nat.le_refl _) free5)
      rw [← hloc]; exact hns
    · refine thnF (T.item (X.blk s3 H3 sc be fp) rfl rfl rfl calm i [] s5 _ H5 (fun _ _ => False) I5 (fpb I5 n5) st5 go) fun r s6 ⟨u, er, h6⟩ => ?_
      subst er
      refine thnF h6 fun _ s7 ⟨x, H7, I7, r7, y7, st7, n7⟩ => ?_
      have I8 := I7.pinned (fpb I7 n7) (T.obj _ _ st7)
      refine thnF (PGb.run _ s7 _ H7 x u _ I8 r7 (step x H7 y7)) fun _ s8 ⟨σ8, H8, I9, same8, q8⟩ => ?_
      refine thnF (PTb.run _ s8 σ8 H8 _ I9 q8) fun b s9 ⟨H9, I10, q9⟩ => ?_
      have again : ∀ {s' : Shared} {H' : Hp}, Inv (X.blk s3 H3 sc be fp) ([] ++ pinsAt fp s7.heap) σ8 H' s' → Nx H' → ∃ m, m < n ∧ ∃ i H', Inv (X.blk s3 H3 sc be fp) [] (wipe σ (own.map (·.2))) H' s' ∧ tn i s'.heap ∧ (∀ b ∈ fp, H' b = none) ∧ W i m H' := fun {s' H'} I' nx => by
        obtain ⟨m', lt, w'⟩ := less H' nx
        have held : ∀ b ∈ fp, ∀ o, s7.heap.get? b = some o → s'.heap.get? b = some o ∧ H' b = none := fun b hb o e => (I'.pin (b, o) (List.mem_append_right _ (List.mem_append_right _ (mem_pinsAt hb e)))).imp_right fun z => z.1
        refine ⟨m', lt, i + 1, H', (I'.unpinned (pins := [])).weak (by rw [← same8, wipe_length]) (fun j v e => (wipe_some (same8.symm ▸ e)).1), T.keep _ _ _ st7 fun b hb o e => (held b hb o e).1, fun b hb => ?_, w'⟩
        obtain ⟨o, e, _⟩ := T.obj _ _ st7 b hb
        exact (held b hb o e).2
      cases b with
      | false =>
        simp only [Bool.false_eq_true, if_false] at q9 ⊢
        exact again I10 q9
      | true =>
        simp only [if_true] at q9 ⊢
        refine thnF (PEb.run _ s9 σ8 H9 _ I10 q9) fun z s10 ⟨yv, H10, I11, r10, c, S0, n0, ey, atD, lt, nx⟩ => ?_
        subst ey
        obtain ⟨tok, rfl⟩ : ∃ tok, z = Value.int c tok := r10
        exact add_int (X := X.blk s3 H3 sc be fp) I11 atD lt fun s11 I12 => again I12 nx
  exact set_start loop (T.self X.A 0 _ _ _ st4 loop)
theorem pe_si {el tg it : Expr} {ifs : List Expr} {sc : Scope} {own : List (Str × Nat)} {p1 : Pos} {wi : TI} {g : TG} {tt : TT} {te : TE} (calm : X.calm = true) (nd : X.N.Nodup) (src : PI X tg it wi) (blk : BlkOk X.N X.env.scope sc own)
    (tgt : ∀ (s : Shared) (H : Hp) (C : Addr) (cl : List (Str × Addr)) (fp : List Addr), PG (X.blk s H sc (compEnvC sc cl C X.env) fp) tg g)
    (tst : ∀ (s : Shared) (H : Hp) (C : Addr) (cl : List (Str × Addr)) (fp : List Addr), PTs (X.blk s H sc (compEnvC sc cl C X.env) fp) ifs tt)
    (elm : ∀ (s : Shared) (H : Hp) (C : Addr) (cl : List (Str × Addr)) (fp : List Addr), PE (X.blk s H sc (compEnvC sc cl C X.env) fp) el te) (plain : ∀ x, foldedSetIterable it X.env x = pure x := by intro _; rfl) :
    PE X (.SetComp el [⟨tg, it, ifs, 0⟩] sc p1) (tSi X.w wi g tt te (own.map (·.2))) := by
  constructor
  intro pins s σ H Q I h
  rw [set_eval]
  refine si_core calm nd I src blk tgt tst elm plain h fun D C s' m H' I' q hn f => ⟨m, hn, fun h2 only => ?_⟩
  exact ⟨.ref D, H', I'.turned (t' := s'.toks) (fun b o ne e => (only.2 b ne).trans e) f.1 f.2.1 f.2.2.2.1 f.2.2.2.2.1 f.2.2.2.2.2, rfl, q⟩
end
end GB

set_option maxRecDepth 100000
namespace GB
open PySem PySem.Spec PyProof.Rows L2
/-! sets of ints, by a comprehension, sorted: data -/
/-- tuples and frozen things stay -/
def Keep0 (H H' : Hp) : Prop := ∀ a o, H a = some o → ((∃ xs, o = .tup xs) ∨ ∃ q u, o = .frz q u) → H' a = some o
theorem sqT_keep0 {K : PySem.W.Frag} {H H' : Hp} (k : Keep0 H H') {a : Addr} {vs : List V} (h : SqT K H a vs) : SqT K H' a vs := by
  rcases h with (h | ⟨o, h⟩) | h
  · exact .inl (.inl (k _ _ h (.inl ⟨_, rfl⟩)))
  · exact .inl (.inr ⟨o, k _ _ h (.inr ⟨_, _, rfl⟩)⟩)
  · exact .inr h
mutual
theorem Br.keep0 {K : PySem.W.Frag} {H H' : Hp} (k : Keep0 H H') : ∀ (d : PyData) (v : V), Br K H v d → Br K H' v d
  | .none, _, h => by cases h; exact .non
  | .bool _, _, h => by cases h; exact .bl _
  | .int _, _, h => by cases h; exact .int _
  | .str _, _, h => by cases h; exact .str _
  | .tuple ds, _, h => by cases h with | tup h1 h2 => exact .tup (sqT_keep0 k h1) (BrA.keep0 k ds _ h2)
  | .list ds, _, h => by cases h with | lst h1 h2 h3 => exact .lst (k _ _ h1 (.inr ⟨_, _, rfl⟩)) h2 (BrA.keep0 k ds _ h3)
  | .dict kvs, _, h => by cases h with | dct h1 h2 h3 => exact .dct (k _ _ h1 (.inr ⟨_, _, rfl⟩)) h2 (BrK.keep0 k kvs _ h3)
theorem BrA.keep0 {K : PySem.W.Frag} {H H' : Hp} (k : Keep0 H H') : ∀ (ds : List PyData) (vs : List V), BrA K H vs ds → BrA K H' vs ds
  | [], _, h => by cases h; exact .nil
  | d :: ds, _, h => by cases h with | cons h1 h2 => exact .cons (Br.keep0 k d _ h1) (BrA.keep0 k ds _ h2)
theorem BrK.keep0 {K : PySem.W.Frag} {H H' : Hp} (k : Keep0 H H') : ∀ (kvs : List (PyData × PyData)) (vs : List V), BrA K H vs (kvs.map (·.2)) → BrA K H' vs (kvs.map (·.2))
  | [], _, h => by cases h; exact .nil
  | (_, d) :: kvs, _, h => by cases h with | cons h1 h2 => exact .cons (Br.keep0 k d _ h1) (BrK.keep0 k kvs _ h2)
end
section
variable {L : Lay} {H H' H1 : Hp} {σ : L2.St} {ρ : En}
theorem OR.keep0 (k : Keep0 H H') {v : V} {xs : Ow} (h : OR L H v xs) (hv : ∀ l u, v = .ref l → H l = some u → H' l = some u) : OR L H' v xs := by
  cases xs with
  | l xs =>
    obtain ⟨l, vs, e, h1, h2, h3⟩ := h
    exact ⟨l, vs, e, hv l _ e h1, BrA.keep0 k _ _ h2, h3⟩
  | k kvs =>
    obtain ⟨l, vs, e, h1, h2, h3⟩ := h
    exact ⟨l, vs, e, hv l _ e h1, ⟨h2.1, BrA.keep0 k _ _ h2.2⟩, h3⟩
  | io m xs =>
    obtain ⟨l, vs, e, h1, h2, h3⟩ := h
    exact ⟨l, vs, e, hv l _ e h1, ⟨BrA.keep0 k _ _ h2.1, h2.2⟩, h3⟩
theorem Rel.swap (r1 : Rel L H1 σ ρ) (r : Rel L H σ ρ) (k1 : Keep H1 H') (k : Keep0 H H') (own : ∀ (i : Nat) (xs : Ow), ρ[i]? = some (.ow xs) → ∀ l, σ[i]? = some (some (.ref l)) → H' l = H l) (sm : Same L.H0 H') : Rel L H' σ ρ := by
  refine ⟨r.len, fun j z e => ?_, r.sep, sm⟩
  have q := r.at' j z e
  cases z with
  | un => trivial
  | d x => obtain ⟨v, e2, q⟩ := q; exact ⟨v, e2, Br.keep0 k _ _ q⟩
  | ow xs =>
    obtain ⟨v, e2, q⟩ := q
    refine ⟨v, e2, q.keep0 k fun l u el hl => ?_⟩
    subst el
    obtain ⟨w, e4, _⟩ := r.get e
    rw [e4] at e2
    rw [own j xs e l (by rw [e4]; exact congrArg some (show w = some (V.ref l) from e2))]
    exact hl
  | ob t =>
    obtain ⟨a, e2, _⟩ := q
    obtain ⟨a', e3, q⟩ := r1.at' j (.ob t) e
    rw [e2] at e3; cases e3
    exact ⟨a, e2, L.J.keep _ _ _ _ k1 q⟩
end
/-- an element that is an int from 0 to 62 -/
def dI63 (te : TEd) : TEd := fun ρ Q => te ρ fun s ρ1 => ∃ i : Nat, s = .d (.int i) ∧ i < 63 ∧ Q (.d (.int i)) ρ1
def dSs (ti : TId) (vs : List Nat) (g : DTG) (tt : TTd) (te : TEd) : TEd := fun ρ Q => ti ρ fun ds ρ1 => dLcGo vs g tt (dI63 te) (wipeD ρ1 vs) (fun acc => ∀ ns : List Int, ns.Pairwise (· < ·) → (∀ k, k ∈ ns ↔ PyData.int k ∈ acc) → Q (.own (ns.map .int)) (wipeD ρ1 vs)) ds []
def SetAt (w : World) (D : Addr) (H : Hp) (acc : List PyData) : Prop := ∃ (S : Int → Bool) (n : Nat) (ms : List Int), H D = some (SetO w D S n) ∧ (∀ k, S k = true ↔ PyData.int k ∈ acc) ∧ ms.Nodup ∧ ms.length = n ∧ (∀ k, k ∈ ms ↔ S k = true) ∧ ∀ k, k ∈ ms → 0 ≤ k ∧ k < 63
theorem sub_len {α : Type} [DecidableEq α] : ∀ {ms l : List α}, ms.Nodup → (∀ k ∈ ms, k ∈ l) → ms.length ≤ l.length
  | [], _, _, _ => Nat.zero_le _
  | m :: ms, l, h1, h2 => by
    obtain ⟨a, b⟩ := List.nodup_cons.mp h1
    have h := sub_len (l := l.erase m) b fun k hk => (List.mem_erase_of_ne (fun z => a (by rw [← z]; exact hk))).mpr (h2 k (List.mem_cons_of_mem _ hk))
    have hm := h2 m (List.mem_cons_self ..)
    rw [List.length_erase_of_mem hm] at h
    have := List.length_pos_of_mem hm
    rw [List.length_cons]
    omega
theorem few {ms : List Int} (h1 : ms.Nodup) (h2 : ∀ k, k ∈ ms → 0 ≤ k ∧ k < 63) : ms.length ≤ 63 := by
  have := sub_len (l := (List.range 63).map (fun i : Nat => (i : Int))) h1 fun k hk => by
    obtain ⟨a, b⟩ := h2 k hk
    exact List.mem_map.mpr ⟨k.toNat, List.mem_range.mpr (by omega), by omega⟩
  simpa using this
section
variable {L : Lay} {ti : TId} {vs : List Nat} {g : DTG} {tt : TTd} {te : TEd} {w : World}
theorem si_read {gt : TG} (hg : GOwn L vs gt g) : ∀ (σ : L2.St) (H : Hp) (Q' : VK), (∃ ρ Q, Rel L H σ ρ ∧ dSs ti vs g tt te ρ Q ∧ ∀ v H' s ρ', Go σ ρ ρ' H H' → Rel L H' σ ρ' → VR L H H' v s → Q s ρ' → Q' v H') →
    tSi w (tI L ti) gt (tT L tt) (tE L te) vs σ H fun v H1 => rSortedSet w [v] H1 Q' := by
  intro σ H Q' q
  obtain ⟨ρ, Q, r, q, fin⟩ := q
  refine ⟨ρ, _, r, q, fun J H1 ds ρ1 go r1 q1 it D hD => ?_⟩
  obtain ⟨G, Y, wk, g0, gk, step⟩ := it
  have rw1 : Rel L H1 (wipe σ vs) (wipeD ρ1 vs) := r1.wiped.move (wipe_length σ vs) (GB.wipe_out σ vs)
  have sD := same_new (o := SetO w D (fun _ => false) 0) hD
  have dSlot : ∀ (i : Nat) (ys : Ow), (wipeD ρ1 vs)[i]? = some (.ow ys) → (wipe σ vs)[i]? ≠ some (some (.ref D)) := fun i ys e z => by
    obtain ⟨l', us', q1, q2, _⟩ := rw1.getW e
    rw [z] at q1; cases q1
    rw [hD] at q2; cases q2
  refine walk_it wk (fun i H2 => Keep H1 H2 ∧ Go (wipe σ vs) (wipeD ρ1 vs) (wipeD ρ1 vs) H1 H2 ∧ Rel L H2 (wipe σ vs) (wipeD ρ1 vs) ∧ ∃ acc, SetAt w D H2 acc ∧
      dLcGo vs g tt (dI63 te) (wipeD ρ1 vs) (fun acc => ∀ ns : List Int, ns.Pairwise (· < ·) → (∀ k, k ∈ ns ↔ PyData.int k ∈ acc) → Q (.own (ns.map .int)) (wipeD ρ1 vs)) (ds.drop i) acc)
    ⟨keep_of_same sD, Go.sm sD, rw1.go sD, [], ⟨fun _ => false, 0, [], upd_same, fun k => by simp, List.nodup_nil, rfl, fun _ => by simp, fun _ h => nomatch h⟩, q1⟩ (fun i H2 _ ⟨k, _⟩ => gk _ _ k g0) (fun i' x H2 H3 hi ⟨k, goi, r2, acc, ⟨S, n, ms, hDl, hS, nd, hn, hmS, hm⟩, ql⟩ hy => ?_) fun H2 ⟨k, goi, r2, acc, ⟨S, n, ms, hDl, hS, nd, hn, hmS, hm⟩, ql⟩ => ?_
  · obtain ⟨sm, d, hd, bd⟩ := step i' H2 x H3 hi k (gk _ _ k g0) hy
    have e : ds.drop i' = d :: ds.drop (i' + 1) := by
      obtain ⟨hi', e⟩ := List.getElem?_eq_some_iff.mp hd
      rw [List.drop_eq_getElem_cons hi', e]
    rw [e] at ql
    have go3 : Go (wipe σ vs) (wipeD ρ1 vs) (wipeD ρ1 vs) H1 H3 := goi.tr (Go.sm sm)
    have hD3 : H3 D = some (SetO w D S n) := sm D _ hDl
    refine hg (r2.go sm) (noOwn_wiped ρ1) bd ql fun σ2 ρ2 r3 no2 q3 ew => ⟨by rw [ew, wipe_wipe], ?_⟩
    obtain ⟨e2, q3⟩ := q3
    have ew2 : wipe σ2 vs = wipe σ vs := by rw [ew, wipe_wipe]
    refine ⟨ρ2, _, r3, q3, fun b H4 ρ3 go4 r4 q4 => ?_⟩
    obtain ⟨e3, q4⟩ := q4
    subst e3
    obtain ⟨goA, rA, dA⟩ := back e2 no2 ew2 dSlot go3 hD3 go4 r4
    have k4 : Keep H2 H4 := (keep_of_same sm).tr (go4.keep r3)
    cases b with
    | false => exact iteF ⟨k.tr k4, goA, rA, acc, ⟨S, n, ms, dA, hS, nd, hn, hmS, hm⟩, by simpa using q4⟩
    | true =>
      rw [if_pos rfl] at q4
      have q4 : te ρ3 fun s ρ1' => ∃ i : Nat, s = .d (.int i) ∧ i < 63 ∧ (ρ1' = ρ3 ∧ ∃ y, GB.S.d (.int i) = .d y ∧ dLcGo vs g tt (dI63 te) (wipeD ρ1 vs) (fun acc => ∀ ns : List Int, ns.Pairwise (· < ·) → (∀ k, k ∈ ns ↔ PyData.int k ∈ acc) → Q (.own (ns.map .int)) (wipeD ρ1 vs)) (ds.drop (i' + 1)) (acc ++ [y])) := q4
      refine iteT ⟨ρ3, _, r4, q4, fun y H5 s ρ4 go5 r5 hv q5 => ?_⟩
      obtain ⟨c, rfl, c63, e4, y', ey, q6⟩ := q5
      subst e4
      cases ey
      have hv : Br L.K H5 y (.int (c : Int)) := hv
      cases hv
      obtain ⟨goB, rB, dB⟩ := back e2 no2 ew2 dSlot go3 hD3 (go4.tr go5) r5
      have k5 : Keep H2 H5 := k4.tr (go5.keep r4)
      have n63 := few nd hm
      have kk : Keep H1 (upd H5 D (SetO w D (fun j => S j || decide (j = (c : Int))) (if S c = true then n else n + 1))) := fun a o h f => by
        rw [upd_ne (fun z => by rw [z, hD] at h; cases h)]
        exact (k.tr k5) a o h f
      have k0 : Keep0 H5 (upd H5 D (SetO w D (fun j => S j || decide (j = (c : Int))) (if S c = true then n else n + 1))) := fun a o h f => by
        rw [upd_ne (fun z => ?_)]
        · exact h
        · rw [z, dB] at h
          cases h
          rcases f with ⟨_, f⟩ | ⟨_, _, f⟩ <;> cases f
      have goF : Go (wipe σ vs) (wipeD ρ1 vs) (wipeD ρ1 vs) H1 (upd H5 D (SetO w D (fun j => S j || decide (j = (c : Int))) (if S c = true then n else n + 1))) := by
        refine ⟨fun a o h n => ?_, fun j xs ej => ⟨xs, ej⟩, fun a h => ?_⟩
        · rw [upd_ne (fun z => by rw [z, hD] at h; cases h)]; exact goB.stay a o h n
        · by_cases z : a = D
          · rw [z]; exact hD
          · rw [upd_ne z] at h; exact goB.dom a h
      refine ⟨c, S, n, rfl, dB, by have : scanBound = 4096 := rfl; omega, kk, goF, rw1.swap rB kk k0 (fun j xs ej l el => upd_ne fun z => dSlot j xs ej (by rw [← z]; exact el)) ?_, acc ++ [.int c], ⟨_, _, if S c = true then ms else (c : Int) :: ms, upd_same, fun j => ?_, ?_, ?_, ?_, ?_⟩, q6⟩
      · intro a o h
        have ne : a ≠ D := fun z => by
          have h1 := r1.same a o h
          rw [z, hD] at h1
          cases h1
        rw [upd_ne ne]
        exact rB.same a o h
      · simp only [Bool.or_eq_true, decide_eq_true_eq, List.mem_append, List.mem_singleton, PyData.int.injEq, hS]
      · split
        · exact nd
        · rename_i hc
          refine List.nodup_cons.mpr ⟨fun m => ?_, nd⟩
          rw [hmS] at m
          contradiction
      · split
        · exact hn
        · rw [List.length_cons, hn]
      · intro j
        have hj := hmS j
        rw [Bool.or_eq_true, decide_eq_true_eq]
        split
        · rename_i hc
          exact ⟨fun z => .inl (hj.mp z), fun z => z.elim hj.mpr fun z => by rw [z, hmS]; exact hc⟩
        · rw [List.mem_cons]
          exact ⟨fun z => z.elim .inr fun z => .inl (hj.mp z), fun z => z.elim (fun z => .inr (hj.mpr z)) .inl⟩
      · split
        · exact hm
        · intro j hj
          rcases List.mem_cons.mp hj with rfl | hj
          · omega
          · exact hm j hj
  · rw [List.drop_length] at ql
    refine ⟨D, S, n, rfl, hDl, by have := few nd hm; omega, fun ns p h1 h2 h3 hp => ?_⟩
    have goF : Go σ ρ1 (wipeD ρ1 vs) H1 H2 := ⟨fun a o h n => goi.stay a o h fun j xs ej z => by
        by_cases nj : j ∈ vs
        · exact noOwn_wiped ρ1 j nj xs ej
        · rw [wipeD_get, if_neg nj] at ej
          rw [GB.wipe_out σ vs j nj] at z
          exact n j xs ej z, fun j xs ej => by
        by_cases nj : j ∈ vs
        · exact absurd ej (noOwn_wiped ρ1 j nj xs)
        · rw [wipeD_get, if_neg nj] at ej; exact ⟨xs, ej⟩, goi.dom⟩
    have sm := same_new (o := .lst (ns.map V.int)) hp
    have rF := r2.move (σ' := σ) (wipe_length σ vs).symm fun j hj => (GB.wipe_out σ vs j hj).symm
    refine fin (.ref p) _ (.own (ns.map .int)) _ ((go.tr goF).tr (Go.sm sm)) (rF.go sm) ⟨⟨p, _, rfl, upd_same, br_intsD ns, rF.same.free hp⟩, fun l e => by cases e; exact go.dom _ (goF.dom _ hp)⟩ (ql ns h1 fun k => (h2 k).trans (hS k))
end
section
variable {X : Cx} {L : Lay} {elt tg iter : Expr} {ifs : List Expr} {scope : Scope} {own : List (Str × Nat)} {pos pc p : Pos} {ti : TId} {g : DTG} {gt : TG} {tt : TTd} {te : TEd}
theorem de_sortSet (gd : Good X) (hgS : Gl X "sorted") (hmS : X.mg "sorted" = none) (hi : PI X tg iter (tI L ti)) (ok : BlkOk X.N X.env.scope scope own)
    (hg : ∀ (s : Shared) (H : Hp) (C : Addr) (cl : List (Str × Addr)) (fp : List Addr), PG (X.blk s H scope (compEnvC scope cl C X.env) fp) tg gt) (ho : GOwn L (own.map (·.2)) gt g)
    (ht : ∀ (s : Shared) (H : Hp) (C : Addr) (cl : List (Str × Addr)) (fp : List Addr), Good (X.blk s H scope (compEnvC scope cl C X.env) fp) → PTs (X.blk s H scope (compEnvC scope cl C X.env) fp) ifs (tT L tt))
    (he : ∀ (s : Shared) (H : Hp) (C : Addr) (cl : List (Str × Addr)) (fp : List Addr), Good (X.blk s H scope (compEnvC scope cl C X.env) fp) → PE (X.blk s H scope (compEnvC scope cl C X.env) fp) elt (tE L te))
    (hs : ∀ x, foldedSetIterable iter X.env x = pure x := by intro _; rfl) (h1 : starEach ((.SetComp elt [⟨tg, iter, ifs, 0⟩] scope pos) :: []) X.env = (false, eval (.SetComp elt [⟨tg, iter, ifs, 0⟩] scope pos) X.env) :: starEach [] X.env := by rfl) (hpl : (backTo pc (starEach [] X.env)).any (·.1) = false := by rfl) :
    PE X (.Call (.Name "sorted" p) [.SetComp elt [⟨tg, iter, ifs, 0⟩] scope pos] [] pc) (tE L (dSs ti (own.map (·.2)) g tt te)) :=
  (pe_callB (cr_sortedSet gd.calm) hgS hmS (by decide +kernel) (pa_cons (pe_si gd.calm gd.nd hi ok hg (fun s H C cl fp => ht s H C cl fp ⟨gd.calm, gd.gd, gd.sys, gd.un, gd.nd⟩) (fun s H C cl fp => he s H C cl fp ⟨gd.calm, gd.gd, gd.sys, gd.un, gd.nd⟩) hs) pa_nil h1) (by decide) (by decide) h1 hpl).less fun σ H Q' q => by
    exact si_read (w := X.w) ho σ H Q' q
end
end GB

set_option maxRecDepth 100000
namespace GB
open PySem PySem.Spec PyProof.Rows L2
/-! the truth of any plain thing -/
def truK : PyData → (Bool → Prop) → Prop
  | .none, k => k false
  | .bool b, k => k b
  | .int i, k => k (i != 0)
  | .str z, k => z.length ≤ sizeLine ∧ k ((z.length : Int) != 0)
  | .list xs, k => k (!xs.isEmpty)
  | .tuple xs, k => k (!xs.isEmpty)
  | .dict _, _ => False
def dTr (t : TEd) : TTd := fun ρ Q => t ρ fun s ρ1 => ∃ x, s = .d x ∧ truK x fun b => Q b ρ1
def dTrO (i : Nat) : TTd := fun ρ Q => ∃ xs, ρ[i]? = some (.own xs) ∧ Q (!xs.isEmpty) ρ
def dTrK (i : Nat) : TTd := fun ρ Q => ∃ kvs, ρ[i]? = some (.od kvs) ∧ Q (!kvs.isEmpty) ρ
theorem len_emp {α β : Type} {xs : List α} {ys : List β} (h : xs.length = ys.length) : xs.isEmpty = ys.isEmpty := by cases xs <;> cases ys <;> first | rfl | simp at h
section
variable {X : Cx} {L : Lay} {e : Expr} {t : TEd} {i : Nat} {ρ : En}
theorem dt_tr (hK : L.K = X.K) (h : PE X e (tE L t)) (he : ∀ whole, isTrue e X.env whole = (do let v ← whole; standAt e.pos; holding [v] (truthy v)) := by intro _; rfl) : PT X e (tT L (dTr t)) :=
  (pt_truth h he).less fun σ H Q' h => by
    obtain ⟨ρ, Q, r0, q, fin⟩ := h
    refine (show tE L t σ H _ from ⟨ρ, _, r0, q, fun v H1 s ρ1 k1 r1 hv q1 => ?_⟩)
    obtain ⟨x, rfl, q2⟩ := q1
    have hv : Br L.K H1 v x := hv
    cases hv with
    | non => exact ⟨false, rfl, fin _ H1 ρ1 k1 r1 q2⟩
    | bl b => exact ⟨b, rfl, fin _ H1 ρ1 k1 r1 q2⟩
    | int n => exact ⟨n != 0, rfl, fin _ H1 ρ1 k1 r1 q2⟩
    | str z => exact ⟨_, ⟨q2.1, rfl⟩, fin _ H1 ρ1 k1 r1 q2.2⟩
    | @lst a o vs xs h1 h2 h3 => exact ⟨!vs.isEmpty, .inl ⟨vs, .inl (.inr ⟨o, h1⟩), rfl⟩, by rw [len_emp h3.len]; exact fin _ H1 ρ1 k1 r1 q2⟩
    | @tup a vs xs h1 h3 => exact ⟨!vs.isEmpty, .inr (.inl ⟨vs, hK ▸ h1, rfl⟩), by rw [len_emp h3.len]; exact fin _ H1 ρ1 k1 r1 q2⟩
    | dct h1 h2 h3 => exact q2.elim
theorem dt_trO (h : PE X e (tVar i)) (he : ∀ whole, isTrue e X.env whole = (do let v ← whole; standAt e.pos; holding [v] (truthy v)) := by intro _; rfl) : PT X e (tT L (dTrO i)) :=
  (pt_truth h he).less fun σ H Q' h => by
    obtain ⟨ρ, Q, r0, ⟨xs, ex, q⟩, fin⟩ := h
    obtain ⟨l, vs, h1, h2, h3, _⟩ := r0.getO ex
    exact ⟨_, h1, !vs.isEmpty, .inl ⟨vs, .inl (.inl h2), rfl⟩, by rw [len_emp h3.len]; exact fin _ H ρ Go.rf r0 q⟩
theorem dt_trK (h : PE X e (tVar i)) (he : ∀ whole, isTrue e X.env whole = (do let v ← whole; standAt e.pos; holding [v] (truthy v)) := by intro _; rfl) : PT X e (tT L (dTrK i)) :=
  (pt_truth h he).less fun σ H Q' h => by
    obtain ⟨ρ, Q, r0, ⟨kvs, ek, q⟩, fin⟩ := h
    obtain ⟨a, vks, ha, h1, h2, h3, _⟩ := dr_own r0 ek
    refine ⟨_, ha, !vks.isEmpty, .inr (.inr ⟨vks, h1, rfl⟩), ?_⟩
    have : vks.isEmpty = kvs.isEmpty := len_emp (by have := congrArg List.length h2; simpa using this.symm)
    rw [this]; exact fin _ H ρ Go.rf r0 q
theorem e_tr {Q : Bool → En → Prop} : dTr t ρ Q ↔ t ρ fun s ρ1 => oneK s fun x => truK x fun b => Q b ρ1 := Iff.rfl
theorem e_trO {Q : Bool → En → Prop} : dTrO i ρ Q ↔ atK ρ i fun s => ownK s fun xs => Q (!xs.isEmpty) ρ := ⟨fun ⟨xs, e, h⟩ => ⟨_, e, xs, rfl, h⟩, fun ⟨_, e, xs, z, h⟩ => ⟨xs, z ▸ e, h⟩⟩
theorem e_trK {Q : Bool → En → Prop} : dTrK i ρ Q ↔ atK ρ i fun s => odK s fun xs => Q (!xs.isEmpty) ρ := at_od
theorem tru_b {b : Bool} {k : Bool → Prop} : truK (.bool b) k ↔ k b := Iff.rfl
theorem tru_n {k : Bool → Prop} : truK .none k ↔ k false := Iff.rfl
theorem tru_i {n : Int} {k : Bool → Prop} : truK (.int n) k ↔ k (n != 0) := Iff.rfl
theorem tru_l {xs : List PyData} {k : Bool → Prop} : truK (.list xs) k ↔ k (!xs.isEmpty) := Iff.rfl
theorem tru_t {xs : List PyData} {k : Bool → Prop} : truK (.tuple xs) k ↔ k (!xs.isEmpty) := Iff.rfl
theorem tru_s {z : Str} {k : Bool → Prop} : truK (.str z) k ↔ z.length ≤ sizeLine ∧ k ((z.length : Int) != 0) := Iff.rfl
/-- from without: sets -/
def n63K (s : S) (k : Nat → Prop) : Prop := ∃ i : Nat, s = .d (.int i) ∧ i < 63 ∧ k i
theorem e_i63 {Q : S → En → Prop} : dI63 t ρ Q ↔ t ρ fun s ρ1 => n63K s fun i => Q (.d (.int i)) ρ1 := Iff.rfl
theorem n63_d {n : Nat} {k : Nat → Prop} : n63K (.d (.int n)) k ↔ n < 63 ∧ k n := by
  constructor
  · rintro ⟨i, e, h⟩
    have e : (n : Int) = i := by simpa using e
    have e : n = i := by omega
    subst e
    exact h
  · intro h
    exact ⟨_, rfl, h⟩
theorem e_ss {ti : TId} {vs : List Nat} {g : DTG} {tt : TTd} {te : TEd} {Q : S → En → Prop} : dSs ti vs g tt te ρ Q ↔ ti ρ fun ds ρ1 => dLcGo vs g tt (dI63 te) (wipeD ρ1 vs) (fun acc => ∀ ns : List Int, ns.Pairwise (· < ·) → (∀ k, k ∈ ns ↔ PyData.int k ∈ acc) → Q (.own (ns.map .int)) (wipeD ρ1 vs)) ds [] := Iff.rfl
end
/-! x, y, z = a, b, c with names that a block captures -/
section
variable {X : Cx} {L : Lay} {a b c : Expr} {t1 t2 t3 : TEd} {pos : Pos}
theorem ds_parT3 {i j l : Nat} {x y z : Str} {px py pz pt : Pos} {kt k2 pt2} (g : Good X) (hK : L.K = X.K) (hi : X.N[i]? = some x) (hj : X.N[j]? = some y) (hl : X.N[l]? = some z) (hx : Loc X.env.scope x) (hy : Loc X.env.scope y) (hz : Loc X.env.scope z)
    (ha : PE X a (tE L t1)) (hb : PE X b (tE L t2)) (hc : PE X c (tE L t3))
    (hfx : X.fn x = true ∨ X.env.scope.names.lookup x = some .local := by first | exact .inl rfl | exact .inr rfl) (hfy : X.fn y = true ∨ X.env.scope.names.lookup y = some .local := by first | exact .inl rfl | exact .inr rfl) (hfz : X.fn z = true ∨ X.env.scope.names.lookup z = some .local := by first | exact .inl rfl | exact .inr rfl)
    (hw : swappedStores [.Tuple [.Name x px, .Name y py, .Name z pz] kt pt] (.Tuple [a, b, c] k2 pt2) X.env = pure none := by rfl)
    (h1 : starEach [a, b, c] X.env = (false, eval a X.env) :: starEach [b, c] X.env := by rfl) (h2 : starEach [b, c] X.env = (false, eval b X.env) :: starEach [c] X.env := by rfl) (h3 : starEach [c] X.env = (false, eval c X.env) :: starEach [] X.env := by rfl)
    (e1 : (assignEach [.Name x px, .Name y py, .Name z pz] X.env).map (·.2) = assign (.Name x px) X.env :: (assignEach [.Name y py, .Name z pz] X.env).map (·.2) := by rfl) (e2 : (assignEach [.Name y py, .Name z pz] X.env).map (·.2) = assign (.Name y py) X.env :: (assignEach [.Name z pz] X.env).map (·.2) := by rfl)
    (e22 : (assignEach [.Name z pz] X.env).map (·.2) = assign (.Name z pz) X.env :: (assignEach [] X.env).map (·.2) := by rfl)
    (e3 : (assignEach [.Name x px, .Name y py, .Name z pz] X.env).length = 3 := by rfl) (e4 : (assignEach [.Name x px, .Name y py, .Name z pz] X.env).findIdx? (·.1) = none := by rfl)
    (e5 : (assignEach [.Tuple [.Name x px, .Name y py, .Name z pz] kt pt] X.env).map (·.2) = [assign (.Tuple [.Name x px, .Name y py, .Name z pz] kt pt) X.env] := by rfl)
    (hs : swapsWithSole [.Tuple [.Name x px, .Name y py, .Name z pz] kt pt] (.Tuple [a, b, c] k2 pt2) pos.line X.env = pure false := by rfl) :
    PS X (.Assign [.Tuple [.Name x px, .Name y py, .Name z pz] kt pt] (.Tuple [a, b, c] k2 pt2) pos) (tS L (dPar3 i j l t1 t2 t3)) :=
  (ps_asg (pe_tup (pa_cons ha (pa_cons hb (pa_cons hc pa_nil h3) h2) h1)) (pg_tup g.calm (pgs_cons (pg_name g.nd hi hx hfx) (pgs_cons (pg_name g.nd hj hy hfy) (pgs_cons (pg_name g.nd hl hz hfz) pgs_nil e22) e2) e1) e3 e4) hs hw e5).less fun D σ H q => by
    obtain ⟨ρ, De, r, q, n1, _⟩ := q
    refine ⟨ρ, _, r, q, fun v H1 s ρ1 go r1 hv q1 => ⟨ρ1, _, r1, q1, fun w H2 s2 ρ2 go2 r2 hw q2 => ⟨ρ2, _, r2, q2, fun u H3 s3 ρ3 go3 r3 hu q3 => ⟨(show (3 : Nat) ≤ sizeLine by decide), fun p hp => ?_⟩⟩⟩⟩
    have sm : Same H3 (upd H3 p (.tup [v, w, u])) := same_new hp
    have r4 := r3.go sm
    have g4 : Go σ ρ3 ρ3 H3 (upd H3 p (.tup [v, w, u])) := Go.sm sm
    have gg := (go.tr go2).tr go3
    have hv4 := (hv.later r go r1 (go2.tr go3)).later r gg r3 g4
    have hw4 := (hw.later r1 go2 r2 go3).later r1 (go2.tr go3) r3 g4
    have hu4 := hu.later r2 go3 r3 g4
    have ra := r4.put1 (j := i) (r.old gg) hv4
    have oa := (r.old gg).set (Hm := H1) (i := i) go.dom hv.there
    have rb := ra.put1 (j := j) oa hw4
    have ob := oa.set (Hm := H2) (i := j) go2.dom hw.there
    have rc := rb.put1 (j := l) ob hu4
    exact ⟨p, [v, w, u], rfl, .inl (.inl upd_same), rfl, v, [w, u], rfl, w, [u], rfl, u, [], rfl, rfl, n1 _ _ _ ((gg.keep r).tr (keep_of_same sm)) rc q3⟩
end
end GB

set_option maxRecDepth 100000
namespace GB
open PySem PySem.Spec PyProof.Rows L2
/-! comprehensions of two clauses by what holds at their turns -/
section
variable {vs vs1 : List Nat} {g g1 : DTG} {tt tt1 : TTd} {ti1 : TId} {te : TEd} {ρw : En} {R : List PyData → Prop}
theorem lc2I (I : List PyData → List PyData → Prop) (hn : ∀ acc, I [] acc → R acc)
    (hc : ∀ d ds acc (K : List PyData → Prop), (∀ acc', I ds acc' → K acc') → I (d :: ds) acc → g d ρw fun ρ2 => wipeD ρ2 vs = ρw ∧ tt ρ2 fun b ρ3 => ρ3 = ρ2 ∧ iteK b (ti1 ρ2 fun ds1 ρ4 => ρ4 = ρ2 ∧ dInGo vs1 g1 tt1 te (wipeD ρ2 vs1) K ds1 acc) (K acc)) :
    ∀ ds acc, I ds acc → dLc2Go vs vs1 g tt ti1 g1 tt1 te ρw R ds acc
  | [], acc, h => hn acc h
  | d :: ds, acc, h => hc d ds acc _ (fun acc' h' => lc2I I hn hc ds acc' h') h
theorem inI (I : List PyData → List PyData → Prop) {K : List PyData → Prop} (hn : ∀ acc, I [] acc → K acc)
    (hc : ∀ d ds acc (K' : List PyData → Prop), (∀ acc', I ds acc' → K' acc') → I (d :: ds) acc → g1 d ρw fun ρ2 => wipeD ρ2 vs1 = ρw ∧ tt1 ρ2 fun b ρ3 => ρ3 = ρ2 ∧ iteK b (te ρ2 fun s ρ4 => ρ4 = ρ2 ∧ oneK s fun y => acc.length < sizeLine ∧ K' (acc ++ [y])) (K' acc)) :
    ∀ ds acc, I ds acc → dInGo vs1 g1 tt1 te ρw K ds acc
  | [], acc, h => hn acc h
  | d :: ds, acc, h => hc d ds acc _ (fun acc' h' => inI I hn hc ds acc' h') h
/-- the inner items, as they are -/
theorem in_id {K : List PyData → Prop} {ds acc : List PyData} (hl : acc.length + ds.length ≤ sizeLine) (hK : K (acc ++ ds)) (hc : ∀ d (P : En → Prop), (∀ ρ2, wipeD ρ2 vs1 = ρw → te ρ2 (fun s ρ4 => ρ4 = ρ2 ∧ s = .d d) → (∀ Q : S → En → Prop, Q (.d d) ρ2 → te ρ2 Q) → P ρ2) → g1 d ρw P) :
    dInGo vs1 g1 dYes te ρw K ds acc := by
  refine inI (fun es ac => ac.length + es.length ≤ sizeLine ∧ ac ++ es = acc ++ ds) (fun ac h => ?_) (fun d es ac K' hK' h => ?_) ds acc ⟨hl, rfl⟩
  · have := h.2
    rw [List.append_nil] at this
    rw [this]; exact hK
  · refine hc d _ fun ρ2 w t q => ⟨w, rfl, q _ ⟨rfl, _, rfl, ?_, hK' _ ⟨?_, ?_⟩⟩⟩
    · have := h.1; rw [List.length_cons] at this; omega
    · have := h.1; rw [List.length_cons] at this; rw [List.length_append, List.length_singleton]; omega
    · rw [List.append_assoc]; exact h.2
/-- all pieces, one behind another -/
theorem flat_run {f : PyData → List PyData} {ds : List PyData} {m : Nat} (hm : ds.length * m ≤ sizeLine) (hf : ∀ d ∈ ds, (f d).length ≤ m) (hn : R (ds.flatMap f))
    (hc : ∀ d ∈ ds, ∀ (acc : List PyData) (K : List PyData → Prop), acc.length + (f d).length ≤ sizeLine → K (acc ++ f d) → g d ρw fun ρ2 => wipeD ρ2 vs = ρw ∧ tt ρ2 fun b ρ3 => ρ3 = ρ2 ∧ iteK b (ti1 ρ2 fun ds1 ρ4 => ρ4 = ρ2 ∧ dInGo vs1 g1 tt1 te (wipeD ρ2 vs1) K ds1 acc) (K acc)) :
    dLc2Go vs vs1 g tt ti1 g1 tt1 te ρw R ds [] := by
  refine lc2I (fun es acc => (∀ d ∈ es, d ∈ ds) ∧ acc.length + es.length * m ≤ ds.length * m ∧ acc ++ es.flatMap f = ds.flatMap f) (fun acc h => ?_) (fun d es acc K hK h => ?_) ds [] ⟨fun _ h => h, by simp, rfl⟩
  · have := h.2.2
    simp at this
    rw [this]; exact hn
  · obtain ⟨h0, h1, h2⟩ := h
    have hd := h0 d (by simp)
    have hfd := hf d hd
    rw [List.length_cons, Nat.add_mul, Nat.one_mul] at h1
    have h3 : acc.length + es.length * m + m ≤ ds.length * m := by omega
    refine hc d hd acc K (by omega) (hK _ ⟨fun z hz => h0 z (by simp [hz]), ?_, ?_⟩)
    · rw [List.length_append]; omega
    · rw [List.append_assoc, ← h2]; simp
end
/-! for: all pieces, one behind another -/
/-- strictly ascending ints with the same members are the same -/
theorem asc_eq : ∀ {xs ys : List Int}, xs.Pairwise (· < ·) → ys.Pairwise (· < ·) → (∀ k, k ∈ xs ↔ k ∈ ys) → xs = ys
  | [], [], _, _, _ => rfl
  | [], y :: ys, _, _, h => by have := (h y).mpr (by simp); cases this
  | x :: xs, [], _, _, h => by have := (h x).mp (by simp); cases this
  | x :: xs, y :: ys, hx, hy, h => by
    obtain ⟨x1, x2⟩ := List.pairwise_cons.mp hx
    obtain ⟨y1, y2⟩ := List.pairwise_cons.mp hy
    have e : x = y := by
      rcases List.mem_cons.mp ((h x).mp (by simp)) with q | q
      · exact q
      · rcases List.mem_cons.mp ((h y).mpr (by simp)) with r | r
        · exact r.symm
        · have a := y1 x q; have b := x1 y r; omega
    subst e
    rw [asc_eq x2 y2 fun k => ?_]
    constructor
    · intro hk
      rcases List.mem_cons.mp ((h k).mp (by simp [hk])) with q | q
      · have := x1 k hk; omega
      · exact q
    · intro hk
      rcases List.mem_cons.mp ((h k).mpr (by simp [hk])) with q | q
      · have := y1 k hk; omega
      · exact q
theorem filt_asc (n : Nat) (p : Nat → Bool) : (((List.range n).filter p).map fun i : Nat => (i : Int)).Pairwise (· < ·) := by
  rw [List.pairwise_map]
  exact (List.Pairwise.sublist List.filter_sublist List.pairwise_lt_range).imp fun h => by omega
end GB

namespace GK
open PySem PySem.Spec PyProof.Rows L2 GB

/-! small data -/
structure Sm (D W : Nat) (x : PyData) : Prop where
  sh : x.showable = true
  ls : x.leavesShort 40 = true
  dp : x.depth ≤ D
  bk : x.bulk ≤ W
theorem Sm.mono {D W D' W' : Nat} {x : PyData} (h : Sm D W x) (h1 : D ≤ D') (h2 : W ≤ W') : Sm D' W' x := ⟨h.sh, h.ls, Nat.le_trans h.dp h1, Nat.le_trans h.bk h2⟩
theorem Sm.fits {D W : Nat} {x : PyData} (h : Sm D W x) (hw : W ≤ 300000) : x.shown.length ≤ sizeLine := by
  have q := PyData.shown_le_bulk 40 (by decide) x h.ls
  have := h.bk
  have e : sizeLine = 16777216 := by decide
  rw [e]; omega
theorem sm_all {D W : Nat} : ∀ {xs : List PyData}, (∀ x ∈ xs, Sm D W x) → PyData.showableAll xs = true ∧ PyData.leavesShortAll 40 xs = true ∧ PyData.depthAll xs ≤ D ∧ PyData.bulkAll xs ≤ xs.length * (W + 1)
  | [], _ => ⟨rfl, rfl, by simp [PyData.depthAll], by simp [PyData.bulkAll]⟩
  | x :: xs, h => by
    have h0 := h x (by simp)
    obtain ⟨h1, h2, h3, h4⟩ := sm_all (xs := xs) fun y hy => h y (by simp [hy])
    refine ⟨by simp [PyData.showableAll, h0.sh, h1], by simp [PyData.leavesShortAll, h0.ls, h2], ?_, ?_⟩
    · have := h0.dp; simp only [PyData.depthAll]; omega
    · have := h0.bk
      simp only [PyData.bulkAll, List.length_cons]
      have e : (xs.length + 1) * (W + 1) = xs.length * (W + 1) + (W + 1) := by rw [Nat.add_mul, Nat.one_mul]
      rw [e]; omega
theorem sm_tup {D W n : Nat} {xs : List PyData} (h : ∀ x ∈ xs, Sm D W x) (hn : xs.length ≤ n) : Sm (D + 1) (n * (W + 1)) (.tuple xs) := by
  obtain ⟨h1, h2, h3, h4⟩ := sm_all h
  refine ⟨by simpa [PyData.showable] using h1, by simpa [PyData.leavesShort] using h2, by simp only [PyData.depth]; omega, ?_⟩
  simp only [PyData.bulk]
  exact Nat.le_trans h4 (Nat.mul_le_mul_right _ hn)
theorem sm_lst {D W n : Nat} {xs : List PyData} (h : ∀ x ∈ xs, Sm D W x) (hn : xs.length ≤ n) : Sm (D + 1) (n * (W + 1)) (.list xs) := by
  obtain ⟨h1, h2, h3, h4⟩ := sm_all h
  refine ⟨by simpa [PyData.showable] using h1, by simpa [PyData.leavesShort] using h2, by simp only [PyData.depth]; omega, ?_⟩
  simp only [PyData.bulk]
  exact Nat.le_trans h4 (Nat.mul_le_mul_right _ hn)
def smB (D W : Nat) (x : PyData) : Bool := x.showable && x.leavesShort 40 && decide (x.depth ≤ D) && decide (x.bulk ≤ W)
theorem sm_of {D W : Nat} {x : PyData} (h : smB D W x = true) : Sm D W x := by
  simp only [smB, Bool.and_eq_true, decide_eq_true_eq] at h
  exact ⟨h.1.1.1, h.1.1.2, h.1.2, h.2⟩
/-- rows, counted together -/
structure SmL (D W : Nat) (xs : List PyData) : Prop where
  sh : PyData.showableAll xs = true
  ls : PyData.leavesShortAll 40 xs = true
  dp : PyData.depthAll xs ≤ D
  bk : PyData.bulkAll xs ≤ W
theorem sml_tup {D W : Nat} {xs : List PyData} (h : SmL D W xs) : Sm (D + 1) W (.tuple xs) :=
  ⟨by simpa [PyData.showable] using h.sh, by simpa [PyData.leavesShort] using h.ls, by have := h.dp; simp only [PyData.depth]; omega, by simpa only [PyData.bulk] using h.bk⟩
theorem sml_lst {D W : Nat} {xs : List PyData} (h : SmL D W xs) : Sm (D + 1) W (.list xs) :=
  ⟨by simpa [PyData.showable] using h.sh, by simpa [PyData.leavesShort] using h.ls, by have := h.dp; simp only [PyData.depth]; omega, by simpa only [PyData.bulk] using h.bk⟩
theorem tup_sml {D W : Nat} {xs : List PyData} (h : Sm D W (.tuple xs)) : SmL D W xs :=
  ⟨by simpa [PyData.showable] using h.sh, by simpa [PyData.leavesShort] using h.ls, by have := h.dp; simp only [PyData.depth] at this; omega, by simpa only [PyData.bulk] using h.bk⟩
theorem sml_nil {D W : Nat} : SmL D W [] := ⟨rfl, rfl, by simp [PyData.depthAll], by simp [PyData.bulkAll]⟩
theorem sml_cons {D W1 W2 W : Nat} {x : PyData} {xs : List PyData} (h : Sm D W1 x) (k : SmL D W2 xs) (hw : W1 + 1 + W2 ≤ W) : SmL D W (x :: xs) :=
  ⟨by simp [PyData.showableAll, h.sh, k.sh], by simp [PyData.leavesShortAll, h.ls, k.ls], by have := h.dp; have := k.dp; simp only [PyData.depthAll]; omega, by have := h.bk; have := k.bk; simp only [PyData.bulkAll]; omega⟩
theorem sml_un {D W : Nat} {x : PyData} {xs : List PyData} (h : SmL D W (x :: xs)) : Sm D W x ∧ SmL D W xs := by
  obtain ⟨h1, h2, h3, h4⟩ := h
  simp only [PyData.showableAll, PyData.leavesShortAll, PyData.depthAll, PyData.bulkAll, Bool.and_eq_true] at h1 h2 h3 h4
  exact ⟨⟨h1.1, h2.1, by omega, by omega⟩, ⟨h1.2, h2.2, by omega, by omega⟩⟩
theorem sml_mem {D W : Nat} : ∀ {xs : List PyData}, SmL D W xs → ∀ x ∈ xs, Sm D W x
  | [], _, _, hx => nomatch hx
  | y :: ys, h, x, hx => by
    obtain ⟨h1, h2⟩ := sml_un h
    rcases List.mem_cons.mp hx with rfl | hx
    · exact h1
    · exact sml_mem h2 x hx
theorem SmL.mono {D W D' W' : Nat} {xs : List PyData} (h : SmL D W xs) (h1 : D ≤ D') (h2 : W ≤ W') : SmL D' W' xs := ⟨h.sh, h.ls, Nat.le_trans h.dp h1, Nat.le_trans h.bk h2⟩
theorem bulk_app : ∀ (xs ys : List PyData), PyData.bulkAll (xs ++ ys) = PyData.bulkAll xs + PyData.bulkAll ys
  | [], ys => by simp [PyData.bulkAll]
  | x :: xs, ys => by simp only [List.cons_append, PyData.bulkAll, bulk_app xs ys]; omega
theorem sml_app {D W1 W2 W : Nat} {xs ys : List PyData} (h : SmL D W1 xs) (k : SmL D W2 ys) (hw : W1 + W2 ≤ W) : SmL D W (xs ++ ys) := by
  refine ⟨?_, ?_, ?_, by rw [bulk_app]; have := h.bk; have := k.bk; omega⟩
  · have h1 := h.sh
    have h2 := k.sh
    clear h k
    induction xs with
    | nil => exact h2
    | cons x xs ih =>
      simp only [PyData.showableAll, Bool.and_eq_true] at h1
      simp [PyData.showableAll, h1.1, ih h1.2]
  · have h1 := h.ls
    have h2 := k.ls
    clear h k
    induction xs with
    | nil => exact h2
    | cons x xs ih =>
      simp only [PyData.leavesShortAll, Bool.and_eq_true] at h1
      simp [PyData.leavesShortAll, h1.1, ih h1.2]
  · have h1 := h.dp
    have h2 := k.dp
    clear h k
    induction xs with
    | nil => exact h2
    | cons x xs ih =>
      simp only [List.cons_append, PyData.depthAll] at h1 ⊢
      have := ih (by omega)
      omega
theorem sml_drop {D W : Nat} : ∀ {xs : List PyData} (n : Nat), SmL D W xs → SmL D W (xs.drop n)
  | xs, 0, h => h
  | [], _ + 1, h => h
  | x :: xs, n + 1, h => sml_drop n (sml_un h).2
theorem sml_take {D W : Nat} : ∀ {xs : List PyData} (n : Nat), SmL D W xs → SmL D W (xs.take n)
  | xs, 0, h => sml_nil
  | [], _ + 1, h => h
  | x :: xs, n + 1, h => by
    obtain ⟨h1, h2⟩ := sml_un h
    have hb := h.bk
    simp only [PyData.bulkAll] at hb
    have h3 : SmL D (PyData.bulkAll xs) xs := ⟨h2.sh, h2.ls, h2.dp, Nat.le_refl _⟩
    exact sml_cons (W1 := x.bulk) ⟨h1.sh, h1.ls, h1.dp, Nat.le_refl _⟩ (sml_take n h3) (by omega)
theorem sml_cut {D W : Nat} {xs : List PyData} {a b : Option Int} (h : SmL D W xs) : SmL D W (GB.cutD xs a b) := sml_take _ (sml_drop _ h)
/-! books -/
def isTup (l m : Int) : PyData → Bool
  | .tuple xs => decide (l ≤ xs.length ∧ (xs.length : Int) ≤ m)
  | _ => false
def tripB : PyData → Bool
  | .tuple [.tuple [_, _, _], .tuple [_, _, _]] => true
  | _ => false
def formB : PyData → Bool
  | .tuple [w, r, m, _, _] => tripB w && (tripB r && isTup 2 2 m)
  | _ => false
def GRD : List PyData := [.tuple [], .tuple [.str "again"], .tuple [.str "again", .str "new"], .tuple [.str "again", .str "new", .str "old"], .tuple [.str "again", .str "old"], .tuple [.str "new"], .tuple [.str "new", .str "old"], .tuple [.str "old"]]
def MDE : List PyData := [.str "white", .str "grey", .str "black"]
def grdB (x : PyData) : Bool := GRD.any fun z => PyData.eqv z x
def mdB (x : PyData) : Bool := MDE.any fun z => PyData.eqv z x
def firstBad : List (Bool × PyData) → PyData
  | [] => .none
  | (b, e) :: r => if b = true then firstBad r else e
def eW (p c : Int) : PyData := .tuple [.str "write", .int p, .int c]
def eR (p c : Int) : PyData := .tuple [.str "read", .int p, .int c]
def eM (p : Int) : PyData := .tuple [.str "make", .int p]
def checks (a b c d e f g h i j k l m n la pi : PyData) : List (Bool × PyData) :=
  [(grdB a, eW 0 0), (grdB b, eW 0 1), (grdB c, eW 0 2), (grdB d, eW 1 0), (grdB e, eW 1 1), (grdB f, eW 1 2),
   (kBool g, eR 0 0), (kBool h, eR 0 1), (kBool i, eR 0 2), (kBool j, eR 1 0), (kBool k, eR 1 1), (kBool l, eR 1 2), (mdB m, eM 0), (mdB n, eM 1), (kBool la, .str "last"), (kBool pi, .str "pieces")]
def bf : PyData → PyData
  | .tuple [.tuple [.tuple [a, b, c], .tuple [d, e, f]], .tuple [.tuple [g, h, i], .tuple [j, k, l]], .tuple [m, n], la, pi] => firstBad (checks a b c d e f g h i j k l m n la pi)
  | _ => .str "form"
/-! entries -/
inductive En where
  | last
  | make (p : Nat)
  | read (p c : Nat)
  | write (p c : Nat) (w : Str)
  deriving DecidableEq
def En.d : En → PyData
  | .last => .tuple [.str "last"]
  | .make p => .tuple [.str "make", .int p]
  | .read p c => .tuple [.str "read", .int p, .int c]
  | .write p c w => .tuple [.str "write", .int p, .int c, .str w]
def En.pl : En → List Nat
  | .last => [3]
  | .make p => [2, p]
  | .read p c => [1, p, c]
  | .write p c _ => [0, p, c]
def ENS : List En := [.last, .make 0, .make 1, .read 0 0, .read 0 1, .read 0 2, .read 1 0, .read 1 1, .read 1 2, .write 0 0 "again", .write 0 0 "new", .write 0 0 "old", .write 0 1 "again", .write 0 1 "new", .write 0 1 "old", .write 0 2 "again", .write 0 2 "new", .write 0 2 "old", .write 1 0 "again", .write 1 0 "new", .write 1 0 "old", .write 1 1 "again", .write 1 1 "new", .write 1 1 "old", .write 1 2 "again", .write 1 2 "new", .write 1 2 "old"]
def nD (n : Nat) : PyData := .int n
def itemAt : PyData → List Nat → Option PyData
  | x, [] => some x
  | .tuple xs, n :: ns => match xs[n]? with
    | some y => itemAt y ns
    | none => none
  | _, _ :: _ => none
def hasV : En → PyData → Option Bool
  | .write _ _ w, .tuple gs => inD (.str w) (.tuple gs)
  | .make _, .str z => if eqOk (.str z) (.str "white") = true then some (!PyData.eqv (.str z) (.str "white")) else none
  | .read _ _, .bool b => some b
  | .last, .bool b => some b
  | _, _ => none
def hasE (b : PyData) (e : En) : Option Bool := match itemAt b e.pl with
  | some x => hasV e x
  | none => none
def rep : PyData → List Nat → PyData → Option PyData
  | _, [], it => some it
  | .tuple xs, n :: ns, it => match xs[n]? with
    | some y => match rep y ns it with
      | some z => if xs.length ≤ 1000 then some (.tuple (xs.take n ++ [z] ++ xs.drop (n + 1))) else none
      | none => none
    | none => none
  | _, _ :: _, _ => none
def WE (b : PyData) (e : En) (y : PyData) : Prop := (hasE b e = some true ∧ y = b) ∨ (hasE b e = some false ∧ match e with
  | .write p c w => ∃ ss tt : List Str, itemAt b [0, p, c] = some (.tuple (ss.map .str)) ∧ ss.length ≤ 1000 ∧ tt.Perm (ss ++ [w]) ∧ tt.Pairwise strLe ∧ rep b [0, p, c] (.tuple (tt.map .str)) = some y
  | .make p => rep b [2, p] (.str "black") = some y
  | .read p c => rep b [1, p, c] (.bool true) = some y
  | .last => rep b [3] (.bool true) = some y)
def WO (b : PyData) (e : En) (y : PyData) : Prop := match e with
  | .write p c w => ∃ ss : List Str, itemAt b [0, p, c] = some (.tuple (ss.map .str)) ∧ ss.length ≤ 1000 ∧ rep b [0, p, c] (.tuple ((ss.filter fun z => !PyData.eqv (.str z) (.str w)).map .str)) = some y ∧ (∀ z ∈ ss, eqOk (.str z) (.str w) = true)
  | .make p => rep b [2, p] (.str "white") = some y
  | .read p c => rep b [1, p, c] (.bool false) = some y
  | .last => rep b [3] (.bool false) = some y
def entD (b : PyData) : List PyData := (ENS.filter fun e => hasE b e == some true).map En.d
/-! books -/
structure Bo where
  g : Nat → Nat → Str → Bool
  r : Nat → Nat → Bool
  m : Nat → Str
  l : Bool
  p : Bool
def Bo.has (b : Bo) : En → Bool
  | .last => b.l
  | .make q => !(b.m q == "white")
  | .read p c => b.r p c
  | .write p c w => b.g p c w
def gL (f : Str → Bool) : List Str := (["again", "new", "old"] : List Str).filter f
def gdD (f : Str → Bool) : PyData := .tuple ((gL f).map .str)
def Bo.d (b : Bo) : PyData :=
  .tuple [.tuple [.tuple [gdD (b.g 0 0), gdD (b.g 0 1), gdD (b.g 0 2)], .tuple [gdD (b.g 1 0), gdD (b.g 1 1), gdD (b.g 1 2)]], .tuple [.tuple [.bool (b.r 0 0), .bool (b.r 0 1), .bool (b.r 0 2)], .tuple [.bool (b.r 1 0), .bool (b.r 1 1), .bool (b.r 1 2)]], .tuple [.str (b.m 0), .str (b.m 1)], .bool b.l, .bool b.p]
def Bo.tu (b : Bo) (e : En) (v : Bool) : Bo := match e with
  | .last => { b with l := v }
  | .make q => { b with m := fun q' => if q' = q then (if v = true then (if b.m q = "white" then "black" else b.m q) else "white") else b.m q' }
  | .read p c => { b with r := fun p' c' => if p' = p ∧ c' = c then v else b.r p' c' }
  | .write p c w => { b with g := fun p' c' w' => if p' = p ∧ c' = c ∧ w' = w then v else b.g p' c' w' }
def OkB (b : Bo) : Prop := ∀ q, b.m q = "white" ∨ b.m q = "grey" ∨ b.m q = "black"
end GK

set_option maxRecDepth 20000
namespace GK
open PySem PySem.Spec PyProof.Rows L2 GB
theorem line_ge {n : Nat} (h : n ≤ 1000000) : n ≤ sizeLine := Nat.le_trans h (by decide)
theorem all_of {p : PyData → Bool} {xs : List PyData} (h : xs.all p = true) : ∀ x ∈ xs, p x = true := List.all_eq_true.mp h
theorem rows_lay : ∀ {xs : List PyData}, (∀ x ∈ xs, x.canLay0 = true ∧ x.depth ≤ 20) → PyData.canLayAll0 xs = true ∧ PyData.depthAll xs ≤ 20
  | [], _ => ⟨rfl, by simp [PyData.depthAll]⟩
  | x :: xs, h => by
    obtain ⟨a, b⟩ := h x (by simp)
    obtain ⟨c, d⟩ := rows_lay (xs := xs) fun y hy => h y (by simp [hy])
    refine ⟨by simp [PyData.canLayAll0, a, c], by simp only [PyData.depthAll]; omega⟩
theorem shp_list {xs : List PyData} (h : ∀ x ∈ xs, x.canLay0 = true ∧ x.depth ≤ 20) : SeqAt.shaped (.list xs) = true := by
  obtain ⟨a, b⟩ := rows_lay h
  simp [SeqAt.shaped, PyData.canLay0, PyData.depth, a]; omega
theorem shp_tup {xs : List PyData} (h : ∀ x ∈ xs, x.canLay0 = true ∧ x.depth ≤ 20) : SeqAt.shaped (.tuple xs) = true := by
  obtain ⟨a, b⟩ := rows_lay h
  simp [SeqAt.shaped, PyData.canLay0, PyData.depth, a]; omega
theorem list_eqOk {xs ys : List PyData} (h : ∀ x ∈ xs, x.canLay0 = true ∧ x.depth ≤ 20) (h' : ∀ x ∈ ys, x.canLay0 = true ∧ x.depth ≤ 20) : eqOk (.list xs) (.list ys) = true := by
  show (SeqAt.shaped (.list xs) && SeqAt.shaped (.list ys)) = true
  rw [shp_list h, shp_list h']; rfl
theorem irow2 : irow 0 (Int.toNat 2) = [.int 0, .int 1] := rfl
theorem irow3 : irow 0 (Int.toNat 3) = [.int 0, .int 1, .int 2] := rfl
theorem at_n {xs : List PyData} {n : Nat} {v : PyData} (h : xs[n]? = some v) : atI xs (n : Int) = some v := by
  have hl : n < xs.length := (List.getElem?_eq_some_iff.mp h).1
  unfold atI ixN
  rw [if_pos (by omega), if_pos (by omega)]
  simpa using h
theorem ixn {xs : List PyData} {m : Int} {v : PyData} {p : PyData → Prop} (e : atI xs m = some v) : (∃ v, atI xs m = some v ∧ p v) ↔ p v := ⟨fun ⟨_, e', h⟩ => by rw [e] at e'; cases e'; exact h, fun h => ⟨_, e, h⟩⟩
theorem ix0 {a : PyData} {r : List PyData} {p : PyData → Prop} : (∃ v, atI (a :: r) 0 = some v ∧ p v) ↔ p a := ixn (at_n (n := 0) rfl)
theorem ix1 {a b : PyData} {r : List PyData} {p : PyData → Prop} : (∃ v, atI (a :: b :: r) 1 = some v ∧ p v) ↔ p b := ixn (at_n (n := 1) rfl)
theorem ix2 {a b c : PyData} {r : List PyData} {p : PyData → Prop} : (∃ v, atI (a :: b :: c :: r) 2 = some v ∧ p v) ↔ p c := ixn (at_n (n := 2) rfl)
theorem ix3 {a b c d : PyData} {r : List PyData} {p : PyData → Prop} : (∃ v, atI (a :: b :: c :: d :: r) 3 = some v ∧ p v) ↔ p d := ixn (at_n (n := 3) rfl)
theorem ix4 {a b c d f : PyData} {r : List PyData} {p : PyData → Prop} : (∃ v, atI (a :: b :: c :: d :: f :: r) 4 = some v ∧ p v) ↔ p f := ixn (at_n (n := 4) rfl)
theorem t2 : ((2 : Int) < 2 ^ 60) = True := eq_true (by decide)
theorem t2' : (-2 ^ 60 < (2 : Int)) = True := eq_true (by decide)
theorem t3 : ((3 : Int) < 2 ^ 60) = True := eq_true (by decide)
theorem t3' : (-2 ^ 60 < (3 : Int)) = True := eq_true (by decide)
theorem z2 : (2 ≤ sizeLine) = True := eq_true (by decide)
theorem z3 : (3 ≤ sizeLine) = True := eq_true (by decide)
theorem pick_perm {α : Type} : ∀ (l : List α) (i : Nat) (h : i < l.length), (l[i] :: l.eraseIdx i).Perm l
  | [], _, h => nomatch h
  | a :: r, 0, _ => List.Perm.refl _
  | a :: r, i + 1, h => (List.Perm.swap a (r[i]'(by simpa using h)) (r.eraseIdx i)).trans ((pick_perm r i (by simpa using h)).cons a)
theorem exl {α : Type} {a : List PyData} {p : List PyData → Prop} : (∃ zs, PyData.list a = PyData.list zs ∧ p zs) ↔ p a := ⟨fun ⟨_, e, h⟩ => by cases e; exact h, fun h => ⟨_, rfl, h⟩⟩
theorem at_nd {xs : List PyData} {n : Nat} {v : PyData} (h : xs[n]? = some v) : ∃ i, nD n = .int i ∧ atI xs i = some v := ⟨n, rfl, at_n h⟩
theorem item_cons {x y : PyData} {n : Nat} {ns : List Nat} (h : itemAt x (n :: ns) = some y) : ∃ xs v, x = .tuple xs ∧ xs[n]? = some v ∧ itemAt v ns = some y := by
  cases x with
  | tuple xs =>
    unfold itemAt at h
    split at h
    · rename_i v e; exact ⟨xs, v, rfl, e, h⟩
    · cases h
  | _ => cases h
theorem rep_cons {x y it : PyData} {n : Nat} {ns : List Nat} (h : rep x (n :: ns) it = some y) : ∃ xs v z, x = .tuple xs ∧ xs[n]? = some v ∧ rep v ns it = some z ∧ xs.length ≤ 1000 ∧ y = .tuple (xs.take n ++ [z] ++ xs.drop (n + 1)) := by
  cases x with
  | tuple xs =>
    unfold rep at h
    split at h
    · rename_i v e
      split at h
      · rename_i z e2
        split at h
        · rename_i hl; cases h; exact ⟨xs, v, z, rfl, e, e2, hl, rfl⟩
        · cases h
      · cases h
    · cases h
  | _ => cases h
theorem cut_w {a b c d : PyData} : GB.cutD [a, b, c, d] (some 1) (some 3) = [b, c] := rfl
theorem cut_r {a b c : PyData} : GB.cutD [a, b, c] (some 1) (some 3) = [b, c] := rfl
theorem cut_m {a b : PyData} : GB.cutD [a, b] (some 1) (some 3) = [b] := rfl
theorem cut_l {a : PyData} : GB.cutD [a] (some 1) (some 3) = [] := rfl
theorem en_inj {e e' : En} (h : e.d = e'.d) : e = e' := by
  cases e <;> cases e' <;> simp only [En.d, PyData.tuple.injEq, List.cons.injEq, PyData.str.injEq, PyData.int.injEq, and_true, true_and, reduceCtorEq, and_false, false_and] at h
  all_goals first
    | rfl
    | exact absurd h (by decide +kernel)
    | exact absurd h.1 (by decide +kernel)
    | (have : ∀ a b : Nat, (a : Int) = (b : Int) → a = b := fun a b => by omega
       first
         | (obtain ⟨h1, h2, h3⟩ := h; rw [this _ _ h1, this _ _ h2, h3])
         | (obtain ⟨h1, h2⟩ := h; rw [this _ _ h1, this _ _ h2])
         | rw [this _ _ h])
theorem has_of {b : PyData} {e : En} {v : Bool} (h : hasE b e = some v) : ∃ it, itemAt b e.pl = some it ∧ hasV e it = some v := by
  unfold hasE at h
  split at h
  · rename_i x h1; exact ⟨x, h1, h⟩
  · cases h
theorem ev1 : PyData.eqv (.str "write") (.str "write") = true := by decide +kernel
theorem ev2 : PyData.eqv (.str "make") (.str "write") = false := by decide +kernel
theorem ev3 : PyData.eqv (.str "read") (.str "write") = false := by decide +kernel
theorem ev4 : PyData.eqv (.str "last") (.str "write") = false := by decide +kernel
theorem ev5 : PyData.eqv (.str "make") (.str "make") = true := by decide +kernel
theorem ev6 : PyData.eqv (.str "read") (.str "make") = false := by decide +kernel
theorem ev7 : PyData.eqv (.str "last") (.str "make") = false := by decide +kernel
theorem ev8 : PyData.eqv (.str "read") (.str "read") = true := by decide +kernel
theorem ev9 : PyData.eqv (.str "last") (.str "read") = false := by decide +kernel
theorem ev10 : PyData.eqv (.str "make") (.str "read") = false := by decide +kernel
theorem hv_w {p c : Nat} {w : Str} {it : PyData} {v : Bool} (h : hasV (.write p c w) it = some v) : ∃ gs, it = .tuple gs ∧ inD (.str w) (.tuple gs) = some v := by
  cases it with
  | tuple gs => exact ⟨gs, rfl, h⟩
  | _ => exact absurd h (by simp [hasV])
theorem hv_m {p : Nat} {it : PyData} {v : Bool} (h : hasV (.make p) it = some v) : ∃ z, it = .str z ∧ eqOk (.str z) (.str "white") = true ∧ v = !PyData.eqv (.str z) (.str "white") := by
  cases it with
  | str z =>
    have h : (if eqOk (.str z) (.str "white") = true then some (!PyData.eqv (.str z) (.str "white")) else none) = some v := h
    split at h
    · rename_i h1; cases h; exact ⟨z, rfl, h1, rfl⟩
    · cases h
  | _ => cases h
theorem hv_r {p c : Nat} {it : PyData} {v : Bool} (h : hasV (.read p c) it = some v) : it = .bool v := by
  cases it with
  | bool b => cases h; rfl
  | _ => cases h
theorem hv_l {it : PyData} {v : Bool} (h : hasV .last it = some v) : it = .bool v := by
  cases it with
  | bool b => cases h; rfl
  | _ => cases h
theorem o1 {x : PyData} {f : PyData → Prop} (h : f x) : oneK (.d x) f := by
  first
    | exact h
    | exact ⟨_, rfl, h⟩
theorem fx {xs : List PyData} {n : Nat} {v : PyData} {k : S → Prop} (e : xs[n]? = some v) (h : k (.d v)) : fIx (.tuple xs) (.int n) k := ⟨_, rfl, v, at_n e, h⟩
theorem nd_inj : ∀ {a b : List Nat}, a.map nD = b.map nD → a = b
  | [], [], _ => rfl
  | [], _ :: _, h => by cases h
  | _ :: _, [], h => by cases h
  | u :: us, v :: vs, h => by
    simp only [List.map_cons, List.cons.injEq, nD, PyData.int.injEq] at h
    have e1 : u = v := by omega
    have e2 : us = vs := nd_inj h.2
    rw [e1, e2]
theorem nD_app {n : Nat} : nD n = .int n := rfl
theorem cutD_from {α : Type} (xs : List α) (n : Nat) : GB.cutD xs (some (n : Int)) none = xs.drop n := by
  unfold GB.cutD
  rw [HT.sIx_nat]
  show (xs.drop (min n xs.length)).take (xs.length - min n xs.length) = _
  have e : xs.drop (min n xs.length) = xs.drop n := by
    by_cases h : n ≤ xs.length
    · rw [Nat.min_eq_left h]
    · rw [Nat.min_eq_right (by omega), List.drop_length, List.drop_eq_nil_of_le (by omega)]
  rw [e, List.take_of_length_le (by rw [List.length_drop]; omega)]
theorem cut_tail {x : PyData} {xs : List PyData} : GB.cutD (x :: xs) (some 1) none = xs := by
  have := cutD_from (x :: xs) 1
  exact this
theorem tuE {ys : List PyData} {p : List PyData → Prop} : (∃ xs, S.d (.tuple ys) = S.d (.tuple xs) ∧ p xs) ↔ p ys := ⟨fun ⟨_, e, h⟩ => by cases e; exact h, fun h => ⟨_, rfl, h⟩⟩
theorem dcE {d : List (Str × Int)} {a : Str} {p : Int → Prop} : (∃ z n, S.d (.str a) = S.d (.str z) ∧ d.lookup z = some n ∧ p n) ↔ ∃ n, d.lookup a = some n ∧ p n := ⟨fun ⟨_, n, e, h⟩ => by cases e; exact ⟨n, h⟩, fun ⟨n, h⟩ => ⟨_, n, rfl, h⟩⟩
theorem ent_step {b : PyData} {e : En} {es : List En} {acc : List PyData} {T : List PyData} {v : Bool} (h : acc ++ ((e :: es).filter fun e => hasE b e == some true).map En.d = T) (hv : hasE b e = some v) :
    (v = true → (acc ++ [e.d]) ++ (es.filter fun e => hasE b e == some true).map En.d = T) ∧ (v = false → acc ++ (es.filter fun e => hasE b e == some true).map En.d = T) := by
  constructor
  · rintro rfl
    rw [List.filter_cons, hv] at h
    rw [← h]
    simp
  · rintro rfl
    rw [List.filter_cons, hv] at h
    rw [← h]
    simp
/-! guards -/
theorem eqv_s {z w : Str} : PyData.eqv (.str z) (.str w) = (z == w) := by
  simp [PyData.eqv]
theorem gL_sub (f : Str → Bool) : (gL f).Pairwise strLe := List.Pairwise.sublist List.filter_sublist (by decide +kernel)
theorem gL_len (f : Str → Bool) : (gL f).length ≤ 3 := Nat.le_trans (List.length_filter_le _ _) (by decide)
theorem gL_off (f : Str → Bool) (w : Str) : (gL f).filter (fun z => !PyData.eqv (.str z) (.str w)) = gL fun z => if z = w then false else f z := by
  unfold gL
  rw [List.filter_filter]
  refine List.filter_congr fun z _ => ?_
  rw [eqv_s]
  by_cases h : z = w
  · simp [h]
  · simp [h]
def WD3 (w : Str) : Prop := w = "again" ∨ w = "new" ∨ w = "old"
theorem gL_bits (f : Str → Bool) : gL f = (if f "again" = true then ([("again" : Str)] : List Str) else []) ++ ((if f "new" = true then ([("new" : Str)] : List Str) else []) ++ (if f "old" = true then ([("old" : Str)] : List Str) else [])) := by
  unfold gL
  simp only [List.filter_cons, List.filter_nil]
  cases f "again" <;> cases f "new" <;> cases f "old" <;> rfl
theorem nan : ("new" : Str) = "again" ↔ False := iff_of_false (by decide +kernel) id
theorem noan : ("old" : Str) = "again" ↔ False := iff_of_false (by decide +kernel) id
theorem nna : ("again" : Str) = "new" ↔ False := iff_of_false (by decide +kernel) id
theorem noo : ("again" : Str) = "old" ↔ False := iff_of_false (by decide +kernel) id
theorem nno : ("new" : Str) = "old" ↔ False := iff_of_false (by decide +kernel) id
theorem non' : ("old" : Str) = "new" ↔ False := iff_of_false (by decide +kernel) id
theorem gL_put (f : Str → Bool) {w : Str} (hw : WD3 w) (h : f w = false) : (gL fun z => if z = w then true else f z).Perm (gL f ++ [w]) := by
  rw [gL_bits, gL_bits f]
  rcases hw with rfl | rfl | rfl
  · simp only [nan, noan, if_true, if_false, h]
    cases f "new" <;> cases f "old" <;> decide +kernel
  · simp only [nna, non', if_true, if_false, h]
    cases f "again" <;> cases f "old" <;> decide +kernel
  · simp only [noo, nno, if_true, if_false, h]
    cases f "again" <;> cases f "new" <;> decide +kernel
theorem gL_has (f : Str → Bool) {w : Str} (hw : WD3 w) : inD (.str w) (gdD f) = some (f w) := by
  unfold gdD
  rw [gL_bits]
  rcases hw with rfl | rfl | rfl <;> cases f "again" <;> cases f "new" <;> cases f "old" <;> decide +kernel
theorem gL_lay (f : Str → Bool) {w : Str} (hw : WD3 w) : ∀ z ∈ gL f, eqOk (.str z) (.str w) = true := by
  intro z hz
  have hz : z ∈ (["again", "new", "old"] : List Str) := (List.mem_filter.mp hz).1
  simp only [List.mem_cons, List.not_mem_nil, or_false] at hz
  rcases hz with rfl | rfl | rfl <;> rcases hw with rfl | rfl | rfl <;> decide +kernel
/-! entries of a book -/
theorem m_ok {z : Str} (h : z = "white" ∨ z = "grey" ∨ z = "black") : hasV (.make 0) (.str z) = some (!(z == "white")) := by
  rcases h with rfl | rfl | rfl <;> decide +kernel
theorem ens_cases {P : En → Prop} (h1 : P .last) (h2 : ∀ q, q < 2 → P (.make q)) (h3 : ∀ p c, p < 2 → c < 3 → P (.read p c)) (h4 : ∀ p c w, p < 2 → c < 3 → WD3 w → P (.write p c w)) : ∀ e ∈ ENS, P e := by
  intro e he
  simp only [ENS, List.mem_cons, List.not_mem_nil, or_false] at he
  rcases he with rfl | rfl | rfl | rfl | rfl | rfl | rfl | rfl | rfl | rfl | rfl | rfl | rfl | rfl | rfl | rfl | rfl | rfl | rfl | rfl | rfl | rfl | rfl | rfl | rfl | rfl | rfl
  · exact h1
  · exact h2 0 (by decide)
  · exact h2 1 (by decide)
  · exact h3 0 0 (by decide) (by decide)
  · exact h3 0 1 (by decide) (by decide)
  · exact h3 0 2 (by decide) (by decide)
  · exact h3 1 0 (by decide) (by decide)
  · exact h3 1 1 (by decide) (by decide)
  · exact h3 1 2 (by decide) (by decide)
  · exact h4 0 0 _ (by decide) (by decide) (.inl rfl)
  · exact h4 0 0 _ (by decide) (by decide) (.inr (.inl rfl))
  · exact h4 0 0 _ (by decide) (by decide) (.inr (.inr rfl))
  · exact h4 0 1 _ (by decide) (by decide) (.inl rfl)
  · exact h4 0 1 _ (by decide) (by decide) (.inr (.inl rfl))
  · exact h4 0 1 _ (by decide) (by decide) (.inr (.inr rfl))
  · exact h4 0 2 _ (by decide) (by decide) (.inl rfl)
  · exact h4 0 2 _ (by decide) (by decide) (.inr (.inl rfl))
  · exact h4 0 2 _ (by decide) (by decide) (.inr (.inr rfl))
  · exact h4 1 0 _ (by decide) (by decide) (.inl rfl)
  · exact h4 1 0 _ (by decide) (by decide) (.inr (.inl rfl))
  · exact h4 1 0 _ (by decide) (by decide) (.inr (.inr rfl))
  · exact h4 1 1 _ (by decide) (by decide) (.inl rfl)
  · exact h4 1 1 _ (by decide) (by decide) (.inr (.inl rfl))
  · exact h4 1 1 _ (by decide) (by decide) (.inr (.inr rfl))
  · exact h4 1 2 _ (by decide) (by decide) (.inl rfl)
  · exact h4 1 2 _ (by decide) (by decide) (.inr (.inl rfl))
  · exact h4 1 2 _ (by decide) (by decide) (.inr (.inr rfl))
theorem two (q : Nat) (h : q < 2) : q = 0 ∨ q = 1 := by omega
theorem three (q : Nat) (h : q < 3) : q = 0 ∨ q = 1 ∨ q = 2 := by omega
theorem has_d (b : Bo) (ok : OkB b) : ∀ e ∈ ENS, hasE b.d e = some (b.has e) := by
  refine ens_cases rfl ?_ ?_ ?_
  · intro q hq
    rcases two q hq with rfl | rfl
    · exact m_ok (ok 0)
    · exact m_ok (ok 1)
  · intro p c hp hc
    rcases two p hp with rfl | rfl <;> rcases three c hc with rfl | rfl | rfl <;> rfl
  · intro p c w hp hc hw
    rcases two p hp with rfl | rfl <;> rcases three c hc with rfl | rfl | rfl <;> exact gL_has _ hw
theorem tu_same (b : Bo) (e : En) (v : Bool) (h : b.has e = v) : b.tu e v = b := by
  obtain ⟨g, r, m, l, p⟩ := b
  cases e with
  | last => simp only [Bo.has] at h; simp [Bo.tu, h]
  | make q =>
    simp only [Bo.has] at h
    simp only [Bo.tu, Bo.mk.injEq, true_and, and_true]
    funext q'
    by_cases e : q' = q
    · subst e
      rw [if_pos rfl]
      cases v with
      | true =>
        have : ¬ m q' = "white" := fun z => by rw [z] at h; exact absurd h (by decide +kernel)
        simp [this]
      | false =>
        have : m q' = "white" := by simpa using h
        simp [this]
    · rw [if_neg e]
  | read p' c =>
    simp only [Bo.has] at h
    simp only [Bo.tu, Bo.mk.injEq, true_and, and_true]
    funext a d
    by_cases e : a = p' ∧ d = c
    · rw [if_pos e, e.1, e.2, h]
    · rw [if_neg e]
  | write p' c w =>
    simp only [Bo.has] at h
    simp only [Bo.tu, Bo.mk.injEq, true_and, and_true]
    funext a d x
    by_cases e : a = p' ∧ d = c ∧ x = w
    · rw [if_pos e, e.1, e.2.1, e.2.2, h]
    · rw [if_neg e]
theorem ok_tu {b : Bo} (ok : OkB b) (e : En) (v : Bool) : OkB (b.tu e v) := by
  intro q
  cases e with
  | make q0 =>
    have key : (b.tu (.make q0) v).m q = "white" ∨ (b.tu (.make q0) v).m q = "black" ∨ (b.tu (.make q0) v).m q = b.m q0 ∨ (b.tu (.make q0) v).m q = b.m q := by
      by_cases h : q = q0 <;> by_cases hv : v = true <;> by_cases hw : b.m q0 = "white" <;> simp [Bo.tu, h, hv, hw]
    rcases key with e | e | e | e <;> rw [e]
    · exact .inl rfl
    · exact .inr (.inr rfl)
    · exact ok q0
    · exact ok q
  | _ => exact ok q
theorem we_b {b : Bo} (ok : OkB b) {e : En} (he : e ∈ ENS) : WE b.d e (b.tu e true).d := by
  have hd := has_d b ok e he
  cases hv : b.has e with
  | true => exact .inl ⟨by rw [hd, hv], by rw [tu_same b e true hv]⟩
  | false =>
    rw [hv] at hd
    refine ens_cases (P := fun e => b.has e = false → hasE b.d e = some false → WE b.d e (b.tu e true).d) ?_ ?_ ?_ ?_ e he hv hd
    · intro _ hd; exact .inr ⟨hd, rfl⟩
    · intro q hq h hd
      have hm : b.m q = "white" := by simpa [Bo.has] using h
      refine .inr ⟨hd, ?_⟩
      rcases two q hq with rfl | rfl
      · show some _ = some (Bo.d _)
        simp [Bo.tu, Bo.d, hm]
      · show some _ = some (Bo.d _)
        simp [Bo.tu, Bo.d, hm]
    · intro p c hp hc _ hd
      refine .inr ⟨hd, ?_⟩
      rcases two p hp with rfl | rfl <;> rcases three c hc with rfl | rfl | rfl <;> rfl
    · intro p c w hp hc hw h hd
      have e1 : (fun z => if p = p ∧ c = c ∧ z = w then true else b.g p c z) = fun z => if z = w then true else b.g p c z := by funext z; simp
      refine .inr ⟨hd, gL (b.g p c), gL fun z => if p = p ∧ c = c ∧ z = w then true else b.g p c z, ?_, Nat.le_trans (gL_len _) (by decide), by rw [e1]; exact gL_put _ hw h, gL_sub _, ?_⟩
      · rcases two p hp with rfl | rfl <;> rcases three c hc with rfl | rfl | rfl <;> rfl
      · rcases two p hp with rfl | rfl <;> rcases three c hc with rfl | rfl | rfl <;> rfl
theorem wo_b {b : Bo} {e : En} (he : e ∈ ENS) : WO b.d e (b.tu e false).d := by
  refine ens_cases (P := fun e => WO b.d e (b.tu e false).d) ?_ ?_ ?_ ?_ e he
  · rfl
  · intro q hq
    rcases two q hq with rfl | rfl <;> rfl
  · intro p c hp hc
    rcases two p hp with rfl | rfl <;> rcases three c hc with rfl | rfl | rfl <;> rfl
  · intro p c w hp hc hw
    have e1 : (fun z => if p = p ∧ c = c ∧ z = w then false else b.g p c z) = fun z => if z = w then false else b.g p c z := by funext z; simp
    refine ⟨gL (b.g p c), ?_, Nat.le_trans (gL_len _) (by decide), ?_, gL_lay _ hw⟩
    · rcases two p hp with rfl | rfl <;> rcases three c hc with rfl | rfl | rfl <;> rfl
    · rw [gL_off, ← e1]
      rcases two p hp with rfl | rfl <;> rcases three c hc with rfl | rfl | rfl <;> rfl
theorem strs_step {w z : Str} {zs : List Str} {acc T : List PyData} (h : acc ++ ((z :: zs).filter fun x => !PyData.eqv (.str x) (.str w)).map .str = T) :
    (PyData.eqv (.str z) (.str w) = true → acc ++ (zs.filter fun x => !PyData.eqv (.str x) (.str w)).map .str = T) ∧ (PyData.eqv (.str z) (.str w) = false → (acc ++ [PyData.str z]) ++ (zs.filter fun x => !PyData.eqv (.str x) (.str w)).map .str = T) := by
  constructor
  · intro e
    rw [List.filter_cons, e] at h
    rw [← h]; simp
  · intro e
    rw [List.filter_cons, e] at h
    rw [← h]; simp
theorem ev11 : PyData.eqv (.str "last") (.str "last") = true := by decide +kernel
theorem ev12 : PyData.eqv (.str "make") (.str "last") = false := by decide +kernel
theorem ev13 : PyData.eqv (.str "read") (.str "last") = false := by decide +kernel
theorem ev14 : PyData.eqv (.str "write") (.str "last") = false := by decide +kernel
theorem ev15 : PyData.eqv (.str "write") (.str "make") = false := by decide +kernel
theorem ev16 : PyData.eqv (.str "write") (.str "read") = false := by decide +kernel
theorem m_eqok {z : Str} (h : z = "white" ∨ z = "grey" ∨ z = "black") : eqOk (.str z) (.str "white") = true := by
  rcases h with rfl | rfl | rfl <;> decide +kernel
theorem m_eq {z : Str} (h : PyData.eqv (.str z) (.str "white") = true) : z = "white" := by
  rw [eqv_s] at h; exact eq_of_beq h
theorem m_ne {z : Str} (h : PyData.eqv (.str z) (.str "white") = false) : ¬ z = "white" := by
  rw [eqv_s] at h; intro e; rw [e] at h; exact absurd h (by decide +kernel)
theorem gL_on (f : Str → Bool) {w : Str} (hw : WD3 w) : (gL fun z => if z = w then true else f z).Perm ((gL f).filter (fun z => !PyData.eqv (.str z) (.str w)) ++ [w]) := by
  rw [gL_off]
  have h := gL_put (fun z => if z = w then false else f z) hw (by simp)
  have e : (fun z => if z = w then true else (if z = w then false else f z)) = fun z => if z = w then true else f z := by
    funext z
    by_cases h : z = w <;> simp [h]
  rw [e] at h
  exact h
theorem fil_run {w : Str} {ss : List Str} {R : List PyData → Prop} {g : DTG} {tt : TTd} {te : TEd} {ρ : GB.En} {vs : List Nat}
    (hn : R ((ss.filter fun x => !PyData.eqv (.str x) (.str w)).map .str))
    (hc : ∀ z ∈ ss, ∀ (acc : List PyData) (K : List PyData → Prop), (PyData.eqv (.str z) (.str w) = true → K acc) → (PyData.eqv (.str z) (.str w) = false → K (acc ++ [.str z])) → g (.str z) ρ fun ρ2 => wipeD ρ2 vs = ρ ∧ tt ρ2 fun b ρ3 => ρ3 = ρ2 ∧ iteK b (te ρ2 fun s ρ4 => ρ4 = ρ2 ∧ oneK s fun y => K (acc ++ [y])) (K acc)) :
    dLcGo vs g tt te ρ R (ss.map .str) [] := by
  refine lcI (fun ds acc => ∃ zs : List Str, ds = zs.map .str ∧ (∀ z ∈ zs, z ∈ ss) ∧ acc ++ (zs.filter fun x => !PyData.eqv (.str x) (.str w)).map .str = (ss.filter fun x => !PyData.eqv (.str x) (.str w)).map .str) ?_ ?_ _ [] ⟨ss, rfl, fun _ h => h, rfl⟩
  · rintro acc ⟨zs, e, _, h5⟩
    cases zs with
    | nil =>
      have h5 : acc = (ss.filter fun x => !PyData.eqv (.str x) (.str w)).map .str := by rw [← h5]; simp
      subst h5
      exact hn
    | cons a r => cases e
  · rintro d ds acc K hK ⟨zs, e, h9, h5⟩
    cases zs with
    | nil => cases e
    | cons z zs =>
      cases e
      obtain ⟨k1, k2⟩ := strs_step h5
      exact hc z (h9 z (by simp)) acc K (fun a => hK _ ⟨zs, rfl, fun x hx => h9 x (by simp [hx]), k1 a⟩) fun a => hK _ ⟨zs, rfl, fun x hx => h9 x (by simp [hx]), k2 a⟩
theorem ens_or {e : En} (he : e ∈ ENS) : e = .last ∨ (∃ q, q < 2 ∧ e = .make q) ∨ (∃ p c, p < 2 ∧ c < 3 ∧ e = .read p c) ∨ ∃ p c w, p < 2 ∧ c < 3 ∧ WD3 w ∧ e = .write p c w :=
  ens_cases (P := fun e => e = .last ∨ (∃ q, q < 2 ∧ e = .make q) ∨ (∃ p c, p < 2 ∧ c < 3 ∧ e = .read p c) ∨ ∃ p c w, p < 2 ∧ c < 3 ∧ WD3 w ∧ e = .write p c w) (.inl rfl) (fun q hq => .inr (.inl ⟨q, hq, rfl⟩)) (fun p c hp hc => .inr (.inr (.inl ⟨p, c, hp, hc, rfl⟩))) (fun p c w hp hc hw => .inr (.inr (.inr ⟨p, c, w, hp, hc, hw, rfl⟩))) e he
/-! sizes -/
theorem gd_sm (f : Str → Bool) : Sm 1 40 (gdD f) := by
  unfold gdD
  rw [gL_bits]
  cases f "again" <;> cases f "new" <;> cases f "old" <;> exact sm_of (by decide +kernel)
theorem bl_sm (v : Bool) : Sm 0 12 (.bool v) := by cases v <;> exact sm_of (by decide +kernel)
theorem st_sm {z : Str} (h : z = "white" ∨ z = "grey" ∨ z = "black") : Sm 0 12 (.str z) := by rcases h with rfl | rfl | rfl <;> exact sm_of (by decide +kernel)
theorem t3_sm {D W : Nat} {x y z : PyData} (h1 : Sm D W x) (h2 : Sm D W y) (h3 : Sm D W z) : Sm (D + 1) (3 * (W + 1)) (.tuple [x, y, z]) :=
  sm_tup (fun u hu => by simp only [List.mem_cons, List.not_mem_nil, or_false] at hu; rcases hu with rfl | rfl | rfl <;> assumption) (by simp)
theorem t2_sm {D W : Nat} {x y : PyData} (h1 : Sm D W x) (h2 : Sm D W y) : Sm (D + 1) (2 * (W + 1)) (.tuple [x, y]) :=
  sm_tup (fun u hu => by simp only [List.mem_cons, List.not_mem_nil, or_false] at hu; rcases hu with rfl | rfl <;> assumption) (by simp)
theorem l2_sm {D W : Nat} {x y : PyData} (h1 : Sm D W x) (h2 : Sm D W y) : Sm (D + 1) (2 * (W + 1)) (.list [x, y]) :=
  sm_lst (fun u hu => by simp only [List.mem_cons, List.not_mem_nil, or_false] at hu; rcases hu with rfl | rfl <;> assumption) (by simp)
theorem bo_sm {b : Bo} (ok : OkB b) : Sm 5 2000 b.d := by
  have a : ∀ p, Sm 3 300 (.tuple [.tuple [gdD (b.g p 0), gdD (b.g p 1), gdD (b.g p 2)], .tuple [gdD (b.g p 0), gdD (b.g p 1), gdD (b.g p 2)]]) := fun p => (t2_sm (t3_sm (gd_sm _) (gd_sm _) (gd_sm _)) (t3_sm (gd_sm _) (gd_sm _) (gd_sm _))).mono (by decide) (by decide)
  have h1 : Sm 4 399 (.tuple [.tuple [gdD (b.g 0 0), gdD (b.g 0 1), gdD (b.g 0 2)], .tuple [gdD (b.g 1 0), gdD (b.g 1 1), gdD (b.g 1 2)]]) := (t2_sm (t3_sm (gd_sm _) (gd_sm _) (gd_sm _)) (t3_sm (gd_sm _) (gd_sm _) (gd_sm _))).mono (by decide) (by decide)
  have h2 : Sm 4 399 (.tuple [.tuple [.bool (b.r 0 0), .bool (b.r 0 1), .bool (b.r 0 2)], .tuple [.bool (b.r 1 0), .bool (b.r 1 1), .bool (b.r 1 2)]]) := (t2_sm (t3_sm (bl_sm _) (bl_sm _) (bl_sm _)) (t3_sm (bl_sm _) (bl_sm _) (bl_sm _))).mono (by decide) (by decide)
  have h3 : Sm 4 399 (.tuple [.str (b.m 0), .str (b.m 1)]) := (t2_sm (st_sm (ok 0)) (st_sm (ok 1))).mono (by decide) (by decide)
  have h4 : Sm 4 399 (.bool b.l) := (bl_sm _).mono (by decide) (by decide)
  have h5 : Sm 4 399 (.bool b.p) := (bl_sm _).mono (by decide) (by decide)
  exact (sm_tup (n := 5) (fun u hu => by simp only [List.mem_cons, List.not_mem_nil, or_false] at hu; rcases hu with rfl | rfl | rfl | rfl | rfl <;> assumption) (by simp)).mono (by decide) (by decide)
theorem en_sm {e : En} (he : e ∈ ENS) : Sm 1 60 e.d := sm_of (all_of' he)
where all_of' {e : En} (he : e ∈ ENS) : smB 1 60 e.d = true := List.all_eq_true.mp (show ENS.all (fun e => smB 1 60 e.d) = true by decide +kernel) e he
theorem ens_sm (P : En → Bool) : Sm 2 2000 (.tuple ((ENS.filter P).map En.d)) :=
  (sm_tup (n := 27) (fun u hu => by
    obtain ⟨e, h1, rfl⟩ := List.mem_map.mp hu
    exact en_sm (List.mem_filter.mp h1).1) (by rw [List.length_map]; exact List.length_filter_le _ _)).mono (by decide) (by decide)
/-! entries, turned -/
theorem tu_has (b : Bo) (e e' : En) (v : Bool) : (b.tu e v).has e' = if e' = e then v else b.has e' := by
  by_cases h : e' = e
  · subst h
    rw [if_pos rfl]
    cases e' with
    | make q =>
      simp only [Bo.tu, Bo.has, if_true]
      cases v with
      | false => simp
      | true =>
        by_cases hw : b.m q = "white"
        · simp only [hw, if_true]; decide +kernel
        · simp [hw]
    | _ => simp [Bo.tu, Bo.has]
  · rw [if_neg h]
    cases e <;> cases e' <;> simp_all [Bo.tu, Bo.has]
theorem ent_b {b : Bo} (ok : OkB b) : entD b.d = (ENS.filter b.has).map En.d := by
  unfold entD
  congr 1
  refine List.filter_congr fun e he => ?_
  rw [has_d b ok e he]
  cases b.has e <;> rfl
theorem ens_eq {e e' : En} (h : e ∈ ENS) (h' : e' ∈ ENS) : eqOk e.d e'.d = true ∧ PyData.eqv e.d e'.d = decide (e = e') := by
  have k := List.all_eq_true.mp (List.all_eq_true.mp (show ENS.all (fun e => ENS.all fun e' => eqOk e.d e'.d && (PyData.eqv e.d e'.d == decide (e = e'))) = true by decide +kernel) e h) e' h'
  simp only [Bool.and_eq_true, beq_iff_eq] at k
  exact k
theorem ent_run {P : En → Bool} {R : List PyData → Prop} {g : DTG} {tt : TTd} {te : TEd} {ρ : GB.En} {vs : List Nat}
    (hn : R ((ENS.filter P).map En.d))
    (hc : ∀ e ∈ ENS, ∀ (acc : List PyData) (K : List PyData → Prop), (P e = true → K (acc ++ [e.d])) → (P e = false → K acc) → g e.d ρ fun ρ2 => wipeD ρ2 vs = ρ ∧ tt ρ2 fun b ρ3 => ρ3 = ρ2 ∧ iteK b (te ρ2 fun s ρ4 => ρ4 = ρ2 ∧ oneK s fun y => K (acc ++ [y])) (K acc)) :
    dLcGo vs g tt te ρ R (ENS.map En.d) [] := by
  refine lcI (fun ds acc => ∃ es : List En, ds = es.map En.d ∧ (∀ z ∈ es, z ∈ ENS) ∧ acc ++ (es.filter P).map En.d = (ENS.filter P).map En.d) ?_ ?_ _ [] ⟨ENS, rfl, fun _ h => h, rfl⟩
  · rintro acc ⟨es, e, _, h5⟩
    cases es with
    | nil =>
      have h5 : acc = (ENS.filter P).map En.d := by rw [← h5]; simp
      subst h5
      exact hn
    | cons a r => cases e
  · rintro d ds acc K hK ⟨es, e, h9, h5⟩
    cases es with
    | nil => cases e
    | cons z zs =>
      cases e
      refine hc z (h9 z (by simp)) acc K (fun a => hK _ ⟨zs, rfl, fun x hx => h9 x (by simp [hx]), ?_⟩) fun a => hK _ ⟨zs, rfl, fun x hx => h9 x (by simp [hx]), ?_⟩
      · rw [← h5, List.filter_cons, a]; simp
      · rw [← h5, List.filter_cons, a]; simp
theorem eqv_self {z : Str} : PyData.eqv (.str z) (.str z) = true := by rw [eqv_s]; simp
theorem tu_tu (b : Bo) (e : En) (h : b.has e = false) : (b.tu e true).tu e false = b := by
  have e1 : (b.tu e true).tu e false = b.tu e false := by
    cases e with
    | last => rfl
    | make q =>
      simp only [Bo.tu, Bo.mk.injEq, true_and, and_true]
      funext q'
      by_cases h : q' = q <;> simp [h]
    | read p c =>
      simp only [Bo.tu, Bo.mk.injEq, true_and, and_true]
      funext a d
      by_cases h : a = p ∧ d = c <;> simp [h]
    | write p c w =>
      simp only [Bo.tu, Bo.mk.injEq, true_and, and_true]
      funext a d x
      by_cases h : a = p ∧ d = c ∧ x = w <;> simp [h]
  rw [e1, tu_same b e false h]
theorem isS {b : Bo} (ok : OkB b) : ∀ e ∈ ENS, (hasE b.d e).isSome = true := fun e he => by rw [has_d b ok e he]; rfl
/-- lists of guards -/
def GdL (xs : List PyData) : Prop := ∀ x ∈ xs, ∃ f, x = gdD f
theorem six {P : PyData → Prop} {xs : List PyData} (h : xs.length = 6) (hx : ∀ x ∈ xs, P x) : ∃ a b c d e f, xs = [a, b, c, d, e, f] ∧ P a ∧ P b ∧ P c ∧ P d ∧ P e ∧ P f := by
  match xs, h with
  | [a, b, c, d, e, f], _ => exact ⟨a, b, c, d, e, f, rfl, hx a (by simp), hx b (by simp), hx c (by simp), hx d (by simp), hx e (by simp), hx f (by simp)⟩
def pk {α : Type} (a b c d e f : α) (p q : Nat) : α := if p = 0 then (if q = 0 then a else if q = 1 then b else c) else (if q = 0 then d else if q = 1 then e else f)
theorem gd_abc (a n o : Bool) : ∃ f, gdD f = .tuple (((if a = true then ([("again" : Str)] : List Str) else []) ++ ((if n = true then ([("new" : Str)] : List Str) else []) ++ (if o = true then ([("old" : Str)] : List Str) else []))).map .str) := by
  refine ⟨fun z => if z = "again" then a else if z = "new" then n else o, ?_⟩
  unfold gdD
  rw [gL_bits]
  simp only [nan, noan, non', if_true, if_false]
theorem d_ext {b b' : Bo} (h : ∀ e ∈ ENS, b.has e = b'.has e) (h0 : b.m 0 = b'.m 0) (h1 : b.m 1 = b'.m 1) (hp : b.p = b'.p) : b.d = b'.d := by
  have g : ∀ p c, p < 2 → c < 3 → gdD (b.g p c) = gdD (b'.g p c) := fun p c hp hc => by
    have k : ∀ w, WD3 w → b.g p c w = b'.g p c w := fun w hw => by
      refine h (.write p c w) ?_
      rcases two p hp with rfl | rfl <;> rcases three c hc with rfl | rfl | rfl <;> rcases hw with rfl | rfl | rfl <;> simp [ENS]
    unfold gdD
    rw [gL_bits, gL_bits (b'.g p c), k "again" (.inl rfl), k "new" (.inr (.inl rfl)), k "old" (.inr (.inr rfl))]
  have r : ∀ p c, p < 2 → c < 3 → b.r p c = b'.r p c := fun p c hp hc => by
    refine h (.read p c) ?_
    rcases two p hp with rfl | rfl <;> rcases three c hc with rfl | rfl | rfl <;> simp [ENS]
  have l : b.l = b'.l := h .last (by simp [ENS])
  unfold Bo.d
  rw [g 0 0 (by decide) (by decide), g 0 1 (by decide) (by decide), g 0 2 (by decide) (by decide), g 1 0 (by decide) (by decide), g 1 1 (by decide) (by decide), g 1 2 (by decide) (by decide),
    r 0 0 (by decide) (by decide), r 0 1 (by decide) (by decide), r 0 2 (by decide) (by decide), r 1 0 (by decide) (by decide), r 1 1 (by decide) (by decide), r 1 2 (by decide) (by decide), l, h0, h1, hp]
def bare (p : Bool) : Bo := ⟨fun _ _ _ => false, fun _ _ => false, fun _ => "white", false, p⟩
theorem bare_has (p : Bool) (e : En) : (bare p).has e = false := by
  cases e with
  | make q => show (!(("white" : Str) == "white")) = false; decide +kernel
  | _ => rfl
theorem fx4 {b : Bo} {k : S → Prop} (h : k (.d (.bool b.p))) : fIx b.d (.int 4) k := ⟨4, rfl, .bool b.p, rfl, h⟩
theorem m_tu {b : Bo} (h : ∀ q, b.m q = "white" ∨ b.m q = "black") (e : En) : ∀ q, (b.tu e true).m q = "white" ∨ (b.tu e true).m q = "black" := by
  intro q
  cases e with
  | make q0 =>
    have key : (b.tu (.make q0) true).m q = "black" ∨ (b.tu (.make q0) true).m q = b.m q0 ∨ (b.tu (.make q0) true).m q = b.m q := by
      by_cases h : q = q0 <;> by_cases hw : b.m q0 = "white" <;> simp [Bo.tu, h, hw]
    rcases key with e | e | e <;> rw [e]
    · exact .inr rfl
    · exact h q0
    · exact h q
  | _ => exact h q
theorem tu_p (b : Bo) (e : En) (v : Bool) : (b.tu e v).p = b.p := by cases e <;> rfl
def bl (b : Bo) : Bo := { b with m := fun q => if b.m q = "white" then "white" else "black" }
theorem cut5a {a b c d e : PyData} : GB.cutD [a, b, c, d, e] none (some 2) = [a, b] := rfl
theorem cut5b {a b c d e : PyData} : GB.cutD [a, b, c, d, e] (some 3) none = [d, e] := rfl
end GK

namespace GK
open PySem PySem.Spec PyProof.Rows L2 GB
/-! the store of the laws on shields and programs -/
def F_l_deck : FnD := fun ss R => ∃ ns, ss = [.ob (.scr ns)] ∧ ns.length ≤ 63 ∧ R (.ob .jar)
def F_l_draw : FnD := fun ss R => ∃ m : Int, ss = [.ob .jar, .d (.int m)] ∧ m < 1073741824 ∧ ∀ r : Int, 0 ≤ r → (1 ≤ m → r < m) → R (.d (.int r))
def F_l_pick : FnD := fun ss R => ∃ xs : List PyData, ss = [.ob .jar, .d (.list xs)] ∧ xs ≠ [] ∧ xs.length < 1000 ∧ ∀ x ∈ xs, R (.d x)
def F_l_mixed : FnD := fun ss R => ∃ xs : List PyData, ss = [.ob .jar, .d (.list xs)] ∧ xs.length < 1000 ∧ (∀ x ∈ xs, x.canLay0 = true ∧ x.depth ≤ 20) ∧ ∀ ys : List PyData, ys.Perm xs → R (.d (.list ys))
/-! standings: a field is None or a cell below n -/
def Fld (n : Nat) (x : PyData) : Prop := x = .none ∨ ∃ i : Nat, x = .int i ∧ i < n
def Row (n k : Nat) (x : PyData) : Prop := ∃ xs : List PyData, x = .tuple xs ∧ xs.length ≤ k ∧ ∀ y ∈ xs, Fld n y
def Cells (n : Nat) (xs : List PyData) : Prop := ∀ x ∈ xs, ∃ i : Nat, x = .int i ∧ i < n
def F_l_heap : FnD := fun ss R => ∃ (n m : Nat) (us : List PyData), ss = [.ob .jar, .d (.int n), .d (.list us)] ∧ n ≤ 60 ∧ us.length ≤ 60 ∧ Cells m us ∧ ∀ rows : List PyData, rows.length = n → (∀ x ∈ rows, Row m 3 x) → R (.d (.tuple rows))
def F_l_rooms : FnD := fun ss R => ∃ (n m : Nat) (us : List PyData), ss = [.ob .jar, .d (.int n), .d (.list us)] ∧ n ≤ 60 ∧ us.length ≤ 60 ∧ Cells m us ∧ ∀ rows : List PyData, rows.length = n → (∀ x ∈ rows, Row m 4 x) → R (.d (.tuple rows))
def Mark (fs : List PyData) (mk : PyData) : Prop := mk = .str "white" ∨ mk = .str "black" ∨ (mk = .str "free" ∧ fs = []) ∨ ∃ j : Nat, mk = .int j ∧ j < fs.length
def Cel (n : Nat) (c : List PyData × PyData) : Prop := c.1.length ≤ 3 ∧ (∀ y ∈ c.1, Fld n y) ∧ Mark c.1 c.2
def stD (cs : List (List PyData × PyData)) (rm lk : List PyData) : PyData := .tuple [.tuple (cs.map fun c => .tuple c.1), .tuple (cs.map fun c => c.2), .tuple rm, .tuple lk]
def IsB (x : PyData) : Prop := ∃ b, x = .bool b
def F_l_any_standing : FnD := fun ss R => ∃ n k : Nat, ss = [.ob .jar, .d (.int n), .d (.int k)] ∧ n ≤ 60 ∧ k ≤ 60 ∧ ∀ cs rm lk, cs.length = n → (∀ c ∈ cs, Cel n c) → rm.length = k → (∀ x ∈ rm, Row n 4 x) → lk.length = k → (∀ x ∈ lk, IsB x) → R (.d (stD cs rm lk))
/-! chains: what is wrong with a value -/
def cellB (n : Int) : PyData → Bool
  | .int i => decide (0 ≤ i) && decide (i < n)
  | _ => false
def cI : PyData → Nat
  | .int i => i.toNat
  | _ => 0
def mkAt (cs : List (List PyData × PyData)) (i : Nat) : PyData := ((cs[i]?).map (·.2)).getD .none
def fsAt (cs : List (List PyData × PyData)) (i : Nat) : List PyData := ((cs[i]?).map (·.1)).getD []
def greyB : PyData → Bool
  | .int _ => true
  | _ => false
def toGo (fs : List PyData) : PyData → List PyData
  | .int j => GB.cutD fs (some j) none
  | _ => []
def aheadL (cs : List (List PyData × PyData)) (i : Nat) : List PyData := toGo (fsAt cs i) (mkAt cs i)
def mkF (cs : List (List PyData × PyData)) : Int → List Nat → Option Int
  | _, [] => none
  | k, i :: r => if (if k = 0 then greyB (mkAt cs i) else PyData.eqv (mkAt cs i) (.str "white")) = true then mkF cs (k + 1) r else some k
def fdF (cs : List (List PyData × PyData)) : Int → List PyData → List Nat → Option Int
  | _, _, [] => none
  | k, lead, i :: r => if (lead.any fun z => PyData.eqv z (.int i)) = true then fdF cs (k + 1) (fsAt cs i) r else some k
def fEnd (cs : List (List PyData × PyData)) (c : Int) (is : List Nat) : PyData := match fdF cs 1 (aheadL cs (is.headD 0)) is.tail with
  | some k => .tuple [.str "field", .int k]
  | none => if ((is.getLastD 0 : Nat) : Int) = c then .none else .str "end"
def fTail (cs : List (List PyData × PyData)) (c : Int) (is : List Nat) : PyData := match mkF cs 0 is with
  | some k => .tuple [.str "mark", .int k]
  | none => fEnd cs c is
def faultD (cs : List (List PyData × PyData)) (c : Int) : PyData → PyData
  | .tuple vs => if vs.length < 2 ∨ vs.all (cellB cs.length) = false then .str "form" else fTail cs c (vs.map cI)
  | _ => .str "form"
theorem fault_t {cs : List (List PyData × PyData)} {c : Int} {vs : List PyData} : faultD cs c (.tuple vs) = if vs.length < 2 ∨ vs.all (cellB cs.length) = false then .str "form" else fTail cs c (vs.map cI) := rfl
theorem fTail_some {cs : List (List PyData × PyData)} {c k : Int} {is : List Nat} (h : mkF cs 0 is = some k) : fTail cs c is = .tuple [.str "mark", .int k] := by unfold fTail; rw [h]
theorem fTail_none {cs : List (List PyData × PyData)} {c : Int} {is : List Nat} (h : mkF cs 0 is = none) : fTail cs c is = fEnd cs c is := by unfold fTail; rw [h]
theorem fEnd_some {cs : List (List PyData × PyData)} {c k : Int} {is : List Nat} (h : fdF cs 1 (aheadL cs (is.headD 0)) is.tail = some k) : fEnd cs c is = .tuple [.str "field", .int k] := by unfold fEnd; rw [h]
theorem fEnd_none {cs : List (List PyData × PyData)} {c : Int} {is : List Nat} (h : fdF cs 1 (aheadL cs (is.headD 0)) is.tail = none) : fEnd cs c is = if ((is.getLastD 0 : Nat) : Int) = c then .none else .str "end" := by unfold fEnd; rw [h]
def StOk (cs : List (List PyData × PyData)) : Prop := cs.length ≤ 60 ∧ ∀ c ∈ cs, Cel cs.length c
def F_is_integer : FnD := fun ss R => ∃ x, ss = [.d x] ∧ R (.d (.bool (kInt x)))
def F_is_number_below : FnD := fun ss R => ∃ x n, ss = [.d x, .d (.int n)] ∧ R (.d (.bool (cellB n x)))
def F_p_is_grey : FnD := fun ss R => ∃ x, ss = [.d x] ∧ R (.d (.bool (isK "int" x)))
def F_p_still_to_go : FnD := fun ss R => ∃ fs mk, ss = [.d (.tuple fs), .d mk] ∧ Mark fs mk ∧ R (.d (.tuple (toGo fs mk)))
def F_chain_error : FnD := fun ss R => ∃ cs rm lk c v, ss = [.d (stD cs rm lk), .d (.int c), .d v] ∧ StOk cs ∧ (∀ vs, v = .tuple vs → vs.length ≤ 1000) ∧ R (.d (faultD cs c v))
def F_l_is_cell : FnD := fun ss R => ∃ cs rm lk x, ss = [.d (stD cs rm lk), .d x] ∧ R (.d (.bool (cellB cs.length x)))
def F_l_ahead : FnD := fun ss R => ∃ cs rm lk, ∃ i : Nat, ss = [.d (stD cs rm lk), .d (.int i)] ∧ StOk cs ∧ i < cs.length ∧ R (.d (.tuple (aheadL cs i)))
def F_l_fault : FnD := fun ss R => ∃ cs rm lk c v, ss = [.d (stD cs rm lk), .d (.int c), .d v] ∧ StOk cs ∧ (∀ vs, v = .tuple vs → vs.length ≤ 1000) ∧ R (.d (faultD cs c v))
end GK

namespace GK
open PySem PySem.Spec PyProof.Rows L2 GB
/-! what is white, seen, held -/
def whB (cs : List (List PyData × PyData)) (i : Nat) : Bool := PyData.eqv (mkAt cs i) (.str "white")
def memB (row : List PyData) (i : Nat) : Bool := row.any fun z => PyData.eqv z (.int i)
def whN (cs : List (List PyData × PyData)) (row : List PyData) : List Nat := (List.range cs.length).filter fun i => memB row i && whB cs i
def whD (cs : List (List PyData × PyData)) (row : List PyData) : List PyData := (whN cs row).map fun i : Nat => .int (i : Int)
def goneF (fs : List PyData) : PyData → List PyData
  | .str z => if z == "black" then fs else []
  | .int j => GB.cutD fs none (some j)
  | _ => []
def goneL (cs : List (List PyData × PyData)) (i : Nat) : List PyData := goneF (fsAt cs i) (mkAt cs i)
def iOf : PyData → Nat
  | .int i => i.toNat
  | _ => 0
def goneC (c : List PyData × PyData) : List PyData := goneF c.1 c.2
def seenL (cs : List (List PyData × PyData)) : List PyData := cs.flatMap goneC
def rowL : PyData → List PyData
  | .tuple xs => xs
  | _ => []
def onB : PyData → Bool
  | .bool b => b
  | _ => false
def heldP (p : PyData × PyData) : List PyData := if onB p.2 = true then rowL p.1 else []
def heldL (rm lk : List PyData) : List PyData := (rm.zip lk).flatMap heldP
def RmOk (n : Nat) (rm lk : List PyData) : Prop := rm.length ≤ 60 ∧ lk.length = rm.length ∧ (∀ x ∈ rm, Row n 4 x) ∧ ∀ x ∈ lk, IsB x
def F_p_gone_through : FnD := fun ss R => ∃ fs mk, ss = [.d (.tuple fs), .d mk] ∧ Mark fs mk ∧ R (.d (.tuple (goneF fs mk)))
def F_p_white_ones : FnD := fun ss R => ∃ cs row z, ss = [.d (.tuple (cs.map fun c => c.2)), .d z] ∧ (z = .list row ∨ z = .tuple row) ∧ StOk cs ∧ row.length ≤ 100000 ∧ (∀ x ∈ row, Fld cs.length x) ∧ R (.d (.tuple (whD cs row)))
def F_seen_white : FnD := fun ss R => ∃ cs rm lk, ss = [.d (stD cs rm lk)] ∧ StOk cs ∧ R (.d (.tuple (whD cs (seenL cs))))
def F_held_white : FnD := fun ss R => ∃ cs rm lk, ss = [.d (stD cs rm lk)] ∧ StOk cs ∧ RmOk cs.length rm lk ∧ R (.d (.tuple (whD cs (heldL rm lk))))
def F_l_whites : FnD := fun ss R => ∃ cs rm lk row, ss = [.d (stD cs rm lk), .d (.list row)] ∧ StOk cs ∧ row.length ≤ 100000 ∧ (∀ x ∈ row, Fld cs.length x) ∧ R (.d (.list (whD cs row)))
def F_l_gone : FnD := fun ss R => ∃ cs rm lk, ∃ i : Nat, ss = [.d (stD cs rm lk), .d (.int i)] ∧ StOk cs ∧ i < cs.length ∧ R (.d (.tuple (goneL cs i)))
def F_l_seen : FnD := fun ss R => ∃ cs rm lk, ss = [.d (stD cs rm lk)] ∧ StOk cs ∧ R (.d (.list (whD cs (seenL cs))))
def F_l_held : FnD := fun ss R => ∃ cs rm lk, ss = [.d (stD cs rm lk)] ∧ StOk cs ∧ RmOk cs.length rm lk ∧ R (.d (.list (whD cs (heldL rm lk))))
end GK

namespace GK
open PySem PySem.Spec PyProof.Rows L2 GB
/-! going on from cells to cells, wave by wave -/
structure Gr where
  n : Nat
  base : Nat → Bool
  edge : Nat → Nat → Bool
def Gr.r (g : Gr) : Nat → Nat → Bool
  | 0, i => g.base i
  | k + 1, i => g.r k i || (List.range g.n).any fun j => g.r k j && g.edge j i
structure Gr.Ok (g : Gr) : Prop where
  b : ∀ i, g.base i = true → i < g.n
  e : ∀ j i, g.edge j i = true → i < g.n
def Gr.D (g : Gr) (k i : Nat) : Prop := g.r k i = true ∧ ∀ e, e < k → g.r e i = false
def Gr.cnt (g : Gr) (k : Nat) : Nat := ((List.range g.n).filter (g.r k)).length
section
variable {g : Gr}
theorem Gr.lt (ok : g.Ok) : ∀ {k i : Nat}, g.r k i = true → i < g.n
  | 0, i, h => ok.b i h
  | k + 1, i, h => by
    unfold Gr.r at h
    rw [Bool.or_eq_true, List.any_eq_true] at h
    rcases h with h | ⟨j, _, h⟩
    · exact Gr.lt ok h
    · rw [Bool.and_eq_true] at h
      exact ok.e j i h.2
theorem Gr.up {k i : Nat} (h : g.r k i = true) : g.r (k + 1) i = true := by
  unfold Gr.r
  rw [h, Bool.true_or]
theorem Gr.mono {k d i : Nat} (h : g.r k i = true) (hd : k ≤ d) : g.r d i = true := by
  induction hd with
  | refl => exact h
  | step _ ih => exact Gr.up ih
theorem Gr.step {k i : Nat} (ok : g.Ok) : g.r (k + 1) i = true ↔ g.r k i = true ∨ ∃ j, g.r k j = true ∧ g.edge j i = true := by
  show (g.r k i || (List.range g.n).any fun j => g.r k j && g.edge j i) = true ↔ _
  rw [Bool.or_eq_true, List.any_eq_true]
  refine or_congr_right ⟨fun ⟨j, _, h⟩ => ⟨j, by simpa using h⟩, fun ⟨j, h⟩ => ⟨j, List.mem_range.mpr (Gr.lt ok h.1), by simpa using h⟩⟩
theorem Gr.D.lt (ok : g.Ok) {k i : Nat} (h : g.D k i) : i < g.n := Gr.lt ok h.1
theorem Gr.D0 {i : Nat} : g.D 0 i ↔ g.base i = true := ⟨fun h => h.1, fun h => ⟨h, fun e he => by omega⟩⟩
theorem Gr.Ds (ok : g.Ok) {k i : Nat} : g.D (k + 1) i ↔ g.r k i = false ∧ ∃ j, g.D k j ∧ g.edge j i = true := by
  constructor
  · intro ⟨h1, h2⟩
    have h0 := h2 k (by omega)
    refine ⟨h0, ?_⟩
    rcases (Gr.step ok).mp h1 with h | ⟨j, hj, he⟩
    · rw [h0] at h; cases h
    · refine ⟨j, ⟨hj, fun e he' => ?_⟩, he⟩
      cases hr : g.r e j
      · rfl
      · have := Gr.mono ((Gr.step (i := i) ok).mpr (.inr ⟨j, hr, he⟩)) (show e + 1 ≤ k by omega)
        rw [h0] at this; cases this
  · intro ⟨h0, j, hj, he⟩
    refine ⟨(Gr.step ok).mpr (.inr ⟨j, hj.1, he⟩), fun e h => ?_⟩
    cases hr : g.r e i
    · rfl
    · have := Gr.mono hr (show e ≤ k by omega)
      rw [h0] at this; cases this
theorem Gr.D.one {k d i : Nat} (h : g.D k i) (h' : g.D d i) : k = d := by
  rcases Nat.lt_trichotomy k d with q | q | q
  · have := h'.2 k q; rw [h.1] at this; cases this
  · exact q
  · have := h.2 d q; rw [h'.1] at this; cases this
theorem Gr.D.of : ∀ {k i : Nat}, g.r k i = true → ∃ d, d ≤ k ∧ g.D d i
  | 0, i, h => ⟨0, Nat.le_refl _, Gr.D0.mpr h⟩
  | k + 1, i, h => by
    cases hk : g.r k i
    · refine ⟨k + 1, Nat.le_refl _, h, fun e he => ?_⟩
      cases hr : g.r e i
      · rfl
      · have := Gr.mono hr (show e ≤ k by omega)
        rw [hk] at this; cases this
    · obtain ⟨d, h1, h2⟩ := Gr.D.of hk
      exact ⟨d, by omega, h2⟩
/-- where a wave is empty all is there -/
theorem Gr.end' (ok : g.Ok) {k : Nat} (h : ∀ i, ¬ g.D k i) : ∀ {d i : Nat}, k ≤ d → ¬ g.D d i := by
  intro d i hd
  induction hd generalizing i with
  | refl => exact h i
  | step _ ih => exact fun q => let ⟨_, j, hj, _⟩ := (Gr.Ds ok).mp q; ih hj
theorem Gr.all (ok : g.Ok) {k i d : Nat} (h : ∀ i, ¬ g.D k i) (q : g.D d i) : d < k := by
  rcases Nat.lt_or_ge d k with e | e
  · exact e
  · exact absurd q (Gr.end' ok h e)
theorem Gr.cnt_le (k : Nat) : g.cnt k ≤ g.n := by
  unfold Gr.cnt
  exact Nat.le_trans (List.length_filter_le _ _) (by rw [List.length_range]; exact Nat.le_refl _)
theorem filt_lt {α : Type} {p q : α → Bool} : ∀ {xs : List α}, (∀ x ∈ xs, p x = true → q x = true) → (∃ x ∈ xs, q x = true ∧ p x = false) → (xs.filter p).length < (xs.filter q).length
  | [], _, h => by obtain ⟨x, hx, _⟩ := h; cases hx
  | x :: xs, h, hx => by
    have mono : (xs.filter p).length ≤ (xs.filter q).length := by
      clear hx
      induction xs with
      | nil => simp
      | cons y ys ih =>
        have ih := ih fun z hz => h z (by rcases List.mem_cons.mp hz with e | e; · simp [e]
                                          · simp [e])
        have hy := h y (by simp)
        rw [List.filter_cons, List.filter_cons]
        cases hp : p y
        · cases hq : q y
          · simpa using ih
          · simp; omega
        · rw [hy hp]; simpa using ih
    rw [List.filter_cons, List.filter_cons]
    obtain ⟨y, hy, h1, h2⟩ := hx
    have h0 := h x (by simp)
    rcases List.mem_cons.mp hy with rfl | hy
    · rw [h1, h2]; simp; omega
    · have ih := filt_lt (xs := xs) (fun z hz => h z (by simp [hz])) ⟨y, hy, h1, h2⟩
      cases hp : p x
      · cases hq : q x
        · simpa using ih
        · simp; omega
      · rw [h0 hp]; simpa using ih
theorem Gr.cnt_up (ok : g.Ok) {k i : Nat} (h : g.D (k + 1) i) : g.cnt k < g.cnt (k + 1) :=
  filt_lt (fun _ _ q => Gr.up q) ⟨i, List.mem_range.mpr (h.lt ok), h.1, h.2 k (by omega)⟩
theorem Gr.deep (ok : g.Ok) : ∀ {k i : Nat}, g.D k i → k < g.cnt k
  | 0, i, h => by
    unfold Gr.cnt
    exact List.length_pos_of_mem (List.mem_filter.mpr ⟨List.mem_range.mpr (h.lt ok), h.1⟩)
  | k + 1, i, h => by
    obtain ⟨_, j, hj, _⟩ := (Gr.Ds ok).mp h
    have := Gr.deep ok hj
    have := Gr.cnt_up ok h
    omega
/-- no wave behind as many as there are cells -/
theorem Gr.none' (ok : g.Ok) {i : Nat} : ¬ g.D g.n i := fun h => by
  have := Gr.deep ok h
  have := Gr.cnt_le (g := g) g.n
  omega
end
/-! dicts as they are put -/
theorem look_put (kvs : List (Key × PyData)) (k j : Key) (x : PyData) : lookD (putD kvs k x) j = if j = k then some x else lookD kvs j := by
  have an : ∀ (kvs : List (Key × PyData)), (kvs.any fun p => decide (p.1 = k)) = (lookD kvs k).isSome := fun kvs => by
    unfold lookD
    rw [Option.isSome_map]
    induction kvs with
    | nil => rfl
    | cons p r ih =>
      rw [List.any_cons, List.find?_cons]
      cases h : decide (p.1 = k)
      · simpa using ih
      · rfl
  unfold putD
  by_cases h : (kvs.any fun p => decide (p.1 = k)) = true
  · rw [if_pos h]
    have hs : (lookD kvs k).isSome = true := by rw [← an]; exact h
    clear h
    induction kvs with
    | nil => cases hs
    | cons p r ih =>
      rw [List.map_cons]
      unfold lookD at hs ih ⊢
      rw [List.find?_cons] at hs ⊢
      by_cases hp : p.1 = k
      · rw [if_pos hp]
        simp only
        by_cases hj : j = k
        · rw [hj, if_pos rfl, decide_eq_true hp]; rfl
        · rw [if_neg hj, decide_eq_false (fun z => hj (z.symm.trans hp)), List.find?_cons, decide_eq_false (fun z => hj (z.symm.trans hp))]
          simp only
          clear ih hs
          induction r with
          | nil => rfl
          | cons q r ih =>
            rw [List.map_cons, List.find?_cons, List.find?_cons]
            by_cases hq : q.1 = k
            · rw [if_pos hq]
              simp only
              rw [decide_eq_false (fun z => hj (z.symm.trans hq))]
              exact ih
            · rw [if_neg hq]
              cases decide (q.1 = j)
              · exact ih
              · rfl
      · rw [if_neg hp]
        rw [decide_eq_false hp] at hs
        by_cases hj : p.1 = j
        · rw [decide_eq_true hj, List.find?_cons, decide_eq_true hj, if_neg (fun z => hp (hj.trans z))]
        · rw [decide_eq_false hj, List.find?_cons, decide_eq_false hj]
          exact ih hs
  · rw [if_neg h]
    have hn : lookD kvs k = none := by
      have q := an kvs
      rw [Bool.not_eq_true] at h
      rw [h] at q
      cases hl : lookD kvs k with
      | none => rfl
      | some _ => rw [hl] at q; cases q
    clear h an
    unfold lookD at hn ⊢
    rw [List.find?_append]
    by_cases hj : j = k
    · rw [hj, if_pos rfl]
      have hn : kvs.find? (fun p => decide (p.1 = k)) = none := by simpa using hn
      rw [hn]
      simp
    · rw [if_neg hj]
      have : List.find? (fun p : Key × PyData => decide (p.1 = j)) [(k, x)] = none := by simp [Ne.symm hj]
      rw [this, Option.or_none]
theorem put_new {kvs : List (Key × PyData)} {k : Key} {x : PyData} (h : (lookD kvs k).isSome = false) : putD kvs k x = kvs ++ [(k, x)] := by
  unfold putD
  rw [if_neg]
  intro q
  rw [List.any_eq_true] at q
  obtain ⟨p, hp, e⟩ := q
  unfold lookD at h
  rw [Option.isSome_map, ← Bool.not_eq_true, List.find?_isSome] at h
  exact h ⟨p, hp, e⟩
theorem look_mem {kvs : List (Key × PyData)} {k : Key} {x : PyData} (h : lookD kvs k = some x) : (k, x) ∈ kvs := by
  unfold lookD at h
  rw [Option.map_eq_some_iff] at h
  obtain ⟨p, hp, rfl⟩ := h
  have := List.find?_some hp
  have e : p.1 = k := by simpa using this
  rw [← e]
  exact List.mem_of_find?_eq_some hp
theorem look_key {kvs : List (Key × PyData)} {k : Key} : (lookD kvs k).isSome = true ↔ k ∈ kvs.map (·.1) := by
  unfold lookD
  rw [Option.isSome_map, List.find?_isSome, List.mem_map]
  exact ⟨fun ⟨p, h1, h2⟩ => ⟨p, h1, by simpa using h2⟩, fun ⟨p, h1, h2⟩ => ⟨p, h1, by simpa using h2⟩⟩
/-! loops that go along with a fold -/
theorem loopF {σ : Type} {g : DTG} {b : TSd} {D : EndsD} (f : σ → GB.En → Prop) (step : σ → PyData → σ) : ∀ {ds : List PyData} {st0 : σ} {ρ : GB.En},
    (hn : ∀ ρ, f (ds.foldl step st0) ρ → D.nx ρ) → (hc : ∀ d ∈ ds, ∀ st ρ (K : GB.En → Prop), f st ρ → (∀ ρ', f (step st d) ρ' → K ρ') → g d ρ fun ρ1 => b { nx := K, ct := K, bk := D.nx, rt := D.rt } ρ1) → f st0 ρ → dLoop g b D ds ρ
  | [], st0, ρ, hn, hc, h => hn ρ h
  | d :: ds, st0, ρ, hn, hc, h => e_lcons.mpr (hc d (by simp) st0 ρ _ h fun ρ' h' => loopF f step (ds := ds) hn (fun z hz => hc z (by simp [hz])) h')
end GK

set_option maxRecDepth 20000
namespace GK
open PySem PySem.Spec PyProof.Rows L2 GB
/-! chains: the program's own going, as a fold -/
abbrev KVs := List (Key × PyData)
abbrev Cs := List (List PyData × PyData)
def aheadAll (cs : Cs) : List PyData := cs.flatMap fun c => toGo c.1 c.2
def grC (cs : Cs) : Gr := ⟨cs.length, fun i => decide (i < cs.length) && (memB (aheadAll cs) i && whB cs i), fun j i => decide (i < cs.length) && (memB (fsAt cs j) i && whB cs i)⟩
def wOk (cs : Cs) (kvs : KVs) : PyData → Bool
  | .int i => whB cs i.toNat && !(lookD kvs (.inl i)).isSome
  | _ => false
def nI : PyData → Int
  | .int i => i
  | _ => 0
def nbF (cs : Cs) (c : Nat) (kvs : KVs) (x : PyData) : KVs := if wOk cs kvs x = true then putD kvs (.inl (nI x)) (.tuple [.int c, x]) else kvs
def nbP (cs : Cs) (kvs : KVs) : PyData → KVs
  | .tuple [.int c, _] => (aheadL cs c.toNat).foldl (nbF cs c.toNat) kvs
  | _ => kvs
def nbK (cs : Cs) : KVs := (pairsFrom 0 (cs.map fun c => c.2)).foldl (nbP cs) []
def chF (cs : Cs) (j : Int) (st : KVs × List PyData) (x : PyData) : KVs × List PyData :=
  if wOk cs st.1 x = true then (putD st.1 (.inl (nI x)) (.tuple (rowL ((lookD st.1 (.inl j)).getD .none) ++ [x])), st.2 ++ [x]) else st
def chR (cs : Cs) (st : KVs × List PyData) (d : PyData) : KVs × List PyData := (fsAt cs (nI d).toNat).foldl (chF cs (nI d)) st
def chL (cs : Cs) (lv : List PyData) (kvs : KVs) : KVs × List PyData := lv.foldl (chR cs) (kvs, [])
def chLoop (cs : Cs) : Nat → KVs → List PyData → KVs
  | 0, kvs, _ => kvs
  | f + 1, kvs, lv => if lv.isEmpty = true then kvs else chLoop cs f (chL cs lv kvs).1 (chL cs lv kvs).2
def chK (cs : Cs) : KVs := chLoop cs (cs.length + 1) (nbK cs) ((nbK cs).map fun p => keyD p.1)
/-- a chain, place by place -/
def CV (cs : Cs) (vs : List Nat) : Prop := 2 ≤ vs.length ∧ ∀ p, p < vs.length → vs.getD p 0 < cs.length ∧ (0 < p → whB cs (vs.getD p 0) = true) ∧ (p = 1 → memB (aheadL cs (vs.getD 0 0)) (vs.getD p 0) = true) ∧ (1 < p → memB (fsAt cs (vs.getD (p - 1) 0)) (vs.getD p 0) = true)
def natsD (vs : List Nat) : PyData := .tuple (vs.map fun i : Nat => .int (i : Int))
/-- what is known of a cell that is there -/
def Ent (cs : Cs) (k : Nat) (p : Key × PyData) : Prop := ∃ (i d : Nat) (vs : List Nat), p = (.inl (i : Int), natsD vs) ∧ CV cs vs ∧ vs.getLast? = some i ∧ d ≤ k ∧ (grC cs).D d i ∧ vs.length = d + 2
structure ChSt (cs : Cs) (k : Nat) (kvs : KVs) : Prop where
  ent : ∀ p ∈ kvs, Ent cs k p
  all : ∀ i : Nat, (grC cs).r k i = true → (lookD kvs (.inl (i : Int))).isSome = true
  nd : (kvs.map (·.1)).Nodup
section
variable {cs : Cs}
theorem grC_ok : (grC cs).Ok := by
  refine ⟨fun i h => ?_, fun j i h => ?_⟩
  · have h : (decide (i < cs.length) && (memB (aheadAll cs) i && whB cs i)) = true := h
    exact of_decide_eq_true (Bool.and_eq_true_iff.mp h).1
  · have h : (decide (i < cs.length) && (memB (fsAt cs j) i && whB cs i)) = true := h
    exact of_decide_eq_true (Bool.and_eq_true_iff.mp h).1
theorem toI {i : Nat} : ((i : Int)).toNat = i := Int.toNat_natCast i
theorem foldPre {σ : Type} {step : σ → PyData → σ} (P : List PyData → σ → Prop) : ∀ {ds pre : List PyData} {st : σ}, P pre st → (∀ pre' st d, (∀ z ∈ pre', z ∈ pre ∨ z ∈ ds) → d ∈ ds → P pre' st → P (pre' ++ [d]) (step st d)) → P (pre ++ ds) (ds.foldl step st)
  | [], pre, st, h, _ => by rw [List.append_nil]; exact h
  | d :: ds, pre, st, h, hs => by
    have := foldPre (step := step) P (ds := ds) (pre := pre ++ [d]) (st := step st d) (hs pre st d (fun z hz => .inl hz) (by simp) h) fun pre' st' d' hz hd hp => hs pre' st' d' (fun z q => by
      rcases hz z q with q | q
      · rcases List.mem_append.mp q with q | q
        · exact .inl q
        · exact .inr (by rw [List.mem_singleton.mp q]; simp)
      · exact .inr (by simp [q])) (by simp [hd]) hp
    rw [List.append_assoc] at this
    exact this
theorem look_sm {kvs : KVs} {k j : Key} {x : PyData} (h : (lookD kvs j).isSome = true) : (lookD (putD kvs k x) j).isSome = true := by
  rw [look_put]
  split
  · rfl
  · exact h
theorem put_nd {kvs : KVs} {k : Key} {x : PyData} (h : (lookD kvs k).isSome = false) (nd : (kvs.map (·.1)).Nodup) : ((putD kvs k x).map (·.1)).Nodup := by
  rw [put_new h, List.map_append]
  refine List.nodup_append.mpr ⟨nd, by simp, fun a ha b hb => ?_⟩
  have hb : b = k := by simpa using hb
  intro e
  rw [e, hb] at ha
  have := look_key.mpr ha
  rw [h] at this; cases this
theorem cv_two {c i : Nat} (hc : c < cs.length) (hi : i < cs.length) (hw : whB cs i = true) (ha : memB (aheadL cs c) i = true) : CV cs [c, i] := by
  refine ⟨by simp, fun p hp => ?_⟩
  have hp : p < 2 := hp
  rcases (by omega : p = 0 ∨ p = 1) with rfl | rfl
  · exact ⟨hc, fun h => by omega, fun h => by omega, fun h => by omega⟩
  · exact ⟨hi, fun _ => hw, fun _ => ha, fun h => by omega⟩
theorem cv_app {vs : List Nat} {j i : Nat} (h : CV cs vs) (hl : vs.getLast? = some j) (hi : i < cs.length) (hw : whB cs i = true) (hf : memB (fsAt cs j) i = true) : CV cs (vs ++ [i]) := by
  have h2 := h.1
  refine ⟨by rw [List.length_append]; omega, fun p hp => ?_⟩
  rw [List.length_append, List.length_singleton] at hp
  have old : ∀ q, q < vs.length → (vs ++ [i]).getD q 0 = vs.getD q 0 := fun q hq => by
    rw [List.getD_eq_getElem?_getD, List.getD_eq_getElem?_getD, List.getElem?_append_left hq]
  by_cases hq : p < vs.length
  · obtain ⟨a, b, c, d⟩ := h.2 p hq
    rw [old p hq]
    refine ⟨a, b, fun e => ?_, fun e => ?_⟩
    · rw [old 0 (by omega)]; exact c e
    · rw [old (p - 1) (by omega)]; exact d e
  · have e : p = vs.length := by omega
    subst e
    have new : (vs ++ [i]).getD vs.length 0 = i := by
      rw [List.getD_eq_getElem?_getD, List.getElem?_append_right (Nat.le_refl _)]; simp
    have lst : (vs ++ [i]).getD (vs.length - 1) 0 = j := by
      rw [old _ (by omega), List.getD_eq_getElem?_getD, ← List.getLast?_eq_getElem?, hl]; rfl
    rw [new]
    exact ⟨hi, fun _ => hw, fun e => by omega, fun _ => by rw [lst]; exact hf⟩
theorem Ent.up {k : Nat} {p : Key × PyData} (h : Ent cs k p) : Ent cs (k + 1) p := by
  obtain ⟨i, d, vs, h1, h2, h3, h4, h5, h6⟩ := h
  exact ⟨i, d, vs, h1, h2, h3, by omega, h5, h6⟩
/-- those that grey cells name -/
theorem wOk_int {kvs : KVs} {x : PyData} (h : wOk cs kvs x = true) : ∃ i : Int, x = .int i ∧ whB cs i.toNat = true ∧ (lookD kvs (.inl i)).isSome = false := by
  cases x with
  | int i =>
    unfold wOk at h
    rw [Bool.and_eq_true, Bool.not_eq_true'] at h
    exact ⟨i, rfl, h.1, h.2⟩
  | _ => cases h
theorem mem_memB' {row : List PyData} {n i : Nat} (h : ∀ x ∈ row, Fld n x) : memB row i = true ↔ PyData.int i ∈ row := by
  unfold memB
  rw [List.any_eq_true]
  constructor
  · rintro ⟨x, hx, e⟩
    rcases h x hx with rfl | ⟨j, rfl, hj⟩
    · cases e
    · rw [int_eqv, decide_eq_true_eq] at e
      rw [← e]; exact hx
  · intro hx
    exact ⟨_, hx, by rw [int_eqv, decide_eq_true_eq]⟩
theorem cel_at {i : Nat} (hs : StOk cs) (h : i < cs.length) : (fsAt cs i).length ≤ 3 ∧ (∀ y ∈ fsAt cs i, Fld cs.length y) ∧ Mark (fsAt cs i) (mkAt cs i) := by
  have := hs.2 cs[i] (List.getElem_mem h)
  unfold fsAt mkAt
  rw [List.getElem?_eq_getElem h]
  exact this
theorem toGo_sub {fs : List PyData} {mk : PyData} : ∀ x ∈ toGo fs mk, x ∈ fs := fun x hx => by
  cases mk with
  | int j => exact List.mem_of_mem_drop (List.mem_of_mem_take hx)
  | _ => cases hx
theorem ah_fld (hs : StOk cs) {c : Nat} (hc : c < cs.length) : ∀ x ∈ aheadL cs c, Fld cs.length x := fun x hx => (cel_at hs hc).2.1 x (toGo_sub x hx)
theorem all_fld (hs : StOk cs) : ∀ x ∈ aheadAll cs, Fld cs.length x := fun x hx => by
  obtain ⟨c, hc, h⟩ := List.mem_flatMap.mp hx
  exact (hs.2 c hc).2.1 x (toGo_sub x h)
theorem ah_all {c : Nat} (hc : c < cs.length) {x : PyData} (h : x ∈ aheadL cs c) : x ∈ aheadAll cs := by
  refine List.mem_flatMap.mpr ⟨cs[c], List.getElem_mem hc, ?_⟩
  unfold aheadL fsAt mkAt at h
  rw [List.getElem?_eq_getElem hc] at h
  exact h
theorem all_ah {x : PyData} (h : x ∈ aheadAll cs) : ∃ c, c < cs.length ∧ x ∈ aheadL cs c := by
  obtain ⟨c, hc, h⟩ := List.mem_flatMap.mp h
  obtain ⟨i, hi, rfl⟩ := List.getElem_of_mem hc
  refine ⟨i, hi, ?_⟩
  unfold aheadL fsAt mkAt
  rw [List.getElem?_eq_getElem hi]
  exact h
theorem nb_fold (hs : StOk cs) {c : Nat} (hc : c < cs.length) {kvs : KVs} (h1 : ∀ p ∈ kvs, Ent cs 0 p) (h2 : (kvs.map (·.1)).Nodup) :
    (∀ p ∈ (aheadL cs c).foldl (nbF cs c) kvs, Ent cs 0 p) ∧ (((aheadL cs c).foldl (nbF cs c) kvs).map (·.1)).Nodup ∧ (∀ k, (lookD kvs k).isSome = true → (lookD ((aheadL cs c).foldl (nbF cs c) kvs) k).isSome = true) ∧
      ∀ i : Nat, memB (aheadL cs c) i = true → whB cs i = true → (lookD ((aheadL cs c).foldl (nbF cs c) kvs) (.inl (i : Int))).isSome = true := by
  have fl := ah_fld hs hc
  have key := foldPre (step := nbF cs c) (fun pre kv => (∀ p ∈ kv, Ent cs 0 p) ∧ (kv.map (·.1)).Nodup ∧ (∀ k, (lookD kvs k).isSome = true → (lookD kv k).isSome = true) ∧ ∀ i : Nat, PyData.int i ∈ pre → whB cs i = true → (lookD kv (.inl (i : Int))).isSome = true) (ds := aheadL cs c) (pre := []) (st := kvs)
    ⟨h1, h2, fun _ h => h, fun _ h => nomatch h⟩ fun pre kv d _ hd ⟨a1, a2, a3, a4⟩ => by
      unfold nbF
      by_cases hw : wOk cs kv d = true
      · rw [if_pos hw]
        obtain ⟨i, rfl, w1, w2⟩ := wOk_int hw
        rcases fl _ hd with e | ⟨m, e, hm⟩
        · cases e
        · cases e
          have w1 : whB cs m = true := by simpa using w1
          have hmem : memB (aheadL cs c) m = true := (mem_memB' fl).mpr hd
          refine ⟨fun p hp => ?_, put_nd w2 a2, fun k hk => look_sm (a3 k hk), fun j hj hwj => ?_⟩
          · have hp : p ∈ putD kv (.inl (m : Int)) (.tuple [.int c, .int (m : Int)]) := hp
            rw [put_new w2] at hp
            rcases List.mem_append.mp hp with hp | hp
            · exact a1 p hp
            · rw [List.mem_singleton.mp hp]
              refine ⟨m, 0, [c, m], rfl, cv_two hc hm w1 hmem, rfl, Nat.le_refl _, Gr.D0.mpr ?_, rfl⟩
              show (decide (m < cs.length) && (memB (aheadAll cs) m && whB cs m)) = true
              rw [w1, (mem_memB' (all_fld hs)).mpr (ah_all hc hd), decide_eq_true hm]; rfl
          · rcases List.mem_append.mp hj with hj | hj
            · exact look_sm (a4 j hj hwj)
            · rw [look_put, if_pos (by cases List.mem_singleton.mp hj; rfl)]; rfl
      · rw [if_neg hw]
        refine ⟨a1, a2, a3, fun j hj hwj => ?_⟩
        rcases List.mem_append.mp hj with hj | hj
        · exact a4 j hj hwj
        · cases List.mem_singleton.mp hj
          cases hl : (lookD kv (.inl (j : Int))).isSome
          · exact absurd (show (whB cs (j : Int).toNat && !(lookD kv (.inl (j : Int))).isSome) = true by rw [hl, toI, hwj]; rfl) hw
          · rfl
  obtain ⟨b1, b2, b3, b4⟩ := key
  exact ⟨b1, b2, b3, fun i hi hw => b4 i (by simpa using (mem_memB' fl).mp hi) hw⟩
theorem pairs_mem {ds : List PyData} : ∀ {k : Nat} {x : PyData}, x ∈ pairsFrom (k : Int) ds ↔ ∃ (i : Nat) (h : i < ds.length), x = .tuple [.int ((k + i : Nat) : Int), ds[i]] := by
  induction ds with
  | nil =>
    intro k x
    constructor
    · intro h; cases h
    · rintro ⟨i, h, _⟩; exact absurd h (by simp)
  | cons d ds ih =>
    intro k x
    rw [show pairsFrom (k : Int) (d :: ds) = PyData.tuple [.int (k : Int), d] :: pairsFrom ((k + 1 : Nat) : Int) ds from by simp [pairsFrom], List.mem_cons, ih]
    constructor
    · rintro (rfl | ⟨i, hi, rfl⟩)
      · exact ⟨0, by simp, rfl⟩
      · exact ⟨i + 1, by simpa using hi, by simp; omega⟩
    · rintro ⟨i, hi, rfl⟩
      cases i with
      | zero => exact .inl rfl
      | succ i => exact .inr ⟨i, by simpa using hi, by simp; omega⟩
theorem nbK_ok (hs : StOk cs) : ChSt cs 0 (nbK cs) := by
  have key := foldPre (σ := KVs) (step := nbP cs) (fun (pre : List PyData) (kv : KVs) => (∀ p ∈ kv, Ent cs 0 p) ∧ (kv.map (·.1)).Nodup ∧ ∀ c i : Nat, (∃ m, PyData.tuple [.int (c : Int), m] ∈ pre) → c < cs.length → memB (aheadL cs c) i = true → whB cs i = true → (lookD kv (.inl (i : Int))).isSome = true) (ds := pairsFrom 0 (cs.map fun c => c.2)) (pre := []) (st := [])
    ⟨(fun _ h => nomatch h), List.nodup_nil, (fun c i ⟨m, h⟩ => nomatch h)⟩ fun pre kv d _ hd ⟨a1, a2, a3⟩ => by
      obtain ⟨c, hc, rfl⟩ := (pairs_mem (k := 0)).mp hd
      rw [List.length_map] at hc
      have e0 : ((0 + c : Nat) : Int) = c := by simp
      rw [e0]
      have e : ∀ m, nbP cs kv (.tuple [.int (c : Int), m]) = (aheadL cs c).foldl (nbF cs c) kv := fun m => by simp [nbP]
      rw [e]
      obtain ⟨b1, b2, b3, b4⟩ := nb_fold hs hc a1 a2
      refine ⟨b1, b2, fun c' i ⟨m, hm⟩ hc' hi hw => ?_⟩
      rcases List.mem_append.mp hm with hm | hm
      · exact b3 _ (a3 c' i ⟨m, hm⟩ hc' hi hw)
      · have := List.mem_singleton.mp hm
        have ec : c' = c := by
          have := (List.cons.inj (PyData.tuple.inj this)).1
          have := PyData.int.inj this
          omega
        subst ec
        exact b4 i hi hw
  obtain ⟨b1, b2, b3⟩ := key
  refine ⟨b1, fun i h => ?_, b2⟩
  have h : (decide (i < cs.length) && (memB (aheadAll cs) i && whB cs i)) = true := h
  simp only [Bool.and_eq_true, decide_eq_true_eq] at h
  obtain ⟨c, hc, hx⟩ := all_ah ((mem_memB' (all_fld hs)).mp h.2.1)
  refine b3 c i ⟨mkAt cs c, ?_⟩ hc ((mem_memB' (ah_fld hs hc)).mpr hx) h.2.2
  refine List.mem_append.mpr (.inr ((pairs_mem (k := 0)).mpr ⟨c, by simpa using hc, ?_⟩))
  have : (cs.map fun c => c.2)[c]'(by simpa using hc) = mkAt cs c := by rw [List.getElem_map]; unfold mkAt; rw [List.getElem?_eq_getElem hc]; rfl
  rw [this]; simp
/-- a wave: what is known amid it -/
structure ChM (cs : Cs) (k : Nat) (st : KVs × List PyData) : Prop where
  ent : ∀ p ∈ st.1, Ent cs (k + 1) p
  all : ∀ i : Nat, (grC cs).r k i = true → (lookD st.1 (.inl (i : Int))).isSome = true
  nd : (st.1.map (·.1)).Nodup
  fu : ∀ x ∈ st.2, ∃ i : Nat, x = .int i ∧ (grC cs).D (k + 1) i
  key : ∀ i : Nat, (lookD st.1 (.inl (i : Int))).isSome = true → (grC cs).r k i = true ∨ PyData.int i ∈ st.2
  len : st.2.length + ((List.range cs.length).filter ((grC cs).r k)).length ≤ st.1.length
def Grown (a b : KVs) : Prop := ∀ k, (lookD a k).isSome = true → (lookD b k).isSome = true
theorem chF_one (hs : StOk cs) {k j : Nat} (hj : (grC cs).D k j) {kv : KVs × List PyData} (a1 : ChM cs k kv) {d : PyData} (hd : d ∈ fsAt cs j) :
    ChM cs k (chF cs j kv d) ∧ Grown kv.1 (chF cs j kv d).1 ∧ ∀ i : Nat, d = .int i → whB cs i = true → (lookD (chF cs j kv d).1 (.inl (i : Int))).isSome = true := by
  have jn : j < cs.length := hj.lt grC_ok
  have fl := (cel_at hs jn).2.1
  unfold chF
  by_cases hw : wOk cs kv.1 d = true
  · rw [if_pos hw]
    obtain ⟨i, rfl, w1, w2⟩ := wOk_int hw
    rcases fl _ hd with e | ⟨m, e, hm⟩
    · cases e
    · cases e
      have w1 : whB cs m = true := by simpa using w1
      have hmem : memB (fsAt cs j) m = true := (mem_memB' fl).mpr hd
      have hedge : (grC cs).edge j m = true := by
        show (decide (m < cs.length) && (memB (fsAt cs j) m && whB cs m)) = true
        rw [w1, hmem, decide_eq_true hm]; rfl
      have rk : (grC cs).r k m = false := by
        cases hr : (grC cs).r k m
        · rfl
        · have := a1.all m hr; rw [w2] at this; cases this
      have Dm : (grC cs).D (k + 1) m := (Gr.Ds grC_ok).mpr ⟨rk, j, hj, hedge⟩
      -- the chain of j
      have hjs := a1.all j hj.1
      obtain ⟨xj, hxj⟩ := Option.isSome_iff_exists.mp hjs
      obtain ⟨j', d', vs, e1, e2, e3, e4, e5, e6⟩ := a1.ent _ (look_mem hxj)
      have ej : j' = j := by
        have := congrArg Prod.fst e1
        have := Sum.inl.inj this
        omega
      subst ej
      have ed : d' = k := e5.one hj
      subst ed
      have exj : xj = natsD vs := congrArg Prod.snd e1
      have er : rowL ((lookD kv.1 (.inl (j' : Int))).getD .none) ++ [PyData.int (m : Int)] = (vs ++ [m]).map fun i : Nat => PyData.int (i : Int) := by
        rw [hxj, exj]
        simp [rowL, natsD]
      have eN : nI (PyData.int (m : Int)) = (m : Int) := rfl
      rw [er, eN]
      refine ⟨⟨fun p hp => ?_, fun i hi => look_sm (a1.all i hi), put_nd w2 a1.nd, fun x hx => ?_, fun i hi => ?_, ?_⟩, fun q hq => look_sm hq, fun i hi hwi => ?_⟩
      · have hp : p ∈ putD kv.1 (.inl (m : Int)) (.tuple ((vs ++ [m]).map fun i : Nat => PyData.int (i : Int))) := hp
        rw [put_new w2] at hp
        rcases List.mem_append.mp hp with hp | hp
        · exact a1.ent p hp
        · rw [List.mem_singleton.mp hp]
          exact ⟨m, d' + 1, vs ++ [m], rfl, cv_app e2 e3 hm w1 hmem, by simp, Nat.le_refl _, Dm, by rw [List.length_append, e6]; rfl⟩
      · rcases List.mem_append.mp hx with hx | hx
        · exact a1.fu x hx
        · exact ⟨m, List.mem_singleton.mp hx, Dm⟩
      · have hi : (lookD (putD kv.1 (.inl (m : Int)) (.tuple ((vs ++ [m]).map fun i : Nat => PyData.int (i : Int)))) (.inl (i : Int))).isSome = true := hi
        rw [look_put] at hi
        split at hi
        · rename_i e
          have : i = m := by have := Sum.inl.inj e; omega
          subst this
          exact .inr (by simp)
        · exact (a1.key i hi).imp_right fun z => List.mem_append.mpr (.inl z)
      · show (kv.2 ++ [PyData.int (m : Int)]).length + _ ≤ (putD kv.1 (.inl (m : Int)) _).length
        rw [put_new w2, List.length_append, List.length_append]
        have := a1.len
        simp only [List.length_singleton]
        omega
      · show (lookD (putD kv.1 (.inl (m : Int)) _) (.inl (i : Int))).isSome = true
        rw [look_put, if_pos (by cases hi; rfl)]; rfl
  · rw [if_neg hw]
    refine ⟨a1, fun _ h => h, fun i hi hwi => ?_⟩
    subst hi
    cases hl : (lookD kv.1 (.inl (i : Int))).isSome
    · exact absurd (show (whB cs (i : Int).toNat && !(lookD kv.1 (.inl (i : Int))).isSome) = true by rw [hl, toI, hwi]; rfl) hw
    · rfl
theorem ch_fold (hs : StOk cs) {k j : Nat} (hj : (grC cs).D k j) {st : KVs × List PyData} (h : ChM cs k st) :
    ChM cs k ((fsAt cs j).foldl (chF cs j) st) ∧ Grown st.1 ((fsAt cs j).foldl (chF cs j) st).1 ∧ ∀ i : Nat, (grC cs).edge j i = true → (lookD ((fsAt cs j).foldl (chF cs j) st).1 (.inl (i : Int))).isSome = true := by
  have jn : j < cs.length := hj.lt grC_ok
  have fl := (cel_at hs jn).2.1
  have key := foldPre (σ := KVs × List PyData) (step := chF cs j) (fun (pre : List PyData) (kv : KVs × List PyData) => ChM cs k kv ∧ Grown st.1 kv.1 ∧ ∀ i : Nat, PyData.int i ∈ pre → whB cs i = true → (lookD kv.1 (.inl (i : Int))).isSome = true) (ds := fsAt cs j) (pre := []) (st := st)
    ⟨h, (fun _ h => h), (fun _ h => nomatch h)⟩ fun pre kv d _ hd ⟨a1, a2, a3⟩ => by
      obtain ⟨b1, b2, b3⟩ := chF_one hs hj a1 hd
      refine ⟨b1, fun q hq => b2 q (a2 q hq), fun i hi hwi => ?_⟩
      rcases List.mem_append.mp hi with hi | hi
      · exact b2 _ (a3 i hi hwi)
      · exact b3 i (List.mem_singleton.mp hi).symm hwi
  obtain ⟨b1, b2, b3⟩ := key
  refine ⟨b1, b2, fun i he => ?_⟩
  have he : (decide (i < cs.length) && (memB (fsAt cs j) i && whB cs i)) = true := he
  simp only [Bool.and_eq_true, decide_eq_true_eq] at he
  exact b3 i (by simpa using (mem_memB' fl).mp he.2.1) he.2.2
theorem chM_start {k : Nat} {kvs : KVs} (h : ChSt cs k kvs) (hk : ∀ i : Nat, (lookD kvs (.inl (i : Int))).isSome = true → (grC cs).r k i = true) (hn : ((List.range cs.length).filter ((grC cs).r k)).length ≤ kvs.length) : ChM cs k (kvs, []) :=
  ⟨fun p hp => (h.ent p hp).up, h.all, h.nd, (fun _ h => nomatch h), fun i hi => .inl (hk i hi), by simpa using hn⟩
/-- a level: the cells of a wave, in some order -/
def Lev (cs : Cs) (k : Nat) (lv : List PyData) : Prop := (∀ x ∈ lv, ∃ i : Nat, x = .int i ∧ (grC cs).D k i) ∧ ∀ i : Nat, (grC cs).D k i → PyData.int i ∈ lv
theorem chL_ok (hs : StOk cs) {k : Nat} {kvs : KVs} {lv : List PyData} (h : ChSt cs k kvs) (hk : ∀ i : Nat, (lookD kvs (.inl (i : Int))).isSome = true → (grC cs).r k i = true) (hl : Lev cs k lv) (hn : ((List.range cs.length).filter ((grC cs).r k)).length ≤ kvs.length) :
    ChSt cs (k + 1) (chL cs lv kvs).1 ∧ (∀ i : Nat, (lookD (chL cs lv kvs).1 (.inl (i : Int))).isSome = true → (grC cs).r (k + 1) i = true) ∧ Lev cs (k + 1) (chL cs lv kvs).2 := by
  have key := foldPre (σ := KVs × List PyData) (step := chR cs) (fun (pre : List PyData) (st : KVs × List PyData) => ChM cs k st ∧ ∀ j i : Nat, PyData.int j ∈ pre → (grC cs).edge j i = true → (lookD st.1 (.inl (i : Int))).isSome = true) (ds := lv) (pre := []) (st := (kvs, []))
    ⟨⟨fun p hp => (h.ent p hp).up, h.all, h.nd, (fun _ h => nomatch h), fun i hi => .inl (hk i hi), by simpa using hn⟩, (fun _ _ h => nomatch h)⟩ fun pre st d _ hd ⟨a1, a2⟩ => by
      obtain ⟨j, rfl, hj⟩ := hl.1 d hd
      have e : chR cs st (.int (j : Int)) = (fsAt cs j).foldl (chF cs j) st := by simp [chR, nI]
      rw [e]
      obtain ⟨b1, b2, b3⟩ := ch_fold hs hj a1
      refine ⟨b1, fun j' i hj' he => ?_⟩
      rcases List.mem_append.mp hj' with hj' | hj'
      · exact b2 _ (a2 j' i hj' he)
      · have : j' = j := by have := PyData.int.inj (List.mem_singleton.mp hj'); omega
        subst this
        exact b3 i he
  obtain ⟨b1, b2⟩ := key
  have some' : ∀ i, (grC cs).D (k + 1) i → (lookD (chL cs lv kvs).1 (.inl (i : Int))).isSome = true := fun i hi => by
    obtain ⟨_, j, hj, he⟩ := (Gr.Ds grC_ok).mp hi
    exact b2 j i (by simpa using hl.2 j hj) he
  refine ⟨⟨b1.ent, fun i hi => ?_, b1.nd⟩, fun i hi => ?_, b1.fu, fun i hi => ?_⟩
  · cases hr : (grC cs).r k i
    · obtain ⟨d, h1, h2⟩ := Gr.D.of hi
      have : d = k + 1 := by
        rcases Nat.lt_or_ge d (k + 1) with q | q
        · have := Gr.mono h2.1 (show d ≤ k by omega)
          rw [hr] at this; cases this
        · omega
      subst this
      exact some' i h2
    · exact b1.all i hr
  · rcases b1.key i hi with q | q
    · exact Gr.up q
    · obtain ⟨m, e, hm⟩ := b1.fu _ q
      have : i = m := by have := PyData.int.inj e; omega
      subst this
      exact hm.1
  · rcases b1.key i (some' i hi) with q | q
    · have := hi.2 k (by omega)
      rw [q] at this; cases this
    · exact q
theorem keys_le {k : Nat} {kvs : KVs} (h : ∀ p ∈ kvs, Ent cs k p) (nd : (kvs.map (·.1)).Nodup) : kvs.length ≤ cs.length := by
  have := GB.sub_len (l := (List.range cs.length).map fun i : Nat => (Sum.inl (i : Int) : Key)) nd fun q hq => by
    obtain ⟨p, hp, rfl⟩ := List.mem_map.mp hq
    obtain ⟨i, d, vs, rfl, _, _, _, h5, _⟩ := h p hp
    exact List.mem_map.mpr ⟨i, List.mem_range.mpr (h5.lt grC_ok), rfl⟩
  simpa using this
theorem keys_ge {k : Nat} {kvs : KVs} (h : ChSt cs k kvs) : ((List.range cs.length).filter ((grC cs).r k)).length ≤ kvs.length := by
  have nd : (((List.range cs.length).filter ((grC cs).r k)).map fun i : Nat => (Sum.inl (i : Int) : Key)).Nodup := by
    have n1 : ((List.range cs.length).filter ((grC cs).r k)).Nodup := List.nodup_range.sublist List.filter_sublist
    refine List.pairwise_map.mpr (n1.imp fun {a b} ne e => ne ?_)
    have := Sum.inl.inj e
    omega
  have := GB.sub_len (l := kvs.map (·.1)) nd fun q hq => by
    obtain ⟨i, hi, rfl⟩ := List.mem_map.mp hq
    exact look_key.mp (h.all i (List.mem_filter.mp hi).2)
  simpa using this
/-- at the head of the program's loop -/
structure ChH (cs : Cs) (f : Nat) (kvs : KVs) (lv : List PyData) : Prop where
  ex : ∃ k, k + f = cs.length + 1 ∧ ChSt cs k kvs ∧ (∀ i : Nat, (lookD kvs (.inl (i : Int))).isSome = true → (grC cs).r k i = true) ∧ Lev cs k lv
  eq : chLoop cs f kvs lv = chK cs
theorem chH_start (hs : StOk cs) : ChH cs (cs.length + 1) (nbK cs) ((nbK cs).map fun p => keyD p.1) := by
  have h := nbK_ok hs
  have key : ∀ i : Nat, (lookD (nbK cs) (.inl (i : Int))).isSome = true → (grC cs).D 0 i := fun i hi => by
    obtain ⟨x, hx⟩ := Option.isSome_iff_exists.mp hi
    obtain ⟨i', d, vs, e1, _, _, h4, h5, _⟩ := h.ent _ (look_mem hx)
    have : i' = i := by have := Sum.inl.inj (congrArg Prod.fst e1); omega
    subst this
    have : d = 0 := by omega
    subst this
    exact h5
  refine ⟨⟨0, by omega, h, fun i hi => (key i hi).1, fun x hx => ?_, fun i hi => ?_⟩, rfl⟩
  · obtain ⟨p, hp, rfl⟩ := List.mem_map.mp hx
    obtain ⟨i, d, vs, rfl, _, _, h4, h5, _⟩ := h.ent _ hp
    have : d = 0 := by omega
    subst this
    exact ⟨i, rfl, h5⟩
  · obtain ⟨p, hp, e⟩ := List.mem_map.mp (look_key.mp (h.all i hi.1))
    exact List.mem_map.mpr ⟨p, hp, by rw [e]; rfl⟩
theorem chH_step (hs : StOk cs) {f : Nat} {kvs : KVs} {lv : List PyData} (h : ChH cs f kvs lv) (hl : lv ≠ []) : ∃ f', f = f' + 1 ∧ ChH cs f' (chL cs lv kvs).1 (chL cs lv kvs).2 := by
  obtain ⟨⟨k, hk, h1, h2, h3⟩, he⟩ := h
  obtain ⟨x, hx⟩ := List.exists_mem_of_ne_nil _ hl
  obtain ⟨i, _, hi⟩ := h3.1 x hx
  have : k < cs.length := Nat.lt_of_lt_of_le (Gr.deep grC_ok hi) (Gr.cnt_le (g := grC cs) k)
  obtain ⟨f', rfl⟩ : ∃ f', f = f' + 1 := ⟨f - 1, by omega⟩
  obtain ⟨a1, a2, a3⟩ := chL_ok hs h1 h2 h3 (keys_ge h1)
  refine ⟨f', rfl, ⟨k + 1, by omega, a1, a2, a3⟩, ?_⟩
  have e : lv.isEmpty = false := by cases lv with
    | nil => exact absurd rfl hl
    | cons _ _ => rfl
  unfold chLoop at he
  rw [if_neg (by rw [e]; decide)] at he
  exact he
theorem chH_end {f : Nat} {kvs : KVs} (h : ChH cs f kvs []) : kvs = chK cs := by
  have := h.eq
  cases f <;> exact this
/-- what is told in the end -/
structure ChFin (cs : Cs) (kvs : KVs) : Prop where
  ent : ∀ p ∈ kvs, ∃ (i d : Nat) (vs : List Nat), p = (.inl (i : Int), natsD vs) ∧ CV cs vs ∧ vs.getLast? = some i ∧ (grC cs).D d i ∧ vs.length = d + 2
  all : ∀ i d : Nat, (grC cs).D d i → (lookD kvs (.inl (i : Int))).isSome = true
theorem chFin_of {f : Nat} {kvs : KVs} (h : ChH cs f kvs []) : ChFin cs (chK cs) := by
  obtain ⟨⟨k, hk, h1, h2, h3⟩, _⟩ := id h
  rw [← chH_end h]
  refine ⟨fun p hp => ?_, fun i d hd => h1.all i (Gr.mono hd.1 (Nat.le_of_lt (Gr.all grC_ok (fun j hj => ?_) hd)))⟩
  · obtain ⟨i, d, vs, a, b, c, _, e, g⟩ := h1.ent p hp
    exact ⟨i, d, vs, a, b, c, e, g⟩
  · have := h3.2 j hj
    cases this
theorem chFin (hs : StOk cs) : ChFin cs (chK cs) := by
  have : ∀ (f : Nat) (kvs : KVs) (lv : List PyData), ChH cs f kvs lv → ChFin cs (chK cs) := by
    intro f
    induction f with
    | zero =>
      intro kvs lv h
      cases lv with
      | nil => exact chFin_of h
      | cons x r => obtain ⟨f', e, _⟩ := chH_step hs h (by simp); cases e
    | succ f ih =>
      intro kvs lv h
      cases lv with
      | nil => exact chFin_of h
      | cons x r =>
        obtain ⟨f', e, h'⟩ := chH_step hs h (by simp)
        cases e
        exact ih _ _ h'
  exact this _ _ _ (chH_start hs)
theorem chK_some (hs : StOk cs) {i : Nat} {x : PyData} (h : lookD (chK cs) (.inl (i : Int)) = some x) : ∃ (d : Nat) (vs : List Nat), x = natsD vs ∧ CV cs vs ∧ vs.getLast? = some i ∧ (grC cs).D d i ∧ vs.length = d + 2 ∧ d < cs.length := by
  obtain ⟨i', d, vs, e, h2, h3, h4, h5⟩ := (chFin hs).ent _ (look_mem h)
  have : i' = i := by have := Sum.inl.inj (congrArg Prod.fst e); omega
  subst this
  exact ⟨d, vs, congrArg Prod.snd e, h2, h3, h4, h5, Nat.lt_of_lt_of_le (Gr.deep grC_ok h4) (Gr.cnt_le (g := grC cs) d)⟩
theorem chK_none (hs : StOk cs) {i : Nat} (h : lookD (chK cs) (.inl (i : Int)) = none) : ∀ d, ¬ (grC cs).D d i := fun d hd => by
  have := (chFin hs).all i d hd
  rw [h] at this; cases this
/-- the law's own waves -/
structure FarOk (cs : Cs) (kvs : KVs) : Prop where
  y : ∀ i d : Nat, (grC cs).D d i → lookD kvs (.inl (i : Int)) = some (.int ((d : Int) + 2))
  n : ∀ i : Nat, (∀ d, ¬ (grC cs).D d i) → lookD kvs (.inl (i : Int)) = none
end
def F_p_named_by_grey : FnD := fun ss R => ∃ cs rm lk, ss = [.d (stD cs rm lk)] ∧ StOk cs ∧ R (.od (nbK cs))
def F_p_chains : FnD := fun ss R => ∃ cs rm lk, ss = [.d (stD cs rm lk)] ∧ StOk cs ∧ R (.d (dctD (chK cs)))
def F_chain : FnD := fun ss R => ∃ cs rm lk, ∃ i : Nat, ss = [.d (stD cs rm lk), .d (.int i)] ∧ StOk cs ∧ R (.d ((lookD (chK cs) (.inl (i : Int))).getD .none))
def F_l_chains : FnD := fun ss R => ∃ cs rm lk, ss = [.d (stD cs rm lk)] ∧ StOk cs ∧ ∀ kvs, FarOk cs kvs → R (.d (dctD kvs))
end GK

set_option maxRecDepth 20000
namespace GK
open PySem PySem.Spec PyProof.Rows L2 GB
/-! ways: the program's own going, as a fold -/
def grH (cs : Cs) (rm : List PyData) : Gr := ⟨cs.length, fun i => decide (i < cs.length) && memB (rm.flatMap rowL) i, fun j i => decide (i < cs.length) && memB (fsAt cs j) i⟩
def nOk (kvs : KVs) : PyData → Bool
  | .int i => !(lookD kvs (.inl i)).isSome
  | _ => false
def hkF (h : Int) (kvs : KVs) : PyData → KVs
  | .tuple [.int r, x] => if nOk kvs x = true then putD kvs (.inl (nI x)) (.tuple [.int h, .int r]) else kvs
  | _ => kvs
def hkP (kvs : KVs) : PyData → KVs
  | .tuple [.int h, .tuple xs] => (pairsFrom 0 xs).foldl (hkF h) kvs
  | _ => kvs
def hkK (rm : List PyData) : KVs := (pairsFrom 0 rm).foldl hkP []
def wyF (j : Int) (st : KVs × List PyData) : PyData → KVs × List PyData
  | .tuple [.int f, x] => if nOk st.1 x = true then (putD st.1 (.inl (nI x)) (.tuple (rowL ((lookD st.1 (.inl j)).getD .none) ++ [.int f])), st.2 ++ [x]) else st
  | _ => st
def wyR (cs : Cs) (st : KVs × List PyData) (d : PyData) : KVs × List PyData := (pairsFrom 0 (fsAt cs (nI d).toNat)).foldl (wyF (nI d)) st
def wyL (cs : Cs) (lv : List PyData) (kvs : KVs) : KVs × List PyData := lv.foldl (wyR cs) (kvs, [])
def wyLoop (cs : Cs) : Nat → KVs → List PyData → KVs
  | 0, kvs, _ => kvs
  | f + 1, kvs, lv => if lv.isEmpty = true then kvs else wyLoop cs f (wyL cs lv kvs).1 (wyL cs lv kvs).2
def wyK (cs : Cs) (rm : List PyData) : KVs := wyLoop cs (cs.length + 1) (hkK rm) ((hkK rm).map fun p => keyD p.1)
/-- going on from a thing along fields -/
inductive Wk (cs : Cs) : PyData → List Nat → PyData → Prop
  | nil (x : PyData) : Wk cs x [] x
  | cons {j f : Nat} {y z : PyData} {fs : List Nat} : j < cs.length → (fsAt cs j)[f]? = some y → Wk cs y fs z → Wk cs (.int (j : Int)) (f :: fs) z
theorem Wk.snoc {cs : Cs} {x z : PyData} {fs : List Nat} (h : Wk cs x fs z) : ∀ {j f : Nat} {y : PyData}, z = .int (j : Int) → j < cs.length → (fsAt cs j)[f]? = some y → Wk cs x (fs ++ [f]) y := by
  induction h with
  | nil x => intro j f y e hj hf; subst e; exact .cons hj hf (.nil y)
  | cons h1 h2 _ ih => intro j f y e hj hf; exact .cons h1 h2 (ih e hj hf)
def WV (cs : Cs) (rm : List PyData) (ws : List Nat) (i : Nat) : Prop := ∃ (h r : Nat) (fs : List Nat) (row : List PyData) (x : PyData), ws = h :: r :: fs ∧ rm[h]? = some (.tuple row) ∧ row[r]? = some x ∧ Wk cs x fs (.int (i : Int))
/-- what is known of a cell that is there -/
def EntW (cs : Cs) (rm : List PyData) (k : Nat) (p : Key × PyData) : Prop := ∃ (i d : Nat) (ws : List Nat), p = (.inl (i : Int), natsD ws) ∧ WV cs rm ws i ∧ d ≤ k ∧ (grH cs rm).D d i ∧ ws.length = d + 2
structure WySt (cs : Cs) (rm : List PyData) (k : Nat) (kvs : KVs) : Prop where
  ent : ∀ p ∈ kvs, EntW cs rm k p
  all : ∀ i : Nat, (grH cs rm).r k i = true → (lookD kvs (.inl (i : Int))).isSome = true
  nd : (kvs.map (·.1)).Nodup
section
variable {cs : Cs} {rm : List PyData}
theorem grH_ok : (grH cs rm).Ok := by
  refine ⟨fun i h => ?_, fun j i h => ?_⟩
  · have h : (decide (i < cs.length) && memB (rm.flatMap rowL) i) = true := h
    exact of_decide_eq_true (Bool.and_eq_true_iff.mp h).1
  · have h : (decide (i < cs.length) && memB (fsAt cs j) i) = true := h
    exact of_decide_eq_true (Bool.and_eq_true_iff.mp h).1
theorem EntW.up {k : Nat} {p : Key × PyData} (h : EntW cs rm k p) : EntW cs rm (k + 1) p := by
  obtain ⟨i, d, vs, h1, h2, h4, h5, h6⟩ := h
  exact ⟨i, d, vs, h1, h2, by omega, h5, h6⟩
theorem nOk_int {kvs : KVs} {x : PyData} (h : nOk kvs x = true) : ∃ i : Int, x = .int i ∧ (lookD kvs (.inl i)).isSome = false := by
  cases x with
  | int i =>
    unfold nOk at h
    rw [Bool.not_eq_true'] at h
    exact ⟨i, rfl, h⟩
  | _ => cases h
theorem nOk_i {kvs : KVs} {i : Int} : nOk kvs (.int i) = !(lookD kvs (.inl i)).isSome := rfl
/-- rooms -/
theorem rm_row {n : Nat} {h : Nat} {y : PyData} {lk : List PyData} (hr : RmOk n rm lk) (hh : rm[h]? = some y) : ∃ row, y = .tuple row ∧ row.length ≤ 4 ∧ ∀ x ∈ row, Fld n x := hr.2.2.1 y (List.mem_of_getElem? hh)
theorem rm_fld {n : Nat} {lk : List PyData} (hr : RmOk n rm lk) : ∀ x ∈ rm.flatMap rowL, Fld n x := fun x hx => by
  obtain ⟨y, hy, hx⟩ := List.mem_flatMap.mp hx
  obtain ⟨row, rfl, _, h⟩ := hr.2.2.1 y hy
  exact h x hx
theorem hkF_one {lk : List PyData} (hr : RmOk cs.length rm lk) {h r : Nat} {row : List PyData} (hh : rm[h]? = some (.tuple row)) {kv : KVs} {x : PyData} (hx : row[r]? = some x)
    (a1 : ∀ p ∈ kv, EntW cs rm 0 p) (a2 : (kv.map (·.1)).Nodup) : (∀ p ∈ hkF h kv (.tuple [.int (r : Int), x]), EntW cs rm 0 p) ∧ ((hkF h kv (.tuple [.int (r : Int), x])).map (·.1)).Nodup ∧ Grown kv (hkF h kv (.tuple [.int (r : Int), x])) ∧
      ∀ i : Nat, x = .int i → (lookD (hkF h kv (.tuple [.int (r : Int), x])) (.inl (i : Int))).isSome = true := by
  have xm : x ∈ rm.flatMap rowL := List.mem_flatMap.mpr ⟨_, List.mem_of_getElem? hh, List.mem_of_getElem? hx⟩
  show (∀ p ∈ (if nOk kv x = true then putD kv (.inl (nI x)) (.tuple [.int (h : Int), .int (r : Int)]) else kv), EntW cs rm 0 p) ∧ ((if nOk kv x = true then putD kv (.inl (nI x)) (.tuple [.int (h : Int), .int (r : Int)]) else kv).map (·.1)).Nodup ∧ Grown kv (if nOk kv x = true then putD kv (.inl (nI x)) (.tuple [.int (h : Int), .int (r : Int)]) else kv) ∧ ∀ i : Nat, x = .int i → (lookD (if nOk kv x = true then putD kv (.inl (nI x)) (.tuple [.int (h : Int), .int (r : Int)]) else kv) (.inl (i : Int))).isSome = true
  by_cases hw : nOk kv x = true
  · rw [if_pos hw]
    obtain ⟨i, rfl, w2⟩ := nOk_int hw
    rcases rm_fld hr _ xm with e | ⟨m, e, hm⟩
    · cases e
    · cases e
      have eN : nI (PyData.int (m : Int)) = (m : Int) := rfl
      rw [eN]
      refine ⟨fun p hp => ?_, put_nd w2 a2, fun k hk => look_sm hk, fun j hj => by rw [look_put, if_pos (by cases hj; rfl)]; rfl⟩
      rw [put_new w2] at hp
      rcases List.mem_append.mp hp with hp | hp
      · exact a1 p hp
      · rw [List.mem_singleton.mp hp]
        refine ⟨m, 0, [h, r], rfl, ⟨h, r, [], row, _, rfl, hh, hx, .nil _⟩, Nat.le_refl _, Gr.D0.mpr ?_, rfl⟩
        show (decide (m < cs.length) && memB (rm.flatMap rowL) m) = true
        rw [(mem_memB' (rm_fld hr)).mpr xm, decide_eq_true hm]; rfl
  · rw [if_neg hw]
    refine ⟨a1, a2, fun _ h => h, fun i hi => ?_⟩
    subst hi
    cases hl : (lookD kv (.inl (i : Int))).isSome
    · exact absurd (show (!(lookD kv (.inl (i : Int))).isSome) = true by rw [hl]; rfl) hw
    · rfl
theorem hk_row {lk : List PyData} (hr : RmOk cs.length rm lk) {h : Nat} {row : List PyData} (hh : rm[h]? = some (.tuple row)) {kv : KVs}
    (a1 : ∀ p ∈ kv, EntW cs rm 0 p) (a2 : (kv.map (·.1)).Nodup) : (∀ p ∈ (pairsFrom 0 row).foldl (hkF h) kv, EntW cs rm 0 p) ∧ (((pairsFrom 0 row).foldl (hkF h) kv).map (·.1)).Nodup ∧ Grown kv ((pairsFrom 0 row).foldl (hkF h) kv) ∧
      ∀ i : Nat, PyData.int i ∈ row → (lookD ((pairsFrom 0 row).foldl (hkF h) kv) (.inl (i : Int))).isSome = true := by
  have key := foldPre (σ := KVs) (step := hkF h) (fun (pre : List PyData) (kw : KVs) => (∀ p ∈ kw, EntW cs rm 0 p) ∧ (kw.map (·.1)).Nodup ∧ Grown kv kw ∧ ∀ r i : Nat, PyData.tuple [.int (r : Int), .int (i : Int)] ∈ pre → (lookD kw (.inl (i : Int))).isSome = true) (ds := pairsFrom 0 row) (pre := []) (st := kv)
    ⟨a1, a2, (fun _ h => h), (fun _ _ h => nomatch h)⟩ fun pre kw d _ hd ⟨b1, b2, b3, b4⟩ => by
      obtain ⟨r, hr', rfl⟩ := (pairs_mem (k := 0)).mp hd
      have e0 : ((0 + r : Nat) : Int) = r := by simp
      rw [e0]
      obtain ⟨c1, c2, c3, c4⟩ := hkF_one hr hh (kv := kw) (List.getElem?_eq_getElem hr') b1 b2
      refine ⟨c1, c2, fun k hk => c3 k (b3 k hk), fun r' i hm => ?_⟩
      rcases List.mem_append.mp hm with hm | hm
      · exact c3 _ (b4 r' i hm)
      · have := PyData.tuple.inj (List.mem_singleton.mp hm)
        exact c4 i (List.cons.inj (List.cons.inj this).2).1.symm
  obtain ⟨b1, b2, b3, b4⟩ := key
  refine ⟨b1, b2, b3, fun i hi => ?_⟩
  obtain ⟨r, hr', e⟩ := List.getElem_of_mem hi
  exact b4 r i (List.mem_append.mpr (.inr ((pairs_mem (k := 0)).mpr ⟨r, hr', by rw [e]; simp⟩)))
theorem hkP_eq {h : Nat} {row : List PyData} {kv : KVs} : hkP kv (.tuple [.int (h : Int), .tuple row]) = (pairsFrom 0 row).foldl (hkF h) kv := rfl
theorem hkK_ok {lk : List PyData} (hr : RmOk cs.length rm lk) : WySt cs rm 0 (hkK rm) := by
  have key := foldPre (σ := KVs) (step := hkP) (fun (pre : List PyData) (kv : KVs) => (∀ p ∈ kv, EntW cs rm 0 p) ∧ (kv.map (·.1)).Nodup ∧ ∀ h i : Nat, (∃ row, PyData.tuple [.int (h : Int), .tuple row] ∈ pre ∧ PyData.int i ∈ row) → (lookD kv (.inl (i : Int))).isSome = true) (ds := pairsFrom 0 rm) (pre := []) (st := [])
    ⟨(fun _ h => nomatch h), List.nodup_nil, (fun c i ⟨m, h, _⟩ => nomatch h)⟩ fun pre kv d _ hd ⟨a1, a2, a3⟩ => by
      obtain ⟨h, hh, rfl⟩ := (pairs_mem (k := 0)).mp hd
      have e0 : ((0 + h : Nat) : Int) = h := by simp
      rw [e0]
      have g1 := List.getElem?_eq_getElem hh
      obtain ⟨row, e, _, _⟩ := rm_row hr g1
      rw [e] at g1 ⊢
      rw [hkP_eq]
      obtain ⟨b1, b2, b3, b4⟩ := hk_row hr g1 a1 a2
      refine ⟨b1, b2, fun h' i ⟨row', hm, hi⟩ => ?_⟩
      rcases List.mem_append.mp hm with hm | hm
      · exact b3 _ (a3 h' i ⟨row', hm, hi⟩)
      · have := PyData.tuple.inj (List.mem_singleton.mp hm)
        have := PyData.tuple.inj (List.cons.inj (List.cons.inj this).2).1
        exact b4 i (by rw [← this]; exact hi)
  obtain ⟨b1, b2, b3⟩ := key
  refine ⟨b1, fun i h => ?_, b2⟩
  have h : (decide (i < cs.length) && memB (rm.flatMap rowL) i) = true := h
  simp only [Bool.and_eq_true, decide_eq_true_eq] at h
  obtain ⟨y, hy, hx⟩ := List.mem_flatMap.mp ((mem_memB' (rm_fld hr)).mp h.2)
  obtain ⟨c, hc, e⟩ := List.getElem_of_mem hy
  obtain ⟨row, e2, _, _⟩ := hr.2.2.1 y hy
  refine b3 c i ⟨row, List.mem_append.mpr (.inr ((pairs_mem (k := 0)).mpr ⟨c, hc, by rw [e, e2]; simp⟩)), ?_⟩
  rw [e2] at hx; exact hx
/-- a wave: what is known amid it -/
structure WyM (cs : Cs) (rm : List PyData) (k : Nat) (st : KVs × List PyData) : Prop where
  ent : ∀ p ∈ st.1, EntW cs rm (k + 1) p
  all : ∀ i : Nat, (grH cs rm).r k i = true → (lookD st.1 (.inl (i : Int))).isSome = true
  nd : (st.1.map (·.1)).Nodup
  fu : ∀ x ∈ st.2, ∃ i : Nat, x = .int i ∧ (grH cs rm).D (k + 1) i
  key : ∀ i : Nat, (lookD st.1 (.inl (i : Int))).isSome = true → (grH cs rm).r k i = true ∨ PyData.int i ∈ st.2
  len : st.2.length + ((List.range cs.length).filter ((grH cs rm).r k)).length ≤ st.1.length
theorem wyF_eq {j f : Int} {x : PyData} {st : KVs × List PyData} : wyF j st (.tuple [.int f, x]) = if nOk st.1 x = true then (putD st.1 (.inl (nI x)) (.tuple (rowL ((lookD st.1 (.inl j)).getD .none) ++ [.int f])), st.2 ++ [x]) else st := rfl
theorem wyF_one (hs : StOk cs) {k j : Nat} (hj : (grH cs rm).D k j) {kv : KVs × List PyData} (a1 : WyM cs rm k kv) {f : Nat} {x : PyData} (hx : (fsAt cs j)[f]? = some x) :
    WyM cs rm k (wyF j kv (.tuple [.int (f : Int), x])) ∧ Grown kv.1 (wyF j kv (.tuple [.int (f : Int), x])).1 ∧ ∀ i : Nat, x = .int i → (lookD (wyF j kv (.tuple [.int (f : Int), x])).1 (.inl (i : Int))).isSome = true := by
  have jn : j < cs.length := hj.lt grH_ok
  have fl := (cel_at hs jn).2.1
  have hd := List.mem_of_getElem? hx
  rw [wyF_eq]
  by_cases hw : nOk kv.1 x = true
  · rw [if_pos hw]
    obtain ⟨i, rfl, w2⟩ := nOk_int hw
    rcases fl _ hd with e | ⟨m, e, hm⟩
    · cases e
    · cases e
      have hmem : memB (fsAt cs j) m = true := (mem_memB' fl).mpr hd
      have hedge : (grH cs rm).edge j m = true := by
        show (decide (m < cs.length) && memB (fsAt cs j) m) = true
        rw [hmem, decide_eq_true hm]; rfl
      have rk : (grH cs rm).r k m = false := by
        cases hr : (grH cs rm).r k m
        · rfl
        · have := a1.all m hr; rw [w2] at this; cases this
      have Dm : (grH cs rm).D (k + 1) m := (Gr.Ds grH_ok).mpr ⟨rk, j, hj, hedge⟩
      have hjs := a1.all j hj.1
      obtain ⟨xj, hxj⟩ := Option.isSome_iff_exists.mp hjs
      obtain ⟨j', d', vs, e1, e2, e4, e5, e6⟩ := a1.ent _ (look_mem hxj)
      have ej : j' = j := by
        have := congrArg Prod.fst e1
        have := Sum.inl.inj this
        omega
      subst ej
      have ed : d' = k := e5.one hj
      subst ed
      have exj : xj = natsD vs := congrArg Prod.snd e1
      have er : rowL ((lookD kv.1 (.inl (j' : Int))).getD .none) ++ [PyData.int (f : Int)] = (vs ++ [f]).map fun i : Nat => PyData.int (i : Int) := by
        rw [hxj, exj]
        simp [rowL, natsD]
      have eN : nI (PyData.int (m : Int)) = (m : Int) := rfl
      rw [er, eN]
      refine ⟨⟨fun p hp => ?_, fun i hi => look_sm (a1.all i hi), put_nd w2 a1.nd, fun x hx => ?_, fun i hi => ?_, ?_⟩, fun q hq => look_sm hq, fun i hi => ?_⟩
      · have hp : p ∈ putD kv.1 (.inl (m : Int)) (.tuple ((vs ++ [f]).map fun i : Nat => PyData.int (i : Int))) := hp
        rw [put_new w2] at hp
        rcases List.mem_append.mp hp with hp | hp
        · exact a1.ent p hp
        · rw [List.mem_singleton.mp hp]
          obtain ⟨h, r, fs, row, x0, v1, v2, v3, v4⟩ := e2
          exact ⟨m, d' + 1, vs ++ [f], rfl, ⟨h, r, fs ++ [f], row, x0, by rw [v1]; rfl, v2, v3, v4.snoc rfl jn hx⟩, Nat.le_refl _, Dm, by rw [List.length_append, e6]; rfl⟩
      · rcases List.mem_append.mp hx with hx | hx
        · exact a1.fu x hx
        · exact ⟨m, List.mem_singleton.mp hx, Dm⟩
      · have hi : (lookD (putD kv.1 (.inl (m : Int)) (.tuple ((vs ++ [f]).map fun i : Nat => PyData.int (i : Int)))) (.inl (i : Int))).isSome = true := hi
        rw [look_put] at hi
        split at hi
        · rename_i e
          have : i = m := by have := Sum.inl.inj e; omega
          subst this
          exact .inr (by simp)
        · exact (a1.key i hi).imp_right fun z => List.mem_append.mpr (.inl z)
      · show (kv.2 ++ [PyData.int (m : Int)]).length + _ ≤ (putD kv.1 (.inl (m : Int)) _).length
        rw [put_new w2, List.length_append, List.length_append]
        have := a1.len
        simp only [List.length_singleton]
        omega
      · show (lookD (putD kv.1 (.inl (m : Int)) _) (.inl (i : Int))).isSome = true
        rw [look_put, if_pos (by cases hi; rfl)]; rfl
  · rw [if_neg hw]
    refine ⟨a1, fun _ h => h, fun i hi => ?_⟩
    subst hi
    cases hl : (lookD kv.1 (.inl (i : Int))).isSome
    · exact absurd (show (!(lookD kv.1 (.inl (i : Int))).isSome) = true by rw [hl]; rfl) hw
    · rfl
theorem wy_fold (hs : StOk cs) {k j : Nat} (hj : (grH cs rm).D k j) {st : KVs × List PyData} (h : WyM cs rm k st) :
    WyM cs rm k ((pairsFrom 0 (fsAt cs j)).foldl (wyF j) st) ∧ Grown st.1 ((pairsFrom 0 (fsAt cs j)).foldl (wyF j) st).1 ∧ ∀ i : Nat, (grH cs rm).edge j i = true → (lookD ((pairsFrom 0 (fsAt cs j)).foldl (wyF j) st).1 (.inl (i : Int))).isSome = true := by
  have jn : j < cs.length := hj.lt grH_ok
  have fl := (cel_at hs jn).2.1
  have key := foldPre (σ := KVs × List PyData) (step := wyF j) (fun (pre : List PyData) (kv : KVs × List PyData) => WyM cs rm k kv ∧ Grown st.1 kv.1 ∧ ∀ f i : Nat, PyData.tuple [.int (f : Int), .int (i : Int)] ∈ pre → (lookD kv.1 (.inl (i : Int))).isSome = true) (ds := pairsFrom 0 (fsAt cs j)) (pre := []) (st := st)
    ⟨h, (fun _ h => h), (fun _ _ h => nomatch h)⟩ fun pre kv d _ hd ⟨a1, a2, a3⟩ => by
      obtain ⟨f, hf, rfl⟩ := (pairs_mem (k := 0)).mp hd
      have e0 : ((0 + f : Nat) : Int) = f := by simp
      rw [e0]
      obtain ⟨b1, b2, b3⟩ := wyF_one hs hj a1 (List.getElem?_eq_getElem hf)
      refine ⟨b1, fun q hq => b2 q (a2 q hq), fun f' i hi => ?_⟩
      rcases List.mem_append.mp hi with hi | hi
      · exact b2 _ (a3 f' i hi)
      · have := PyData.tuple.inj (List.mem_singleton.mp hi)
        exact b3 i (List.cons.inj (List.cons.inj this).2).1.symm
  obtain ⟨b1, b2, b3⟩ := key
  refine ⟨b1, b2, fun i he => ?_⟩
  have he : (decide (i < cs.length) && memB (fsAt cs j) i) = true := he
  simp only [Bool.and_eq_true, decide_eq_true_eq] at he
  obtain ⟨f, hf, e⟩ := List.getElem_of_mem ((mem_memB' fl).mp he.2)
  exact b3 f i (List.mem_append.mpr (.inr ((pairs_mem (k := 0)).mpr ⟨f, hf, by rw [e]; simp⟩)))
def LevW (cs : Cs) (rm : List PyData) (k : Nat) (lv : List PyData) : Prop := (∀ x ∈ lv, ∃ i : Nat, x = .int i ∧ (grH cs rm).D k i) ∧ ∀ i : Nat, (grH cs rm).D k i → PyData.int i ∈ lv
theorem wyM_start {k : Nat} {kvs : KVs} (h : WySt cs rm k kvs) (hk : ∀ i : Nat, (lookD kvs (.inl (i : Int))).isSome = true → (grH cs rm).r k i = true) (hn : ((List.range cs.length).filter ((grH cs rm).r k)).length ≤ kvs.length) : WyM cs rm k (kvs, []) :=
  ⟨fun p hp => (h.ent p hp).up, h.all, h.nd, (fun _ h => nomatch h), fun i hi => .inl (hk i hi), by simpa using hn⟩
theorem wyR_eq {st : KVs × List PyData} {j : Nat} : wyR cs st (.int (j : Int)) = (pairsFrom 0 (fsAt cs j)).foldl (wyF j) st := by simp [wyR, nI]
theorem wyL_ok (hs : StOk cs) {k : Nat} {kvs : KVs} {lv : List PyData} (h : WySt cs rm k kvs) (hk : ∀ i : Nat, (lookD kvs (.inl (i : Int))).isSome = true → (grH cs rm).r k i = true) (hl : LevW cs rm k lv) (hn : ((List.range cs.length).filter ((grH cs rm).r k)).length ≤ kvs.length) :
    WySt cs rm (k + 1) (wyL cs lv kvs).1 ∧ (∀ i : Nat, (lookD (wyL cs lv kvs).1 (.inl (i : Int))).isSome = true → (grH cs rm).r (k + 1) i = true) ∧ LevW cs rm (k + 1) (wyL cs lv kvs).2 := by
  have key := foldPre (σ := KVs × List PyData) (step := wyR cs) (fun (pre : List PyData) (st : KVs × List PyData) => WyM cs rm k st ∧ ∀ j i : Nat, PyData.int j ∈ pre → (grH cs rm).edge j i = true → (lookD st.1 (.inl (i : Int))).isSome = true) (ds := lv) (pre := []) (st := (kvs, []))
    ⟨wyM_start h hk hn, (fun _ _ h => nomatch h)⟩ fun pre st d _ hd ⟨a1, a2⟩ => by
      obtain ⟨j, rfl, hj⟩ := hl.1 d hd
      rw [wyR_eq]
      obtain ⟨b1, b2, b3⟩ := wy_fold hs hj a1
      refine ⟨b1, fun j' i hj' he => ?_⟩
      rcases List.mem_append.mp hj' with hj' | hj'
      · exact b2 _ (a2 j' i hj' he)
      · have : j' = j := by have := PyData.int.inj (List.mem_singleton.mp hj'); omega
        subst this
        exact b3 i he
  obtain ⟨b1, b2⟩ := key
  have some' : ∀ i, (grH cs rm).D (k + 1) i → (lookD (wyL cs lv kvs).1 (.inl (i : Int))).isSome = true := fun i hi => by
    obtain ⟨_, j, hj, he⟩ := (Gr.Ds grH_ok).mp hi
    exact b2 j i (by simpa using hl.2 j hj) he
  refine ⟨⟨b1.ent, fun i hi => ?_, b1.nd⟩, fun i hi => ?_, b1.fu, fun i hi => ?_⟩
  · cases hr : (grH cs rm).r k i
    · obtain ⟨d, h1, h2⟩ := Gr.D.of hi
      have : d = k + 1 := by
        rcases Nat.lt_or_ge d (k + 1) with q | q
        · have := Gr.mono h2.1 (show d ≤ k by omega)
          rw [hr] at this; cases this
        · omega
      subst this
      exact some' i h2
    · exact b1.all i hr
  · rcases b1.key i hi with q | q
    · exact Gr.up q
    · obtain ⟨m, e, hm⟩ := b1.fu _ q
      have : i = m := by have := PyData.int.inj e; omega
      subst this
      exact hm.1
  · rcases b1.key i (some' i hi) with q | q
    · have := hi.2 k (by omega)
      rw [q] at this; cases this
    · exact q
theorem wkeys_le {k : Nat} {kvs : KVs} (h : ∀ p ∈ kvs, EntW cs rm k p) (nd : (kvs.map (·.1)).Nodup) : kvs.length ≤ cs.length := by
  have := GB.sub_len (l := (List.range cs.length).map fun i : Nat => (Sum.inl (i : Int) : Key)) nd fun q hq => by
    obtain ⟨p, hp, rfl⟩ := List.mem_map.mp hq
    obtain ⟨i, d, vs, rfl, _, _, h5, _⟩ := h p hp
    exact List.mem_map.mpr ⟨i, List.mem_range.mpr (h5.lt grH_ok), rfl⟩
  simpa using this
theorem wkeys_ge {k : Nat} {kvs : KVs} (h : WySt cs rm k kvs) : ((List.range cs.length).filter ((grH cs rm).r k)).length ≤ kvs.length := by
  have nd : (((List.range cs.length).filter ((grH cs rm).r k)).map fun i : Nat => (Sum.inl (i : Int) : Key)).Nodup := by
    have n1 : ((List.range cs.length).filter ((grH cs rm).r k)).Nodup := List.nodup_range.sublist List.filter_sublist
    refine List.pairwise_map.mpr (n1.imp fun {a b} ne e => ne ?_)
    have := Sum.inl.inj e
    omega
  have := GB.sub_len (l := kvs.map (·.1)) nd fun q hq => by
    obtain ⟨i, hi, rfl⟩ := List.mem_map.mp hq
    exact look_key.mp (h.all i (List.mem_filter.mp hi).2)
  simpa using this
/-- at the head of the program's loop -/
structure WyH (cs : Cs) (rm : List PyData) (f : Nat) (kvs : KVs) (lv : List PyData) : Prop where
  ex : ∃ k, k + f = cs.length + 1 ∧ WySt cs rm k kvs ∧ (∀ i : Nat, (lookD kvs (.inl (i : Int))).isSome = true → (grH cs rm).r k i = true) ∧ LevW cs rm k lv
  eq : wyLoop cs f kvs lv = wyK cs rm
theorem wyH_start {lk : List PyData} (hr : RmOk cs.length rm lk) : WyH cs rm (cs.length + 1) (hkK rm) ((hkK rm).map fun p => keyD p.1) := by
  have h := hkK_ok hr
  have key : ∀ i : Nat, (lookD (hkK rm) (.inl (i : Int))).isSome = true → (grH cs rm).D 0 i := fun i hi => by
    obtain ⟨x, hx⟩ := Option.isSome_iff_exists.mp hi
    obtain ⟨i', d, vs, e1, _, h4, h5, _⟩ := h.ent _ (look_mem hx)
    have : i' = i := by have := Sum.inl.inj (congrArg Prod.fst e1); omega
    subst this
    have : d = 0 := by omega
    subst this
    exact h5
  refine ⟨⟨0, by omega, h, fun i hi => (key i hi).1, fun x hx => ?_, fun i hi => ?_⟩, rfl⟩
  · obtain ⟨p, hp, rfl⟩ := List.mem_map.mp hx
    obtain ⟨i, d, vs, rfl, _, h4, h5, _⟩ := h.ent _ hp
    have : d = 0 := by omega
    subst this
    exact ⟨i, rfl, h5⟩
  · obtain ⟨p, hp, e⟩ := List.mem_map.mp (look_key.mp (h.all i hi.1))
    exact List.mem_map.mpr ⟨p, hp, by rw [e]; rfl⟩
theorem wyH_step (hs : StOk cs) {f : Nat} {kvs : KVs} {lv : List PyData} (h : WyH cs rm f kvs lv) (hl : lv ≠ []) : ∃ f', f = f' + 1 ∧ WyH cs rm f' (wyL cs lv kvs).1 (wyL cs lv kvs).2 := by
  obtain ⟨⟨k, hk, h1, h2, h3⟩, he⟩ := h
  obtain ⟨x, hx⟩ := List.exists_mem_of_ne_nil _ hl
  obtain ⟨i, _, hi⟩ := h3.1 x hx
  have : k < cs.length := Nat.lt_of_lt_of_le (Gr.deep grH_ok hi) (Gr.cnt_le (g := grH cs rm) k)
  obtain ⟨f', rfl⟩ : ∃ f', f = f' + 1 := ⟨f - 1, by omega⟩
  obtain ⟨a1, a2, a3⟩ := wyL_ok hs h1 h2 h3 (wkeys_ge h1)
  refine ⟨f', rfl, ⟨k + 1, by omega, a1, a2, a3⟩, ?_⟩
  have e : lv.isEmpty = false := by cases lv with
    | nil => exact absurd rfl hl
    | cons _ _ => rfl
  unfold wyLoop at he
  rw [if_neg (by rw [e]; decide)] at he
  exact he
theorem wyH_end {f : Nat} {kvs : KVs} (h : WyH cs rm f kvs []) : kvs = wyK cs rm := by
  have := h.eq
  cases f <;> exact this
structure WyFin (cs : Cs) (rm : List PyData) (kvs : KVs) : Prop where
  ent : ∀ p ∈ kvs, ∃ (i d : Nat) (vs : List Nat), p = (.inl (i : Int), natsD vs) ∧ WV cs rm vs i ∧ (grH cs rm).D d i ∧ vs.length = d + 2
  all : ∀ i d : Nat, (grH cs rm).D d i → (lookD kvs (.inl (i : Int))).isSome = true
theorem wyFin_of {f : Nat} {kvs : KVs} (h : WyH cs rm f kvs []) : WyFin cs rm (wyK cs rm) := by
  obtain ⟨⟨k, hk, h1, h2, h3⟩, _⟩ := id h
  rw [← wyH_end h]
  refine ⟨fun p hp => ?_, fun i d hd => h1.all i (Gr.mono hd.1 (Nat.le_of_lt (Gr.all grH_ok (fun j hj => ?_) hd)))⟩
  · obtain ⟨i, d, vs, a, b, _, e, g⟩ := h1.ent p hp
    exact ⟨i, d, vs, a, b, e, g⟩
  · have := h3.2 j hj
    cases this
theorem wyFin (hs : StOk cs) {lk : List PyData} (hr : RmOk cs.length rm lk) : WyFin cs rm (wyK cs rm) := by
  have : ∀ (f : Nat) (kvs : KVs) (lv : List PyData), WyH cs rm f kvs lv → WyFin cs rm (wyK cs rm) := by
    intro f
    induction f with
    | zero =>
      intro kvs lv h
      cases lv with
      | nil => exact wyFin_of h
      | cons x r => obtain ⟨f', e, _⟩ := wyH_step hs h (by simp); cases e
    | succ f ih =>
      intro kvs lv h
      cases lv with
      | nil => exact wyFin_of h
      | cons x r =>
        obtain ⟨f', e, h'⟩ := wyH_step hs h (by simp)
        cases e
        exact ih _ _ h'
  exact this _ _ _ (wyH_start hr)
theorem wyK_some (hs : StOk cs) {lk : List PyData} (hr : RmOk cs.length rm lk) {i : Nat} {x : PyData} (h : lookD (wyK cs rm) (.inl (i : Int)) = some x) : ∃ (d : Nat) (vs : List Nat), x = natsD vs ∧ WV cs rm vs i ∧ (grH cs rm).D d i ∧ vs.length = d + 2 ∧ d < cs.length := by
  obtain ⟨i', d, vs, e, h2, h4, h5⟩ := (wyFin hs hr).ent _ (look_mem h)
  have : i' = i := by have := Sum.inl.inj (congrArg Prod.fst e); omega
  subst this
  exact ⟨d, vs, congrArg Prod.snd e, h2, h4, h5, Nat.lt_of_lt_of_le (Gr.deep grH_ok h4) (Gr.cnt_le (g := grH cs rm) d)⟩
theorem wyK_none (hs : StOk cs) {lk : List PyData} (hr : RmOk cs.length rm lk) {i : Nat} (h : lookD (wyK cs rm) (.inl (i : Int)) = none) : ∀ d, ¬ (grH cs rm).D d i := fun d hd => by
  have := (wyFin hs hr).all i d hd
  rw [h] at this; cases this
end
/-! the law's own waves, over any going -/
def Smn (n : Nat) (kvs : KVs) : Prop := (∀ p ∈ kvs, ∃ i : Nat, p.1 = .inl (i : Int) ∧ i < n) ∧ (kvs.map (·.1)).Nodup
theorem Smn.nil {n : Nat} : Smn n [] := ⟨(fun _ h => nomatch h), List.nodup_nil⟩
theorem Smn.len {n : Nat} {kvs : KVs} (h : Smn n kvs) : kvs.length ≤ n := by
  have := GB.sub_len (l := (List.range n).map fun i : Nat => (Sum.inl (i : Int) : Key)) h.2 fun q hq => by
    obtain ⟨p, hp, rfl⟩ := List.mem_map.mp hq
    obtain ⟨i, e, hi⟩ := h.1 p hp
    exact List.mem_map.mpr ⟨i, List.mem_range.mpr hi, e.symm⟩
  simpa using this
theorem Smn.put {n : Nat} {kvs : KVs} (h : Smn n kvs) {i : Nat} (hi : i < n) {x : PyData} (hn : (lookD kvs (.inl (i : Int))).isSome = false) : Smn n (putD kvs (.inl (i : Int)) x) := by
  refine ⟨fun p hp => ?_, put_nd hn h.2⟩
  rw [put_new hn] at hp
  rcases List.mem_append.mp hp with hp | hp
  · exact h.1 p hp
  · exact ⟨i, by rw [List.mem_singleton.mp hp], hi⟩
structure FarG (g : Gr) (k : Nat) (far : KVs) : Prop where
  y : ∀ i d : Nat, g.D d i → d < k → lookD far (.inl (i : Int)) = some (.int ((d : Int) + 2))
  n : ∀ i : Nat, (lookD far (.inl (i : Int))).isSome = true → ∃ d, d < k ∧ g.D d i
  sm : Smn g.n far
structure FarE (g : Gr) (kvs : KVs) : Prop where
  y : ∀ i d : Nat, g.D d i → lookD kvs (.inl (i : Int)) = some (.int ((d : Int) + 2))
  n : ∀ i : Nat, (∀ d, ¬ g.D d i) → lookD kvs (.inl (i : Int)) = none
structure WavG (g : Gr) (k : Nat) (wv : List PyData) : Prop where
  y : ∀ x ∈ wv, ∃ i : Nat, x = .int i ∧ g.r k i = true
  a : ∀ i : Nat, g.D k i → PyData.int i ∈ wv
  t : wv ≠ [] → k ≤ g.n
  l : wv.length ≤ 240
def nN (x : PyData) : Bool := !GB.isNon x
def dpF (cs : Cs) (k : Nat) (st : KVs × List PyData) (x : PyData) : KVs × List PyData := if nOk st.1 x = true then (putD st.1 (.inl (nI x)) (.int ((k : Int) + 2)), st.2 ++ (fsAt cs (nI x).toNat).filter nN) else st
theorem nN_fld {n : Nat} {x : PyData} (h : Fld n x) (hx : nN x = true) : ∃ i : Nat, x = .int i ∧ i < n := by
  rcases h with rfl | h
  · cases hx
  · exact h
open Classical in
structure DpI (cs : Cs) (g : Gr) (k : Nat) (far : KVs) (pre : List PyData) (st : KVs × List PyData) : Prop where
  lk : ∀ i : Nat, lookD st.1 (.inl (i : Int)) = if PyData.int (i : Int) ∈ pre ∧ lookD far (.inl (i : Int)) = none then some (.int ((k : Int) + 2)) else lookD far (.inl (i : Int))
  sm : Smn g.n st.1
  fu : ∀ x ∈ st.2, ∃ i j : Nat, x = .int i ∧ g.D k j ∧ g.edge j i = true
  ed : ∀ j i : Nat, PyData.int (j : Int) ∈ pre → lookD far (.inl (j : Int)) = none → g.edge j i = true → PyData.int (i : Int) ∈ st.2
  ln : st.2.length ≤ 3 * st.1.length
theorem dp_new {g : Gr} {k : Nat} {far : KVs} (h : FarG g k far) {i : Nat} (hr : g.r k i = true) (hn : lookD far (.inl (i : Int)) = none) : g.D k i := by
  obtain ⟨d, h1, h2⟩ := Gr.D.of hr
  rcases Nat.lt_or_ge d k with q | q
  · have := h.y i d h2 q
    rw [hn] at this; cases this
  · have : d = k := by omega
    rw [← this]; exact h2
theorem dp_one {cs : Cs} {rm : List PyData} (hs : StOk cs) {k : Nat} {far : KVs} (h : FarG (grH cs rm) k far) {pre : List PyData} {st : KVs × List PyData} (a : DpI cs (grH cs rm) k far pre st) {i : Nat} (hr : (grH cs rm).r k i = true) : DpI cs (grH cs rm) k far (pre ++ [.int (i : Int)]) (dpF cs k st (.int (i : Int))) := by
  have hi : i < cs.length := Gr.lt grH_ok hr
  unfold dpF
  rw [nOk_i]
  have eN : nI (PyData.int (i : Int)) = (i : Int) := rfl
  rw [eN, toI]
  cases hl : lookD st.1 (.inl (i : Int)) with
  | none =>
    have hp : ¬ (PyData.int (i : Int) ∈ pre ∧ lookD far (.inl (i : Int)) = none) := fun z => by
      have := a.lk i; rw [if_pos z, hl] at this; cases this
    have hf : lookD far (.inl (i : Int)) = none := by
      have := a.lk i; rw [if_neg hp, hl] at this; exact this.symm
    have Di := dp_new h hr hf
    rw [if_pos (show (!(none : Option PyData).isSome) = true from rfl)]
    have hn : (lookD st.1 (.inl (i : Int))).isSome = false := by rw [hl]; rfl
    refine ⟨fun j => ?_, a.sm.put hi hn, fun x hx => ?_, fun j m hj hf' he => ?_, ?_⟩
    · rw [look_put]
      by_cases e : j = i
      · subst e
        rw [if_pos rfl, if_pos ⟨by simp, hf⟩]
      · rw [if_neg (fun z => e (by have := Sum.inl.inj z; omega)), a.lk j]
        have : PyData.int (j : Int) ∈ pre ++ [PyData.int (i : Int)] ↔ PyData.int (j : Int) ∈ pre := by
          rw [List.mem_append, List.mem_singleton]
          exact ⟨fun z => z.elim id fun z => absurd (by have := PyData.int.inj z; omega) e, .inl⟩
        by_cases hq : PyData.int (j : Int) ∈ pre ∧ lookD far (.inl (j : Int)) = none
        · rw [if_pos hq, if_pos ⟨this.mpr hq.1, hq.2⟩]
        · rw [if_neg hq, if_neg (fun z => hq ⟨this.mp z.1, z.2⟩)]
    · rcases List.mem_append.mp hx with hx | hx
      · exact a.fu x hx
      · obtain ⟨hx, hnn⟩ := List.mem_filter.mp hx
        have fl := (cel_at hs hi).2.1
        obtain ⟨m, rfl, hm⟩ := nN_fld (fl x hx) hnn
        refine ⟨m, i, rfl, Di, ?_⟩
        show (decide (m < cs.length) && memB (fsAt cs i) m) = true
        rw [decide_eq_true hm, (mem_memB' fl).mpr hx]; rfl
    · rcases List.mem_append.mp hj with hj | hj
      · exact List.mem_append.mpr (.inl (a.ed j m hj hf' he))
      · have : j = i := by have := PyData.int.inj (List.mem_singleton.mp hj); omega
        subst this
        have he : (decide (m < cs.length) && memB (fsAt cs j) m) = true := he
        simp only [Bool.and_eq_true, decide_eq_true_eq] at he
        exact List.mem_append.mpr (.inr (List.mem_filter.mpr ⟨(mem_memB' (cel_at hs hi).2.1).mp he.2, rfl⟩))
    · show (st.2 ++ (fsAt cs i).filter nN).length ≤ 3 * (putD st.1 (.inl (i : Int)) _).length
      rw [put_new hn, List.length_append, List.length_append, List.length_singleton]
      have h1 := a.ln
      have h2 := List.length_filter_le nN (fsAt cs i)
      have h3 := (cel_at hs hi).1
      omega
  | some x =>
    rw [if_neg (by simp)]
    have old : ∀ j : Nat, (PyData.int (j : Int) ∈ pre ++ [PyData.int (i : Int)] ∧ lookD far (.inl (j : Int)) = none) ↔ (PyData.int (j : Int) ∈ pre ∧ lookD far (.inl (j : Int)) = none) := fun j => by
      constructor
      · rintro ⟨z, w⟩
        refine ⟨?_, w⟩
        rcases List.mem_append.mp z with z | z
        · exact z
        · have : j = i := by have := PyData.int.inj (List.mem_singleton.mp z); omega
          subst this
          have q := a.lk j
          rw [hl] at q
          by_cases hp : PyData.int (j : Int) ∈ pre ∧ lookD far (.inl (j : Int)) = none
          · exact hp.1
          · rw [if_neg hp, w] at q; cases q
      · exact fun ⟨z, w⟩ => ⟨List.mem_append.mpr (.inl z), w⟩
    refine ⟨fun j => ?_, a.sm, a.fu, fun j m hj hf' he => ?_, a.ln⟩
    · rw [a.lk j]
      by_cases hp : PyData.int (j : Int) ∈ pre ∧ lookD far (.inl (j : Int)) = none
      · rw [if_pos hp, if_pos ((old j).mpr hp)]
      · rw [if_neg hp, if_neg (fun z => hp ((old j).mp z))]
    · exact a.ed j m ((old j).mp ⟨hj, hf'⟩).1 hf' he
theorem dp_start {cs : Cs} {g : Gr} {k : Nat} {far : KVs} (h : FarG g k far) : DpI cs g k far [] (far, []) :=
  ⟨fun i => by rw [if_neg (fun z => nomatch z.1)], h.sm, (fun _ h => nomatch h), (fun _ _ h => nomatch h), by simp⟩
theorem dp_end {cs : Cs} {rm : List PyData} (hs : StOk cs) {k : Nat} {far : KVs} {wv : List PyData} (h : FarG (grH cs rm) k far) (hw : WavG (grH cs rm) k wv) {st : KVs × List PyData} (a : DpI cs (grH cs rm) k far wv st) : FarG (grH cs rm) (k + 1) st.1 ∧ WavG (grH cs rm) (k + 1) st.2 := by
  have fr : ∀ i, (grH cs rm).D k i → lookD far (.inl (i : Int)) = none := fun i hi => by
    cases hl : lookD far (.inl (i : Int)) with
    | none => rfl
    | some x =>
      obtain ⟨d, h1, h2⟩ := h.n i (by rw [hl]; rfl)
      have := hi.one h2
      omega
  have h60 := hs.1
  refine ⟨⟨fun i d hd hk => ?_, fun i hi => ?_, a.sm⟩, ⟨fun x hx => ?_, fun i hi => ?_, fun hne => ?_, ?_⟩⟩
  · rw [a.lk i]
    rcases Nat.lt_or_ge d k with q | q
    · have := h.y i d hd q
      rw [if_neg (fun z => by rw [this] at z; cases z.2)]
      exact this
    · have : d = k := by omega
      subst this
      rw [if_pos ⟨hw.a i hd, fr i hd⟩]
  · rw [a.lk i] at hi
    by_cases hp : PyData.int (i : Int) ∈ wv ∧ lookD far (.inl (i : Int)) = none
    · obtain ⟨m, e, hm⟩ := hw.y _ hp.1
      have : i = m := by have := PyData.int.inj e; omega
      subst this
      obtain ⟨d, h1, h2⟩ := Gr.D.of hm
      exact ⟨d, by omega, h2⟩
    · rw [if_neg hp] at hi
      obtain ⟨d, h1, h2⟩ := h.n i hi
      exact ⟨d, by omega, h2⟩
  · obtain ⟨i, j, e, h1, h2⟩ := a.fu x hx
    exact ⟨i, e, (Gr.step grH_ok).mpr (.inr ⟨j, h1.1, h2⟩)⟩
  · obtain ⟨_, j, hj, he⟩ := (Gr.Ds grH_ok).mp hi
    exact a.ed j i (hw.a j hj) (fr j hj) he
  · obtain ⟨x, hx⟩ := List.exists_mem_of_ne_nil _ hne
    obtain ⟨i, j, _, h1, _⟩ := a.fu x hx
    exact Nat.lt_of_lt_of_le (Gr.deep grH_ok h1) (Gr.cnt_le k)
  · have h1 := a.ln
    have h2 := a.sm.len
    have h3 : (grH cs rm).n = cs.length := rfl
    omega
theorem far_fin {g : Gr} (ok : g.Ok) {k : Nat} {far : KVs} (h : FarG g k far) (hw : WavG g k []) : FarE g far := by
  have no : ∀ i, ¬ g.D k i := fun i hi => nomatch hw.a i hi
  refine ⟨fun i d hd => h.y i d hd (Gr.all ok no hd), fun i hi => ?_⟩
  cases hl : lookD far (.inl (i : Int)) with
  | none => rfl
  | some x =>
    obtain ⟨d, _, h2⟩ := h.n i (by rw [hl]; rfl)
    exact absurd h2 (hi d)
theorem wav_start {cs : Cs} {rm lk : List PyData} (hr : RmOk cs.length rm lk) : WavG (grH cs rm) 0 ((rm.flatMap rowL).filter nN) := by
  have fl := rm_fld hr
  refine ⟨fun x hx => ?_, fun i hi => ?_, fun _ => Nat.zero_le _, ?_⟩
  · obtain ⟨hx, hn⟩ := List.mem_filter.mp hx
    obtain ⟨i, rfl, hi⟩ := nN_fld (fl x hx) hn
    refine ⟨i, rfl, ?_⟩
    show (decide (i < cs.length) && memB (rm.flatMap rowL) i) = true
    rw [decide_eq_true hi, (mem_memB' fl).mpr hx]; rfl
  · have hi : (decide (i < cs.length) && memB (rm.flatMap rowL) i) = true := Gr.D0.mp hi
    simp only [Bool.and_eq_true, decide_eq_true_eq] at hi
    exact List.mem_filter.mpr ⟨(mem_memB' fl).mp hi.2, rfl⟩
  · refine Nat.le_trans (List.length_filter_le _ _) ?_
    have : ∀ (xs : List PyData), (∀ x ∈ xs, Row cs.length 4 x) → (xs.flatMap rowL).length ≤ 4 * xs.length := by
      intro xs
      induction xs with
      | nil => intro _; simp
      | cons y ys ih =>
        intro h
        have := ih fun x hx => h x (by simp [hx])
        obtain ⟨row, rfl, h1, _⟩ := h y (by simp)
        rw [List.flatMap_cons, List.length_append, List.length_cons]
        show row.length + _ ≤ _
        omega
    have h1 := this rm hr.2.2.1
    have h2 := hr.1
    omega
/-! contracts of k04 to k06 -/
def F_l_fields : FnD := fun ss R => ∃ (n : Nat) (us : List PyData), ss = [.ob .jar, .d (.list us)] ∧ us.length ≤ 60 ∧ Cells n us ∧ ∀ xs : List PyData, xs.length ≤ 3 → (∀ x ∈ xs, Fld n x) → R (.d (.tuple xs))
def F_l_hands : FnD := fun ss R => ∃ (n m : Nat) (us : List PyData), ss = [.ob .jar, .d (.list us), .d (.int m)] ∧ us.length ≤ 60 ∧ 1 ≤ m ∧ m ≤ 50 ∧ Cells n us ∧ ∀ xs : List PyData, xs.length ≤ m → (∀ x ∈ xs, Row n 4 x) → R (.d (.tuple xs))
def F_l_mark : FnD := fun ss R => ∃ fs : List PyData, ss = [.ob .jar, .d (.tuple fs)] ∧ fs.length ≤ 3 ∧ ∀ x, Mark fs x → R (.d x)
def F_l_standing : FnD := fun ss R => ∃ n k m : Nat, ss = [.ob .jar, .d (.int n), .d (.int k), .d (.int m)] ∧ n + k ≤ 60 ∧ 1 ≤ m ∧ m ≤ 50 ∧ ∀ cs rm lk, cs.length = n + k → StOk cs → RmOk (n + k) rm lk → R (.d (stD cs rm lk))
def F_l_depths : FnD := fun ss R => ∃ cs rm lk, ss = [.d (.tuple (cs.map fun c => .tuple c.1)), .d (.tuple rm)] ∧ StOk cs ∧ RmOk cs.length rm lk ∧ ∀ kvs, FarE (grH cs rm) kvs → R (.d (dctD kvs))
def F_p_ways_of_held : FnD := fun ss R => ∃ (n : Nat) (rm lk : List PyData), ss = [.d (.tuple rm)] ∧ RmOk n rm lk ∧ n ≤ 60 ∧ R (.od (hkK rm))
def F_p_ways : FnD := fun ss R => ∃ cs rm lk, ss = [.d (stD cs rm lk)] ∧ StOk cs ∧ RmOk cs.length rm lk ∧ R (.d (dctD (wyK cs rm)))
def F_way_to : FnD := fun ss R => ∃ cs rm lk, ∃ i : Nat, ss = [.d (stD cs rm lk), .d (.int i)] ∧ StOk cs ∧ RmOk cs.length rm lk ∧ R (.d ((lookD (wyK cs rm) (.inl (i : Int))).getD .none))
end GK

namespace GK
open PySem PySem.Spec PyProof.Rows L2 GB
def F_l_is_way : FnD := fun ss R => ∃ cs rm lk ws, ∃ i : Nat, ss = [.d (stD cs rm lk), .d (natsD ws), .d (.int i)] ∧ StOk cs ∧ RmOk cs.length rm lk ∧ WV cs rm ws i ∧ ws.length ≤ 100 ∧ R (.d (.bool true))
def F_l_is_told : FnD := fun ss R => ∃ cs rm lk due b, ∃ i : Nat, ss = [.d (stD cs rm lk), .d (.int i), .d due, .d (.bool b)] ∧ StOk cs ∧ RmOk cs.length rm lk ∧ (∀ d : Nat, (grH cs rm).D d i → due = .int ((d : Int) + 2)) ∧ ((∀ d, ¬ (grH cs rm).D d i) → due = .none) ∧ R (.d (.bool true))
def F_l_are_told : FnD := fun ss R => ∃ cs rm lk us, ss = [.ob .jar, .d (stD cs rm lk), .d (.list us)] ∧ StOk cs ∧ RmOk cs.length rm lk ∧ Cells cs.length us ∧ R (.d (.bool true))
def F_l_row : FnD := fun ss R => ∃ m : Nat, ss = [.ob .jar, .d (.int m)] ∧ 2 ≤ m ∧ m ≤ 60 ∧ ∀ cs rm lk us, cs.length = m → StOk cs → RmOk m rm lk → us.length = m → Cells m us → R (.d (.tuple [stD cs rm lk, .list us]))
def F_law : FnD := fun ss R => ∃ ns, ss = [.ob (.scr ns)] ∧ ns.length ≤ 63 ∧ R (.d (.bool true))
theorem go_law (ns : List Int) (h : ns.length ≤ 63) : F_law [.ob (.scr ns)] fun s => s = .d (.bool true) := ⟨ns, rfl, h, rfl⟩
end GK

set_option maxRecDepth 100000
namespace GK
open PySem PySem.Spec PyProof.Rows L2 GB
/-! the text -/
def topS (i : Nat) : Stmt := PySem.Challenge.pw_guardbooks_k05_whole_shortest_ways.main.body.getD i (.Pass ⟨0, 0, 0, 0⟩)
abbrev st_l_deck : Stmt := topS 5
abbrev nm_l_deck : List Str := ["script", "deck", "cell", "whole", "state"]
theorem sc_l_deck : FnScope nm_l_deck ["script"] (defScope st_l_deck) := ⟨rfl, rfl, rfl, by decide +kernel, rfl, by decide +kernel, by decide +kernel⟩
abbrev st_l_draw : Stmt := topS 6
abbrev nm_l_draw : List Str := ["deck", "many", "whole", "one", "two"]
theorem sc_l_draw : FnScope nm_l_draw ["deck", "many"] (defScope st_l_draw) := ⟨rfl, rfl, rfl, by decide +kernel, rfl, by decide +kernel, by decide +kernel⟩
abbrev st_l_mixed : Stmt := topS 8
abbrev nm_l_mixed : List Str := ["deck", "items", "rest", "found"]
theorem sc_l_mixed : FnScope nm_l_mixed ["deck", "items"] (defScope st_l_mixed) := ⟨rfl, rfl, rfl, by decide +kernel, rfl, by decide +kernel, by decide +kernel⟩
abbrev st_l_pick : Stmt := topS 7
abbrev nm_l_pick : List Str := ["deck", "items"]
theorem sc_l_pick : FnScope nm_l_pick ["deck", "items"] (defScope st_l_pick) := ⟨rfl, rfl, rfl, by decide +kernel, rfl, by decide +kernel, by decide +kernel⟩
abbrev st_l_row : Stmt := topS 17
abbrev nm_l_row : List Str := ["deck", "many", "order", "rows", "spot", "c", "elder", "hands"]
theorem sc_l_row : FnScope nm_l_row ["deck", "many"] (defScope st_l_row) := ⟨rfl, rfl, rfl, by decide +kernel, rfl, by decide +kernel, by decide +kernel⟩
abbrev st_l_hands : Stmt := topS 10
abbrev nm_l_hands : List Str := ["deck", "some", "most", "menu", "found", "h", "many", "i"]
theorem sc_l_hands : FnScope nm_l_hands ["deck", "some", "most"] (defScope st_l_hands) := ⟨rfl, rfl, rfl, by decide +kernel, rfl, by decide +kernel, by decide +kernel⟩
abbrev st_l_fields : Stmt := topS 9
abbrev nm_l_fields : List Str := ["deck", "some", "many", "menu", "found", "f"]
theorem sc_l_fields : FnScope nm_l_fields ["deck", "some"] (defScope st_l_fields) := ⟨rfl, rfl, rfl, by decide +kernel, rfl, by decide +kernel, by decide +kernel⟩
abbrev st_l_mark : Stmt := topS 11
abbrev nm_l_mark : List Str := ["deck", "cell"]
theorem sc_l_mark : FnScope nm_l_mark ["deck", "cell"] (defScope st_l_mark) := ⟨rfl, rfl, rfl, by decide +kernel, rfl, by decide +kernel, by decide +kernel⟩
abbrev st_l_standing : Stmt := topS 12
abbrev nm_l_standing : List Str := ["deck", "cells", "spare", "most", "order", "used", "rows", "marks", "c", "hands", "rooms"]
theorem sc_l_standing : FnScope nm_l_standing ["deck", "cells", "spare", "most"] (defScope st_l_standing) := ⟨rfl, rfl, rfl, by decide +kernel, rfl, by decide +kernel, by decide +kernel⟩
abbrev st_l_depths : Stmt := topS 13
abbrev nm_l_depths : List Str := ["heap", "hands", "wave", "found", "many", "rooms", "fresh", "c", "item"]
theorem sc_l_depths : FnScope nm_l_depths ["heap", "hands"] (defScope st_l_depths) := ⟨rfl, rfl, rfl, by decide +kernel, rfl, by decide +kernel, by decide +kernel⟩
abbrev st_p_ways_of_held : Stmt := topS 3
abbrev nm_p_ways_of_held : List Str := ["hands", "ways", "hand", "rooms", "room", "held"]
theorem sc_p_ways_of_held : FnScope nm_p_ways_of_held ["hands"] (defScope st_p_ways_of_held) := ⟨rfl, rfl, rfl, by decide +kernel, rfl, by decide +kernel, by decide +kernel⟩
abbrev st_p_ways : Stmt := topS 2
abbrev nm_p_ways : List Str := ["standing", "heap", "_", "hands", "ways", "level", "further", "cell", "field", "named"]
theorem sc_p_ways : FnScope nm_p_ways ["standing"] (defScope st_p_ways) := ⟨rfl, rfl, rfl, by decide +kernel, rfl, by decide +kernel, by decide +kernel⟩
abbrev st_way_to : Stmt := topS 1
abbrev nm_way_to : List Str := ["standing", "cell"]
theorem sc_way_to : FnScope nm_way_to ["standing", "cell"] (defScope st_way_to) := ⟨rfl, rfl, rfl, by decide +kernel, rfl, by decide +kernel, by decide +kernel⟩
abbrev st_l_is_way : Stmt := topS 14
abbrev nm_l_is_way : List Str := ["stand", "told", "cell", "heap", "marks", "hands", "looked", "here", "f", "own"]
theorem sc_l_is_way : FnScope nm_l_is_way ["stand", "told", "cell"] (defScope st_l_is_way) := ⟨rfl, rfl, rfl, by decide +kernel, rfl, by decide +kernel, by decide +kernel⟩
abbrev st_l_is_told : Stmt := topS 15
abbrev nm_l_is_told : List Str := ["stand", "cell", "due", "is_named", "known", "told"]
theorem sc_l_is_told : FnScope nm_l_is_told ["stand", "cell", "due", "is_named"] (defScope st_l_is_told) := ⟨rfl, rfl, rfl, by decide +kernel, rfl, by decide +kernel, by decide +kernel⟩
abbrev st_l_are_told : Stmt := topS 16
abbrev nm_l_are_told : List Str := ["deck", "stand", "some", "depths", "turn", "spot", "cell"]
theorem sc_l_are_told : FnScope nm_l_are_told ["deck", "stand", "some"] (defScope st_l_are_told) := ⟨rfl, rfl, rfl, by decide +kernel, rfl, by decide +kernel, by decide +kernel⟩
abbrev st_law : Stmt := topS 18
abbrev nm_law : List Str := ["script", "deck", "turn", "stand", "great", "order"]
theorem sc_law : FnScope nm_law ["script"] (defScope st_law) := ⟨rfl, rfl, rfl, by decide +kernel, rfl, by decide +kernel, by decide +kernel⟩
/-! what the top has written -/
structure Tx (K : PySem.W.Frag) (mg : Str → Option Value) where
  a_l_deck : Addr
  d_l_deck : FuncData
  F_l_deck : Fun K "_law_deck" "_law_deck" st_l_deck a_l_deck d_l_deck
  m_l_deck : mg "_law_deck" = some (.ref a_l_deck)
  B_l_deck : Binds K d_l_deck ["script"] []
  a_l_draw : Addr
  d_l_draw : FuncData
  F_l_draw : Fun K "_law_draw" "_law_draw" st_l_draw a_l_draw d_l_draw
  m_l_draw : mg "_law_draw" = some (.ref a_l_draw)
  B_l_draw : Binds K d_l_draw ["deck", "many"] []
  a_l_mixed : Addr
  d_l_mixed : FuncData
  F_l_mixed : Fun K "_law_mixed" "_law_mixed" st_l_mixed a_l_mixed d_l_mixed
  m_l_mixed : mg "_law_mixed" = some (.ref a_l_mixed)
  B_l_mixed : Binds K d_l_mixed ["deck", "items"] []
  a_l_pick : Addr
  d_l_pick : FuncData
  F_l_pick : Fun K "_law_pick" "_law_pick" st_l_pick a_l_pick d_l_pick
  m_l_pick : mg "_law_pick" = some (.ref a_l_pick)
  B_l_pick : Binds K d_l_pick ["deck", "items"] []
  a_l_row : Addr
  d_l_row : FuncData
  F_l_row : Fun K "_law_row" "_law_row" st_l_row a_l_row d_l_row
  m_l_row : mg "_law_row" = some (.ref a_l_row)
  B_l_row : Binds K d_l_row ["deck", "many"] []
  a_l_hands : Addr
  d_l_hands : FuncData
  F_l_hands : Fun K "_law_hands" "_law_hands" st_l_hands a_l_hands d_l_hands
  m_l_hands : mg "_law_hands" = some (.ref a_l_hands)
  B_l_hands : Binds K d_l_hands ["deck", "some", "most"] []
  a_l_fields : Addr
  d_l_fields : FuncData
  F_l_fields : Fun K "_law_fields" "_law_fields" st_l_fields a_l_fields d_l_fields
  m_l_fields : mg "_law_fields" = some (.ref a_l_fields)
  B_l_fields : Binds K d_l_fields ["deck", "some"] []
  a_l_mark : Addr
  d_l_mark : FuncData
  F_l_mark : Fun K "_law_mark" "_law_mark" st_l_mark a_l_mark d_l_mark
  m_l_mark : mg "_law_mark" = some (.ref a_l_mark)
  B_l_mark : Binds K d_l_mark ["deck", "cell"] []
  a_l_standing : Addr
  d_l_standing : FuncData
  F_l_standing : Fun K "_law_standing" "_law_standing" st_l_standing a_l_standing d_l_standing
  m_l_standing : mg "_law_standing" = some (.ref a_l_standing)
  B_l_standing : Binds K d_l_standing ["deck", "cells", "spare", "most"] []
  a_l_depths : Addr
  d_l_depths : FuncData
  F_l_depths : Fun K "_law_depths" "_law_depths" st_l_depths a_l_depths d_l_depths
  m_l_depths : mg "_law_depths" = some (.ref a_l_depths)
  B_l_depths : Binds K d_l_depths ["heap", "hands"] []
  a_p_ways_of_held : Addr
  d_p_ways_of_held : FuncData
  F_p_ways_of_held : Fun K "_ways_of_held" "_ways_of_held" st_p_ways_of_held a_p_ways_of_held d_p_ways_of_held
  m_p_ways_of_held : mg "_ways_of_held" = some (.ref a_p_ways_of_held)
  B_p_ways_of_held : Binds K d_p_ways_of_held ["hands"] []
  a_p_ways : Addr
  d_p_ways : FuncData
  F_p_ways : Fun K "_ways" "_ways" st_p_ways a_p_ways d_p_ways
  m_p_ways : mg "_ways" = some (.ref a_p_ways)
  B_p_ways : Binds K d_p_ways ["standing"] []
  a_way_to : Addr
  d_way_to : FuncData
  F_way_to : Fun K "way_to" "way_to" st_way_to a_way_to d_way_to
  m_way_to : mg "way_to" = some (.ref a_way_to)
  B_way_to : Binds K d_way_to ["standing", "cell"] []
  a_l_is_way : Addr
  d_l_is_way : FuncData
  F_l_is_way : Fun K "_law_is_way" "_law_is_way" st_l_is_way a_l_is_way d_l_is_way
  m_l_is_way : mg "_law_is_way" = some (.ref a_l_is_way)
  B_l_is_way : Binds K d_l_is_way ["stand", "told", "cell"] []
  a_l_is_told : Addr
  d_l_is_told : FuncData
  F_l_is_told : Fun K "_law_is_told" "_law_is_told" st_l_is_told a_l_is_told d_l_is_told
  m_l_is_told : mg "_law_is_told" = some (.ref a_l_is_told)
  B_l_is_told : Binds K d_l_is_told ["stand", "cell", "due", "is_named"] []
  a_l_are_told : Addr
  d_l_are_told : FuncData
  F_l_are_told : Fun K "_law_are_told" "_law_are_told" st_l_are_told a_l_are_told d_l_are_told
  m_l_are_told : mg "_law_are_told" = some (.ref a_l_are_told)
  B_l_are_told : Binds K d_l_are_told ["deck", "stand", "some"] []
  a_law : Addr
  d_law : FuncData
  F_law : Fun K "law" "law" st_law a_law d_law
  m_law : mg "law" = some (.ref a_law)
  B_law : Binds K d_law ["script"] []
  P_way_to_1_0 : Perm K d_way_to ["standing", "cell"] ["cell", "standing"] (pick [1, 0]) (pick [1, 0]) (pick [1, 0])
  b_abs : mg "abs" = none
  b_bool : mg "bool" = none
  b_enumerate : mg "enumerate" = none
  b_int : mg "int" = none
  b_isinstance : mg "isinstance" = none
  b_len : mg "len" = none
  b_list : mg "list" = none
  b_range : mg "range" = none
  b_repr : mg "repr" = none
  b_sorted : mg "sorted" = none
  b_tuple : mg "tuple" = none
/-! the readings -/
def rd_l_draw : TSd := (dSeq (dIfS (dB (dOp fLt (dVar 1) (dK (.int 2)))) (dRet (dK (.int 0))) dNext) (dSeq (dJPop 0 2 1 (dRet (dOp fMod (dN fInt (dCons (dVar 2) dNil)) (dVar 1)))) (dSeq (dSet 3 (dOp fMod (dN fInt (dCons (dFz (dOp fAdd (dFz (dOp fMul (dJInt 0) (dK (.int 1181783497276652981)))) (dK (.int 88172645463325)))) dNil)) (dK (.int 2305843009213693951)))) (dSeq (dJPut 0 (dVar 3)) (dSeq (dSet 4 (dOp fMod (dN fInt (dCons (dFz (dOp fAdd (dFz (dOp fAdd (dFz (dOp fMul (dVar 3) (dVar 3))) (dFz (dOp fMul (dK (.int 374761393)) (dVar 3))))) (dK (.int 11)))) dNil)) (dK (.int 2305843009213693921)))) (dRet (dOp fMod (dN fInt (dCons (dOp fDiv (dVar 4) (dK (.int 1048576))) dNil)) (dVar 1))))))))
def rd_l_mixed : TSd := (dSeq (dPar 2 3 (dN fList (dCons (dVar 1) dNil)) (dLst dNil)) (dSeq (dWhile (dB (dOpL 2 fNe (dFz (dLst dNil)))) (dDrop (dAppend 3 (dPopAt 2 (dCall F_l_draw 2 (dCons (dVar 0) (dCons (dN1 fLen 2) dNil))))))) (dFixS 3 (dRet (dVar 3)))))
def rd_l_pick : TSd := (dRet (dOp fIx (dVar 1) (dCall F_l_draw 2 (dCons (dVar 0) (dCons (dN fLen (dCons (dVar 1) dNil)) dNil)))))
def rd_l_row : TSd := (dSeq (dPar 2 3 (dCall F_l_mixed 2 (dCons (dVar 0) (dCons (dFz (dListRng (dVar 1))) dNil))) (dOp fMul (dFz (dLst (dCons (dTup dNil) dNil))) (dVar 1))) (dSeq (dFor (dIEnum (dFz (dCut (dVar 2) dONone (dOSome (dNeg (dK (.int 1))))))) (dgTup 2 (dgCons (dgName 4) (dgCons (dgName 5) dgNil))) (dSeq (dSet 6 (dOp fIx (dVar 2) (dCall F_l_draw 2 (dCons (dVar 0) (dCons (dFz (dOp fAdd (dVar 4) (dK (.int 1)))) dNil))))) (dPutAt 3 (dVar 5) (dCall F_l_pick 2 (dCons (dVar 0) (dCons (dFz (dLst (dCons (dTup (dCons (dOp fIx (dVar 2) (dOp fAdd (dVar 4) (dK (.int 1)))) dNil)) (dCons (dTup (dCons (dVar 6) (dCons (dOp fIx (dVar 2) (dOp fAdd (dVar 4) (dK (.int 1)))) dNil))) (dCons (dTup (dCons (dK .none) (dCons (dOp fIx (dVar 2) (dOp fAdd (dVar 4) (dK (.int 1)))) (dCons (dVar 6) dNil)))) dNil))))) dNil)))))) (dSeq (dSet 7 (dTup (dCons (dTup (dCons (dK .none) (dCons (dOp fIx (dVar 2) (dCall F_l_pick 2 (dCons (dVar 0) (dCons (dFz (dLst (dCons (dK (.int 0)) (dCons (dK (.int 0)) (dCons (dK (.int 1)) dNil))))) dNil)))) dNil))) (dCons (dTup (dCons (dK .none) dNil)) dNil)))) (dRet (dTup (dCons (dTup (dCons (dN1 fTuple 3) (dCons (dFz (dOp fMul (dTup (dCons (dK (.str "white")) dNil)) (dVar 1))) (dCons (dVar 7) (dCons (dTup (dCons (dK (.bool true)) (dCons (dK (.bool false)) dNil))) dNil))))) (dCons (dVar 2) dNil)))))))
def rd_l_hands : TSd := (dSeq (dPar 3 4 (dFz (dOp fAdd (dFz (dLst (dCons (dK .none) dNil))) (dFz (dN fList (dCons (dVar 1) dNil))))) (dLst dNil)) (dSeq (dFor (dIRng (dOp fAdd (dK (.int 1)) (dCall F_l_draw 2 (dCons (dVar 0) (dCons (dVar 2) dNil))))) (dgName 5) (dSeq (dSet 6 (dCall F_l_pick 2 (dCons (dVar 0) (dCons (dFz (dLst (dCons (dK (.int 1)) (dCons (dK (.int 2)) (dCons (dK (.int 2)) (dCons (dK (.int 3)) (dCons (dK (.int 4)) dNil))))))) dNil)))) (dDrop (dAppend 4 (dN fTuple (dCons (dFz (dLc (dIRng (dVar 6)) [7] (dgName 7) dYes (dCall F_l_pick 2 (dCons (dVar 0) (dCons (dVar 3) dNil))))) dNil)))))) (dRet (dN1 fTuple 4))))
def rd_l_fields : TSd := (dSeq (dPar 2 3 (dCall F_l_pick 2 (dCons (dVar 0) (dCons (dFz (dLst (dCons (dK (.int 0)) (dCons (dK (.int 1)) (dCons (dK (.int 1)) (dCons (dK (.int 2)) (dCons (dK (.int 2)) (dCons (dK (.int 3)) dNil)))))))) dNil))) (dFz (dOp fAdd (dFz (dLst (dCons (dK .none) dNil))) (dFz (dN fList (dCons (dVar 1) dNil)))))) (dSeq (dSet 4 (dLst dNil)) (dSeq (dFor (dIRng (dVar 2)) (dgName 5) (dDrop (dAppend 4 (dIf (dB (dOp fGt (dCall F_l_draw 2 (dCons (dVar 0) (dCons (dK (.int 3)) dNil))) (dK (.int 0)))) (dCall F_l_pick 2 (dCons (dVar 0) (dCons (dVar 3) dNil))) (dK .none))))) (dRet (dN1 fTuple 4)))))
def rd_l_mark : TSd := (dRet (dCall F_l_pick 2 (dCons (dVar 0) (dCons (dFz (dOp fAdd (dFz (dLst (dCons (dK (.str "white")) (dCons (dK (.str "white")) (dCons (dK (.str "black")) dNil))))) (dFz (dListRng (dN fLen (dCons (dVar 1) dNil)))))) dNil))))
def rd_l_standing : TSd := (dSeq (dSet 4 (dCall F_l_mixed 2 (dCons (dVar 0) (dCons (dFz (dListRng (dOp fAdd (dVar 1) (dVar 2)))) dNil)))) (dSeq (dPar3 5 6 7 (dFz (dN fSorted (dCons (dFz (dCut (dVar 4) dONone (dOSome (dVar 1)))) dNil))) (dLst dNil) (dLst dNil)) (dSeq (dFor (dIRng (dOp fAdd (dVar 1) (dVar 2))) (dgName 8) (dSeq (dDrop (dAppend 6 (dIf (dB (dOp fIn (dVar 8) (dVar 5))) (dCall F_l_fields 2 (dCons (dVar 0) (dCons (dVar 5) dNil))) (dTup dNil)))) (dDrop (dAppend 7 (dIf (dB (dOp fIn (dVar 8) (dVar 5))) (dCall F_l_mark 2 (dCons (dVar 0) (dCons (dOpL 6 fIx (dVar 8)) dNil))) (dK (.str "free"))))))) (dSeq (dSet 9 (dCall F_l_hands 3 (dCons (dVar 0) (dCons (dVar 5) (dCons (dVar 3) dNil))))) (dRet (dTup (dCons (dN1 fTuple 6) (dCons (dN1 fTuple 7) (dCons (dVar 9) (dCons (dN fTuple (dCons (dFz (dLc (dISeq (dVar 9)) [10] (dgName 10) dYes (dOp fEq (dCall F_l_draw 2 (dCons (dVar 0) (dCons (dK (.int 2)) dNil))) (dK (.int 0))))) dNil)) dNil))))))))))
def rd_l_depths : TSd := (dSeq (dPar3 2 3 4 (dLst dNil) dNewD (dK (.int 2))) (dSeq (dFor (dISeq (dVar 1)) (dgName 5) (dDrop (dExtend 2 (dFz (dLc (dISeq (dVar 5)) [8] (dgName 8) (dB (dOp fIsNot (dVar 8) (dK .none))) (dVar 8)))))) (dFixS 2 (dSeq (dWhile (dB (dOp fNe (dVar 2) (dFz (dLst dNil)))) (dSeq (dSet 6 (dLst dNil)) (dSeq (dFor (dISeq (dVar 2)) (dgName 7) (dIfS (dB (dKdO gNotIn (dVar 7) 3)) (dSeq (dPutO 3 (dVar 7) (dVar 4)) (dDrop (dExtend 6 (dFz (dLc (dISeq (dOp fIx (dVar 0) (dVar 7))) [8] (dgName 8) (dB (dOp fIsNot (dVar 8) (dK .none))) (dVar 8)))))) dNext)) (dFixS 6 (dPar 2 4 (dVar 6) (dFz (dOp fAdd (dVar 4) (dK (.int 1))))))))) (dFixK 3 (dRet (dVar 3)))))))
def rd_p_ways_of_held : TSd := (dSeq (dSet 1 dNewD) (dSeq (dFor (dIEnum (dVar 0)) (dgTup 2 (dgCons (dgName 2) (dgCons (dgName 3) dgNil))) (dFor (dIEnum (dVar 3)) (dgTup 2 (dgCons (dgName 4) (dgCons (dgName 5) dgNil))) (dIfS (dAnd (dB (dOp fIsNot (dVar 5) (dK .none))) (dB (dKdO gNotIn (dVar 5) 1))) (dPutO 1 (dVar 5) (dTup (dCons (dVar 2) (dCons (dVar 4) dNil)))) dNext))) (dRetO 1)))
def rd_p_ways : TSd := (dSeq (dAsg (dVar 0) (dgTup 4 (dgCons (dgName 1) (dgCons (dgName 2) (dgCons (dgName 3) (dgCons (dgName 2) dgNil)))))) (dSeq (dSet 4 (dCall F_p_ways_of_held 1 (dCons (dVar 3) dNil))) (dSeq (dSet 5 (dFz (ListD hList 4))) (dSeq (dWhile (dTr (dVar 5)) (dSeq (dSet 6 (dLst dNil)) (dSeq (dFor (dISeq (dVar 5)) (dgName 7) (dFor (dIEnum (dOp fIx (dVar 1) (dVar 7))) (dgTup 2 (dgCons (dgName 8) (dgCons (dgName 9) dgNil))) (dIfS (dAnd (dB (dOp fIsNot (dVar 9) (dK .none))) (dB (dKdO gNotIn (dVar 9) 4))) (dSeq (dPutO 4 (dVar 9) (dFz (dOp fAdd (dDkO gItem 4 (dVar 7)) (dTup (dCons (dVar 8) dNil))))) (dDrop (dAppend 6 (dVar 9)))) dNext))) (dFixS 6 (dSet 5 (dVar 6)))))) (dFixK 4 (dRet (dVar 4)))))))
def rd_way_to : TSd := (dRet (dDkF gGet (dCall F_p_ways 1 (dCons (dVar 0) dNil)) (dVar 1)))
def rd_l_is_way : TSd := (dSeq (dAsg (dVar 0) (dgTup 4 (dgCons (dgName 3) (dgCons (dgName 4) (dgCons (dgName 5) (dgCons (dgName 6) dgNil)))))) (dSeq (dIfS (dOr (dNot (dTr (dIsi "tuple" (dVar 1)))) (dB (dOp fLt (dN fLen (dCons (dVar 1) dNil)) (dK (.int 2))))) (dRet (dK (.bool false))) dNext) (dSeq (dIfS (dB (dOp fNe (dFz (dLc (dISeq (dVar 1)) [9] (dgName 9) (dOr (dNot (dTr (dIsi "int" (dVar 9)))) (dOr (dTr (dIsi "bool" (dVar 9))) (dB (dOp fLt (dVar 9) (dK (.int 0)))))) (dK (.int 1)))) (dFz (dLst dNil)))) (dRet (dK (.bool false))) dNext) (dSeq (dIfS (dOr (dB (dOp fGe (dOp fIx (dVar 1) (dK (.int 0))) (dN fLen (dCons (dVar 5) dNil)))) (dB (dOp fGe (dOp fIx (dVar 1) (dK (.int 1))) (dN fLen (dCons (dOp fIx (dVar 5) (dOp fIx (dVar 1) (dK (.int 0)))) dNil))))) (dRet (dK (.bool false))) dNext) (dSeq (dSet 7 (dOp fIx (dOp fIx (dVar 5) (dOp fIx (dVar 1) (dK (.int 0)))) (dOp fIx (dVar 1) (dK (.int 1))))) (dSeq (dFor (dISeq (dFz (dCut (dVar 1) (dOSome (dK (.int 2))) dONone))) (dgName 8) (dSeq (dIfS (dOr (dB (dOp fIs (dVar 7) (dK .none))) (dB (dOp fGe (dVar 8) (dN fLen (dCons (dOp fIx (dVar 3) (dVar 7)) dNil))))) (dRet (dK (.bool false))) dNext) (dSet 7 (dOp fIx (dOp fIx (dVar 3) (dVar 7)) (dVar 8))))) (dRet (dOp fEq (dVar 7) (dVar 2)))))))))
def rd_l_is_told : TSd := (dSeq (dSet 4 (dN fRepr (dCons (dVar 0) dNil))) (dSeq (dSet 5 (dIf (dTr (dVar 3)) (dCallK F_way_to 2 (fun ss => pick [1, 0] ss) (dCons (dVar 1) (dCons (dVar 0) dNil))) (dCall F_way_to 2 (dCons (dVar 0) (dCons (dVar 1) dNil))))) (dSeq (dIfS (dOr (dB (dOp fNe (dN fRepr (dCons (dCall F_way_to 2 (dCons (dVar 0) (dCons (dVar 1) dNil))) dNil)) (dN fRepr (dCons (dVar 5) dNil)))) (dB (dOp fNe (dN fRepr (dCons (dVar 0) dNil)) (dVar 4)))) (dRet (dK (.bool false))) dNext) (dSeq (dIfS (dOr (dB (dOp fIs (dVar 2) (dK .none))) (dB (dOp fIs (dVar 5) (dK .none)))) (dRet (dAndV (dOp fIs (dVar 2) (dK .none)) (dOp fIs (dVar 5) (dK .none)))) dNext) (dRet (dAndV (dCall F_l_is_way 3 (dCons (dVar 0) (dCons (dVar 5) (dCons (dVar 1) dNil)))) (dAndV (dOp fEq (dN fLen (dCons (dVar 5) dNil)) (dVar 2)) (dOp fLe (dVar 2) (dFz (dOp fAdd (dN fLen (dCons (dOp fIx (dVar 0) (dK (.int 0))) dNil)) (dK (.int 1))))))))))))
def rd_l_are_told : TSd := (dSeq (dPar 3 4 (dCall F_l_depths 2 (dCons (dOp fIx (dVar 1) (dK (.int 0))) (dCons (dOp fIx (dVar 1) (dK (.int 2))) dNil))) (dCall F_l_draw 2 (dCons (dVar 0) (dCons (dK (.int 5)) dNil)))) (dSeq (dFor (dIEnum (dVar 2)) (dgTup 2 (dgCons (dgName 5) (dgCons (dgName 6) dgNil))) (dIfS (dNot (dTr (dCall F_l_is_told 4 (dCons (dVar 1) (dCons (dVar 6) (dCons (dDkF gGet (dVar 3) (dVar 6)) (dCons (dOp fEq (dVar 5) (dVar 4)) dNil))))))) (dRet (dK (.bool false))) dNext)) (dRet (dK (.bool true)))))
def rd_law : TSd := (dSeq (dSet 1 (dCall F_l_deck 1 (dCons (dVar 0) dNil))) (dSeq (dFor (dIRng (dK (.int 8))) (dgName 2) (dSeq (dSet 3 (dCall F_l_standing 4 (dCons (dVar 1) (dCons (dCall F_l_pick 2 (dCons (dVar 1) (dCons (dFz (dLst (dCons (dK (.int 0)) (dCons (dK (.int 1)) (dCons (dK (.int 2)) (dCons (dK (.int 3)) (dCons (dK (.int 5)) (dCons (dK (.int 8)) dNil)))))))) dNil))) (dCons (dCall F_l_draw 2 (dCons (dVar 1) (dCons (dK (.int 3)) dNil))) (dCons (dK (.int 4)) dNil)))))) (dIfS (dNot (dTr (dCall F_l_are_told 3 (dCons (dVar 1) (dCons (dVar 3) (dCons (dFz (dListRng (dN fLen (dCons (dOp fIx (dVar 3) (dK (.int 0))) dNil)))) dNil)))))) (dRet (dK (.bool false))) dNext))) (dSeq (dAsg (dCall F_l_row 2 (dCons (dVar 1) (dCons (dK (.int 40)) dNil))) (dgTup 2 (dgCons (dgName 4) (dgCons (dgName 5) dgNil)))) (dSeq (dIfS (dNot (dTr (dCall F_l_are_told 3 (dCons (dVar 1) (dCons (dVar 4) (dCons (dFz (dLst (dCons (dOp fIx (dVar 5) (dNeg (dK (.int 1)))) (dCons (dOp fIx (dVar 5) (dK (.int 0))) (dCons (dOp fIx (dVar 5) (dK (.int 1))) (dCons (dOp fIx (dVar 5) (dK (.int 20))) dNil)))))) dNil)))))) (dRet (dK (.bool false))) dNext) (dSeq (dSet 3 (dCall F_l_standing 4 (dCons (dVar 1) (dCons (dK (.int 30)) (dCons (dK (.int 4)) (dCons (dK (.int 3)) dNil)))))) (dRet (dCall F_l_are_told 3 (dCons (dVar 1) (dCons (dVar 3) (dCons (dFz (dCut (dCall F_l_mixed 2 (dCons (dVar 1) (dCons (dFz (dListRng (dK (.int 34)))) dNil))) dONone (dOSome (dK (.int 5))))) dNil))))))))))
abbrev Jr (P : Program) (w : World) (K : PySem.W.Frag) : Jar := mkJar K (StoOk P w "deep" ["state"]) sto_keep
end GK

set_option maxRecDepth 100000
namespace GK
open PySem PySem.Spec PyProof.Rows L2 GB
theorem s_draw {k : S → Prop} {m : Int} : F_l_draw [.ob .jar, .d (.int m)] k ↔ m < 1073741824 ∧ ∀ r : Int, 0 ≤ r → (1 ≤ m → r < m) → k (.d (.int r)) := by simp [F_l_draw]
theorem s_pick {k : S → Prop} {xs : List PyData} : F_l_pick [.ob .jar, .d (.list xs)] k ↔ xs ≠ [] ∧ xs.length < 1000 ∧ ∀ x ∈ xs, k (.d x) := by simp [F_l_pick]
theorem ma_l_draw : ∀ ss R, ss.length = 2 → F_l_draw ss R → rd_l_draw { nx := fun _ => R (.d .none), rt := R } (ss ++ List.replicate 3 .un) := by
  rintro _ R - ⟨m, rfl, h1, q⟩
  unfold rd_l_draw
  simp only [dRet, dSeq, dNext, dSet, dDrop, dIfS, dPar, dOp, dN, dN1, dB, dNot, dAnd, dOr, dAndV, dOrV, dNotV, dIsi, dVar, dK, dFz, dFixS, dTup, dLst, dCons, dNil, dCall, dCallK, dChain, dIf, dNeg, dFor, dIEnum, dIRng, dISeq, dgName, dgTup_tup, dgCons_cons, dgNil_nil, and_assoc, eqOk_str, eqOk_int, eqOk_bool, str_eqv, int_eqv, tup_nil_eqv, lst_nil_eqv, fEq, fNe, fRepr, pick, fMul, fPow, dCut, fCut, rep_flat, dLc, dLcGo, dYes, dJInt, dJPut, dJPop, dDict0, dDict1, dListRng, dOpL, dOpR, dAppend, dPutAt, dOSome, dONone, fI2, fAdd, fLen, fTuple, fList, fInt, fIx, fIs, fIsNot, S.firm, S.fz, List.length_cons, List.length_nil, ex_nil, ex_cons, Option.some.injEq, S.d.injEq, S.ow.injEq, Ow.l.injEq, PyData.int.injEq, PyData.bool.injEq, PyData.tuple.injEq, PyData.list.injEq, PyData.str.injEq, exists_eq_left', exists_eq_left, exists_eq_right, exists_and_left, exists_eq, true_and, and_true, List.append_eq, List.cons_append, List.nil_append, List.append_nil, List.replicate, List.getElem?_cons_zero, List.getElem?_cons_succ, List.set_cons_zero, List.set_cons_succ, Nat.zero_add, Nat.reduceAdd, List.cons.injEq, Bool.not_true, Bool.not_false, if_true, if_false, Bool.false_eq_true, ↓reduceIte, reduceCtorEq, false_or, or_false, false_and, and_false, exists_false]
  refine ite2 (fun h => q 0 (by omega) fun z => by simp only [decide_eq_true_eq] at h; omega) fun h => ?_
  have hm : 0 < m := by simp only [decide_eq_true_eq] at h; omega
  have ok : ∀ n : Int, R (.d (.int (n % m))) := fun n => q _ (Int.emod_nonneg _ (by omega)) fun _ => Int.emod_lt_of_pos _ hm
  refine ⟨hm, h1, by decide, by decide, by decide, fun n => ⟨hm, ok _⟩, fun n => ?_⟩
  refine ⟨cmul_r (by decide) (by decide), by decide, cmul_r ?_ ?_, cmul_l (by decide) (by decide), by decide, by decide, pow2000 (by decide), hm, ok _⟩
  · have := Int.emod_nonneg (n * 1181783497276652981 + 88172645463325) (show (2305843009213693951 : Int) ≠ 0 by decide); omega
  · have := Int.emod_lt_of_pos (n * 1181783497276652981 + 88172645463325) (show (0 : Int) < 2305843009213693951 by decide); omega
theorem ma_l_pick : ∀ ss R, ss.length = 2 → F_l_pick ss R → rd_l_pick { nx := fun _ => R (.d .none), rt := R } (ss ++ List.replicate 0 .un) := by
  rintro _ R - ⟨xs, rfl, h0, h1, q⟩
  have hl : 0 < xs.length := List.length_pos_iff.mpr h0
  unfold rd_l_pick
  simp only [↓at0, ↓set0, ↓at1, ↓set1, ↓at2, ↓set2, ↓at3, ↓set3, ↓at4, ↓set4, ↓at5, ↓set5, ↓at6, ↓set6, ↓at7, ↓set7, ↓at8, ↓set8, ↓at9, ↓set9, ↓at10, ↓set10, ↓at11, ↓set11, ↓at12, ↓set12, ↓at13, ↓set13, ↓at14, ↓set14, ↓at15, ↓set15, ↓fz_d, ↓fz_own, ↓fz_ob, ↓one_d, ↓int_d, ↓bool_d, ↓own_o, ↓ds_nil, ↓ds_cons, ↓seq_l, ↓seq_t, ↓ite_t, ↓ite_f, ↓e_next, ↓e_seq, ↓e_set, ↓e_drop, ↓e_ret, ↓e_ifs, ↓e_brk, ↓e_cnt, ↓e_fixs, ↓e_par, ↓e_par3, ↓e_asg, ↓e_for, ↓e_putAt, ↓e_jput, ↓e_var, ↓e_k, ↓e_fz, ↓e_op, ↓e_opL, ↓e_opR, ↓e_n, ↓e_n1, ↓e_nil, ↓e_cons, ↓e_tup, ↓e_lst, ↓e_b, ↓e_not, ↓e_and, ↓e_or, ↓e_andV, ↓e_orV, ↓e_notV, ↓e_if, ↓e_isi, ↓e_neg, ↓e_chain, ↓e_call, ↓e_callK, ↓e_jint, ↓e_dict0, ↓e_dict1, ↓e_listRng, ↓e_append, ↓e_cut, ↓e_cutO, ↓e_onone, ↓e_osome, ↓e_iseq, ↓e_ienum, ↓e_irng, ↓e_gname, ↓e_lnil, ↓e_lcons, ↓e_lc, ↓e_yes, ↓f_addI, ↓f_addS, ↓f_addT, ↓f_addL, ↓f_i2, ↓f_mulI, ↓f_mulT, ↓f_mulL, ↓f_eq, ↓f_ne, ↓f_is, ↓f_isnot, ↓f_in, ↓f_notin, ↓f_ixL, ↓f_ixT, ↓f_lenL, ↓f_lenT, ↓f_lenS, ↓f_abs, ↓f_intI, ↓f_intB, ↓f_tupL, ↓f_tupT, ↓f_lstL, ↓f_lstT, ↓f_repr, ↓f_cutL, ↓f_cutT, ↓firm_d, ↓firm_ob, ↓zip_l, ↓zip_t, ↓e_izip, ↓zip_cons, ↓zip_nil1, ↓zip_nil2, ↓f_sorted, ↓e_lcn, ↓e_lcc, ↓e_inn, ↓e_inc, ↓e_l2n, ↓e_l2c, ↓e_lc2, ↓e_rev, ↓e_pop, ↓e_popAt, ↓e_extend, ↓e_lc3, ↓e_gon, ↓e_goc, ↓e_dbMid, ↓e_dbIn, ↓f_neu, ↓e_ifT, ↓e_newD, ↓e_retO, ↓e_fixK, ↓e_putO, ↓e_dkO, ↓e_dkF, ↓e_kdO, ↓e_kdF, ↓e_get2O, ↓e_get2F, ↓e_ListD, ↓e_ListF, ↓od_o, ↓dct_d, ↓key_int, ↓key_str, ↓g_item, ↓g_get, ↓g_in, ↓g_notin, ↓h_list, ↓fz_od, ↓ow_ex, ↓e_tr, ↓e_trO, ↓e_trK, ↓tru_b, ↓tru_n, ↓tru_i, ↓tru_l, ↓tru_t, ↓tru_s, ↓e_i63, ↓n63_d, ↓e_ss, ↓dgTup_tup, ↓dgCons_cons, ↓dgNil_nil, ite_t, ite_f, itK_not, List.cons_append, List.nil_append, List.append_nil, List.replicate, List.flatten_cons, List.flatten_nil, List.append_eq, List.length_cons, List.length_nil, Nat.zero_add, Nat.reduceAdd, true_and, and_true, eqOk_str, eqOk_int, eqOk_bool, str_eqv, int_eqv, tup_nil_eqv, lst_nil_eqv, rep_flat, isK_int, isK_bool, isK_tuple, isK_str, kInt, kBool, kTuple, kStr, GB.isNon, Bool.not_true, Bool.not_false, Bool.or_false, Bool.or_true, Bool.false_or, Bool.true_or, reduceCtorEq, ↓s_draw]
  refine ⟨by omega, fun r h2 h3 => ?_⟩
  have h3 := h3 (by omega)
  obtain ⟨v, e, hv⟩ := atI_mem (xs := xs) h2 (by omega)
  exact ⟨v, e, q v hv⟩
theorem ma_l_mixed : ∀ ss R, ss.length = 2 → F_l_mixed ss R → rd_l_mixed { nx := fun _ => R (.d .none), rt := R } (ss ++ List.replicate 2 .un) := by
  rintro _ R - ⟨xs, rfl, h, hx, q⟩
  unfold rd_l_mixed
  simp only [↓at0, ↓set0, ↓at1, ↓set1, ↓at2, ↓set2, ↓at3, ↓set3, ↓at4, ↓set4, ↓at5, ↓set5, ↓at6, ↓set6, ↓at7, ↓set7, ↓at8, ↓set8, ↓at9, ↓set9, ↓at10, ↓set10, ↓at11, ↓set11, ↓at12, ↓set12, ↓at13, ↓set13, ↓at14, ↓set14, ↓at15, ↓set15, ↓fz_d, ↓fz_own, ↓fz_ob, ↓one_d, ↓int_d, ↓bool_d, ↓own_o, ↓ds_nil, ↓ds_cons, ↓seq_l, ↓seq_t, ↓ite_t, ↓ite_f, ↓e_next, ↓e_seq, ↓e_set, ↓e_drop, ↓e_ret, ↓e_ifs, ↓e_brk, ↓e_cnt, ↓e_fixs, ↓e_par, ↓e_par3, ↓e_asg, ↓e_for, ↓e_putAt, ↓e_jput, ↓e_var, ↓e_k, ↓e_fz, ↓e_op, ↓e_opL, ↓e_opR, ↓e_n, ↓e_n1, ↓e_nil, ↓e_cons, ↓e_tup, ↓e_lst, ↓e_b, ↓e_not, ↓e_and, ↓e_or, ↓e_andV, ↓e_orV, ↓e_notV, ↓e_if, ↓e_isi, ↓e_neg, ↓e_chain, ↓e_call, ↓e_callK, ↓e_jint, ↓e_dict0, ↓e_dict1, ↓e_listRng, ↓e_append, ↓e_cut, ↓e_cutO, ↓e_onone, ↓e_osome, ↓e_iseq, ↓e_ienum, ↓e_irng, ↓e_gname, ↓e_lnil, ↓e_lcons, ↓e_lc, ↓e_yes, ↓f_addI, ↓f_addS, ↓f_addT, ↓f_addL, ↓f_i2, ↓f_mulI, ↓f_mulT, ↓f_mulL, ↓f_eq, ↓f_ne, ↓f_is, ↓f_isnot, ↓f_in, ↓f_notin, ↓f_ixL, ↓f_ixT, ↓f_lenL, ↓f_lenT, ↓f_lenS, ↓f_abs, ↓f_intI, ↓f_intB, ↓f_tupL, ↓f_tupT, ↓f_lstL, ↓f_lstT, ↓f_repr, ↓f_cutL, ↓f_cutT, ↓firm_d, ↓firm_ob, ↓zip_l, ↓zip_t, ↓e_izip, ↓zip_cons, ↓zip_nil1, ↓zip_nil2, ↓f_sorted, ↓e_lcn, ↓e_lcc, ↓e_inn, ↓e_inc, ↓e_l2n, ↓e_l2c, ↓e_lc2, ↓e_rev, ↓e_pop, ↓e_popAt, ↓e_extend, ↓e_lc3, ↓e_gon, ↓e_goc, ↓e_dbMid, ↓e_dbIn, ↓f_neu, ↓e_ifT, ↓e_newD, ↓e_retO, ↓e_fixK, ↓e_putO, ↓e_dkO, ↓e_dkF, ↓e_kdO, ↓e_kdF, ↓e_get2O, ↓e_get2F, ↓e_ListD, ↓e_ListF, ↓od_o, ↓dct_d, ↓key_int, ↓key_str, ↓g_item, ↓g_get, ↓g_in, ↓g_notin, ↓h_list, ↓fz_od, ↓ow_ex, ↓e_tr, ↓e_trO, ↓e_trK, ↓tru_b, ↓tru_n, ↓tru_i, ↓tru_l, ↓tru_t, ↓tru_s, ↓e_i63, ↓n63_d, ↓e_ss, ↓dgTup_tup, ↓dgCons_cons, ↓dgNil_nil, ite_t, ite_f, itK_not, List.cons_append, List.nil_append, List.append_nil, List.replicate, List.flatten_cons, List.flatten_nil, List.append_eq, List.length_cons, List.length_nil, Nat.zero_add, Nat.reduceAdd, true_and, and_true, eqOk_str, eqOk_int, eqOk_bool, str_eqv, int_eqv, tup_nil_eqv, lst_nil_eqv, rep_flat, isK_int, isK_bool, isK_tuple, isK_str, kInt, kBool, kTuple, kStr, GB.isNon, Bool.not_true, Bool.not_false, Bool.or_false, Bool.or_true, Bool.false_or, Bool.true_or, reduceCtorEq]
  refine ⟨by decide, fun m ρ => ∃ rest found : List PyData, ρ = [S.ob Tk.jar, S.d (PyData.list xs), S.own rest, S.own found] ∧ m = rest.length ∧ (found ++ rest).Perm xs, ⟨xs.length, xs, [], rfl, rfl, List.Perm.refl _⟩, ?_⟩
  rintro m _ ⟨rest, found, rfl, rfl, pm⟩
  have mem : ∀ x ∈ rest, x.canLay0 = true ∧ x.depth ≤ 20 := fun x hr => hx x (pm.mem_iff.mp (by simp [hr]))
  have len : found.length + rest.length = xs.length := by have := pm.length_eq; simpa using this
  simp only [↓at0, ↓set0, ↓at1, ↓set1, ↓at2, ↓set2, ↓at3, ↓set3, ↓at4, ↓set4, ↓at5, ↓set5, ↓at6, ↓set6, ↓at7, ↓set7, ↓at8, ↓set8, ↓at9, ↓set9, ↓at10, ↓set10, ↓at11, ↓set11, ↓at12, ↓set12, ↓at13, ↓set13, ↓at14, ↓set14, ↓at15, ↓set15, ↓fz_d, ↓fz_own, ↓fz_ob, ↓one_d, ↓int_d, ↓bool_d, ↓own_o, ↓ds_nil, ↓ds_cons, ↓seq_l, ↓seq_t, ↓ite_t, ↓ite_f, ↓e_next, ↓e_seq, ↓e_set, ↓e_drop, ↓e_ret, ↓e_ifs, ↓e_brk, ↓e_cnt, ↓e_fixs, ↓e_par, ↓e_par3, ↓e_asg, ↓e_for, ↓e_putAt, ↓e_jput, ↓e_var, ↓e_k, ↓e_fz, ↓e_op, ↓e_opL, ↓e_opR, ↓e_n, ↓e_n1, ↓e_nil, ↓e_cons, ↓e_tup, ↓e_lst, ↓e_b, ↓e_not, ↓e_and, ↓e_or, ↓e_andV, ↓e_orV, ↓e_notV, ↓e_if, ↓e_isi, ↓e_neg, ↓e_chain, ↓e_call, ↓e_callK, ↓e_jint, ↓e_dict0, ↓e_dict1, ↓e_listRng, ↓e_append, ↓e_cut, ↓e_cutO, ↓e_onone, ↓e_osome, ↓e_iseq, ↓e_ienum, ↓e_irng, ↓e_gname, ↓e_lnil, ↓e_lcons, ↓e_lc, ↓e_yes, ↓f_addI, ↓f_addS, ↓f_addT, ↓f_addL, ↓f_i2, ↓f_mulI, ↓f_mulT, ↓f_mulL, ↓f_eq, ↓f_ne, ↓f_is, ↓f_isnot, ↓f_in, ↓f_notin, ↓f_ixL, ↓f_ixT, ↓f_lenL, ↓f_lenT, ↓f_lenS, ↓f_abs, ↓f_intI, ↓f_intB, ↓f_tupL, ↓f_tupT, ↓f_lstL, ↓f_lstT, ↓f_repr, ↓f_cutL, ↓f_cutT, ↓firm_d, ↓firm_ob, ↓zip_l, ↓zip_t, ↓e_izip, ↓zip_cons, ↓zip_nil1, ↓zip_nil2, ↓f_sorted, ↓e_lcn, ↓e_lcc, ↓e_inn, ↓e_inc, ↓e_l2n, ↓e_l2c, ↓e_lc2, ↓e_rev, ↓e_pop, ↓e_popAt, ↓e_extend, ↓e_lc3, ↓e_gon, ↓e_goc, ↓e_dbMid, ↓e_dbIn, ↓f_neu, ↓e_ifT, ↓e_newD, ↓e_retO, ↓e_fixK, ↓e_putO, ↓e_dkO, ↓e_dkF, ↓e_kdO, ↓e_kdF, ↓e_get2O, ↓e_get2F, ↓e_ListD, ↓e_ListF, ↓od_o, ↓dct_d, ↓key_int, ↓key_str, ↓g_item, ↓g_get, ↓g_in, ↓g_notin, ↓h_list, ↓fz_od, ↓ow_ex, ↓e_tr, ↓e_trO, ↓e_trK, ↓tru_b, ↓tru_n, ↓tru_i, ↓tru_l, ↓tru_t, ↓tru_s, ↓e_i63, ↓n63_d, ↓e_ss, ↓dgTup_tup, ↓dgCons_cons, ↓dgNil_nil, ite_t, ite_f, itK_not, List.cons_append, List.nil_append, List.append_nil, List.replicate, List.flatten_cons, List.flatten_nil, List.append_eq, List.length_cons, List.length_nil, Nat.zero_add, Nat.reduceAdd, true_and, and_true, eqOk_str, eqOk_int, eqOk_bool, str_eqv, int_eqv, tup_nil_eqv, lst_nil_eqv, rep_flat, isK_int, isK_bool, isK_tuple, isK_str, kInt, kBool, kTuple, kStr, GB.isNon, Bool.not_true, Bool.not_false, Bool.or_false, Bool.or_true, Bool.false_or, Bool.true_or, reduceCtorEq]
  refine ⟨by decide, list_eqOk mem (fun _ h => (nomatch h)), ?_⟩
  cases rest with
  | nil =>
    exact q _ (by simpa using pm)
  | cons y rest =>
    simp only [List.isEmpty_cons, Bool.not_false, if_true]
    simp only [↓at0, ↓set0, ↓at1, ↓set1, ↓at2, ↓set2, ↓at3, ↓set3, ↓at4, ↓set4, ↓at5, ↓set5, ↓at6, ↓set6, ↓at7, ↓set7, ↓at8, ↓set8, ↓at9, ↓set9, ↓at10, ↓set10, ↓at11, ↓set11, ↓at12, ↓set12, ↓at13, ↓set13, ↓at14, ↓set14, ↓at15, ↓set15, ↓fz_d, ↓fz_own, ↓fz_ob, ↓one_d, ↓int_d, ↓bool_d, ↓own_o, ↓ds_nil, ↓ds_cons, ↓seq_l, ↓seq_t, ↓ite_t, ↓ite_f, ↓e_next, ↓e_seq, ↓e_set, ↓e_drop, ↓e_ret, ↓e_ifs, ↓e_brk, ↓e_cnt, ↓e_fixs, ↓e_par, ↓e_par3, ↓e_asg, ↓e_for, ↓e_putAt, ↓e_jput, ↓e_var, ↓e_k, ↓e_fz, ↓e_op, ↓e_opL, ↓e_opR, ↓e_n, ↓e_n1, ↓e_nil, ↓e_cons, ↓e_tup, ↓e_lst, ↓e_b, ↓e_not, ↓e_and, ↓e_or, ↓e_andV, ↓e_orV, ↓e_notV, ↓e_if, ↓e_isi, ↓e_neg, ↓e_chain, ↓e_call, ↓e_callK, ↓e_jint, ↓e_dict0, ↓e_dict1, ↓e_listRng, ↓e_append, ↓e_cut, ↓e_cutO, ↓e_onone, ↓e_osome, ↓e_iseq, ↓e_ienum, ↓e_irng, ↓e_gname, ↓e_lnil, ↓e_lcons, ↓e_lc, ↓e_yes, ↓f_addI, ↓f_addS, ↓f_addT, ↓f_addL, ↓f_i2, ↓f_mulI, ↓f_mulT, ↓f_mulL, ↓f_eq, ↓f_ne, ↓f_is, ↓f_isnot, ↓f_in, ↓f_notin, ↓f_ixL, ↓f_ixT, ↓f_lenL, ↓f_lenT, ↓f_lenS, ↓f_abs, ↓f_intI, ↓f_intB, ↓f_tupL, ↓f_tupT, ↓f_lstL, ↓f_lstT, ↓f_repr, ↓f_cutL, ↓f_cutT, ↓firm_d, ↓firm_ob, ↓zip_l, ↓zip_t, ↓e_izip, ↓zip_cons, ↓zip_nil1, ↓zip_nil2, ↓f_sorted, ↓e_lcn, ↓e_lcc, ↓e_inn, ↓e_inc, ↓e_l2n, ↓e_l2c, ↓e_lc2, ↓e_rev, ↓e_pop, ↓e_popAt, ↓e_extend, ↓e_lc3, ↓e_gon, ↓e_goc, ↓e_dbMid, ↓e_dbIn, ↓f_neu, ↓e_ifT, ↓e_newD, ↓e_retO, ↓e_fixK, ↓e_putO, ↓e_dkO, ↓e_dkF, ↓e_kdO, ↓e_kdF, ↓e_get2O, ↓e_get2F, ↓e_ListD, ↓e_ListF, ↓od_o, ↓dct_d, ↓key_int, ↓key_str, ↓g_item, ↓g_get, ↓g_in, ↓g_notin, ↓h_list, ↓fz_od, ↓ow_ex, ↓e_tr, ↓e_trO, ↓e_trK, ↓tru_b, ↓tru_n, ↓tru_i, ↓tru_l, ↓tru_t, ↓tru_s, ↓e_i63, ↓n63_d, ↓e_ss, ↓dgTup_tup, ↓dgCons_cons, ↓dgNil_nil, ite_t, ite_f, itK_not, List.cons_append, List.nil_append, List.append_nil, List.replicate, List.flatten_cons, List.flatten_nil, List.append_eq, List.length_cons, List.length_nil, Nat.zero_add, Nat.reduceAdd, true_and, and_true, eqOk_str, eqOk_int, eqOk_bool, str_eqv, int_eqv, tup_nil_eqv, lst_nil_eqv, rep_flat, isK_int, isK_bool, isK_tuple, isK_str, kInt, kBool, kTuple, kStr, GB.isNon, Bool.not_true, Bool.not_false, Bool.or_false, Bool.or_true, Bool.false_or, Bool.true_or, reduceCtorEq, ↓s_draw]
    have len2 : found.length + (rest.length + 1) = xs.length := by simpa using len
    refine ⟨by omega, fun r r0 r1 => ?_⟩
    have r1 := r1 (by omega)
    have hr : r.toNat < (y :: rest).length := by simp; omega
    refine ⟨by omega, by omega, r.toNat, (y :: rest)[r.toNat], ?_, List.getElem?_eq_getElem hr, Nat.lt_of_le_of_lt (show found.length ≤ 1000 by omega) (by decide), rest.length, by omega, (y :: rest).eraseIdx r.toNat, found ++ [(y :: rest)[r.toNat]], rfl, ?_, ?_⟩
    · unfold seqIndex?
      simp only [List.length_cons] at hr
      simp; omega
    · rw [List.length_eraseIdx, if_pos hr]; simp
    · rw [List.append_assoc]
      exact ((pick_perm _ _ hr).append_left found).trans pm
/-- lists of things that are all so -/
theorem all_run {P : PyData → Prop} {ds : List PyData} {R : List PyData → Prop} {g : DTG} {tt : TTd} {te : TEd} {ρ : GB.En} {vs : List Nat} (hn : ∀ acc : List PyData, acc.length = ds.length → (∀ x ∈ acc, P x) → R acc)
    (hc : ∀ d ∈ ds, ∀ (acc : List PyData) (K : List PyData → Prop), (∀ x, P x → K (acc ++ [x])) → g d ρ fun ρ2 => wipeD ρ2 vs = ρ ∧ tt ρ2 fun b ρ3 => ρ3 = ρ2 ∧ iteK b (te ρ2 fun s ρ4 => ρ4 = ρ2 ∧ oneK s fun y => K (acc ++ [y])) (K acc)) :
    dLcGo vs g tt te ρ R ds [] := by
  refine lcI (fun es acc => (∀ d ∈ es, d ∈ ds) ∧ acc.length + es.length = ds.length ∧ ∀ x ∈ acc, P x) ?_ ?_ ds [] ⟨fun _ h => h, by simp, fun _ h => nomatch h⟩
  · rintro acc ⟨_, h1, h2⟩
    exact hn acc (by simpa using h1) h2
  · rintro d es acc K hK ⟨h0, h1, h2⟩
    refine hc d (h0 d (by simp)) acc K fun x hx => hK _ ⟨fun z hz => h0 z (by simp [hz]), by rw [List.length_append]; simp at h1 ⊢; omega, fun z hz => ?_⟩
    rcases List.mem_append.mp hz with hz | hz
    · exact h2 z hz
    · rw [List.mem_singleton.mp hz]; exact hx
theorem fld_of {n : Nat} {us : List PyData} (h : Cells n us) : ∀ x ∈ us ++ [.none], Fld n x := fun x hx => by
  rcases List.mem_append.mp hx with hx | hx
  · exact .inr (h x hx)
  · exact .inl (List.mem_singleton.mp hx)
theorem some_run {P : PyData → Prop} {ds : List PyData} {R : List PyData → Prop} {g : DTG} {tt : TTd} {te : TEd} {ρ : GB.En} {vs : List Nat} (hn : ∀ acc : List PyData, acc.length ≤ ds.length → (∀ x ∈ acc, P x) → R acc)
    (hc : ∀ d ∈ ds, ∀ (acc : List PyData) (K : List PyData → Prop), (∀ x, P x → K (acc ++ [x])) → K acc → g d ρ fun ρ2 => wipeD ρ2 vs = ρ ∧ tt ρ2 fun b ρ3 => ρ3 = ρ2 ∧ iteK b (te ρ2 fun s ρ4 => ρ4 = ρ2 ∧ oneK s fun y => K (acc ++ [y])) (K acc)) :
    dLcGo vs g tt te ρ R ds [] := by
  refine lcI (fun es acc => (∀ d ∈ es, d ∈ ds) ∧ acc.length + es.length ≤ ds.length ∧ ∀ x ∈ acc, P x) ?_ ?_ ds [] ⟨fun _ h => h, by simp, fun _ h => nomatch h⟩
  · rintro acc ⟨_, h1, h2⟩
    exact hn acc (by simpa using h1) h2
  · rintro d es acc K hK ⟨h0, h1, h2⟩
    refine hc d (h0 d (by simp)) acc K (fun x hx => hK _ ⟨fun z hz => h0 z (by simp [hz]), by rw [List.length_append]; simp at h1 ⊢; omega, fun z hz => ?_⟩) (hK _ ⟨fun z hz => h0 z (by simp [hz]), by simp at h1 ⊢; omega, h2⟩)
    rcases List.mem_append.mp hz with hz | hz
    · exact h2 z hz
    · rw [List.mem_singleton.mp hz]; exact hx
theorem irow_in {n : Nat} {x : PyData} (h : x ∈ irow 0 n) : ∃ i : Nat, x = .int i ∧ i < n := by
  unfold irow at h
  obtain ⟨i, h1, rfl⟩ := List.mem_map.mp h
  exact ⟨i, by simp, by simpa using h1⟩
theorem cells_in {n : Nat} {us : List PyData} (h : Cells n us) (k : Int) : ∃ b, inD (.int k) (.list us) = some b := by
  have h1 : SeqAt.shaped (.list us) = true := shp_list fun x hx => by
    obtain ⟨i, rfl, _⟩ := h x hx
    exact ⟨rfl, by simp [PyData.depth]⟩
  have h2 : SeqAt.shaped (.int k) = true := rfl
  exact ⟨_, if_pos ⟨h2, h1⟩⟩
theorem s_heap {k : S → Prop} {n m : Nat} {us : List PyData} (hn : n ≤ 60) (hu : us.length ≤ 60) (hc : Cells m us) (h : ∀ rows : List PyData, rows.length = n → (∀ x ∈ rows, Row m 3 x) → k (.d (.tuple rows))) : F_l_heap [.ob .jar, .d (.int n), .d (.list us)] k := ⟨n, m, us, rfl, hn, hu, hc, h⟩
theorem s_rooms {k : S → Prop} {n m : Nat} {us : List PyData} (hn : n ≤ 60) (hu : us.length ≤ 60) (hc : Cells m us) (h : ∀ rows : List PyData, rows.length = n → (∀ x ∈ rows, Row m 4 x) → k (.d (.tuple rows))) : F_l_rooms [.ob .jar, .d (.int n), .d (.list us)] k := ⟨n, m, us, rfl, hn, hu, hc, h⟩
theorem big {n : Nat} (h : n ≤ 60) : (n : Int) < 2 ^ 60 := Int.lt_of_lt_of_le (show (n : Int) < 61 by omega) (by decide)
theorem low {n : Nat} : (-2 ^ 60 : Int) < (n : Int) := Int.lt_of_lt_of_le (by decide : (-2 ^ 60 : Int) < 0) (by omega)
theorem inE' {x c : PyData} {v : Bool} {p : Bool → Prop} (e : inD x c = some v) : (∃ b, inD x c = some b ∧ p b) ↔ p v := ⟨fun ⟨_, h, q⟩ => by rw [e] at h; cases h; exact q, fun q => ⟨v, e, q⟩⟩
end GK

set_option maxRecDepth 100000
namespace GK
open PySem PySem.Spec PyProof.Rows L2 GB
structure Vy (D W : Nat) (x : PyData) : Prop where
  sh : x.showable = true
  ls : x.leavesShort 60 = true
  dp : x.depth ≤ D
  bk : x.bulk ≤ W
def vyB (D W : Nat) (x : PyData) : Bool := x.showable && x.leavesShort 60 && decide (x.depth ≤ D) && decide (x.bulk ≤ W)
theorem vy_of {D W : Nat} {x : PyData} (h : vyB D W x = true) : Vy D W x := by
  simp only [vyB, Bool.and_eq_true, decide_eq_true_eq] at h
  exact ⟨h.1.1.1, h.1.1.2, h.1.2, h.2⟩
theorem Vy.mono {D W D' W' : Nat} {x : PyData} (h : Vy D W x) (h1 : D ≤ D') (h2 : W ≤ W') : Vy D' W' x := ⟨h.sh, h.ls, Nat.le_trans h.dp h1, Nat.le_trans h.bk h2⟩
theorem vy_one {D W : Nat} {x : PyData} (h : Vy D W x) : Vy (D + 1) (W + 1) (.tuple [x]) := by
  refine ⟨by simp [PyData.showable, PyData.showableAll, h.sh], by simp [PyData.leavesShort, PyData.leavesShortAll, h.ls], ?_, ?_⟩
  · have := h.dp; simp only [PyData.depth, PyData.depthAll]; omega
  · have := h.bk; simp only [PyData.bulk, PyData.bulkAll]; omega
theorem vy_small {i : Nat} (h : i ≤ 60) : Vy 1 100 (.int i) := by
  have := List.all_eq_true.mp (show (List.range 61).all (fun i => vyB 1 100 (.int (i : Nat))) = true by decide +kernel) i (List.mem_range.mpr (by omega))
  exact vy_of this
/-! sizes, leaves below 60 -/
theorem Vy.fits {D W : Nat} {x : PyData} (h : Vy D W x) (hw : W ≤ 200000) : x.shown.length ≤ sizeLine := by
  have q := PyData.shown_le_bulk 60 (by decide) x h.ls
  have := h.bk
  have e : sizeLine = 16777216 := by decide
  rw [e]; omega
theorem vy_all {D W : Nat} : ∀ {xs : List PyData}, (∀ x ∈ xs, Vy D W x) → PyData.showableAll xs = true ∧ PyData.leavesShortAll 60 xs = true ∧ PyData.depthAll xs ≤ D ∧ PyData.bulkAll xs ≤ xs.length * (W + 1)
  | [], _ => ⟨rfl, rfl, by simp [PyData.depthAll], by simp [PyData.bulkAll]⟩
  | x :: xs, h => by
    have h0 := h x (by simp)
    obtain ⟨h1, h2, h3, h4⟩ := vy_all (xs := xs) fun y hy => h y (by simp [hy])
    refine ⟨by simp [PyData.showableAll, h0.sh, h1], by simp [PyData.leavesShortAll, h0.ls, h2], ?_, ?_⟩
    · have := h0.dp; simp only [PyData.depthAll]; omega
    · have := h0.bk
      simp only [PyData.bulkAll, List.length_cons]
      have e : (xs.length + 1) * (W + 1) = xs.length * (W + 1) + (W + 1) := by rw [Nat.add_mul, Nat.one_mul]
      rw [e]; omega
theorem vy_tup {D W n : Nat} {xs : List PyData} (h : ∀ x ∈ xs, Vy D W x) (hn : xs.length ≤ n) : Vy (D + 1) (n * (W + 1)) (.tuple xs) := by
  obtain ⟨h1, h2, h3, h4⟩ := vy_all h
  refine ⟨by simpa [PyData.showable] using h1, by simpa [PyData.leavesShort] using h2, by simp only [PyData.depth]; omega, ?_⟩
  simp only [PyData.bulk]
  exact Nat.le_trans h4 (Nat.mul_le_mul_right _ hn)
theorem vy_lst {D W n : Nat} {xs : List PyData} (h : ∀ x ∈ xs, Vy D W x) (hn : xs.length ≤ n) : Vy (D + 1) (n * (W + 1)) (.list xs) := by
  obtain ⟨h1, h2, h3, h4⟩ := vy_all h
  refine ⟨by simpa [PyData.showable] using h1, by simpa [PyData.leavesShort] using h2, by simp only [PyData.depth]; omega, ?_⟩
  simp only [PyData.bulk]
  exact Nat.le_trans h4 (Nat.mul_le_mul_right _ hn)
theorem fld_vy {n : Nat} (hn : n ≤ 60) {x : PyData} (h : Fld n x) : Vy 1 100 x := by
  rcases h with rfl | ⟨i, rfl, hi⟩
  · exact vy_of (by decide +kernel)
  · exact vy_small (by omega)
theorem mark_vy {fs : List PyData} (hf : fs.length ≤ 3) {x : PyData} (h : Mark fs x) : Vy 1 100 x := by
  rcases h with rfl | rfl | ⟨rfl, _⟩ | ⟨j, rfl, hj⟩
  · exact vy_of (by decide +kernel)
  · exact vy_of (by decide +kernel)
  · exact vy_of (by decide +kernel)
  · exact vy_small (by omega)
theorem st_vy {cs : List (List PyData × PyData)} {rm lk : List PyData} (hs : StOk cs) (hr : rm.length ≤ 60) (hr2 : ∀ x ∈ rm, Vy 2 500 x) (hl : lk.length ≤ 60) (hl2 : ∀ x ∈ lk, IsB x) : Vy 4 150000 (stD cs rm lk) := by
  have hn := hs.1
  have a : Vy 3 30600 (.tuple (cs.map fun c => .tuple c.1)) := (vy_tup (D := 2) (W := 303) (n := 60) (fun x hx => by
    obtain ⟨c, hc, rfl⟩ := List.mem_map.mp hx
    have k := hs.2 c hc
    exact (vy_tup (n := 3) (fun y hy => fld_vy hn (k.2.1 y hy)) k.1).mono (by decide) (by decide)) (by rw [List.length_map]; exact hn)).mono (by decide) (by decide)
  have b : Vy 3 30600 (.tuple (cs.map fun c => c.2)) := (vy_tup (D := 1) (W := 100) (n := 60) (fun x hx => by
    obtain ⟨c, hc, rfl⟩ := List.mem_map.mp hx
    have k := hs.2 c hc
    exact mark_vy k.1 k.2.2) (by rw [List.length_map]; exact hn)).mono (by decide) (by decide)
  have c : Vy 3 30600 (.tuple rm) := (vy_tup (n := 60) hr2 hr).mono (by decide) (by decide)
  have d : Vy 3 30600 (.tuple lk) := (vy_tup (D := 1) (W := 100) (n := 60) (fun x hx => by
    obtain ⟨v, rfl⟩ := hl2 x hx
    cases v <;> exact vy_of (by decide +kernel)) hl).mono (by decide) (by decide)
  exact (vy_tup (n := 4) (fun x hx => by
    simp only [List.mem_cons, List.not_mem_nil, or_false] at hx
    rcases hx with rfl | rfl | rfl | rfl <;> assumption) (by simp)).mono (by decide) (by decide)
theorem row_vy {n k : Nat} (hn : n ≤ 60) (hk : k ≤ 4) {x : PyData} (h : Row n k x) : Vy 2 500 x := by
  obtain ⟨xs, rfl, h1, h2⟩ := h
  exact (vy_tup (n := 4) (fun y hy => fld_vy hn (h2 y hy)) (by omega)).mono (by decide) (by decide)
end GK

set_option maxRecDepth 100000
namespace GK
open PySem PySem.Spec PyProof.Rows L2 GB
theorem s_draw' {k : S → Prop} {m : Int} : F_l_draw [.ob .jar, .d (.int m)] k ↔ m < 1073741824 ∧ ∀ r : Int, 0 ≤ r → (1 ≤ m → r < m) → k (.d (.int r)) := s_draw
theorem s_grey {k : S → Prop} {x : PyData} : F_p_is_grey [.d x] k ↔ k (.d (.bool (isK "int" x))) := by simp [F_p_is_grey]
theorem s_gone {k : S → Prop} {fs : List PyData} {mk : PyData} (hm : Mark fs mk) (h : k (.d (.tuple (goneF fs mk)))) : F_p_gone_through [.d (.tuple fs), .d mk] k := ⟨fs, mk, rfl, hm, h⟩
theorem mk_ix {cs : List (List PyData × PyData)} {i : Nat} (h : i < cs.length) {p : PyData → Prop} : (∃ v, atI (cs.map fun c => c.2) (i : Int) = some v ∧ p v) ↔ p (mkAt cs i) := by
  have e : (cs.map fun c => c.2)[i]? = some (mkAt cs i) := by
    rw [List.getElem?_map]
    unfold mkAt
    rw [List.getElem?_eq_getElem h]; rfl
  exact ixn (at_n e)
theorem fs_ix {cs : List (List PyData × PyData)} {i : Nat} (h : i < cs.length) {p : PyData → Prop} : (∃ v, atI (cs.map fun c => PyData.tuple c.1) (i : Int) = some v ∧ p v) ↔ p (.tuple (fsAt cs i)) := by
  have e : (cs.map fun c => PyData.tuple c.1)[i]? = some (.tuple (fsAt cs i)) := by
    rw [List.getElem?_map]
    unfold fsAt
    rw [List.getElem?_eq_getElem h]; rfl
  exact ixn (at_n e)
theorem at_cel {cs : List (List PyData × PyData)} (hs : StOk cs) {i : Nat} (h : i < cs.length) : (fsAt cs i).length ≤ 3 ∧ (∀ y ∈ fsAt cs i, Fld cs.length y) ∧ Mark (fsAt cs i) (mkAt cs i) := by
  have := hs.2 cs[i] (List.getElem_mem h)
  unfold fsAt mkAt
  rw [List.getElem?_eq_getElem h]
  exact this
theorem eqOk_mk {fs : List PyData} {mk : PyData} (hm : Mark fs mk) {z : Str} (hz : PyData.strOk z = true) : eqOk mk (.str z) = true := by
  rcases hm with rfl | rfl | ⟨rfl, _⟩ | ⟨j, rfl, hj⟩ <;> first | rfl | simp [eqOk, SeqAt.shaped, PyData.canLay0, PyData.depth, hz]
theorem blk_wh : PyData.eqv (.str "white") (.str "black") = false := by decide +kernel
theorem blk_bl : PyData.eqv (.str "black") (.str "black") = true := by decide +kernel
theorem blk_fr : PyData.eqv (.str "free") (.str "black") = false := by decide +kernel
theorem int_str {i : Int} {z : Str} : PyData.eqv (.int i) (.str z) = false := rfl
theorem gone_wh {fs : List PyData} : goneF fs (.str "white") = [] := by
  show (if (("white" : Str) == "black") = true then fs else []) = _
  rw [if_neg (by decide +kernel)]
theorem gone_bl {fs : List PyData} : goneF fs (.str "black") = fs := by
  show (if (("black" : Str) == "black") = true then fs else []) = _
  rw [if_pos (by decide +kernel)]
theorem gone_fr {fs : List PyData} : goneF fs (.str "free") = [] := by
  show (if (("free" : Str) == "black") = true then fs else []) = _
  rw [if_neg (by decide +kernel)]
theorem in_wf1 : inD (.str "white") (.tuple [.str "white", .str "free"]) = some true := by decide +kernel
theorem in_wf2 : inD (.str "free") (.tuple [.str "white", .str "free"]) = some true := by decide +kernel
theorem in_wf3 (j : Nat) : inD (.int j) (.tuple [.str "white", .str "free"]) = some false :=
  (if_pos ⟨rfl, by decide +kernel⟩ : inD (.int j) (.tuple [.str "white", .str "free"]) = some ([PyData.str "white", PyData.str "free"].any fun z => PyData.eqv z (.int (j : Int)))).trans rfl
theorem fld_len {n : Nat} {x : PyData} (h : Fld n x) : x.canLay0 = true ∧ x.depth ≤ 20 := by
  rcases h with rfl | ⟨i, rfl, _⟩
  · exact ⟨rfl, by simp [PyData.depth]⟩
  · exact ⟨rfl, by simp [PyData.depth]⟩
theorem in_row {n : Nat} {row : List PyData} (h : ∀ x ∈ row, Fld n x) (i : Nat) : inD (.int i) (.list row) = some (memB row i) := if_pos ⟨rfl, shp_list fun x hx => fld_len (h x hx)⟩
theorem whB_ok {cs : List (List PyData × PyData)} (hs : StOk cs) {i : Nat} (hi : i < cs.length) : eqOk (mkAt cs i) (.str "white") = true := eqOk_mk (at_cel hs hi).2.2 (by decide +kernel)
theorem mem_memB {row : List PyData} {n i : Nat} (h : ∀ x ∈ row, Fld n x) : memB row i = true ↔ PyData.int i ∈ row := by
  unfold memB
  rw [List.any_eq_true]
  constructor
  · rintro ⟨x, hx, e⟩
    rcases h x hx with rfl | ⟨j, rfl, hj⟩
    · cases e
    · rw [int_eqv, decide_eq_true_eq] at e
      rw [← e]; exact hx
  · intro hx
    exact ⟨_, hx, by rw [int_eqv, decide_eq_true_eq]⟩
theorem whN_mem {cs : List (List PyData × PyData)} {row : List PyData} {i : Nat} : i ∈ whN cs row ↔ i < cs.length ∧ memB row i = true ∧ whB cs i = true := by
  unfold whN
  rw [List.mem_filter, List.mem_range, Bool.and_eq_true]
theorem filt_run {p : PyData → Bool} {ds : List PyData} {R : List PyData → Prop} {g : DTG} {tt : TTd} {te : TEd} {ρ : GB.En} {vs : List Nat} (hn : R (ds.filter p))
    (hc : ∀ d ∈ ds, ∀ (acc : List PyData) (K : List PyData → Prop), (p d = true → K (acc ++ [d])) → (p d = false → K acc) → g d ρ fun ρ2 => wipeD ρ2 vs = ρ ∧ tt ρ2 fun b ρ3 => ρ3 = ρ2 ∧ iteK b (te ρ2 fun s ρ4 => ρ4 = ρ2 ∧ oneK s fun y => K (acc ++ [y])) (K acc)) :
    dLcGo vs g tt te ρ R ds [] := by
  refine lcI (fun es acc => (∀ d ∈ es, d ∈ ds) ∧ acc ++ es.filter p = ds.filter p) ?_ ?_ ds [] ⟨fun _ h => h, rfl⟩
  · rintro acc ⟨_, h1⟩
    have h1 : acc = ds.filter p := by rw [← h1]; simp
    rw [h1]; exact hn
  · rintro d es acc K hK ⟨h0, h1⟩
    refine hc d (h0 d (by simp)) acc K (fun e => hK _ ⟨fun z hz => h0 z (by simp [hz]), ?_⟩) fun e => hK _ ⟨fun z hz => h0 z (by simp [hz]), ?_⟩
    · rw [← h1, List.filter_cons, if_pos e]; simp
    · rw [← h1, List.filter_cons, if_neg (by rw [e]; decide)]
theorem irow_map (n : Nat) : irow 0 n = (List.range n).map fun i : Nat => PyData.int (i : Int) := by
  unfold irow
  exact List.map_congr_left fun i _ => by simp
theorem irow_filt (n : Nat) (p : Nat → Bool) : (irow 0 n).filter (fun x => p (iOf x)) = ((List.range n).filter p).map fun i : Nat => PyData.int (i : Int) := by
  rw [irow_map, List.filter_map]
  rfl
theorem s_whites {k : S → Prop} {cs : List (List PyData × PyData)} {rm lk row : List PyData} (hs : StOk cs) (hl : row.length ≤ 100000) (hr : ∀ x ∈ row, Fld cs.length x) (h : k (.d (.list (whD cs row)))) : F_l_whites [.d (stD cs rm lk), .d (.list row)] k := ⟨cs, rm, lk, row, rfl, hs, hl, hr, h⟩
theorem s_pwhites {k : S → Prop} {cs : List (List PyData × PyData)} {row : List PyData} (hs : StOk cs) (hl : row.length ≤ 100000) (hr : ∀ x ∈ row, Fld cs.length x) (h : k (.d (.tuple (whD cs row)))) : F_p_white_ones [.d (.tuple (cs.map fun c => c.2)), .d (.list row)] k := ⟨cs, row, _, rfl, .inl rfl, hs, hl, hr, h⟩
theorem s_pwhitesT {k : S → Prop} {cs : List (List PyData × PyData)} {row : List PyData} (hs : StOk cs) (hl : row.length ≤ 100000) (hr : ∀ x ∈ row, Fld cs.length x) (h : k (.d (.tuple (whD cs row)))) : F_p_white_ones [.d (.tuple (cs.map fun c => c.2)), .d (.tuple row)] k := ⟨cs, row, _, rfl, .inr rfl, hs, hl, hr, h⟩
theorem s_lgone {k : S → Prop} {cs : List (List PyData × PyData)} {rm lk : List PyData} {i : Nat} (hs : StOk cs) (hi : i < cs.length) (h : k (.d (.tuple (goneL cs i)))) : F_l_gone [.d (stD cs rm lk), .d (.int i)] k := ⟨cs, rm, lk, i, rfl, hs, hi, h⟩
theorem goneF_sub {fs : List PyData} {mk : PyData} : ∀ x ∈ goneF fs mk, x ∈ fs := fun x hx => by
  cases mk with
  | str z =>
    have hx : x ∈ (if (z == "black") = true then fs else []) := hx
    split at hx
    · exact hx
    · cases hx
  | int j => exact List.mem_of_mem_drop (List.mem_of_mem_take hx)
  | _ => cases hx
theorem goneF_len {fs : List PyData} {mk : PyData} : (goneF fs mk).length ≤ fs.length := by
  cases mk with
  | str z =>
    show (if (z == "black") = true then fs else []).length ≤ _
    split
    · exact Nat.le_refl _
    · exact Nat.zero_le _
  | int j => exact GB.cutD_len fs none (some j)
  | _ => exact Nat.zero_le _
theorem seen_fld {cs : List (List PyData × PyData)} (hs : StOk cs) : ∀ x ∈ seenL cs, Fld cs.length x := fun x hx => by
  obtain ⟨c, hc, h⟩ := List.mem_flatMap.mp hx
  exact (hs.2 c hc).2.1 x (goneF_sub x h)
theorem flat_len {α β : Type} {f : α → List β} {m : Nat} : ∀ {xs : List α}, (∀ x ∈ xs, (f x).length ≤ m) → (xs.flatMap f).length ≤ xs.length * m
  | [], _ => by simp
  | x :: xs, h => by
    have ih := flat_len (xs := xs) fun y hy => h y (by simp [hy])
    have := h x (by simp)
    rw [List.flatMap_cons, List.length_append, List.length_cons, Nat.add_mul, Nat.one_mul]
    omega
theorem seen_len {cs : List (List PyData × PyData)} (hs : StOk cs) : (seenL cs).length ≤ 180 := by
  have := flat_len (f := goneC) (m := 3) (xs := cs) fun c hc => Nat.le_trans goneF_len (hs.2 c hc).1
  have := hs.1
  unfold seenL
  omega
theorem goneL_at {cs : List (List PyData × PyData)} {i : Nat} (h : i < cs.length) : goneL cs i = goneC cs[i] := by
  unfold goneL goneC fsAt mkAt
  rw [List.getElem?_eq_getElem h]
  rfl
theorem pair_mem {ds : List PyData} : ∀ {k : Nat} {x : PyData}, x ∈ pairsFrom (k : Int) ds → ∃ (i : Nat) (h : i < ds.length), x = .tuple [.int ((k + i : Nat) : Int), ds[i]] := by
  induction ds with
  | nil => intro k x h; cases h
  | cons d ds ih =>
    intro k x h
    rcases List.mem_cons.mp (show x ∈ PyData.tuple [.int (k : Int), d] :: pairsFrom ((k : Int) + 1) ds from h) with rfl | h
    · exact ⟨0, by simp, rfl⟩
    · obtain ⟨i, hi, rfl⟩ := ih (k := k + 1) (by simpa using h)
      exact ⟨i + 1, by simpa using hi, by simp; omega⟩
theorem pair_flat {f : PyData → List PyData} {g : PyData → List PyData} {ds : List PyData} : ∀ {k : Int}, (∀ (j : Int) (d : PyData), d ∈ ds → f (.tuple [.int j, d]) = g d) → (pairsFrom k ds).flatMap f = ds.flatMap g := by
  induction ds with
  | nil => intro k _; rfl
  | cons d ds ih =>
    intro k h
    show (PyData.tuple [.int k, d] :: pairsFrom (k + 1) ds).flatMap f = _
    rw [List.flatMap_cons, List.flatMap_cons, h k d (by simp), ih fun j z hz => h j z (by simp [hz])]
theorem pair_len {ds : List PyData} : ∀ {k : Int}, (pairsFrom k ds).length = ds.length := by
  induction ds with
  | nil => intro k; rfl
  | cons d ds ih =>
    intro k
    show (PyData.tuple [.int k, d] :: pairsFrom (k + 1) ds).length = _
    rw [List.length_cons, ih, List.length_cons]
def enF (cs : List (List PyData × PyData)) : PyData → List PyData
  | .tuple [.int j, _] => goneL cs j.toNat
  | _ => []
theorem en_flat {cs : List (List PyData × PyData)} : ∀ (c' pre : List (List PyData × PyData)), cs = pre ++ c' → (pairsFrom (pre.length : Int) (c'.map fun c => PyData.tuple c.1)).flatMap (enF cs) = c'.flatMap goneC
  | [], _, _ => rfl
  | c :: c', pre, h => by
    show (PyData.tuple [.int (pre.length : Int), .tuple c.1] :: pairsFrom ((pre.length : Int) + 1) (c'.map fun c => PyData.tuple c.1)).flatMap (enF cs) = _
    have ih := en_flat (cs := cs) c' (pre ++ [c]) (by rw [h]; simp)
    have el : ((pre ++ [c]).length : Int) = pre.length + 1 := by simp
    rw [el] at ih
    rw [List.flatMap_cons, List.flatMap_cons, ih]
    have hi : pre.length < cs.length := by rw [h]; simp
    have e : enF cs (.tuple [.int (pre.length : Int), .tuple c.1]) = goneL cs pre.length := by simp [enF]
    rw [e, goneL_at hi]
    simp [h]
/-! what hands hold -/
theorem row_held {n : Nat} {rm lk : List PyData} (h : RmOk n rm lk) : (∀ x ∈ heldL rm lk, Fld n x) ∧ (heldL rm lk).length ≤ 240 := by
  have hr : ∀ p ∈ rm.zip lk, (heldP p).length ≤ 4 ∧ ∀ x ∈ heldP p, Fld n x := fun p hp => by
    obtain ⟨xs, e, h1, h2⟩ := h.2.2.1 p.1 (List.of_mem_zip hp).1
    unfold heldP
    split
    · rw [e]; exact ⟨h1, h2⟩
    · exact ⟨by simp, fun x hx => by cases hx⟩
  refine ⟨fun x hx => ?_, ?_⟩
  · obtain ⟨p, hp, hx⟩ := List.mem_flatMap.mp hx
    exact (hr p hp).2 x hx
  · have := flat_len (f := heldP) (m := 4) (xs := rm.zip lk) fun p hp => (hr p hp).1
    have l : (rm.zip lk).length ≤ 60 := by rw [List.length_zip]; have := h.1; omega
    unfold heldL
    omega
def hdF (lk : List PyData) : PyData → List PyData
  | .tuple [.int j, r] => heldP (r, (lk[j.toNat]?).getD .none)
  | _ => []
theorem hd_flat {lk : List PyData} : ∀ (rm' lk' pre : List PyData), lk = pre ++ lk' → rm'.length = lk'.length → (pairsFrom (pre.length : Int) rm').flatMap (hdF lk) = (rm'.zip lk').flatMap heldP
  | [], _, _, _, _ => by simp [pairsFrom]
  | r :: rm', [], _, _, h => by simp at h
  | r :: rm', b :: lk', pre, h, hl => by
    show (PyData.tuple [.int (pre.length : Int), r] :: pairsFrom ((pre.length : Int) + 1) rm').flatMap (hdF lk) = _
    have ih := hd_flat (lk := lk) rm' lk' (pre ++ [b]) (by rw [h]; simp) (by simpa using hl)
    have el : ((pre ++ [b]).length : Int) = pre.length + 1 := by simp
    rw [el] at ih
    rw [List.flatMap_cons, ih, List.zip_cons_cons, List.flatMap_cons]
    have e : hdF lk (.tuple [.int (pre.length : Int), r]) = heldP (r, b) := by simp [hdF, h]
    rw [e]
end GK

set_option maxRecDepth 100000
namespace GK
open PySem PySem.Spec PyProof.Rows L2 GB
theorem s_seen {k : S → Prop} {cs : List (List PyData × PyData)} {rm lk : List PyData} (hs : StOk cs) (h : k (.d (.tuple (whD cs (seenL cs))))) : F_seen_white [.d (stD cs rm lk)] k := ⟨cs, rm, lk, rfl, hs, h⟩
theorem s_held {k : S → Prop} {cs : List (List PyData × PyData)} {rm lk : List PyData} (hs : StOk cs) (hr : RmOk cs.length rm lk) (h : k (.d (.tuple (whD cs (heldL rm lk))))) : F_held_white [.d (stD cs rm lk)] k := ⟨cs, rm, lk, rfl, hs, hr, h⟩
theorem s_lseen {k : S → Prop} {cs : List (List PyData × PyData)} {rm lk : List PyData} (hs : StOk cs) (h : k (.d (.list (whD cs (seenL cs))))) : F_l_seen [.d (stD cs rm lk)] k := ⟨cs, rm, lk, rfl, hs, h⟩
theorem s_lheld {k : S → Prop} {cs : List (List PyData × PyData)} {rm lk : List PyData} (hs : StOk cs) (hr : RmOk cs.length rm lk) (h : k (.d (.list (whD cs (heldL rm lk))))) : F_l_held [.d (stD cs rm lk)] k := ⟨cs, rm, lk, rfl, hs, hr, h⟩
theorem s_std {k : S → Prop} {n m : Nat} (hn : n ≤ 60) (hm : m ≤ 60) (h : ∀ cs rm lk, cs.length = n → StOk cs → RmOk n rm lk → rm.length = m → k (.d (stD cs rm lk))) : F_l_any_standing [.ob .jar, .d (.int n), .d (.int m)] k :=
  ⟨n, m, rfl, hn, hm, fun cs rm lk h1 h2 h3 h4 h5 h6 => h cs rm lk h1 ⟨by omega, fun c hc => by rw [h1]; exact h2 c hc⟩ ⟨by omega, by omega, h4, h6⟩ h3⟩
theorem st_vy' {cs : List (List PyData × PyData)} {rm lk : List PyData} (hs : StOk cs) (hr : RmOk cs.length rm lk) : Vy 4 150000 (stD cs rm lk) := st_vy hs hr.1 (fun x hx => row_vy hs.1 (by decide) (hr.2.2.1 x hx)) (by rw [hr.2.1]; exact hr.1) hr.2.2.2
theorem wh_vy {cs : List (List PyData × PyData)} (hs : StOk cs) (row : List PyData) : Vy 2 7000 (.tuple (whD cs row)) := by
  refine (vy_tup (D := 1) (W := 100) (n := 60) (fun x hx => ?_) ?_).mono (by decide) (by decide)
  · obtain ⟨i, hi, rfl⟩ := List.mem_map.mp hx
    have := (whN_mem.mp hi).1
    exact vy_small (by have := hs.1; omega)
  · unfold whD whN
    rw [List.length_map]
    exact Nat.le_trans (List.length_filter_le _ _) (by rw [List.length_range]; exact hs.1)
theorem two_vy {D W : Nat} {x y : PyData} (h : Vy D W x) (k : Vy D W y) : Vy (D + 1) (2 * (W + 1)) (.list [x, y]) := vy_lst (fun z hz => by
  simp only [List.mem_cons, List.not_mem_nil, or_false] at hz
  rcases hz with rfl | rfl <;> assumption) (by simp)
theorem one_plus {r : Int} (h : 0 ≤ r) : ∃ m : Nat, 1 + r = m := ⟨(1 + r).toNat, by omega⟩
end GK

set_option maxRecDepth 100000
namespace GK
open PySem PySem.Spec PyProof.Rows L2 GB
theorem s_togo {k : S → Prop} {fs : List PyData} {mk : PyData} (hm : Mark fs mk) (h : k (.d (.tuple (toGo fs mk)))) : F_p_still_to_go [.d (.tuple fs), .d mk] k := ⟨fs, mk, rfl, hm, h⟩
theorem s_lahead {k : S → Prop} {cs : Cs} {rm lk : List PyData} {i : Nat} (hs : StOk cs) (hi : i < cs.length) (h : k (.d (.tuple (aheadL cs i)))) : F_l_ahead [.d (stD cs rm lk), .d (.int i)] k := ⟨cs, rm, lk, i, rfl, hs, hi, h⟩
theorem wOk_i {cs : Cs} {kvs : KVs} {i : Nat} : wOk cs kvs (.int (i : Int)) = (whB cs i && !(lookD kvs (.inl (i : Int))).isSome) := by
  show (whB cs (i : Int).toNat && _) = _
  rw [toI]
theorem ah_len {cs : Cs} (hs : StOk cs) {c : Nat} (hc : c < cs.length) : (aheadL cs c).length ≤ 3 := by
  have h := (at_cel hs hc).1
  unfold aheadL
  unfold toGo
  split
  · exact Nat.le_trans (GB.cutD_len _ _ _) h
  · exact Nat.zero_le _
/-- as many as there is room for -/
def Sml (cs : Cs) (kvs : KVs) : Prop := (∀ p ∈ kvs, ∃ i : Nat, p.1 = .inl (i : Int) ∧ i < cs.length) ∧ (kvs.map (·.1)).Nodup
theorem Sml.len {cs : Cs} {kvs : KVs} (h : Sml cs kvs) : kvs.length ≤ cs.length := by
  have := GB.sub_len (l := (List.range cs.length).map fun i : Nat => (Sum.inl (i : Int) : Key)) h.2 fun q hq => by
    obtain ⟨p, hp, rfl⟩ := List.mem_map.mp hq
    obtain ⟨i, e, hi⟩ := h.1 p hp
    exact List.mem_map.mpr ⟨i, List.mem_range.mpr hi, e.symm⟩
  simpa using this
theorem Sml.put {cs : Cs} {kvs : KVs} (h : Sml cs kvs) {i : Nat} (hi : i < cs.length) {x : PyData} (hn : (lookD kvs (.inl (i : Int))).isSome = false) : Sml cs (putD kvs (.inl (i : Int)) x) := by
  refine ⟨fun p hp => ?_, put_nd hn h.2⟩
  rw [put_new hn] at hp
  rcases List.mem_append.mp hp with hp | hp
  · exact h.1 p hp
  · exact ⟨i, by rw [List.mem_singleton.mp hp], hi⟩
theorem Sml.put2 {cs : Cs} {kvs : KVs} (h : Sml cs kvs) {i : Nat} (hi : i < cs.length) {x : PyData} (hn : (lookD kvs (.inl (i : Int))).isSome = true) : Sml cs (putD kvs (.inl (i : Int)) x) := by
  unfold putD
  have an : (kvs.any fun p => decide (p.1 = (.inl (i : Int) : Key))) = true := by
    rw [List.any_eq_true]
    obtain ⟨p, hp, e⟩ := List.mem_map.mp (look_key.mp hn)
    exact ⟨p, hp, by simpa using e⟩
  rw [if_pos an]
  refine ⟨fun p hp => ?_, ?_⟩
  · obtain ⟨q, hq, rfl⟩ := List.mem_map.mp hp
    obtain ⟨j, e, hj⟩ := h.1 q hq
    refine ⟨j, ?_, hj⟩
    split <;> exact e
  · rw [List.map_map]
    have : kvs.map ((fun x => x.1) ∘ fun p => if p.1 = (.inl (i : Int) : Key) then (p.1, x) else p) = kvs.map (·.1) := List.map_congr_left fun p _ => by
      simp only [Function.comp]; split <;> rfl
    rw [this]; exact h.2
theorem Sml.putA {cs : Cs} {kvs : KVs} (h : Sml cs kvs) {i : Nat} (hi : i < cs.length) {x : PyData} : Sml cs (putD kvs (.inl (i : Int)) x) := by
  cases hn : (lookD kvs (.inl (i : Int))).isSome
  · exact h.put hi hn
  · exact h.put2 hi hn
theorem loopG {σ : Type} {g : DTG} {b : TSd} {D : EndsD} (f : List PyData → σ → GB.En → Prop) (step : σ → PyData → σ) : ∀ {ds : List PyData} {st0 : σ} {ρ : GB.En},
    (hn : ∀ ρ, f [] (ds.foldl step st0) ρ → D.nx ρ) → (hc : ∀ d ds' st ρ (K : GB.En → Prop), d ∈ ds → f (d :: ds') st ρ → (∀ ρ', f ds' (step st d) ρ' → K ρ') → g d ρ fun ρ1 => b { nx := K, ct := K, bk := D.nx, rt := D.rt } ρ1) → f ds st0 ρ → dLoop g b D ds ρ
  | [], st0, ρ, hn, hc, h => hn ρ h
  | d :: ds, st0, ρ, hn, hc, h => e_lcons.mpr (hc d ds st0 ρ _ (by simp) h fun ρ' h' => loopG f step (ds := ds) hn (fun d' ds' st ρ K hd => hc d' ds' st ρ K (by simp [hd])) h')
theorem Sml.nil {cs : Cs} : Sml cs [] := ⟨(fun _ h => nomatch h), List.nodup_nil⟩
theorem s_nb {k : S → Prop} {cs : Cs} {rm lk : List PyData} (hs : StOk cs) (h : k (.od (nbK cs))) : F_p_named_by_grey [.d (stD cs rm lk)] k := ⟨cs, rm, lk, rfl, hs, h⟩
theorem whileI {tc : TTd} {tb : TSd} {D : EndsD} {ρ : GB.En} (I : Nat → GB.En → Prop) (h0 : ∃ m, I m ρ) (hs : ∀ m ρ (K : GB.En → Prop), (∀ m' ρ', m' < m → I m' ρ' → K ρ') → I m ρ → tc ρ fun b ρ1 => iteK b (tb { nx := K, ct := K, bk := D.nx, rt := D.rt } ρ1) (D.nx ρ1)) : dWhile tc tb D ρ :=
  ⟨I, h0, fun m ρ h => hs m ρ _ (fun m' ρ' hm hi => ⟨m', hm, hi⟩) h⟩
theorem ent_facts {cs : Cs} {k : Nat} {kvs : KVs} (h : ∀ p ∈ kvs, Ent cs k p) (nd : (kvs.map (·.1)).Nodup) : Sml cs kvs ∧ ∀ i : Nat, ∀ x, lookD kvs (.inl (i : Int)) = some x → ∃ xs, x = .tuple xs ∧ xs.length ≤ cs.length + 2 := by
  refine ⟨⟨fun p hp => ?_, nd⟩, fun i x hx => ?_⟩
  · obtain ⟨i, d, vs, rfl, _, _, _, h5, _⟩ := h p hp
    exact ⟨i, rfl, h5.lt grC_ok⟩
  · obtain ⟨i', d, vs, e, _, _, _, h5, h6⟩ := h _ (look_mem hx)
    have := Nat.lt_of_lt_of_le (Gr.deep grC_ok h5) (Gr.cnt_le (g := grC cs) d)
    have ex : x = natsD vs := congrArg Prod.snd e
    refine ⟨_, ex, ?_⟩
    rw [List.length_map, h6]
    have : (grC cs).n = cs.length := rfl
    omega
theorem s_chains {k : S → Prop} {cs : Cs} {rm lk : List PyData} (hs : StOk cs) (h : k (.d (dctD (chK cs)))) : F_p_chains [.d (stD cs rm lk)] k := ⟨cs, rm, lk, rfl, hs, h⟩
/-! the law's own waves -/
structure FarAt (cs : Cs) (k : Nat) (far : KVs) : Prop where
  y : ∀ i d : Nat, (grC cs).D d i → d < k → lookD far (.inl (i : Int)) = some (.int ((d : Int) + 2))
  n : ∀ i : Nat, (lookD far (.inl (i : Int))).isSome = true → ∃ d, d < k ∧ (grC cs).D d i
  sm : Sml cs far
def Wav (cs : Cs) (k : Nat) (ns : List Nat) : Prop := (∀ i, i ∈ ns ↔ (grC cs).D k i) ∧ ns.length ≤ 60
def waF (cs : Cs) (k : Nat) (st : KVs × List PyData) (x : PyData) : KVs × List PyData := (putD st.1 (.inl (nI x)) (.int ((k : Int) + 2)), st.2 ++ fsAt cs (nI x).toNat)
theorem nat_int {ns : List Nat} {i : Nat} : PyData.int (i : Int) ∈ ns.map (fun j : Nat => PyData.int (j : Int)) ↔ i ∈ ns := by
  rw [List.mem_map]
  constructor
  · rintro ⟨j, hj, e⟩
    have : j = i := by have := PyData.int.inj e; omega
    rw [← this]; exact hj
  · intro h
    exact ⟨i, h, rfl⟩
theorem memB_app {pre : List PyData} {j : Int} {i : Nat} : memB (pre ++ [PyData.int j]) i = (memB pre i || decide (j = (i : Int))) := by
  unfold memB
  rw [List.any_append]
  simp [int_eqv]
theorem memB_nat {ns : List Nat} {i : Nat} : memB (ns.map fun j : Nat => PyData.int (j : Int)) i = true ↔ i ∈ ns := by
  unfold memB
  rw [List.any_map, List.any_eq_true]
  constructor
  · rintro ⟨j, hj, e⟩
    have e : PyData.eqv (.int (j : Int)) (.int (i : Int)) = true := e
    rw [int_eqv, decide_eq_true_eq] at e
    have : j = i := by omega
    rw [← this]; exact hj
  · intro h
    exact ⟨i, h, by show PyData.eqv (.int (i : Int)) (.int (i : Int)) = true; rw [int_eqv, decide_eq_true_eq]⟩
theorem wave_fold {cs : Cs} {k : Nat} {far : KVs} {ns : List Nat} (h : FarAt cs k far) (hw : Wav cs k ns) :
    FarAt cs (k + 1) ((ns.map fun j : Nat => PyData.int (j : Int)).foldl (waF cs k) (far, [])).1 ∧ ((ns.map fun j : Nat => PyData.int (j : Int)).foldl (waF cs k) (far, [])).2 = ns.flatMap (fsAt cs) := by
  have key := foldPre (σ := KVs × List PyData) (step := waF cs k) (fun (pre : List PyData) (st : KVs × List PyData) => (∀ i : Nat, lookD st.1 (.inl (i : Int)) = if memB pre i = true then some (.int ((k : Int) + 2)) else lookD far (.inl (i : Int))) ∧ Sml cs st.1 ∧ st.2 = pre.flatMap fun x => fsAt cs (nI x).toNat) (ds := ns.map fun j : Nat => PyData.int (j : Int)) (pre := []) (st := (far, []))
    ⟨fun i => rfl, h.sm, rfl⟩ fun pre st d _ hd ⟨a1, a2, a3⟩ => by
      obtain ⟨j, hj, rfl⟩ := List.mem_map.mp hd
      have jn : j < cs.length := ((hw.1 j).mp hj).lt grC_ok
      refine ⟨fun i => ?_, ?_, ?_⟩
      · show lookD (putD st.1 (.inl (j : Int)) _) (.inl (i : Int)) = _
        rw [look_put, a1 i, memB_app]
        by_cases e : i = j
        · subst e
          rw [if_pos rfl, if_pos (by simp)]
        · rw [if_neg (fun z => e (by have := Sum.inl.inj z; omega))]
          have e2 : decide ((j : Int) = (i : Int)) = false := decide_eq_false fun z => e (by omega)
          rw [e2, Bool.or_false]
      · show Sml cs (putD st.1 (.inl (j : Int)) _)
        cases hl : (lookD st.1 (.inl (j : Int))).isSome
        · exact a2.put jn hl
        · exact a2.put2 jn hl
      · show st.2 ++ fsAt cs (nI (.int (j : Int))).toNat = _
        rw [a3, List.flatMap_append]; simp
  obtain ⟨b1, b2, b3⟩ := key
  refine ⟨⟨fun i d hd hk => ?_, fun i hi => ?_, b2⟩, ?_⟩
  · rw [b1 i]
    rw [List.nil_append]
    by_cases e : i ∈ ns
    · rw [if_pos (memB_nat.mpr e)]
      have : d = k := hd.one ((hw.1 i).mp e)
      rw [this]
    · rw [if_neg (fun z => e (memB_nat.mp z))]
      refine h.y i d hd ?_
      rcases Nat.lt_or_ge d k with q | q
      · exact q
      · have : d = k := by omega
        subst this
        exact absurd ((hw.1 i).mpr hd) e
  · rw [b1 i] at hi
    rw [List.nil_append] at hi
    by_cases e : i ∈ ns
    · exact ⟨k, by omega, (hw.1 i).mp e⟩
    · rw [if_neg (fun z => e (memB_nat.mp z))] at hi
      obtain ⟨d, h1, h2⟩ := h.n i hi
      exact ⟨d, by omega, h2⟩
  · rw [b3, List.nil_append, List.flatMap_map]
    simp [nI]
theorem memB_flat {cs : Cs} {ns : List Nat} {i : Nat} : memB (ns.flatMap (fsAt cs)) i = true ↔ ∃ j, j ∈ ns ∧ memB (fsAt cs j) i = true := by
  unfold memB
  rw [List.any_eq_true]
  constructor
  · rintro ⟨x, hx, e⟩
    obtain ⟨j, hj, hx⟩ := List.mem_flatMap.mp hx
    exact ⟨j, hj, List.any_eq_true.mpr ⟨x, hx, e⟩⟩
  · rintro ⟨j, hj, e⟩
    obtain ⟨x, hx, e⟩ := List.any_eq_true.mp e
    exact ⟨x, List.mem_flatMap.mpr ⟨j, hj, hx⟩, e⟩
theorem wave_next {cs : Cs} {k : Nat} {far : KVs} {ns : List Nat} (h : FarAt cs (k + 1) far) (hw : Wav cs k ns) (h60 : cs.length ≤ 60) : Wav cs (k + 1) ((whN cs (ns.flatMap (fsAt cs))).filter fun i => !(lookD far (.inl (i : Int))).isSome) := by
  refine ⟨fun i => ?_, ?_⟩
  · rw [List.mem_filter, whN_mem, memB_flat, Bool.not_eq_true']
    have far' : (lookD far (.inl (i : Int))).isSome = false ↔ (grC cs).r k i = false := by
      constructor
      · intro e
        cases hr : (grC cs).r k i
        · rfl
        · obtain ⟨d, h1, h2⟩ := Gr.D.of hr
          have := h.y i d h2 (by omega)
          rw [this] at e; cases e
      · intro e
        cases hs : (lookD far (.inl (i : Int))).isSome
        · rfl
        · obtain ⟨d, h1, h2⟩ := h.n i hs
          have := Gr.mono h2.1 (show d ≤ k by omega)
          rw [e] at this; cases this
    rw [far', Gr.Ds grC_ok]
    constructor
    · rintro ⟨⟨h1, ⟨j, hj, h2⟩, h3⟩, h4⟩
      refine ⟨h4, j, (hw.1 j).mp hj, ?_⟩
      show (decide (i < cs.length) && (memB (fsAt cs j) i && whB cs i)) = true
      rw [h2, h3, decide_eq_true h1]; rfl
    · rintro ⟨h4, j, hj, he⟩
      have he : (decide (i < cs.length) && (memB (fsAt cs j) i && whB cs i)) = true := he
      simp only [Bool.and_eq_true, decide_eq_true_eq] at he
      exact ⟨⟨he.1, ⟨j, (hw.1 j).mpr hj, he.2.1⟩, he.2.2⟩, h4⟩
  · refine Nat.le_trans (List.length_filter_le _ _) ?_
    unfold whN
    exact Nat.le_trans (List.length_filter_le _ _) (by rw [List.length_range]; exact h60)
theorem wave_zero {cs : Cs} (h60 : cs.length ≤ 60) : Wav cs 0 (whN cs (aheadAll cs)) := by
  refine ⟨fun i => ?_, ?_⟩
  · rw [whN_mem, Gr.D0]
    show _ ↔ (decide (i < cs.length) && (memB (aheadAll cs) i && whB cs i)) = true
    simp only [Bool.and_eq_true, decide_eq_true_eq]
  · unfold whN
    exact Nat.le_trans (List.length_filter_le _ _) (by rw [List.length_range]; exact h60)
theorem far_end {cs : Cs} {k : Nat} {far : KVs} (h : FarAt cs k far) (hw : Wav cs k []) : FarOk cs far := by
  have no : ∀ i, ¬ (grC cs).D k i := fun i hi => nomatch (hw.1 i).mpr hi
  refine ⟨fun i d hd => h.y i d hd (Gr.all grC_ok no hd), fun i hi => ?_⟩
  cases hl : lookD far (.inl (i : Int)) with
  | none => rfl
  | some x =>
    obtain ⟨d, _, h2⟩ := h.n i (by rw [hl]; rfl)
    exact absurd h2 (hi d)
theorem flat_at {cs : Cs} : ∀ {i : Nat}, i ≤ cs.length → (cs.take i).flatMap (fun c => toGo c.1 c.2) = (List.range i).flatMap (aheadL cs)
  | 0, _ => by simp
  | i + 1, h => by
    rw [List.take_succ_eq_append_getElem h, List.flatMap_append, flat_at (by omega), List.range_succ, List.flatMap_append]
    congr 1
    simp only [List.flatMap_cons, List.flatMap_nil, List.append_nil]
    unfold aheadL fsAt mkAt
    rw [List.getElem?_eq_getElem (by omega)]
    rfl
theorem fs_flat_len {cs : Cs} (hs : StOk cs) {k : Nat} {ns : List Nat} (hw : Wav cs k ns) : (ns.flatMap (fsAt cs)).length ≤ 180 ∧ ∀ x ∈ ns.flatMap (fsAt cs), Fld cs.length x := by
  have hn : ∀ j ∈ ns, j < cs.length := fun j hj => ((hw.1 j).mp hj).lt grC_ok
  refine ⟨?_, fun x hx => ?_⟩
  · have := flat_len (f := fsAt cs) (m := 3) (xs := ns) fun j hj => (at_cel hs (hn j hj)).1
    have := hw.2
    omega
  · obtain ⟨j, hj, hx⟩ := List.mem_flatMap.mp hx
    exact (at_cel hs (hn j hj)).2.1 x hx
end GK

set_option maxRecDepth 100000
namespace GK
open PySem PySem.Spec PyProof.Rows L2 GB
theorem s_mixed {k : S → Prop} {xs : List PyData} : F_l_mixed [.ob .jar, .d (.list xs)] k ↔ xs.length < 1000 ∧ (∀ x ∈ xs, x.canLay0 = true ∧ x.depth ≤ 20) ∧ ∀ ys : List PyData, ys.Perm xs → k (.d (.list ys)) := by
  constructor
  · intro ⟨_, e, h⟩; cases e; exact h
  · intro h; exact ⟨_, rfl, h⟩
theorem cells_irow (n : Nat) : Cells n (irow 0 n) := fun x hx => irow_in hx
theorem pick6 {x : PyData} (hx : x ∈ [PyData.int 0, .int 1, .int 1, .int 2, .int 2, .int 3]) : ∃ p : Nat, x = .int p ∧ p ≤ 3 := by
  simp only [List.mem_cons, List.not_mem_nil, or_false] at hx
  rcases hx with rfl | rfl | rfl | rfl | rfl | rfl
  · exact ⟨0, rfl, by decide⟩
  · exact ⟨1, rfl, by decide⟩
  · exact ⟨1, rfl, by decide⟩
  · exact ⟨2, rfl, by decide⟩
  · exact ⟨2, rfl, by decide⟩
  · exact ⟨3, rfl, by decide⟩
theorem fld_none {n : Nat} {us : List PyData} (h : Cells n us) : ∀ x ∈ PyData.none :: us, Fld n x := fun x hx => by
  rcases List.mem_cons.mp hx with hx | hx
  · exact .inl hx
  · exact .inr (h x hx)
theorem ma_l_fields : ∀ ss R, ss.length = 2 → F_l_fields ss R → rd_l_fields { nx := fun _ => R (.d .none), rt := R } (ss ++ List.replicate 4 .un) := by
  rintro _ R - ⟨n, us, rfl, hu, hc, q⟩
  unfold rd_l_fields
  simp only [↓at0, ↓set0, ↓at1, ↓set1, ↓at2, ↓set2, ↓at3, ↓set3, ↓at4, ↓set4, ↓at5, ↓set5, ↓at6, ↓set6, ↓at7, ↓set7, ↓at8, ↓set8, ↓at9, ↓set9, ↓at10, ↓set10, ↓at11, ↓set11, ↓at12, ↓set12, ↓at13, ↓set13, ↓at14, ↓set14, ↓at15, ↓set15, ↓fz_d, ↓fz_own, ↓fz_ob, ↓one_d, ↓int_d, ↓bool_d, ↓own_o, ↓ds_nil, ↓ds_cons, ↓seq_l, ↓seq_t, ↓ite_t, ↓ite_f, ↓e_next, ↓e_seq, ↓e_set, ↓e_drop, ↓e_ret, ↓e_ifs, ↓e_brk, ↓e_cnt, ↓e_fixs, ↓e_par, ↓e_par3, ↓e_asg, ↓e_for, ↓e_putAt, ↓e_jput, ↓e_var, ↓e_k, ↓e_fz, ↓e_op, ↓e_opL, ↓e_opR, ↓e_n, ↓e_n1, ↓e_nil, ↓e_cons, ↓e_tup, ↓e_lst, ↓e_b, ↓e_not, ↓e_and, ↓e_or, ↓e_andV, ↓e_orV, ↓e_notV, ↓e_if, ↓e_isi, ↓e_neg, ↓e_chain, ↓e_call, ↓e_callK, ↓e_jint, ↓e_dict0, ↓e_dict1, ↓e_listRng, ↓e_append, ↓e_cut, ↓e_cutO, ↓e_onone, ↓e_osome, ↓e_iseq, ↓e_ienum, ↓e_irng, ↓e_gname, ↓e_lnil, ↓e_lcons, ↓e_lc, ↓e_yes, ↓f_addI, ↓f_addS, ↓f_addT, ↓f_addL, ↓f_i2, ↓f_mulI, ↓f_mulT, ↓f_mulL, ↓f_eq, ↓f_ne, ↓f_is, ↓f_isnot, ↓f_in, ↓f_notin, ↓f_ixL, ↓f_ixT, ↓f_lenL, ↓f_lenT, ↓f_lenS, ↓f_abs, ↓f_intI, ↓f_intB, ↓f_tupL, ↓f_tupT, ↓f_lstL, ↓f_lstT, ↓f_repr, ↓f_cutL, ↓f_cutT, ↓firm_d, ↓firm_ob, ↓zip_l, ↓zip_t, ↓e_izip, ↓zip_cons, ↓zip_nil1, ↓zip_nil2, ↓f_sorted, ↓e_inn, ↓e_inc, ↓e_l2n, ↓e_l2c, ↓e_lc2, ↓e_rev, ↓e_pop, ↓e_popAt, ↓e_extend, ↓e_lc3, ↓e_gon, ↓e_goc, ↓e_dbMid, ↓e_dbIn, ↓f_neu, ↓e_ifT, ↓e_newD, ↓e_retO, ↓e_fixK, ↓e_putO, ↓e_dkO, ↓e_dkF, ↓e_kdO, ↓e_kdF, ↓e_get2O, ↓e_get2F, ↓e_ListD, ↓e_ListF, ↓od_o, ↓dct_d, ↓key_int, ↓key_str, ↓g_item, ↓g_get, ↓g_in, ↓g_notin, ↓h_list, ↓fz_od, ↓ow_ex, ↓e_tr, ↓e_trO, ↓e_trK, ↓tru_b, ↓tru_n, ↓tru_i, ↓tru_l, ↓tru_t, ↓tru_s, ↓e_i63, ↓n63_d, ↓e_ss, ↓dgTup_tup, ↓dgCons_cons, ↓dgNil_nil, ite_t, ite_f, itK_not, List.cons_append, List.nil_append, List.append_nil, List.replicate, List.flatten_cons, List.flatten_nil, List.append_eq, List.length_cons, List.length_nil, Nat.zero_add, Nat.reduceAdd, true_and, and_true, eqOk_str, eqOk_int, eqOk_bool, str_eqv, int_eqv, tup_nil_eqv, lst_nil_eqv, rep_flat, isK_int, isK_bool, isK_tuple, isK_str, kInt, kBool, kTuple, kStr, GB.isNon, Bool.not_true, Bool.not_false, Bool.or_false, Bool.or_true, Bool.false_or, Bool.true_or, reduceCtorEq, ↓s_pick]
  refine ⟨by decide, List.cons_ne_nil _ _, by decide, fun x hx => ?_⟩
  obtain ⟨p, rfl, hp⟩ := pick6 hx
  simp only [↓at0, ↓set0, ↓at1, ↓set1, ↓at2, ↓set2, ↓at3, ↓set3, ↓at4, ↓set4, ↓at5, ↓set5, ↓at6, ↓set6, ↓at7, ↓set7, ↓at8, ↓set8, ↓at9, ↓set9, ↓at10, ↓set10, ↓at11, ↓set11, ↓at12, ↓set12, ↓at13, ↓set13, ↓at14, ↓set14, ↓at15, ↓set15, ↓fz_d, ↓fz_own, ↓fz_ob, ↓one_d, ↓int_d, ↓bool_d, ↓own_o, ↓ds_nil, ↓ds_cons, ↓seq_l, ↓seq_t, ↓ite_t, ↓ite_f, ↓e_next, ↓e_seq, ↓e_set, ↓e_drop, ↓e_ret, ↓e_ifs, ↓e_brk, ↓e_cnt, ↓e_fixs, ↓e_par, ↓e_par3, ↓e_asg, ↓e_for, ↓e_putAt, ↓e_jput, ↓e_var, ↓e_k, ↓e_fz, ↓e_op, ↓e_opL, ↓e_opR, ↓e_n, ↓e_n1, ↓e_nil, ↓e_cons, ↓e_tup, ↓e_lst, ↓e_b, ↓e_not, ↓e_and, ↓e_or, ↓e_andV, ↓e_orV, ↓e_notV, ↓e_if, ↓e_isi, ↓e_neg, ↓e_chain, ↓e_call, ↓e_callK, ↓e_jint, ↓e_dict0, ↓e_dict1, ↓e_listRng, ↓e_append, ↓e_cut, ↓e_cutO, ↓e_onone, ↓e_osome, ↓e_iseq, ↓e_ienum, ↓e_irng, ↓e_gname, ↓e_lnil, ↓e_lcons, ↓e_lc, ↓e_yes, ↓f_addI, ↓f_addS, ↓f_addT, ↓f_addL, ↓f_i2, ↓f_mulI, ↓f_mulT, ↓f_mulL, ↓f_eq, ↓f_ne, ↓f_is, ↓f_isnot, ↓f_in, ↓f_notin, ↓f_ixL, ↓f_ixT, ↓f_lenL, ↓f_lenT, ↓f_lenS, ↓f_abs, ↓f_intI, ↓f_intB, ↓f_tupL, ↓f_tupT, ↓f_lstL, ↓f_lstT, ↓f_repr, ↓f_cutL, ↓f_cutT, ↓firm_d, ↓firm_ob, ↓zip_l, ↓zip_t, ↓e_izip, ↓zip_cons, ↓zip_nil1, ↓zip_nil2, ↓f_sorted, ↓e_inn, ↓e_inc, ↓e_l2n, ↓e_l2c, ↓e_lc2, ↓e_rev, ↓e_pop, ↓e_popAt, ↓e_extend, ↓e_lc3, ↓e_gon, ↓e_goc, ↓e_dbMid, ↓e_dbIn, ↓f_neu, ↓e_ifT, ↓e_newD, ↓e_retO, ↓e_fixK, ↓e_putO, ↓e_dkO, ↓e_dkF, ↓e_kdO, ↓e_kdF, ↓e_get2O, ↓e_get2F, ↓e_ListD, ↓e_ListF, ↓od_o, ↓dct_d, ↓key_int, ↓key_str, ↓g_item, ↓g_get, ↓g_in, ↓g_notin, ↓h_list, ↓fz_od, ↓ow_ex, ↓e_tr, ↓e_trO, ↓e_trK, ↓tru_b, ↓tru_n, ↓tru_i, ↓tru_l, ↓tru_t, ↓tru_s, ↓e_i63, ↓n63_d, ↓e_ss, ↓dgTup_tup, ↓dgCons_cons, ↓dgNil_nil, ite_t, ite_f, itK_not, List.cons_append, List.nil_append, List.append_nil, List.replicate, List.flatten_cons, List.flatten_nil, List.append_eq, List.length_cons, List.length_nil, Nat.zero_add, Nat.reduceAdd, true_and, and_true, eqOk_str, eqOk_int, eqOk_bool, str_eqv, int_eqv, tup_nil_eqv, lst_nil_eqv, rep_flat, isK_int, isK_bool, isK_tuple, isK_str, kInt, kBool, kTuple, kStr, GB.isNon, Bool.not_true, Bool.not_false, Bool.or_false, Bool.or_true, Bool.false_or, Bool.true_or, reduceCtorEq, ]
  refine ⟨by decide, line_ge (by omega), by decide, big (by omega), low, loopR (fun _ j ρ => ∃ (fs : List PyData) (s5 : S), ρ = [S.ob Tk.jar, S.d (.list us), S.d (.int p), S.d (.list (.none :: us)), S.own fs, s5] ∧ fs.length + j = p ∧ ∀ x ∈ fs, Fld n x) ?_ ?_ _ 0 _ ⟨[], _, rfl, by simp, fun _ h => nomatch h⟩⟩
  · rintro k _ ⟨fs, s5, rfl, h1, h2⟩
    simp only [↓at0, ↓set0, ↓at1, ↓set1, ↓at2, ↓set2, ↓at3, ↓set3, ↓at4, ↓set4, ↓at5, ↓set5, ↓at6, ↓set6, ↓at7, ↓set7, ↓at8, ↓set8, ↓at9, ↓set9, ↓at10, ↓set10, ↓at11, ↓set11, ↓at12, ↓set12, ↓at13, ↓set13, ↓at14, ↓set14, ↓at15, ↓set15, ↓fz_d, ↓fz_own, ↓fz_ob, ↓one_d, ↓int_d, ↓bool_d, ↓own_o, ↓ds_nil, ↓ds_cons, ↓seq_l, ↓seq_t, ↓ite_t, ↓ite_f, ↓e_next, ↓e_seq, ↓e_set, ↓e_drop, ↓e_ret, ↓e_ifs, ↓e_brk, ↓e_cnt, ↓e_fixs, ↓e_par, ↓e_par3, ↓e_asg, ↓e_for, ↓e_putAt, ↓e_jput, ↓e_var, ↓e_k, ↓e_fz, ↓e_op, ↓e_opL, ↓e_opR, ↓e_n, ↓e_n1, ↓e_nil, ↓e_cons, ↓e_tup, ↓e_lst, ↓e_b, ↓e_not, ↓e_and, ↓e_or, ↓e_andV, ↓e_orV, ↓e_notV, ↓e_if, ↓e_isi, ↓e_neg, ↓e_chain, ↓e_call, ↓e_callK, ↓e_jint, ↓e_dict0, ↓e_dict1, ↓e_listRng, ↓e_append, ↓e_cut, ↓e_cutO, ↓e_onone, ↓e_osome, ↓e_iseq, ↓e_ienum, ↓e_irng, ↓e_gname, ↓e_lnil, ↓e_lcons, ↓e_lc, ↓e_yes, ↓f_addI, ↓f_addS, ↓f_addT, ↓f_addL, ↓f_i2, ↓f_mulI, ↓f_mulT, ↓f_mulL, ↓f_eq, ↓f_ne, ↓f_is, ↓f_isnot, ↓f_in, ↓f_notin, ↓f_ixL, ↓f_ixT, ↓f_lenL, ↓f_lenT, ↓f_lenS, ↓f_abs, ↓f_intI, ↓f_intB, ↓f_tupL, ↓f_tupT, ↓f_lstL, ↓f_lstT, ↓f_repr, ↓f_cutL, ↓f_cutT, ↓firm_d, ↓firm_ob, ↓zip_l, ↓zip_t, ↓e_izip, ↓zip_cons, ↓zip_nil1, ↓zip_nil2, ↓f_sorted, ↓e_inn, ↓e_inc, ↓e_l2n, ↓e_l2c, ↓e_lc2, ↓e_rev, ↓e_pop, ↓e_popAt, ↓e_extend, ↓e_lc3, ↓e_gon, ↓e_goc, ↓e_dbMid, ↓e_dbIn, ↓f_neu, ↓e_ifT, ↓e_newD, ↓e_retO, ↓e_fixK, ↓e_putO, ↓e_dkO, ↓e_dkF, ↓e_kdO, ↓e_kdF, ↓e_get2O, ↓e_get2F, ↓e_ListD, ↓e_ListF, ↓od_o, ↓dct_d, ↓key_int, ↓key_str, ↓g_item, ↓g_get, ↓g_in, ↓g_notin, ↓h_list, ↓fz_od, ↓ow_ex, ↓e_tr, ↓e_trO, ↓e_trK, ↓tru_b, ↓tru_n, ↓tru_i, ↓tru_l, ↓tru_t, ↓tru_s, ↓e_i63, ↓n63_d, ↓e_ss, ↓dgTup_tup, ↓dgCons_cons, ↓dgNil_nil, ite_t, ite_f, itK_not, List.cons_append, List.nil_append, List.append_nil, List.replicate, List.flatten_cons, List.flatten_nil, List.append_eq, List.length_cons, List.length_nil, Nat.zero_add, Nat.reduceAdd, true_and, and_true, eqOk_str, eqOk_int, eqOk_bool, str_eqv, int_eqv, tup_nil_eqv, lst_nil_eqv, rep_flat, isK_int, isK_bool, isK_tuple, isK_str, kInt, kBool, kTuple, kStr, GB.isNon, Bool.not_true, Bool.not_false, Bool.or_false, Bool.or_true, Bool.false_or, Bool.true_or, reduceCtorEq, ]
    exact q fs (by omega) h2
  · rintro k j _ K hK ⟨fs, s5, rfl, h1, h2⟩
    simp only [↓at0, ↓set0, ↓at1, ↓set1, ↓at2, ↓set2, ↓at3, ↓set3, ↓at4, ↓set4, ↓at5, ↓set5, ↓at6, ↓set6, ↓at7, ↓set7, ↓at8, ↓set8, ↓at9, ↓set9, ↓at10, ↓set10, ↓at11, ↓set11, ↓at12, ↓set12, ↓at13, ↓set13, ↓at14, ↓set14, ↓at15, ↓set15, ↓fz_d, ↓fz_own, ↓fz_ob, ↓one_d, ↓int_d, ↓bool_d, ↓own_o, ↓ds_nil, ↓ds_cons, ↓seq_l, ↓seq_t, ↓ite_t, ↓ite_f, ↓e_next, ↓e_seq, ↓e_set, ↓e_drop, ↓e_ret, ↓e_ifs, ↓e_brk, ↓e_cnt, ↓e_fixs, ↓e_par, ↓e_par3, ↓e_asg, ↓e_for, ↓e_putAt, ↓e_jput, ↓e_var, ↓e_k, ↓e_fz, ↓e_op, ↓e_opL, ↓e_opR, ↓e_n, ↓e_n1, ↓e_nil, ↓e_cons, ↓e_tup, ↓e_lst, ↓e_b, ↓e_not, ↓e_and, ↓e_or, ↓e_andV, ↓e_orV, ↓e_notV, ↓e_if, ↓e_isi, ↓e_neg, ↓e_chain, ↓e_call, ↓e_callK, ↓e_jint, ↓e_dict0, ↓e_dict1, ↓e_listRng, ↓e_append, ↓e_cut, ↓e_cutO, ↓e_onone, ↓e_osome, ↓e_iseq, ↓e_ienum, ↓e_irng, ↓e_gname, ↓e_lnil, ↓e_lcons, ↓e_lc, ↓e_yes, ↓f_addI, ↓f_addS, ↓f_addT, ↓f_addL, ↓f_i2, ↓f_mulI, ↓f_mulT, ↓f_mulL, ↓f_eq, ↓f_ne, ↓f_is, ↓f_isnot, ↓f_in, ↓f_notin, ↓f_ixL, ↓f_ixT, ↓f_lenL, ↓f_lenT, ↓f_lenS, ↓f_abs, ↓f_intI, ↓f_intB, ↓f_tupL, ↓f_tupT, ↓f_lstL, ↓f_lstT, ↓f_repr, ↓f_cutL, ↓f_cutT, ↓firm_d, ↓firm_ob, ↓zip_l, ↓zip_t, ↓e_izip, ↓zip_cons, ↓zip_nil1, ↓zip_nil2, ↓f_sorted, ↓e_inn, ↓e_inc, ↓e_l2n, ↓e_l2c, ↓e_lc2, ↓e_rev, ↓e_pop, ↓e_popAt, ↓e_extend, ↓e_lc3, ↓e_gon, ↓e_goc, ↓e_dbMid, ↓e_dbIn, ↓f_neu, ↓e_ifT, ↓e_newD, ↓e_retO, ↓e_fixK, ↓e_putO, ↓e_dkO, ↓e_dkF, ↓e_kdO, ↓e_kdF, ↓e_get2O, ↓e_get2F, ↓e_ListD, ↓e_ListF, ↓od_o, ↓dct_d, ↓key_int, ↓key_str, ↓g_item, ↓g_get, ↓g_in, ↓g_notin, ↓h_list, ↓fz_od, ↓ow_ex, ↓e_tr, ↓e_trO, ↓e_trK, ↓tru_b, ↓tru_n, ↓tru_i, ↓tru_l, ↓tru_t, ↓tru_s, ↓e_i63, ↓n63_d, ↓e_ss, ↓dgTup_tup, ↓dgCons_cons, ↓dgNil_nil, ite_t, ite_f, itK_not, List.cons_append, List.nil_append, List.append_nil, List.replicate, List.flatten_cons, List.flatten_nil, List.append_eq, List.length_cons, List.length_nil, Nat.zero_add, Nat.reduceAdd, true_and, and_true, eqOk_str, eqOk_int, eqOk_bool, str_eqv, int_eqv, tup_nil_eqv, lst_nil_eqv, rep_flat, isK_int, isK_bool, isK_tuple, isK_str, kInt, kBool, kTuple, kStr, GB.isNon, Bool.not_true, Bool.not_false, Bool.or_false, Bool.or_true, Bool.false_or, Bool.true_or, reduceCtorEq, ↓s_draw, ↓s_pick]
    have put : ∀ x, Fld n x → K [S.ob Tk.jar, S.d (.list us), S.d (.int p), S.d (.list (.none :: us)), S.own (fs ++ [x]), S.d (.int k)] := fun x hx => hK _ ⟨fs ++ [x], _, rfl, by simp; omega, fun y hy => by
      rcases List.mem_append.mp hy with hy | hy
      · exact h2 y hy
      · rw [List.mem_singleton.mp hy]; exact hx⟩
    have ll : fs.length < sizeLine := Nat.lt_of_le_of_lt (show fs.length ≤ 60 by omega) (by decide)
    refine ⟨by decide, fun r r0 r1 => iteB (fun _ => ⟨List.cons_ne_nil _ _, by omega, fun x hx => ⟨ll, put x (fld_none hc x hx)⟩⟩) fun _ => ⟨ll, put _ (.inl rfl)⟩⟩
theorem pick5 {x : PyData} (hx : x ∈ [PyData.int 1, .int 2, .int 2, .int 3, .int 4]) : ∃ p : Nat, x = .int p ∧ p ≤ 4 := by
  simp only [List.mem_cons, List.not_mem_nil, or_false] at hx
  rcases hx with rfl | rfl | rfl | rfl | rfl
  · exact ⟨1, rfl, by decide⟩
  · exact ⟨2, rfl, by decide⟩
  · exact ⟨2, rfl, by decide⟩
  · exact ⟨3, rfl, by decide⟩
  · exact ⟨4, rfl, by decide⟩
theorem ma_l_hands : ∀ ss R, ss.length = 3 → F_l_hands ss R → rd_l_hands { nx := fun _ => R (.d .none), rt := R } (ss ++ List.replicate 5 .un) := by
  rintro _ R - ⟨n, m, us, rfl, hu, h1, hm, hc, q⟩
  unfold rd_l_hands
  simp only [↓at0, ↓set0, ↓at1, ↓set1, ↓at2, ↓set2, ↓at3, ↓set3, ↓at4, ↓set4, ↓at5, ↓set5, ↓at6, ↓set6, ↓at7, ↓set7, ↓at8, ↓set8, ↓at9, ↓set9, ↓at10, ↓set10, ↓at11, ↓set11, ↓at12, ↓set12, ↓at13, ↓set13, ↓at14, ↓set14, ↓at15, ↓set15, ↓fz_d, ↓fz_own, ↓fz_ob, ↓one_d, ↓int_d, ↓bool_d, ↓own_o, ↓ds_nil, ↓ds_cons, ↓seq_l, ↓seq_t, ↓ite_t, ↓ite_f, ↓e_next, ↓e_seq, ↓e_set, ↓e_drop, ↓e_ret, ↓e_ifs, ↓e_brk, ↓e_cnt, ↓e_fixs, ↓e_par, ↓e_par3, ↓e_asg, ↓e_for, ↓e_putAt, ↓e_jput, ↓e_var, ↓e_k, ↓e_fz, ↓e_op, ↓e_opL, ↓e_opR, ↓e_n, ↓e_n1, ↓e_nil, ↓e_cons, ↓e_tup, ↓e_lst, ↓e_b, ↓e_not, ↓e_and, ↓e_or, ↓e_andV, ↓e_orV, ↓e_notV, ↓e_if, ↓e_isi, ↓e_neg, ↓e_chain, ↓e_call, ↓e_callK, ↓e_jint, ↓e_dict0, ↓e_dict1, ↓e_listRng, ↓e_append, ↓e_cut, ↓e_cutO, ↓e_onone, ↓e_osome, ↓e_iseq, ↓e_ienum, ↓e_irng, ↓e_gname, ↓e_lnil, ↓e_lcons, ↓e_lc, ↓e_yes, ↓f_addI, ↓f_addS, ↓f_addT, ↓f_addL, ↓f_i2, ↓f_mulI, ↓f_mulT, ↓f_mulL, ↓f_eq, ↓f_ne, ↓f_is, ↓f_isnot, ↓f_in, ↓f_notin, ↓f_ixL, ↓f_ixT, ↓f_lenL, ↓f_lenT, ↓f_lenS, ↓f_abs, ↓f_intI, ↓f_intB, ↓f_tupL, ↓f_tupT, ↓f_lstL, ↓f_lstT, ↓f_repr, ↓f_cutL, ↓f_cutT, ↓firm_d, ↓firm_ob, ↓zip_l, ↓zip_t, ↓e_izip, ↓zip_cons, ↓zip_nil1, ↓zip_nil2, ↓f_sorted, ↓e_inn, ↓e_inc, ↓e_l2n, ↓e_l2c, ↓e_lc2, ↓e_rev, ↓e_pop, ↓e_popAt, ↓e_extend, ↓e_lc3, ↓e_gon, ↓e_goc, ↓e_dbMid, ↓e_dbIn, ↓f_neu, ↓e_ifT, ↓e_newD, ↓e_retO, ↓e_fixK, ↓e_putO, ↓e_dkO, ↓e_dkF, ↓e_kdO, ↓e_kdF, ↓e_get2O, ↓e_get2F, ↓e_ListD, ↓e_ListF, ↓od_o, ↓dct_d, ↓key_int, ↓key_str, ↓g_item, ↓g_get, ↓g_in, ↓g_notin, ↓h_list, ↓fz_od, ↓ow_ex, ↓e_tr, ↓e_trO, ↓e_trK, ↓tru_b, ↓tru_n, ↓tru_i, ↓tru_l, ↓tru_t, ↓tru_s, ↓e_i63, ↓n63_d, ↓e_ss, ↓dgTup_tup, ↓dgCons_cons, ↓dgNil_nil, ite_t, ite_f, itK_not, List.cons_append, List.nil_append, List.append_nil, List.replicate, List.flatten_cons, List.flatten_nil, List.append_eq, List.length_cons, List.length_nil, Nat.zero_add, Nat.reduceAdd, true_and, and_true, eqOk_str, eqOk_int, eqOk_bool, str_eqv, int_eqv, tup_nil_eqv, lst_nil_eqv, rep_flat, isK_int, isK_bool, isK_tuple, isK_str, kInt, kBool, kTuple, kStr, GB.isNon, Bool.not_true, Bool.not_false, Bool.or_false, Bool.or_true, Bool.false_or, Bool.true_or, reduceCtorEq, ↓s_draw]
  refine ⟨by decide, line_ge (by omega), by decide, by omega, fun r r0 r1 => ?_⟩
  obtain ⟨h, eh⟩ := one_plus r0
  rw [eh]
  have hh : h ≤ m := by have := r1 (by omega); omega
  refine ⟨big (by omega), low, loopR (fun _ j ρ => ∃ (rows : List PyData) (s5 s6 s7 : S), ρ = [S.ob Tk.jar, S.d (.list us), S.d (.int m), S.d (.list (.none :: us)), S.own rows, s5, s6, s7] ∧ rows.length + j = h ∧ ∀ x ∈ rows, Row n 4 x) ?_ ?_ _ 0 _ ⟨[], _, _, _, rfl, by simp, fun _ h => nomatch h⟩⟩
  · rintro k _ ⟨rows, s5, s6, s7, rfl, h1, h2⟩
    simp only [↓at0, ↓set0, ↓at1, ↓set1, ↓at2, ↓set2, ↓at3, ↓set3, ↓at4, ↓set4, ↓at5, ↓set5, ↓at6, ↓set6, ↓at7, ↓set7, ↓at8, ↓set8, ↓at9, ↓set9, ↓at10, ↓set10, ↓at11, ↓set11, ↓at12, ↓set12, ↓at13, ↓set13, ↓at14, ↓set14, ↓at15, ↓set15, ↓fz_d, ↓fz_own, ↓fz_ob, ↓one_d, ↓int_d, ↓bool_d, ↓own_o, ↓ds_nil, ↓ds_cons, ↓seq_l, ↓seq_t, ↓ite_t, ↓ite_f, ↓e_next, ↓e_seq, ↓e_set, ↓e_drop, ↓e_ret, ↓e_ifs, ↓e_brk, ↓e_cnt, ↓e_fixs, ↓e_par, ↓e_par3, ↓e_asg, ↓e_for, ↓e_putAt, ↓e_jput, ↓e_var, ↓e_k, ↓e_fz, ↓e_op, ↓e_opL, ↓e_opR, ↓e_n, ↓e_n1, ↓e_nil, ↓e_cons, ↓e_tup, ↓e_lst, ↓e_b, ↓e_not, ↓e_and, ↓e_or, ↓e_andV, ↓e_orV, ↓e_notV, ↓e_if, ↓e_isi, ↓e_neg, ↓e_chain, ↓e_call, ↓e_callK, ↓e_jint, ↓e_dict0, ↓e_dict1, ↓e_listRng, ↓e_append, ↓e_cut, ↓e_cutO, ↓e_onone, ↓e_osome, ↓e_iseq, ↓e_ienum, ↓e_irng, ↓e_gname, ↓e_lnil, ↓e_lcons, ↓e_lc, ↓e_yes, ↓f_addI, ↓f_addS, ↓f_addT, ↓f_addL, ↓f_i2, ↓f_mulI, ↓f_mulT, ↓f_mulL, ↓f_eq, ↓f_ne, ↓f_is, ↓f_isnot, ↓f_in, ↓f_notin, ↓f_ixL, ↓f_ixT, ↓f_lenL, ↓f_lenT, ↓f_lenS, ↓f_abs, ↓f_intI, ↓f_intB, ↓f_tupL, ↓f_tupT, ↓f_lstL, ↓f_lstT, ↓f_repr, ↓f_cutL, ↓f_cutT, ↓firm_d, ↓firm_ob, ↓zip_l, ↓zip_t, ↓e_izip, ↓zip_cons, ↓zip_nil1, ↓zip_nil2, ↓f_sorted, ↓e_inn, ↓e_inc, ↓e_l2n, ↓e_l2c, ↓e_lc2, ↓e_rev, ↓e_pop, ↓e_popAt, ↓e_extend, ↓e_lc3, ↓e_gon, ↓e_goc, ↓e_dbMid, ↓e_dbIn, ↓f_neu, ↓e_ifT, ↓e_newD, ↓e_retO, ↓e_fixK, ↓e_putO, ↓e_dkO, ↓e_dkF, ↓e_kdO, ↓e_kdF, ↓e_get2O, ↓e_get2F, ↓e_ListD, ↓e_ListF, ↓od_o, ↓dct_d, ↓key_int, ↓key_str, ↓g_item, ↓g_get, ↓g_in, ↓g_notin, ↓h_list, ↓fz_od, ↓ow_ex, ↓e_tr, ↓e_trO, ↓e_trK, ↓tru_b, ↓tru_n, ↓tru_i, ↓tru_l, ↓tru_t, ↓tru_s, ↓e_i63, ↓n63_d, ↓e_ss, ↓dgTup_tup, ↓dgCons_cons, ↓dgNil_nil, ite_t, ite_f, itK_not, List.cons_append, List.nil_append, List.append_nil, List.replicate, List.flatten_cons, List.flatten_nil, List.append_eq, List.length_cons, List.length_nil, Nat.zero_add, Nat.reduceAdd, true_and, and_true, eqOk_str, eqOk_int, eqOk_bool, str_eqv, int_eqv, tup_nil_eqv, lst_nil_eqv, rep_flat, isK_int, isK_bool, isK_tuple, isK_str, kInt, kBool, kTuple, kStr, GB.isNon, Bool.not_true, Bool.not_false, Bool.or_false, Bool.or_true, Bool.false_or, Bool.true_or, reduceCtorEq, ]
    exact q rows (by omega) h2
  · rintro k j _ K hK ⟨rows, s5, s6, s7, rfl, h1, h2⟩
    simp only [↓at0, ↓set0, ↓at1, ↓set1, ↓at2, ↓set2, ↓at3, ↓set3, ↓at4, ↓set4, ↓at5, ↓set5, ↓at6, ↓set6, ↓at7, ↓set7, ↓at8, ↓set8, ↓at9, ↓set9, ↓at10, ↓set10, ↓at11, ↓set11, ↓at12, ↓set12, ↓at13, ↓set13, ↓at14, ↓set14, ↓at15, ↓set15, ↓fz_d, ↓fz_own, ↓fz_ob, ↓one_d, ↓int_d, ↓bool_d, ↓own_o, ↓ds_nil, ↓ds_cons, ↓seq_l, ↓seq_t, ↓ite_t, ↓ite_f, ↓e_next, ↓e_seq, ↓e_set, ↓e_drop, ↓e_ret, ↓e_ifs, ↓e_brk, ↓e_cnt, ↓e_fixs, ↓e_par, ↓e_par3, ↓e_asg, ↓e_for, ↓e_putAt, ↓e_jput, ↓e_var, ↓e_k, ↓e_fz, ↓e_op, ↓e_opL, ↓e_opR, ↓e_n, ↓e_n1, ↓e_nil, ↓e_cons, ↓e_tup, ↓e_lst, ↓e_b, ↓e_not, ↓e_and, ↓e_or, ↓e_andV, ↓e_orV, ↓e_notV, ↓e_if, ↓e_isi, ↓e_neg, ↓e_chain, ↓e_call, ↓e_callK, ↓e_jint, ↓e_dict0, ↓e_dict1, ↓e_listRng, ↓e_append, ↓e_cut, ↓e_cutO, ↓e_onone, ↓e_osome, ↓e_iseq, ↓e_ienum, ↓e_irng, ↓e_gname, ↓e_lnil, ↓e_lcons, ↓e_lc, ↓e_yes, ↓f_addI, ↓f_addS, ↓f_addT, ↓f_addL, ↓f_i2, ↓f_mulI, ↓f_mulT, ↓f_mulL, ↓f_eq, ↓f_ne, ↓f_is, ↓f_isnot, ↓f_in, ↓f_notin, ↓f_ixL, ↓f_ixT, ↓f_lenL, ↓f_lenT, ↓f_lenS, ↓f_abs, ↓f_intI, ↓f_intB, ↓f_tupL, ↓f_tupT, ↓f_lstL, ↓f_lstT, ↓f_repr, ↓f_cutL, ↓f_cutT, ↓firm_d, ↓firm_ob, ↓zip_l, ↓zip_t, ↓e_izip, ↓zip_cons, ↓zip_nil1, ↓zip_nil2, ↓f_sorted, ↓e_inn, ↓e_inc, ↓e_l2n, ↓e_l2c, ↓e_lc2, ↓e_rev, ↓e_pop, ↓e_popAt, ↓e_extend, ↓e_lc3, ↓e_gon, ↓e_goc, ↓e_dbMid, ↓e_dbIn, ↓f_neu, ↓e_ifT, ↓e_newD, ↓e_retO, ↓e_fixK, ↓e_putO, ↓e_dkO, ↓e_dkF, ↓e_kdO, ↓e_kdF, ↓e_get2O, ↓e_get2F, ↓e_ListD, ↓e_ListF, ↓od_o, ↓dct_d, ↓key_int, ↓key_str, ↓g_item, ↓g_get, ↓g_in, ↓g_notin, ↓h_list, ↓fz_od, ↓ow_ex, ↓e_tr, ↓e_trO, ↓e_trK, ↓tru_b, ↓tru_n, ↓tru_i, ↓tru_l, ↓tru_t, ↓tru_s, ↓e_i63, ↓n63_d, ↓e_ss, ↓dgTup_tup, ↓dgCons_cons, ↓dgNil_nil, ite_t, ite_f, itK_not, List.cons_append, List.nil_append, List.append_nil, List.replicate, List.flatten_cons, List.flatten_nil, List.append_eq, List.length_cons, List.length_nil, Nat.zero_add, Nat.reduceAdd, true_and, and_true, eqOk_str, eqOk_int, eqOk_bool, str_eqv, int_eqv, tup_nil_eqv, lst_nil_eqv, rep_flat, isK_int, isK_bool, isK_tuple, isK_str, kInt, kBool, kTuple, kStr, GB.isNon, Bool.not_true, Bool.not_false, Bool.or_false, Bool.or_true, Bool.false_or, Bool.true_or, reduceCtorEq, wipeD, List.set, ↓s_pick]
    refine ⟨by decide, List.cons_ne_nil _ _, by decide, fun x hx => ?_⟩
    obtain ⟨p, rfl, hp⟩ := pick5 hx
    simp only [↓at0, ↓set0, ↓at1, ↓set1, ↓at2, ↓set2, ↓at3, ↓set3, ↓at4, ↓set4, ↓at5, ↓set5, ↓at6, ↓set6, ↓at7, ↓set7, ↓at8, ↓set8, ↓at9, ↓set9, ↓at10, ↓set10, ↓at11, ↓set11, ↓at12, ↓set12, ↓at13, ↓set13, ↓at14, ↓set14, ↓at15, ↓set15, ↓fz_d, ↓fz_own, ↓fz_ob, ↓one_d, ↓int_d, ↓bool_d, ↓own_o, ↓ds_nil, ↓ds_cons, ↓seq_l, ↓seq_t, ↓ite_t, ↓ite_f, ↓e_next, ↓e_seq, ↓e_set, ↓e_drop, ↓e_ret, ↓e_ifs, ↓e_brk, ↓e_cnt, ↓e_fixs, ↓e_par, ↓e_par3, ↓e_asg, ↓e_for, ↓e_putAt, ↓e_jput, ↓e_var, ↓e_k, ↓e_fz, ↓e_op, ↓e_opL, ↓e_opR, ↓e_n, ↓e_n1, ↓e_nil, ↓e_cons, ↓e_tup, ↓e_lst, ↓e_b, ↓e_not, ↓e_and, ↓e_or, ↓e_andV, ↓e_orV, ↓e_notV, ↓e_if, ↓e_isi, ↓e_neg, ↓e_chain, ↓e_call, ↓e_callK, ↓e_jint, ↓e_dict0, ↓e_dict1, ↓e_listRng, ↓e_append, ↓e_cut, ↓e_cutO, ↓e_onone, ↓e_osome, ↓e_iseq, ↓e_ienum, ↓e_irng, ↓e_gname, ↓e_lnil, ↓e_lcons, ↓e_lc, ↓e_yes, ↓f_addI, ↓f_addS, ↓f_addT, ↓f_addL, ↓f_i2, ↓f_mulI, ↓f_mulT, ↓f_mulL, ↓f_eq, ↓f_ne, ↓f_is, ↓f_isnot, ↓f_in, ↓f_notin, ↓f_ixL, ↓f_ixT, ↓f_lenL, ↓f_lenT, ↓f_lenS, ↓f_abs, ↓f_intI, ↓f_intB, ↓f_tupL, ↓f_tupT, ↓f_lstL, ↓f_lstT, ↓f_repr, ↓f_cutL, ↓f_cutT, ↓firm_d, ↓firm_ob, ↓zip_l, ↓zip_t, ↓e_izip, ↓zip_cons, ↓zip_nil1, ↓zip_nil2, ↓f_sorted, ↓e_inn, ↓e_inc, ↓e_l2n, ↓e_l2c, ↓e_lc2, ↓e_rev, ↓e_pop, ↓e_popAt, ↓e_extend, ↓e_lc3, ↓e_gon, ↓e_goc, ↓e_dbMid, ↓e_dbIn, ↓f_neu, ↓e_ifT, ↓e_newD, ↓e_retO, ↓e_fixK, ↓e_putO, ↓e_dkO, ↓e_dkF, ↓e_kdO, ↓e_kdF, ↓e_get2O, ↓e_get2F, ↓e_ListD, ↓e_ListF, ↓od_o, ↓dct_d, ↓key_int, ↓key_str, ↓g_item, ↓g_get, ↓g_in, ↓g_notin, ↓h_list, ↓fz_od, ↓ow_ex, ↓e_tr, ↓e_trO, ↓e_trK, ↓tru_b, ↓tru_n, ↓tru_i, ↓tru_l, ↓tru_t, ↓tru_s, ↓e_i63, ↓n63_d, ↓e_ss, ↓dgTup_tup, ↓dgCons_cons, ↓dgNil_nil, ite_t, ite_f, itK_not, List.cons_append, List.nil_append, List.append_nil, List.replicate, List.flatten_cons, List.flatten_nil, List.append_eq, List.length_cons, List.length_nil, Nat.zero_add, Nat.reduceAdd, true_and, and_true, eqOk_str, eqOk_int, eqOk_bool, str_eqv, int_eqv, tup_nil_eqv, lst_nil_eqv, rep_flat, isK_int, isK_bool, isK_tuple, isK_str, kInt, kBool, kTuple, kStr, GB.isNon, Bool.not_true, Bool.not_false, Bool.or_false, Bool.or_true, Bool.false_or, Bool.true_or, reduceCtorEq, wipeD, List.set]
    refine ⟨big (by omega), low, line_ge (by rw [irow_len]; simp; omega), all_run (P := Fld n) (fun acc l1 l2 => ?_) fun d hd acc K2 hK2 => ?_⟩
    · rw [irow_len] at l1
      refine ⟨Nat.lt_of_le_of_lt (show rows.length ≤ 60 by omega) (by decide), hK _ ⟨_, _, _, _, rfl, by rw [List.length_append, List.length_singleton]; omega, fun x hx => ?_⟩⟩
      rcases List.mem_append.mp hx with hx | hx
      · exact h2 x hx
      · exact ⟨acc, List.mem_singleton.mp hx, by simp at l1; omega, l2⟩
    · simp only [↓at0, ↓set0, ↓at1, ↓set1, ↓at2, ↓set2, ↓at3, ↓set3, ↓at4, ↓set4, ↓at5, ↓set5, ↓at6, ↓set6, ↓at7, ↓set7, ↓at8, ↓set8, ↓at9, ↓set9, ↓at10, ↓set10, ↓at11, ↓set11, ↓at12, ↓set12, ↓at13, ↓set13, ↓at14, ↓set14, ↓at15, ↓set15, ↓fz_d, ↓fz_own, ↓fz_ob, ↓one_d, ↓int_d, ↓bool_d, ↓own_o, ↓ds_nil, ↓ds_cons, ↓seq_l, ↓seq_t, ↓ite_t, ↓ite_f, ↓e_next, ↓e_seq, ↓e_set, ↓e_drop, ↓e_ret, ↓e_ifs, ↓e_brk, ↓e_cnt, ↓e_fixs, ↓e_par, ↓e_par3, ↓e_asg, ↓e_for, ↓e_putAt, ↓e_jput, ↓e_var, ↓e_k, ↓e_fz, ↓e_op, ↓e_opL, ↓e_opR, ↓e_n, ↓e_n1, ↓e_nil, ↓e_cons, ↓e_tup, ↓e_lst, ↓e_b, ↓e_not, ↓e_and, ↓e_or, ↓e_andV, ↓e_orV, ↓e_notV, ↓e_if, ↓e_isi, ↓e_neg, ↓e_chain, ↓e_call, ↓e_callK, ↓e_jint, ↓e_dict0, ↓e_dict1, ↓e_listRng, ↓e_append, ↓e_cut, ↓e_cutO, ↓e_onone, ↓e_osome, ↓e_iseq, ↓e_ienum, ↓e_irng, ↓e_gname, ↓e_lnil, ↓e_lcons, ↓e_lc, ↓e_yes, ↓f_addI, ↓f_addS, ↓f_addT, ↓f_addL, ↓f_i2, ↓f_mulI, ↓f_mulT, ↓f_mulL, ↓f_eq, ↓f_ne, ↓f_is, ↓f_isnot, ↓f_in, ↓f_notin, ↓f_ixL, ↓f_ixT, ↓f_lenL, ↓f_lenT, ↓f_lenS, ↓f_abs, ↓f_intI, ↓f_intB, ↓f_tupL, ↓f_tupT, ↓f_lstL, ↓f_lstT, ↓f_repr, ↓f_cutL, ↓f_cutT, ↓firm_d, ↓firm_ob, ↓zip_l, ↓zip_t, ↓e_izip, ↓zip_cons, ↓zip_nil1, ↓zip_nil2, ↓f_sorted, ↓e_inn, ↓e_inc, ↓e_l2n, ↓e_l2c, ↓e_lc2, ↓e_rev, ↓e_pop, ↓e_popAt, ↓e_extend, ↓e_lc3, ↓e_gon, ↓e_goc, ↓e_dbMid, ↓e_dbIn, ↓f_neu, ↓e_ifT, ↓e_newD, ↓e_retO, ↓e_fixK, ↓e_putO, ↓e_dkO, ↓e_dkF, ↓e_kdO, ↓e_kdF, ↓e_get2O, ↓e_get2F, ↓e_ListD, ↓e_ListF, ↓od_o, ↓dct_d, ↓key_int, ↓key_str, ↓g_item, ↓g_get, ↓g_in, ↓g_notin, ↓h_list, ↓fz_od, ↓ow_ex, ↓e_tr, ↓e_trO, ↓e_trK, ↓tru_b, ↓tru_n, ↓tru_i, ↓tru_l, ↓tru_t, ↓tru_s, ↓e_i63, ↓n63_d, ↓e_ss, ↓dgTup_tup, ↓dgCons_cons, ↓dgNil_nil, ite_t, ite_f, itK_not, List.cons_append, List.nil_append, List.append_nil, List.replicate, List.flatten_cons, List.flatten_nil, List.append_eq, List.length_cons, List.length_nil, Nat.zero_add, Nat.reduceAdd, true_and, and_true, eqOk_str, eqOk_int, eqOk_bool, str_eqv, int_eqv, tup_nil_eqv, lst_nil_eqv, rep_flat, isK_int, isK_bool, isK_tuple, isK_str, kInt, kBool, kTuple, kStr, GB.isNon, Bool.not_true, Bool.not_false, Bool.or_false, Bool.or_true, Bool.false_or, Bool.true_or, reduceCtorEq, wipeD, List.set]
      exact s_pick.mpr ⟨List.cons_ne_nil _ _, by rw [List.length_cons]; omega, fun x hx => one_d.mpr (hK2 x (fld_none hc x hx))⟩
theorem ma_l_mark : ∀ ss R, ss.length = 2 → F_l_mark ss R → rd_l_mark { nx := fun _ => R (.d .none), rt := R } (ss ++ List.replicate 0 .un) := by
  rintro _ R - ⟨fs, rfl, h3, q⟩
  unfold rd_l_mark
  simp only [↓at0, ↓set0, ↓at1, ↓set1, ↓at2, ↓set2, ↓at3, ↓set3, ↓at4, ↓set4, ↓at5, ↓set5, ↓at6, ↓set6, ↓at7, ↓set7, ↓at8, ↓set8, ↓at9, ↓set9, ↓at10, ↓set10, ↓at11, ↓set11, ↓at12, ↓set12, ↓at13, ↓set13, ↓at14, ↓set14, ↓at15, ↓set15, ↓fz_d, ↓fz_own, ↓fz_ob, ↓one_d, ↓int_d, ↓bool_d, ↓own_o, ↓ds_nil, ↓ds_cons, ↓seq_l, ↓seq_t, ↓ite_t, ↓ite_f, ↓e_next, ↓e_seq, ↓e_set, ↓e_drop, ↓e_ret, ↓e_ifs, ↓e_brk, ↓e_cnt, ↓e_fixs, ↓e_par, ↓e_par3, ↓e_asg, ↓e_for, ↓e_putAt, ↓e_jput, ↓e_var, ↓e_k, ↓e_fz, ↓e_op, ↓e_opL, ↓e_opR, ↓e_n, ↓e_n1, ↓e_nil, ↓e_cons, ↓e_tup, ↓e_lst, ↓e_b, ↓e_not, ↓e_and, ↓e_or, ↓e_andV, ↓e_orV, ↓e_notV, ↓e_if, ↓e_isi, ↓e_neg, ↓e_chain, ↓e_call, ↓e_callK, ↓e_jint, ↓e_dict0, ↓e_dict1, ↓e_listRng, ↓e_append, ↓e_cut, ↓e_cutO, ↓e_onone, ↓e_osome, ↓e_iseq, ↓e_ienum, ↓e_irng, ↓e_gname, ↓e_lnil, ↓e_lcons, ↓e_lc, ↓e_yes, ↓f_addI, ↓f_addS, ↓f_addT, ↓f_addL, ↓f_i2, ↓f_mulI, ↓f_mulT, ↓f_mulL, ↓f_eq, ↓f_ne, ↓f_is, ↓f_isnot, ↓f_in, ↓f_notin, ↓f_ixL, ↓f_ixT, ↓f_lenL, ↓f_lenT, ↓f_lenS, ↓f_abs, ↓f_intI, ↓f_intB, ↓f_tupL, ↓f_tupT, ↓f_lstL, ↓f_lstT, ↓f_repr, ↓f_cutL, ↓f_cutT, ↓firm_d, ↓firm_ob, ↓zip_l, ↓zip_t, ↓e_izip, ↓zip_cons, ↓zip_nil1, ↓zip_nil2, ↓f_sorted, ↓e_inn, ↓e_inc, ↓e_l2n, ↓e_l2c, ↓e_lc2, ↓e_rev, ↓e_pop, ↓e_popAt, ↓e_extend, ↓e_lc3, ↓e_gon, ↓e_goc, ↓e_dbMid, ↓e_dbIn, ↓f_neu, ↓e_ifT, ↓e_newD, ↓e_retO, ↓e_fixK, ↓e_putO, ↓e_dkO, ↓e_dkF, ↓e_kdO, ↓e_kdF, ↓e_get2O, ↓e_get2F, ↓e_ListD, ↓e_ListF, ↓od_o, ↓dct_d, ↓key_int, ↓key_str, ↓g_item, ↓g_get, ↓g_in, ↓g_notin, ↓h_list, ↓fz_od, ↓ow_ex, ↓e_tr, ↓e_trO, ↓e_trK, ↓tru_b, ↓tru_n, ↓tru_i, ↓tru_l, ↓tru_t, ↓tru_s, ↓e_i63, ↓n63_d, ↓e_ss, ↓dgTup_tup, ↓dgCons_cons, ↓dgNil_nil, ite_t, ite_f, itK_not, List.cons_append, List.nil_append, List.append_nil, List.replicate, List.flatten_cons, List.flatten_nil, List.append_eq, List.length_cons, List.length_nil, Nat.zero_add, Nat.reduceAdd, true_and, and_true, eqOk_str, eqOk_int, eqOk_bool, str_eqv, int_eqv, tup_nil_eqv, lst_nil_eqv, rep_flat, isK_int, isK_bool, isK_tuple, isK_str, kInt, kBool, kTuple, kStr, GB.isNon, Bool.not_true, Bool.not_false, Bool.or_false, Bool.or_true, Bool.false_or, Bool.true_or, reduceCtorEq, ↓s_pick]
  have il : (irow 0 ((fs.length : Nat) : Int).toNat).length ≤ 3 := by rw [irow_len]; omega
  refine ⟨by decide, by omega, by omega, line_ge (by omega), List.cons_ne_nil _ _, by omega, fun x hx => q x ?_⟩
  rcases List.mem_cons.mp hx with rfl | hx
  · exact .inl rfl
  rcases List.mem_cons.mp hx with rfl | hx
  · exact .inl rfl
  rcases List.mem_cons.mp hx with rfl | hx
  · exact .inr (.inl rfl)
  obtain ⟨i, rfl, hi⟩ := irow_in hx
  exact .inr (.inr (.inr ⟨i, rfl, by simpa using hi⟩))
theorem s_fields {k : S → Prop} {n : Nat} {us : List PyData} (hu : us.length ≤ 60) (hc : Cells n us) (h : ∀ xs : List PyData, xs.length ≤ 3 → (∀ x ∈ xs, Fld n x) → k (.d (.tuple xs))) : F_l_fields [.ob .jar, .d (.list us)] k := ⟨n, us, rfl, hu, hc, h⟩
theorem s_hands {k : S → Prop} {n m : Nat} {us : List PyData} (hu : us.length ≤ 60) (h1 : 1 ≤ m) (h2 : m ≤ 50) (hc : Cells n us) (h : ∀ xs : List PyData, xs.length ≤ m → (∀ x ∈ xs, Row n 4 x) → k (.d (.tuple xs))) : F_l_hands [.ob .jar, .d (.list us), .d (.int m)] k := ⟨n, m, us, rfl, hu, h1, h2, hc, h⟩
theorem s_mark {k : S → Prop} {fs : List PyData} (h3 : fs.length ≤ 3) (h : ∀ x, Mark fs x → k (.d x)) : F_l_mark [.ob .jar, .d (.tuple fs)] k := ⟨fs, rfl, h3, h⟩
theorem ma_l_standing : ∀ ss R, ss.length = 4 → F_l_standing ss R → rd_l_standing { nx := fun _ => R (.d .none), rt := R } (ss ++ List.replicate 7 .un) := by
  rintro _ R - ⟨n, k, m, rfl, hn, h1, hm, q⟩
  unfold rd_l_standing
  simp only [↓at0, ↓set0, ↓at1, ↓set1, ↓at2, ↓set2, ↓at3, ↓set3, ↓at4, ↓set4, ↓at5, ↓set5, ↓at6, ↓set6, ↓at7, ↓set7, ↓at8, ↓set8, ↓at9, ↓set9, ↓at10, ↓set10, ↓at11, ↓set11, ↓at12, ↓set12, ↓at13, ↓set13, ↓at14, ↓set14, ↓at15, ↓set15, ↓fz_d, ↓fz_own, ↓fz_ob, ↓one_d, ↓int_d, ↓bool_d, ↓own_o, ↓ds_nil, ↓ds_cons, ↓seq_l, ↓seq_t, ↓ite_t, ↓ite_f, ↓e_next, ↓e_seq, ↓e_set, ↓e_drop, ↓e_ret, ↓e_ifs, ↓e_brk, ↓e_cnt, ↓e_fixs, ↓e_par, ↓e_par3, ↓e_asg, ↓e_for, ↓e_putAt, ↓e_jput, ↓e_var, ↓e_k, ↓e_fz, ↓e_op, ↓e_opL, ↓e_opR, ↓e_n, ↓e_n1, ↓e_nil, ↓e_cons, ↓e_tup, ↓e_lst, ↓e_b, ↓e_not, ↓e_and, ↓e_or, ↓e_andV, ↓e_orV, ↓e_notV, ↓e_if, ↓e_isi, ↓e_neg, ↓e_chain, ↓e_call, ↓e_callK, ↓e_jint, ↓e_dict0, ↓e_dict1, ↓e_listRng, ↓e_append, ↓e_cut, ↓e_cutO, ↓e_onone, ↓e_osome, ↓e_iseq, ↓e_ienum, ↓e_irng, ↓e_gname, ↓e_lnil, ↓e_lcons, ↓e_lc, ↓e_yes, ↓f_addI, ↓f_addS, ↓f_addT, ↓f_addL, ↓f_i2, ↓f_mulI, ↓f_mulT, ↓f_mulL, ↓f_eq, ↓f_ne, ↓f_is, ↓f_isnot, ↓f_in, ↓f_notin, ↓f_ixL, ↓f_ixT, ↓f_lenL, ↓f_lenT, ↓f_lenS, ↓f_abs, ↓f_intI, ↓f_intB, ↓f_tupL, ↓f_tupT, ↓f_lstL, ↓f_lstT, ↓f_repr, ↓f_cutL, ↓f_cutT, ↓firm_d, ↓firm_ob, ↓zip_l, ↓zip_t, ↓e_izip, ↓zip_cons, ↓zip_nil1, ↓zip_nil2, ↓f_sorted, ↓e_inn, ↓e_inc, ↓e_l2n, ↓e_l2c, ↓e_lc2, ↓e_rev, ↓e_pop, ↓e_popAt, ↓e_extend, ↓e_lc3, ↓e_gon, ↓e_goc, ↓e_dbMid, ↓e_dbIn, ↓f_neu, ↓e_ifT, ↓e_newD, ↓e_retO, ↓e_fixK, ↓e_putO, ↓e_dkO, ↓e_dkF, ↓e_kdO, ↓e_kdF, ↓e_get2O, ↓e_get2F, ↓e_ListD, ↓e_ListF, ↓od_o, ↓dct_d, ↓key_int, ↓key_str, ↓g_item, ↓g_get, ↓g_in, ↓g_notin, ↓h_list, ↓fz_od, ↓ow_ex, ↓e_tr, ↓e_trO, ↓e_trK, ↓tru_b, ↓tru_n, ↓tru_i, ↓tru_l, ↓tru_t, ↓tru_s, ↓e_i63, ↓n63_d, ↓e_ss, ↓dgTup_tup, ↓dgCons_cons, ↓dgNil_nil, ite_t, ite_f, itK_not, List.cons_append, List.nil_append, List.append_nil, List.replicate, List.flatten_cons, List.flatten_nil, List.append_eq, List.length_cons, List.length_nil, Nat.zero_add, Nat.reduceAdd, true_and, and_true, eqOk_str, eqOk_int, eqOk_bool, str_eqv, int_eqv, tup_nil_eqv, lst_nil_eqv, rep_flat, isK_int, isK_bool, isK_tuple, isK_str, kInt, kBool, kTuple, kStr, GB.isNon, Bool.not_true, Bool.not_false, Bool.or_false, Bool.or_true, Bool.false_or, Bool.true_or, reduceCtorEq, ]
  have eN : ((n : Int) + (k : Int)) = ((n + k : Nat) : Int) := by omega
  rw [eN]
  refine ⟨by omega, by omega, s_mixed.mpr ⟨by rw [irow_len]; simp; omega, fun x hx => ?_, fun us pm => ?_⟩⟩
  · obtain ⟨i, rfl, _⟩ := irow_in hx
    exact ⟨rfl, by simp [PyData.depth]⟩
  have uc : Cells (n + k) us := fun x hx => by
    obtain ⟨i, e, h⟩ := irow_in (pm.mem_iff.mp hx)
    exact ⟨i, e, by simp at h; omega⟩
  have ul : us.length = n + k := by have := pm.length_eq; rw [irow_len] at this; simp at this; omega
  have cu : ∀ x ∈ GB.cutD us none (some (n : Int)), ∃ i : Nat, x = .int i ∧ i < n + k := fun x hx => uc x (List.mem_of_mem_drop (List.mem_of_mem_take hx))
  have cl := GB.cutD_len us none (some (n : Int))
  have ec : GB.cutD us none (some (n : Int)) = ((GB.cutD us none (some (n : Int))).map nI).map PyData.int := by
    rw [List.map_map]
    exact (List.map_id _).symm.trans (List.map_congr_left fun x hx => by obtain ⟨i, rfl, _⟩ := cu x hx; rfl)
  simp only [↓at0, ↓set0, ↓at1, ↓set1, ↓at2, ↓set2, ↓at3, ↓set3, ↓at4, ↓set4, ↓at5, ↓set5, ↓at6, ↓set6, ↓at7, ↓set7, ↓at8, ↓set8, ↓at9, ↓set9, ↓at10, ↓set10, ↓at11, ↓set11, ↓at12, ↓set12, ↓at13, ↓set13, ↓at14, ↓set14, ↓at15, ↓set15, ↓fz_d, ↓fz_own, ↓fz_ob, ↓one_d, ↓int_d, ↓bool_d, ↓own_o, ↓ds_nil, ↓ds_cons, ↓seq_l, ↓seq_t, ↓ite_t, ↓ite_f, ↓e_next, ↓e_seq, ↓e_set, ↓e_drop, ↓e_ret, ↓e_ifs, ↓e_brk, ↓e_cnt, ↓e_fixs, ↓e_par, ↓e_par3, ↓e_asg, ↓e_for, ↓e_putAt, ↓e_jput, ↓e_var, ↓e_k, ↓e_fz, ↓e_op, ↓e_opL, ↓e_opR, ↓e_n, ↓e_n1, ↓e_nil, ↓e_cons, ↓e_tup, ↓e_lst, ↓e_b, ↓e_not, ↓e_and, ↓e_or, ↓e_andV, ↓e_orV, ↓e_notV, ↓e_if, ↓e_isi, ↓e_neg, ↓e_chain, ↓e_call, ↓e_callK, ↓e_jint, ↓e_dict0, ↓e_dict1, ↓e_listRng, ↓e_append, ↓e_cut, ↓e_cutO, ↓e_onone, ↓e_osome, ↓e_iseq, ↓e_ienum, ↓e_irng, ↓e_gname, ↓e_lnil, ↓e_lcons, ↓e_lc, ↓e_yes, ↓f_addI, ↓f_addS, ↓f_addT, ↓f_addL, ↓f_i2, ↓f_mulI, ↓f_mulT, ↓f_mulL, ↓f_eq, ↓f_ne, ↓f_is, ↓f_isnot, ↓f_in, ↓f_notin, ↓f_ixL, ↓f_ixT, ↓f_lenL, ↓f_lenT, ↓f_lenS, ↓f_abs, ↓f_intI, ↓f_intB, ↓f_tupL, ↓f_tupT, ↓f_lstL, ↓f_lstT, ↓f_repr, ↓f_cutL, ↓f_cutT, ↓firm_d, ↓firm_ob, ↓zip_l, ↓zip_t, ↓e_izip, ↓zip_cons, ↓zip_nil1, ↓zip_nil2, ↓f_sorted, ↓e_inn, ↓e_inc, ↓e_l2n, ↓e_l2c, ↓e_lc2, ↓e_rev, ↓e_pop, ↓e_popAt, ↓e_extend, ↓e_lc3, ↓e_gon, ↓e_goc, ↓e_dbMid, ↓e_dbIn, ↓f_neu, ↓e_ifT, ↓e_newD, ↓e_retO, ↓e_fixK, ↓e_putO, ↓e_dkO, ↓e_dkF, ↓e_kdO, ↓e_kdF, ↓e_get2O, ↓e_get2F, ↓e_ListD, ↓e_ListF, ↓od_o, ↓dct_d, ↓key_int, ↓key_str, ↓g_item, ↓g_get, ↓g_in, ↓g_notin, ↓h_list, ↓fz_od, ↓ow_ex, ↓e_tr, ↓e_trO, ↓e_trK, ↓tru_b, ↓tru_n, ↓tru_i, ↓tru_l, ↓tru_t, ↓tru_s, ↓e_i63, ↓n63_d, ↓e_ss, ↓dgTup_tup, ↓dgCons_cons, ↓dgNil_nil, ite_t, ite_f, itK_not, List.cons_append, List.nil_append, List.append_nil, List.replicate, List.flatten_cons, List.flatten_nil, List.append_eq, List.length_cons, List.length_nil, Nat.zero_add, Nat.reduceAdd, true_and, and_true, eqOk_str, eqOk_int, eqOk_bool, str_eqv, int_eqv, tup_nil_eqv, lst_nil_eqv, rep_flat, isK_int, isK_bool, isK_tuple, isK_str, kInt, kBool, kTuple, kStr, GB.isNon, Bool.not_true, Bool.not_false, Bool.or_false, Bool.or_true, Bool.false_or, Bool.true_or, reduceCtorEq, ]
  rw [ec]
  refine f_sorted.mpr fun ns' p1 _ => ?_
  have vl : (ns'.map PyData.int).length ≤ 60 := by have := p1.length_eq; rw [List.length_map] at this ⊢; omega
  have vc : Cells (n + k) (ns'.map PyData.int) := fun x hx => cu x (by rw [ec]; exact (p1.map PyData.int).mem_iff.mp hx)
  generalize ns'.map PyData.int = vs at vl vc ⊢
  simp only [↓at0, ↓set0, ↓at1, ↓set1, ↓at2, ↓set2, ↓at3, ↓set3, ↓at4, ↓set4, ↓at5, ↓set5, ↓at6, ↓set6, ↓at7, ↓set7, ↓at8, ↓set8, ↓at9, ↓set9, ↓at10, ↓set10, ↓at11, ↓set11, ↓at12, ↓set12, ↓at13, ↓set13, ↓at14, ↓set14, ↓at15, ↓set15, ↓fz_d, ↓fz_own, ↓fz_ob, ↓one_d, ↓int_d, ↓bool_d, ↓own_o, ↓ds_nil, ↓ds_cons, ↓seq_l, ↓seq_t, ↓ite_t, ↓ite_f, ↓e_next, ↓e_seq, ↓e_set, ↓e_drop, ↓e_ret, ↓e_ifs, ↓e_brk, ↓e_cnt, ↓e_fixs, ↓e_par, ↓e_par3, ↓e_asg, ↓e_for, ↓e_putAt, ↓e_jput, ↓e_var, ↓e_k, ↓e_fz, ↓e_op, ↓e_opL, ↓e_opR, ↓e_n, ↓e_n1, ↓e_nil, ↓e_cons, ↓e_tup, ↓e_lst, ↓e_b, ↓e_not, ↓e_and, ↓e_or, ↓e_andV, ↓e_orV, ↓e_notV, ↓e_if, ↓e_isi, ↓e_neg, ↓e_chain, ↓e_call, ↓e_callK, ↓e_jint, ↓e_dict0, ↓e_dict1, ↓e_listRng, ↓e_append, ↓e_cut, ↓e_cutO, ↓e_onone, ↓e_osome, ↓e_iseq, ↓e_ienum, ↓e_irng, ↓e_gname, ↓e_lnil, ↓e_lcons, ↓e_lc, ↓e_yes, ↓f_addI, ↓f_addS, ↓f_addT, ↓f_addL, ↓f_i2, ↓f_mulI, ↓f_mulT, ↓f_mulL, ↓f_eq, ↓f_ne, ↓f_is, ↓f_isnot, ↓f_in, ↓f_notin, ↓f_ixL, ↓f_ixT, ↓f_lenL, ↓f_lenT, ↓f_lenS, ↓f_abs, ↓f_intI, ↓f_intB, ↓f_tupL, ↓f_tupT, ↓f_lstL, ↓f_lstT, ↓f_repr, ↓f_cutL, ↓f_cutT, ↓firm_d, ↓firm_ob, ↓zip_l, ↓zip_t, ↓e_izip, ↓zip_cons, ↓zip_nil1, ↓zip_nil2, ↓f_sorted, ↓e_inn, ↓e_inc, ↓e_l2n, ↓e_l2c, ↓e_lc2, ↓e_rev, ↓e_pop, ↓e_popAt, ↓e_extend, ↓e_lc3, ↓e_gon, ↓e_goc, ↓e_dbMid, ↓e_dbIn, ↓f_neu, ↓e_ifT, ↓e_newD, ↓e_retO, ↓e_fixK, ↓e_putO, ↓e_dkO, ↓e_dkF, ↓e_kdO, ↓e_kdF, ↓e_get2O, ↓e_get2F, ↓e_ListD, ↓e_ListF, ↓od_o, ↓dct_d, ↓key_int, ↓key_str, ↓g_item, ↓g_get, ↓g_in, ↓g_notin, ↓h_list, ↓fz_od, ↓ow_ex, ↓e_tr, ↓e_trO, ↓e_trK, ↓tru_b, ↓tru_n, ↓tru_i, ↓tru_l, ↓tru_t, ↓tru_s, ↓e_i63, ↓n63_d, ↓e_ss, ↓dgTup_tup, ↓dgCons_cons, ↓dgNil_nil, ite_t, ite_f, itK_not, List.cons_append, List.nil_append, List.append_nil, List.replicate, List.flatten_cons, List.flatten_nil, List.append_eq, List.length_cons, List.length_nil, Nat.zero_add, Nat.reduceAdd, true_and, and_true, eqOk_str, eqOk_int, eqOk_bool, str_eqv, int_eqv, tup_nil_eqv, lst_nil_eqv, rep_flat, isK_int, isK_bool, isK_tuple, isK_str, kInt, kBool, kTuple, kStr, GB.isNon, Bool.not_true, Bool.not_false, Bool.or_false, Bool.or_true, Bool.false_or, Bool.true_or, reduceCtorEq, ]
  refine ⟨by decide, by decide, big hn, low, loopR (fun k' j ρ => ∃ (cs : Cs) (s8 : S), ρ = [S.ob Tk.jar, S.d (.int n), S.d (.int k), S.d (.int m), S.d (.list us), S.d (.list vs), S.own (cs.map fun c => .tuple c.1), S.own (cs.map fun c => c.2), s8, .un, .un] ∧ k' = (cs.length : Int) ∧ cs.length + j = n + k ∧ ∀ c ∈ cs, Cel (n + k) c) ?_ ?_ _ 0 _ ⟨[], _, rfl, rfl, by simp; omega, fun _ h => nomatch h⟩⟩
  · rintro k' _ ⟨cs, s8, rfl, rfl, h2, h3⟩
    have h2 : cs.length = n + k := h2
    refine e_seq.mpr ?_
    simp only [↓at0, ↓set0, ↓at1, ↓set1, ↓at2, ↓set2, ↓at3, ↓set3, ↓at4, ↓set4, ↓at5, ↓set5, ↓at6, ↓set6, ↓at7, ↓set7, ↓at8, ↓set8, ↓at9, ↓set9, ↓at10, ↓set10, ↓at11, ↓set11, ↓at12, ↓set12, ↓at13, ↓set13, ↓at14, ↓set14, ↓at15, ↓set15, ↓fz_d, ↓fz_own, ↓fz_ob, ↓one_d, ↓int_d, ↓bool_d, ↓own_o, ↓ds_nil, ↓ds_cons, ↓seq_l, ↓seq_t, ↓ite_t, ↓ite_f, ↓e_next, ↓e_seq, ↓e_set, ↓e_drop, ↓e_ret, ↓e_ifs, ↓e_brk, ↓e_cnt, ↓e_fixs, ↓e_par, ↓e_par3, ↓e_asg, ↓e_for, ↓e_putAt, ↓e_jput, ↓e_var, ↓e_k, ↓e_fz, ↓e_op, ↓e_opL, ↓e_opR, ↓e_n, ↓e_n1, ↓e_nil, ↓e_cons, ↓e_tup, ↓e_lst, ↓e_b, ↓e_not, ↓e_and, ↓e_or, ↓e_andV, ↓e_orV, ↓e_notV, ↓e_if, ↓e_isi, ↓e_neg, ↓e_chain, ↓e_call, ↓e_callK, ↓e_jint, ↓e_dict0, ↓e_dict1, ↓e_listRng, ↓e_append, ↓e_cut, ↓e_cutO, ↓e_onone, ↓e_osome, ↓e_iseq, ↓e_ienum, ↓e_irng, ↓e_gname, ↓e_lnil, ↓e_lcons, ↓e_lc, ↓e_yes, ↓f_addI, ↓f_addS, ↓f_addT, ↓f_addL, ↓f_i2, ↓f_mulI, ↓f_mulT, ↓f_mulL, ↓f_eq, ↓f_ne, ↓f_is, ↓f_isnot, ↓f_in, ↓f_notin, ↓f_ixL, ↓f_ixT, ↓f_lenL, ↓f_lenT, ↓f_lenS, ↓f_abs, ↓f_intI, ↓f_intB, ↓f_tupL, ↓f_tupT, ↓f_lstL, ↓f_lstT, ↓f_repr, ↓f_cutL, ↓f_cutT, ↓firm_d, ↓firm_ob, ↓zip_l, ↓zip_t, ↓e_izip, ↓zip_cons, ↓zip_nil1, ↓zip_nil2, ↓f_sorted, ↓e_inn, ↓e_inc, ↓e_l2n, ↓e_l2c, ↓e_lc2, ↓e_rev, ↓e_pop, ↓e_popAt, ↓e_extend, ↓e_lc3, ↓e_gon, ↓e_goc, ↓e_dbMid, ↓e_dbIn, ↓f_neu, ↓e_ifT, ↓e_newD, ↓e_retO, ↓e_fixK, ↓e_putO, ↓e_dkO, ↓e_dkF, ↓e_kdO, ↓e_kdF, ↓e_get2O, ↓e_get2F, ↓e_ListD, ↓e_ListF, ↓od_o, ↓dct_d, ↓key_int, ↓key_str, ↓g_item, ↓g_get, ↓g_in, ↓g_notin, ↓h_list, ↓fz_od, ↓ow_ex, ↓e_tr, ↓e_trO, ↓e_trK, ↓tru_b, ↓tru_n, ↓tru_i, ↓tru_l, ↓tru_t, ↓tru_s, ↓e_i63, ↓n63_d, ↓e_ss, ↓dgTup_tup, ↓dgCons_cons, ↓dgNil_nil, ite_t, ite_f, itK_not, List.cons_append, List.nil_append, List.append_nil, List.replicate, List.flatten_cons, List.flatten_nil, List.append_eq, List.length_cons, List.length_nil, Nat.zero_add, Nat.reduceAdd, true_and, and_true, eqOk_str, eqOk_int, eqOk_bool, str_eqv, int_eqv, tup_nil_eqv, lst_nil_eqv, rep_flat, isK_int, isK_bool, isK_tuple, isK_str, kInt, kBool, kTuple, kStr, GB.isNon, Bool.not_true, Bool.not_false, Bool.or_false, Bool.or_true, Bool.false_or, Bool.true_or, reduceCtorEq, ]
    refine s_hands vl h1 hm vc fun rm m1 m2 => ?_
    simp only [↓at0, ↓set0, ↓at1, ↓set1, ↓at2, ↓set2, ↓at3, ↓set3, ↓at4, ↓set4, ↓at5, ↓set5, ↓at6, ↓set6, ↓at7, ↓set7, ↓at8, ↓set8, ↓at9, ↓set9, ↓at10, ↓set10, ↓at11, ↓set11, ↓at12, ↓set12, ↓at13, ↓set13, ↓at14, ↓set14, ↓at15, ↓set15, ↓fz_d, ↓fz_own, ↓fz_ob, ↓one_d, ↓int_d, ↓bool_d, ↓own_o, ↓ds_nil, ↓ds_cons, ↓seq_l, ↓seq_t, ↓ite_t, ↓ite_f, ↓e_next, ↓e_seq, ↓e_set, ↓e_drop, ↓e_ret, ↓e_ifs, ↓e_brk, ↓e_cnt, ↓e_fixs, ↓e_par, ↓e_par3, ↓e_asg, ↓e_for, ↓e_putAt, ↓e_jput, ↓e_var, ↓e_k, ↓e_fz, ↓e_op, ↓e_opL, ↓e_opR, ↓e_n, ↓e_n1, ↓e_nil, ↓e_cons, ↓e_tup, ↓e_lst, ↓e_b, ↓e_not, ↓e_and, ↓e_or, ↓e_andV, ↓e_orV, ↓e_notV, ↓e_if, ↓e_isi, ↓e_neg, ↓e_chain, ↓e_call, ↓e_callK, ↓e_jint, ↓e_dict0, ↓e_dict1, ↓e_listRng, ↓e_append, ↓e_cut, ↓e_cutO, ↓e_onone, ↓e_osome, ↓e_iseq, ↓e_ienum, ↓e_irng, ↓e_gname, ↓e_lnil, ↓e_lcons, ↓e_lc, ↓e_yes, ↓f_addI, ↓f_addS, ↓f_addT, ↓f_addL, ↓f_i2, ↓f_mulI, ↓f_mulT, ↓f_mulL, ↓f_eq, ↓f_ne, ↓f_is, ↓f_isnot, ↓f_in, ↓f_notin, ↓f_ixL, ↓f_ixT, ↓f_lenL, ↓f_lenT, ↓f_lenS, ↓f_abs, ↓f_intI, ↓f_intB, ↓f_tupL, ↓f_tupT, ↓f_lstL, ↓f_lstT, ↓f_repr, ↓f_cutL, ↓f_cutT, ↓firm_d, ↓firm_ob, ↓zip_l, ↓zip_t, ↓e_izip, ↓zip_cons, ↓zip_nil1, ↓zip_nil2, ↓f_sorted, ↓e_inn, ↓e_inc, ↓e_l2n, ↓e_l2c, ↓e_lc2, ↓e_rev, ↓e_pop, ↓e_popAt, ↓e_extend, ↓e_lc3, ↓e_gon, ↓e_goc, ↓e_dbMid, ↓e_dbIn, ↓f_neu, ↓e_ifT, ↓e_newD, ↓e_retO, ↓e_fixK, ↓e_putO, ↓e_dkO, ↓e_dkF, ↓e_kdO, ↓e_kdF, ↓e_get2O, ↓e_get2F, ↓e_ListD, ↓e_ListF, ↓od_o, ↓dct_d, ↓key_int, ↓key_str, ↓g_item, ↓g_get, ↓g_in, ↓g_notin, ↓h_list, ↓fz_od, ↓ow_ex, ↓e_tr, ↓e_trO, ↓e_trK, ↓tru_b, ↓tru_n, ↓tru_i, ↓tru_l, ↓tru_t, ↓tru_s, ↓e_i63, ↓n63_d, ↓e_ss, ↓dgTup_tup, ↓dgCons_cons, ↓dgNil_nil, ite_t, ite_f, itK_not, List.cons_append, List.nil_append, List.append_nil, List.replicate, List.flatten_cons, List.flatten_nil, List.append_eq, List.length_cons, List.length_nil, Nat.zero_add, Nat.reduceAdd, true_and, and_true, eqOk_str, eqOk_int, eqOk_bool, str_eqv, int_eqv, tup_nil_eqv, lst_nil_eqv, rep_flat, isK_int, isK_bool, isK_tuple, isK_str, kInt, kBool, kTuple, kStr, GB.isNon, Bool.not_true, Bool.not_false, Bool.or_false, Bool.or_true, Bool.false_or, Bool.true_or, reduceCtorEq, wipeD, List.set]
    refine ⟨line_ge (by omega), all_run (P := IsB) (fun lk l1 l2 => ⟨by decide, ?_⟩) fun d hd acc K2 hK2 => ?_⟩
    · exact q cs rm lk h2 ⟨by omega, fun c hc => by rw [h2]; exact h3 c hc⟩ ⟨by omega, l1, m2, l2⟩
    · simp only [↓at0, ↓set0, ↓at1, ↓set1, ↓at2, ↓set2, ↓at3, ↓set3, ↓at4, ↓set4, ↓at5, ↓set5, ↓at6, ↓set6, ↓at7, ↓set7, ↓at8, ↓set8, ↓at9, ↓set9, ↓at10, ↓set10, ↓at11, ↓set11, ↓at12, ↓set12, ↓at13, ↓set13, ↓at14, ↓set14, ↓at15, ↓set15, ↓fz_d, ↓fz_own, ↓fz_ob, ↓one_d, ↓int_d, ↓bool_d, ↓own_o, ↓ds_nil, ↓ds_cons, ↓seq_l, ↓seq_t, ↓ite_t, ↓ite_f, ↓e_next, ↓e_seq, ↓e_set, ↓e_drop, ↓e_ret, ↓e_ifs, ↓e_brk, ↓e_cnt, ↓e_fixs, ↓e_par, ↓e_par3, ↓e_asg, ↓e_for, ↓e_putAt, ↓e_jput, ↓e_var, ↓e_k, ↓e_fz, ↓e_op, ↓e_opL, ↓e_opR, ↓e_n, ↓e_n1, ↓e_nil, ↓e_cons, ↓e_tup, ↓e_lst, ↓e_b, ↓e_not, ↓e_and, ↓e_or, ↓e_andV, ↓e_orV, ↓e_notV, ↓e_if, ↓e_isi, ↓e_neg, ↓e_chain, ↓e_call, ↓e_callK, ↓e_jint, ↓e_dict0, ↓e_dict1, ↓e_listRng, ↓e_append, ↓e_cut, ↓e_cutO, ↓e_onone, ↓e_osome, ↓e_iseq, ↓e_ienum, ↓e_irng, ↓e_gname, ↓e_lnil, ↓e_lcons, ↓e_lc, ↓e_yes, ↓f_addI, ↓f_addS, ↓f_addT, ↓f_addL, ↓f_i2, ↓f_mulI, ↓f_mulT, ↓f_mulL, ↓f_eq, ↓f_ne, ↓f_is, ↓f_isnot, ↓f_in, ↓f_notin, ↓f_ixL, ↓f_ixT, ↓f_lenL, ↓f_lenT, ↓f_lenS, ↓f_abs, ↓f_intI, ↓f_intB, ↓f_tupL, ↓f_tupT, ↓f_lstL, ↓f_lstT, ↓f_repr, ↓f_cutL, ↓f_cutT, ↓firm_d, ↓firm_ob, ↓zip_l, ↓zip_t, ↓e_izip, ↓zip_cons, ↓zip_nil1, ↓zip_nil2, ↓f_sorted, ↓e_inn, ↓e_inc, ↓e_l2n, ↓e_l2c, ↓e_lc2, ↓e_rev, ↓e_pop, ↓e_popAt, ↓e_extend, ↓e_lc3, ↓e_gon, ↓e_goc, ↓e_dbMid, ↓e_dbIn, ↓f_neu, ↓e_ifT, ↓e_newD, ↓e_retO, ↓e_fixK, ↓e_putO, ↓e_dkO, ↓e_dkF, ↓e_kdO, ↓e_kdF, ↓e_get2O, ↓e_get2F, ↓e_ListD, ↓e_ListF, ↓od_o, ↓dct_d, ↓key_int, ↓key_str, ↓g_item, ↓g_get, ↓g_in, ↓g_notin, ↓h_list, ↓fz_od, ↓ow_ex, ↓e_tr, ↓e_trO, ↓e_trK, ↓tru_b, ↓tru_n, ↓tru_i, ↓tru_l, ↓tru_t, ↓tru_s, ↓e_i63, ↓n63_d, ↓e_ss, ↓dgTup_tup, ↓dgCons_cons, ↓dgNil_nil, ite_t, ite_f, itK_not, List.cons_append, List.nil_append, List.append_nil, List.replicate, List.flatten_cons, List.flatten_nil, List.append_eq, List.length_cons, List.length_nil, Nat.zero_add, Nat.reduceAdd, true_and, and_true, eqOk_str, eqOk_int, eqOk_bool, str_eqv, int_eqv, tup_nil_eqv, lst_nil_eqv, rep_flat, isK_int, isK_bool, isK_tuple, isK_str, kInt, kBool, kTuple, kStr, GB.isNon, Bool.not_true, Bool.not_false, Bool.or_false, Bool.or_true, Bool.false_or, Bool.true_or, reduceCtorEq, wipeD, List.set, ↓s_draw]
      exact ⟨by decide, fun r _ _ => hK2 _ ⟨_, rfl⟩⟩
  · rintro k' j _ K hK ⟨cs, s8, rfl, rfl, h2, h3⟩
    obtain ⟨b, hb⟩ := cells_in vc (cs.length : Int)
    have len1 : (cs.map fun c => PyData.tuple c.1).length < sizeLine := by rw [List.length_map]; exact Nat.lt_of_le_of_lt (show cs.length ≤ 60 by omega) (by decide)
    have len2 : (cs.map fun c => c.2).length < sizeLine := by rw [List.length_map]; exact Nat.lt_of_le_of_lt (show cs.length ≤ 60 by omega) (by decide)
    have put : ∀ (c : List PyData × PyData), Cel (n + k) c → K [S.ob Tk.jar, S.d (.int n), S.d (.int k), S.d (.int m), S.d (.list us), S.d (.list vs), S.own (cs.map (fun c => PyData.tuple c.1) ++ [.tuple c.1]), S.own (cs.map (fun c => c.2) ++ [c.2]), S.d (.int (cs.length : Int)), .un, .un] := fun c hc => hK _ ⟨cs ++ [c], .d (.int (cs.length : Int)), by simp only [List.map_append, List.map_cons, List.map_nil], by simp, by simp; omega, fun x hx => by
      rcases List.mem_append.mp hx with hx | hx
      · exact h3 x hx
      · rw [List.mem_singleton.mp hx]; exact hc⟩
    simp only [↓at0, ↓set0, ↓at1, ↓set1, ↓at2, ↓set2, ↓at3, ↓set3, ↓at4, ↓set4, ↓at5, ↓set5, ↓at6, ↓set6, ↓at7, ↓set7, ↓at8, ↓set8, ↓at9, ↓set9, ↓at10, ↓set10, ↓at11, ↓set11, ↓at12, ↓set12, ↓at13, ↓set13, ↓at14, ↓set14, ↓at15, ↓set15, ↓fz_d, ↓fz_own, ↓fz_ob, ↓one_d, ↓int_d, ↓bool_d, ↓own_o, ↓ds_nil, ↓ds_cons, ↓seq_l, ↓seq_t, ↓ite_t, ↓ite_f, ↓e_next, ↓e_seq, ↓e_set, ↓e_drop, ↓e_ret, ↓e_ifs, ↓e_brk, ↓e_cnt, ↓e_fixs, ↓e_par, ↓e_par3, ↓e_asg, ↓e_for, ↓e_putAt, ↓e_jput, ↓e_var, ↓e_k, ↓e_fz, ↓e_op, ↓e_opL, ↓e_opR, ↓e_n, ↓e_n1, ↓e_nil, ↓e_cons, ↓e_tup, ↓e_lst, ↓e_b, ↓e_not, ↓e_and, ↓e_or, ↓e_andV, ↓e_orV, ↓e_notV, ↓e_if, ↓e_isi, ↓e_neg, ↓e_chain, ↓e_call, ↓e_callK, ↓e_jint, ↓e_dict0, ↓e_dict1, ↓e_listRng, ↓e_append, ↓e_cut, ↓e_cutO, ↓e_onone, ↓e_osome, ↓e_iseq, ↓e_ienum, ↓e_irng, ↓e_gname, ↓e_lnil, ↓e_lcons, ↓e_lc, ↓e_yes, ↓f_addI, ↓f_addS, ↓f_addT, ↓f_addL, ↓f_i2, ↓f_mulI, ↓f_mulT, ↓f_mulL, ↓f_eq, ↓f_ne, ↓f_is, ↓f_isnot, ↓f_in, ↓f_notin, ↓f_ixL, ↓f_ixT, ↓f_lenL, ↓f_lenT, ↓f_lenS, ↓f_abs, ↓f_intI, ↓f_intB, ↓f_tupL, ↓f_tupT, ↓f_lstL, ↓f_lstT, ↓f_repr, ↓f_cutL, ↓f_cutT, ↓firm_d, ↓firm_ob, ↓zip_l, ↓zip_t, ↓e_izip, ↓zip_cons, ↓zip_nil1, ↓zip_nil2, ↓f_sorted, ↓e_inn, ↓e_inc, ↓e_l2n, ↓e_l2c, ↓e_lc2, ↓e_rev, ↓e_pop, ↓e_popAt, ↓e_extend, ↓e_lc3, ↓e_gon, ↓e_goc, ↓e_dbMid, ↓e_dbIn, ↓f_neu, ↓e_ifT, ↓e_newD, ↓e_retO, ↓e_fixK, ↓e_putO, ↓e_dkO, ↓e_dkF, ↓e_kdO, ↓e_kdF, ↓e_get2O, ↓e_get2F, ↓e_ListD, ↓e_ListF, ↓od_o, ↓dct_d, ↓key_int, ↓key_str, ↓g_item, ↓g_get, ↓g_in, ↓g_notin, ↓h_list, ↓fz_od, ↓ow_ex, ↓e_tr, ↓e_trO, ↓e_trK, ↓tru_b, ↓tru_n, ↓tru_i, ↓tru_l, ↓tru_t, ↓tru_s, ↓e_i63, ↓n63_d, ↓e_ss, ↓dgTup_tup, ↓dgCons_cons, ↓dgNil_nil, ite_t, ite_f, itK_not, List.cons_append, List.nil_append, List.append_nil, List.replicate, List.flatten_cons, List.flatten_nil, List.append_eq, List.length_cons, List.length_nil, Nat.zero_add, Nat.reduceAdd, true_and, and_true, eqOk_str, eqOk_int, eqOk_bool, str_eqv, int_eqv, tup_nil_eqv, lst_nil_eqv, rep_flat, isK_int, isK_bool, isK_tuple, isK_str, kInt, kBool, kTuple, kStr, GB.isNon, Bool.not_true, Bool.not_false, Bool.or_false, Bool.or_true, Bool.false_or, Bool.true_or, reduceCtorEq, inE' hb, ↓s_draw, ↓s_pick]
    cases b
    · refine ite_f.mpr ?_
      simp only [↓at0, ↓set0, ↓at1, ↓set1, ↓at2, ↓set2, ↓at3, ↓set3, ↓at4, ↓set4, ↓at5, ↓set5, ↓at6, ↓set6, ↓at7, ↓set7, ↓at8, ↓set8, ↓at9, ↓set9, ↓at10, ↓set10, ↓at11, ↓set11, ↓at12, ↓set12, ↓at13, ↓set13, ↓at14, ↓set14, ↓at15, ↓set15, ↓fz_d, ↓fz_own, ↓fz_ob, ↓one_d, ↓int_d, ↓bool_d, ↓own_o, ↓ds_nil, ↓ds_cons, ↓seq_l, ↓seq_t, ↓ite_t, ↓ite_f, ↓e_next, ↓e_seq, ↓e_set, ↓e_drop, ↓e_ret, ↓e_ifs, ↓e_brk, ↓e_cnt, ↓e_fixs, ↓e_par, ↓e_par3, ↓e_asg, ↓e_for, ↓e_putAt, ↓e_jput, ↓e_var, ↓e_k, ↓e_fz, ↓e_op, ↓e_opL, ↓e_opR, ↓e_n, ↓e_n1, ↓e_nil, ↓e_cons, ↓e_tup, ↓e_lst, ↓e_b, ↓e_not, ↓e_and, ↓e_or, ↓e_andV, ↓e_orV, ↓e_notV, ↓e_if, ↓e_isi, ↓e_neg, ↓e_chain, ↓e_call, ↓e_callK, ↓e_jint, ↓e_dict0, ↓e_dict1, ↓e_listRng, ↓e_append, ↓e_cut, ↓e_cutO, ↓e_onone, ↓e_osome, ↓e_iseq, ↓e_ienum, ↓e_irng, ↓e_gname, ↓e_lnil, ↓e_lcons, ↓e_lc, ↓e_yes, ↓f_addI, ↓f_addS, ↓f_addT, ↓f_addL, ↓f_i2, ↓f_mulI, ↓f_mulT, ↓f_mulL, ↓f_eq, ↓f_ne, ↓f_is, ↓f_isnot, ↓f_in, ↓f_notin, ↓f_ixL, ↓f_ixT, ↓f_lenL, ↓f_lenT, ↓f_lenS, ↓f_abs, ↓f_intI, ↓f_intB, ↓f_tupL, ↓f_tupT, ↓f_lstL, ↓f_lstT, ↓f_repr, ↓f_cutL, ↓f_cutT, ↓firm_d, ↓firm_ob, ↓zip_l, ↓zip_t, ↓e_izip, ↓zip_cons, ↓zip_nil1, ↓zip_nil2, ↓f_sorted, ↓e_inn, ↓e_inc, ↓e_l2n, ↓e_l2c, ↓e_lc2, ↓e_rev, ↓e_pop, ↓e_popAt, ↓e_extend, ↓e_lc3, ↓e_gon, ↓e_goc, ↓e_dbMid, ↓e_dbIn, ↓f_neu, ↓e_ifT, ↓e_newD, ↓e_retO, ↓e_fixK, ↓e_putO, ↓e_dkO, ↓e_dkF, ↓e_kdO, ↓e_kdF, ↓e_get2O, ↓e_get2F, ↓e_ListD, ↓e_ListF, ↓od_o, ↓dct_d, ↓key_int, ↓key_str, ↓g_item, ↓g_get, ↓g_in, ↓g_notin, ↓h_list, ↓fz_od, ↓ow_ex, ↓e_tr, ↓e_trO, ↓e_trK, ↓tru_b, ↓tru_n, ↓tru_i, ↓tru_l, ↓tru_t, ↓tru_s, ↓e_i63, ↓n63_d, ↓e_ss, ↓dgTup_tup, ↓dgCons_cons, ↓dgNil_nil, ite_t, ite_f, itK_not, List.cons_append, List.nil_append, List.append_nil, List.replicate, List.flatten_cons, List.flatten_nil, List.append_eq, List.length_cons, List.length_nil, Nat.zero_add, Nat.reduceAdd, true_and, and_true, eqOk_str, eqOk_int, eqOk_bool, str_eqv, int_eqv, tup_nil_eqv, lst_nil_eqv, rep_flat, isK_int, isK_bool, isK_tuple, isK_str, kInt, kBool, kTuple, kStr, GB.isNon, Bool.not_true, Bool.not_false, Bool.or_false, Bool.or_true, Bool.false_or, Bool.true_or, reduceCtorEq, inE' hb]
      exact ⟨by decide, len1, len2, put ([], .str "free") ⟨by simp, (fun _ h => nomatch h), .inr (.inr (.inl ⟨rfl, rfl⟩))⟩⟩
    · refine ite_t.mpr (s_fields vl vc fun fs f1 f2 => ?_)
      simp only [↓at0, ↓set0, ↓at1, ↓set1, ↓at2, ↓set2, ↓at3, ↓set3, ↓at4, ↓set4, ↓at5, ↓set5, ↓at6, ↓set6, ↓at7, ↓set7, ↓at8, ↓set8, ↓at9, ↓set9, ↓at10, ↓set10, ↓at11, ↓set11, ↓at12, ↓set12, ↓at13, ↓set13, ↓at14, ↓set14, ↓at15, ↓set15, ↓fz_d, ↓fz_own, ↓fz_ob, ↓one_d, ↓int_d, ↓bool_d, ↓own_o, ↓ds_nil, ↓ds_cons, ↓seq_l, ↓seq_t, ↓ite_t, ↓ite_f, ↓e_next, ↓e_seq, ↓e_set, ↓e_drop, ↓e_ret, ↓e_ifs, ↓e_brk, ↓e_cnt, ↓e_fixs, ↓e_par, ↓e_par3, ↓e_asg, ↓e_for, ↓e_putAt, ↓e_jput, ↓e_var, ↓e_k, ↓e_fz, ↓e_op, ↓e_opL, ↓e_opR, ↓e_n, ↓e_n1, ↓e_nil, ↓e_cons, ↓e_tup, ↓e_lst, ↓e_b, ↓e_not, ↓e_and, ↓e_or, ↓e_andV, ↓e_orV, ↓e_notV, ↓e_if, ↓e_isi, ↓e_neg, ↓e_chain, ↓e_call, ↓e_callK, ↓e_jint, ↓e_dict0, ↓e_dict1, ↓e_listRng, ↓e_append, ↓e_cut, ↓e_cutO, ↓e_onone, ↓e_osome, ↓e_iseq, ↓e_ienum, ↓e_irng, ↓e_gname, ↓e_lnil, ↓e_lcons, ↓e_lc, ↓e_yes, ↓f_addI, ↓f_addS, ↓f_addT, ↓f_addL, ↓f_i2, ↓f_mulI, ↓f_mulT, ↓f_mulL, ↓f_eq, ↓f_ne, ↓f_is, ↓f_isnot, ↓f_in, ↓f_notin, ↓f_ixL, ↓f_ixT, ↓f_lenL, ↓f_lenT, ↓f_lenS, ↓f_abs, ↓f_intI, ↓f_intB, ↓f_tupL, ↓f_tupT, ↓f_lstL, ↓f_lstT, ↓f_repr, ↓f_cutL, ↓f_cutT, ↓firm_d, ↓firm_ob, ↓zip_l, ↓zip_t, ↓e_izip, ↓zip_cons, ↓zip_nil1, ↓zip_nil2, ↓f_sorted, ↓e_inn, ↓e_inc, ↓e_l2n, ↓e_l2c, ↓e_lc2, ↓e_rev, ↓e_pop, ↓e_popAt, ↓e_extend, ↓e_lc3, ↓e_gon, ↓e_goc, ↓e_dbMid, ↓e_dbIn, ↓f_neu, ↓e_ifT, ↓e_newD, ↓e_retO, ↓e_fixK, ↓e_putO, ↓e_dkO, ↓e_dkF, ↓e_kdO, ↓e_kdF, ↓e_get2O, ↓e_get2F, ↓e_ListD, ↓e_ListF, ↓od_o, ↓dct_d, ↓key_int, ↓key_str, ↓g_item, ↓g_get, ↓g_in, ↓g_notin, ↓h_list, ↓fz_od, ↓ow_ex, ↓e_tr, ↓e_trO, ↓e_trK, ↓tru_b, ↓tru_n, ↓tru_i, ↓tru_l, ↓tru_t, ↓tru_s, ↓e_i63, ↓n63_d, ↓e_ss, ↓dgTup_tup, ↓dgCons_cons, ↓dgNil_nil, ite_t, ite_f, itK_not, List.cons_append, List.nil_append, List.append_nil, List.replicate, List.flatten_cons, List.flatten_nil, List.append_eq, List.length_cons, List.length_nil, Nat.zero_add, Nat.reduceAdd, true_and, and_true, eqOk_str, eqOk_int, eqOk_bool, str_eqv, int_eqv, tup_nil_eqv, lst_nil_eqv, rep_flat, isK_int, isK_bool, isK_tuple, isK_str, kInt, kBool, kTuple, kStr, GB.isNon, Bool.not_true, Bool.not_false, Bool.or_false, Bool.or_true, Bool.false_or, Bool.true_or, reduceCtorEq, inE' hb]
      have ix : atI (cs.map (fun c => PyData.tuple c.1) ++ [.tuple fs]) (cs.length : Int) = some (.tuple fs) := at_n (by rw [List.getElem?_append_right (by simp)]; simp)
      refine ⟨len1, _, ix, s_mark f1 fun x hx => ?_⟩
      simp only [↓at0, ↓set0, ↓at1, ↓set1, ↓at2, ↓set2, ↓at3, ↓set3, ↓at4, ↓set4, ↓at5, ↓set5, ↓at6, ↓set6, ↓at7, ↓set7, ↓at8, ↓set8, ↓at9, ↓set9, ↓at10, ↓set10, ↓at11, ↓set11, ↓at12, ↓set12, ↓at13, ↓set13, ↓at14, ↓set14, ↓at15, ↓set15, ↓fz_d, ↓fz_own, ↓fz_ob, ↓one_d, ↓int_d, ↓bool_d, ↓own_o, ↓ds_nil, ↓ds_cons, ↓seq_l, ↓seq_t, ↓ite_t, ↓ite_f, ↓e_next, ↓e_seq, ↓e_set, ↓e_drop, ↓e_ret, ↓e_ifs, ↓e_brk, ↓e_cnt, ↓e_fixs, ↓e_par, ↓e_par3, ↓e_asg, ↓e_for, ↓e_putAt, ↓e_jput, ↓e_var, ↓e_k, ↓e_fz, ↓e_op, ↓e_opL, ↓e_opR, ↓e_n, ↓e_n1, ↓e_nil, ↓e_cons, ↓e_tup, ↓e_lst, ↓e_b, ↓e_not, ↓e_and, ↓e_or, ↓e_andV, ↓e_orV, ↓e_notV, ↓e_if, ↓e_isi, ↓e_neg, ↓e_chain, ↓e_call, ↓e_callK, ↓e_jint, ↓e_dict0, ↓e_dict1, ↓e_listRng, ↓e_append, ↓e_cut, ↓e_cutO, ↓e_onone, ↓e_osome, ↓e_iseq, ↓e_ienum, ↓e_irng, ↓e_gname, ↓e_lnil, ↓e_lcons, ↓e_lc, ↓e_yes, ↓f_addI, ↓f_addS, ↓f_addT, ↓f_addL, ↓f_i2, ↓f_mulI, ↓f_mulT, ↓f_mulL, ↓f_eq, ↓f_ne, ↓f_is, ↓f_isnot, ↓f_in, ↓f_notin, ↓f_ixL, ↓f_ixT, ↓f_lenL, ↓f_lenT, ↓f_lenS, ↓f_abs, ↓f_intI, ↓f_intB, ↓f_tupL, ↓f_tupT, ↓f_lstL, ↓f_lstT, ↓f_repr, ↓f_cutL, ↓f_cutT, ↓firm_d, ↓firm_ob, ↓zip_l, ↓zip_t, ↓e_izip, ↓zip_cons, ↓zip_nil1, ↓zip_nil2, ↓f_sorted, ↓e_inn, ↓e_inc, ↓e_l2n, ↓e_l2c, ↓e_lc2, ↓e_rev, ↓e_pop, ↓e_popAt, ↓e_extend, ↓e_lc3, ↓e_gon, ↓e_goc, ↓e_dbMid, ↓e_dbIn, ↓f_neu, ↓e_ifT, ↓e_newD, ↓e_retO, ↓e_fixK, ↓e_putO, ↓e_dkO, ↓e_dkF, ↓e_kdO, ↓e_kdF, ↓e_get2O, ↓e_get2F, ↓e_ListD, ↓e_ListF, ↓od_o, ↓dct_d, ↓key_int, ↓key_str, ↓g_item, ↓g_get, ↓g_in, ↓g_notin, ↓h_list, ↓fz_od, ↓ow_ex, ↓e_tr, ↓e_trO, ↓e_trK, ↓tru_b, ↓tru_n, ↓tru_i, ↓tru_l, ↓tru_t, ↓tru_s, ↓e_i63, ↓n63_d, ↓e_ss, ↓dgTup_tup, ↓dgCons_cons, ↓dgNil_nil, ite_t, ite_f, itK_not, List.cons_append, List.nil_append, List.append_nil, List.replicate, List.flatten_cons, List.flatten_nil, List.append_eq, List.length_cons, List.length_nil, Nat.zero_add, Nat.reduceAdd, true_and, and_true, eqOk_str, eqOk_int, eqOk_bool, str_eqv, int_eqv, tup_nil_eqv, lst_nil_eqv, rep_flat, isK_int, isK_bool, isK_tuple, isK_str, kInt, kBool, kTuple, kStr, GB.isNon, Bool.not_true, Bool.not_false, Bool.or_false, Bool.or_true, Bool.false_or, Bool.true_or, reduceCtorEq, ]
      exact ⟨len2, put (fs, x) ⟨f1, f2, hx⟩⟩
end GK

set_option maxRecDepth 100000
namespace GK
open PySem PySem.Spec PyProof.Rows L2 GB
theorem filt_wave {us : List PyData} : us.filter nN = us.filter fun x => !GB.isNon x := rfl
theorem ma_l_depths : ∀ ss R, ss.length = 2 → F_l_depths ss R → rd_l_depths { nx := fun _ => R (.d .none), rt := R } (ss ++ List.replicate 7 .un) := by
  rintro _ R - ⟨cs, rm, lk, rfl, hs, hr, q⟩
  have h60 := hs.1
  unfold rd_l_depths
  simp only [↓at0, ↓set0, ↓at1, ↓set1, ↓at2, ↓set2, ↓at3, ↓set3, ↓at4, ↓set4, ↓at5, ↓set5, ↓at6, ↓set6, ↓at7, ↓set7, ↓at8, ↓set8, ↓at9, ↓set9, ↓at10, ↓set10, ↓at11, ↓set11, ↓at12, ↓set12, ↓at13, ↓set13, ↓at14, ↓set14, ↓at15, ↓set15, ↓fz_d, ↓fz_own, ↓fz_ob, ↓one_d, ↓int_d, ↓bool_d, ↓own_o, ↓ds_nil, ↓ds_cons, ↓seq_l, ↓seq_t, ↓ite_t, ↓ite_f, ↓e_next, ↓e_seq, ↓e_set, ↓e_drop, ↓e_ret, ↓e_ifs, ↓e_brk, ↓e_cnt, ↓e_fixs, ↓e_par, ↓e_par3, ↓e_asg, ↓e_for, ↓e_putAt, ↓e_jput, ↓e_var, ↓e_k, ↓e_fz, ↓e_op, ↓e_opL, ↓e_opR, ↓e_n, ↓e_n1, ↓e_nil, ↓e_cons, ↓e_tup, ↓e_lst, ↓e_b, ↓e_not, ↓e_and, ↓e_or, ↓e_andV, ↓e_orV, ↓e_notV, ↓e_if, ↓e_isi, ↓e_neg, ↓e_chain, ↓e_call, ↓e_callK, ↓e_jint, ↓e_dict0, ↓e_dict1, ↓e_listRng, ↓e_append, ↓e_cut, ↓e_cutO, ↓e_onone, ↓e_osome, ↓e_iseq, ↓e_ienum, ↓e_irng, ↓e_gname, ↓e_lnil, ↓e_lcons, ↓e_lc, ↓e_yes, ↓f_addI, ↓f_addS, ↓f_addT, ↓f_addL, ↓f_i2, ↓f_mulI, ↓f_mulT, ↓f_mulL, ↓f_eq, ↓f_ne, ↓f_is, ↓f_isnot, ↓f_in, ↓f_notin, ↓f_ixL, ↓f_ixT, ↓f_lenL, ↓f_lenT, ↓f_lenS, ↓f_abs, ↓f_intI, ↓f_intB, ↓f_tupL, ↓f_tupT, ↓f_lstL, ↓f_lstT, ↓f_repr, ↓f_cutL, ↓f_cutT, ↓firm_d, ↓firm_ob, ↓zip_l, ↓zip_t, ↓e_izip, ↓zip_cons, ↓zip_nil1, ↓zip_nil2, ↓f_sorted, ↓e_inn, ↓e_inc, ↓e_l2n, ↓e_l2c, ↓e_lc2, ↓e_rev, ↓e_pop, ↓e_popAt, ↓e_extend, ↓e_lc3, ↓e_gon, ↓e_goc, ↓e_dbMid, ↓e_dbIn, ↓f_neu, ↓e_ifT, ↓e_newD, ↓e_retO, ↓e_fixK, ↓e_putO, ↓e_dkO, ↓e_dkF, ↓e_kdO, ↓e_kdF, ↓e_get2O, ↓e_get2F, ↓e_ListD, ↓e_ListF, ↓od_o, ↓dct_d, ↓key_int, ↓key_str, ↓g_item, ↓g_get, ↓g_in, ↓g_notin, ↓h_list, ↓fz_od, ↓ow_ex, ↓e_tr, ↓e_trO, ↓e_trK, ↓tru_b, ↓tru_n, ↓tru_i, ↓tru_l, ↓tru_t, ↓tru_s, ↓e_i63, ↓n63_d, ↓e_ss, ↓dgTup_tup, ↓dgCons_cons, ↓dgNil_nil, ite_t, ite_f, itK_not, List.cons_append, List.nil_append, List.append_nil, List.replicate, List.flatten_cons, List.flatten_nil, List.append_eq, List.length_cons, List.length_nil, Nat.zero_add, Nat.reduceAdd, true_and, and_true, eqOk_str, eqOk_int, eqOk_bool, str_eqv, int_eqv, tup_nil_eqv, lst_nil_eqv, rep_flat, isK_int, isK_bool, isK_tuple, isK_str, kInt, kBool, kTuple, kStr, GB.isNon, Bool.not_true, Bool.not_false, Bool.or_false, Bool.or_true, Bool.false_or, Bool.true_or, reduceCtorEq, ]
  refine ⟨by decide, ?_⟩
  refine loopI (fun ds ρ => ∃ (pre wv : List PyData) (s5 : S), ρ = [S.d (.tuple (cs.map fun c => .tuple c.1)), S.d (.tuple rm), S.own wv, S.od [], S.d (.int 2), s5, .un, .un, .un] ∧ pre ++ ds = rm ∧ wv = (pre.flatMap rowL).filter nN ∧ wv.length ≤ 4 * pre.length) ?_ ?_ rm _ ⟨[], [], _, rfl, rfl, rfl, by simp⟩
  · rintro _ ⟨pre, wv, s5, rfl, h1, h2, h3⟩
    rw [List.append_nil] at h1
    subst h1
    simp only [↓at0, ↓set0, ↓at1, ↓set1, ↓at2, ↓set2, ↓at3, ↓set3, ↓at4, ↓set4, ↓at5, ↓set5, ↓at6, ↓set6, ↓at7, ↓set7, ↓at8, ↓set8, ↓at9, ↓set9, ↓at10, ↓set10, ↓at11, ↓set11, ↓at12, ↓set12, ↓at13, ↓set13, ↓at14, ↓set14, ↓at15, ↓set15, ↓fz_d, ↓fz_own, ↓fz_ob, ↓one_d, ↓int_d, ↓bool_d, ↓own_o, ↓ds_nil, ↓ds_cons, ↓seq_l, ↓seq_t, ↓ite_t, ↓ite_f, ↓e_next, ↓e_seq, ↓e_set, ↓e_drop, ↓e_ret, ↓e_ifs, ↓e_brk, ↓e_cnt, ↓e_fixs, ↓e_par, ↓e_par3, ↓e_asg, ↓e_for, ↓e_putAt, ↓e_jput, ↓e_var, ↓e_k, ↓e_fz, ↓e_op, ↓e_opL, ↓e_opR, ↓e_n, ↓e_n1, ↓e_nil, ↓e_cons, ↓e_tup, ↓e_lst, ↓e_b, ↓e_not, ↓e_and, ↓e_or, ↓e_andV, ↓e_orV, ↓e_notV, ↓e_if, ↓e_isi, ↓e_neg, ↓e_chain, ↓e_call, ↓e_callK, ↓e_jint, ↓e_dict0, ↓e_dict1, ↓e_listRng, ↓e_append, ↓e_cut, ↓e_cutO, ↓e_onone, ↓e_osome, ↓e_iseq, ↓e_ienum, ↓e_irng, ↓e_gname, ↓e_lnil, ↓e_lcons, ↓e_lc, ↓e_yes, ↓f_addI, ↓f_addS, ↓f_addT, ↓f_addL, ↓f_i2, ↓f_mulI, ↓f_mulT, ↓f_mulL, ↓f_eq, ↓f_ne, ↓f_is, ↓f_isnot, ↓f_in, ↓f_notin, ↓f_ixL, ↓f_ixT, ↓f_lenL, ↓f_lenT, ↓f_lenS, ↓f_abs, ↓f_intI, ↓f_intB, ↓f_tupL, ↓f_tupT, ↓f_lstL, ↓f_lstT, ↓f_repr, ↓f_cutL, ↓f_cutT, ↓firm_d, ↓firm_ob, ↓zip_l, ↓zip_t, ↓e_izip, ↓zip_cons, ↓zip_nil1, ↓zip_nil2, ↓f_sorted, ↓e_inn, ↓e_inc, ↓e_l2n, ↓e_l2c, ↓e_lc2, ↓e_rev, ↓e_pop, ↓e_popAt, ↓e_extend, ↓e_lc3, ↓e_gon, ↓e_goc, ↓e_dbMid, ↓e_dbIn, ↓f_neu, ↓e_ifT, ↓e_newD, ↓e_retO, ↓e_fixK, ↓e_putO, ↓e_dkO, ↓e_dkF, ↓e_kdO, ↓e_kdF, ↓e_get2O, ↓e_get2F, ↓e_ListD, ↓e_ListF, ↓od_o, ↓dct_d, ↓key_int, ↓key_str, ↓g_item, ↓g_get, ↓g_in, ↓g_notin, ↓h_list, ↓fz_od, ↓ow_ex, ↓e_tr, ↓e_trO, ↓e_trK, ↓tru_b, ↓tru_n, ↓tru_i, ↓tru_l, ↓tru_t, ↓tru_s, ↓e_i63, ↓n63_d, ↓e_ss, ↓dgTup_tup, ↓dgCons_cons, ↓dgNil_nil, ite_t, ite_f, itK_not, List.cons_append, List.nil_append, List.append_nil, List.replicate, List.flatten_cons, List.flatten_nil, List.append_eq, List.length_cons, List.length_nil, Nat.zero_add, Nat.reduceAdd, true_and, and_true, eqOk_str, eqOk_int, eqOk_bool, str_eqv, int_eqv, tup_nil_eqv, lst_nil_eqv, rep_flat, isK_int, isK_bool, isK_tuple, isK_str, kInt, kBool, kTuple, kStr, GB.isNon, Bool.not_true, Bool.not_false, Bool.or_false, Bool.or_true, Bool.false_or, Bool.true_or, reduceCtorEq, ]
    refine whileI (fun m ρ => ∃ (k : Nat) (far : KVs) (wv : List PyData) (s5 s6 s7 : S), ρ = [S.d (.tuple (cs.map fun c => .tuple c.1)), S.d (.tuple pre), S.d (.list wv), S.od far, S.d (.int ((k : Int) + 2)), s5, s6, s7, .un] ∧ k + m = cs.length + 2 ∧ FarG (grH cs pre) k far ∧ WavG (grH cs pre) k wv) ⟨_, 0, [], wv, _, _, _, rfl, Nat.zero_add _, ⟨(fun i d _ h => by omega), (fun i h => by cases h), Smn.nil⟩, by rw [h2]; exact wav_start hr⟩ ?_
    rintro m _ K hK ⟨k, far, wv, s5, s6, s7, rfl, hm, hf, hw⟩
    simp only [↓at0, ↓set0, ↓at1, ↓set1, ↓at2, ↓set2, ↓at3, ↓set3, ↓at4, ↓set4, ↓at5, ↓set5, ↓at6, ↓set6, ↓at7, ↓set7, ↓at8, ↓set8, ↓at9, ↓set9, ↓at10, ↓set10, ↓at11, ↓set11, ↓at12, ↓set12, ↓at13, ↓set13, ↓at14, ↓set14, ↓at15, ↓set15, ↓fz_d, ↓fz_own, ↓fz_ob, ↓one_d, ↓int_d, ↓bool_d, ↓own_o, ↓ds_nil, ↓ds_cons, ↓seq_l, ↓seq_t, ↓ite_t, ↓ite_f, ↓e_next, ↓e_seq, ↓e_set, ↓e_drop, ↓e_ret, ↓e_ifs, ↓e_brk, ↓e_cnt, ↓e_fixs, ↓e_par, ↓e_par3, ↓e_asg, ↓e_for, ↓e_putAt, ↓e_jput, ↓e_var, ↓e_k, ↓e_fz, ↓e_op, ↓e_opL, ↓e_opR, ↓e_n, ↓e_n1, ↓e_nil, ↓e_cons, ↓e_tup, ↓e_lst, ↓e_b, ↓e_not, ↓e_and, ↓e_or, ↓e_andV, ↓e_orV, ↓e_notV, ↓e_if, ↓e_isi, ↓e_neg, ↓e_chain, ↓e_call, ↓e_callK, ↓e_jint, ↓e_dict0, ↓e_dict1, ↓e_listRng, ↓e_append, ↓e_cut, ↓e_cutO, ↓e_onone, ↓e_osome, ↓e_iseq, ↓e_ienum, ↓e_irng, ↓e_gname, ↓e_lnil, ↓e_lcons, ↓e_lc, ↓e_yes, ↓f_addI, ↓f_addS, ↓f_addT, ↓f_addL, ↓f_i2, ↓f_mulI, ↓f_mulT, ↓f_mulL, ↓f_eq, ↓f_ne, ↓f_is, ↓f_isnot, ↓f_in, ↓f_notin, ↓f_ixL, ↓f_ixT, ↓f_lenL, ↓f_lenT, ↓f_lenS, ↓f_abs, ↓f_intI, ↓f_intB, ↓f_tupL, ↓f_tupT, ↓f_lstL, ↓f_lstT, ↓f_repr, ↓f_cutL, ↓f_cutT, ↓firm_d, ↓firm_ob, ↓zip_l, ↓zip_t, ↓e_izip, ↓zip_cons, ↓zip_nil1, ↓zip_nil2, ↓f_sorted, ↓e_inn, ↓e_inc, ↓e_l2n, ↓e_l2c, ↓e_lc2, ↓e_rev, ↓e_pop, ↓e_popAt, ↓e_extend, ↓e_lc3, ↓e_gon, ↓e_goc, ↓e_dbMid, ↓e_dbIn, ↓f_neu, ↓e_ifT, ↓e_newD, ↓e_retO, ↓e_fixK, ↓e_putO, ↓e_dkO, ↓e_dkF, ↓e_kdO, ↓e_kdF, ↓e_get2O, ↓e_get2F, ↓e_ListD, ↓e_ListF, ↓od_o, ↓dct_d, ↓key_int, ↓key_str, ↓g_item, ↓g_get, ↓g_in, ↓g_notin, ↓h_list, ↓fz_od, ↓ow_ex, ↓e_tr, ↓e_trO, ↓e_trK, ↓tru_b, ↓tru_n, ↓tru_i, ↓tru_l, ↓tru_t, ↓tru_s, ↓e_i63, ↓n63_d, ↓e_ss, ↓dgTup_tup, ↓dgCons_cons, ↓dgNil_nil, ite_t, ite_f, itK_not, List.cons_append, List.nil_append, List.append_nil, List.replicate, List.flatten_cons, List.flatten_nil, List.append_eq, List.length_cons, List.length_nil, Nat.zero_add, Nat.reduceAdd, true_and, and_true, eqOk_str, eqOk_int, eqOk_bool, str_eqv, int_eqv, tup_nil_eqv, lst_nil_eqv, rep_flat, isK_int, isK_bool, isK_tuple, isK_str, kInt, kBool, kTuple, kStr, GB.isNon, Bool.not_true, Bool.not_false, Bool.or_false, Bool.or_true, Bool.false_or, Bool.true_or, reduceCtorEq, ]
    refine ⟨by decide, list_eqOk (fun x hx => by obtain ⟨j, rfl, _⟩ := hw.y x hx; exact ⟨rfl, by simp [PyData.depth]⟩) (fun _ h => nomatch h), ?_⟩
    cases wv with
    | nil => exact ite_t.mpr (q far (far_fin grH_ok hf hw))
    | cons x0 wv0 =>
      generalize hwv : x0 :: wv0 = wv at *
      have hne : wv ≠ [] := by rw [← hwv]; simp
      have hkn : k ≤ cs.length := hw.t hne
      have ee : wv.isEmpty = false := by rw [← hwv]; rfl
      rw [ee]
      refine ite_f.mpr ⟨by decide, ?_⟩
      refine loopI (fun ds ρ => ∃ (done : List PyData) (st : KVs × List PyData) (s7 : S), ρ = [S.d (.tuple (cs.map fun c => .tuple c.1)), S.d (.tuple pre), S.d (.list wv), S.od st.1, S.d (.int ((k : Int) + 2)), s5, S.own st.2, s7, .un] ∧ done ++ ds = wv ∧ DpI cs (grH cs pre) k far done st) ?_ ?_ wv _ ⟨[], (far, []), _, rfl, rfl, dp_start hf⟩
      · rintro _ ⟨done, st, s7, rfl, e1, hd⟩
        rw [List.append_nil] at e1
        subst e1
        obtain ⟨f1, f2⟩ := dp_end hs hf hw hd
        simp only [↓at0, ↓set0, ↓at1, ↓set1, ↓at2, ↓set2, ↓at3, ↓set3, ↓at4, ↓set4, ↓at5, ↓set5, ↓at6, ↓set6, ↓at7, ↓set7, ↓at8, ↓set8, ↓at9, ↓set9, ↓at10, ↓set10, ↓at11, ↓set11, ↓at12, ↓set12, ↓at13, ↓set13, ↓at14, ↓set14, ↓at15, ↓set15, ↓fz_d, ↓fz_own, ↓fz_ob, ↓one_d, ↓int_d, ↓bool_d, ↓own_o, ↓ds_nil, ↓ds_cons, ↓seq_l, ↓seq_t, ↓ite_t, ↓ite_f, ↓e_next, ↓e_seq, ↓e_set, ↓e_drop, ↓e_ret, ↓e_ifs, ↓e_brk, ↓e_cnt, ↓e_fixs, ↓e_par, ↓e_par3, ↓e_asg, ↓e_for, ↓e_putAt, ↓e_jput, ↓e_var, ↓e_k, ↓e_fz, ↓e_op, ↓e_opL, ↓e_opR, ↓e_n, ↓e_n1, ↓e_nil, ↓e_cons, ↓e_tup, ↓e_lst, ↓e_b, ↓e_not, ↓e_and, ↓e_or, ↓e_andV, ↓e_orV, ↓e_notV, ↓e_if, ↓e_isi, ↓e_neg, ↓e_chain, ↓e_call, ↓e_callK, ↓e_jint, ↓e_dict0, ↓e_dict1, ↓e_listRng, ↓e_append, ↓e_cut, ↓e_cutO, ↓e_onone, ↓e_osome, ↓e_iseq, ↓e_ienum, ↓e_irng, ↓e_gname, ↓e_lnil, ↓e_lcons, ↓e_lc, ↓e_yes, ↓f_addI, ↓f_addS, ↓f_addT, ↓f_addL, ↓f_i2, ↓f_mulI, ↓f_mulT, ↓f_mulL, ↓f_eq, ↓f_ne, ↓f_is, ↓f_isnot, ↓f_in, ↓f_notin, ↓f_ixL, ↓f_ixT, ↓f_lenL, ↓f_lenT, ↓f_lenS, ↓f_abs, ↓f_intI, ↓f_intB, ↓f_tupL, ↓f_tupT, ↓f_lstL, ↓f_lstT, ↓f_repr, ↓f_cutL, ↓f_cutT, ↓firm_d, ↓firm_ob, ↓zip_l, ↓zip_t, ↓e_izip, ↓zip_cons, ↓zip_nil1, ↓zip_nil2, ↓f_sorted, ↓e_inn, ↓e_inc, ↓e_l2n, ↓e_l2c, ↓e_lc2, ↓e_rev, ↓e_pop, ↓e_popAt, ↓e_extend, ↓e_lc3, ↓e_gon, ↓e_goc, ↓e_dbMid, ↓e_dbIn, ↓f_neu, ↓e_ifT, ↓e_newD, ↓e_retO, ↓e_fixK, ↓e_putO, ↓e_dkO, ↓e_dkF, ↓e_kdO, ↓e_kdF, ↓e_get2O, ↓e_get2F, ↓e_ListD, ↓e_ListF, ↓od_o, ↓dct_d, ↓key_int, ↓key_str, ↓g_item, ↓g_get, ↓g_in, ↓g_notin, ↓h_list, ↓fz_od, ↓ow_ex, ↓e_tr, ↓e_trO, ↓e_trK, ↓tru_b, ↓tru_n, ↓tru_i, ↓tru_l, ↓tru_t, ↓tru_s, ↓e_i63, ↓n63_d, ↓e_ss, ↓dgTup_tup, ↓dgCons_cons, ↓dgNil_nil, ite_t, ite_f, itK_not, List.cons_append, List.nil_append, List.append_nil, List.replicate, List.flatten_cons, List.flatten_nil, List.append_eq, List.length_cons, List.length_nil, Nat.zero_add, Nat.reduceAdd, true_and, and_true, eqOk_str, eqOk_int, eqOk_bool, str_eqv, int_eqv, tup_nil_eqv, lst_nil_eqv, rep_flat, isK_int, isK_bool, isK_tuple, isK_str, kInt, kBool, kTuple, kStr, GB.isNon, Bool.not_true, Bool.not_false, Bool.or_false, Bool.or_true, Bool.false_or, Bool.true_or, reduceCtorEq, ]
        have e2 : (k : Int) + 2 + 1 = ((k + 1 : Nat) : Int) + 2 := by omega
        rw [e2]
        exact hK (m - 1) _ (by omega) ⟨k + 1, st.1, st.2, _, _, _, rfl, by omega, f1, f2⟩
      · rintro d ds _ K2 hK2 ⟨done, st, s7, rfl, e1, hd⟩
        obtain ⟨i, rfl, hi⟩ := hw.y d (by rw [← e1]; simp)
        have hin : i < cs.length := Gr.lt grH_ok hi
        have one := dp_one hs hf hd hi
        have sl := hd.sm.len
        have sl2 : (grH cs pre).n = cs.length := rfl
        have ln := hd.ln
        have fl := cel_at hs hin
        have nx : ∀ s7, (dpF cs k st (.int (i : Int))) = (dpF cs k st (.int (i : Int))) → K2 [S.d (.tuple (cs.map fun c => .tuple c.1)), S.d (.tuple pre), S.d (.list wv), S.od (dpF cs k st (.int (i : Int))).1, S.d (.int ((k : Int) + 2)), s5, S.own (dpF cs k st (.int (i : Int))).2, s7, .un] := fun s7 _ => hK2 _ ⟨done ++ [.int (i : Int)], _, _, rfl, by rw [List.append_assoc]; exact e1, one⟩
        simp only [↓at0, ↓set0, ↓at1, ↓set1, ↓at2, ↓set2, ↓at3, ↓set3, ↓at4, ↓set4, ↓at5, ↓set5, ↓at6, ↓set6, ↓at7, ↓set7, ↓at8, ↓set8, ↓at9, ↓set9, ↓at10, ↓set10, ↓at11, ↓set11, ↓at12, ↓set12, ↓at13, ↓set13, ↓at14, ↓set14, ↓at15, ↓set15, ↓fz_d, ↓fz_own, ↓fz_ob, ↓one_d, ↓int_d, ↓bool_d, ↓own_o, ↓ds_nil, ↓ds_cons, ↓seq_l, ↓seq_t, ↓ite_t, ↓ite_f, ↓e_next, ↓e_seq, ↓e_set, ↓e_drop, ↓e_ret, ↓e_ifs, ↓e_brk, ↓e_cnt, ↓e_fixs, ↓e_par, ↓e_par3, ↓e_asg, ↓e_for, ↓e_putAt, ↓e_jput, ↓e_var, ↓e_k, ↓e_fz, ↓e_op, ↓e_opL, ↓e_opR, ↓e_n, ↓e_n1, ↓e_nil, ↓e_cons, ↓e_tup, ↓e_lst, ↓e_b, ↓e_not, ↓e_and, ↓e_or, ↓e_andV, ↓e_orV, ↓e_notV, ↓e_if, ↓e_isi, ↓e_neg, ↓e_chain, ↓e_call, ↓e_callK, ↓e_jint, ↓e_dict0, ↓e_dict1, ↓e_listRng, ↓e_append, ↓e_cut, ↓e_cutO, ↓e_onone, ↓e_osome, ↓e_iseq, ↓e_ienum, ↓e_irng, ↓e_gname, ↓e_lnil, ↓e_lcons, ↓e_lc, ↓e_yes, ↓f_addI, ↓f_addS, ↓f_addT, ↓f_addL, ↓f_i2, ↓f_mulI, ↓f_mulT, ↓f_mulL, ↓f_eq, ↓f_ne, ↓f_is, ↓f_isnot, ↓f_in, ↓f_notin, ↓f_ixL, ↓f_ixT, ↓f_lenL, ↓f_lenT, ↓f_lenS, ↓f_abs, ↓f_intI, ↓f_intB, ↓f_tupL, ↓f_tupT, ↓f_lstL, ↓f_lstT, ↓f_repr, ↓f_cutL, ↓f_cutT, ↓firm_d, ↓firm_ob, ↓zip_l, ↓zip_t, ↓e_izip, ↓zip_cons, ↓zip_nil1, ↓zip_nil2, ↓f_sorted, ↓e_inn, ↓e_inc, ↓e_l2n, ↓e_l2c, ↓e_lc2, ↓e_rev, ↓e_pop, ↓e_popAt, ↓e_extend, ↓e_lc3, ↓e_gon, ↓e_goc, ↓e_dbMid, ↓e_dbIn, ↓f_neu, ↓e_ifT, ↓e_newD, ↓e_retO, ↓e_fixK, ↓e_putO, ↓e_dkO, ↓e_dkF, ↓e_kdO, ↓e_kdF, ↓e_get2O, ↓e_get2F, ↓e_ListD, ↓e_ListF, ↓od_o, ↓dct_d, ↓key_int, ↓key_str, ↓g_item, ↓g_get, ↓g_in, ↓g_notin, ↓h_list, ↓fz_od, ↓ow_ex, ↓e_tr, ↓e_trO, ↓e_trK, ↓tru_b, ↓tru_n, ↓tru_i, ↓tru_l, ↓tru_t, ↓tru_s, ↓e_i63, ↓n63_d, ↓e_ss, ↓dgTup_tup, ↓dgCons_cons, ↓dgNil_nil, ite_t, ite_f, itK_not, List.cons_append, List.nil_append, List.append_nil, List.replicate, List.flatten_cons, List.flatten_nil, List.append_eq, List.length_cons, List.length_nil, Nat.zero_add, Nat.reduceAdd, true_and, and_true, eqOk_str, eqOk_int, eqOk_bool, str_eqv, int_eqv, tup_nil_eqv, lst_nil_eqv, rep_flat, isK_int, isK_bool, isK_tuple, isK_str, kInt, kBool, kTuple, kStr, GB.isNon, Bool.not_true, Bool.not_false, Bool.or_false, Bool.or_true, Bool.false_or, Bool.true_or, reduceCtorEq, wipeD, List.set, ↓fs_ix hin]
        cases hl : (lookD st.1 (.inl (i : Int))).isSome
        · have e : dpF cs k st (.int (i : Int)) = (putD st.1 (.inl (i : Int)) (.int ((k : Int) + 2)), st.2 ++ (fsAt cs i).filter nN) := by
            unfold dpF
            rw [nOk_i, hl]
            simp [nI]
          rw [e] at nx
          have fl2 := List.length_filter_le nN (fsAt cs i)
          refine ite_f.mpr ⟨line_ge (by omega), line_ge (by omega), filt_run (p := nN) ?_ fun d hd acc K3 y n => ?_⟩
          · exact ⟨_, rfl, line_ge (by omega), nx _ rfl⟩
          · simp only [↓at0, ↓set0, ↓at1, ↓set1, ↓at2, ↓set2, ↓at3, ↓set3, ↓at4, ↓set4, ↓at5, ↓set5, ↓at6, ↓set6, ↓at7, ↓set7, ↓at8, ↓set8, ↓at9, ↓set9, ↓at10, ↓set10, ↓at11, ↓set11, ↓at12, ↓set12, ↓at13, ↓set13, ↓at14, ↓set14, ↓at15, ↓set15, ↓fz_d, ↓fz_own, ↓fz_ob, ↓one_d, ↓int_d, ↓bool_d, ↓own_o, ↓ds_nil, ↓ds_cons, ↓seq_l, ↓seq_t, ↓ite_t, ↓ite_f, ↓e_next, ↓e_seq, ↓e_set, ↓e_drop, ↓e_ret, ↓e_ifs, ↓e_brk, ↓e_cnt, ↓e_fixs, ↓e_par, ↓e_par3, ↓e_asg, ↓e_for, ↓e_putAt, ↓e_jput, ↓e_var, ↓e_k, ↓e_fz, ↓e_op, ↓e_opL, ↓e_opR, ↓e_n, ↓e_n1, ↓e_nil, ↓e_cons, ↓e_tup, ↓e_lst, ↓e_b, ↓e_not, ↓e_and, ↓e_or, ↓e_andV, ↓e_orV, ↓e_notV, ↓e_if, ↓e_isi, ↓e_neg, ↓e_chain, ↓e_call, ↓e_callK, ↓e_jint, ↓e_dict0, ↓e_dict1, ↓e_listRng, ↓e_append, ↓e_cut, ↓e_cutO, ↓e_onone, ↓e_osome, ↓e_iseq, ↓e_ienum, ↓e_irng, ↓e_gname, ↓e_lnil, ↓e_lcons, ↓e_lc, ↓e_yes, ↓f_addI, ↓f_addS, ↓f_addT, ↓f_addL, ↓f_i2, ↓f_mulI, ↓f_mulT, ↓f_mulL, ↓f_eq, ↓f_ne, ↓f_is, ↓f_isnot, ↓f_in, ↓f_notin, ↓f_ixL, ↓f_ixT, ↓f_lenL, ↓f_lenT, ↓f_lenS, ↓f_abs, ↓f_intI, ↓f_intB, ↓f_tupL, ↓f_tupT, ↓f_lstL, ↓f_lstT, ↓f_repr, ↓f_cutL, ↓f_cutT, ↓firm_d, ↓firm_ob, ↓zip_l, ↓zip_t, ↓e_izip, ↓zip_cons, ↓zip_nil1, ↓zip_nil2, ↓f_sorted, ↓e_inn, ↓e_inc, ↓e_l2n, ↓e_l2c, ↓e_lc2, ↓e_rev, ↓e_pop, ↓e_popAt, ↓e_extend, ↓e_lc3, ↓e_gon, ↓e_goc, ↓e_dbMid, ↓e_dbIn, ↓f_neu, ↓e_ifT, ↓e_newD, ↓e_retO, ↓e_fixK, ↓e_putO, ↓e_dkO, ↓e_dkF, ↓e_kdO, ↓e_kdF, ↓e_get2O, ↓e_get2F, ↓e_ListD, ↓e_ListF, ↓od_o, ↓dct_d, ↓key_int, ↓key_str, ↓g_item, ↓g_get, ↓g_in, ↓g_notin, ↓h_list, ↓fz_od, ↓ow_ex, ↓e_tr, ↓e_trO, ↓e_trK, ↓tru_b, ↓tru_n, ↓tru_i, ↓tru_l, ↓tru_t, ↓tru_s, ↓e_i63, ↓n63_d, ↓e_ss, ↓dgTup_tup, ↓dgCons_cons, ↓dgNil_nil, ite_t, ite_f, itK_not, List.cons_append, List.nil_append, List.append_nil, List.replicate, List.flatten_cons, List.flatten_nil, List.append_eq, List.length_cons, List.length_nil, Nat.zero_add, Nat.reduceAdd, true_and, and_true, eqOk_str, eqOk_int, eqOk_bool, str_eqv, int_eqv, tup_nil_eqv, lst_nil_eqv, rep_flat, isK_int, isK_bool, isK_tuple, isK_str, kInt, kBool, kTuple, kStr, GB.isNon, Bool.not_true, Bool.not_false, Bool.or_false, Bool.or_true, Bool.false_or, Bool.true_or, reduceCtorEq, wipeD, List.set]
            rcases fl.2.1 d hd with rfl | ⟨m', rfl, _⟩
            · exact n rfl
            · exact y rfl
        · have e : dpF cs k st (.int (i : Int)) = st := by
            unfold dpF
            rw [nOk_i, hl]; rfl
          rw [e] at nx
          exact ite_t.mpr (nx _ rfl)
  · rintro d ds _ K hK ⟨pre, wv, s5, rfl, h1, h2, h3⟩
    obtain ⟨row, rfl, r1, r2⟩ := hr.2.2.1 d (by rw [← h1]; simp)
    have hlen : pre.length ≤ 60 := by have := hr.1; rw [← h1, List.length_append] at this; omega
    simp only [↓at0, ↓set0, ↓at1, ↓set1, ↓at2, ↓set2, ↓at3, ↓set3, ↓at4, ↓set4, ↓at5, ↓set5, ↓at6, ↓set6, ↓at7, ↓set7, ↓at8, ↓set8, ↓at9, ↓set9, ↓at10, ↓set10, ↓at11, ↓set11, ↓at12, ↓set12, ↓at13, ↓set13, ↓at14, ↓set14, ↓at15, ↓set15, ↓fz_d, ↓fz_own, ↓fz_ob, ↓one_d, ↓int_d, ↓bool_d, ↓own_o, ↓ds_nil, ↓ds_cons, ↓seq_l, ↓seq_t, ↓ite_t, ↓ite_f, ↓e_next, ↓e_seq, ↓e_set, ↓e_drop, ↓e_ret, ↓e_ifs, ↓e_brk, ↓e_cnt, ↓e_fixs, ↓e_par, ↓e_par3, ↓e_asg, ↓e_for, ↓e_putAt, ↓e_jput, ↓e_var, ↓e_k, ↓e_fz, ↓e_op, ↓e_opL, ↓e_opR, ↓e_n, ↓e_n1, ↓e_nil, ↓e_cons, ↓e_tup, ↓e_lst, ↓e_b, ↓e_not, ↓e_and, ↓e_or, ↓e_andV, ↓e_orV, ↓e_notV, ↓e_if, ↓e_isi, ↓e_neg, ↓e_chain, ↓e_call, ↓e_callK, ↓e_jint, ↓e_dict0, ↓e_dict1, ↓e_listRng, ↓e_append, ↓e_cut, ↓e_cutO, ↓e_onone, ↓e_osome, ↓e_iseq, ↓e_ienum, ↓e_irng, ↓e_gname, ↓e_lnil, ↓e_lcons, ↓e_lc, ↓e_yes, ↓f_addI, ↓f_addS, ↓f_addT, ↓f_addL, ↓f_i2, ↓f_mulI, ↓f_mulT, ↓f_mulL, ↓f_eq, ↓f_ne, ↓f_is, ↓f_isnot, ↓f_in, ↓f_notin, ↓f_ixL, ↓f_ixT, ↓f_lenL, ↓f_lenT, ↓f_lenS, ↓f_abs, ↓f_intI, ↓f_intB, ↓f_tupL, ↓f_tupT, ↓f_lstL, ↓f_lstT, ↓f_repr, ↓f_cutL, ↓f_cutT, ↓firm_d, ↓firm_ob, ↓zip_l, ↓zip_t, ↓e_izip, ↓zip_cons, ↓zip_nil1, ↓zip_nil2, ↓f_sorted, ↓e_inn, ↓e_inc, ↓e_l2n, ↓e_l2c, ↓e_lc2, ↓e_rev, ↓e_pop, ↓e_popAt, ↓e_extend, ↓e_lc3, ↓e_gon, ↓e_goc, ↓e_dbMid, ↓e_dbIn, ↓f_neu, ↓e_ifT, ↓e_newD, ↓e_retO, ↓e_fixK, ↓e_putO, ↓e_dkO, ↓e_dkF, ↓e_kdO, ↓e_kdF, ↓e_get2O, ↓e_get2F, ↓e_ListD, ↓e_ListF, ↓od_o, ↓dct_d, ↓key_int, ↓key_str, ↓g_item, ↓g_get, ↓g_in, ↓g_notin, ↓h_list, ↓fz_od, ↓ow_ex, ↓e_tr, ↓e_trO, ↓e_trK, ↓tru_b, ↓tru_n, ↓tru_i, ↓tru_l, ↓tru_t, ↓tru_s, ↓e_i63, ↓n63_d, ↓e_ss, ↓dgTup_tup, ↓dgCons_cons, ↓dgNil_nil, ite_t, ite_f, itK_not, List.cons_append, List.nil_append, List.append_nil, List.replicate, List.flatten_cons, List.flatten_nil, List.append_eq, List.length_cons, List.length_nil, Nat.zero_add, Nat.reduceAdd, true_and, and_true, eqOk_str, eqOk_int, eqOk_bool, str_eqv, int_eqv, tup_nil_eqv, lst_nil_eqv, rep_flat, isK_int, isK_bool, isK_tuple, isK_str, kInt, kBool, kTuple, kStr, GB.isNon, Bool.not_true, Bool.not_false, Bool.or_false, Bool.or_true, Bool.false_or, Bool.true_or, reduceCtorEq, wipeD, List.set]
    refine ⟨line_ge (by omega), filt_run (p := nN) ?_ fun d hd acc K2 y n => ?_⟩
    · have fl2 := List.length_filter_le nN row
      refine ⟨_, rfl, line_ge (by omega), hK _ ⟨pre ++ [.tuple row], _, _, rfl, by rw [List.append_assoc]; exact h1, ?_, ?_⟩⟩
      · rw [h2, List.flatMap_append, List.filter_append]; simp [rowL]
      · rw [List.length_append, List.length_append, List.length_singleton]; omega
    · simp only [↓at0, ↓set0, ↓at1, ↓set1, ↓at2, ↓set2, ↓at3, ↓set3, ↓at4, ↓set4, ↓at5, ↓set5, ↓at6, ↓set6, ↓at7, ↓set7, ↓at8, ↓set8, ↓at9, ↓set9, ↓at10, ↓set10, ↓at11, ↓set11, ↓at12, ↓set12, ↓at13, ↓set13, ↓at14, ↓set14, ↓at15, ↓set15, ↓fz_d, ↓fz_own, ↓fz_ob, ↓one_d, ↓int_d, ↓bool_d, ↓own_o, ↓ds_nil, ↓ds_cons, ↓seq_l, ↓seq_t, ↓ite_t, ↓ite_f, ↓e_next, ↓e_seq, ↓e_set, ↓e_drop, ↓e_ret, ↓e_ifs, ↓e_brk, ↓e_cnt, ↓e_fixs, ↓e_par, ↓e_par3, ↓e_asg, ↓e_for, ↓e_putAt, ↓e_jput, ↓e_var, ↓e_k, ↓e_fz, ↓e_op, ↓e_opL, ↓e_opR, ↓e_n, ↓e_n1, ↓e_nil, ↓e_cons, ↓e_tup, ↓e_lst, ↓e_b, ↓e_not, ↓e_and, ↓e_or, ↓e_andV, ↓e_orV, ↓e_notV, ↓e_if, ↓e_isi, ↓e_neg, ↓e_chain, ↓e_call, ↓e_callK, ↓e_jint, ↓e_dict0, ↓e_dict1, ↓e_listRng, ↓e_append, ↓e_cut, ↓e_cutO, ↓e_onone, ↓e_osome, ↓e_iseq, ↓e_ienum, ↓e_irng, ↓e_gname, ↓e_lnil, ↓e_lcons, ↓e_lc, ↓e_yes, ↓f_addI, ↓f_addS, ↓f_addT, ↓f_addL, ↓f_i2, ↓f_mulI, ↓f_mulT, ↓f_mulL, ↓f_eq, ↓f_ne, ↓f_is, ↓f_isnot, ↓f_in, ↓f_notin, ↓f_ixL, ↓f_ixT, ↓f_lenL, ↓f_lenT, ↓f_lenS, ↓f_abs, ↓f_intI, ↓f_intB, ↓f_tupL, ↓f_tupT, ↓f_lstL, ↓f_lstT, ↓f_repr, ↓f_cutL, ↓f_cutT, ↓firm_d, ↓firm_ob, ↓zip_l, ↓zip_t, ↓e_izip, ↓zip_cons, ↓zip_nil1, ↓zip_nil2, ↓f_sorted, ↓e_inn, ↓e_inc, ↓e_l2n, ↓e_l2c, ↓e_lc2, ↓e_rev, ↓e_pop, ↓e_popAt, ↓e_extend, ↓e_lc3, ↓e_gon, ↓e_goc, ↓e_dbMid, ↓e_dbIn, ↓f_neu, ↓e_ifT, ↓e_newD, ↓e_retO, ↓e_fixK, ↓e_putO, ↓e_dkO, ↓e_dkF, ↓e_kdO, ↓e_kdF, ↓e_get2O, ↓e_get2F, ↓e_ListD, ↓e_ListF, ↓od_o, ↓dct_d, ↓key_int, ↓key_str, ↓g_item, ↓g_get, ↓g_in, ↓g_notin, ↓h_list, ↓fz_od, ↓ow_ex, ↓e_tr, ↓e_trO, ↓e_trK, ↓tru_b, ↓tru_n, ↓tru_i, ↓tru_l, ↓tru_t, ↓tru_s, ↓e_i63, ↓n63_d, ↓e_ss, ↓dgTup_tup, ↓dgCons_cons, ↓dgNil_nil, ite_t, ite_f, itK_not, List.cons_append, List.nil_append, List.append_nil, List.replicate, List.flatten_cons, List.flatten_nil, List.append_eq, List.length_cons, List.length_nil, Nat.zero_add, Nat.reduceAdd, true_and, and_true, eqOk_str, eqOk_int, eqOk_bool, str_eqv, int_eqv, tup_nil_eqv, lst_nil_eqv, rep_flat, isK_int, isK_bool, isK_tuple, isK_str, kInt, kBool, kTuple, kStr, GB.isNon, Bool.not_true, Bool.not_false, Bool.or_false, Bool.or_true, Bool.false_or, Bool.true_or, reduceCtorEq, wipeD, List.set]
      rcases r2 d hd with rfl | ⟨i, rfl, hi⟩
      · exact n rfl
      · exact y rfl
end GK

set_option maxRecDepth 100000
namespace GK
open PySem PySem.Spec PyProof.Rows L2 GB
theorem hk_smn {n : Nat} {kv : KVs} (h : Smn n kv) {hd : Int} {x : PyData} (hx : Fld n x) {r : Int} : Smn n (hkF hd kv (.tuple [.int r, x])) := by
  show Smn n (if nOk kv x = true then putD kv (.inl (nI x)) (.tuple [.int hd, .int r]) else kv)
  by_cases hw : nOk kv x = true
  · rw [if_pos hw]
    obtain ⟨i, rfl, w2⟩ := nOk_int hw
    rcases hx with e | ⟨m, e, hm⟩
    · cases e
    · cases e
      exact h.put hm w2
  · rw [if_neg hw]; exact h
theorem ma_p_ways_of_held : ∀ ss R, ss.length = 1 → F_p_ways_of_held ss R → rd_p_ways_of_held { nx := fun _ => R (.d .none), rt := R } (ss ++ List.replicate 5 .un) := by
  rintro _ R - ⟨n, rm, lk, rfl, hr, hn, q⟩
  unfold rd_p_ways_of_held
  simp only [↓at0, ↓set0, ↓at1, ↓set1, ↓at2, ↓set2, ↓at3, ↓set3, ↓at4, ↓set4, ↓at5, ↓set5, ↓at6, ↓set6, ↓at7, ↓set7, ↓at8, ↓set8, ↓at9, ↓set9, ↓at10, ↓set10, ↓at11, ↓set11, ↓at12, ↓set12, ↓at13, ↓set13, ↓at14, ↓set14, ↓at15, ↓set15, ↓fz_d, ↓fz_own, ↓fz_ob, ↓one_d, ↓int_d, ↓bool_d, ↓own_o, ↓ds_nil, ↓ds_cons, ↓seq_l, ↓seq_t, ↓ite_t, ↓ite_f, ↓e_next, ↓e_seq, ↓e_set, ↓e_drop, ↓e_ret, ↓e_ifs, ↓e_brk, ↓e_cnt, ↓e_fixs, ↓e_par, ↓e_par3, ↓e_asg, ↓e_for, ↓e_putAt, ↓e_jput, ↓e_var, ↓e_k, ↓e_fz, ↓e_op, ↓e_opL, ↓e_opR, ↓e_n, ↓e_n1, ↓e_nil, ↓e_cons, ↓e_tup, ↓e_lst, ↓e_b, ↓e_not, ↓e_and, ↓e_or, ↓e_andV, ↓e_orV, ↓e_notV, ↓e_if, ↓e_isi, ↓e_neg, ↓e_chain, ↓e_call, ↓e_callK, ↓e_jint, ↓e_dict0, ↓e_dict1, ↓e_listRng, ↓e_append, ↓e_cut, ↓e_cutO, ↓e_onone, ↓e_osome, ↓e_iseq, ↓e_ienum, ↓e_irng, ↓e_gname, ↓e_lnil, ↓e_lcons, ↓e_lc, ↓e_yes, ↓f_addI, ↓f_addS, ↓f_addT, ↓f_addL, ↓f_i2, ↓f_mulI, ↓f_mulT, ↓f_mulL, ↓f_eq, ↓f_ne, ↓f_is, ↓f_isnot, ↓f_in, ↓f_notin, ↓f_ixL, ↓f_ixT, ↓f_lenL, ↓f_lenT, ↓f_lenS, ↓f_abs, ↓f_intI, ↓f_intB, ↓f_tupL, ↓f_tupT, ↓f_lstL, ↓f_lstT, ↓f_repr, ↓f_cutL, ↓f_cutT, ↓firm_d, ↓firm_ob, ↓zip_l, ↓zip_t, ↓e_izip, ↓zip_cons, ↓zip_nil1, ↓zip_nil2, ↓f_sorted, ↓e_inn, ↓e_inc, ↓e_l2n, ↓e_l2c, ↓e_lc2, ↓e_rev, ↓e_pop, ↓e_popAt, ↓e_extend, ↓e_lc3, ↓e_gon, ↓e_goc, ↓e_dbMid, ↓e_dbIn, ↓f_neu, ↓e_ifT, ↓e_newD, ↓e_retO, ↓e_fixK, ↓e_putO, ↓e_dkO, ↓e_dkF, ↓e_kdO, ↓e_kdF, ↓e_get2O, ↓e_get2F, ↓e_ListD, ↓e_ListF, ↓od_o, ↓dct_d, ↓key_int, ↓key_str, ↓g_item, ↓g_get, ↓g_in, ↓g_notin, ↓h_list, ↓fz_od, ↓ow_ex, ↓e_tr, ↓e_trO, ↓e_trK, ↓tru_b, ↓tru_n, ↓tru_i, ↓tru_l, ↓tru_t, ↓tru_s, ↓e_i63, ↓n63_d, ↓e_ss, ↓dgTup_tup, ↓dgCons_cons, ↓dgNil_nil, ite_t, ite_f, itK_not, List.cons_append, List.nil_append, List.append_nil, List.replicate, List.flatten_cons, List.flatten_nil, List.append_eq, List.length_cons, List.length_nil, Nat.zero_add, Nat.reduceAdd, true_and, and_true, eqOk_str, eqOk_int, eqOk_bool, str_eqv, int_eqv, tup_nil_eqv, lst_nil_eqv, rep_flat, isK_int, isK_bool, isK_tuple, isK_str, kInt, kBool, kTuple, kStr, GB.isNon, Bool.not_true, Bool.not_false, Bool.or_false, Bool.or_true, Bool.false_or, Bool.true_or, reduceCtorEq, ]
  refine loopF (σ := KVs) (fun kv ρ => ∃ s2 s3 s4 s5, ρ = [S.d (.tuple rm), S.od kv, s2, s3, s4, s5] ∧ Smn n kv) hkP (st0 := []) ?_ ?_ ⟨_, _, _, _, rfl, Smn.nil⟩
  · rintro _ ⟨s2, s3, s4, s5, rfl, _⟩
    simp only [↓at0, ↓set0, ↓at1, ↓set1, ↓at2, ↓set2, ↓at3, ↓set3, ↓at4, ↓set4, ↓at5, ↓set5, ↓at6, ↓set6, ↓at7, ↓set7, ↓at8, ↓set8, ↓at9, ↓set9, ↓at10, ↓set10, ↓at11, ↓set11, ↓at12, ↓set12, ↓at13, ↓set13, ↓at14, ↓set14, ↓at15, ↓set15, ↓fz_d, ↓fz_own, ↓fz_ob, ↓one_d, ↓int_d, ↓bool_d, ↓own_o, ↓ds_nil, ↓ds_cons, ↓seq_l, ↓seq_t, ↓ite_t, ↓ite_f, ↓e_next, ↓e_seq, ↓e_set, ↓e_drop, ↓e_ret, ↓e_ifs, ↓e_brk, ↓e_cnt, ↓e_fixs, ↓e_par, ↓e_par3, ↓e_asg, ↓e_for, ↓e_putAt, ↓e_jput, ↓e_var, ↓e_k, ↓e_fz, ↓e_op, ↓e_opL, ↓e_opR, ↓e_n, ↓e_n1, ↓e_nil, ↓e_cons, ↓e_tup, ↓e_lst, ↓e_b, ↓e_not, ↓e_and, ↓e_or, ↓e_andV, ↓e_orV, ↓e_notV, ↓e_if, ↓e_isi, ↓e_neg, ↓e_chain, ↓e_call, ↓e_callK, ↓e_jint, ↓e_dict0, ↓e_dict1, ↓e_listRng, ↓e_append, ↓e_cut, ↓e_cutO, ↓e_onone, ↓e_osome, ↓e_iseq, ↓e_ienum, ↓e_irng, ↓e_gname, ↓e_lnil, ↓e_lcons, ↓e_lc, ↓e_yes, ↓f_addI, ↓f_addS, ↓f_addT, ↓f_addL, ↓f_i2, ↓f_mulI, ↓f_mulT, ↓f_mulL, ↓f_eq, ↓f_ne, ↓f_is, ↓f_isnot, ↓f_in, ↓f_notin, ↓f_ixL, ↓f_ixT, ↓f_lenL, ↓f_lenT, ↓f_lenS, ↓f_abs, ↓f_intI, ↓f_intB, ↓f_tupL, ↓f_tupT, ↓f_lstL, ↓f_lstT, ↓f_repr, ↓f_cutL, ↓f_cutT, ↓firm_d, ↓firm_ob, ↓zip_l, ↓zip_t, ↓e_izip, ↓zip_cons, ↓zip_nil1, ↓zip_nil2, ↓f_sorted, ↓e_inn, ↓e_inc, ↓e_l2n, ↓e_l2c, ↓e_lc2, ↓e_rev, ↓e_pop, ↓e_popAt, ↓e_extend, ↓e_lc3, ↓e_gon, ↓e_goc, ↓e_dbMid, ↓e_dbIn, ↓f_neu, ↓e_ifT, ↓e_newD, ↓e_retO, ↓e_fixK, ↓e_putO, ↓e_dkO, ↓e_dkF, ↓e_kdO, ↓e_kdF, ↓e_get2O, ↓e_get2F, ↓e_ListD, ↓e_ListF, ↓od_o, ↓dct_d, ↓key_int, ↓key_str, ↓g_item, ↓g_get, ↓g_in, ↓g_notin, ↓h_list, ↓fz_od, ↓ow_ex, ↓e_tr, ↓e_trO, ↓e_trK, ↓tru_b, ↓tru_n, ↓tru_i, ↓tru_l, ↓tru_t, ↓tru_s, ↓e_i63, ↓n63_d, ↓e_ss, ↓dgTup_tup, ↓dgCons_cons, ↓dgNil_nil, ite_t, ite_f, itK_not, List.cons_append, List.nil_append, List.append_nil, List.replicate, List.flatten_cons, List.flatten_nil, List.append_eq, List.length_cons, List.length_nil, Nat.zero_add, Nat.reduceAdd, true_and, and_true, eqOk_str, eqOk_int, eqOk_bool, str_eqv, int_eqv, tup_nil_eqv, lst_nil_eqv, rep_flat, isK_int, isK_bool, isK_tuple, isK_str, kInt, kBool, kTuple, kStr, GB.isNon, Bool.not_true, Bool.not_false, Bool.or_false, Bool.or_true, Bool.false_or, Bool.true_or, reduceCtorEq, ]
    exact q
  · rintro d hd kv _ K ⟨s2, s3, s4, s5, rfl, sm⟩ hK
    obtain ⟨h, hh, rfl⟩ := (pairs_mem (k := 0)).mp hd
    have e0 : ((0 + h : Nat) : Int) = h := by simp
    rw [e0] at hK ⊢
    obtain ⟨row, e, r1, r2⟩ := rm_row hr (List.getElem?_eq_getElem hh)
    rw [e] at hK ⊢
    rw [hkP_eq] at hK
    simp only [↓at0, ↓set0, ↓at1, ↓set1, ↓at2, ↓set2, ↓at3, ↓set3, ↓at4, ↓set4, ↓at5, ↓set5, ↓at6, ↓set6, ↓at7, ↓set7, ↓at8, ↓set8, ↓at9, ↓set9, ↓at10, ↓set10, ↓at11, ↓set11, ↓at12, ↓set12, ↓at13, ↓set13, ↓at14, ↓set14, ↓at15, ↓set15, ↓fz_d, ↓fz_own, ↓fz_ob, ↓one_d, ↓int_d, ↓bool_d, ↓own_o, ↓ds_nil, ↓ds_cons, ↓seq_l, ↓seq_t, ↓ite_t, ↓ite_f, ↓e_next, ↓e_seq, ↓e_set, ↓e_drop, ↓e_ret, ↓e_ifs, ↓e_brk, ↓e_cnt, ↓e_fixs, ↓e_par, ↓e_par3, ↓e_asg, ↓e_for, ↓e_putAt, ↓e_jput, ↓e_var, ↓e_k, ↓e_fz, ↓e_op, ↓e_opL, ↓e_opR, ↓e_n, ↓e_n1, ↓e_nil, ↓e_cons, ↓e_tup, ↓e_lst, ↓e_b, ↓e_not, ↓e_and, ↓e_or, ↓e_andV, ↓e_orV, ↓e_notV, ↓e_if, ↓e_isi, ↓e_neg, ↓e_chain, ↓e_call, ↓e_callK, ↓e_jint, ↓e_dict0, ↓e_dict1, ↓e_listRng, ↓e_append, ↓e_cut, ↓e_cutO, ↓e_onone, ↓e_osome, ↓e_iseq, ↓e_ienum, ↓e_irng, ↓e_gname, ↓e_lnil, ↓e_lcons, ↓e_lc, ↓e_yes, ↓f_addI, ↓f_addS, ↓f_addT, ↓f_addL, ↓f_i2, ↓f_mulI, ↓f_mulT, ↓f_mulL, ↓f_eq, ↓f_ne, ↓f_is, ↓f_isnot, ↓f_in, ↓f_notin, ↓f_ixL, ↓f_ixT, ↓f_lenL, ↓f_lenT, ↓f_lenS, ↓f_abs, ↓f_intI, ↓f_intB, ↓f_tupL, ↓f_tupT, ↓f_lstL, ↓f_lstT, ↓f_repr, ↓f_cutL, ↓f_cutT, ↓firm_d, ↓firm_ob, ↓zip_l, ↓zip_t, ↓e_izip, ↓zip_cons, ↓zip_nil1, ↓zip_nil2, ↓f_sorted, ↓e_inn, ↓e_inc, ↓e_l2n, ↓e_l2c, ↓e_lc2, ↓e_rev, ↓e_pop, ↓e_popAt, ↓e_extend, ↓e_lc3, ↓e_gon, ↓e_goc, ↓e_dbMid, ↓e_dbIn, ↓f_neu, ↓e_ifT, ↓e_newD, ↓e_retO, ↓e_fixK, ↓e_putO, ↓e_dkO, ↓e_dkF, ↓e_kdO, ↓e_kdF, ↓e_get2O, ↓e_get2F, ↓e_ListD, ↓e_ListF, ↓od_o, ↓dct_d, ↓key_int, ↓key_str, ↓g_item, ↓g_get, ↓g_in, ↓g_notin, ↓h_list, ↓fz_od, ↓ow_ex, ↓e_tr, ↓e_trO, ↓e_trK, ↓tru_b, ↓tru_n, ↓tru_i, ↓tru_l, ↓tru_t, ↓tru_s, ↓e_i63, ↓n63_d, ↓e_ss, ↓dgTup_tup, ↓dgCons_cons, ↓dgNil_nil, ite_t, ite_f, itK_not, List.cons_append, List.nil_append, List.append_nil, List.replicate, List.flatten_cons, List.flatten_nil, List.append_eq, List.length_cons, List.length_nil, Nat.zero_add, Nat.reduceAdd, true_and, and_true, eqOk_str, eqOk_int, eqOk_bool, str_eqv, int_eqv, tup_nil_eqv, lst_nil_eqv, rep_flat, isK_int, isK_bool, isK_tuple, isK_str, kInt, kBool, kTuple, kStr, GB.isNon, Bool.not_true, Bool.not_false, Bool.or_false, Bool.or_true, Bool.false_or, Bool.true_or, reduceCtorEq, ]
    refine loopF (σ := KVs) (fun kv ρ => ∃ s4 s5, ρ = [S.d (.tuple rm), S.od kv, S.d (.int h), S.d (.tuple row), s4, s5] ∧ Smn n kv) (hkF h) (st0 := kv) ?_ ?_ ⟨_, _, rfl, sm⟩
    · rintro _ ⟨s4, s5, rfl, sm⟩
      exact hK _ ⟨_, _, _, _, rfl, sm⟩
    · rintro x hx kv _ K2 ⟨s4, s5, rfl, sm⟩ hK2
      obtain ⟨r, hr', rfl⟩ := (pairs_mem (k := 0)).mp hx
      have e0 : ((0 + r : Nat) : Int) = r := by simp
      rw [e0] at hK2 ⊢
      have sm2 := hk_smn (hd := (h : Int)) (r := (r : Int)) sm (r2 row[r] (List.getElem_mem hr'))
      have hl := sm.len
      rcases r2 row[r] (List.getElem_mem hr') with e | ⟨i, e, hi⟩
      · rw [e] at hK2 sm2 ⊢
        simp only [↓at0, ↓set0, ↓at1, ↓set1, ↓at2, ↓set2, ↓at3, ↓set3, ↓at4, ↓set4, ↓at5, ↓set5, ↓at6, ↓set6, ↓at7, ↓set7, ↓at8, ↓set8, ↓at9, ↓set9, ↓at10, ↓set10, ↓at11, ↓set11, ↓at12, ↓set12, ↓at13, ↓set13, ↓at14, ↓set14, ↓at15, ↓set15, ↓fz_d, ↓fz_own, ↓fz_ob, ↓one_d, ↓int_d, ↓bool_d, ↓own_o, ↓ds_nil, ↓ds_cons, ↓seq_l, ↓seq_t, ↓ite_t, ↓ite_f, ↓e_next, ↓e_seq, ↓e_set, ↓e_drop, ↓e_ret, ↓e_ifs, ↓e_brk, ↓e_cnt, ↓e_fixs, ↓e_par, ↓e_par3, ↓e_asg, ↓e_for, ↓e_putAt, ↓e_jput, ↓e_var, ↓e_k, ↓e_fz, ↓e_op, ↓e_opL, ↓e_opR, ↓e_n, ↓e_n1, ↓e_nil, ↓e_cons, ↓e_tup, ↓e_lst, ↓e_b, ↓e_not, ↓e_and, ↓e_or, ↓e_andV, ↓e_orV, ↓e_notV, ↓e_if, ↓e_isi, ↓e_neg, ↓e_chain, ↓e_call, ↓e_callK, ↓e_jint, ↓e_dict0, ↓e_dict1, ↓e_listRng, ↓e_append, ↓e_cut, ↓e_cutO, ↓e_onone, ↓e_osome, ↓e_iseq, ↓e_ienum, ↓e_irng, ↓e_gname, ↓e_lnil, ↓e_lcons, ↓e_lc, ↓e_yes, ↓f_addI, ↓f_addS, ↓f_addT, ↓f_addL, ↓f_i2, ↓f_mulI, ↓f_mulT, ↓f_mulL, ↓f_eq, ↓f_ne, ↓f_is, ↓f_isnot, ↓f_in, ↓f_notin, ↓f_ixL, ↓f_ixT, ↓f_lenL, ↓f_lenT, ↓f_lenS, ↓f_abs, ↓f_intI, ↓f_intB, ↓f_tupL, ↓f_tupT, ↓f_lstL, ↓f_lstT, ↓f_repr, ↓f_cutL, ↓f_cutT, ↓firm_d, ↓firm_ob, ↓zip_l, ↓zip_t, ↓e_izip, ↓zip_cons, ↓zip_nil1, ↓zip_nil2, ↓f_sorted, ↓e_inn, ↓e_inc, ↓e_l2n, ↓e_l2c, ↓e_lc2, ↓e_rev, ↓e_pop, ↓e_popAt, ↓e_extend, ↓e_lc3, ↓e_gon, ↓e_goc, ↓e_dbMid, ↓e_dbIn, ↓f_neu, ↓e_ifT, ↓e_newD, ↓e_retO, ↓e_fixK, ↓e_putO, ↓e_dkO, ↓e_dkF, ↓e_kdO, ↓e_kdF, ↓e_get2O, ↓e_get2F, ↓e_ListD, ↓e_ListF, ↓od_o, ↓dct_d, ↓key_int, ↓key_str, ↓g_item, ↓g_get, ↓g_in, ↓g_notin, ↓h_list, ↓fz_od, ↓ow_ex, ↓e_tr, ↓e_trO, ↓e_trK, ↓tru_b, ↓tru_n, ↓tru_i, ↓tru_l, ↓tru_t, ↓tru_s, ↓e_i63, ↓n63_d, ↓e_ss, ↓dgTup_tup, ↓dgCons_cons, ↓dgNil_nil, ite_t, ite_f, itK_not, List.cons_append, List.nil_append, List.append_nil, List.replicate, List.flatten_cons, List.flatten_nil, List.append_eq, List.length_cons, List.length_nil, Nat.zero_add, Nat.reduceAdd, true_and, and_true, eqOk_str, eqOk_int, eqOk_bool, str_eqv, int_eqv, tup_nil_eqv, lst_nil_eqv, rep_flat, isK_int, isK_bool, isK_tuple, isK_str, kInt, kBool, kTuple, kStr, GB.isNon, Bool.not_true, Bool.not_false, Bool.or_false, Bool.or_true, Bool.false_or, Bool.true_or, reduceCtorEq, ]
        exact hK2 _ ⟨_, _, rfl, sm⟩
      · rw [e] at hK2 sm2 ⊢
        simp only [↓at0, ↓set0, ↓at1, ↓set1, ↓at2, ↓set2, ↓at3, ↓set3, ↓at4, ↓set4, ↓at5, ↓set5, ↓at6, ↓set6, ↓at7, ↓set7, ↓at8, ↓set8, ↓at9, ↓set9, ↓at10, ↓set10, ↓at11, ↓set11, ↓at12, ↓set12, ↓at13, ↓set13, ↓at14, ↓set14, ↓at15, ↓set15, ↓fz_d, ↓fz_own, ↓fz_ob, ↓one_d, ↓int_d, ↓bool_d, ↓own_o, ↓ds_nil, ↓ds_cons, ↓seq_l, ↓seq_t, ↓ite_t, ↓ite_f, ↓e_next, ↓e_seq, ↓e_set, ↓e_drop, ↓e_ret, ↓e_ifs, ↓e_brk, ↓e_cnt, ↓e_fixs, ↓e_par, ↓e_par3, ↓e_asg, ↓e_for, ↓e_putAt, ↓e_jput, ↓e_var, ↓e_k, ↓e_fz, ↓e_op, ↓e_opL, ↓e_opR, ↓e_n, ↓e_n1, ↓e_nil, ↓e_cons, ↓e_tup, ↓e_lst, ↓e_b, ↓e_not, ↓e_and, ↓e_or, ↓e_andV, ↓e_orV, ↓e_notV, ↓e_if, ↓e_isi, ↓e_neg, ↓e_chain, ↓e_call, ↓e_callK, ↓e_jint, ↓e_dict0, ↓e_dict1, ↓e_listRng, ↓e_append, ↓e_cut, ↓e_cutO, ↓e_onone, ↓e_osome, ↓e_iseq, ↓e_ienum, ↓e_irng, ↓e_gname, ↓e_lnil, ↓e_lcons, ↓e_lc, ↓e_yes, ↓f_addI, ↓f_addS, ↓f_addT, ↓f_addL, ↓f_i2, ↓f_mulI, ↓f_mulT, ↓f_mulL, ↓f_eq, ↓f_ne, ↓f_is, ↓f_isnot, ↓f_in, ↓f_notin, ↓f_ixL, ↓f_ixT, ↓f_lenL, ↓f_lenT, ↓f_lenS, ↓f_abs, ↓f_intI, ↓f_intB, ↓f_tupL, ↓f_tupT, ↓f_lstL, ↓f_lstT, ↓f_repr, ↓f_cutL, ↓f_cutT, ↓firm_d, ↓firm_ob, ↓zip_l, ↓zip_t, ↓e_izip, ↓zip_cons, ↓zip_nil1, ↓zip_nil2, ↓f_sorted, ↓e_inn, ↓e_inc, ↓e_l2n, ↓e_l2c, ↓e_lc2, ↓e_rev, ↓e_pop, ↓e_popAt, ↓e_extend, ↓e_lc3, ↓e_gon, ↓e_goc, ↓e_dbMid, ↓e_dbIn, ↓f_neu, ↓e_ifT, ↓e_newD, ↓e_retO, ↓e_fixK, ↓e_putO, ↓e_dkO, ↓e_dkF, ↓e_kdO, ↓e_kdF, ↓e_get2O, ↓e_get2F, ↓e_ListD, ↓e_ListF, ↓od_o, ↓dct_d, ↓key_int, ↓key_str, ↓g_item, ↓g_get, ↓g_in, ↓g_notin, ↓h_list, ↓fz_od, ↓ow_ex, ↓e_tr, ↓e_trO, ↓e_trK, ↓tru_b, ↓tru_n, ↓tru_i, ↓tru_l, ↓tru_t, ↓tru_s, ↓e_i63, ↓n63_d, ↓e_ss, ↓dgTup_tup, ↓dgCons_cons, ↓dgNil_nil, ite_t, ite_f, itK_not, List.cons_append, List.nil_append, List.append_nil, List.replicate, List.flatten_cons, List.flatten_nil, List.append_eq, List.length_cons, List.length_nil, Nat.zero_add, Nat.reduceAdd, true_and, and_true, eqOk_str, eqOk_int, eqOk_bool, str_eqv, int_eqv, tup_nil_eqv, lst_nil_eqv, rep_flat, isK_int, isK_bool, isK_tuple, isK_str, kInt, kBool, kTuple, kStr, GB.isNon, Bool.not_true, Bool.not_false, Bool.or_false, Bool.or_true, Bool.false_or, Bool.true_or, reduceCtorEq, ]
        have e : hkF (h : Int) kv (.tuple [.int (r : Int), .int (i : Int)]) = if nOk kv (.int (i : Int)) = true then putD kv (.inl (i : Int)) (.tuple [.int (h : Int), .int (r : Int)]) else kv := rfl
        rw [nOk_i] at e
        rw [e] at hK2 sm2
        refine iteB (fun h2 => ?_) fun h2 => ?_
        · rw [h2] at hK2 sm2
          exact hK2 _ ⟨_, _, rfl, sm⟩
        · rw [h2] at hK2 sm2
          exact ⟨by decide, line_ge (by omega), hK2 _ ⟨_, _, rfl, sm2⟩⟩
theorem s_hkw {k : S → Prop} {n : Nat} {rm lk : List PyData} (hr : RmOk n rm lk) (hn : n ≤ 60) (h : k (.od (hkK rm))) : F_p_ways_of_held [.d (.tuple rm)] k := ⟨n, rm, lk, rfl, hr, hn, h⟩
theorem went_facts {cs : Cs} {rm : List PyData} {k : Nat} {kvs : KVs} (h : ∀ p ∈ kvs, EntW cs rm k p) (nd : (kvs.map (·.1)).Nodup) : Smn cs.length kvs ∧ ∀ i : Nat, ∀ x, lookD kvs (.inl (i : Int)) = some x → ∃ xs, x = .tuple xs ∧ xs.length ≤ cs.length + 2 := by
  refine ⟨⟨fun p hp => ?_, nd⟩, fun i x hx => ?_⟩
  · obtain ⟨i, d, vs, rfl, _, _, h5, _⟩ := h p hp
    exact ⟨i, rfl, h5.lt grH_ok⟩
  · obtain ⟨i', d, vs, e, _, _, h5, h6⟩ := h _ (look_mem hx)
    have := Nat.lt_of_lt_of_le (Gr.deep grH_ok h5) (Gr.cnt_le (g := grH cs rm) d)
    have ex : x = natsD vs := congrArg Prod.snd e
    refine ⟨_, ex, ?_⟩
    rw [List.length_map, h6]
    have : (grH cs rm).n = cs.length := rfl
    omega
theorem ma_p_ways : ∀ ss R, ss.length = 1 → F_p_ways ss R → rd_p_ways { nx := fun _ => R (.d .none), rt := R } (ss ++ List.replicate 9 .un) := by
  rintro _ R - ⟨cs, rm, lk, rfl, hs, hr, q⟩
  have h60 := hs.1
  unfold rd_p_ways
  simp only [↓at0, ↓set0, ↓at1, ↓set1, ↓at2, ↓set2, ↓at3, ↓set3, ↓at4, ↓set4, ↓at5, ↓set5, ↓at6, ↓set6, ↓at7, ↓set7, ↓at8, ↓set8, ↓at9, ↓set9, ↓at10, ↓set10, ↓at11, ↓set11, ↓at12, ↓set12, ↓at13, ↓set13, ↓at14, ↓set14, ↓at15, ↓set15, ↓fz_d, ↓fz_own, ↓fz_ob, ↓one_d, ↓int_d, ↓bool_d, ↓own_o, ↓ds_nil, ↓ds_cons, ↓seq_l, ↓seq_t, ↓ite_t, ↓ite_f, ↓e_next, ↓e_seq, ↓e_set, ↓e_drop, ↓e_ret, ↓e_ifs, ↓e_brk, ↓e_cnt, ↓e_fixs, ↓e_par, ↓e_par3, ↓e_asg, ↓e_for, ↓e_putAt, ↓e_jput, ↓e_var, ↓e_k, ↓e_fz, ↓e_op, ↓e_opL, ↓e_opR, ↓e_n, ↓e_n1, ↓e_nil, ↓e_cons, ↓e_tup, ↓e_lst, ↓e_b, ↓e_not, ↓e_and, ↓e_or, ↓e_andV, ↓e_orV, ↓e_notV, ↓e_if, ↓e_isi, ↓e_neg, ↓e_chain, ↓e_call, ↓e_callK, ↓e_jint, ↓e_dict0, ↓e_dict1, ↓e_listRng, ↓e_append, ↓e_cut, ↓e_cutO, ↓e_onone, ↓e_osome, ↓e_iseq, ↓e_ienum, ↓e_irng, ↓e_gname, ↓e_lnil, ↓e_lcons, ↓e_lc, ↓e_yes, ↓f_addI, ↓f_addS, ↓f_addT, ↓f_addL, ↓f_i2, ↓f_mulI, ↓f_mulT, ↓f_mulL, ↓f_eq, ↓f_ne, ↓f_is, ↓f_isnot, ↓f_in, ↓f_notin, ↓f_ixL, ↓f_ixT, ↓f_lenL, ↓f_lenT, ↓f_lenS, ↓f_abs, ↓f_intI, ↓f_intB, ↓f_tupL, ↓f_tupT, ↓f_lstL, ↓f_lstT, ↓f_repr, ↓f_cutL, ↓f_cutT, ↓firm_d, ↓firm_ob, ↓zip_l, ↓zip_t, ↓e_izip, ↓zip_cons, ↓zip_nil1, ↓zip_nil2, ↓f_sorted, ↓e_inn, ↓e_inc, ↓e_l2n, ↓e_l2c, ↓e_lc2, ↓e_rev, ↓e_pop, ↓e_popAt, ↓e_extend, ↓e_lc3, ↓e_gon, ↓e_goc, ↓e_dbMid, ↓e_dbIn, ↓f_neu, ↓e_ifT, ↓e_newD, ↓e_retO, ↓e_fixK, ↓e_putO, ↓e_dkO, ↓e_dkF, ↓e_kdO, ↓e_kdF, ↓e_get2O, ↓e_get2F, ↓e_ListD, ↓e_ListF, ↓od_o, ↓dct_d, ↓key_int, ↓key_str, ↓g_item, ↓g_get, ↓g_in, ↓g_notin, ↓h_list, ↓fz_od, ↓ow_ex, ↓e_tr, ↓e_trO, ↓e_trK, ↓tru_b, ↓tru_n, ↓tru_i, ↓tru_l, ↓tru_t, ↓tru_s, ↓e_i63, ↓n63_d, ↓e_ss, ↓dgTup_tup, ↓dgCons_cons, ↓dgNil_nil, ite_t, ite_f, itK_not, List.cons_append, List.nil_append, List.append_nil, List.replicate, List.flatten_cons, List.flatten_nil, List.append_eq, List.length_cons, List.length_nil, Nat.zero_add, Nat.reduceAdd, true_and, and_true, eqOk_str, eqOk_int, eqOk_bool, str_eqv, int_eqv, tup_nil_eqv, lst_nil_eqv, rep_flat, isK_int, isK_bool, isK_tuple, isK_str, kInt, kBool, kTuple, kStr, GB.isNon, Bool.not_true, Bool.not_false, Bool.or_false, Bool.or_true, Bool.false_or, Bool.true_or, reduceCtorEq, ]
  unfold stD
  simp only [↓at0, ↓set0, ↓at1, ↓set1, ↓at2, ↓set2, ↓at3, ↓set3, ↓at4, ↓set4, ↓at5, ↓set5, ↓at6, ↓set6, ↓at7, ↓set7, ↓at8, ↓set8, ↓at9, ↓set9, ↓at10, ↓set10, ↓at11, ↓set11, ↓at12, ↓set12, ↓at13, ↓set13, ↓at14, ↓set14, ↓at15, ↓set15, ↓fz_d, ↓fz_own, ↓fz_ob, ↓one_d, ↓int_d, ↓bool_d, ↓own_o, ↓ds_nil, ↓ds_cons, ↓seq_l, ↓seq_t, ↓ite_t, ↓ite_f, ↓e_next, ↓e_seq, ↓e_set, ↓e_drop, ↓e_ret, ↓e_ifs, ↓e_brk, ↓e_cnt, ↓e_fixs, ↓e_par, ↓e_par3, ↓e_asg, ↓e_for, ↓e_putAt, ↓e_jput, ↓e_var, ↓e_k, ↓e_fz, ↓e_op, ↓e_opL, ↓e_opR, ↓e_n, ↓e_n1, ↓e_nil, ↓e_cons, ↓e_tup, ↓e_lst, ↓e_b, ↓e_not, ↓e_and, ↓e_or, ↓e_andV, ↓e_orV, ↓e_notV, ↓e_if, ↓e_isi, ↓e_neg, ↓e_chain, ↓e_call, ↓e_callK, ↓e_jint, ↓e_dict0, ↓e_dict1, ↓e_listRng, ↓e_append, ↓e_cut, ↓e_cutO, ↓e_onone, ↓e_osome, ↓e_iseq, ↓e_ienum, ↓e_irng, ↓e_gname, ↓e_lnil, ↓e_lcons, ↓e_lc, ↓e_yes, ↓f_addI, ↓f_addS, ↓f_addT, ↓f_addL, ↓f_i2, ↓f_mulI, ↓f_mulT, ↓f_mulL, ↓f_eq, ↓f_ne, ↓f_is, ↓f_isnot, ↓f_in, ↓f_notin, ↓f_ixL, ↓f_ixT, ↓f_lenL, ↓f_lenT, ↓f_lenS, ↓f_abs, ↓f_intI, ↓f_intB, ↓f_tupL, ↓f_tupT, ↓f_lstL, ↓f_lstT, ↓f_repr, ↓f_cutL, ↓f_cutT, ↓firm_d, ↓firm_ob, ↓zip_l, ↓zip_t, ↓e_izip, ↓zip_cons, ↓zip_nil1, ↓zip_nil2, ↓f_sorted, ↓e_inn, ↓e_inc, ↓e_l2n, ↓e_l2c, ↓e_lc2, ↓e_rev, ↓e_pop, ↓e_popAt, ↓e_extend, ↓e_lc3, ↓e_gon, ↓e_goc, ↓e_dbMid, ↓e_dbIn, ↓f_neu, ↓e_ifT, ↓e_newD, ↓e_retO, ↓e_fixK, ↓e_putO, ↓e_dkO, ↓e_dkF, ↓e_kdO, ↓e_kdF, ↓e_get2O, ↓e_get2F, ↓e_ListD, ↓e_ListF, ↓od_o, ↓dct_d, ↓key_int, ↓key_str, ↓g_item, ↓g_get, ↓g_in, ↓g_notin, ↓h_list, ↓fz_od, ↓ow_ex, ↓e_tr, ↓e_trO, ↓e_trK, ↓tru_b, ↓tru_n, ↓tru_i, ↓tru_l, ↓tru_t, ↓tru_s, ↓e_i63, ↓n63_d, ↓e_ss, ↓dgTup_tup, ↓dgCons_cons, ↓dgNil_nil, ite_t, ite_f, itK_not, List.cons_append, List.nil_append, List.append_nil, List.replicate, List.flatten_cons, List.flatten_nil, List.append_eq, List.length_cons, List.length_nil, Nat.zero_add, Nat.reduceAdd, true_and, and_true, eqOk_str, eqOk_int, eqOk_bool, str_eqv, int_eqv, tup_nil_eqv, lst_nil_eqv, rep_flat, isK_int, isK_bool, isK_tuple, isK_str, kInt, kBool, kTuple, kStr, GB.isNon, Bool.not_true, Bool.not_false, Bool.or_false, Bool.or_true, Bool.false_or, Bool.true_or, reduceCtorEq, ]
  refine s_hkw hr hs.1 ?_
  simp only [↓at0, ↓set0, ↓at1, ↓set1, ↓at2, ↓set2, ↓at3, ↓set3, ↓at4, ↓set4, ↓at5, ↓set5, ↓at6, ↓set6, ↓at7, ↓set7, ↓at8, ↓set8, ↓at9, ↓set9, ↓at10, ↓set10, ↓at11, ↓set11, ↓at12, ↓set12, ↓at13, ↓set13, ↓at14, ↓set14, ↓at15, ↓set15, ↓fz_d, ↓fz_own, ↓fz_ob, ↓one_d, ↓int_d, ↓bool_d, ↓own_o, ↓ds_nil, ↓ds_cons, ↓seq_l, ↓seq_t, ↓ite_t, ↓ite_f, ↓e_next, ↓e_seq, ↓e_set, ↓e_drop, ↓e_ret, ↓e_ifs, ↓e_brk, ↓e_cnt, ↓e_fixs, ↓e_par, ↓e_par3, ↓e_asg, ↓e_for, ↓e_putAt, ↓e_jput, ↓e_var, ↓e_k, ↓e_fz, ↓e_op, ↓e_opL, ↓e_opR, ↓e_n, ↓e_n1, ↓e_nil, ↓e_cons, ↓e_tup, ↓e_lst, ↓e_b, ↓e_not, ↓e_and, ↓e_or, ↓e_andV, ↓e_orV, ↓e_notV, ↓e_if, ↓e_isi, ↓e_neg, ↓e_chain, ↓e_call, ↓e_callK, ↓e_jint, ↓e_dict0, ↓e_dict1, ↓e_listRng, ↓e_append, ↓e_cut, ↓e_cutO, ↓e_onone, ↓e_osome, ↓e_iseq, ↓e_ienum, ↓e_irng, ↓e_gname, ↓e_lnil, ↓e_lcons, ↓e_lc, ↓e_yes, ↓f_addI, ↓f_addS, ↓f_addT, ↓f_addL, ↓f_i2, ↓f_mulI, ↓f_mulT, ↓f_mulL, ↓f_eq, ↓f_ne, ↓f_is, ↓f_isnot, ↓f_in, ↓f_notin, ↓f_ixL, ↓f_ixT, ↓f_lenL, ↓f_lenT, ↓f_lenS, ↓f_abs, ↓f_intI, ↓f_intB, ↓f_tupL, ↓f_tupT, ↓f_lstL, ↓f_lstT, ↓f_repr, ↓f_cutL, ↓f_cutT, ↓firm_d, ↓firm_ob, ↓zip_l, ↓zip_t, ↓e_izip, ↓zip_cons, ↓zip_nil1, ↓zip_nil2, ↓f_sorted, ↓e_inn, ↓e_inc, ↓e_l2n, ↓e_l2c, ↓e_lc2, ↓e_rev, ↓e_pop, ↓e_popAt, ↓e_extend, ↓e_lc3, ↓e_gon, ↓e_goc, ↓e_dbMid, ↓e_dbIn, ↓f_neu, ↓e_ifT, ↓e_newD, ↓e_retO, ↓e_fixK, ↓e_putO, ↓e_dkO, ↓e_dkF, ↓e_kdO, ↓e_kdF, ↓e_get2O, ↓e_get2F, ↓e_ListD, ↓e_ListF, ↓od_o, ↓dct_d, ↓key_int, ↓key_str, ↓g_item, ↓g_get, ↓g_in, ↓g_notin, ↓h_list, ↓fz_od, ↓ow_ex, ↓e_tr, ↓e_trO, ↓e_trK, ↓tru_b, ↓tru_n, ↓tru_i, ↓tru_l, ↓tru_t, ↓tru_s, ↓e_i63, ↓n63_d, ↓e_ss, ↓dgTup_tup, ↓dgCons_cons, ↓dgNil_nil, ite_t, ite_f, itK_not, List.cons_append, List.nil_append, List.append_nil, List.replicate, List.flatten_cons, List.flatten_nil, List.append_eq, List.length_cons, List.length_nil, Nat.zero_add, Nat.reduceAdd, true_and, and_true, eqOk_str, eqOk_int, eqOk_bool, str_eqv, int_eqv, tup_nil_eqv, lst_nil_eqv, rep_flat, isK_int, isK_bool, isK_tuple, isK_str, kInt, kBool, kTuple, kStr, GB.isNon, Bool.not_true, Bool.not_false, Bool.or_false, Bool.or_true, Bool.false_or, Bool.true_or, reduceCtorEq, ]
  refine whileI (fun m ρ => ∃ kv lv s6 s7 s8 s9, ρ = [S.d (stD cs rm lk), S.d (.tuple (cs.map fun c => .tuple c.1)), S.d (.tuple lk), S.d (.tuple rm), S.od kv, S.d (.list lv), s6, s7, s8, s9] ∧ WyH cs rm m kv lv) ⟨_, _, _, _, _, _, _, rfl, wyH_start hr⟩ ?_
  rintro m _ K hK ⟨kv, lv, s6, s7, s8, s9, rfl, hh⟩
  simp only [↓at0, ↓set0, ↓at1, ↓set1, ↓at2, ↓set2, ↓at3, ↓set3, ↓at4, ↓set4, ↓at5, ↓set5, ↓at6, ↓set6, ↓at7, ↓set7, ↓at8, ↓set8, ↓at9, ↓set9, ↓at10, ↓set10, ↓at11, ↓set11, ↓at12, ↓set12, ↓at13, ↓set13, ↓at14, ↓set14, ↓at15, ↓set15, ↓fz_d, ↓fz_own, ↓fz_ob, ↓one_d, ↓int_d, ↓bool_d, ↓own_o, ↓ds_nil, ↓ds_cons, ↓seq_l, ↓seq_t, ↓ite_t, ↓ite_f, ↓e_next, ↓e_seq, ↓e_set, ↓e_drop, ↓e_ret, ↓e_ifs, ↓e_brk, ↓e_cnt, ↓e_fixs, ↓e_par, ↓e_par3, ↓e_asg, ↓e_for, ↓e_putAt, ↓e_jput, ↓e_var, ↓e_k, ↓e_fz, ↓e_op, ↓e_opL, ↓e_opR, ↓e_n, ↓e_n1, ↓e_nil, ↓e_cons, ↓e_tup, ↓e_lst, ↓e_b, ↓e_not, ↓e_and, ↓e_or, ↓e_andV, ↓e_orV, ↓e_notV, ↓e_if, ↓e_isi, ↓e_neg, ↓e_chain, ↓e_call, ↓e_callK, ↓e_jint, ↓e_dict0, ↓e_dict1, ↓e_listRng, ↓e_append, ↓e_cut, ↓e_cutO, ↓e_onone, ↓e_osome, ↓e_iseq, ↓e_ienum, ↓e_irng, ↓e_gname, ↓e_lnil, ↓e_lcons, ↓e_lc, ↓e_yes, ↓f_addI, ↓f_addS, ↓f_addT, ↓f_addL, ↓f_i2, ↓f_mulI, ↓f_mulT, ↓f_mulL, ↓f_eq, ↓f_ne, ↓f_is, ↓f_isnot, ↓f_in, ↓f_notin, ↓f_ixL, ↓f_ixT, ↓f_lenL, ↓f_lenT, ↓f_lenS, ↓f_abs, ↓f_intI, ↓f_intB, ↓f_tupL, ↓f_tupT, ↓f_lstL, ↓f_lstT, ↓f_repr, ↓f_cutL, ↓f_cutT, ↓firm_d, ↓firm_ob, ↓zip_l, ↓zip_t, ↓e_izip, ↓zip_cons, ↓zip_nil1, ↓zip_nil2, ↓f_sorted, ↓e_inn, ↓e_inc, ↓e_l2n, ↓e_l2c, ↓e_lc2, ↓e_rev, ↓e_pop, ↓e_popAt, ↓e_extend, ↓e_lc3, ↓e_gon, ↓e_goc, ↓e_dbMid, ↓e_dbIn, ↓f_neu, ↓e_ifT, ↓e_newD, ↓e_retO, ↓e_fixK, ↓e_putO, ↓e_dkO, ↓e_dkF, ↓e_kdO, ↓e_kdF, ↓e_get2O, ↓e_get2F, ↓e_ListD, ↓e_ListF, ↓od_o, ↓dct_d, ↓key_int, ↓key_str, ↓g_item, ↓g_get, ↓g_in, ↓g_notin, ↓h_list, ↓fz_od, ↓ow_ex, ↓e_tr, ↓e_trO, ↓e_trK, ↓tru_b, ↓tru_n, ↓tru_i, ↓tru_l, ↓tru_t, ↓tru_s, ↓e_i63, ↓n63_d, ↓e_ss, ↓dgTup_tup, ↓dgCons_cons, ↓dgNil_nil, ite_t, ite_f, itK_not, List.cons_append, List.nil_append, List.append_nil, List.replicate, List.flatten_cons, List.flatten_nil, List.append_eq, List.length_cons, List.length_nil, Nat.zero_add, Nat.reduceAdd, true_and, and_true, eqOk_str, eqOk_int, eqOk_bool, str_eqv, int_eqv, tup_nil_eqv, lst_nil_eqv, rep_flat, isK_int, isK_bool, isK_tuple, isK_str, kInt, kBool, kTuple, kStr, GB.isNon, Bool.not_true, Bool.not_false, Bool.or_false, Bool.or_true, Bool.false_or, Bool.true_or, reduceCtorEq, ]
  cases lv with
  | nil =>
    refine ite_t.mpr ?_
    rw [wyH_end hh]
    exact q
  | cons x0 lv0 =>
    refine ite_f.mpr ?_
    generalize hlv : x0 :: lv0 = lv at *
    have hne : lv ≠ [] := by rw [← hlv]; simp
    obtain ⟨f', rfl, hh'⟩ := wyH_step hs hh hne
    obtain ⟨⟨k, hk, h1, h2, h3⟩, _⟩ := hh
    refine ⟨by decide, loopF (σ := KVs × List PyData) (fun st ρ => ∃ s7 s8 s9, ρ = [S.d (stD cs rm lk), S.d (.tuple (cs.map fun c => .tuple c.1)), S.d (.tuple lk), S.d (.tuple rm), S.od st.1, S.d (.list lv), S.own st.2, s7, s8, s9] ∧ WyM cs rm k st) (wyR cs) (st0 := (kv, [])) ?_ ?_ ⟨_, _, _, rfl, wyM_start h1 h2 (wkeys_ge h1)⟩⟩
    · rintro _ ⟨s7, s8, s9, rfl, _⟩
      simp only [↓at0, ↓set0, ↓at1, ↓set1, ↓at2, ↓set2, ↓at3, ↓set3, ↓at4, ↓set4, ↓at5, ↓set5, ↓at6, ↓set6, ↓at7, ↓set7, ↓at8, ↓set8, ↓at9, ↓set9, ↓at10, ↓set10, ↓at11, ↓set11, ↓at12, ↓set12, ↓at13, ↓set13, ↓at14, ↓set14, ↓at15, ↓set15, ↓fz_d, ↓fz_own, ↓fz_ob, ↓one_d, ↓int_d, ↓bool_d, ↓own_o, ↓ds_nil, ↓ds_cons, ↓seq_l, ↓seq_t, ↓ite_t, ↓ite_f, ↓e_next, ↓e_seq, ↓e_set, ↓e_drop, ↓e_ret, ↓e_ifs, ↓e_brk, ↓e_cnt, ↓e_fixs, ↓e_par, ↓e_par3, ↓e_asg, ↓e_for, ↓e_putAt, ↓e_jput, ↓e_var, ↓e_k, ↓e_fz, ↓e_op, ↓e_opL, ↓e_opR, ↓e_n, ↓e_n1, ↓e_nil, ↓e_cons, ↓e_tup, ↓e_lst, ↓e_b, ↓e_not, ↓e_and, ↓e_or, ↓e_andV, ↓e_orV, ↓e_notV, ↓e_if, ↓e_isi, ↓e_neg, ↓e_chain, ↓e_call, ↓e_callK, ↓e_jint, ↓e_dict0, ↓e_dict1, ↓e_listRng, ↓e_append, ↓e_cut, ↓e_cutO, ↓e_onone, ↓e_osome, ↓e_iseq, ↓e_ienum, ↓e_irng, ↓e_gname, ↓e_lnil, ↓e_lcons, ↓e_lc, ↓e_yes, ↓f_addI, ↓f_addS, ↓f_addT, ↓f_addL, ↓f_i2, ↓f_mulI, ↓f_mulT, ↓f_mulL, ↓f_eq, ↓f_ne, ↓f_is, ↓f_isnot, ↓f_in, ↓f_notin, ↓f_ixL, ↓f_ixT, ↓f_lenL, ↓f_lenT, ↓f_lenS, ↓f_abs, ↓f_intI, ↓f_intB, ↓f_tupL, ↓f_tupT, ↓f_lstL, ↓f_lstT, ↓f_repr, ↓f_cutL, ↓f_cutT, ↓firm_d, ↓firm_ob, ↓zip_l, ↓zip_t, ↓e_izip, ↓zip_cons, ↓zip_nil1, ↓zip_nil2, ↓f_sorted, ↓e_inn, ↓e_inc, ↓e_l2n, ↓e_l2c, ↓e_lc2, ↓e_rev, ↓e_pop, ↓e_popAt, ↓e_extend, ↓e_lc3, ↓e_gon, ↓e_goc, ↓e_dbMid, ↓e_dbIn, ↓f_neu, ↓e_ifT, ↓e_newD, ↓e_retO, ↓e_fixK, ↓e_putO, ↓e_dkO, ↓e_dkF, ↓e_kdO, ↓e_kdF, ↓e_get2O, ↓e_get2F, ↓e_ListD, ↓e_ListF, ↓od_o, ↓dct_d, ↓key_int, ↓key_str, ↓g_item, ↓g_get, ↓g_in, ↓g_notin, ↓h_list, ↓fz_od, ↓ow_ex, ↓e_tr, ↓e_trO, ↓e_trK, ↓tru_b, ↓tru_n, ↓tru_i, ↓tru_l, ↓tru_t, ↓tru_s, ↓e_i63, ↓n63_d, ↓e_ss, ↓dgTup_tup, ↓dgCons_cons, ↓dgNil_nil, ite_t, ite_f, itK_not, List.cons_append, List.nil_append, List.append_nil, List.replicate, List.flatten_cons, List.flatten_nil, List.append_eq, List.length_cons, List.length_nil, Nat.zero_add, Nat.reduceAdd, true_and, and_true, eqOk_str, eqOk_int, eqOk_bool, str_eqv, int_eqv, tup_nil_eqv, lst_nil_eqv, rep_flat, isK_int, isK_bool, isK_tuple, isK_str, kInt, kBool, kTuple, kStr, GB.isNon, Bool.not_true, Bool.not_false, Bool.or_false, Bool.or_true, Bool.false_or, Bool.true_or, reduceCtorEq, ]
      exact hK f' _ (by omega) ⟨_, _, _, _, _, _, rfl, hh'⟩
    · rintro d hd st _ K2 ⟨s7, s8, s9, rfl, hm⟩ hK2
      obtain ⟨j, rfl, hj⟩ := h3.1 d hd
      have jn : j < cs.length := hj.lt grH_ok
      rw [wyR_eq] at hK2
      simp only [↓at0, ↓set0, ↓at1, ↓set1, ↓at2, ↓set2, ↓at3, ↓set3, ↓at4, ↓set4, ↓at5, ↓set5, ↓at6, ↓set6, ↓at7, ↓set7, ↓at8, ↓set8, ↓at9, ↓set9, ↓at10, ↓set10, ↓at11, ↓set11, ↓at12, ↓set12, ↓at13, ↓set13, ↓at14, ↓set14, ↓at15, ↓set15, ↓fz_d, ↓fz_own, ↓fz_ob, ↓one_d, ↓int_d, ↓bool_d, ↓own_o, ↓ds_nil, ↓ds_cons, ↓seq_l, ↓seq_t, ↓ite_t, ↓ite_f, ↓e_next, ↓e_seq, ↓e_set, ↓e_drop, ↓e_ret, ↓e_ifs, ↓e_brk, ↓e_cnt, ↓e_fixs, ↓e_par, ↓e_par3, ↓e_asg, ↓e_for, ↓e_putAt, ↓e_jput, ↓e_var, ↓e_k, ↓e_fz, ↓e_op, ↓e_opL, ↓e_opR, ↓e_n, ↓e_n1, ↓e_nil, ↓e_cons, ↓e_tup, ↓e_lst, ↓e_b, ↓e_not, ↓e_and, ↓e_or, ↓e_andV, ↓e_orV, ↓e_notV, ↓e_if, ↓e_isi, ↓e_neg, ↓e_chain, ↓e_call, ↓e_callK, ↓e_jint, ↓e_dict0, ↓e_dict1, ↓e_listRng, ↓e_append, ↓e_cut, ↓e_cutO, ↓e_onone, ↓e_osome, ↓e_iseq, ↓e_ienum, ↓e_irng, ↓e_gname, ↓e_lnil, ↓e_lcons, ↓e_lc, ↓e_yes, ↓f_addI, ↓f_addS, ↓f_addT, ↓f_addL, ↓f_i2, ↓f_mulI, ↓f_mulT, ↓f_mulL, ↓f_eq, ↓f_ne, ↓f_is, ↓f_isnot, ↓f_in, ↓f_notin, ↓f_ixL, ↓f_ixT, ↓f_lenL, ↓f_lenT, ↓f_lenS, ↓f_abs, ↓f_intI, ↓f_intB, ↓f_tupL, ↓f_tupT, ↓f_lstL, ↓f_lstT, ↓f_repr, ↓f_cutL, ↓f_cutT, ↓firm_d, ↓firm_ob, ↓zip_l, ↓zip_t, ↓e_izip, ↓zip_cons, ↓zip_nil1, ↓zip_nil2, ↓f_sorted, ↓e_inn, ↓e_inc, ↓e_l2n, ↓e_l2c, ↓e_lc2, ↓e_rev, ↓e_pop, ↓e_popAt, ↓e_extend, ↓e_lc3, ↓e_gon, ↓e_goc, ↓e_dbMid, ↓e_dbIn, ↓f_neu, ↓e_ifT, ↓e_newD, ↓e_retO, ↓e_fixK, ↓e_putO, ↓e_dkO, ↓e_dkF, ↓e_kdO, ↓e_kdF, ↓e_get2O, ↓e_get2F, ↓e_ListD, ↓e_ListF, ↓od_o, ↓dct_d, ↓key_int, ↓key_str, ↓g_item, ↓g_get, ↓g_in, ↓g_notin, ↓h_list, ↓fz_od, ↓ow_ex, ↓e_tr, ↓e_trO, ↓e_trK, ↓tru_b, ↓tru_n, ↓tru_i, ↓tru_l, ↓tru_t, ↓tru_s, ↓e_i63, ↓n63_d, ↓e_ss, ↓dgTup_tup, ↓dgCons_cons, ↓dgNil_nil, ite_t, ite_f, itK_not, List.cons_append, List.nil_append, List.append_nil, List.replicate, List.flatten_cons, List.flatten_nil, List.append_eq, List.length_cons, List.length_nil, Nat.zero_add, Nat.reduceAdd, true_and, and_true, eqOk_str, eqOk_int, eqOk_bool, str_eqv, int_eqv, tup_nil_eqv, lst_nil_eqv, rep_flat, isK_int, isK_bool, isK_tuple, isK_str, kInt, kBool, kTuple, kStr, GB.isNon, Bool.not_true, Bool.not_false, Bool.or_false, Bool.or_true, Bool.false_or, Bool.true_or, reduceCtorEq, ↓fs_ix jn]
      refine loopF (σ := KVs × List PyData) (fun st ρ => ∃ s8 s9, ρ = [S.d (stD cs rm lk), S.d (.tuple (cs.map fun c => .tuple c.1)), S.d (.tuple lk), S.d (.tuple rm), S.od st.1, S.d (.list lv), S.own st.2, S.d (.int j), s8, s9] ∧ WyM cs rm k st) (wyF j) (st0 := st) ?_ ?_ ⟨_, _, rfl, hm⟩
      · rintro _ ⟨s8, s9, rfl, hm⟩
        exact hK2 _ ⟨_, _, _, rfl, hm⟩
      · rintro x hx st _ K3 ⟨s8, s9, rfl, hm⟩ hK3
        obtain ⟨sm, tup⟩ := went_facts hm.ent hm.nd
        have hl := sm.len
        have hfu := hm.len
        obtain ⟨f, hf, rfl⟩ := (pairs_mem (k := 0)).mp hx
        have e0 : ((0 + f : Nat) : Int) = f := by simp
        rw [e0] at hK3 ⊢
        have gx := List.getElem?_eq_getElem hf
        have one := (wyF_one hs hj hm gx).1
        obtain ⟨y, hy⟩ := Option.isSome_iff_exists.mp (hm.all j hj.1)
        obtain ⟨xs, rfl, hxs⟩ := tup j y hy
        rcases (at_cel hs jn).2.1 _ (List.getElem_mem hf) with e | ⟨i, e, hi⟩
        · rw [e] at one hK3 ⊢
          simp only [↓at0, ↓set0, ↓at1, ↓set1, ↓at2, ↓set2, ↓at3, ↓set3, ↓at4, ↓set4, ↓at5, ↓set5, ↓at6, ↓set6, ↓at7, ↓set7, ↓at8, ↓set8, ↓at9, ↓set9, ↓at10, ↓set10, ↓at11, ↓set11, ↓at12, ↓set12, ↓at13, ↓set13, ↓at14, ↓set14, ↓at15, ↓set15, ↓fz_d, ↓fz_own, ↓fz_ob, ↓one_d, ↓int_d, ↓bool_d, ↓own_o, ↓ds_nil, ↓ds_cons, ↓seq_l, ↓seq_t, ↓ite_t, ↓ite_f, ↓e_next, ↓e_seq, ↓e_set, ↓e_drop, ↓e_ret, ↓e_ifs, ↓e_brk, ↓e_cnt, ↓e_fixs, ↓e_par, ↓e_par3, ↓e_asg, ↓e_for, ↓e_putAt, ↓e_jput, ↓e_var, ↓e_k, ↓e_fz, ↓e_op, ↓e_opL, ↓e_opR, ↓e_n, ↓e_n1, ↓e_nil, ↓e_cons, ↓e_tup, ↓e_lst, ↓e_b, ↓e_not, ↓e_and, ↓e_or, ↓e_andV, ↓e_orV, ↓e_notV, ↓e_if, ↓e_isi, ↓e_neg, ↓e_chain, ↓e_call, ↓e_callK, ↓e_jint, ↓e_dict0, ↓e_dict1, ↓e_listRng, ↓e_append, ↓e_cut, ↓e_cutO, ↓e_onone, ↓e_osome, ↓e_iseq, ↓e_ienum, ↓e_irng, ↓e_gname, ↓e_lnil, ↓e_lcons, ↓e_lc, ↓e_yes, ↓f_addI, ↓f_addS, ↓f_addT, ↓f_addL, ↓f_i2, ↓f_mulI, ↓f_mulT, ↓f_mulL, ↓f_eq, ↓f_ne, ↓f_is, ↓f_isnot, ↓f_in, ↓f_notin, ↓f_ixL, ↓f_ixT, ↓f_lenL, ↓f_lenT, ↓f_lenS, ↓f_abs, ↓f_intI, ↓f_intB, ↓f_tupL, ↓f_tupT, ↓f_lstL, ↓f_lstT, ↓f_repr, ↓f_cutL, ↓f_cutT, ↓firm_d, ↓firm_ob, ↓zip_l, ↓zip_t, ↓e_izip, ↓zip_cons, ↓zip_nil1, ↓zip_nil2, ↓f_sorted, ↓e_inn, ↓e_inc, ↓e_l2n, ↓e_l2c, ↓e_lc2, ↓e_rev, ↓e_pop, ↓e_popAt, ↓e_extend, ↓e_lc3, ↓e_gon, ↓e_goc, ↓e_dbMid, ↓e_dbIn, ↓f_neu, ↓e_ifT, ↓e_newD, ↓e_retO, ↓e_fixK, ↓e_putO, ↓e_dkO, ↓e_dkF, ↓e_kdO, ↓e_kdF, ↓e_get2O, ↓e_get2F, ↓e_ListD, ↓e_ListF, ↓od_o, ↓dct_d, ↓key_int, ↓key_str, ↓g_item, ↓g_get, ↓g_in, ↓g_notin, ↓h_list, ↓fz_od, ↓ow_ex, ↓e_tr, ↓e_trO, ↓e_trK, ↓tru_b, ↓tru_n, ↓tru_i, ↓tru_l, ↓tru_t, ↓tru_s, ↓e_i63, ↓n63_d, ↓e_ss, ↓dgTup_tup, ↓dgCons_cons, ↓dgNil_nil, ite_t, ite_f, itK_not, List.cons_append, List.nil_append, List.append_nil, List.replicate, List.flatten_cons, List.flatten_nil, List.append_eq, List.length_cons, List.length_nil, Nat.zero_add, Nat.reduceAdd, true_and, and_true, eqOk_str, eqOk_int, eqOk_bool, str_eqv, int_eqv, tup_nil_eqv, lst_nil_eqv, rep_flat, isK_int, isK_bool, isK_tuple, isK_str, kInt, kBool, kTuple, kStr, GB.isNon, Bool.not_true, Bool.not_false, Bool.or_false, Bool.or_true, Bool.false_or, Bool.true_or, reduceCtorEq, ]
          exact hK3 _ ⟨_, _, rfl, one⟩
        · rw [e] at one hK3 ⊢
          rw [wyF_eq, nOk_i, hy] at one hK3
          simp only [↓at0, ↓set0, ↓at1, ↓set1, ↓at2, ↓set2, ↓at3, ↓set3, ↓at4, ↓set4, ↓at5, ↓set5, ↓at6, ↓set6, ↓at7, ↓set7, ↓at8, ↓set8, ↓at9, ↓set9, ↓at10, ↓set10, ↓at11, ↓set11, ↓at12, ↓set12, ↓at13, ↓set13, ↓at14, ↓set14, ↓at15, ↓set15, ↓fz_d, ↓fz_own, ↓fz_ob, ↓one_d, ↓int_d, ↓bool_d, ↓own_o, ↓ds_nil, ↓ds_cons, ↓seq_l, ↓seq_t, ↓ite_t, ↓ite_f, ↓e_next, ↓e_seq, ↓e_set, ↓e_drop, ↓e_ret, ↓e_ifs, ↓e_brk, ↓e_cnt, ↓e_fixs, ↓e_par, ↓e_par3, ↓e_asg, ↓e_for, ↓e_putAt, ↓e_jput, ↓e_var, ↓e_k, ↓e_fz, ↓e_op, ↓e_opL, ↓e_opR, ↓e_n, ↓e_n1, ↓e_nil, ↓e_cons, ↓e_tup, ↓e_lst, ↓e_b, ↓e_not, ↓e_and, ↓e_or, ↓e_andV, ↓e_orV, ↓e_notV, ↓e_if, ↓e_isi, ↓e_neg, ↓e_chain, ↓e_call, ↓e_callK, ↓e_jint, ↓e_dict0, ↓e_dict1, ↓e_listRng, ↓e_append, ↓e_cut, ↓e_cutO, ↓e_onone, ↓e_osome, ↓e_iseq, ↓e_ienum, ↓e_irng, ↓e_gname, ↓e_lnil, ↓e_lcons, ↓e_lc, ↓e_yes, ↓f_addI, ↓f_addS, ↓f_addT, ↓f_addL, ↓f_i2, ↓f_mulI, ↓f_mulT, ↓f_mulL, ↓f_eq, ↓f_ne, ↓f_is, ↓f_isnot, ↓f_in, ↓f_notin, ↓f_ixL, ↓f_ixT, ↓f_lenL, ↓f_lenT, ↓f_lenS, ↓f_abs, ↓f_intI, ↓f_intB, ↓f_tupL, ↓f_tupT, ↓f_lstL, ↓f_lstT, ↓f_repr, ↓f_cutL, ↓f_cutT, ↓firm_d, ↓firm_ob, ↓zip_l, ↓zip_t, ↓e_izip, ↓zip_cons, ↓zip_nil1, ↓zip_nil2, ↓f_sorted, ↓e_inn, ↓e_inc, ↓e_l2n, ↓e_l2c, ↓e_lc2, ↓e_rev, ↓e_pop, ↓e_popAt, ↓e_extend, ↓e_lc3, ↓e_gon, ↓e_goc, ↓e_dbMid, ↓e_dbIn, ↓f_neu, ↓e_ifT, ↓e_newD, ↓e_retO, ↓e_fixK, ↓e_putO, ↓e_dkO, ↓e_dkF, ↓e_kdO, ↓e_kdF, ↓e_get2O, ↓e_get2F, ↓e_ListD, ↓e_ListF, ↓od_o, ↓dct_d, ↓key_int, ↓key_str, ↓g_item, ↓g_get, ↓g_in, ↓g_notin, ↓h_list, ↓fz_od, ↓ow_ex, ↓e_tr, ↓e_trO, ↓e_trK, ↓tru_b, ↓tru_n, ↓tru_i, ↓tru_l, ↓tru_t, ↓tru_s, ↓e_i63, ↓n63_d, ↓e_ss, ↓dgTup_tup, ↓dgCons_cons, ↓dgNil_nil, ite_t, ite_f, itK_not, List.cons_append, List.nil_append, List.append_nil, List.replicate, List.flatten_cons, List.flatten_nil, List.append_eq, List.length_cons, List.length_nil, Nat.zero_add, Nat.reduceAdd, true_and, and_true, eqOk_str, eqOk_int, eqOk_bool, str_eqv, int_eqv, tup_nil_eqv, lst_nil_eqv, rep_flat, isK_int, isK_bool, isK_tuple, isK_str, kInt, kBool, kTuple, kStr, GB.isNon, Bool.not_true, Bool.not_false, Bool.or_false, Bool.or_true, Bool.false_or, Bool.true_or, reduceCtorEq, ]
          refine iteB (fun h2 => ?_) fun h2 => ?_
          · rw [h2] at one hK3
            exact hK3 _ ⟨_, _, rfl, one⟩
          · rw [h2] at one hK3
            refine ⟨_, hy, ?_⟩
            simp only [↓at0, ↓set0, ↓at1, ↓set1, ↓at2, ↓set2, ↓at3, ↓set3, ↓at4, ↓set4, ↓at5, ↓set5, ↓at6, ↓set6, ↓at7, ↓set7, ↓at8, ↓set8, ↓at9, ↓set9, ↓at10, ↓set10, ↓at11, ↓set11, ↓at12, ↓set12, ↓at13, ↓set13, ↓at14, ↓set14, ↓at15, ↓set15, ↓fz_d, ↓fz_own, ↓fz_ob, ↓one_d, ↓int_d, ↓bool_d, ↓own_o, ↓ds_nil, ↓ds_cons, ↓seq_l, ↓seq_t, ↓ite_t, ↓ite_f, ↓e_next, ↓e_seq, ↓e_set, ↓e_drop, ↓e_ret, ↓e_ifs, ↓e_brk, ↓e_cnt, ↓e_fixs, ↓e_par, ↓e_par3, ↓e_asg, ↓e_for, ↓e_putAt, ↓e_jput, ↓e_var, ↓e_k, ↓e_fz, ↓e_op, ↓e_opL, ↓e_opR, ↓e_n, ↓e_n1, ↓e_nil, ↓e_cons, ↓e_tup, ↓e_lst, ↓e_b, ↓e_not, ↓e_and, ↓e_or, ↓e_andV, ↓e_orV, ↓e_notV, ↓e_if, ↓e_isi, ↓e_neg, ↓e_chain, ↓e_call, ↓e_callK, ↓e_jint, ↓e_dict0, ↓e_dict1, ↓e_listRng, ↓e_append, ↓e_cut, ↓e_cutO, ↓e_onone, ↓e_osome, ↓e_iseq, ↓e_ienum, ↓e_irng, ↓e_gname, ↓e_lnil, ↓e_lcons, ↓e_lc, ↓e_yes, ↓f_addI, ↓f_addS, ↓f_addT, ↓f_addL, ↓f_i2, ↓f_mulI, ↓f_mulT, ↓f_mulL, ↓f_eq, ↓f_ne, ↓f_is, ↓f_isnot, ↓f_in, ↓f_notin, ↓f_ixL, ↓f_ixT, ↓f_lenL, ↓f_lenT, ↓f_lenS, ↓f_abs, ↓f_intI, ↓f_intB, ↓f_tupL, ↓f_tupT, ↓f_lstL, ↓f_lstT, ↓f_repr, ↓f_cutL, ↓f_cutT, ↓firm_d, ↓firm_ob, ↓zip_l, ↓zip_t, ↓e_izip, ↓zip_cons, ↓zip_nil1, ↓zip_nil2, ↓f_sorted, ↓e_inn, ↓e_inc, ↓e_l2n, ↓e_l2c, ↓e_lc2, ↓e_rev, ↓e_pop, ↓e_popAt, ↓e_extend, ↓e_lc3, ↓e_gon, ↓e_goc, ↓e_dbMid, ↓e_dbIn, ↓f_neu, ↓e_ifT, ↓e_newD, ↓e_retO, ↓e_fixK, ↓e_putO, ↓e_dkO, ↓e_dkF, ↓e_kdO, ↓e_kdF, ↓e_get2O, ↓e_get2F, ↓e_ListD, ↓e_ListF, ↓od_o, ↓dct_d, ↓key_int, ↓key_str, ↓g_item, ↓g_get, ↓g_in, ↓g_notin, ↓h_list, ↓fz_od, ↓ow_ex, ↓e_tr, ↓e_trO, ↓e_trK, ↓tru_b, ↓tru_n, ↓tru_i, ↓tru_l, ↓tru_t, ↓tru_s, ↓e_i63, ↓n63_d, ↓e_ss, ↓dgTup_tup, ↓dgCons_cons, ↓dgNil_nil, ite_t, ite_f, itK_not, List.cons_append, List.nil_append, List.append_nil, List.replicate, List.flatten_cons, List.flatten_nil, List.append_eq, List.length_cons, List.length_nil, Nat.zero_add, Nat.reduceAdd, true_and, and_true, eqOk_str, eqOk_int, eqOk_bool, str_eqv, int_eqv, tup_nil_eqv, lst_nil_eqv, rep_flat, isK_int, isK_bool, isK_tuple, isK_str, kInt, kBool, kTuple, kStr, GB.isNon, Bool.not_true, Bool.not_false, Bool.or_false, Bool.or_true, Bool.false_or, Bool.true_or, reduceCtorEq, ]
            exact ⟨by decide, line_ge (by omega), line_ge (by omega), line_ge (by omega), hK3 _ ⟨_, _, rfl, one⟩⟩
theorem s_ways {k : S → Prop} {cs : Cs} {rm lk : List PyData} (hs : StOk cs) (hr : RmOk cs.length rm lk) (h : k (.d (dctD (wyK cs rm)))) : F_p_ways [.d (stD cs rm lk)] k := ⟨cs, rm, lk, rfl, hs, hr, h⟩
theorem ma_way_to : ∀ ss R, ss.length = 2 → F_way_to ss R → rd_way_to { nx := fun _ => R (.d .none), rt := R } (ss ++ List.replicate 0 .un) := by
  rintro _ R - ⟨cs, rm, lk, i, rfl, hs, hr, q⟩
  unfold rd_way_to
  simp only [↓at0, ↓set0, ↓at1, ↓set1, ↓at2, ↓set2, ↓at3, ↓set3, ↓at4, ↓set4, ↓at5, ↓set5, ↓at6, ↓set6, ↓at7, ↓set7, ↓at8, ↓set8, ↓at9, ↓set9, ↓at10, ↓set10, ↓at11, ↓set11, ↓at12, ↓set12, ↓at13, ↓set13, ↓at14, ↓set14, ↓at15, ↓set15, ↓fz_d, ↓fz_own, ↓fz_ob, ↓one_d, ↓int_d, ↓bool_d, ↓own_o, ↓ds_nil, ↓ds_cons, ↓seq_l, ↓seq_t, ↓ite_t, ↓ite_f, ↓e_next, ↓e_seq, ↓e_set, ↓e_drop, ↓e_ret, ↓e_ifs, ↓e_brk, ↓e_cnt, ↓e_fixs, ↓e_par, ↓e_par3, ↓e_asg, ↓e_for, ↓e_putAt, ↓e_jput, ↓e_var, ↓e_k, ↓e_fz, ↓e_op, ↓e_opL, ↓e_opR, ↓e_n, ↓e_n1, ↓e_nil, ↓e_cons, ↓e_tup, ↓e_lst, ↓e_b, ↓e_not, ↓e_and, ↓e_or, ↓e_andV, ↓e_orV, ↓e_notV, ↓e_if, ↓e_isi, ↓e_neg, ↓e_chain, ↓e_call, ↓e_callK, ↓e_jint, ↓e_dict0, ↓e_dict1, ↓e_listRng, ↓e_append, ↓e_cut, ↓e_cutO, ↓e_onone, ↓e_osome, ↓e_iseq, ↓e_ienum, ↓e_irng, ↓e_gname, ↓e_lnil, ↓e_lcons, ↓e_lc, ↓e_yes, ↓f_addI, ↓f_addS, ↓f_addT, ↓f_addL, ↓f_i2, ↓f_mulI, ↓f_mulT, ↓f_mulL, ↓f_eq, ↓f_ne, ↓f_is, ↓f_isnot, ↓f_in, ↓f_notin, ↓f_ixL, ↓f_ixT, ↓f_lenL, ↓f_lenT, ↓f_lenS, ↓f_abs, ↓f_intI, ↓f_intB, ↓f_tupL, ↓f_tupT, ↓f_lstL, ↓f_lstT, ↓f_repr, ↓f_cutL, ↓f_cutT, ↓firm_d, ↓firm_ob, ↓zip_l, ↓zip_t, ↓e_izip, ↓zip_cons, ↓zip_nil1, ↓zip_nil2, ↓f_sorted, ↓e_inn, ↓e_inc, ↓e_l2n, ↓e_l2c, ↓e_lc2, ↓e_rev, ↓e_pop, ↓e_popAt, ↓e_extend, ↓e_lc3, ↓e_gon, ↓e_goc, ↓e_dbMid, ↓e_dbIn, ↓f_neu, ↓e_ifT, ↓e_newD, ↓e_retO, ↓e_fixK, ↓e_putO, ↓e_dkO, ↓e_dkF, ↓e_kdO, ↓e_kdF, ↓e_get2O, ↓e_get2F, ↓e_ListD, ↓e_ListF, ↓od_o, ↓dct_d, ↓key_int, ↓key_str, ↓g_item, ↓g_get, ↓g_in, ↓g_notin, ↓h_list, ↓fz_od, ↓ow_ex, ↓e_tr, ↓e_trO, ↓e_trK, ↓tru_b, ↓tru_n, ↓tru_i, ↓tru_l, ↓tru_t, ↓tru_s, ↓e_i63, ↓n63_d, ↓e_ss, ↓dgTup_tup, ↓dgCons_cons, ↓dgNil_nil, ite_t, ite_f, itK_not, List.cons_append, List.nil_append, List.append_nil, List.replicate, List.flatten_cons, List.flatten_nil, List.append_eq, List.length_cons, List.length_nil, Nat.zero_add, Nat.reduceAdd, true_and, and_true, eqOk_str, eqOk_int, eqOk_bool, str_eqv, int_eqv, tup_nil_eqv, lst_nil_eqv, rep_flat, isK_int, isK_bool, isK_tuple, isK_str, kInt, kBool, kTuple, kStr, GB.isNon, Bool.not_true, Bool.not_false, Bool.or_false, Bool.or_true, Bool.false_or, Bool.true_or, reduceCtorEq, ]
  refine s_ways hs hr ?_
  simp only [↓at0, ↓set0, ↓at1, ↓set1, ↓at2, ↓set2, ↓at3, ↓set3, ↓at4, ↓set4, ↓at5, ↓set5, ↓at6, ↓set6, ↓at7, ↓set7, ↓at8, ↓set8, ↓at9, ↓set9, ↓at10, ↓set10, ↓at11, ↓set11, ↓at12, ↓set12, ↓at13, ↓set13, ↓at14, ↓set14, ↓at15, ↓set15, ↓fz_d, ↓fz_own, ↓fz_ob, ↓one_d, ↓int_d, ↓bool_d, ↓own_o, ↓ds_nil, ↓ds_cons, ↓seq_l, ↓seq_t, ↓ite_t, ↓ite_f, ↓e_next, ↓e_seq, ↓e_set, ↓e_drop, ↓e_ret, ↓e_ifs, ↓e_brk, ↓e_cnt, ↓e_fixs, ↓e_par, ↓e_par3, ↓e_asg, ↓e_for, ↓e_putAt, ↓e_jput, ↓e_var, ↓e_k, ↓e_fz, ↓e_op, ↓e_opL, ↓e_opR, ↓e_n, ↓e_n1, ↓e_nil, ↓e_cons, ↓e_tup, ↓e_lst, ↓e_b, ↓e_not, ↓e_and, ↓e_or, ↓e_andV, ↓e_orV, ↓e_notV, ↓e_if, ↓e_isi, ↓e_neg, ↓e_chain, ↓e_call, ↓e_callK, ↓e_jint, ↓e_dict0, ↓e_dict1, ↓e_listRng, ↓e_append, ↓e_cut, ↓e_cutO, ↓e_onone, ↓e_osome, ↓e_iseq, ↓e_ienum, ↓e_irng, ↓e_gname, ↓e_lnil, ↓e_lcons, ↓e_lc, ↓e_yes, ↓f_addI, ↓f_addS, ↓f_addT, ↓f_addL, ↓f_i2, ↓f_mulI, ↓f_mulT, ↓f_mulL, ↓f_eq, ↓f_ne, ↓f_is, ↓f_isnot, ↓f_in, ↓f_notin, ↓f_ixL, ↓f_ixT, ↓f_lenL, ↓f_lenT, ↓f_lenS, ↓f_abs, ↓f_intI, ↓f_intB, ↓f_tupL, ↓f_tupT, ↓f_lstL, ↓f_lstT, ↓f_repr, ↓f_cutL, ↓f_cutT, ↓firm_d, ↓firm_ob, ↓zip_l, ↓zip_t, ↓e_izip, ↓zip_cons, ↓zip_nil1, ↓zip_nil2, ↓f_sorted, ↓e_inn, ↓e_inc, ↓e_l2n, ↓e_l2c, ↓e_lc2, ↓e_rev, ↓e_pop, ↓e_popAt, ↓e_extend, ↓e_lc3, ↓e_gon, ↓e_goc, ↓e_dbMid, ↓e_dbIn, ↓f_neu, ↓e_ifT, ↓e_newD, ↓e_retO, ↓e_fixK, ↓e_putO, ↓e_dkO, ↓e_dkF, ↓e_kdO, ↓e_kdF, ↓e_get2O, ↓e_get2F, ↓e_ListD, ↓e_ListF, ↓od_o, ↓dct_d, ↓key_int, ↓key_str, ↓g_item, ↓g_get, ↓g_in, ↓g_notin, ↓h_list, ↓fz_od, ↓ow_ex, ↓e_tr, ↓e_trO, ↓e_trK, ↓tru_b, ↓tru_n, ↓tru_i, ↓tru_l, ↓tru_t, ↓tru_s, ↓e_i63, ↓n63_d, ↓e_ss, ↓dgTup_tup, ↓dgCons_cons, ↓dgNil_nil, ite_t, ite_f, itK_not, List.cons_append, List.nil_append, List.append_nil, List.replicate, List.flatten_cons, List.flatten_nil, List.append_eq, List.length_cons, List.length_nil, Nat.zero_add, Nat.reduceAdd, true_and, and_true, eqOk_str, eqOk_int, eqOk_bool, str_eqv, int_eqv, tup_nil_eqv, lst_nil_eqv, rep_flat, isK_int, isK_bool, isK_tuple, isK_str, kInt, kBool, kTuple, kStr, GB.isNon, Bool.not_true, Bool.not_false, Bool.or_false, Bool.or_true, Bool.false_or, Bool.true_or, reduceCtorEq, ]
  exact q
end GK

set_option maxRecDepth 100000
namespace GK
open PySem PySem.Spec PyProof.Rows L2 GB
theorem ma_l_is_way : ∀ ss R, ss.length = 3 → F_l_is_way ss R → rd_l_is_way { nx := fun _ => R (.d .none), rt := R } (ss ++ List.replicate 7 .un) := by
  rintro _ R - ⟨cs, rm, lk, ws, i, rfl, hs, hr, ⟨h, r, fs, row, x, rfl, v2, v3, v4⟩, h100, q⟩
  have h60 := hs.1
  have hh : h < rm.length := by
    rcases Nat.lt_or_ge h rm.length with z | z
    · exact z
    · rw [List.getElem?_eq_none z] at v2; cases v2
  have hrr : r < row.length := by
    rcases Nat.lt_or_ge r row.length with z | z
    · exact z
    · rw [List.getElem?_eq_none z] at v3; cases v3
  unfold rd_l_is_way
  simp only [↓at0, ↓set0, ↓at1, ↓set1, ↓at2, ↓set2, ↓at3, ↓set3, ↓at4, ↓set4, ↓at5, ↓set5, ↓at6, ↓set6, ↓at7, ↓set7, ↓at8, ↓set8, ↓at9, ↓set9, ↓at10, ↓set10, ↓at11, ↓set11, ↓at12, ↓set12, ↓at13, ↓set13, ↓at14, ↓set14, ↓at15, ↓set15, ↓fz_d, ↓fz_own, ↓fz_ob, ↓one_d, ↓int_d, ↓bool_d, ↓own_o, ↓ds_nil, ↓ds_cons, ↓seq_l, ↓seq_t, ↓ite_t, ↓ite_f, ↓e_next, ↓e_seq, ↓e_set, ↓e_drop, ↓e_ret, ↓e_ifs, ↓e_brk, ↓e_cnt, ↓e_fixs, ↓e_par, ↓e_par3, ↓e_asg, ↓e_for, ↓e_putAt, ↓e_jput, ↓e_var, ↓e_k, ↓e_fz, ↓e_op, ↓e_opL, ↓e_opR, ↓e_n, ↓e_n1, ↓e_nil, ↓e_cons, ↓e_tup, ↓e_lst, ↓e_b, ↓e_not, ↓e_and, ↓e_or, ↓e_andV, ↓e_orV, ↓e_notV, ↓e_if, ↓e_isi, ↓e_neg, ↓e_chain, ↓e_call, ↓e_callK, ↓e_jint, ↓e_dict0, ↓e_dict1, ↓e_listRng, ↓e_append, ↓e_cut, ↓e_cutO, ↓e_onone, ↓e_osome, ↓e_iseq, ↓e_ienum, ↓e_irng, ↓e_gname, ↓e_lnil, ↓e_lcons, ↓e_lc, ↓e_yes, ↓f_addI, ↓f_addS, ↓f_addT, ↓f_addL, ↓f_i2, ↓f_mulI, ↓f_mulT, ↓f_mulL, ↓f_eq, ↓f_ne, ↓f_is, ↓f_isnot, ↓f_in, ↓f_notin, ↓f_ixL, ↓f_ixT, ↓f_lenL, ↓f_lenT, ↓f_lenS, ↓f_abs, ↓f_intI, ↓f_intB, ↓f_tupL, ↓f_tupT, ↓f_lstL, ↓f_lstT, ↓f_repr, ↓f_cutL, ↓f_cutT, ↓firm_d, ↓firm_ob, ↓zip_l, ↓zip_t, ↓e_izip, ↓zip_cons, ↓zip_nil1, ↓zip_nil2, ↓f_sorted, ↓e_inn, ↓e_inc, ↓e_l2n, ↓e_l2c, ↓e_lc2, ↓e_rev, ↓e_pop, ↓e_popAt, ↓e_extend, ↓e_lc3, ↓e_gon, ↓e_goc, ↓e_dbMid, ↓e_dbIn, ↓f_neu, ↓e_ifT, ↓e_newD, ↓e_retO, ↓e_fixK, ↓e_putO, ↓e_dkO, ↓e_dkF, ↓e_kdO, ↓e_kdF, ↓e_get2O, ↓e_get2F, ↓e_ListD, ↓e_ListF, ↓od_o, ↓dct_d, ↓key_int, ↓key_str, ↓g_item, ↓g_get, ↓g_in, ↓g_notin, ↓h_list, ↓fz_od, ↓ow_ex, ↓e_tr, ↓e_trO, ↓e_trK, ↓tru_b, ↓tru_n, ↓tru_i, ↓tru_l, ↓tru_t, ↓tru_s, ↓e_i63, ↓n63_d, ↓e_ss, ↓dgTup_tup, ↓dgCons_cons, ↓dgNil_nil, ite_t, ite_f, itK_not, List.cons_append, List.nil_append, List.append_nil, List.replicate, List.flatten_cons, List.flatten_nil, List.append_eq, List.length_cons, List.length_nil, Nat.zero_add, Nat.reduceAdd, true_and, and_true, eqOk_str, eqOk_int, eqOk_bool, str_eqv, int_eqv, tup_nil_eqv, lst_nil_eqv, rep_flat, isK_int, isK_bool, isK_tuple, isK_str, kInt, kBool, kTuple, kStr, GB.isNon, Bool.not_true, Bool.not_false, Bool.or_false, Bool.or_true, Bool.false_or, Bool.true_or, reduceCtorEq, ]
  unfold stD natsD
  simp only [↓at0, ↓set0, ↓at1, ↓set1, ↓at2, ↓set2, ↓at3, ↓set3, ↓at4, ↓set4, ↓at5, ↓set5, ↓at6, ↓set6, ↓at7, ↓set7, ↓at8, ↓set8, ↓at9, ↓set9, ↓at10, ↓set10, ↓at11, ↓set11, ↓at12, ↓set12, ↓at13, ↓set13, ↓at14, ↓set14, ↓at15, ↓set15, ↓fz_d, ↓fz_own, ↓fz_ob, ↓one_d, ↓int_d, ↓bool_d, ↓own_o, ↓ds_nil, ↓ds_cons, ↓seq_l, ↓seq_t, ↓ite_t, ↓ite_f, ↓e_next, ↓e_seq, ↓e_set, ↓e_drop, ↓e_ret, ↓e_ifs, ↓e_brk, ↓e_cnt, ↓e_fixs, ↓e_par, ↓e_par3, ↓e_asg, ↓e_for, ↓e_putAt, ↓e_jput, ↓e_var, ↓e_k, ↓e_fz, ↓e_op, ↓e_opL, ↓e_opR, ↓e_n, ↓e_n1, ↓e_nil, ↓e_cons, ↓e_tup, ↓e_lst, ↓e_b, ↓e_not, ↓e_and, ↓e_or, ↓e_andV, ↓e_orV, ↓e_notV, ↓e_if, ↓e_isi, ↓e_neg, ↓e_chain, ↓e_call, ↓e_callK, ↓e_jint, ↓e_dict0, ↓e_dict1, ↓e_listRng, ↓e_append, ↓e_cut, ↓e_cutO, ↓e_onone, ↓e_osome, ↓e_iseq, ↓e_ienum, ↓e_irng, ↓e_gname, ↓e_lnil, ↓e_lcons, ↓e_lc, ↓e_yes, ↓f_addI, ↓f_addS, ↓f_addT, ↓f_addL, ↓f_i2, ↓f_mulI, ↓f_mulT, ↓f_mulL, ↓f_eq, ↓f_ne, ↓f_is, ↓f_isnot, ↓f_in, ↓f_notin, ↓f_ixL, ↓f_ixT, ↓f_lenL, ↓f_lenT, ↓f_lenS, ↓f_abs, ↓f_intI, ↓f_intB, ↓f_tupL, ↓f_tupT, ↓f_lstL, ↓f_lstT, ↓f_repr, ↓f_cutL, ↓f_cutT, ↓firm_d, ↓firm_ob, ↓zip_l, ↓zip_t, ↓e_izip, ↓zip_cons, ↓zip_nil1, ↓zip_nil2, ↓f_sorted, ↓e_inn, ↓e_inc, ↓e_l2n, ↓e_l2c, ↓e_lc2, ↓e_rev, ↓e_pop, ↓e_popAt, ↓e_extend, ↓e_lc3, ↓e_gon, ↓e_goc, ↓e_dbMid, ↓e_dbIn, ↓f_neu, ↓e_ifT, ↓e_newD, ↓e_retO, ↓e_fixK, ↓e_putO, ↓e_dkO, ↓e_dkF, ↓e_kdO, ↓e_kdF, ↓e_get2O, ↓e_get2F, ↓e_ListD, ↓e_ListF, ↓od_o, ↓dct_d, ↓key_int, ↓key_str, ↓g_item, ↓g_get, ↓g_in, ↓g_notin, ↓h_list, ↓fz_od, ↓ow_ex, ↓e_tr, ↓e_trO, ↓e_trK, ↓tru_b, ↓tru_n, ↓tru_i, ↓tru_l, ↓tru_t, ↓tru_s, ↓e_i63, ↓n63_d, ↓e_ss, ↓dgTup_tup, ↓dgCons_cons, ↓dgNil_nil, ite_t, ite_f, itK_not, List.cons_append, List.nil_append, List.append_nil, List.replicate, List.flatten_cons, List.flatten_nil, List.append_eq, List.length_cons, List.length_nil, Nat.zero_add, Nat.reduceAdd, true_and, and_true, eqOk_str, eqOk_int, eqOk_bool, str_eqv, int_eqv, tup_nil_eqv, lst_nil_eqv, rep_flat, isK_int, isK_bool, isK_tuple, isK_str, kInt, kBool, kTuple, kStr, GB.isNon, Bool.not_true, Bool.not_false, Bool.or_false, Bool.or_true, Bool.false_or, Bool.true_or, reduceCtorEq, wipeD, List.set, List.map_cons, List.length_map]
  have a0 : atI rm (h : Int) = some (.tuple row) := at_n v2
  have a1 : atI row (r : Int) = some x := at_n v3
  have lf : (h :: r :: fs).length = fs.length + 1 + 1 := rfl
  refine iteI (fun z => by omega) fun _ => ⟨line_ge (by omega), filt_run (p := fun _ => false) ?_ fun d hd acc K2 y n => ?_⟩
  · have e0 : ∀ ds : List PyData, ds.filter (fun _ => false) = [] := fun ds => by simp
    rw [e0]
    have e2 : GB.cutD (PyData.int h :: PyData.int r :: fs.map fun i : Nat => PyData.int (i : Int)) (some 2) none = fs.map fun i : Nat => PyData.int (i : Int) := cutD_from _ 2
    refine ⟨by decide, by decide, ite_t.mpr ?_⟩
    simp only [↓at0, ↓set0, ↓at1, ↓set1, ↓at2, ↓set2, ↓at3, ↓set3, ↓at4, ↓set4, ↓at5, ↓set5, ↓at6, ↓set6, ↓at7, ↓set7, ↓at8, ↓set8, ↓at9, ↓set9, ↓at10, ↓set10, ↓at11, ↓set11, ↓at12, ↓set12, ↓at13, ↓set13, ↓at14, ↓set14, ↓at15, ↓set15, ↓fz_d, ↓fz_own, ↓fz_ob, ↓one_d, ↓int_d, ↓bool_d, ↓own_o, ↓ds_nil, ↓ds_cons, ↓seq_l, ↓seq_t, ↓ite_t, ↓ite_f, ↓e_next, ↓e_seq, ↓e_set, ↓e_drop, ↓e_ret, ↓e_ifs, ↓e_brk, ↓e_cnt, ↓e_fixs, ↓e_par, ↓e_par3, ↓e_asg, ↓e_for, ↓e_putAt, ↓e_jput, ↓e_var, ↓e_k, ↓e_fz, ↓e_op, ↓e_opL, ↓e_opR, ↓e_n, ↓e_n1, ↓e_nil, ↓e_cons, ↓e_tup, ↓e_lst, ↓e_b, ↓e_not, ↓e_and, ↓e_or, ↓e_andV, ↓e_orV, ↓e_notV, ↓e_if, ↓e_isi, ↓e_neg, ↓e_chain, ↓e_call, ↓e_callK, ↓e_jint, ↓e_dict0, ↓e_dict1, ↓e_listRng, ↓e_append, ↓e_cut, ↓e_cutO, ↓e_onone, ↓e_osome, ↓e_iseq, ↓e_ienum, ↓e_irng, ↓e_gname, ↓e_lnil, ↓e_lcons, ↓e_lc, ↓e_yes, ↓f_addI, ↓f_addS, ↓f_addT, ↓f_addL, ↓f_i2, ↓f_mulI, ↓f_mulT, ↓f_mulL, ↓f_eq, ↓f_ne, ↓f_is, ↓f_isnot, ↓f_in, ↓f_notin, ↓f_ixL, ↓f_ixT, ↓f_lenL, ↓f_lenT, ↓f_lenS, ↓f_abs, ↓f_intI, ↓f_intB, ↓f_tupL, ↓f_tupT, ↓f_lstL, ↓f_lstT, ↓f_repr, ↓f_cutL, ↓f_cutT, ↓firm_d, ↓firm_ob, ↓zip_l, ↓zip_t, ↓e_izip, ↓zip_cons, ↓zip_nil1, ↓zip_nil2, ↓f_sorted, ↓e_inn, ↓e_inc, ↓e_l2n, ↓e_l2c, ↓e_lc2, ↓e_rev, ↓e_pop, ↓e_popAt, ↓e_extend, ↓e_lc3, ↓e_gon, ↓e_goc, ↓e_dbMid, ↓e_dbIn, ↓f_neu, ↓e_ifT, ↓e_newD, ↓e_retO, ↓e_fixK, ↓e_putO, ↓e_dkO, ↓e_dkF, ↓e_kdO, ↓e_kdF, ↓e_get2O, ↓e_get2F, ↓e_ListD, ↓e_ListF, ↓od_o, ↓dct_d, ↓key_int, ↓key_str, ↓g_item, ↓g_get, ↓g_in, ↓g_notin, ↓h_list, ↓fz_od, ↓ow_ex, ↓e_tr, ↓e_trO, ↓e_trK, ↓tru_b, ↓tru_n, ↓tru_i, ↓tru_l, ↓tru_t, ↓tru_s, ↓e_i63, ↓n63_d, ↓e_ss, ↓dgTup_tup, ↓dgCons_cons, ↓dgNil_nil, ite_t, ite_f, itK_not, List.cons_append, List.nil_append, List.append_nil, List.replicate, List.flatten_cons, List.flatten_nil, List.append_eq, List.length_cons, List.length_nil, Nat.zero_add, Nat.reduceAdd, true_and, and_true, eqOk_str, eqOk_int, eqOk_bool, str_eqv, int_eqv, tup_nil_eqv, lst_nil_eqv, rep_flat, isK_int, isK_bool, isK_tuple, isK_str, kInt, kBool, kTuple, kStr, GB.isNon, Bool.not_true, Bool.not_false, Bool.or_false, Bool.or_true, Bool.false_or, Bool.true_or, reduceCtorEq, ↓ix0, ↓ix1, ↓ixn a0, ↓ixn a1, List.length_map]
    refine iteI (fun z => by omega) fun _ => iteI (fun z => by omega) fun _ => ?_
    rw [e2]
    refine loopI (fun ds ρ => ∃ (y : PyData) (gs : List Nat) (s8 : S), ρ = [S.d (stD cs rm lk), S.d (.tuple (PyData.int h :: PyData.int r :: fs.map fun i : Nat => PyData.int (i : Int))), S.d (.int i), S.d (.tuple (cs.map fun c => .tuple c.1)), S.d (.tuple (cs.map fun c => c.2)), S.d (.tuple rm), S.d (.tuple lk), S.d y, s8, .un] ∧ ds = (gs.map fun i : Nat => PyData.int (i : Int)) ∧ Wk cs y gs (.int (i : Int))) ?_ ?_ _ _ ⟨x, fs, _, rfl, rfl, v4⟩
    · rintro _ ⟨y, gs, s8, rfl, hg, hw⟩
      cases gs with
      | cons _ _ => cases hg
      | nil =>
        cases hw
        simp only [↓at0, ↓set0, ↓at1, ↓set1, ↓at2, ↓set2, ↓at3, ↓set3, ↓at4, ↓set4, ↓at5, ↓set5, ↓at6, ↓set6, ↓at7, ↓set7, ↓at8, ↓set8, ↓at9, ↓set9, ↓at10, ↓set10, ↓at11, ↓set11, ↓at12, ↓set12, ↓at13, ↓set13, ↓at14, ↓set14, ↓at15, ↓set15, ↓fz_d, ↓fz_own, ↓fz_ob, ↓one_d, ↓int_d, ↓bool_d, ↓own_o, ↓ds_nil, ↓ds_cons, ↓seq_l, ↓seq_t, ↓ite_t, ↓ite_f, ↓e_next, ↓e_seq, ↓e_set, ↓e_drop, ↓e_ret, ↓e_ifs, ↓e_brk, ↓e_cnt, ↓e_fixs, ↓e_par, ↓e_par3, ↓e_asg, ↓e_for, ↓e_putAt, ↓e_jput, ↓e_var, ↓e_k, ↓e_fz, ↓e_op, ↓e_opL, ↓e_opR, ↓e_n, ↓e_n1, ↓e_nil, ↓e_cons, ↓e_tup, ↓e_lst, ↓e_b, ↓e_not, ↓e_and, ↓e_or, ↓e_andV, ↓e_orV, ↓e_notV, ↓e_if, ↓e_isi, ↓e_neg, ↓e_chain, ↓e_call, ↓e_callK, ↓e_jint, ↓e_dict0, ↓e_dict1, ↓e_listRng, ↓e_append, ↓e_cut, ↓e_cutO, ↓e_onone, ↓e_osome, ↓e_iseq, ↓e_ienum, ↓e_irng, ↓e_gname, ↓e_lnil, ↓e_lcons, ↓e_lc, ↓e_yes, ↓f_addI, ↓f_addS, ↓f_addT, ↓f_addL, ↓f_i2, ↓f_mulI, ↓f_mulT, ↓f_mulL, ↓f_eq, ↓f_ne, ↓f_is, ↓f_isnot, ↓f_in, ↓f_notin, ↓f_ixL, ↓f_ixT, ↓f_lenL, ↓f_lenT, ↓f_lenS, ↓f_abs, ↓f_intI, ↓f_intB, ↓f_tupL, ↓f_tupT, ↓f_lstL, ↓f_lstT, ↓f_repr, ↓f_cutL, ↓f_cutT, ↓firm_d, ↓firm_ob, ↓zip_l, ↓zip_t, ↓e_izip, ↓zip_cons, ↓zip_nil1, ↓zip_nil2, ↓f_sorted, ↓e_inn, ↓e_inc, ↓e_l2n, ↓e_l2c, ↓e_lc2, ↓e_rev, ↓e_pop, ↓e_popAt, ↓e_extend, ↓e_lc3, ↓e_gon, ↓e_goc, ↓e_dbMid, ↓e_dbIn, ↓f_neu, ↓e_ifT, ↓e_newD, ↓e_retO, ↓e_fixK, ↓e_putO, ↓e_dkO, ↓e_dkF, ↓e_kdO, ↓e_kdF, ↓e_get2O, ↓e_get2F, ↓e_ListD, ↓e_ListF, ↓od_o, ↓dct_d, ↓key_int, ↓key_str, ↓g_item, ↓g_get, ↓g_in, ↓g_notin, ↓h_list, ↓fz_od, ↓ow_ex, ↓e_tr, ↓e_trO, ↓e_trK, ↓tru_b, ↓tru_n, ↓tru_i, ↓tru_l, ↓tru_t, ↓tru_s, ↓e_i63, ↓n63_d, ↓e_ss, ↓dgTup_tup, ↓dgCons_cons, ↓dgNil_nil, ite_t, ite_f, itK_not, List.cons_append, List.nil_append, List.append_nil, List.replicate, List.flatten_cons, List.flatten_nil, List.append_eq, List.length_cons, List.length_nil, Nat.zero_add, Nat.reduceAdd, true_and, and_true, eqOk_str, eqOk_int, eqOk_bool, str_eqv, int_eqv, tup_nil_eqv, lst_nil_eqv, rep_flat, isK_int, isK_bool, isK_tuple, isK_str, kInt, kBool, kTuple, kStr, GB.isNon, Bool.not_true, Bool.not_false, Bool.or_false, Bool.or_true, Bool.false_or, Bool.true_or, reduceCtorEq, int_eqv]
        first | exact q | (simp only [decide_true]; exact q) | (refine ⟨rfl, ?_⟩; simpa using q)
    · rintro d ds _ K hK ⟨y, gs, s8, rfl, hg, hw⟩
      cases gs with
      | nil => cases hg
      | cons f gs =>
        obtain ⟨rfl, rfl⟩ := List.cons.inj hg
        cases hw with
        | cons h1 h2 h3 =>
          rename_i j y'
          have hf : f < (fsAt cs j).length := by
            rcases Nat.lt_or_ge f (fsAt cs j).length with z | z
            · exact z
            · rw [List.getElem?_eq_none z] at h2; cases h2
          have a2 : atI (fsAt cs j) (f : Int) = some y' := at_n h2
          simp only [↓at0, ↓set0, ↓at1, ↓set1, ↓at2, ↓set2, ↓at3, ↓set3, ↓at4, ↓set4, ↓at5, ↓set5, ↓at6, ↓set6, ↓at7, ↓set7, ↓at8, ↓set8, ↓at9, ↓set9, ↓at10, ↓set10, ↓at11, ↓set11, ↓at12, ↓set12, ↓at13, ↓set13, ↓at14, ↓set14, ↓at15, ↓set15, ↓fz_d, ↓fz_own, ↓fz_ob, ↓one_d, ↓int_d, ↓bool_d, ↓own_o, ↓ds_nil, ↓ds_cons, ↓seq_l, ↓seq_t, ↓ite_t, ↓ite_f, ↓e_next, ↓e_seq, ↓e_set, ↓e_drop, ↓e_ret, ↓e_ifs, ↓e_brk, ↓e_cnt, ↓e_fixs, ↓e_par, ↓e_par3, ↓e_asg, ↓e_for, ↓e_putAt, ↓e_jput, ↓e_var, ↓e_k, ↓e_fz, ↓e_op, ↓e_opL, ↓e_opR, ↓e_n, ↓e_n1, ↓e_nil, ↓e_cons, ↓e_tup, ↓e_lst, ↓e_b, ↓e_not, ↓e_and, ↓e_or, ↓e_andV, ↓e_orV, ↓e_notV, ↓e_if, ↓e_isi, ↓e_neg, ↓e_chain, ↓e_call, ↓e_callK, ↓e_jint, ↓e_dict0, ↓e_dict1, ↓e_listRng, ↓e_append, ↓e_cut, ↓e_cutO, ↓e_onone, ↓e_osome, ↓e_iseq, ↓e_ienum, ↓e_irng, ↓e_gname, ↓e_lnil, ↓e_lcons, ↓e_lc, ↓e_yes, ↓f_addI, ↓f_addS, ↓f_addT, ↓f_addL, ↓f_i2, ↓f_mulI, ↓f_mulT, ↓f_mulL, ↓f_eq, ↓f_ne, ↓f_is, ↓f_isnot, ↓f_in, ↓f_notin, ↓f_ixL, ↓f_ixT, ↓f_lenL, ↓f_lenT, ↓f_lenS, ↓f_abs, ↓f_intI, ↓f_intB, ↓f_tupL, ↓f_tupT, ↓f_lstL, ↓f_lstT, ↓f_repr, ↓f_cutL, ↓f_cutT, ↓firm_d, ↓firm_ob, ↓zip_l, ↓zip_t, ↓e_izip, ↓zip_cons, ↓zip_nil1, ↓zip_nil2, ↓f_sorted, ↓e_inn, ↓e_inc, ↓e_l2n, ↓e_l2c, ↓e_lc2, ↓e_rev, ↓e_pop, ↓e_popAt, ↓e_extend, ↓e_lc3, ↓e_gon, ↓e_goc, ↓e_dbMid, ↓e_dbIn, ↓f_neu, ↓e_ifT, ↓e_newD, ↓e_retO, ↓e_fixK, ↓e_putO, ↓e_dkO, ↓e_dkF, ↓e_kdO, ↓e_kdF, ↓e_get2O, ↓e_get2F, ↓e_ListD, ↓e_ListF, ↓od_o, ↓dct_d, ↓key_int, ↓key_str, ↓g_item, ↓g_get, ↓g_in, ↓g_notin, ↓h_list, ↓fz_od, ↓ow_ex, ↓e_tr, ↓e_trO, ↓e_trK, ↓tru_b, ↓tru_n, ↓tru_i, ↓tru_l, ↓tru_t, ↓tru_s, ↓e_i63, ↓n63_d, ↓e_ss, ↓dgTup_tup, ↓dgCons_cons, ↓dgNil_nil, ite_t, ite_f, itK_not, List.cons_append, List.nil_append, List.append_nil, List.replicate, List.flatten_cons, List.flatten_nil, List.append_eq, List.length_cons, List.length_nil, Nat.zero_add, Nat.reduceAdd, true_and, and_true, eqOk_str, eqOk_int, eqOk_bool, str_eqv, int_eqv, tup_nil_eqv, lst_nil_eqv, rep_flat, isK_int, isK_bool, isK_tuple, isK_str, kInt, kBool, kTuple, kStr, GB.isNon, Bool.not_true, Bool.not_false, Bool.or_false, Bool.or_true, Bool.false_or, Bool.true_or, reduceCtorEq, ↓fs_ix h1, ↓ixn a2]
          refine iteI (fun z => by omega) fun _ => ?_
          exact hK _ ⟨_, gs, _, rfl, rfl, h3⟩
  · obtain ⟨m, rfl⟩ : ∃ m : Nat, d = .int (m : Int) := by
      rcases List.mem_cons.mp hd with rfl | hd
      · exact ⟨_, rfl⟩
      rcases List.mem_cons.mp hd with rfl | hd
      · exact ⟨_, rfl⟩
      obtain ⟨m, _, rfl⟩ := List.mem_map.mp hd
      exact ⟨m, rfl⟩
    simp only [↓at0, ↓set0, ↓at1, ↓set1, ↓at2, ↓set2, ↓at3, ↓set3, ↓at4, ↓set4, ↓at5, ↓set5, ↓at6, ↓set6, ↓at7, ↓set7, ↓at8, ↓set8, ↓at9, ↓set9, ↓at10, ↓set10, ↓at11, ↓set11, ↓at12, ↓set12, ↓at13, ↓set13, ↓at14, ↓set14, ↓at15, ↓set15, ↓fz_d, ↓fz_own, ↓fz_ob, ↓one_d, ↓int_d, ↓bool_d, ↓own_o, ↓ds_nil, ↓ds_cons, ↓seq_l, ↓seq_t, ↓ite_t, ↓ite_f, ↓e_next, ↓e_seq, ↓e_set, ↓e_drop, ↓e_ret, ↓e_ifs, ↓e_brk, ↓e_cnt, ↓e_fixs, ↓e_par, ↓e_par3, ↓e_asg, ↓e_for, ↓e_putAt, ↓e_jput, ↓e_var, ↓e_k, ↓e_fz, ↓e_op, ↓e_opL, ↓e_opR, ↓e_n, ↓e_n1, ↓e_nil, ↓e_cons, ↓e_tup, ↓e_lst, ↓e_b, ↓e_not, ↓e_and, ↓e_or, ↓e_andV, ↓e_orV, ↓e_notV, ↓e_if, ↓e_isi, ↓e_neg, ↓e_chain, ↓e_call, ↓e_callK, ↓e_jint, ↓e_dict0, ↓e_dict1, ↓e_listRng, ↓e_append, ↓e_cut, ↓e_cutO, ↓e_onone, ↓e_osome, ↓e_iseq, ↓e_ienum, ↓e_irng, ↓e_gname, ↓e_lnil, ↓e_lcons, ↓e_lc, ↓e_yes, ↓f_addI, ↓f_addS, ↓f_addT, ↓f_addL, ↓f_i2, ↓f_mulI, ↓f_mulT, ↓f_mulL, ↓f_eq, ↓f_ne, ↓f_is, ↓f_isnot, ↓f_in, ↓f_notin, ↓f_ixL, ↓f_ixT, ↓f_lenL, ↓f_lenT, ↓f_lenS, ↓f_abs, ↓f_intI, ↓f_intB, ↓f_tupL, ↓f_tupT, ↓f_lstL, ↓f_lstT, ↓f_repr, ↓f_cutL, ↓f_cutT, ↓firm_d, ↓firm_ob, ↓zip_l, ↓zip_t, ↓e_izip, ↓zip_cons, ↓zip_nil1, ↓zip_nil2, ↓f_sorted, ↓e_inn, ↓e_inc, ↓e_l2n, ↓e_l2c, ↓e_lc2, ↓e_rev, ↓e_pop, ↓e_popAt, ↓e_extend, ↓e_lc3, ↓e_gon, ↓e_goc, ↓e_dbMid, ↓e_dbIn, ↓f_neu, ↓e_ifT, ↓e_newD, ↓e_retO, ↓e_fixK, ↓e_putO, ↓e_dkO, ↓e_dkF, ↓e_kdO, ↓e_kdF, ↓e_get2O, ↓e_get2F, ↓e_ListD, ↓e_ListF, ↓od_o, ↓dct_d, ↓key_int, ↓key_str, ↓g_item, ↓g_get, ↓g_in, ↓g_notin, ↓h_list, ↓fz_od, ↓ow_ex, ↓e_tr, ↓e_trO, ↓e_trK, ↓tru_b, ↓tru_n, ↓tru_i, ↓tru_l, ↓tru_t, ↓tru_s, ↓e_i63, ↓n63_d, ↓e_ss, ↓dgTup_tup, ↓dgCons_cons, ↓dgNil_nil, ite_t, ite_f, itK_not, List.cons_append, List.nil_append, List.append_nil, List.replicate, List.flatten_cons, List.flatten_nil, List.append_eq, List.length_cons, List.length_nil, Nat.zero_add, Nat.reduceAdd, true_and, and_true, eqOk_str, eqOk_int, eqOk_bool, str_eqv, int_eqv, tup_nil_eqv, lst_nil_eqv, rep_flat, isK_int, isK_bool, isK_tuple, isK_str, kInt, kBool, kTuple, kStr, GB.isNon, Bool.not_true, Bool.not_false, Bool.or_false, Bool.or_true, Bool.false_or, Bool.true_or, reduceCtorEq, wipeD, List.set]
    exact iteI (fun z => by omega) fun _ => n rfl
theorem s_isway {k : S → Prop} {cs : Cs} {rm lk : List PyData} {i : Nat} {ws : List Nat} (hs : StOk cs) (hr : RmOk cs.length rm lk) (hw : WV cs rm ws i) (h1 : ws.length ≤ 100) (h : k (.d (.bool true))) : F_l_is_way [.d (stD cs rm lk), .d (natsD ws), .d (.int i)] k := ⟨cs, rm, lk, ws, i, rfl, hs, hr, hw, h1, h⟩
theorem s_wayto {k : S → Prop} {cs : Cs} {rm lk : List PyData} {i : Nat} (hs : StOk cs) (hr : RmOk cs.length rm lk) (h : k (.d ((lookD (wyK cs rm) (.inl (i : Int))).getD .none))) : F_way_to [.d (stD cs rm lk), .d (.int i)] k := ⟨cs, rm, lk, i, rfl, hs, hr, h⟩
theorem wk_le {cs : Cs} (hs : StOk cs) {x z : PyData} {fs : List Nat} (h : Wk cs x fs z) : ∀ f ∈ fs, f ≤ 3 := by
  induction h with
  | nil x => intro f hf; cases hf
  | cons h1 h2 _ ih =>
    intro f hf
    rcases List.mem_cons.mp hf with rfl | hf
    · have := (cel_at hs h1).1
      have z := (List.getElem?_eq_some_iff.mp h2).1
      omega
    · exact ih f hf
theorem nats_vy {vs : List Nat} (h : ∀ v ∈ vs, v ≤ 60) (hl : vs.length ≤ 70) : Vy 2 7500 (natsD vs) := by
  refine (vy_tup (D := 1) (W := 100) (n := 70) (fun x hx => ?_) (by rw [List.length_map]; exact hl)).mono (by decide) (by decide)
  obtain ⟨i, hi, rfl⟩ := List.mem_map.mp hx
  have := h i hi
  exact vy_small (by omega)
theorem way_vy {cs : Cs} {rm lk : List PyData} (hs : StOk cs) (hr : RmOk cs.length rm lk) (i : Nat) : Vy 2 7500 ((lookD (wyK cs rm) (.inl (i : Int))).getD .none) := by
  cases hl : lookD (wyK cs rm) (.inl (i : Int)) with
  | none => exact vy_of (by decide +kernel)
  | some x =>
    obtain ⟨d, vs, rfl, ⟨h, r, fs, row, x, rfl, v2, v3, v4⟩, _, h5, h6⟩ := wyK_some hs hr hl
    have h60 := hs.1
    have h2 := hr.1
    obtain ⟨row', e, r4, _⟩ := rm_row hr v2
    cases e
    refine nats_vy (fun v hv => ?_) (by omega)
    rcases List.mem_cons.mp hv with rfl | hv
    · rcases Nat.lt_or_ge v rm.length with z | z
      · omega
      · rw [List.getElem?_eq_none z] at v2; cases v2
    rcases List.mem_cons.mp hv with rfl | hv
    · rcases Nat.lt_or_ge v row.length with z | z
      · omega
      · rw [List.getElem?_eq_none z] at v3; cases v3
    · have := wk_le hs v4 v hv; omega
theorem st_ix0 {k : S → Prop} {cs : Cs} {rm lk : List PyData} : fIx (stD cs rm lk) (.int 0) k ↔ k (.d (.tuple (cs.map fun c => .tuple c.1))) := f_ixT.trans ix0
theorem ma_l_is_told : ∀ ss R, ss.length = 4 → F_l_is_told ss R → rd_l_is_told { nx := fun _ => R (.d .none), rt := R } (ss ++ List.replicate 2 .un) := by
  rintro _ R - ⟨cs, rm, lk, due, b, i, rfl, hs, hr, d1, d2, q⟩
  have h60 := hs.1
  have a := st_vy' hs hr
  have a1 := a.sh
  have a2 := a.fits (by decide)
  have a3 : (stD cs rm lk).depth ≤ 60 := Nat.le_trans a.dp (by decide)
  have t := way_vy hs hr i
  have t1 := t.sh
  have t2 := t.fits (by decide)
  have t3 : ((lookD (wyK cs rm) (.inl (i : Int))).getD .none).depth ≤ 60 := Nat.le_trans t.dp (by decide)
  have far' : (lookD (wyK cs rm) (.inl (i : Int)) = none ∧ due = .none) ∨ ∃ (d : Nat) (vs : List Nat), lookD (wyK cs rm) (.inl (i : Int)) = some (natsD vs) ∧ due = .int ((d : Int) + 2) ∧ WV cs rm vs i ∧ vs.length = d + 2 ∧ d < cs.length := by
    cases hl : lookD (wyK cs rm) (.inl (i : Int)) with
    | none => exact .inl ⟨rfl, d2 (wyK_none hs hr hl)⟩
    | some x =>
      obtain ⟨d, vs, rfl, cv, h4, h5, h6⟩ := wyK_some hs hr hl
      exact .inr ⟨d, vs, rfl, d1 d h4, cv, h5, h6⟩
  unfold rd_l_is_told
  simp only [↓at0, ↓set0, ↓at1, ↓set1, ↓at2, ↓set2, ↓at3, ↓set3, ↓at4, ↓set4, ↓at5, ↓set5, ↓at6, ↓set6, ↓at7, ↓set7, ↓at8, ↓set8, ↓at9, ↓set9, ↓at10, ↓set10, ↓at11, ↓set11, ↓at12, ↓set12, ↓at13, ↓set13, ↓at14, ↓set14, ↓at15, ↓set15, ↓fz_d, ↓fz_own, ↓fz_ob, ↓one_d, ↓int_d, ↓bool_d, ↓own_o, ↓ds_nil, ↓ds_cons, ↓seq_l, ↓seq_t, ↓ite_t, ↓ite_f, ↓e_next, ↓e_seq, ↓e_set, ↓e_drop, ↓e_ret, ↓e_ifs, ↓e_brk, ↓e_cnt, ↓e_fixs, ↓e_par, ↓e_par3, ↓e_asg, ↓e_for, ↓e_putAt, ↓e_jput, ↓e_var, ↓e_k, ↓e_fz, ↓e_op, ↓e_opL, ↓e_opR, ↓e_n, ↓e_n1, ↓e_nil, ↓e_cons, ↓e_tup, ↓e_lst, ↓e_b, ↓e_not, ↓e_and, ↓e_or, ↓e_andV, ↓e_orV, ↓e_notV, ↓e_if, ↓e_isi, ↓e_neg, ↓e_chain, ↓e_call, ↓e_callK, ↓e_jint, ↓e_dict0, ↓e_dict1, ↓e_listRng, ↓e_append, ↓e_cut, ↓e_cutO, ↓e_onone, ↓e_osome, ↓e_iseq, ↓e_ienum, ↓e_irng, ↓e_gname, ↓e_lnil, ↓e_lcons, ↓e_lc, ↓e_yes, ↓f_addI, ↓f_addS, ↓f_addT, ↓f_addL, ↓f_i2, ↓f_mulI, ↓f_mulT, ↓f_mulL, ↓f_eq, ↓f_ne, ↓f_is, ↓f_isnot, ↓f_in, ↓f_notin, ↓f_ixL, ↓f_ixT, ↓f_lenL, ↓f_lenT, ↓f_lenS, ↓f_abs, ↓f_intI, ↓f_intB, ↓f_tupL, ↓f_tupT, ↓f_lstL, ↓f_lstT, ↓f_repr, ↓f_cutL, ↓f_cutT, ↓firm_d, ↓firm_ob, ↓zip_l, ↓zip_t, ↓e_izip, ↓zip_cons, ↓zip_nil1, ↓zip_nil2, ↓f_sorted, ↓e_inn, ↓e_inc, ↓e_l2n, ↓e_l2c, ↓e_lc2, ↓e_rev, ↓e_pop, ↓e_popAt, ↓e_extend, ↓e_lc3, ↓e_gon, ↓e_goc, ↓e_dbMid, ↓e_dbIn, ↓f_neu, ↓e_ifT, ↓e_newD, ↓e_retO, ↓e_fixK, ↓e_putO, ↓e_dkO, ↓e_dkF, ↓e_kdO, ↓e_kdF, ↓e_get2O, ↓e_get2F, ↓e_ListD, ↓e_ListF, ↓od_o, ↓dct_d, ↓key_int, ↓key_str, ↓g_item, ↓g_get, ↓g_in, ↓g_notin, ↓h_list, ↓fz_od, ↓ow_ex, ↓e_tr, ↓e_trO, ↓e_trK, ↓tru_b, ↓tru_n, ↓tru_i, ↓tru_l, ↓tru_t, ↓tru_s, ↓e_i63, ↓n63_d, ↓e_ss, ↓dgTup_tup, ↓dgCons_cons, ↓dgNil_nil, ite_t, ite_f, itK_not, List.cons_append, List.nil_append, List.append_nil, List.replicate, List.flatten_cons, List.flatten_nil, List.append_eq, List.length_cons, List.length_nil, Nat.zero_add, Nat.reduceAdd, true_and, and_true, eqOk_str, eqOk_int, eqOk_bool, str_eqv, int_eqv, tup_nil_eqv, lst_nil_eqv, rep_flat, isK_int, isK_bool, isK_tuple, isK_str, kInt, kBool, kTuple, kStr, GB.isNon, Bool.not_true, Bool.not_false, Bool.or_false, Bool.or_true, Bool.false_or, Bool.true_or, reduceCtorEq, a1, a2, a3]
  cases b
  · refine ite_f.mpr (s_wayto hs hr ?_)
    simp only [↓at0, ↓set0, ↓at1, ↓set1, ↓at2, ↓set2, ↓at3, ↓set3, ↓at4, ↓set4, ↓at5, ↓set5, ↓at6, ↓set6, ↓at7, ↓set7, ↓at8, ↓set8, ↓at9, ↓set9, ↓at10, ↓set10, ↓at11, ↓set11, ↓at12, ↓set12, ↓at13, ↓set13, ↓at14, ↓set14, ↓at15, ↓set15, ↓fz_d, ↓fz_own, ↓fz_ob, ↓one_d, ↓int_d, ↓bool_d, ↓own_o, ↓ds_nil, ↓ds_cons, ↓seq_l, ↓seq_t, ↓ite_t, ↓ite_f, ↓e_next, ↓e_seq, ↓e_set, ↓e_drop, ↓e_ret, ↓e_ifs, ↓e_brk, ↓e_cnt, ↓e_fixs, ↓e_par, ↓e_par3, ↓e_asg, ↓e_for, ↓e_putAt, ↓e_jput, ↓e_var, ↓e_k, ↓e_fz, ↓e_op, ↓e_opL, ↓e_opR, ↓e_n, ↓e_n1, ↓e_nil, ↓e_cons, ↓e_tup, ↓e_lst, ↓e_b, ↓e_not, ↓e_and, ↓e_or, ↓e_andV, ↓e_orV, ↓e_notV, ↓e_if, ↓e_isi, ↓e_neg, ↓e_chain, ↓e_call, ↓e_callK, ↓e_jint, ↓e_dict0, ↓e_dict1, ↓e_listRng, ↓e_append, ↓e_cut, ↓e_cutO, ↓e_onone, ↓e_osome, ↓e_iseq, ↓e_ienum, ↓e_irng, ↓e_gname, ↓e_lnil, ↓e_lcons, ↓e_lc, ↓e_yes, ↓f_addI, ↓f_addS, ↓f_addT, ↓f_addL, ↓f_i2, ↓f_mulI, ↓f_mulT, ↓f_mulL, ↓f_eq, ↓f_ne, ↓f_is, ↓f_isnot, ↓f_in, ↓f_notin, ↓f_ixL, ↓f_ixT, ↓f_lenL, ↓f_lenT, ↓f_lenS, ↓f_abs, ↓f_intI, ↓f_intB, ↓f_tupL, ↓f_tupT, ↓f_lstL, ↓f_lstT, ↓f_repr, ↓f_cutL, ↓f_cutT, ↓firm_d, ↓firm_ob, ↓zip_l, ↓zip_t, ↓e_izip, ↓zip_cons, ↓zip_nil1, ↓zip_nil2, ↓f_sorted, ↓e_inn, ↓e_inc, ↓e_l2n, ↓e_l2c, ↓e_lc2, ↓e_rev, ↓e_pop, ↓e_popAt, ↓e_extend, ↓e_lc3, ↓e_gon, ↓e_goc, ↓e_dbMid, ↓e_dbIn, ↓f_neu, ↓e_ifT, ↓e_newD, ↓e_retO, ↓e_fixK, ↓e_putO, ↓e_dkO, ↓e_dkF, ↓e_kdO, ↓e_kdF, ↓e_get2O, ↓e_get2F, ↓e_ListD, ↓e_ListF, ↓od_o, ↓dct_d, ↓key_int, ↓key_str, ↓g_item, ↓g_get, ↓g_in, ↓g_notin, ↓h_list, ↓fz_od, ↓ow_ex, ↓e_tr, ↓e_trO, ↓e_trK, ↓tru_b, ↓tru_n, ↓tru_i, ↓tru_l, ↓tru_t, ↓tru_s, ↓e_i63, ↓n63_d, ↓e_ss, ↓dgTup_tup, ↓dgCons_cons, ↓dgNil_nil, ite_t, ite_f, itK_not, List.cons_append, List.nil_append, List.append_nil, List.replicate, List.flatten_cons, List.flatten_nil, List.append_eq, List.length_cons, List.length_nil, Nat.zero_add, Nat.reduceAdd, true_and, and_true, eqOk_str, eqOk_int, eqOk_bool, str_eqv, int_eqv, tup_nil_eqv, lst_nil_eqv, rep_flat, isK_int, isK_bool, isK_tuple, isK_str, kInt, kBool, kTuple, kStr, GB.isNon, Bool.not_true, Bool.not_false, Bool.or_false, Bool.or_true, Bool.false_or, Bool.true_or, reduceCtorEq, ]
    refine s_wayto hs hr ?_
    simp only [↓at0, ↓set0, ↓at1, ↓set1, ↓at2, ↓set2, ↓at3, ↓set3, ↓at4, ↓set4, ↓at5, ↓set5, ↓at6, ↓set6, ↓at7, ↓set7, ↓at8, ↓set8, ↓at9, ↓set9, ↓at10, ↓set10, ↓at11, ↓set11, ↓at12, ↓set12, ↓at13, ↓set13, ↓at14, ↓set14, ↓at15, ↓set15, ↓fz_d, ↓fz_own, ↓fz_ob, ↓one_d, ↓int_d, ↓bool_d, ↓own_o, ↓ds_nil, ↓ds_cons, ↓seq_l, ↓seq_t, ↓ite_t, ↓ite_f, ↓e_next, ↓e_seq, ↓e_set, ↓e_drop, ↓e_ret, ↓e_ifs, ↓e_brk, ↓e_cnt, ↓e_fixs, ↓e_par, ↓e_par3, ↓e_asg, ↓e_for, ↓e_putAt, ↓e_jput, ↓e_var, ↓e_k, ↓e_fz, ↓e_op, ↓e_opL, ↓e_opR, ↓e_n, ↓e_n1, ↓e_nil, ↓e_cons, ↓e_tup, ↓e_lst, ↓e_b, ↓e_not, ↓e_and, ↓e_or, ↓e_andV, ↓e_orV, ↓e_notV, ↓e_if, ↓e_isi, ↓e_neg, ↓e_chain, ↓e_call, ↓e_callK, ↓e_jint, ↓e_dict0, ↓e_dict1, ↓e_listRng, ↓e_append, ↓e_cut, ↓e_cutO, ↓e_onone, ↓e_osome, ↓e_iseq, ↓e_ienum, ↓e_irng, ↓e_gname, ↓e_lnil, ↓e_lcons, ↓e_lc, ↓e_yes, ↓f_addI, ↓f_addS, ↓f_addT, ↓f_addL, ↓f_i2, ↓f_mulI, ↓f_mulT, ↓f_mulL, ↓f_eq, ↓f_ne, ↓f_is, ↓f_isnot, ↓f_in, ↓f_notin, ↓f_ixL, ↓f_ixT, ↓f_lenL, ↓f_lenT, ↓f_lenS, ↓f_abs, ↓f_intI, ↓f_intB, ↓f_tupL, ↓f_tupT, ↓f_lstL, ↓f_lstT, ↓f_repr, ↓f_cutL, ↓f_cutT, ↓firm_d, ↓firm_ob, ↓zip_l, ↓zip_t, ↓e_izip, ↓zip_cons, ↓zip_nil1, ↓zip_nil2, ↓f_sorted, ↓e_inn, ↓e_inc, ↓e_l2n, ↓e_l2c, ↓e_lc2, ↓e_rev, ↓e_pop, ↓e_popAt, ↓e_extend, ↓e_lc3, ↓e_gon, ↓e_goc, ↓e_dbMid, ↓e_dbIn, ↓f_neu, ↓e_ifT, ↓e_newD, ↓e_retO, ↓e_fixK, ↓e_putO, ↓e_dkO, ↓e_dkF, ↓e_kdO, ↓e_kdF, ↓e_get2O, ↓e_get2F, ↓e_ListD, ↓e_ListF, ↓od_o, ↓dct_d, ↓key_int, ↓key_str, ↓g_item, ↓g_get, ↓g_in, ↓g_notin, ↓h_list, ↓fz_od, ↓ow_ex, ↓e_tr, ↓e_trO, ↓e_trK, ↓tru_b, ↓tru_n, ↓tru_i, ↓tru_l, ↓tru_t, ↓tru_s, ↓e_i63, ↓n63_d, ↓e_ss, ↓dgTup_tup, ↓dgCons_cons, ↓dgNil_nil, ite_t, ite_f, itK_not, List.cons_append, List.nil_append, List.append_nil, List.replicate, List.flatten_cons, List.flatten_nil, List.append_eq, List.length_cons, List.length_nil, Nat.zero_add, Nat.reduceAdd, true_and, and_true, eqOk_str, eqOk_int, eqOk_bool, str_eqv, int_eqv, tup_nil_eqv, lst_nil_eqv, rep_flat, isK_int, isK_bool, isK_tuple, isK_str, kInt, kBool, kTuple, kStr, GB.isNon, Bool.not_true, Bool.not_false, Bool.or_false, Bool.or_true, Bool.false_or, Bool.true_or, reduceCtorEq, a1, a2, a3, t1, t2, t3, eqv_self]
    rcases far' with ⟨g1, rfl⟩ | ⟨d, vs, g1, rfl, cv, g4, g5⟩
    · rw [g1]
      exact ite_t.mpr (ite_t.mpr q)
    · rw [g1]
      refine ite_f.mpr (ite_f.mpr (s_isway hs hr cv (by omega) ?_))
      unfold natsD
      simp only [↓at0, ↓set0, ↓at1, ↓set1, ↓at2, ↓set2, ↓at3, ↓set3, ↓at4, ↓set4, ↓at5, ↓set5, ↓at6, ↓set6, ↓at7, ↓set7, ↓at8, ↓set8, ↓at9, ↓set9, ↓at10, ↓set10, ↓at11, ↓set11, ↓at12, ↓set12, ↓at13, ↓set13, ↓at14, ↓set14, ↓at15, ↓set15, ↓fz_d, ↓fz_own, ↓fz_ob, ↓one_d, ↓int_d, ↓bool_d, ↓own_o, ↓ds_nil, ↓ds_cons, ↓seq_l, ↓seq_t, ↓ite_t, ↓ite_f, ↓e_next, ↓e_seq, ↓e_set, ↓e_drop, ↓e_ret, ↓e_ifs, ↓e_brk, ↓e_cnt, ↓e_fixs, ↓e_par, ↓e_par3, ↓e_asg, ↓e_for, ↓e_putAt, ↓e_jput, ↓e_var, ↓e_k, ↓e_fz, ↓e_op, ↓e_opL, ↓e_opR, ↓e_n, ↓e_n1, ↓e_nil, ↓e_cons, ↓e_tup, ↓e_lst, ↓e_b, ↓e_not, ↓e_and, ↓e_or, ↓e_andV, ↓e_orV, ↓e_notV, ↓e_if, ↓e_isi, ↓e_neg, ↓e_chain, ↓e_call, ↓e_callK, ↓e_jint, ↓e_dict0, ↓e_dict1, ↓e_listRng, ↓e_append, ↓e_cut, ↓e_cutO, ↓e_onone, ↓e_osome, ↓e_iseq, ↓e_ienum, ↓e_irng, ↓e_gname, ↓e_lnil, ↓e_lcons, ↓e_lc, ↓e_yes, ↓f_addI, ↓f_addS, ↓f_addT, ↓f_addL, ↓f_i2, ↓f_mulI, ↓f_mulT, ↓f_mulL, ↓f_eq, ↓f_ne, ↓f_is, ↓f_isnot, ↓f_in, ↓f_notin, ↓f_ixL, ↓f_ixT, ↓f_lenL, ↓f_lenT, ↓f_lenS, ↓f_abs, ↓f_intI, ↓f_intB, ↓f_tupL, ↓f_tupT, ↓f_lstL, ↓f_lstT, ↓f_repr, ↓f_cutL, ↓f_cutT, ↓firm_d, ↓firm_ob, ↓zip_l, ↓zip_t, ↓e_izip, ↓zip_cons, ↓zip_nil1, ↓zip_nil2, ↓f_sorted, ↓e_inn, ↓e_inc, ↓e_l2n, ↓e_l2c, ↓e_lc2, ↓e_rev, ↓e_pop, ↓e_popAt, ↓e_extend, ↓e_lc3, ↓e_gon, ↓e_goc, ↓e_dbMid, ↓e_dbIn, ↓f_neu, ↓e_ifT, ↓e_newD, ↓e_retO, ↓e_fixK, ↓e_putO, ↓e_dkO, ↓e_dkF, ↓e_kdO, ↓e_kdF, ↓e_get2O, ↓e_get2F, ↓e_ListD, ↓e_ListF, ↓od_o, ↓dct_d, ↓key_int, ↓key_str, ↓g_item, ↓g_get, ↓g_in, ↓g_notin, ↓h_list, ↓fz_od, ↓ow_ex, ↓e_tr, ↓e_trO, ↓e_trK, ↓tru_b, ↓tru_n, ↓tru_i, ↓tru_l, ↓tru_t, ↓tru_s, ↓e_i63, ↓n63_d, ↓e_ss, ↓dgTup_tup, ↓dgCons_cons, ↓dgNil_nil, ite_t, ite_f, itK_not, List.cons_append, List.nil_append, List.append_nil, List.replicate, List.flatten_cons, List.flatten_nil, List.append_eq, List.length_cons, List.length_nil, Nat.zero_add, Nat.reduceAdd, true_and, and_true, eqOk_str, eqOk_int, eqOk_bool, str_eqv, int_eqv, tup_nil_eqv, lst_nil_eqv, rep_flat, isK_int, isK_bool, isK_tuple, isK_str, kInt, kBool, kTuple, kStr, GB.isNon, Bool.not_true, Bool.not_false, Bool.or_false, Bool.or_true, Bool.false_or, Bool.true_or, reduceCtorEq, List.length_map, ↓st_ix0, Option.getD_some]
      refine iteI (fun _ => ?_) fun z => by omega
      rw [decide_eq_true (show (d : Int) + 2 ≤ (cs.length : Int) + 1 by omega)]
      exact q
  · refine ite_t.mpr ⟨rfl, s_wayto hs hr ?_⟩
    simp only [↓at0, ↓set0, ↓at1, ↓set1, ↓at2, ↓set2, ↓at3, ↓set3, ↓at4, ↓set4, ↓at5, ↓set5, ↓at6, ↓set6, ↓at7, ↓set7, ↓at8, ↓set8, ↓at9, ↓set9, ↓at10, ↓set10, ↓at11, ↓set11, ↓at12, ↓set12, ↓at13, ↓set13, ↓at14, ↓set14, ↓at15, ↓set15, ↓fz_d, ↓fz_own, ↓fz_ob, ↓one_d, ↓int_d, ↓bool_d, ↓own_o, ↓ds_nil, ↓ds_cons, ↓seq_l, ↓seq_t, ↓ite_t, ↓ite_f, ↓e_next, ↓e_seq, ↓e_set, ↓e_drop, ↓e_ret, ↓e_ifs, ↓e_brk, ↓e_cnt, ↓e_fixs, ↓e_par, ↓e_par3, ↓e_asg, ↓e_for, ↓e_putAt, ↓e_jput, ↓e_var, ↓e_k, ↓e_fz, ↓e_op, ↓e_opL, ↓e_opR, ↓e_n, ↓e_n1, ↓e_nil, ↓e_cons, ↓e_tup, ↓e_lst, ↓e_b, ↓e_not, ↓e_and, ↓e_or, ↓e_andV, ↓e_orV, ↓e_notV, ↓e_if, ↓e_isi, ↓e_neg, ↓e_chain, ↓e_call, ↓e_callK, ↓e_jint, ↓e_dict0, ↓e_dict1, ↓e_listRng, ↓e_append, ↓e_cut, ↓e_cutO, ↓e_onone, ↓e_osome, ↓e_iseq, ↓e_ienum, ↓e_irng, ↓e_gname, ↓e_lnil, ↓e_lcons, ↓e_lc, ↓e_yes, ↓f_addI, ↓f_addS, ↓f_addT, ↓f_addL, ↓f_i2, ↓f_mulI, ↓f_mulT, ↓f_mulL, ↓f_eq, ↓f_ne, ↓f_is, ↓f_isnot, ↓f_in, ↓f_notin, ↓f_ixL, ↓f_ixT, ↓f_lenL, ↓f_lenT, ↓f_lenS, ↓f_abs, ↓f_intI, ↓f_intB, ↓f_tupL, ↓f_tupT, ↓f_lstL, ↓f_lstT, ↓f_repr, ↓f_cutL, ↓f_cutT, ↓firm_d, ↓firm_ob, ↓zip_l, ↓zip_t, ↓e_izip, ↓zip_cons, ↓zip_nil1, ↓zip_nil2, ↓f_sorted, ↓e_inn, ↓e_inc, ↓e_l2n, ↓e_l2c, ↓e_lc2, ↓e_rev, ↓e_pop, ↓e_popAt, ↓e_extend, ↓e_lc3, ↓e_gon, ↓e_goc, ↓e_dbMid, ↓e_dbIn, ↓f_neu, ↓e_ifT, ↓e_newD, ↓e_retO, ↓e_fixK, ↓e_putO, ↓e_dkO, ↓e_dkF, ↓e_kdO, ↓e_kdF, ↓e_get2O, ↓e_get2F, ↓e_ListD, ↓e_ListF, ↓od_o, ↓dct_d, ↓key_int, ↓key_str, ↓g_item, ↓g_get, ↓g_in, ↓g_notin, ↓h_list, ↓fz_od, ↓ow_ex, ↓e_tr, ↓e_trO, ↓e_trK, ↓tru_b, ↓tru_n, ↓tru_i, ↓tru_l, ↓tru_t, ↓tru_s, ↓e_i63, ↓n63_d, ↓e_ss, ↓dgTup_tup, ↓dgCons_cons, ↓dgNil_nil, ite_t, ite_f, itK_not, List.cons_append, List.nil_append, List.append_nil, List.replicate, List.flatten_cons, List.flatten_nil, List.append_eq, List.length_cons, List.length_nil, Nat.zero_add, Nat.reduceAdd, true_and, and_true, eqOk_str, eqOk_int, eqOk_bool, str_eqv, int_eqv, tup_nil_eqv, lst_nil_eqv, rep_flat, isK_int, isK_bool, isK_tuple, isK_str, kInt, kBool, kTuple, kStr, GB.isNon, Bool.not_true, Bool.not_false, Bool.or_false, Bool.or_true, Bool.false_or, Bool.true_or, reduceCtorEq, ]
    refine s_wayto hs hr ?_
    simp only [↓at0, ↓set0, ↓at1, ↓set1, ↓at2, ↓set2, ↓at3, ↓set3, ↓at4, ↓set4, ↓at5, ↓set5, ↓at6, ↓set6, ↓at7, ↓set7, ↓at8, ↓set8, ↓at9, ↓set9, ↓at10, ↓set10, ↓at11, ↓set11, ↓at12, ↓set12, ↓at13, ↓set13, ↓at14, ↓set14, ↓at15, ↓set15, ↓fz_d, ↓fz_own, ↓fz_ob, ↓one_d, ↓int_d, ↓bool_d, ↓own_o, ↓ds_nil, ↓ds_cons, ↓seq_l, ↓seq_t, ↓ite_t, ↓ite_f, ↓e_next, ↓e_seq, ↓e_set, ↓e_drop, ↓e_ret, ↓e_ifs, ↓e_brk, ↓e_cnt, ↓e_fixs, ↓e_par, ↓e_par3, ↓e_asg, ↓e_for, ↓e_putAt, ↓e_jput, ↓e_var, ↓e_k, ↓e_fz, ↓e_op, ↓e_opL, ↓e_opR, ↓e_n, ↓e_n1, ↓e_nil, ↓e_cons, ↓e_tup, ↓e_lst, ↓e_b, ↓e_not, ↓e_and, ↓e_or, ↓e_andV, ↓e_orV, ↓e_notV, ↓e_if, ↓e_isi, ↓e_neg, ↓e_chain, ↓e_call, ↓e_callK, ↓e_jint, ↓e_dict0, ↓e_dict1, ↓e_listRng, ↓e_append, ↓e_cut, ↓e_cutO, ↓e_onone, ↓e_osome, ↓e_iseq, ↓e_ienum, ↓e_irng, ↓e_gname, ↓e_lnil, ↓e_lcons, ↓e_lc, ↓e_yes, ↓f_addI, ↓f_addS, ↓f_addT, ↓f_addL, ↓f_i2, ↓f_mulI, ↓f_mulT, ↓f_mulL, ↓f_eq, ↓f_ne, ↓f_is, ↓f_isnot, ↓f_in, ↓f_notin, ↓f_ixL, ↓f_ixT, ↓f_lenL, ↓f_lenT, ↓f_lenS, ↓f_abs, ↓f_intI, ↓f_intB, ↓f_tupL, ↓f_tupT, ↓f_lstL, ↓f_lstT, ↓f_repr, ↓f_cutL, ↓f_cutT, ↓firm_d, ↓firm_ob, ↓zip_l, ↓zip_t, ↓e_izip, ↓zip_cons, ↓zip_nil1, ↓zip_nil2, ↓f_sorted, ↓e_inn, ↓e_inc, ↓e_l2n, ↓e_l2c, ↓e_lc2, ↓e_rev, ↓e_pop, ↓e_popAt, ↓e_extend, ↓e_lc3, ↓e_gon, ↓e_goc, ↓e_dbMid, ↓e_dbIn, ↓f_neu, ↓e_ifT, ↓e_newD, ↓e_retO, ↓e_fixK, ↓e_putO, ↓e_dkO, ↓e_dkF, ↓e_kdO, ↓e_kdF, ↓e_get2O, ↓e_get2F, ↓e_ListD, ↓e_ListF, ↓od_o, ↓dct_d, ↓key_int, ↓key_str, ↓g_item, ↓g_get, ↓g_in, ↓g_notin, ↓h_list, ↓fz_od, ↓ow_ex, ↓e_tr, ↓e_trO, ↓e_trK, ↓tru_b, ↓tru_n, ↓tru_i, ↓tru_l, ↓tru_t, ↓tru_s, ↓e_i63, ↓n63_d, ↓e_ss, ↓dgTup_tup, ↓dgCons_cons, ↓dgNil_nil, ite_t, ite_f, itK_not, List.cons_append, List.nil_append, List.append_nil, List.replicate, List.flatten_cons, List.flatten_nil, List.append_eq, List.length_cons, List.length_nil, Nat.zero_add, Nat.reduceAdd, true_and, and_true, eqOk_str, eqOk_int, eqOk_bool, str_eqv, int_eqv, tup_nil_eqv, lst_nil_eqv, rep_flat, isK_int, isK_bool, isK_tuple, isK_str, kInt, kBool, kTuple, kStr, GB.isNon, Bool.not_true, Bool.not_false, Bool.or_false, Bool.or_true, Bool.false_or, Bool.true_or, reduceCtorEq, a1, a2, a3, t1, t2, t3, eqv_self]
    rcases far' with ⟨g1, rfl⟩ | ⟨d, vs, g1, rfl, cv, g4, g5⟩
    · rw [g1]
      exact ite_t.mpr (ite_t.mpr q)
    · rw [g1]
      refine ite_f.mpr (ite_f.mpr (s_isway hs hr cv (by omega) ?_))
      unfold natsD
      simp only [↓at0, ↓set0, ↓at1, ↓set1, ↓at2, ↓set2, ↓at3, ↓set3, ↓at4, ↓set4, ↓at5, ↓set5, ↓at6, ↓set6, ↓at7, ↓set7, ↓at8, ↓set8, ↓at9, ↓set9, ↓at10, ↓set10, ↓at11, ↓set11, ↓at12, ↓set12, ↓at13, ↓set13, ↓at14, ↓set14, ↓at15, ↓set15, ↓fz_d, ↓fz_own, ↓fz_ob, ↓one_d, ↓int_d, ↓bool_d, ↓own_o, ↓ds_nil, ↓ds_cons, ↓seq_l, ↓seq_t, ↓ite_t, ↓ite_f, ↓e_next, ↓e_seq, ↓e_set, ↓e_drop, ↓e_ret, ↓e_ifs, ↓e_brk, ↓e_cnt, ↓e_fixs, ↓e_par, ↓e_par3, ↓e_asg, ↓e_for, ↓e_putAt, ↓e_jput, ↓e_var, ↓e_k, ↓e_fz, ↓e_op, ↓e_opL, ↓e_opR, ↓e_n, ↓e_n1, ↓e_nil, ↓e_cons, ↓e_tup, ↓e_lst, ↓e_b, ↓e_not, ↓e_and, ↓e_or, ↓e_andV, ↓e_orV, ↓e_notV, ↓e_if, ↓e_isi, ↓e_neg, ↓e_chain, ↓e_call, ↓e_callK, ↓e_jint, ↓e_dict0, ↓e_dict1, ↓e_listRng, ↓e_append, ↓e_cut, ↓e_cutO, ↓e_onone, ↓e_osome, ↓e_iseq, ↓e_ienum, ↓e_irng, ↓e_gname, ↓e_lnil, ↓e_lcons, ↓e_lc, ↓e_yes, ↓f_addI, ↓f_addS, ↓f_addT, ↓f_addL, ↓f_i2, ↓f_mulI, ↓f_mulT, ↓f_mulL, ↓f_eq, ↓f_ne, ↓f_is, ↓f_isnot, ↓f_in, ↓f_notin, ↓f_ixL, ↓f_ixT, ↓f_lenL, ↓f_lenT, ↓f_lenS, ↓f_abs, ↓f_intI, ↓f_intB, ↓f_tupL, ↓f_tupT, ↓f_lstL, ↓f_lstT, ↓f_repr, ↓f_cutL, ↓f_cutT, ↓firm_d, ↓firm_ob, ↓zip_l, ↓zip_t, ↓e_izip, ↓zip_cons, ↓zip_nil1, ↓zip_nil2, ↓f_sorted, ↓e_inn, ↓e_inc, ↓e_l2n, ↓e_l2c, ↓e_lc2, ↓e_rev, ↓e_pop, ↓e_popAt, ↓e_extend, ↓e_lc3, ↓e_gon, ↓e_goc, ↓e_dbMid, ↓e_dbIn, ↓f_neu, ↓e_ifT, ↓e_newD, ↓e_retO, ↓e_fixK, ↓e_putO, ↓e_dkO, ↓e_dkF, ↓e_kdO, ↓e_kdF, ↓e_get2O, ↓e_get2F, ↓e_ListD, ↓e_ListF, ↓od_o, ↓dct_d, ↓key_int, ↓key_str, ↓g_item, ↓g_get, ↓g_in, ↓g_notin, ↓h_list, ↓fz_od, ↓ow_ex, ↓e_tr, ↓e_trO, ↓e_trK, ↓tru_b, ↓tru_n, ↓tru_i, ↓tru_l, ↓tru_t, ↓tru_s, ↓e_i63, ↓n63_d, ↓e_ss, ↓dgTup_tup, ↓dgCons_cons, ↓dgNil_nil, ite_t, ite_f, itK_not, List.cons_append, List.nil_append, List.append_nil, List.replicate, List.flatten_cons, List.flatten_nil, List.append_eq, List.length_cons, List.length_nil, Nat.zero_add, Nat.reduceAdd, true_and, and_true, eqOk_str, eqOk_int, eqOk_bool, str_eqv, int_eqv, tup_nil_eqv, lst_nil_eqv, rep_flat, isK_int, isK_bool, isK_tuple, isK_str, kInt, kBool, kTuple, kStr, GB.isNon, Bool.not_true, Bool.not_false, Bool.or_false, Bool.or_true, Bool.false_or, Bool.true_or, reduceCtorEq, List.length_map, ↓st_ix0, Option.getD_some]
      refine iteI (fun _ => ?_) fun z => by omega
      rw [decide_eq_true (show (d : Int) + 2 ≤ (cs.length : Int) + 1 by omega)]
      exact q
end GK

set_option maxRecDepth 100000
namespace GK
open PySem PySem.Spec PyProof.Rows L2 GB
theorem s_istold {k : S → Prop} {cs : Cs} {rm lk : List PyData} {i : Nat} {due : PyData} {b : Bool} (hs : StOk cs) (hr : RmOk cs.length rm lk) (d1 : ∀ d : Nat, (grH cs rm).D d i → due = .int ((d : Int) + 2)) (d2 : (∀ d, ¬ (grH cs rm).D d i) → due = .none) (h : k (.d (.bool true))) : F_l_is_told [.d (stD cs rm lk), .d (.int i), .d due, .d (.bool b)] k := ⟨cs, rm, lk, due, b, i, rfl, hs, hr, d1, d2, h⟩
theorem s_depths {k : S → Prop} {cs : Cs} {rm lk : List PyData} (hs : StOk cs) (hr : RmOk cs.length rm lk) (h : ∀ kvs, FarE (grH cs rm) kvs → k (.d (dctD kvs))) : F_l_depths [.d (.tuple (cs.map fun c => .tuple c.1)), .d (.tuple rm)] k := ⟨cs, rm, lk, rfl, hs, hr, h⟩
theorem st_ix2 {k : S → Prop} {cs : Cs} {rm lk : List PyData} : fIx (stD cs rm lk) (.int 2) k ↔ k (.d (.tuple rm)) := f_ixT.trans (ixn rfl)
theorem ma_l_are_told : ∀ ss R, ss.length = 3 → F_l_are_told ss R → rd_l_are_told { nx := fun _ => R (.d .none), rt := R } (ss ++ List.replicate 4 .un) := by
  rintro _ R - ⟨cs, rm, lk, us, rfl, hs, hr, hu, q⟩
  unfold rd_l_are_told
  simp only [↓at0, ↓set0, ↓at1, ↓set1, ↓at2, ↓set2, ↓at3, ↓set3, ↓at4, ↓set4, ↓at5, ↓set5, ↓at6, ↓set6, ↓at7, ↓set7, ↓at8, ↓set8, ↓at9, ↓set9, ↓at10, ↓set10, ↓at11, ↓set11, ↓at12, ↓set12, ↓at13, ↓set13, ↓at14, ↓set14, ↓at15, ↓set15, ↓fz_d, ↓fz_own, ↓fz_ob, ↓one_d, ↓int_d, ↓bool_d, ↓own_o, ↓ds_nil, ↓ds_cons, ↓seq_l, ↓seq_t, ↓ite_t, ↓ite_f, ↓e_next, ↓e_seq, ↓e_set, ↓e_drop, ↓e_ret, ↓e_ifs, ↓e_brk, ↓e_cnt, ↓e_fixs, ↓e_par, ↓e_par3, ↓e_asg, ↓e_for, ↓e_putAt, ↓e_jput, ↓e_var, ↓e_k, ↓e_fz, ↓e_op, ↓e_opL, ↓e_opR, ↓e_n, ↓e_n1, ↓e_nil, ↓e_cons, ↓e_tup, ↓e_lst, ↓e_b, ↓e_not, ↓e_and, ↓e_or, ↓e_andV, ↓e_orV, ↓e_notV, ↓e_if, ↓e_isi, ↓e_neg, ↓e_chain, ↓e_call, ↓e_callK, ↓e_jint, ↓e_dict0, ↓e_dict1, ↓e_listRng, ↓e_append, ↓e_cut, ↓e_cutO, ↓e_onone, ↓e_osome, ↓e_iseq, ↓e_ienum, ↓e_irng, ↓e_gname, ↓e_lnil, ↓e_lcons, ↓e_lc, ↓e_yes, ↓f_addI, ↓f_addS, ↓f_addT, ↓f_addL, ↓f_i2, ↓f_mulI, ↓f_mulT, ↓f_mulL, ↓f_eq, ↓f_ne, ↓f_is, ↓f_isnot, ↓f_in, ↓f_notin, ↓f_ixL, ↓f_ixT, ↓f_lenL, ↓f_lenT, ↓f_lenS, ↓f_abs, ↓f_intI, ↓f_intB, ↓f_tupL, ↓f_tupT, ↓f_lstL, ↓f_lstT, ↓f_repr, ↓f_cutL, ↓f_cutT, ↓firm_d, ↓firm_ob, ↓zip_l, ↓zip_t, ↓e_izip, ↓zip_cons, ↓zip_nil1, ↓zip_nil2, ↓f_sorted, ↓e_inn, ↓e_inc, ↓e_l2n, ↓e_l2c, ↓e_lc2, ↓e_rev, ↓e_pop, ↓e_popAt, ↓e_extend, ↓e_lc3, ↓e_gon, ↓e_goc, ↓e_dbMid, ↓e_dbIn, ↓f_neu, ↓e_ifT, ↓e_newD, ↓e_retO, ↓e_fixK, ↓e_putO, ↓e_dkO, ↓e_dkF, ↓e_kdO, ↓e_kdF, ↓e_get2O, ↓e_get2F, ↓e_ListD, ↓e_ListF, ↓od_o, ↓dct_d, ↓key_int, ↓key_str, ↓g_item, ↓g_get, ↓g_in, ↓g_notin, ↓h_list, ↓fz_od, ↓ow_ex, ↓e_tr, ↓e_trO, ↓e_trK, ↓tru_b, ↓tru_n, ↓tru_i, ↓tru_l, ↓tru_t, ↓tru_s, ↓e_i63, ↓n63_d, ↓e_ss, ↓dgTup_tup, ↓dgCons_cons, ↓dgNil_nil, ite_t, ite_f, itK_not, List.cons_append, List.nil_append, List.append_nil, List.replicate, List.flatten_cons, List.flatten_nil, List.append_eq, List.length_cons, List.length_nil, Nat.zero_add, Nat.reduceAdd, true_and, and_true, eqOk_str, eqOk_int, eqOk_bool, str_eqv, int_eqv, tup_nil_eqv, lst_nil_eqv, rep_flat, isK_int, isK_bool, isK_tuple, isK_str, kInt, kBool, kTuple, kStr, GB.isNon, Bool.not_true, Bool.not_false, Bool.or_false, Bool.or_true, Bool.false_or, Bool.true_or, reduceCtorEq, ↓st_ix0, ↓st_ix2]
  refine s_depths hs hr fun far hf => ?_
  simp only [↓at0, ↓set0, ↓at1, ↓set1, ↓at2, ↓set2, ↓at3, ↓set3, ↓at4, ↓set4, ↓at5, ↓set5, ↓at6, ↓set6, ↓at7, ↓set7, ↓at8, ↓set8, ↓at9, ↓set9, ↓at10, ↓set10, ↓at11, ↓set11, ↓at12, ↓set12, ↓at13, ↓set13, ↓at14, ↓set14, ↓at15, ↓set15, ↓fz_d, ↓fz_own, ↓fz_ob, ↓one_d, ↓int_d, ↓bool_d, ↓own_o, ↓ds_nil, ↓ds_cons, ↓seq_l, ↓seq_t, ↓ite_t, ↓ite_f, ↓e_next, ↓e_seq, ↓e_set, ↓e_drop, ↓e_ret, ↓e_ifs, ↓e_brk, ↓e_cnt, ↓e_fixs, ↓e_par, ↓e_par3, ↓e_asg, ↓e_for, ↓e_putAt, ↓e_jput, ↓e_var, ↓e_k, ↓e_fz, ↓e_op, ↓e_opL, ↓e_opR, ↓e_n, ↓e_n1, ↓e_nil, ↓e_cons, ↓e_tup, ↓e_lst, ↓e_b, ↓e_not, ↓e_and, ↓e_or, ↓e_andV, ↓e_orV, ↓e_notV, ↓e_if, ↓e_isi, ↓e_neg, ↓e_chain, ↓e_call, ↓e_callK, ↓e_jint, ↓e_dict0, ↓e_dict1, ↓e_listRng, ↓e_append, ↓e_cut, ↓e_cutO, ↓e_onone, ↓e_osome, ↓e_iseq, ↓e_ienum, ↓e_irng, ↓e_gname, ↓e_lnil, ↓e_lcons, ↓e_lc, ↓e_yes, ↓f_addI, ↓f_addS, ↓f_addT, ↓f_addL, ↓f_i2, ↓f_mulI, ↓f_mulT, ↓f_mulL, ↓f_eq, ↓f_ne, ↓f_is, ↓f_isnot, ↓f_in, ↓f_notin, ↓f_ixL, ↓f_ixT, ↓f_lenL, ↓f_lenT, ↓f_lenS, ↓f_abs, ↓f_intI, ↓f_intB, ↓f_tupL, ↓f_tupT, ↓f_lstL, ↓f_lstT, ↓f_repr, ↓f_cutL, ↓f_cutT, ↓firm_d, ↓firm_ob, ↓zip_l, ↓zip_t, ↓e_izip, ↓zip_cons, ↓zip_nil1, ↓zip_nil2, ↓f_sorted, ↓e_inn, ↓e_inc, ↓e_l2n, ↓e_l2c, ↓e_lc2, ↓e_rev, ↓e_pop, ↓e_popAt, ↓e_extend, ↓e_lc3, ↓e_gon, ↓e_goc, ↓e_dbMid, ↓e_dbIn, ↓f_neu, ↓e_ifT, ↓e_newD, ↓e_retO, ↓e_fixK, ↓e_putO, ↓e_dkO, ↓e_dkF, ↓e_kdO, ↓e_kdF, ↓e_get2O, ↓e_get2F, ↓e_ListD, ↓e_ListF, ↓od_o, ↓dct_d, ↓key_int, ↓key_str, ↓g_item, ↓g_get, ↓g_in, ↓g_notin, ↓h_list, ↓fz_od, ↓ow_ex, ↓e_tr, ↓e_trO, ↓e_trK, ↓tru_b, ↓tru_n, ↓tru_i, ↓tru_l, ↓tru_t, ↓tru_s, ↓e_i63, ↓n63_d, ↓e_ss, ↓dgTup_tup, ↓dgCons_cons, ↓dgNil_nil, ite_t, ite_f, itK_not, List.cons_append, List.nil_append, List.append_nil, List.replicate, List.flatten_cons, List.flatten_nil, List.append_eq, List.length_cons, List.length_nil, Nat.zero_add, Nat.reduceAdd, true_and, and_true, eqOk_str, eqOk_int, eqOk_bool, str_eqv, int_eqv, tup_nil_eqv, lst_nil_eqv, rep_flat, isK_int, isK_bool, isK_tuple, isK_str, kInt, kBool, kTuple, kStr, GB.isNon, Bool.not_true, Bool.not_false, Bool.or_false, Bool.or_true, Bool.false_or, Bool.true_or, reduceCtorEq, ↓s_draw]
  refine ⟨by decide, fun r r0 r1 => ?_⟩
  refine loopI (fun ds ρ => ∃ s5 s6, ρ = [S.ob Tk.jar, S.d (stD cs rm lk), S.d (.list us), S.d (dctD far), S.d (.int r), s5, s6] ∧ ∀ d ∈ ds, d ∈ pairsFrom 0 us) ?_ ?_ _ _ ⟨_, _, rfl, fun _ h => h⟩
  · rintro _ ⟨s5, s6, rfl, _⟩
    simp only [↓at0, ↓set0, ↓at1, ↓set1, ↓at2, ↓set2, ↓at3, ↓set3, ↓at4, ↓set4, ↓at5, ↓set5, ↓at6, ↓set6, ↓at7, ↓set7, ↓at8, ↓set8, ↓at9, ↓set9, ↓at10, ↓set10, ↓at11, ↓set11, ↓at12, ↓set12, ↓at13, ↓set13, ↓at14, ↓set14, ↓at15, ↓set15, ↓fz_d, ↓fz_own, ↓fz_ob, ↓one_d, ↓int_d, ↓bool_d, ↓own_o, ↓ds_nil, ↓ds_cons, ↓seq_l, ↓seq_t, ↓ite_t, ↓ite_f, ↓e_next, ↓e_seq, ↓e_set, ↓e_drop, ↓e_ret, ↓e_ifs, ↓e_brk, ↓e_cnt, ↓e_fixs, ↓e_par, ↓e_par3, ↓e_asg, ↓e_for, ↓e_putAt, ↓e_jput, ↓e_var, ↓e_k, ↓e_fz, ↓e_op, ↓e_opL, ↓e_opR, ↓e_n, ↓e_n1, ↓e_nil, ↓e_cons, ↓e_tup, ↓e_lst, ↓e_b, ↓e_not, ↓e_and, ↓e_or, ↓e_andV, ↓e_orV, ↓e_notV, ↓e_if, ↓e_isi, ↓e_neg, ↓e_chain, ↓e_call, ↓e_callK, ↓e_jint, ↓e_dict0, ↓e_dict1, ↓e_listRng, ↓e_append, ↓e_cut, ↓e_cutO, ↓e_onone, ↓e_osome, ↓e_iseq, ↓e_ienum, ↓e_irng, ↓e_gname, ↓e_lnil, ↓e_lcons, ↓e_lc, ↓e_yes, ↓f_addI, ↓f_addS, ↓f_addT, ↓f_addL, ↓f_i2, ↓f_mulI, ↓f_mulT, ↓f_mulL, ↓f_eq, ↓f_ne, ↓f_is, ↓f_isnot, ↓f_in, ↓f_notin, ↓f_ixL, ↓f_ixT, ↓f_lenL, ↓f_lenT, ↓f_lenS, ↓f_abs, ↓f_intI, ↓f_intB, ↓f_tupL, ↓f_tupT, ↓f_lstL, ↓f_lstT, ↓f_repr, ↓f_cutL, ↓f_cutT, ↓firm_d, ↓firm_ob, ↓zip_l, ↓zip_t, ↓e_izip, ↓zip_cons, ↓zip_nil1, ↓zip_nil2, ↓f_sorted, ↓e_inn, ↓e_inc, ↓e_l2n, ↓e_l2c, ↓e_lc2, ↓e_rev, ↓e_pop, ↓e_popAt, ↓e_extend, ↓e_lc3, ↓e_gon, ↓e_goc, ↓e_dbMid, ↓e_dbIn, ↓f_neu, ↓e_ifT, ↓e_newD, ↓e_retO, ↓e_fixK, ↓e_putO, ↓e_dkO, ↓e_dkF, ↓e_kdO, ↓e_kdF, ↓e_get2O, ↓e_get2F, ↓e_ListD, ↓e_ListF, ↓od_o, ↓dct_d, ↓key_int, ↓key_str, ↓g_item, ↓g_get, ↓g_in, ↓g_notin, ↓h_list, ↓fz_od, ↓ow_ex, ↓e_tr, ↓e_trO, ↓e_trK, ↓tru_b, ↓tru_n, ↓tru_i, ↓tru_l, ↓tru_t, ↓tru_s, ↓e_i63, ↓n63_d, ↓e_ss, ↓dgTup_tup, ↓dgCons_cons, ↓dgNil_nil, ite_t, ite_f, itK_not, List.cons_append, List.nil_append, List.append_nil, List.replicate, List.flatten_cons, List.flatten_nil, List.append_eq, List.length_cons, List.length_nil, Nat.zero_add, Nat.reduceAdd, true_and, and_true, eqOk_str, eqOk_int, eqOk_bool, str_eqv, int_eqv, tup_nil_eqv, lst_nil_eqv, rep_flat, isK_int, isK_bool, isK_tuple, isK_str, kInt, kBool, kTuple, kStr, GB.isNon, Bool.not_true, Bool.not_false, Bool.or_false, Bool.or_true, Bool.false_or, Bool.true_or, reduceCtorEq, ]
    exact q
  · rintro d ds _ K hK ⟨s5, s6, rfl, hd⟩
    obtain ⟨p, hp, rfl⟩ := (pairs_mem (k := 0)).mp (hd d (by simp))
    have e0 : ((0 + p : Nat) : Int) = p := by simp
    rw [e0]
    obtain ⟨i, e, hi⟩ := hu us[p] (List.getElem_mem hp)
    rw [e]
    have nx : K [S.ob Tk.jar, S.d (stD cs rm lk), S.d (.list us), S.d (dctD far), S.d (.int r), S.d (.int p), S.d (.int i)] := hK _ ⟨_, _, rfl, fun x hx => hd x (by simp [hx])⟩
    simp only [↓at0, ↓set0, ↓at1, ↓set1, ↓at2, ↓set2, ↓at3, ↓set3, ↓at4, ↓set4, ↓at5, ↓set5, ↓at6, ↓set6, ↓at7, ↓set7, ↓at8, ↓set8, ↓at9, ↓set9, ↓at10, ↓set10, ↓at11, ↓set11, ↓at12, ↓set12, ↓at13, ↓set13, ↓at14, ↓set14, ↓at15, ↓set15, ↓fz_d, ↓fz_own, ↓fz_ob, ↓one_d, ↓int_d, ↓bool_d, ↓own_o, ↓ds_nil, ↓ds_cons, ↓seq_l, ↓seq_t, ↓ite_t, ↓ite_f, ↓e_next, ↓e_seq, ↓e_set, ↓e_drop, ↓e_ret, ↓e_ifs, ↓e_brk, ↓e_cnt, ↓e_fixs, ↓e_par, ↓e_par3, ↓e_asg, ↓e_for, ↓e_putAt, ↓e_jput, ↓e_var, ↓e_k, ↓e_fz, ↓e_op, ↓e_opL, ↓e_opR, ↓e_n, ↓e_n1, ↓e_nil, ↓e_cons, ↓e_tup, ↓e_lst, ↓e_b, ↓e_not, ↓e_and, ↓e_or, ↓e_andV, ↓e_orV, ↓e_notV, ↓e_if, ↓e_isi, ↓e_neg, ↓e_chain, ↓e_call, ↓e_callK, ↓e_jint, ↓e_dict0, ↓e_dict1, ↓e_listRng, ↓e_append, ↓e_cut, ↓e_cutO, ↓e_onone, ↓e_osome, ↓e_iseq, ↓e_ienum, ↓e_irng, ↓e_gname, ↓e_lnil, ↓e_lcons, ↓e_lc, ↓e_yes, ↓f_addI, ↓f_addS, ↓f_addT, ↓f_addL, ↓f_i2, ↓f_mulI, ↓f_mulT, ↓f_mulL, ↓f_eq, ↓f_ne, ↓f_is, ↓f_isnot, ↓f_in, ↓f_notin, ↓f_ixL, ↓f_ixT, ↓f_lenL, ↓f_lenT, ↓f_lenS, ↓f_abs, ↓f_intI, ↓f_intB, ↓f_tupL, ↓f_tupT, ↓f_lstL, ↓f_lstT, ↓f_repr, ↓f_cutL, ↓f_cutT, ↓firm_d, ↓firm_ob, ↓zip_l, ↓zip_t, ↓e_izip, ↓zip_cons, ↓zip_nil1, ↓zip_nil2, ↓f_sorted, ↓e_inn, ↓e_inc, ↓e_l2n, ↓e_l2c, ↓e_lc2, ↓e_rev, ↓e_pop, ↓e_popAt, ↓e_extend, ↓e_lc3, ↓e_gon, ↓e_goc, ↓e_dbMid, ↓e_dbIn, ↓f_neu, ↓e_ifT, ↓e_newD, ↓e_retO, ↓e_fixK, ↓e_putO, ↓e_dkO, ↓e_dkF, ↓e_kdO, ↓e_kdF, ↓e_get2O, ↓e_get2F, ↓e_ListD, ↓e_ListF, ↓od_o, ↓dct_d, ↓key_int, ↓key_str, ↓g_item, ↓g_get, ↓g_in, ↓g_notin, ↓h_list, ↓fz_od, ↓ow_ex, ↓e_tr, ↓e_trO, ↓e_trK, ↓tru_b, ↓tru_n, ↓tru_i, ↓tru_l, ↓tru_t, ↓tru_s, ↓e_i63, ↓n63_d, ↓e_ss, ↓dgTup_tup, ↓dgCons_cons, ↓dgNil_nil, ite_t, ite_f, itK_not, List.cons_append, List.nil_append, List.append_nil, List.replicate, List.flatten_cons, List.flatten_nil, List.append_eq, List.length_cons, List.length_nil, Nat.zero_add, Nat.reduceAdd, true_and, and_true, eqOk_str, eqOk_int, eqOk_bool, str_eqv, int_eqv, tup_nil_eqv, lst_nil_eqv, rep_flat, isK_int, isK_bool, isK_tuple, isK_str, kInt, kBool, kTuple, kStr, GB.isNon, Bool.not_true, Bool.not_false, Bool.or_false, Bool.or_true, Bool.false_or, Bool.true_or, reduceCtorEq, ]
    refine s_istold hs hr (fun d h => by rw [hf.y i d h]; rfl) (fun h => by rw [hf.n i h]; rfl) ?_
    simp only [↓at0, ↓set0, ↓at1, ↓set1, ↓at2, ↓set2, ↓at3, ↓set3, ↓at4, ↓set4, ↓at5, ↓set5, ↓at6, ↓set6, ↓at7, ↓set7, ↓at8, ↓set8, ↓at9, ↓set9, ↓at10, ↓set10, ↓at11, ↓set11, ↓at12, ↓set12, ↓at13, ↓set13, ↓at14, ↓set14, ↓at15, ↓set15, ↓fz_d, ↓fz_own, ↓fz_ob, ↓one_d, ↓int_d, ↓bool_d, ↓own_o, ↓ds_nil, ↓ds_cons, ↓seq_l, ↓seq_t, ↓ite_t, ↓ite_f, ↓e_next, ↓e_seq, ↓e_set, ↓e_drop, ↓e_ret, ↓e_ifs, ↓e_brk, ↓e_cnt, ↓e_fixs, ↓e_par, ↓e_par3, ↓e_asg, ↓e_for, ↓e_putAt, ↓e_jput, ↓e_var, ↓e_k, ↓e_fz, ↓e_op, ↓e_opL, ↓e_opR, ↓e_n, ↓e_n1, ↓e_nil, ↓e_cons, ↓e_tup, ↓e_lst, ↓e_b, ↓e_not, ↓e_and, ↓e_or, ↓e_andV, ↓e_orV, ↓e_notV, ↓e_if, ↓e_isi, ↓e_neg, ↓e_chain, ↓e_call, ↓e_callK, ↓e_jint, ↓e_dict0, ↓e_dict1, ↓e_listRng, ↓e_append, ↓e_cut, ↓e_cutO, ↓e_onone, ↓e_osome, ↓e_iseq, ↓e_ienum, ↓e_irng, ↓e_gname, ↓e_lnil, ↓e_lcons, ↓e_lc, ↓e_yes, ↓f_addI, ↓f_addS, ↓f_addT, ↓f_addL, ↓f_i2, ↓f_mulI, ↓f_mulT, ↓f_mulL, ↓f_eq, ↓f_ne, ↓f_is, ↓f_isnot, ↓f_in, ↓f_notin, ↓f_ixL, ↓f_ixT, ↓f_lenL, ↓f_lenT, ↓f_lenS, ↓f_abs, ↓f_intI, ↓f_intB, ↓f_tupL, ↓f_tupT, ↓f_lstL, ↓f_lstT, ↓f_repr, ↓f_cutL, ↓f_cutT, ↓firm_d, ↓firm_ob, ↓zip_l, ↓zip_t, ↓e_izip, ↓zip_cons, ↓zip_nil1, ↓zip_nil2, ↓f_sorted, ↓e_inn, ↓e_inc, ↓e_l2n, ↓e_l2c, ↓e_lc2, ↓e_rev, ↓e_pop, ↓e_popAt, ↓e_extend, ↓e_lc3, ↓e_gon, ↓e_goc, ↓e_dbMid, ↓e_dbIn, ↓f_neu, ↓e_ifT, ↓e_newD, ↓e_retO, ↓e_fixK, ↓e_putO, ↓e_dkO, ↓e_dkF, ↓e_kdO, ↓e_kdF, ↓e_get2O, ↓e_get2F, ↓e_ListD, ↓e_ListF, ↓od_o, ↓dct_d, ↓key_int, ↓key_str, ↓g_item, ↓g_get, ↓g_in, ↓g_notin, ↓h_list, ↓fz_od, ↓ow_ex, ↓e_tr, ↓e_trO, ↓e_trK, ↓tru_b, ↓tru_n, ↓tru_i, ↓tru_l, ↓tru_t, ↓tru_s, ↓e_i63, ↓n63_d, ↓e_ss, ↓dgTup_tup, ↓dgCons_cons, ↓dgNil_nil, ite_t, ite_f, itK_not, List.cons_append, List.nil_append, List.append_nil, List.replicate, List.flatten_cons, List.flatten_nil, List.append_eq, List.length_cons, List.length_nil, Nat.zero_add, Nat.reduceAdd, true_and, and_true, eqOk_str, eqOk_int, eqOk_bool, str_eqv, int_eqv, tup_nil_eqv, lst_nil_eqv, rep_flat, isK_int, isK_bool, isK_tuple, isK_str, kInt, kBool, kTuple, kStr, GB.isNon, Bool.not_true, Bool.not_false, Bool.or_false, Bool.or_true, Bool.false_or, Bool.true_or, reduceCtorEq, ]
    exact nx
theorem s_aretold {k : S → Prop} {cs : Cs} {rm lk us : List PyData} (hs : StOk cs) (hr : RmOk cs.length rm lk) (hu : Cells cs.length us) (h : k (.d (.bool true))) : F_l_are_told [.ob .jar, .d (stD cs rm lk), .d (.list us)] k := ⟨cs, rm, lk, us, rfl, hs, hr, hu, h⟩
theorem s_row {k : S → Prop} {m : Nat} (h1 : 2 ≤ m) (h2 : m ≤ 60) (h : ∀ cs rm lk us, cs.length = m → StOk cs → RmOk m rm lk → us.length = m → Cells m us → k (.d (.tuple [stD cs rm lk, .list us]))) : F_l_row [.ob .jar, .d (.int m)] k := ⟨m, rfl, h1, h2, h⟩
theorem s_stand {k : S → Prop} {n l m : Nat} (h1 : n + l ≤ 60) (h2 : 1 ≤ m) (h3 : m ≤ 50) (h : ∀ cs rm lk, cs.length = n + l → StOk cs → RmOk (n + l) rm lk → k (.d (stD cs rm lk))) : F_l_standing [.ob .jar, .d (.int n), .d (.int l), .d (.int m)] k := ⟨n, l, m, rfl, h1, h2, h3, h⟩
theorem ixN_n {n c : Nat} (h : c < n) : ixN n (c : Int) = some c := by
  unfold ixN
  rw [if_pos (by omega), if_pos (by omega)]; simp
theorem cut_init {us : List PyData} (h : 1 ≤ us.length) : GB.cutD us none (some (-1)) = us.take (us.length - 1) := by
  show (us.drop 0).take ((if (-1 : Int) < 0 then ((-1 : Int) + (us.length : Int)).toNat else min (-1 : Int).toNat us.length) - 0) = _
  rw [if_pos (by decide), List.drop_zero, show ((-1 : Int) + (us.length : Int)).toNat - 0 = us.length - 1 by omega]
theorem ma_l_row : ∀ ss R, ss.length = 2 → F_l_row ss R → rd_l_row { nx := fun _ => R (.d .none), rt := R } (ss ++ List.replicate 6 .un) := by
  rintro _ R - ⟨m, rfl, hm, hm2, q⟩
  unfold rd_l_row
  simp only [↓at0, ↓set0, ↓at1, ↓set1, ↓at2, ↓set2, ↓at3, ↓set3, ↓at4, ↓set4, ↓at5, ↓set5, ↓at6, ↓set6, ↓at7, ↓set7, ↓at8, ↓set8, ↓at9, ↓set9, ↓at10, ↓set10, ↓at11, ↓set11, ↓at12, ↓set12, ↓at13, ↓set13, ↓at14, ↓set14, ↓at15, ↓set15, ↓fz_d, ↓fz_own, ↓fz_ob, ↓one_d, ↓int_d, ↓bool_d, ↓own_o, ↓ds_nil, ↓ds_cons, ↓seq_l, ↓seq_t, ↓ite_t, ↓ite_f, ↓e_next, ↓e_seq, ↓e_set, ↓e_drop, ↓e_ret, ↓e_ifs, ↓e_brk, ↓e_cnt, ↓e_fixs, ↓e_par, ↓e_par3, ↓e_asg, ↓e_for, ↓e_putAt, ↓e_jput, ↓e_var, ↓e_k, ↓e_fz, ↓e_op, ↓e_opL, ↓e_opR, ↓e_n, ↓e_n1, ↓e_nil, ↓e_cons, ↓e_tup, ↓e_lst, ↓e_b, ↓e_not, ↓e_and, ↓e_or, ↓e_andV, ↓e_orV, ↓e_notV, ↓e_if, ↓e_isi, ↓e_neg, ↓e_chain, ↓e_call, ↓e_callK, ↓e_jint, ↓e_dict0, ↓e_dict1, ↓e_listRng, ↓e_append, ↓e_cut, ↓e_cutO, ↓e_onone, ↓e_osome, ↓e_iseq, ↓e_ienum, ↓e_irng, ↓e_gname, ↓e_lnil, ↓e_lcons, ↓e_lc, ↓e_yes, ↓f_addI, ↓f_addS, ↓f_addT, ↓f_addL, ↓f_i2, ↓f_mulI, ↓f_mulT, ↓f_mulL, ↓f_eq, ↓f_ne, ↓f_is, ↓f_isnot, ↓f_in, ↓f_notin, ↓f_ixL, ↓f_ixT, ↓f_lenL, ↓f_lenT, ↓f_lenS, ↓f_abs, ↓f_intI, ↓f_intB, ↓f_tupL, ↓f_tupT, ↓f_lstL, ↓f_lstT, ↓f_repr, ↓f_cutL, ↓f_cutT, ↓firm_d, ↓firm_ob, ↓zip_l, ↓zip_t, ↓e_izip, ↓zip_cons, ↓zip_nil1, ↓zip_nil2, ↓f_sorted, ↓e_inn, ↓e_inc, ↓e_l2n, ↓e_l2c, ↓e_lc2, ↓e_rev, ↓e_pop, ↓e_popAt, ↓e_extend, ↓e_lc3, ↓e_gon, ↓e_goc, ↓e_dbMid, ↓e_dbIn, ↓f_neu, ↓e_ifT, ↓e_newD, ↓e_retO, ↓e_fixK, ↓e_putO, ↓e_dkO, ↓e_dkF, ↓e_kdO, ↓e_kdF, ↓e_get2O, ↓e_get2F, ↓e_ListD, ↓e_ListF, ↓od_o, ↓dct_d, ↓key_int, ↓key_str, ↓g_item, ↓g_get, ↓g_in, ↓g_notin, ↓h_list, ↓fz_od, ↓ow_ex, ↓e_tr, ↓e_trO, ↓e_trK, ↓tru_b, ↓tru_n, ↓tru_i, ↓tru_l, ↓tru_t, ↓tru_s, ↓e_i63, ↓n63_d, ↓e_ss, ↓dgTup_tup, ↓dgCons_cons, ↓dgNil_nil, ite_t, ite_f, itK_not, List.cons_append, List.nil_append, List.append_nil, List.replicate, List.flatten_cons, List.flatten_nil, List.append_eq, List.length_cons, List.length_nil, Nat.zero_add, Nat.reduceAdd, true_and, and_true, eqOk_str, eqOk_int, eqOk_bool, str_eqv, int_eqv, tup_nil_eqv, lst_nil_eqv, rep_flat, isK_int, isK_bool, isK_tuple, isK_str, kInt, kBool, kTuple, kStr, GB.isNon, Bool.not_true, Bool.not_false, Bool.or_false, Bool.or_true, Bool.false_or, Bool.true_or, reduceCtorEq, ]
  refine ⟨by omega, by omega, s_mixed.mpr ⟨by rw [irow_len]; simp; omega, fun x hx => ?_, fun us pm => ?_⟩⟩
  · obtain ⟨i, rfl, _⟩ := irow_in hx
    exact ⟨rfl, by simp [PyData.depth]⟩
  have ul : us.length = m := by have := pm.length_eq; rw [irow_len] at this; simpa using this
  have uc : Cells m us := fun x hx => by
    obtain ⟨i, e, h⟩ := irow_in (pm.mem_iff.mp hx)
    exact ⟨i, e, by simpa using h⟩
  simp only [↓at0, ↓set0, ↓at1, ↓set1, ↓at2, ↓set2, ↓at3, ↓set3, ↓at4, ↓set4, ↓at5, ↓set5, ↓at6, ↓set6, ↓at7, ↓set7, ↓at8, ↓set8, ↓at9, ↓set9, ↓at10, ↓set10, ↓at11, ↓set11, ↓at12, ↓set12, ↓at13, ↓set13, ↓at14, ↓set14, ↓at15, ↓set15, ↓fz_d, ↓fz_own, ↓fz_ob, ↓one_d, ↓int_d, ↓bool_d, ↓own_o, ↓ds_nil, ↓ds_cons, ↓seq_l, ↓seq_t, ↓ite_t, ↓ite_f, ↓e_next, ↓e_seq, ↓e_set, ↓e_drop, ↓e_ret, ↓e_ifs, ↓e_brk, ↓e_cnt, ↓e_fixs, ↓e_par, ↓e_par3, ↓e_asg, ↓e_for, ↓e_putAt, ↓e_jput, ↓e_var, ↓e_k, ↓e_fz, ↓e_op, ↓e_opL, ↓e_opR, ↓e_n, ↓e_n1, ↓e_nil, ↓e_cons, ↓e_tup, ↓e_lst, ↓e_b, ↓e_not, ↓e_and, ↓e_or, ↓e_andV, ↓e_orV, ↓e_notV, ↓e_if, ↓e_isi, ↓e_neg, ↓e_chain, ↓e_call, ↓e_callK, ↓e_jint, ↓e_dict0, ↓e_dict1, ↓e_listRng, ↓e_append, ↓e_cut, ↓e_cutO, ↓e_onone, ↓e_osome, ↓e_iseq, ↓e_ienum, ↓e_irng, ↓e_gname, ↓e_lnil, ↓e_lcons, ↓e_lc, ↓e_yes, ↓f_addI, ↓f_addS, ↓f_addT, ↓f_addL, ↓f_i2, ↓f_mulI, ↓f_mulT, ↓f_mulL, ↓f_eq, ↓f_ne, ↓f_is, ↓f_isnot, ↓f_in, ↓f_notin, ↓f_ixL, ↓f_ixT, ↓f_lenL, ↓f_lenT, ↓f_lenS, ↓f_abs, ↓f_intI, ↓f_intB, ↓f_tupL, ↓f_tupT, ↓f_lstL, ↓f_lstT, ↓f_repr, ↓f_cutL, ↓f_cutT, ↓firm_d, ↓firm_ob, ↓zip_l, ↓zip_t, ↓e_izip, ↓zip_cons, ↓zip_nil1, ↓zip_nil2, ↓f_sorted, ↓e_inn, ↓e_inc, ↓e_l2n, ↓e_l2c, ↓e_lc2, ↓e_rev, ↓e_pop, ↓e_popAt, ↓e_extend, ↓e_lc3, ↓e_gon, ↓e_goc, ↓e_dbMid, ↓e_dbIn, ↓f_neu, ↓e_ifT, ↓e_newD, ↓e_retO, ↓e_fixK, ↓e_putO, ↓e_dkO, ↓e_dkF, ↓e_kdO, ↓e_kdF, ↓e_get2O, ↓e_get2F, ↓e_ListD, ↓e_ListF, ↓od_o, ↓dct_d, ↓key_int, ↓key_str, ↓g_item, ↓g_get, ↓g_in, ↓g_notin, ↓h_list, ↓fz_od, ↓ow_ex, ↓e_tr, ↓e_trO, ↓e_trK, ↓tru_b, ↓tru_n, ↓tru_i, ↓tru_l, ↓tru_t, ↓tru_s, ↓e_i63, ↓n63_d, ↓e_ss, ↓dgTup_tup, ↓dgCons_cons, ↓dgNil_nil, ite_t, ite_f, itK_not, List.cons_append, List.nil_append, List.append_nil, List.replicate, List.flatten_cons, List.flatten_nil, List.append_eq, List.length_cons, List.length_nil, Nat.zero_add, Nat.reduceAdd, true_and, and_true, eqOk_str, eqOk_int, eqOk_bool, str_eqv, int_eqv, tup_nil_eqv, lst_nil_eqv, rep_flat, isK_int, isK_bool, isK_tuple, isK_str, kInt, kBool, kTuple, kStr, GB.isNon, Bool.not_true, Bool.not_false, Bool.or_false, Bool.or_true, Bool.false_or, Bool.true_or, reduceCtorEq, ]
  have ci := cut_init (us := us) (by omega)
  have b1 : (m : Int) < 2 ^ 62 := Int.lt_of_lt_of_le (show (m : Int) < 61 by omega) (by decide)
  have b2 : (-2 ^ 62 : Int) < m := Int.lt_of_lt_of_le (by decide : (-2 ^ 62 : Int) < 0) (by omega)
  have b3 : 1 * (m : Int).toNat ≤ sizeLine := line_ge (by simp; omega)
  rw [ci]
  refine ⟨by decide, by decide, b2, b1, b3, ?_⟩
  rw [Int.toNat_natCast]
  refine loopI (fun ds ρ => ∃ (F : List (List PyData)) (s4 s5 s6 s7 : S), ρ = [S.ob Tk.jar, S.d (.int m), S.d (.list us), S.own (F.map .tuple), s4, s5, s6, s7] ∧ (∀ d ∈ ds, d ∈ pairsFrom 0 (us.take (us.length - 1))) ∧ F.length = m ∧ ∀ fs ∈ F, fs.length ≤ 3 ∧ ∀ y ∈ fs, Fld m y) ?_ ?_ _ _ ⟨List.replicate m [], _, _, _, _, by rw [List.map_replicate], fun _ h => h, by simp, fun fs h => by rw [(List.mem_replicate.mp h).2]; exact ⟨by simp, fun _ h => nomatch h⟩⟩
  · rintro _ ⟨F, s4, s5, s6, s7, rfl, _, f1, f2⟩
    simp only [↓at0, ↓set0, ↓at1, ↓set1, ↓at2, ↓set2, ↓at3, ↓set3, ↓at4, ↓set4, ↓at5, ↓set5, ↓at6, ↓set6, ↓at7, ↓set7, ↓at8, ↓set8, ↓at9, ↓set9, ↓at10, ↓set10, ↓at11, ↓set11, ↓at12, ↓set12, ↓at13, ↓set13, ↓at14, ↓set14, ↓at15, ↓set15, ↓fz_d, ↓fz_own, ↓fz_ob, ↓one_d, ↓int_d, ↓bool_d, ↓own_o, ↓ds_nil, ↓ds_cons, ↓seq_l, ↓seq_t, ↓ite_t, ↓ite_f, ↓e_next, ↓e_seq, ↓e_set, ↓e_drop, ↓e_ret, ↓e_ifs, ↓e_brk, ↓e_cnt, ↓e_fixs, ↓e_par, ↓e_par3, ↓e_asg, ↓e_for, ↓e_putAt, ↓e_jput, ↓e_var, ↓e_k, ↓e_fz, ↓e_op, ↓e_opL, ↓e_opR, ↓e_n, ↓e_n1, ↓e_nil, ↓e_cons, ↓e_tup, ↓e_lst, ↓e_b, ↓e_not, ↓e_and, ↓e_or, ↓e_andV, ↓e_orV, ↓e_notV, ↓e_if, ↓e_isi, ↓e_neg, ↓e_chain, ↓e_call, ↓e_callK, ↓e_jint, ↓e_dict0, ↓e_dict1, ↓e_listRng, ↓e_append, ↓e_cut, ↓e_cutO, ↓e_onone, ↓e_osome, ↓e_iseq, ↓e_ienum, ↓e_irng, ↓e_gname, ↓e_lnil, ↓e_lcons, ↓e_lc, ↓e_yes, ↓f_addI, ↓f_addS, ↓f_addT, ↓f_addL, ↓f_i2, ↓f_mulI, ↓f_mulT, ↓f_mulL, ↓f_eq, ↓f_ne, ↓f_is, ↓f_isnot, ↓f_in, ↓f_notin, ↓f_ixL, ↓f_ixT, ↓f_lenL, ↓f_lenT, ↓f_lenS, ↓f_abs, ↓f_intI, ↓f_intB, ↓f_tupL, ↓f_tupT, ↓f_lstL, ↓f_lstT, ↓f_repr, ↓f_cutL, ↓f_cutT, ↓firm_d, ↓firm_ob, ↓zip_l, ↓zip_t, ↓e_izip, ↓zip_cons, ↓zip_nil1, ↓zip_nil2, ↓f_sorted, ↓e_inn, ↓e_inc, ↓e_l2n, ↓e_l2c, ↓e_lc2, ↓e_rev, ↓e_pop, ↓e_popAt, ↓e_extend, ↓e_lc3, ↓e_gon, ↓e_goc, ↓e_dbMid, ↓e_dbIn, ↓f_neu, ↓e_ifT, ↓e_newD, ↓e_retO, ↓e_fixK, ↓e_putO, ↓e_dkO, ↓e_dkF, ↓e_kdO, ↓e_kdF, ↓e_get2O, ↓e_get2F, ↓e_ListD, ↓e_ListF, ↓od_o, ↓dct_d, ↓key_int, ↓key_str, ↓g_item, ↓g_get, ↓g_in, ↓g_notin, ↓h_list, ↓fz_od, ↓ow_ex, ↓e_tr, ↓e_trO, ↓e_trK, ↓tru_b, ↓tru_n, ↓tru_i, ↓tru_l, ↓tru_t, ↓tru_s, ↓e_i63, ↓n63_d, ↓e_ss, ↓dgTup_tup, ↓dgCons_cons, ↓dgNil_nil, ite_t, ite_f, itK_not, List.cons_append, List.nil_append, List.append_nil, List.replicate, List.flatten_cons, List.flatten_nil, List.append_eq, List.length_cons, List.length_nil, Nat.zero_add, Nat.reduceAdd, true_and, and_true, eqOk_str, eqOk_int, eqOk_bool, str_eqv, int_eqv, tup_nil_eqv, lst_nil_eqv, rep_flat, isK_int, isK_bool, isK_tuple, isK_str, kInt, kBool, kTuple, kStr, GB.isNon, Bool.not_true, Bool.not_false, Bool.or_false, Bool.or_true, Bool.false_or, Bool.true_or, reduceCtorEq, ↓s_pick]
    refine ⟨by decide, List.cons_ne_nil _ _, by decide, fun x hx => ?_⟩
    obtain ⟨p, rfl, hp⟩ : ∃ p : Nat, x = .int p ∧ p < 2 := by
      simp only [List.mem_cons, List.not_mem_nil, or_false] at hx
      rcases hx with rfl | rfl | rfl
      · exact ⟨0, rfl, by decide⟩
      · exact ⟨0, rfl, by decide⟩
      · exact ⟨1, rfl, by decide⟩
    have ap : atI us (p : Int) = some us[p] := at_n (List.getElem?_eq_getElem (by omega))
    simp only [↓at0, ↓set0, ↓at1, ↓set1, ↓at2, ↓set2, ↓at3, ↓set3, ↓at4, ↓set4, ↓at5, ↓set5, ↓at6, ↓set6, ↓at7, ↓set7, ↓at8, ↓set8, ↓at9, ↓set9, ↓at10, ↓set10, ↓at11, ↓set11, ↓at12, ↓set12, ↓at13, ↓set13, ↓at14, ↓set14, ↓at15, ↓set15, ↓fz_d, ↓fz_own, ↓fz_ob, ↓one_d, ↓int_d, ↓bool_d, ↓own_o, ↓ds_nil, ↓ds_cons, ↓seq_l, ↓seq_t, ↓ite_t, ↓ite_f, ↓e_next, ↓e_seq, ↓e_set, ↓e_drop, ↓e_ret, ↓e_ifs, ↓e_brk, ↓e_cnt, ↓e_fixs, ↓e_par, ↓e_par3, ↓e_asg, ↓e_for, ↓e_putAt, ↓e_jput, ↓e_var, ↓e_k, ↓e_fz, ↓e_op, ↓e_opL, ↓e_opR, ↓e_n, ↓e_n1, ↓e_nil, ↓e_cons, ↓e_tup, ↓e_lst, ↓e_b, ↓e_not, ↓e_and, ↓e_or, ↓e_andV, ↓e_orV, ↓e_notV, ↓e_if, ↓e_isi, ↓e_neg, ↓e_chain, ↓e_call, ↓e_callK, ↓e_jint, ↓e_dict0, ↓e_dict1, ↓e_listRng, ↓e_append, ↓e_cut, ↓e_cutO, ↓e_onone, ↓e_osome, ↓e_iseq, ↓e_ienum, ↓e_irng, ↓e_gname, ↓e_lnil, ↓e_lcons, ↓e_lc, ↓e_yes, ↓f_addI, ↓f_addS, ↓f_addT, ↓f_addL, ↓f_i2, ↓f_mulI, ↓f_mulT, ↓f_mulL, ↓f_eq, ↓f_ne, ↓f_is, ↓f_isnot, ↓f_in, ↓f_notin, ↓f_ixL, ↓f_ixT, ↓f_lenL, ↓f_lenT, ↓f_lenS, ↓f_abs, ↓f_intI, ↓f_intB, ↓f_tupL, ↓f_tupT, ↓f_lstL, ↓f_lstT, ↓f_repr, ↓f_cutL, ↓f_cutT, ↓firm_d, ↓firm_ob, ↓zip_l, ↓zip_t, ↓e_izip, ↓zip_cons, ↓zip_nil1, ↓zip_nil2, ↓f_sorted, ↓e_inn, ↓e_inc, ↓e_l2n, ↓e_l2c, ↓e_lc2, ↓e_rev, ↓e_pop, ↓e_popAt, ↓e_extend, ↓e_lc3, ↓e_gon, ↓e_goc, ↓e_dbMid, ↓e_dbIn, ↓f_neu, ↓e_ifT, ↓e_newD, ↓e_retO, ↓e_fixK, ↓e_putO, ↓e_dkO, ↓e_dkF, ↓e_kdO, ↓e_kdF, ↓e_get2O, ↓e_get2F, ↓e_ListD, ↓e_ListF, ↓od_o, ↓dct_d, ↓key_int, ↓key_str, ↓g_item, ↓g_get, ↓g_in, ↓g_notin, ↓h_list, ↓fz_od, ↓ow_ex, ↓e_tr, ↓e_trO, ↓e_trK, ↓tru_b, ↓tru_n, ↓tru_i, ↓tru_l, ↓tru_t, ↓tru_s, ↓e_i63, ↓n63_d, ↓e_ss, ↓dgTup_tup, ↓dgCons_cons, ↓dgNil_nil, ite_t, ite_f, itK_not, List.cons_append, List.nil_append, List.append_nil, List.replicate, List.flatten_cons, List.flatten_nil, List.append_eq, List.length_cons, List.length_nil, Nat.zero_add, Nat.reduceAdd, true_and, and_true, eqOk_str, eqOk_int, eqOk_bool, str_eqv, int_eqv, tup_nil_eqv, lst_nil_eqv, rep_flat, isK_int, isK_bool, isK_tuple, isK_str, kInt, kBool, kTuple, kStr, GB.isNon, Bool.not_true, Bool.not_false, Bool.or_false, Bool.or_true, Bool.false_or, Bool.true_or, reduceCtorEq, ↓ixn ap]
    refine ⟨by decide, by decide, by decide, by decide, b2, b1, b3, by decide, by decide, by decide, ?_⟩
    rw [Int.toNat_natCast]
    have hz := q (F.zip (List.replicate m (PyData.str "white"))) [.tuple [.none, us[p]], .tuple [.none]] [.bool true, .bool false] us (by simp [f1]) ⟨by simp [f1]; omega, fun c hc => ?_⟩ ⟨by simp, rfl, fun x hx => ?_, fun x hx => ?_⟩ ul uc
    · unfold stD at hz
      have e1 : ((F.zip (List.replicate m (PyData.str "white"))).map fun c => PyData.tuple c.1) = F.map .tuple := by
        rw [show (fun c : List PyData × PyData => PyData.tuple c.1) = PyData.tuple ∘ Prod.fst from rfl, ← List.map_map, List.map_fst_zip (by simp [f1])]
      have e2 : ((F.zip (List.replicate m (PyData.str "white"))).map fun c => c.2) = List.replicate m (PyData.str "white") := List.map_snd_zip (by simp [f1])
      rw [e1, e2] at hz
      exact hz
    · have lz : (F.zip (List.replicate m (PyData.str "white"))).length = m := by simp [f1]
      rw [lz]
      obtain ⟨i, hi, rfl⟩ := List.mem_iff_getElem.mp hc
      rw [List.getElem_zip]
      have hF : i < F.length := by simp at hi; omega
      have a := f2 F[i] (List.getElem_mem hF)
      refine ⟨a.1, a.2, ?_⟩
      show Mark F[i] _
      rw [List.getElem_replicate]
      exact .inl rfl
    · simp only [List.mem_cons, List.not_mem_nil, or_false] at hx
      rcases hx with rfl | rfl
      · refine ⟨_, rfl, by simp, fun y hy => ?_⟩
        simp only [List.mem_cons, List.not_mem_nil, or_false] at hy
        rcases hy with rfl | rfl
        · exact .inl rfl
        · exact .inr (uc _ (List.getElem_mem (by omega)))
      · exact ⟨_, rfl, by simp, fun y hy => .inl (List.mem_singleton.mp hy)⟩
    · simp only [List.mem_cons, List.not_mem_nil, or_false] at hx
      rcases hx with rfl | rfl
      · exact ⟨_, rfl⟩
      · exact ⟨_, rfl⟩
  · rintro d ds _ K hK ⟨F, s4, s5, s6, s7, rfl, hd, f1, f2⟩
    obtain ⟨p, hp, rfl⟩ := (pairs_mem (k := 0)).mp (hd d (by simp))
    have hp' : p < us.length - 1 := by rw [List.length_take] at hp; omega
    have e0 : ((0 + p : Nat) : Int) = p := by simp
    rw [e0, List.getElem_take]
    obtain ⟨c, ec, hc⟩ := uc us[p] (List.getElem_mem (by omega))
    rw [ec]
    have ufld : ∀ x ∈ us, Fld m x := fun x hx => .inr (uc x hx)
    have a1 : atI us ((p : Int) + 1) = some us[p + 1] := by
      have := at_n (List.getElem?_eq_getElem (show p + 1 < us.length by omega))
      exact this
    simp only [↓at0, ↓set0, ↓at1, ↓set1, ↓at2, ↓set2, ↓at3, ↓set3, ↓at4, ↓set4, ↓at5, ↓set5, ↓at6, ↓set6, ↓at7, ↓set7, ↓at8, ↓set8, ↓at9, ↓set9, ↓at10, ↓set10, ↓at11, ↓set11, ↓at12, ↓set12, ↓at13, ↓set13, ↓at14, ↓set14, ↓at15, ↓set15, ↓fz_d, ↓fz_own, ↓fz_ob, ↓one_d, ↓int_d, ↓bool_d, ↓own_o, ↓ds_nil, ↓ds_cons, ↓seq_l, ↓seq_t, ↓ite_t, ↓ite_f, ↓e_next, ↓e_seq, ↓e_set, ↓e_drop, ↓e_ret, ↓e_ifs, ↓e_brk, ↓e_cnt, ↓e_fixs, ↓e_par, ↓e_par3, ↓e_asg, ↓e_for, ↓e_putAt, ↓e_jput, ↓e_var, ↓e_k, ↓e_fz, ↓e_op, ↓e_opL, ↓e_opR, ↓e_n, ↓e_n1, ↓e_nil, ↓e_cons, ↓e_tup, ↓e_lst, ↓e_b, ↓e_not, ↓e_and, ↓e_or, ↓e_andV, ↓e_orV, ↓e_notV, ↓e_if, ↓e_isi, ↓e_neg, ↓e_chain, ↓e_call, ↓e_callK, ↓e_jint, ↓e_dict0, ↓e_dict1, ↓e_listRng, ↓e_append, ↓e_cut, ↓e_cutO, ↓e_onone, ↓e_osome, ↓e_iseq, ↓e_ienum, ↓e_irng, ↓e_gname, ↓e_lnil, ↓e_lcons, ↓e_lc, ↓e_yes, ↓f_addI, ↓f_addS, ↓f_addT, ↓f_addL, ↓f_i2, ↓f_mulI, ↓f_mulT, ↓f_mulL, ↓f_eq, ↓f_ne, ↓f_is, ↓f_isnot, ↓f_in, ↓f_notin, ↓f_ixL, ↓f_ixT, ↓f_lenL, ↓f_lenT, ↓f_lenS, ↓f_abs, ↓f_intI, ↓f_intB, ↓f_tupL, ↓f_tupT, ↓f_lstL, ↓f_lstT, ↓f_repr, ↓f_cutL, ↓f_cutT, ↓firm_d, ↓firm_ob, ↓zip_l, ↓zip_t, ↓e_izip, ↓zip_cons, ↓zip_nil1, ↓zip_nil2, ↓f_sorted, ↓e_inn, ↓e_inc, ↓e_l2n, ↓e_l2c, ↓e_lc2, ↓e_rev, ↓e_pop, ↓e_popAt, ↓e_extend, ↓e_lc3, ↓e_gon, ↓e_goc, ↓e_dbMid, ↓e_dbIn, ↓f_neu, ↓e_ifT, ↓e_newD, ↓e_retO, ↓e_fixK, ↓e_putO, ↓e_dkO, ↓e_dkF, ↓e_kdO, ↓e_kdF, ↓e_get2O, ↓e_get2F, ↓e_ListD, ↓e_ListF, ↓od_o, ↓dct_d, ↓key_int, ↓key_str, ↓g_item, ↓g_get, ↓g_in, ↓g_notin, ↓h_list, ↓fz_od, ↓ow_ex, ↓e_tr, ↓e_trO, ↓e_trK, ↓tru_b, ↓tru_n, ↓tru_i, ↓tru_l, ↓tru_t, ↓tru_s, ↓e_i63, ↓n63_d, ↓e_ss, ↓dgTup_tup, ↓dgCons_cons, ↓dgNil_nil, ite_t, ite_f, itK_not, List.cons_append, List.nil_append, List.append_nil, List.replicate, List.flatten_cons, List.flatten_nil, List.append_eq, List.length_cons, List.length_nil, Nat.zero_add, Nat.reduceAdd, true_and, and_true, eqOk_str, eqOk_int, eqOk_bool, str_eqv, int_eqv, tup_nil_eqv, lst_nil_eqv, rep_flat, isK_int, isK_bool, isK_tuple, isK_str, kInt, kBool, kTuple, kStr, GB.isNon, Bool.not_true, Bool.not_false, Bool.or_false, Bool.or_true, Bool.false_or, Bool.true_or, reduceCtorEq, ↓s_draw, ↓s_pick]
    refine ⟨by omega, fun r r0 r1 => ?_⟩
    have r1 := r1 (by omega)
    obtain ⟨r, rfl⟩ : ∃ r' : Nat, r = r' := ⟨r.toNat, by omega⟩
    have ar : atI us (r : Int) = some us[r] := at_n (List.getElem?_eq_getElem (by omega))
    simp only [↓at0, ↓set0, ↓at1, ↓set1, ↓at2, ↓set2, ↓at3, ↓set3, ↓at4, ↓set4, ↓at5, ↓set5, ↓at6, ↓set6, ↓at7, ↓set7, ↓at8, ↓set8, ↓at9, ↓set9, ↓at10, ↓set10, ↓at11, ↓set11, ↓at12, ↓set12, ↓at13, ↓set13, ↓at14, ↓set14, ↓at15, ↓set15, ↓fz_d, ↓fz_own, ↓fz_ob, ↓one_d, ↓int_d, ↓bool_d, ↓own_o, ↓ds_nil, ↓ds_cons, ↓seq_l, ↓seq_t, ↓ite_t, ↓ite_f, ↓e_next, ↓e_seq, ↓e_set, ↓e_drop, ↓e_ret, ↓e_ifs, ↓e_brk, ↓e_cnt, ↓e_fixs, ↓e_par, ↓e_par3, ↓e_asg, ↓e_for, ↓e_putAt, ↓e_jput, ↓e_var, ↓e_k, ↓e_fz, ↓e_op, ↓e_opL, ↓e_opR, ↓e_n, ↓e_n1, ↓e_nil, ↓e_cons, ↓e_tup, ↓e_lst, ↓e_b, ↓e_not, ↓e_and, ↓e_or, ↓e_andV, ↓e_orV, ↓e_notV, ↓e_if, ↓e_isi, ↓e_neg, ↓e_chain, ↓e_call, ↓e_callK, ↓e_jint, ↓e_dict0, ↓e_dict1, ↓e_listRng, ↓e_append, ↓e_cut, ↓e_cutO, ↓e_onone, ↓e_osome, ↓e_iseq, ↓e_ienum, ↓e_irng, ↓e_gname, ↓e_lnil, ↓e_lcons, ↓e_lc, ↓e_yes, ↓f_addI, ↓f_addS, ↓f_addT, ↓f_addL, ↓f_i2, ↓f_mulI, ↓f_mulT, ↓f_mulL, ↓f_eq, ↓f_ne, ↓f_is, ↓f_isnot, ↓f_in, ↓f_notin, ↓f_ixL, ↓f_ixT, ↓f_lenL, ↓f_lenT, ↓f_lenS, ↓f_abs, ↓f_intI, ↓f_intB, ↓f_tupL, ↓f_tupT, ↓f_lstL, ↓f_lstT, ↓f_repr, ↓f_cutL, ↓f_cutT, ↓firm_d, ↓firm_ob, ↓zip_l, ↓zip_t, ↓e_izip, ↓zip_cons, ↓zip_nil1, ↓zip_nil2, ↓f_sorted, ↓e_inn, ↓e_inc, ↓e_l2n, ↓e_l2c, ↓e_lc2, ↓e_rev, ↓e_pop, ↓e_popAt, ↓e_extend, ↓e_lc3, ↓e_gon, ↓e_goc, ↓e_dbMid, ↓e_dbIn, ↓f_neu, ↓e_ifT, ↓e_newD, ↓e_retO, ↓e_fixK, ↓e_putO, ↓e_dkO, ↓e_dkF, ↓e_kdO, ↓e_kdF, ↓e_get2O, ↓e_get2F, ↓e_ListD, ↓e_ListF, ↓od_o, ↓dct_d, ↓key_int, ↓key_str, ↓g_item, ↓g_get, ↓g_in, ↓g_notin, ↓h_list, ↓fz_od, ↓ow_ex, ↓e_tr, ↓e_trO, ↓e_trK, ↓tru_b, ↓tru_n, ↓tru_i, ↓tru_l, ↓tru_t, ↓tru_s, ↓e_i63, ↓n63_d, ↓e_ss, ↓dgTup_tup, ↓dgCons_cons, ↓dgNil_nil, ite_t, ite_f, itK_not, List.cons_append, List.nil_append, List.append_nil, List.replicate, List.flatten_cons, List.flatten_nil, List.append_eq, List.length_cons, List.length_nil, Nat.zero_add, Nat.reduceAdd, true_and, and_true, eqOk_str, eqOk_int, eqOk_bool, str_eqv, int_eqv, tup_nil_eqv, lst_nil_eqv, rep_flat, isK_int, isK_bool, isK_tuple, isK_str, kInt, kBool, kTuple, kStr, GB.isNon, Bool.not_true, Bool.not_false, Bool.or_false, Bool.or_true, Bool.false_or, Bool.true_or, reduceCtorEq, ↓ixn ar, ↓ixn a1]
    have g1 := ufld us[p + 1] (List.getElem_mem (by omega))
    have g2 := ufld us[r] (List.getElem_mem (by omega))
    refine ⟨by decide, by decide, by decide, by decide, List.cons_ne_nil _ _, by decide, fun x hx => ?_⟩
    obtain ⟨xs, rfl, x1, x2⟩ : ∃ xs : List PyData, x = .tuple xs ∧ xs.length ≤ 3 ∧ ∀ y ∈ xs, Fld m y := by
      simp only [List.mem_cons, List.not_mem_nil, or_false] at hx
      rcases hx with rfl | rfl | rfl
      · exact ⟨_, rfl, by simp, fun y hy => by rw [List.mem_singleton.mp hy]; exact g1⟩
      · refine ⟨_, rfl, by simp, fun y hy => ?_⟩
        simp only [List.mem_cons, List.not_mem_nil, or_false] at hy
        rcases hy with rfl | rfl
        · exact g2
        · exact g1
      · refine ⟨_, rfl, by simp, fun y hy => ?_⟩
        simp only [List.mem_cons, List.not_mem_nil, or_false] at hy
        rcases hy with rfl | rfl | rfl
        · exact .inl rfl
        · exact g1
        · exact g2
    refine ⟨c, ixN_n (by rw [List.length_map, f1]; exact hc), hK _ ⟨F.set c xs, _, _, _, _, by rw [List.map_set], fun d h => hd d (by simp [h]), by simp [f1], fun fs h => ?_⟩⟩
    rcases List.mem_or_eq_of_mem_set h with h | rfl
    · exact f2 fs h
    · exact ⟨x1, x2⟩
theorem ma_law : ∀ ss R, ss.length = 1 → F_law ss R → rd_law { nx := fun _ => R (.d .none), rt := R } (ss ++ List.replicate 5 .un) := by
  rintro _ R - ⟨ns, rfl, hn, q⟩
  unfold rd_law
  simp only [↓at0, ↓set0, ↓at1, ↓set1, ↓at2, ↓set2, ↓at3, ↓set3, ↓at4, ↓set4, ↓at5, ↓set5, ↓at6, ↓set6, ↓at7, ↓set7, ↓at8, ↓set8, ↓at9, ↓set9, ↓at10, ↓set10, ↓at11, ↓set11, ↓at12, ↓set12, ↓at13, ↓set13, ↓at14, ↓set14, ↓at15, ↓set15, ↓fz_d, ↓fz_own, ↓fz_ob, ↓one_d, ↓int_d, ↓bool_d, ↓own_o, ↓ds_nil, ↓ds_cons, ↓seq_l, ↓seq_t, ↓ite_t, ↓ite_f, ↓e_next, ↓e_seq, ↓e_set, ↓e_drop, ↓e_ret, ↓e_ifs, ↓e_brk, ↓e_cnt, ↓e_fixs, ↓e_par, ↓e_par3, ↓e_asg, ↓e_for, ↓e_putAt, ↓e_jput, ↓e_var, ↓e_k, ↓e_fz, ↓e_op, ↓e_opL, ↓e_opR, ↓e_n, ↓e_n1, ↓e_nil, ↓e_cons, ↓e_tup, ↓e_lst, ↓e_b, ↓e_not, ↓e_and, ↓e_or, ↓e_andV, ↓e_orV, ↓e_notV, ↓e_if, ↓e_isi, ↓e_neg, ↓e_chain, ↓e_call, ↓e_callK, ↓e_jint, ↓e_dict0, ↓e_dict1, ↓e_listRng, ↓e_append, ↓e_cut, ↓e_cutO, ↓e_onone, ↓e_osome, ↓e_iseq, ↓e_ienum, ↓e_irng, ↓e_gname, ↓e_lnil, ↓e_lcons, ↓e_lc, ↓e_yes, ↓f_addI, ↓f_addS, ↓f_addT, ↓f_addL, ↓f_i2, ↓f_mulI, ↓f_mulT, ↓f_mulL, ↓f_eq, ↓f_ne, ↓f_is, ↓f_isnot, ↓f_in, ↓f_notin, ↓f_ixL, ↓f_ixT, ↓f_lenL, ↓f_lenT, ↓f_lenS, ↓f_abs, ↓f_intI, ↓f_intB, ↓f_tupL, ↓f_tupT, ↓f_lstL, ↓f_lstT, ↓f_repr, ↓f_cutL, ↓f_cutT, ↓firm_d, ↓firm_ob, ↓zip_l, ↓zip_t, ↓e_izip, ↓zip_cons, ↓zip_nil1, ↓zip_nil2, ↓f_sorted, ↓e_inn, ↓e_inc, ↓e_l2n, ↓e_l2c, ↓e_lc2, ↓e_rev, ↓e_pop, ↓e_popAt, ↓e_extend, ↓e_lc3, ↓e_gon, ↓e_goc, ↓e_dbMid, ↓e_dbIn, ↓f_neu, ↓e_ifT, ↓e_newD, ↓e_retO, ↓e_fixK, ↓e_putO, ↓e_dkO, ↓e_dkF, ↓e_kdO, ↓e_kdF, ↓e_get2O, ↓e_get2F, ↓e_ListD, ↓e_ListF, ↓od_o, ↓dct_d, ↓key_int, ↓key_str, ↓g_item, ↓g_get, ↓g_in, ↓g_notin, ↓h_list, ↓fz_od, ↓ow_ex, ↓e_tr, ↓e_trO, ↓e_trK, ↓tru_b, ↓tru_n, ↓tru_i, ↓tru_l, ↓tru_t, ↓tru_s, ↓e_i63, ↓n63_d, ↓e_ss, ↓dgTup_tup, ↓dgCons_cons, ↓dgNil_nil, ite_t, ite_f, itK_not, List.cons_append, List.nil_append, List.append_nil, List.replicate, List.flatten_cons, List.flatten_nil, List.append_eq, List.length_cons, List.length_nil, Nat.zero_add, Nat.reduceAdd, true_and, and_true, eqOk_str, eqOk_int, eqOk_bool, str_eqv, int_eqv, tup_nil_eqv, lst_nil_eqv, rep_flat, isK_int, isK_bool, isK_tuple, isK_str, kInt, kBool, kTuple, kStr, GB.isNon, Bool.not_true, Bool.not_false, Bool.or_false, Bool.or_true, Bool.false_or, Bool.true_or, reduceCtorEq, ]
  refine ⟨ns, rfl, hn, ?_⟩
  simp only [↓at0, ↓set0, ↓at1, ↓set1, ↓at2, ↓set2, ↓at3, ↓set3, ↓at4, ↓set4, ↓at5, ↓set5, ↓at6, ↓set6, ↓at7, ↓set7, ↓at8, ↓set8, ↓at9, ↓set9, ↓at10, ↓set10, ↓at11, ↓set11, ↓at12, ↓set12, ↓at13, ↓set13, ↓at14, ↓set14, ↓at15, ↓set15, ↓fz_d, ↓fz_own, ↓fz_ob, ↓one_d, ↓int_d, ↓bool_d, ↓own_o, ↓ds_nil, ↓ds_cons, ↓seq_l, ↓seq_t, ↓ite_t, ↓ite_f, ↓e_next, ↓e_seq, ↓e_set, ↓e_drop, ↓e_ret, ↓e_ifs, ↓e_brk, ↓e_cnt, ↓e_fixs, ↓e_par, ↓e_par3, ↓e_asg, ↓e_for, ↓e_putAt, ↓e_jput, ↓e_var, ↓e_k, ↓e_fz, ↓e_op, ↓e_opL, ↓e_opR, ↓e_n, ↓e_n1, ↓e_nil, ↓e_cons, ↓e_tup, ↓e_lst, ↓e_b, ↓e_not, ↓e_and, ↓e_or, ↓e_andV, ↓e_orV, ↓e_notV, ↓e_if, ↓e_isi, ↓e_neg, ↓e_chain, ↓e_call, ↓e_callK, ↓e_jint, ↓e_dict0, ↓e_dict1, ↓e_listRng, ↓e_append, ↓e_cut, ↓e_cutO, ↓e_onone, ↓e_osome, ↓e_iseq, ↓e_ienum, ↓e_irng, ↓e_gname, ↓e_lnil, ↓e_lcons, ↓e_lc, ↓e_yes, ↓f_addI, ↓f_addS, ↓f_addT, ↓f_addL, ↓f_i2, ↓f_mulI, ↓f_mulT, ↓f_mulL, ↓f_eq, ↓f_ne, ↓f_is, ↓f_isnot, ↓f_in, ↓f_notin, ↓f_ixL, ↓f_ixT, ↓f_lenL, ↓f_lenT, ↓f_lenS, ↓f_abs, ↓f_intI, ↓f_intB, ↓f_tupL, ↓f_tupT, ↓f_lstL, ↓f_lstT, ↓f_repr, ↓f_cutL, ↓f_cutT, ↓firm_d, ↓firm_ob, ↓zip_l, ↓zip_t, ↓e_izip, ↓zip_cons, ↓zip_nil1, ↓zip_nil2, ↓f_sorted, ↓e_inn, ↓e_inc, ↓e_l2n, ↓e_l2c, ↓e_lc2, ↓e_rev, ↓e_pop, ↓e_popAt, ↓e_extend, ↓e_lc3, ↓e_gon, ↓e_goc, ↓e_dbMid, ↓e_dbIn, ↓f_neu, ↓e_ifT, ↓e_newD, ↓e_retO, ↓e_fixK, ↓e_putO, ↓e_dkO, ↓e_dkF, ↓e_kdO, ↓e_kdF, ↓e_get2O, ↓e_get2F, ↓e_ListD, ↓e_ListF, ↓od_o, ↓dct_d, ↓key_int, ↓key_str, ↓g_item, ↓g_get, ↓g_in, ↓g_notin, ↓h_list, ↓fz_od, ↓ow_ex, ↓e_tr, ↓e_trO, ↓e_trK, ↓tru_b, ↓tru_n, ↓tru_i, ↓tru_l, ↓tru_t, ↓tru_s, ↓e_i63, ↓n63_d, ↓e_ss, ↓dgTup_tup, ↓dgCons_cons, ↓dgNil_nil, ite_t, ite_f, itK_not, List.cons_append, List.nil_append, List.append_nil, List.replicate, List.flatten_cons, List.flatten_nil, List.append_eq, List.length_cons, List.length_nil, Nat.zero_add, Nat.reduceAdd, true_and, and_true, eqOk_str, eqOk_int, eqOk_bool, str_eqv, int_eqv, tup_nil_eqv, lst_nil_eqv, rep_flat, isK_int, isK_bool, isK_tuple, isK_str, kInt, kBool, kTuple, kStr, GB.isNon, Bool.not_true, Bool.not_false, Bool.or_false, Bool.or_true, Bool.false_or, Bool.true_or, reduceCtorEq, ]
  refine ⟨by decide, by decide, loopR (fun k n ρ => ∃ s2 s3, ρ = [S.ob (.scr ns), S.ob .jar, s2, s3, .un, .un]) ?_ ?_ _ 0 _ ⟨_, _, rfl⟩⟩
  · rintro k _ ⟨s2, s3, rfl⟩
    simp only [↓at0, ↓set0, ↓at1, ↓set1, ↓at2, ↓set2, ↓at3, ↓set3, ↓at4, ↓set4, ↓at5, ↓set5, ↓at6, ↓set6, ↓at7, ↓set7, ↓at8, ↓set8, ↓at9, ↓set9, ↓at10, ↓set10, ↓at11, ↓set11, ↓at12, ↓set12, ↓at13, ↓set13, ↓at14, ↓set14, ↓at15, ↓set15, ↓fz_d, ↓fz_own, ↓fz_ob, ↓one_d, ↓int_d, ↓bool_d, ↓own_o, ↓ds_nil, ↓ds_cons, ↓seq_l, ↓seq_t, ↓ite_t, ↓ite_f, ↓e_next, ↓e_seq, ↓e_set, ↓e_drop, ↓e_ret, ↓e_ifs, ↓e_brk, ↓e_cnt, ↓e_fixs, ↓e_par, ↓e_par3, ↓e_asg, ↓e_for, ↓e_putAt, ↓e_jput, ↓e_var, ↓e_k, ↓e_fz, ↓e_op, ↓e_opL, ↓e_opR, ↓e_n, ↓e_n1, ↓e_nil, ↓e_cons, ↓e_tup, ↓e_lst, ↓e_b, ↓e_not, ↓e_and, ↓e_or, ↓e_andV, ↓e_orV, ↓e_notV, ↓e_if, ↓e_isi, ↓e_neg, ↓e_chain, ↓e_call, ↓e_callK, ↓e_jint, ↓e_dict0, ↓e_dict1, ↓e_listRng, ↓e_append, ↓e_cut, ↓e_cutO, ↓e_onone, ↓e_osome, ↓e_iseq, ↓e_ienum, ↓e_irng, ↓e_gname, ↓e_lnil, ↓e_lcons, ↓e_lc, ↓e_yes, ↓f_addI, ↓f_addS, ↓f_addT, ↓f_addL, ↓f_i2, ↓f_mulI, ↓f_mulT, ↓f_mulL, ↓f_eq, ↓f_ne, ↓f_is, ↓f_isnot, ↓f_in, ↓f_notin, ↓f_ixL, ↓f_ixT, ↓f_lenL, ↓f_lenT, ↓f_lenS, ↓f_abs, ↓f_intI, ↓f_intB, ↓f_tupL, ↓f_tupT, ↓f_lstL, ↓f_lstT, ↓f_repr, ↓f_cutL, ↓f_cutT, ↓firm_d, ↓firm_ob, ↓zip_l, ↓zip_t, ↓e_izip, ↓zip_cons, ↓zip_nil1, ↓zip_nil2, ↓f_sorted, ↓e_inn, ↓e_inc, ↓e_l2n, ↓e_l2c, ↓e_lc2, ↓e_rev, ↓e_pop, ↓e_popAt, ↓e_extend, ↓e_lc3, ↓e_gon, ↓e_goc, ↓e_dbMid, ↓e_dbIn, ↓f_neu, ↓e_ifT, ↓e_newD, ↓e_retO, ↓e_fixK, ↓e_putO, ↓e_dkO, ↓e_dkF, ↓e_kdO, ↓e_kdF, ↓e_get2O, ↓e_get2F, ↓e_ListD, ↓e_ListF, ↓od_o, ↓dct_d, ↓key_int, ↓key_str, ↓g_item, ↓g_get, ↓g_in, ↓g_notin, ↓h_list, ↓fz_od, ↓ow_ex, ↓e_tr, ↓e_trO, ↓e_trK, ↓tru_b, ↓tru_n, ↓tru_i, ↓tru_l, ↓tru_t, ↓tru_s, ↓e_i63, ↓n63_d, ↓e_ss, ↓dgTup_tup, ↓dgCons_cons, ↓dgNil_nil, ite_t, ite_f, itK_not, List.cons_append, List.nil_append, List.append_nil, List.replicate, List.flatten_cons, List.flatten_nil, List.append_eq, List.length_cons, List.length_nil, Nat.zero_add, Nat.reduceAdd, true_and, and_true, eqOk_str, eqOk_int, eqOk_bool, str_eqv, int_eqv, tup_nil_eqv, lst_nil_eqv, rep_flat, isK_int, isK_bool, isK_tuple, isK_str, kInt, kBool, kTuple, kStr, GB.isNon, Bool.not_true, Bool.not_false, Bool.or_false, Bool.or_true, Bool.false_or, Bool.true_or, reduceCtorEq, ]
    refine s_row (m := 40) (by decide) (by decide) fun cs rm lk us h1 h2 h3 u1 u2 => ?_
    have a0 : atI us 0 = some us[0] := at_n (n := 0) (List.getElem?_eq_getElem (by omega))
    have a1 : atI us 1 = some us[1] := at_n (n := 1) (List.getElem?_eq_getElem (by omega))
    have a2 : atI us 20 = some us[20] := at_n (n := 20) (List.getElem?_eq_getElem (by omega))
    have a3 : atI us (-1) = some us[39] := by
      unfold atI ixN
      rw [if_neg (by omega), if_pos (by omega)]
      show us[(-1 + (us.length : Int)).toNat]? = _
      rw [show (-1 + (us.length : Int)).toNat = 39 by omega]
      exact List.getElem?_eq_getElem (by omega)
    simp only [↓at0, ↓set0, ↓at1, ↓set1, ↓at2, ↓set2, ↓at3, ↓set3, ↓at4, ↓set4, ↓at5, ↓set5, ↓at6, ↓set6, ↓at7, ↓set7, ↓at8, ↓set8, ↓at9, ↓set9, ↓at10, ↓set10, ↓at11, ↓set11, ↓at12, ↓set12, ↓at13, ↓set13, ↓at14, ↓set14, ↓at15, ↓set15, ↓fz_d, ↓fz_own, ↓fz_ob, ↓one_d, ↓int_d, ↓bool_d, ↓own_o, ↓ds_nil, ↓ds_cons, ↓seq_l, ↓seq_t, ↓ite_t, ↓ite_f, ↓e_next, ↓e_seq, ↓e_set, ↓e_drop, ↓e_ret, ↓e_ifs, ↓e_brk, ↓e_cnt, ↓e_fixs, ↓e_par, ↓e_par3, ↓e_asg, ↓e_for, ↓e_putAt, ↓e_jput, ↓e_var, ↓e_k, ↓e_fz, ↓e_op, ↓e_opL, ↓e_opR, ↓e_n, ↓e_n1, ↓e_nil, ↓e_cons, ↓e_tup, ↓e_lst, ↓e_b, ↓e_not, ↓e_and, ↓e_or, ↓e_andV, ↓e_orV, ↓e_notV, ↓e_if, ↓e_isi, ↓e_neg, ↓e_chain, ↓e_call, ↓e_callK, ↓e_jint, ↓e_dict0, ↓e_dict1, ↓e_listRng, ↓e_append, ↓e_cut, ↓e_cutO, ↓e_onone, ↓e_osome, ↓e_iseq, ↓e_ienum, ↓e_irng, ↓e_gname, ↓e_lnil, ↓e_lcons, ↓e_lc, ↓e_yes, ↓f_addI, ↓f_addS, ↓f_addT, ↓f_addL, ↓f_i2, ↓f_mulI, ↓f_mulT, ↓f_mulL, ↓f_eq, ↓f_ne, ↓f_is, ↓f_isnot, ↓f_in, ↓f_notin, ↓f_ixL, ↓f_ixT, ↓f_lenL, ↓f_lenT, ↓f_lenS, ↓f_abs, ↓f_intI, ↓f_intB, ↓f_tupL, ↓f_tupT, ↓f_lstL, ↓f_lstT, ↓f_repr, ↓f_cutL, ↓f_cutT, ↓firm_d, ↓firm_ob, ↓zip_l, ↓zip_t, ↓e_izip, ↓zip_cons, ↓zip_nil1, ↓zip_nil2, ↓f_sorted, ↓e_inn, ↓e_inc, ↓e_l2n, ↓e_l2c, ↓e_lc2, ↓e_rev, ↓e_pop, ↓e_popAt, ↓e_extend, ↓e_lc3, ↓e_gon, ↓e_goc, ↓e_dbMid, ↓e_dbIn, ↓f_neu, ↓e_ifT, ↓e_newD, ↓e_retO, ↓e_fixK, ↓e_putO, ↓e_dkO, ↓e_dkF, ↓e_kdO, ↓e_kdF, ↓e_get2O, ↓e_get2F, ↓e_ListD, ↓e_ListF, ↓od_o, ↓dct_d, ↓key_int, ↓key_str, ↓g_item, ↓g_get, ↓g_in, ↓g_notin, ↓h_list, ↓fz_od, ↓ow_ex, ↓e_tr, ↓e_trO, ↓e_trK, ↓tru_b, ↓tru_n, ↓tru_i, ↓tru_l, ↓tru_t, ↓tru_s, ↓e_i63, ↓n63_d, ↓e_ss, ↓dgTup_tup, ↓dgCons_cons, ↓dgNil_nil, ite_t, ite_f, itK_not, List.cons_append, List.nil_append, List.append_nil, List.replicate, List.flatten_cons, List.flatten_nil, List.append_eq, List.length_cons, List.length_nil, Nat.zero_add, Nat.reduceAdd, true_and, and_true, eqOk_str, eqOk_int, eqOk_bool, str_eqv, int_eqv, tup_nil_eqv, lst_nil_eqv, rep_flat, isK_int, isK_bool, isK_tuple, isK_str, kInt, kBool, kTuple, kStr, GB.isNon, Bool.not_true, Bool.not_false, Bool.or_false, Bool.or_true, Bool.false_or, Bool.true_or, reduceCtorEq, ↓ixn a0, ↓ixn a1, ↓ixn a2, ↓ixn a3]
    have u3 : ∀ (i : Nat) (hi : i < us.length), ∃ j : Nat, us[i] = .int j ∧ j < cs.length := fun i hi => by rw [h1]; exact u2 _ (List.getElem_mem hi)
    refine ⟨by decide, s_aretold h2 (by rw [h1]; exact h3) (fun x hx => ?_) ?_⟩
    · simp only [List.mem_cons, List.not_mem_nil, or_false] at hx
      rcases hx with rfl | rfl | rfl | rfl <;> exact u3 _ _
    · simp only [↓at0, ↓set0, ↓at1, ↓set1, ↓at2, ↓set2, ↓at3, ↓set3, ↓at4, ↓set4, ↓at5, ↓set5, ↓at6, ↓set6, ↓at7, ↓set7, ↓at8, ↓set8, ↓at9, ↓set9, ↓at10, ↓set10, ↓at11, ↓set11, ↓at12, ↓set12, ↓at13, ↓set13, ↓at14, ↓set14, ↓at15, ↓set15, ↓fz_d, ↓fz_own, ↓fz_ob, ↓one_d, ↓int_d, ↓bool_d, ↓own_o, ↓ds_nil, ↓ds_cons, ↓seq_l, ↓seq_t, ↓ite_t, ↓ite_f, ↓e_next, ↓e_seq, ↓e_set, ↓e_drop, ↓e_ret, ↓e_ifs, ↓e_brk, ↓e_cnt, ↓e_fixs, ↓e_par, ↓e_par3, ↓e_asg, ↓e_for, ↓e_putAt, ↓e_jput, ↓e_var, ↓e_k, ↓e_fz, ↓e_op, ↓e_opL, ↓e_opR, ↓e_n, ↓e_n1, ↓e_nil, ↓e_cons, ↓e_tup, ↓e_lst, ↓e_b, ↓e_not, ↓e_and, ↓e_or, ↓e_andV, ↓e_orV, ↓e_notV, ↓e_if, ↓e_isi, ↓e_neg, ↓e_chain, ↓e_call, ↓e_callK, ↓e_jint, ↓e_dict0, ↓e_dict1, ↓e_listRng, ↓e_append, ↓e_cut, ↓e_cutO, ↓e_onone, ↓e_osome, ↓e_iseq, ↓e_ienum, ↓e_irng, ↓e_gname, ↓e_lnil, ↓e_lcons, ↓e_lc, ↓e_yes, ↓f_addI, ↓f_addS, ↓f_addT, ↓f_addL, ↓f_i2, ↓f_mulI, ↓f_mulT, ↓f_mulL, ↓f_eq, ↓f_ne, ↓f_is, ↓f_isnot, ↓f_in, ↓f_notin, ↓f_ixL, ↓f_ixT, ↓f_lenL, ↓f_lenT, ↓f_lenS, ↓f_abs, ↓f_intI, ↓f_intB, ↓f_tupL, ↓f_tupT, ↓f_lstL, ↓f_lstT, ↓f_repr, ↓f_cutL, ↓f_cutT, ↓firm_d, ↓firm_ob, ↓zip_l, ↓zip_t, ↓e_izip, ↓zip_cons, ↓zip_nil1, ↓zip_nil2, ↓f_sorted, ↓e_inn, ↓e_inc, ↓e_l2n, ↓e_l2c, ↓e_lc2, ↓e_rev, ↓e_pop, ↓e_popAt, ↓e_extend, ↓e_lc3, ↓e_gon, ↓e_goc, ↓e_dbMid, ↓e_dbIn, ↓f_neu, ↓e_ifT, ↓e_newD, ↓e_retO, ↓e_fixK, ↓e_putO, ↓e_dkO, ↓e_dkF, ↓e_kdO, ↓e_kdF, ↓e_get2O, ↓e_get2F, ↓e_ListD, ↓e_ListF, ↓od_o, ↓dct_d, ↓key_int, ↓key_str, ↓g_item, ↓g_get, ↓g_in, ↓g_notin, ↓h_list, ↓fz_od, ↓ow_ex, ↓e_tr, ↓e_trO, ↓e_trK, ↓tru_b, ↓tru_n, ↓tru_i, ↓tru_l, ↓tru_t, ↓tru_s, ↓e_i63, ↓n63_d, ↓e_ss, ↓dgTup_tup, ↓dgCons_cons, ↓dgNil_nil, ite_t, ite_f, itK_not, List.cons_append, List.nil_append, List.append_nil, List.replicate, List.flatten_cons, List.flatten_nil, List.append_eq, List.length_cons, List.length_nil, Nat.zero_add, Nat.reduceAdd, true_and, and_true, eqOk_str, eqOk_int, eqOk_bool, str_eqv, int_eqv, tup_nil_eqv, lst_nil_eqv, rep_flat, isK_int, isK_bool, isK_tuple, isK_str, kInt, kBool, kTuple, kStr, GB.isNon, Bool.not_true, Bool.not_false, Bool.or_false, Bool.or_true, Bool.false_or, Bool.true_or, reduceCtorEq, ]
      refine s_stand (n := 30) (l := 4) (m := 3) (by decide) (by decide) (by decide) fun cs rm lk h1 h2 h3 => ?_
      simp only [↓at0, ↓set0, ↓at1, ↓set1, ↓at2, ↓set2, ↓at3, ↓set3, ↓at4, ↓set4, ↓at5, ↓set5, ↓at6, ↓set6, ↓at7, ↓set7, ↓at8, ↓set8, ↓at9, ↓set9, ↓at10, ↓set10, ↓at11, ↓set11, ↓at12, ↓set12, ↓at13, ↓set13, ↓at14, ↓set14, ↓at15, ↓set15, ↓fz_d, ↓fz_own, ↓fz_ob, ↓one_d, ↓int_d, ↓bool_d, ↓own_o, ↓ds_nil, ↓ds_cons, ↓seq_l, ↓seq_t, ↓ite_t, ↓ite_f, ↓e_next, ↓e_seq, ↓e_set, ↓e_drop, ↓e_ret, ↓e_ifs, ↓e_brk, ↓e_cnt, ↓e_fixs, ↓e_par, ↓e_par3, ↓e_asg, ↓e_for, ↓e_putAt, ↓e_jput, ↓e_var, ↓e_k, ↓e_fz, ↓e_op, ↓e_opL, ↓e_opR, ↓e_n, ↓e_n1, ↓e_nil, ↓e_cons, ↓e_tup, ↓e_lst, ↓e_b, ↓e_not, ↓e_and, ↓e_or, ↓e_andV, ↓e_orV, ↓e_notV, ↓e_if, ↓e_isi, ↓e_neg, ↓e_chain, ↓e_call, ↓e_callK, ↓e_jint, ↓e_dict0, ↓e_dict1, ↓e_listRng, ↓e_append, ↓e_cut, ↓e_cutO, ↓e_onone, ↓e_osome, ↓e_iseq, ↓e_ienum, ↓e_irng, ↓e_gname, ↓e_lnil, ↓e_lcons, ↓e_lc, ↓e_yes, ↓f_addI, ↓f_addS, ↓f_addT, ↓f_addL, ↓f_i2, ↓f_mulI, ↓f_mulT, ↓f_mulL, ↓f_eq, ↓f_ne, ↓f_is, ↓f_isnot, ↓f_in, ↓f_notin, ↓f_ixL, ↓f_ixT, ↓f_lenL, ↓f_lenT, ↓f_lenS, ↓f_abs, ↓f_intI, ↓f_intB, ↓f_tupL, ↓f_tupT, ↓f_lstL, ↓f_lstT, ↓f_repr, ↓f_cutL, ↓f_cutT, ↓firm_d, ↓firm_ob, ↓zip_l, ↓zip_t, ↓e_izip, ↓zip_cons, ↓zip_nil1, ↓zip_nil2, ↓f_sorted, ↓e_inn, ↓e_inc, ↓e_l2n, ↓e_l2c, ↓e_lc2, ↓e_rev, ↓e_pop, ↓e_popAt, ↓e_extend, ↓e_lc3, ↓e_gon, ↓e_goc, ↓e_dbMid, ↓e_dbIn, ↓f_neu, ↓e_ifT, ↓e_newD, ↓e_retO, ↓e_fixK, ↓e_putO, ↓e_dkO, ↓e_dkF, ↓e_kdO, ↓e_kdF, ↓e_get2O, ↓e_get2F, ↓e_ListD, ↓e_ListF, ↓od_o, ↓dct_d, ↓key_int, ↓key_str, ↓g_item, ↓g_get, ↓g_in, ↓g_notin, ↓h_list, ↓fz_od, ↓ow_ex, ↓e_tr, ↓e_trO, ↓e_trK, ↓tru_b, ↓tru_n, ↓tru_i, ↓tru_l, ↓tru_t, ↓tru_s, ↓e_i63, ↓n63_d, ↓e_ss, ↓dgTup_tup, ↓dgCons_cons, ↓dgNil_nil, ite_t, ite_f, itK_not, List.cons_append, List.nil_append, List.append_nil, List.replicate, List.flatten_cons, List.flatten_nil, List.append_eq, List.length_cons, List.length_nil, Nat.zero_add, Nat.reduceAdd, true_and, and_true, eqOk_str, eqOk_int, eqOk_bool, str_eqv, int_eqv, tup_nil_eqv, lst_nil_eqv, rep_flat, isK_int, isK_bool, isK_tuple, isK_str, kInt, kBool, kTuple, kStr, GB.isNon, Bool.not_true, Bool.not_false, Bool.or_false, Bool.or_true, Bool.false_or, Bool.true_or, reduceCtorEq, ]
      refine ⟨by decide, by decide, s_mixed.mpr ⟨by rw [irow_len]; decide, fun x hx => ?_, fun us pm => ?_⟩⟩
      · obtain ⟨i, rfl, _⟩ := irow_in hx
        exact ⟨rfl, by simp [PyData.depth]⟩
      simp only [↓at0, ↓set0, ↓at1, ↓set1, ↓at2, ↓set2, ↓at3, ↓set3, ↓at4, ↓set4, ↓at5, ↓set5, ↓at6, ↓set6, ↓at7, ↓set7, ↓at8, ↓set8, ↓at9, ↓set9, ↓at10, ↓set10, ↓at11, ↓set11, ↓at12, ↓set12, ↓at13, ↓set13, ↓at14, ↓set14, ↓at15, ↓set15, ↓fz_d, ↓fz_own, ↓fz_ob, ↓one_d, ↓int_d, ↓bool_d, ↓own_o, ↓ds_nil, ↓ds_cons, ↓seq_l, ↓seq_t, ↓ite_t, ↓ite_f, ↓e_next, ↓e_seq, ↓e_set, ↓e_drop, ↓e_ret, ↓e_ifs, ↓e_brk, ↓e_cnt, ↓e_fixs, ↓e_par, ↓e_par3, ↓e_asg, ↓e_for, ↓e_putAt, ↓e_jput, ↓e_var, ↓e_k, ↓e_fz, ↓e_op, ↓e_opL, ↓e_opR, ↓e_n, ↓e_n1, ↓e_nil, ↓e_cons, ↓e_tup, ↓e_lst, ↓e_b, ↓e_not, ↓e_and, ↓e_or, ↓e_andV, ↓e_orV, ↓e_notV, ↓e_if, ↓e_isi, ↓e_neg, ↓e_chain, ↓e_call, ↓e_callK, ↓e_jint, ↓e_dict0, ↓e_dict1, ↓e_listRng, ↓e_append, ↓e_cut, ↓e_cutO, ↓e_onone, ↓e_osome, ↓e_iseq, ↓e_ienum, ↓e_irng, ↓e_gname, ↓e_lnil, ↓e_lcons, ↓e_lc, ↓e_yes, ↓f_addI, ↓f_addS, ↓f_addT, ↓f_addL, ↓f_i2, ↓f_mulI, ↓f_mulT, ↓f_mulL, ↓f_eq, ↓f_ne, ↓f_is, ↓f_isnot, ↓f_in, ↓f_notin, ↓f_ixL, ↓f_ixT, ↓f_lenL, ↓f_lenT, ↓f_lenS, ↓f_abs, ↓f_intI, ↓f_intB, ↓f_tupL, ↓f_tupT, ↓f_lstL, ↓f_lstT, ↓f_repr, ↓f_cutL, ↓f_cutT, ↓firm_d, ↓firm_ob, ↓zip_l, ↓zip_t, ↓e_izip, ↓zip_cons, ↓zip_nil1, ↓zip_nil2, ↓f_sorted, ↓e_inn, ↓e_inc, ↓e_l2n, ↓e_l2c, ↓e_lc2, ↓e_rev, ↓e_pop, ↓e_popAt, ↓e_extend, ↓e_lc3, ↓e_gon, ↓e_goc, ↓e_dbMid, ↓e_dbIn, ↓f_neu, ↓e_ifT, ↓e_newD, ↓e_retO, ↓e_fixK, ↓e_putO, ↓e_dkO, ↓e_dkF, ↓e_kdO, ↓e_kdF, ↓e_get2O, ↓e_get2F, ↓e_ListD, ↓e_ListF, ↓od_o, ↓dct_d, ↓key_int, ↓key_str, ↓g_item, ↓g_get, ↓g_in, ↓g_notin, ↓h_list, ↓fz_od, ↓ow_ex, ↓e_tr, ↓e_trO, ↓e_trK, ↓tru_b, ↓tru_n, ↓tru_i, ↓tru_l, ↓tru_t, ↓tru_s, ↓e_i63, ↓n63_d, ↓e_ss, ↓dgTup_tup, ↓dgCons_cons, ↓dgNil_nil, ite_t, ite_f, itK_not, List.cons_append, List.nil_append, List.append_nil, List.replicate, List.flatten_cons, List.flatten_nil, List.append_eq, List.length_cons, List.length_nil, Nat.zero_add, Nat.reduceAdd, true_and, and_true, eqOk_str, eqOk_int, eqOk_bool, str_eqv, int_eqv, tup_nil_eqv, lst_nil_eqv, rep_flat, isK_int, isK_bool, isK_tuple, isK_str, kInt, kBool, kTuple, kStr, GB.isNon, Bool.not_true, Bool.not_false, Bool.or_false, Bool.or_true, Bool.false_or, Bool.true_or, reduceCtorEq, ]
      refine s_aretold h2 (by rw [h1]; exact h3) (fun x hx => ?_) q
      obtain ⟨i, e, h⟩ := irow_in (pm.mem_iff.mp (List.mem_of_mem_drop (List.mem_of_mem_take hx)))
      exact ⟨i, e, by rw [h1]; exact h⟩
  · rintro k n _ K hK ⟨s2, s3, rfl⟩
    simp only [↓at0, ↓set0, ↓at1, ↓set1, ↓at2, ↓set2, ↓at3, ↓set3, ↓at4, ↓set4, ↓at5, ↓set5, ↓at6, ↓set6, ↓at7, ↓set7, ↓at8, ↓set8, ↓at9, ↓set9, ↓at10, ↓set10, ↓at11, ↓set11, ↓at12, ↓set12, ↓at13, ↓set13, ↓at14, ↓set14, ↓at15, ↓set15, ↓fz_d, ↓fz_own, ↓fz_ob, ↓one_d, ↓int_d, ↓bool_d, ↓own_o, ↓ds_nil, ↓ds_cons, ↓seq_l, ↓seq_t, ↓ite_t, ↓ite_f, ↓e_next, ↓e_seq, ↓e_set, ↓e_drop, ↓e_ret, ↓e_ifs, ↓e_brk, ↓e_cnt, ↓e_fixs, ↓e_par, ↓e_par3, ↓e_asg, ↓e_for, ↓e_putAt, ↓e_jput, ↓e_var, ↓e_k, ↓e_fz, ↓e_op, ↓e_opL, ↓e_opR, ↓e_n, ↓e_n1, ↓e_nil, ↓e_cons, ↓e_tup, ↓e_lst, ↓e_b, ↓e_not, ↓e_and, ↓e_or, ↓e_andV, ↓e_orV, ↓e_notV, ↓e_if, ↓e_isi, ↓e_neg, ↓e_chain, ↓e_call, ↓e_callK, ↓e_jint, ↓e_dict0, ↓e_dict1, ↓e_listRng, ↓e_append, ↓e_cut, ↓e_cutO, ↓e_onone, ↓e_osome, ↓e_iseq, ↓e_ienum, ↓e_irng, ↓e_gname, ↓e_lnil, ↓e_lcons, ↓e_lc, ↓e_yes, ↓f_addI, ↓f_addS, ↓f_addT, ↓f_addL, ↓f_i2, ↓f_mulI, ↓f_mulT, ↓f_mulL, ↓f_eq, ↓f_ne, ↓f_is, ↓f_isnot, ↓f_in, ↓f_notin, ↓f_ixL, ↓f_ixT, ↓f_lenL, ↓f_lenT, ↓f_lenS, ↓f_abs, ↓f_intI, ↓f_intB, ↓f_tupL, ↓f_tupT, ↓f_lstL, ↓f_lstT, ↓f_repr, ↓f_cutL, ↓f_cutT, ↓firm_d, ↓firm_ob, ↓zip_l, ↓zip_t, ↓e_izip, ↓zip_cons, ↓zip_nil1, ↓zip_nil2, ↓f_sorted, ↓e_inn, ↓e_inc, ↓e_l2n, ↓e_l2c, ↓e_lc2, ↓e_rev, ↓e_pop, ↓e_popAt, ↓e_extend, ↓e_lc3, ↓e_gon, ↓e_goc, ↓e_dbMid, ↓e_dbIn, ↓f_neu, ↓e_ifT, ↓e_newD, ↓e_retO, ↓e_fixK, ↓e_putO, ↓e_dkO, ↓e_dkF, ↓e_kdO, ↓e_kdF, ↓e_get2O, ↓e_get2F, ↓e_ListD, ↓e_ListF, ↓od_o, ↓dct_d, ↓key_int, ↓key_str, ↓g_item, ↓g_get, ↓g_in, ↓g_notin, ↓h_list, ↓fz_od, ↓ow_ex, ↓e_tr, ↓e_trO, ↓e_trK, ↓tru_b, ↓tru_n, ↓tru_i, ↓tru_l, ↓tru_t, ↓tru_s, ↓e_i63, ↓n63_d, ↓e_ss, ↓dgTup_tup, ↓dgCons_cons, ↓dgNil_nil, ite_t, ite_f, itK_not, List.cons_append, List.nil_append, List.append_nil, List.replicate, List.flatten_cons, List.flatten_nil, List.append_eq, List.length_cons, List.length_nil, Nat.zero_add, Nat.reduceAdd, true_and, and_true, eqOk_str, eqOk_int, eqOk_bool, str_eqv, int_eqv, tup_nil_eqv, lst_nil_eqv, rep_flat, isK_int, isK_bool, isK_tuple, isK_str, kInt, kBool, kTuple, kStr, GB.isNon, Bool.not_true, Bool.not_false, Bool.or_false, Bool.or_true, Bool.false_or, Bool.true_or, reduceCtorEq, ↓s_pick, ↓s_draw]
    refine ⟨by decide, List.cons_ne_nil _ _, by decide, fun x hx => ⟨by decide, fun r r0 r1 => ?_⟩⟩
    obtain ⟨p, rfl, hp⟩ : ∃ p : Nat, x = .int p ∧ p ≤ 8 := by
      simp only [List.mem_cons, List.not_mem_nil, or_false] at hx
      rcases hx with rfl | rfl | rfl | rfl | rfl | rfl
      · exact ⟨0, rfl, by decide⟩
      · exact ⟨1, rfl, by decide⟩
      · exact ⟨2, rfl, by decide⟩
      · exact ⟨3, rfl, by decide⟩
      · exact ⟨5, rfl, by decide⟩
      · exact ⟨8, rfl, by decide⟩
    have r1 := r1 (by decide)
    obtain ⟨r, rfl⟩ : ∃ r' : Nat, r = r' := ⟨r.toNat, by omega⟩
    refine s_stand (m := 4) (by omega) (by decide) (by decide) fun cs rm lk h1 h2 h3 => ?_
    simp only [↓at0, ↓set0, ↓at1, ↓set1, ↓at2, ↓set2, ↓at3, ↓set3, ↓at4, ↓set4, ↓at5, ↓set5, ↓at6, ↓set6, ↓at7, ↓set7, ↓at8, ↓set8, ↓at9, ↓set9, ↓at10, ↓set10, ↓at11, ↓set11, ↓at12, ↓set12, ↓at13, ↓set13, ↓at14, ↓set14, ↓at15, ↓set15, ↓fz_d, ↓fz_own, ↓fz_ob, ↓one_d, ↓int_d, ↓bool_d, ↓own_o, ↓ds_nil, ↓ds_cons, ↓seq_l, ↓seq_t, ↓ite_t, ↓ite_f, ↓e_next, ↓e_seq, ↓e_set, ↓e_drop, ↓e_ret, ↓e_ifs, ↓e_brk, ↓e_cnt, ↓e_fixs, ↓e_par, ↓e_par3, ↓e_asg, ↓e_for, ↓e_putAt, ↓e_jput, ↓e_var, ↓e_k, ↓e_fz, ↓e_op, ↓e_opL, ↓e_opR, ↓e_n, ↓e_n1, ↓e_nil, ↓e_cons, ↓e_tup, ↓e_lst, ↓e_b, ↓e_not, ↓e_and, ↓e_or, ↓e_andV, ↓e_orV, ↓e_notV, ↓e_if, ↓e_isi, ↓e_neg, ↓e_chain, ↓e_call, ↓e_callK, ↓e_jint, ↓e_dict0, ↓e_dict1, ↓e_listRng, ↓e_append, ↓e_cut, ↓e_cutO, ↓e_onone, ↓e_osome, ↓e_iseq, ↓e_ienum, ↓e_irng, ↓e_gname, ↓e_lnil, ↓e_lcons, ↓e_lc, ↓e_yes, ↓f_addI, ↓f_addS, ↓f_addT, ↓f_addL, ↓f_i2, ↓f_mulI, ↓f_mulT, ↓f_mulL, ↓f_eq, ↓f_ne, ↓f_is, ↓f_isnot, ↓f_in, ↓f_notin, ↓f_ixL, ↓f_ixT, ↓f_lenL, ↓f_lenT, ↓f_lenS, ↓f_abs, ↓f_intI, ↓f_intB, ↓f_tupL, ↓f_tupT, ↓f_lstL, ↓f_lstT, ↓f_repr, ↓f_cutL, ↓f_cutT, ↓firm_d, ↓firm_ob, ↓zip_l, ↓zip_t, ↓e_izip, ↓zip_cons, ↓zip_nil1, ↓zip_nil2, ↓f_sorted, ↓e_inn, ↓e_inc, ↓e_l2n, ↓e_l2c, ↓e_lc2, ↓e_rev, ↓e_pop, ↓e_popAt, ↓e_extend, ↓e_lc3, ↓e_gon, ↓e_goc, ↓e_dbMid, ↓e_dbIn, ↓f_neu, ↓e_ifT, ↓e_newD, ↓e_retO, ↓e_fixK, ↓e_putO, ↓e_dkO, ↓e_dkF, ↓e_kdO, ↓e_kdF, ↓e_get2O, ↓e_get2F, ↓e_ListD, ↓e_ListF, ↓od_o, ↓dct_d, ↓key_int, ↓key_str, ↓g_item, ↓g_get, ↓g_in, ↓g_notin, ↓h_list, ↓fz_od, ↓ow_ex, ↓e_tr, ↓e_trO, ↓e_trK, ↓tru_b, ↓tru_n, ↓tru_i, ↓tru_l, ↓tru_t, ↓tru_s, ↓e_i63, ↓n63_d, ↓e_ss, ↓dgTup_tup, ↓dgCons_cons, ↓dgNil_nil, ite_t, ite_f, itK_not, List.cons_append, List.nil_append, List.append_nil, List.replicate, List.flatten_cons, List.flatten_nil, List.append_eq, List.length_cons, List.length_nil, Nat.zero_add, Nat.reduceAdd, true_and, and_true, eqOk_str, eqOk_int, eqOk_bool, str_eqv, int_eqv, tup_nil_eqv, lst_nil_eqv, rep_flat, isK_int, isK_bool, isK_tuple, isK_str, kInt, kBool, kTuple, kStr, GB.isNon, Bool.not_true, Bool.not_false, Bool.or_false, Bool.or_true, Bool.false_or, Bool.true_or, reduceCtorEq, ↓st_ix0, List.length_map]
    have h60 := h2.1
    refine ⟨by omega, by omega, s_aretold h2 (by rw [h1]; exact h3) (by rw [Int.toNat_natCast]; exact cells_irow _) ?_⟩
    simp only [↓at0, ↓set0, ↓at1, ↓set1, ↓at2, ↓set2, ↓at3, ↓set3, ↓at4, ↓set4, ↓at5, ↓set5, ↓at6, ↓set6, ↓at7, ↓set7, ↓at8, ↓set8, ↓at9, ↓set9, ↓at10, ↓set10, ↓at11, ↓set11, ↓at12, ↓set12, ↓at13, ↓set13, ↓at14, ↓set14, ↓at15, ↓set15, ↓fz_d, ↓fz_own, ↓fz_ob, ↓one_d, ↓int_d, ↓bool_d, ↓own_o, ↓ds_nil, ↓ds_cons, ↓seq_l, ↓seq_t, ↓ite_t, ↓ite_f, ↓e_next, ↓e_seq, ↓e_set, ↓e_drop, ↓e_ret, ↓e_ifs, ↓e_brk, ↓e_cnt, ↓e_fixs, ↓e_par, ↓e_par3, ↓e_asg, ↓e_for, ↓e_putAt, ↓e_jput, ↓e_var, ↓e_k, ↓e_fz, ↓e_op, ↓e_opL, ↓e_opR, ↓e_n, ↓e_n1, ↓e_nil, ↓e_cons, ↓e_tup, ↓e_lst, ↓e_b, ↓e_not, ↓e_and, ↓e_or, ↓e_andV, ↓e_orV, ↓e_notV, ↓e_if, ↓e_isi, ↓e_neg, ↓e_chain, ↓e_call, ↓e_callK, ↓e_jint, ↓e_dict0, ↓e_dict1, ↓e_listRng, ↓e_append, ↓e_cut, ↓e_cutO, ↓e_onone, ↓e_osome, ↓e_iseq, ↓e_ienum, ↓e_irng, ↓e_gname, ↓e_lnil, ↓e_lcons, ↓e_lc, ↓e_yes, ↓f_addI, ↓f_addS, ↓f_addT, ↓f_addL, ↓f_i2, ↓f_mulI, ↓f_mulT, ↓f_mulL, ↓f_eq, ↓f_ne, ↓f_is, ↓f_isnot, ↓f_in, ↓f_notin, ↓f_ixL, ↓f_ixT, ↓f_lenL, ↓f_lenT, ↓f_lenS, ↓f_abs, ↓f_intI, ↓f_intB, ↓f_tupL, ↓f_tupT, ↓f_lstL, ↓f_lstT, ↓f_repr, ↓f_cutL, ↓f_cutT, ↓firm_d, ↓firm_ob, ↓zip_l, ↓zip_t, ↓e_izip, ↓zip_cons, ↓zip_nil1, ↓zip_nil2, ↓f_sorted, ↓e_inn, ↓e_inc, ↓e_l2n, ↓e_l2c, ↓e_lc2, ↓e_rev, ↓e_pop, ↓e_popAt, ↓e_extend, ↓e_lc3, ↓e_gon, ↓e_goc, ↓e_dbMid, ↓e_dbIn, ↓f_neu, ↓e_ifT, ↓e_newD, ↓e_retO, ↓e_fixK, ↓e_putO, ↓e_dkO, ↓e_dkF, ↓e_kdO, ↓e_kdF, ↓e_get2O, ↓e_get2F, ↓e_ListD, ↓e_ListF, ↓od_o, ↓dct_d, ↓key_int, ↓key_str, ↓g_item, ↓g_get, ↓g_in, ↓g_notin, ↓h_list, ↓fz_od, ↓ow_ex, ↓e_tr, ↓e_trO, ↓e_trK, ↓tru_b, ↓tru_n, ↓tru_i, ↓tru_l, ↓tru_t, ↓tru_s, ↓e_i63, ↓n63_d, ↓e_ss, ↓dgTup_tup, ↓dgCons_cons, ↓dgNil_nil, ite_t, ite_f, itK_not, List.cons_append, List.nil_append, List.append_nil, List.replicate, List.flatten_cons, List.flatten_nil, List.append_eq, List.length_cons, List.length_nil, Nat.zero_add, Nat.reduceAdd, true_and, and_true, eqOk_str, eqOk_int, eqOk_bool, str_eqv, int_eqv, tup_nil_eqv, lst_nil_eqv, rep_flat, isK_int, isK_bool, isK_tuple, isK_str, kInt, kBool, kTuple, kStr, GB.isNon, Bool.not_true, Bool.not_false, Bool.or_false, Bool.or_true, Bool.false_or, Bool.true_or, reduceCtorEq, ]
    exact hK _ ⟨_, _, rfl⟩
end GK

set_option maxRecDepth 20000
namespace GK
open PySem PySem.Spec PyProof.Rows L2 GB
theorem cut_map (ns : List Int) (lo hi : Option Int) : cutV (ns.map V.int) lo hi = (GB.cutD ns lo hi).map V.int := by
  unfold cutV GB.cutD
  rw [List.map_take, List.map_drop, List.length_map]
def tPush : TS := fun D σ H => ∃ (x0 y4 : Option V) (a l : Addr) (kvs : List (Key × V)) (is : List Int) (n w : Int), σ = [x0, some (.ref a), some (.int n), some (.int w), y4] ∧ Opn "deep" ["state"] H a l kvs is ∧ is.length < 1000 ∧ D.nx σ H ∧
  ∀ (l' : Addr) (kvs' : List (Key × V)) (is' : List Int) (H' : Hp), (∀ b o, b ≠ a → H b = some o → H' b = some o) → Opn "deep" ["state"] H' a l' kvs' is' → is'.length ≤ is.length + 1 → H l' = none → D.nx σ H'
def tMix : TS := fun D σ H => ∃ (x0 y4 : Option V) (a l : Addr) (kvs : List (Key × V)) (is : List Int) (n w : Int), σ = [x0, some (.ref a), some (.int n), some (.int w), y4] ∧ Opn "deep" ["state"] H a l kvs is ∧
  ∀ (m : Int) (kvs' : List (Key × V)), KvOk "deep" ["state"] l kvs' → D.nx [x0, some (.ref a), some (.int n), some (.int w), some (.int m)] (upd H a (.dK kvs'))
theorem get_of {H : Hp} {a l : Addr} {kvs : List (Key × V)} {is : List Int} (o : Opn "deep" ["state"] H a l kvs is) : DGet H a (.str "deep") (some (.ref l)) := by
  have q := DGet.k (k := .inr "deep") o.ha
  rw [o.kv.2.1] at q; exact q
theorem get_st {H : Hp} {a l : Addr} {kvs : List (Key × V)} {is : List Int} (o : Opn "deep" ["state"] H a l kvs is) : ∃ n : Int, DGet H a (.str "state") (some (.int n)) := by
  obtain ⟨n, hn⟩ := o.kv.2.2 "state" (by simp)
  have q := DGet.k (k := .inr "state") o.ha
  rw [hn] at q; exact ⟨n, q⟩
theorem kv_list {l l' : Addr} {kvs : List (Key × V)} (h : KvOk "deep" ["state"] l kvs) : KvOk "deep" ["state"] l' (putK kvs (.inr "deep") (.ref l')) := by
  obtain ⟨h1, h2, h3⟩ := h
  refine ⟨?_, ?_, fun k hk => ?_⟩
  · unfold putK; rw [if_pos (by rw [valV_any, h2]; rfl), List.length_map]; exact h1
  · rw [valV_put, if_pos rfl]
  · have : k = "state" := by simpa using hk
    subst this
    rw [valV_put, if_neg (by decide)]; exact h3 _ hk
section
variable {P : Program} {w : World} {K : PySem.W.Frag} {mg : Str → Option Value} {base : Heap}
theorem ok_l_deck (T : Tx K mg) (hs : ∃ o, base.get? sysModules = some o) : FnG P w K mg base CX0 1 T.a_l_deck T.d_l_deck ["script"] (spD K (Jr P w K) 1 F_l_deck) := by
  refine fng_nox T.F_l_deck sc_l_deck (fun vs H Q E h => ?_) fun cdv A outer s H vs Q E hg hr h => ?_
  · obtain ⟨ss, R, fr, hl, _⟩ := h
    rw [fr.len, hl]; rfl
  · have gd := good_of (CX := CX0) (P := P) (w := w) (K := K) (mg := mg) (E := E) (H := H) (outer := outer) hs sc_l_deck.nd hg hr
    have hu := gd.un
    obtain ⟨ss, R, fr, hl, ⟨ns, rfl, hn, q⟩, fin⟩ := h
    cases fr with
    | cons h1 h2 =>
    cases h2
    obtain ⟨a0, rfl, sc⟩ := h1
    refine ⟨_, pss_cons (ps_set (i := 1) sc_l_deck.nd rfl (.inl rfl) (pe_disp (pps_cons pe_str (pe_lst pa_nil) (pps_cons pe_str (pe_op op_add pe_int (pe_callB call_len_seq (by rfl) T.b_len (by decide +kernel) (pa_cons (pe_slice sl_list (pv 0) po_none (po_some pe_int)) pa_nil))) pps_nil)) rfl rfl (by simp) (by simp)))
      (pss_cons (ps_for PassesOwn.never rfl (pi_list (pe_slice sl_list (pv 0) po_none (po_some pe_int))) (pg_name (i := 2) sc_l_deck.nd rfl (.inl rfl))
        (pss_cons (ps_set (i := 3) sc_l_deck.nd rfl (.inl rfl) (pe_callB call_abs (by rfl) T.b_abs (by decide +kernel) (pa_cons (pv 2) pa_nil)))
        (pss_cons ((ps_if (pt_cmpR op_ge (pv 3) (pe_op op_pow pe_int pe_int) (nomark _)) (pss_one (ps_dput (by omega) (pv 1) pe_str (pe_op op_cat (pe_lst (pa_cons (pv 3) pa_nil)) (pe_dget (by omega) (pv 1) pe_str (by intro _ _; rfl))) rfl)) pss_nil).less (t2 := tPush) ?push)
        ((pss_cons (ps_set (i := 4) sc_l_deck.nd rfl (.inl rfl) (pe_op op_add (pe_op op_mul (pe_op op_add (pe_op op_add (pe_op op_add (pe_dget (by omega) (pv 1) pe_str (by intro _ _; rfl)) (pe_op op_mul pe_int (pv 3))) (pe_callTy call_int1 (by rfl) T.b_int (by decide +kernel) (pa_cons (pe_cmpR op_lt (pv 2) pe_int (nomark _)) pa_nil))) pe_int) pe_int) pe_int))
        (pss_one (ps_dput (by omega) (pv 1) pe_str (pe_op op_mod (pe_callTy call_int1 (by rfl) T.b_int (by decide +kernel) (pa_cons (pv 4) pa_nil)) pe_int) rfl))).less (t2 := tMix) ?mix))))
      (pss_closing (nd := "deep") (ks := ["state"]) (pss_one (ps_ret (pv 1))))), ?_⟩
    case push =>
      intro D σ H ⟨x0, y4, a, l, kvs, is, n, w, e, op, hl, nx, pu⟩
      subst e
      refine ⟨_, rfl, _, _, rfl, rfl, by unfold CPow; decide, _, _, rfl, rfl, _, rfl, ite2 (fun _ => ?_) fun _ => nx⟩
      refine ⟨_, rfl, (show 1 ≤ sizeLine by decide), fun p hp => ?_⟩
      have pa : a ≠ p := ne_of_none op.ha hp
      have pl : l ≠ p := ne_of_none op.hl hp
      have op1 : Opn "deep" ["state"] (upd H p (.lst [.int w])) a l kvs is := ⟨by rw [upd_ne pa]; exact op.ha, by rw [upd_ne pl]; exact op.hl, op.kv⟩
      refine ⟨.ref a, rfl, a, .ref l, rfl, get_of op1, p, l, _, _, rfl, rfl, upd_same, op1.hl, ?_, fun p2 hp2 => ?_⟩
      · rw [List.length_map]; exact Nat.le_trans (show [V.int w].length + is.length ≤ 1001 by simp; omega) (by decide)
      · have p2p : p ≠ p2 := ne_of_none upd_same hp2
        have p2a : a ≠ p2 := ne_of_none op1.ha hp2
        have hp2' : H p2 = none := by rw [upd_ne (Ne.symm p2p)] at hp2; exact hp2
        refine ⟨.ref a, rfl, a, _, rfl, DPut.k (k := .inr "deep") (by rw [upd_ne p2a]; exact op1.ha) (Nat.lt_of_le_of_lt op.kv.1 (by decide)), pu p2 (putK kvs (.inr "deep") (.ref p2)) (w :: is) _ (fun b o nb hb => ?_) ⟨upd_same, ?_, kv_list op.kv⟩ (by simp) hp2'⟩
        · rw [upd_ne nb, upd_ne (ne_of_none hb hp2'), upd_ne (ne_of_none hb hp)]; exact hb
        · rw [upd_ne (Ne.symm p2a), upd_same]; rfl
    case mix =>
      intro D σ H ⟨x0, y4, a, l, kvs, is, n, w, e, op, nx⟩
      subst e
      obtain ⟨st, hst⟩ := get_st op
      refine ⟨.ref a, rfl, a, _, rfl, hst, _, rfl, 2, w, rfl, rfl, .inl ⟨by decide, by decide⟩, _, _, rfl, rfl, _, rfl, _, _, rfl, rfl, .inr ⟨_, rfl, _, _, rfl, rfl, _, _, rfl, rfl, _, _, rfl, rfl, .inr ⟨by decide, by decide⟩, _, _, rfl, rfl, ?_⟩⟩
      refine ⟨_, rfl, .inl ⟨_, rfl, _, _, rfl, rfl, (by decide : (0 : Int) < 2305843009213693951), .ref a, rfl, a, _, rfl, DPut.k (k := .inr "state") op.ha (Nat.lt_of_le_of_lt op.kv.1 (by decide)), ?_⟩⟩
      exact nx _ _ (kv_put op.kv (by simp) (by decide))
    intro a na
    have s1 : Same H (upd H a (.dK [])) := same_new na
    refine ⟨Nat.zero_le _, fun l nl => ?_⟩
    have s2 := s1.trans (same_new (o := .lst []) nl)
    refine ⟨.ref a0, rfl, 63, rfl, a0, ns.map V.int, rfl, s2.seq (sq_scr sc), fun c nc => ⟨c, _, rfl, .inl (.inl (.inl upd_same)), _, _, rfl, rfl, ?_⟩⟩
    have la : a ≠ l := ne_of_none upd_same nl
    have ca : a ≠ c := ne_of_none (by rw [upd_ne la, upd_same]) nc
    have cl : l ≠ c := ne_of_none upd_same nc
    have s3 := s2.trans (same_new (o := .lst (cutV (ns.map V.int) none (some 63))) nc)
    refine ⟨by rw [upd_ne ca, upd_ne la, upd_same], [(.inr "deep", .ref l), (.inr "state", .int (28010005 + ((cutV (ns.map V.int) none (some 63)).length : Nat)))], rfl, by simp, ?_⟩
    have nl0 : H l = none := by rw [upd_ne (Ne.symm la)] at nl; exact nl
    have kv0 : ∀ st : Int, KvOk "deep" ["state"] l (mergeK [] [(.inr "deep", .ref l), (.inr "state", .int st)]) := fun st => by
      show KvOk _ _ _ (putK (putK [] (.inr "deep") (.ref l)) (.inr "state") (.int st))
      refine ⟨?_, ?_, fun k hk => ?_⟩
      · have h1 := length_putK (putK [] (Sum.inr "deep" : Key) (.ref l)) (.inr "state") (.int st)
        have h2 := length_putK ([] : List (Key × V)) (.inr "deep") (.ref l)
        simp at h2; omega
      · rw [valV_put, if_neg (by decide), valV_put, if_pos rfl]
      · have : k = "state" := by simpa using hk
        subst this
        exact ⟨st, by rw [valV_put, if_pos rfl]⟩
    generalize hk : mergeK [] [((Sum.inr "deep" : Key), V.ref l), (Sum.inr "state", V.int (28010005 + ((cutV (ns.map V.int) none (some 63)).length : Nat)))] = kvs0
    have k0 : KvOk "deep" ["state"] l kvs0 := by rw [← hk]; exact kv0 _
    have nH : ∀ {b : Addr} {o : HO}, H b = some o → b ≠ a := fun hb => ne_of_none hb na
    have s4 : Same H (upd (upd (upd (upd H a (.dK [])) l (.lst [])) c (.lst (cutV (ns.map V.int) none (some 63)))) a (.dK kvs0)) := fun b o hb => by rw [upd_ne (nH hb)]; exact s3 b o hb
    have o4 : Opn "deep" ["state"] (upd (upd (upd (upd H a (.dK [])) l (.lst [])) c (.lst (cutV (ns.map V.int) none (some 63)))) a (.dK kvs0)) a l kvs0 [] := ⟨upd_same, by rw [upd_ne (Ne.symm la), upd_ne cl, upd_same]; rfl, k0⟩
    revert s4 o4
    generalize upd (upd (upd (upd H a (.dK [])) l (.lst [])) c (.lst (cutV (ns.map V.int) none (some 63)))) a (.dK kvs0) = H4
    intro s4 o4
    have hcs := cutD_len ns none (some 63)
    refine ⟨.ref a0, rfl, 63, rfl, a0, ns.map V.int, rfl, s4.seq (sq_scr sc), fun c2 nc2 => ?_⟩
    rw [cut_map]
    generalize GB.cutD ns none (some 63) = cs at hcs ⊢
    have a2 : c2 ≠ a := Ne.symm (ne_of_none o4.ha nc2)
    have l2 : c2 ≠ l := Ne.symm (ne_of_none o4.hl nc2)
    refine ⟨c2, rfl, ⟨_, .inl (.inl upd_same)⟩, fun i m σ' H5 => ∃ y2 y3 y4 l kvs is, σ' = [some (.ref a0), some (.ref a), y2, y3, y4] ∧ i + m = cs.length ∧ Same H H5 ∧ Opn "deep" ["state"] H5 a l kvs is ∧ is.length ≤ i ∧ H5 c2 = some (.lst (cs.map V.int)) ∧ H l = none,
      ⟨cs.length, none, none, none, l, kvs0, [], rfl, by omega, s4.trans (same_new nc2), ⟨by rw [upd_ne (Ne.symm a2)]; exact o4.ha, by rw [upd_ne (Ne.symm l2)]; exact o4.hl, o4.kv⟩, by simp, upd_same, nl0⟩, fun i m σ' H5 hW => ?_⟩
    obtain ⟨y2, y3, y4, l5, kvs5, is5, rfl, em, s5, o5, hi5, hc5, nl5⟩ := hW
    have q5 : SqL K H5 c2 (cs.map V.int) := .inl (.inl hc5)
    by_cases hi : i < cs.length
    · have g1 : (cs.map V.int)[i]? = some (.int cs[i]) := by rw [List.getElem?_map, List.getElem?_eq_getElem hi]; rfl
      refine .inr ⟨⟨_, _, q5, g1⟩, fun σ' H' => ∃ y2 y3 y4 l kvs is, σ' = [some (.ref a0), some (.ref a), y2, y3, y4] ∧ Same H H' ∧ Opn "deep" ["state"] H' a l kvs is ∧ is.length ≤ i + 1 ∧ H' c2 = some (.lst (cs.map V.int)) ∧ H l = none, fun σ' H' hN => ?_, fun x H' hy => ?_⟩
      · obtain ⟨z2, z3, z4, l', k', j', e, h1, h2, h3, h4, h5⟩ := hN
        exact ⟨m - 1, by omega, z2, z3, z4, l', k', j', e, by omega, h1, h2, h3, h4, h5⟩
      · obtain ⟨rfl, fv⟩ := hy
        have ev : x = .int cs[i] := Option.some.inj ((fv _ q5).symm.trans g1)
        subst ev
        have mixN : ∀ (D : Ends) (H' : Hp) (l' : Addr) (kvs' : List (Key × V)) (is' : List Int) (n w : Int) (y : Option V) (_ : Same H H') (_ : Opn "deep" ["state"] H' a l' kvs' is') (_ : is'.length ≤ i + 1) (_ : H' c2 = some (.lst (cs.map V.int))) (_ : H l' = none)
            (_ : ∀ σ' H', (∃ y2 y3 y4 l kvs is, σ' = [some (.ref a0), some (.ref a), y2, y3, y4] ∧ Same H H' ∧ Opn "deep" ["state"] H' a l kvs is ∧ is.length ≤ i + 1 ∧ H' c2 = some (.lst (cs.map V.int)) ∧ H l = none) → D.nx σ' H'),
            tMix D [some (.ref a0), some (.ref a), some (.int n), some (.int w), y] H' := by
          intro D H' l' kvs' is' n w y z1 z2 z3 z4 z5 z6
          refine ⟨_, _, a, l', kvs', is', n, w, rfl, z2, fun m kvs'' kv => z6 _ _ ⟨_, _, _, l', kvs'', is', rfl, fun b o hb => by rw [upd_ne (nH hb)]; exact z1 b o hb, ⟨upd_same, by rw [upd_ne z2.ne]; exact z2.hl, kv⟩, z3, by rw [upd_ne a2]; exact z4, z5⟩⟩
        refine ⟨_, rfl, _, rfl, ?_⟩
        refine ⟨_, _, a, l5, kvs5, is5, _, _, rfl, o5, by omega, mixN _ _ _ _ _ _ _ _ s5 o5 (by omega) hc5 nl5 (fun _ _ h => h), fun l' kvs' is' H' st op' hl' nl' => ?_⟩
        exact mixN _ _ _ _ _ _ _ _ (fun b o hb => st b o (nH hb) (s5 b o hb)) op' (by omega) (st _ _ a2 hc5) (s5.free nl') (fun _ _ h => h)
    · refine .inl ⟨⟨_, q5, by rw [List.length_map]; omega⟩, a, l5, kvs5, is5, o5, .ref a, rfl, ?_⟩
      refine fin (.ref a) _ (.ob .jar) (fun b o hb => ?_) ⟨a, rfl, l5, ?_, ?_, o5.ne⟩ q
      · unfold cls
        rw [upd_ne (ne_of_none hb nl5), upd_ne (nH hb)]; exact s5 b o hb
      · unfold cls
        rw [upd_ne (Ne.symm o5.ne), upd_same]; rfl
      · unfold cls; rw [upd_same]
end
end GK

set_option maxRecDepth 100000
namespace GK
open PySem PySem.Spec PyProof.Rows L2 GB
section
variable {P : Program} {w : World} {K : PySem.W.Frag} {mg : Str → Option Value} {base : Heap}
theorem ok_l_draw (T : Tx K mg) (hs : ∃ o, base.get? sysModules = some o) : FnG P w K mg base CX0 1 T.a_l_draw T.d_l_draw ["deck", "many"] (spD K (Jr P w K) 2 F_l_draw) :=
  fn_ok T.F_l_draw sc_l_draw hs (t := rd_l_draw) (fun cdv A outer s H E hg hr gd => (dss_cons (ds_if (dt_cmp (o_lt) (de_var 1) de_int (nomark _)) (dss_one (ds_ret de_int)) dss_nil) (dss_cons (ds_jpop gd (fun _ _ h => h) rfl rfl (pv 0) (pv 0) (pv 0) (pv 2) (pv 1) (pv 2) (pv 1) (dss_one (ds_ret (de_op (o_mod) (de_callT (c_int rfl) (by rfl) T.b_int (by decide +kernel) (da_cons (de_var 2) da_nil)) (de_var 1))))) (dss_cons (ds_set (i := 3) gd rfl (.inl rfl) (de_op (o_mod) (de_callT (c_int rfl) (by rfl) T.b_int (by decide +kernel) (da_cons (de_fz gd (de_op (o_add rfl) (de_fz gd (de_op (o_mul rfl) (de_jint gd (fun _ _ h => h) (by decide) (pv 0)) de_int)) de_int)) da_nil)) de_int)) (dss_cons (ds_jput gd (fun _ _ h => h) (by decide) (by decide) (pv 0) (de_var 3)) (dss_cons (ds_set (i := 4) gd rfl (.inl rfl) (de_op (o_mod) (de_callT (c_int rfl) (by rfl) T.b_int (by decide +kernel) (da_cons (de_fz gd (de_op (o_add rfl) (de_fz gd (de_op (o_add rfl) (de_fz gd (de_op (o_mul rfl) (de_var 3) (de_var 3))) (de_fz gd (de_op (o_mul rfl) de_int (de_var 3))))) de_int)) da_nil)) de_int)) (dss_one (ds_ret (de_op (o_mod) (de_callT (c_int rfl) (by rfl) T.b_int (by decide +kernel) (da_cons (de_op (o_div) (de_var 4) de_int) da_nil)) (de_var 1)))))))))) ma_l_draw
theorem ok_l_mixed (T : Tx K mg) (hs : ∃ o, base.get? sysModules = some o) : FnG P w K mg base CX0 2 T.a_l_mixed T.d_l_mixed ["deck", "items"] (spD K (Jr P w K) 2 F_l_mixed) :=
  fn_ok T.F_l_mixed sc_l_mixed hs (t := rd_l_mixed) (fun cdv A outer s H E hg hr gd => (dss_cons (ds_par (i := 2) (j := 3) gd rfl rfl (by decide) rfl rfl (de_callT (c_list rfl) (by rfl) T.b_list (by decide +kernel) (da_cons (de_var 1) da_nil)) (de_lst da_nil) rfl) (dss_cons (ds_while PassesOwn.never (dt_cmpL (o_ne rfl gd) (pv 2) (de_fz gd (de_lst da_nil)) (nomark _)) (dss_one (ds_expr (de_append (pv 3) (de_popAt (pv 2) (de_call rfl (ok_l_draw T hs) (hr.mono (by decide)) gd (by rfl) T.m_l_draw T.F_l_draw.kp T.B_l_draw pass0 (da_cons (de_var 0) (da_cons (de_callB1 (c_len rfl) (by rfl) T.b_len (by decide +kernel) (pv 2)) da_nil)))))))) (dss_fix gd 3 (dss_one (ds_ret (de_var 3))))))) ma_l_mixed
theorem ok_l_pick (T : Tx K mg) (hs : ∃ o, base.get? sysModules = some o) : FnG P w K mg base CX0 2 T.a_l_pick T.d_l_pick ["deck", "items"] (spD K (Jr P w K) 2 F_l_pick) :=
  fn_ok T.F_l_pick sc_l_pick hs (t := rd_l_pick) (fun cdv A outer s H E hg hr gd => (dss_one (ds_ret (de_ix (i_at rfl) (de_var 1) (de_call rfl (ok_l_draw T hs) (hr.mono (by decide)) gd (by rfl) T.m_l_draw T.F_l_draw.kp T.B_l_draw pass0 (da_cons (de_var 0) (da_cons (de_callB (c_len rfl) (by rfl) T.b_len (by decide +kernel) (da_cons (de_var 1) da_nil)) da_nil))) (fun _ _ => rfl))))) ma_l_pick
theorem ok_l_row (T : Tx K mg) (hs : ∃ o, base.get? sysModules = some o) : FnG P w K mg base CX0 3 T.a_l_row T.d_l_row ["deck", "many"] (spD K (Jr P w K) 2 F_l_row) :=
  fn_ok T.F_l_row sc_l_row hs (t := rd_l_row) (fun cdv A outer s H E hg hr gd => (dss_cons (ds_par (i := 2) (j := 3) gd rfl rfl (by decide) rfl rfl (de_call rfl (ok_l_mixed T hs) (hr.mono (by decide)) gd (by rfl) T.m_l_mixed T.F_l_mixed.kp T.B_l_mixed pass0 (da_cons (de_var 0) (da_cons (de_fz gd (de_listRng gd (by rfl) T.b_list (by rfl) T.b_range (de_var 1))) da_nil))) (de_op (o_mul rfl) (de_fz gd (de_lst (da_cons (de_tup da_nil) da_nil))) (de_var 1)) rfl) (dss_cons (ds_for gd PassesOwn.never (di_enum rfl (by rfl) T.b_enumerate (de_fz gd (de_cut rfl (de_var 2) do_none (do_some (de_neg de_int))))) (dg_tup gd rfl (dgs_cons (dg_name (i := 4) gd rfl (.inl rfl)) (dgs_cons (dg_name (i := 5) gd rfl (.inl rfl)) dgs_nil))) (dss_cons (ds_set (i := 6) gd rfl (.inl rfl) (de_ix (i_at rfl) (de_var 2) (de_call rfl (ok_l_draw T hs) (hr.mono (by decide)) gd (by rfl) T.m_l_draw T.F_l_draw.kp T.B_l_draw pass0 (da_cons (de_var 0) (da_cons (de_fz gd (de_op (o_add rfl) (de_var 4) de_int)) da_nil))) (fun _ _ => rfl))) (dss_one (ds_putAt (pv 3) (de_var 5) (de_call rfl (ok_l_pick T hs) (hr.mono (by decide)) gd (by rfl) T.m_l_pick T.F_l_pick.kp T.B_l_pick pass0 (da_cons (de_var 0) (da_cons (de_fz gd (de_lst (da_cons (de_tup (da_cons (de_ix (i_at rfl) (de_var 2) (de_op (o_add rfl) (de_var 4) de_int) (fun _ _ => rfl)) da_nil)) (da_cons (de_tup (da_cons (de_var 6) (da_cons (de_ix (i_at rfl) (de_var 2) (de_op (o_add rfl) (de_var 4) de_int) (fun _ _ => rfl)) da_nil))) (da_cons (de_tup (da_cons de_non (da_cons (de_ix (i_at rfl) (de_var 2) (de_op (o_add rfl) (de_var 4) de_int) (fun _ _ => rfl)) (da_cons (de_var 6) da_nil)))) da_nil))))) da_nil))))))) (dss_cons (ds_set (i := 7) gd rfl (.inl rfl) (de_tup (da_cons (de_tup (da_cons de_non (da_cons (de_ix (i_at rfl) (de_var 2) (de_call rfl (ok_l_pick T hs) (hr.mono (by decide)) gd (by rfl) T.m_l_pick T.F_l_pick.kp T.B_l_pick pass0 (da_cons (de_var 0) (da_cons (de_fz gd (de_lst (da_cons de_int (da_cons de_int (da_cons de_int da_nil))))) da_nil))) (fun _ _ => rfl)) da_nil))) (da_cons (de_tup (da_cons de_non da_nil)) da_nil)))) (dss_one (ds_ret (de_tup (da_cons (de_tup (da_cons (de_callT1 (c_tuple rfl) (by rfl) T.b_tuple (by decide +kernel) (pv 3)) (da_cons (de_fz gd (de_op (o_mul rfl) (de_tup (da_cons de_str da_nil)) (de_var 1))) (da_cons (de_var 7) (da_cons (de_tup (da_cons de_bl (da_cons de_bl da_nil))) da_nil))))) (da_cons (de_var 2) da_nil))))))))) ma_l_row
theorem ok_l_hands (T : Tx K mg) (hs : ∃ o, base.get? sysModules = some o) : FnG P w K mg base CX0 3 T.a_l_hands T.d_l_hands ["deck", "some", "most"] (spD K (Jr P w K) 3 F_l_hands) :=
  fn_ok T.F_l_hands sc_l_hands hs (t := rd_l_hands) (fun cdv A outer s H E hg hr gd => (dss_cons (ds_parT (i := 3) (j := 4) gd rfl rfl rfl (by decide) (.inr rfl) (.inl rfl) (de_fz gd (de_op (o_add rfl) (de_fz gd (de_lst (da_cons de_non da_nil))) (de_fz gd (de_callT (c_list rfl) (by rfl) T.b_list (by decide +kernel) (da_cons (de_var 1) da_nil))))) (de_lst da_nil)) (dss_cons (ds_for gd PassesOwn.never (di_rng (by rfl) T.b_range (de_op (o_add rfl) de_int (de_call rfl (ok_l_draw T hs) (hr.mono (by decide)) gd (by rfl) T.m_l_draw T.F_l_draw.kp T.B_l_draw pass0 (da_cons (de_var 0) (da_cons (de_var 2) da_nil))))) (dg_name (i := 5) gd rfl (.inl rfl)) (dss_cons (ds_set (i := 6) gd rfl (.inl rfl) (de_call rfl (ok_l_pick T hs) (hr.mono (by decide)) gd (by rfl) T.m_l_pick T.F_l_pick.kp T.B_l_pick pass0 (da_cons (de_var 0) (da_cons (de_fz gd (de_lst (da_cons de_int (da_cons de_int (da_cons de_int (da_cons de_int (da_cons de_int da_nil))))))) da_nil)))) (dss_one (ds_expr (de_append (pv 4) (de_callT (c_tuple rfl) (by rfl) T.b_tuple (by decide +kernel) (da_cons (de_fz gd (de_lc (own := [("i", 7)]) gd (di_rng (by rfl) T.b_range (de_var 6)) (blkOk_by (N := nm_l_hands) (sc := defScope st_l_hands) (by decide +kernel)) (fun _ _ _ _ _ => (pg_name (i := 7) (by exact gd.nd) (by rfl) (by exact (.inl rfl)))) (gown_name (by decide)) (fun _ _ _ _ _ gd => dts_nil) (fun _ _ _ _ _ gd => (de_call rfl (ok_l_pick T hs) (hr.mono (by decide)) gd (by rfl) T.m_l_pick T.F_l_pick.kp T.B_l_pick pass0 (da_cons (de_var 0) (da_cons (de_var 3) da_nil)))))) da_nil))))))) (dss_one (ds_ret (de_callT1 (c_tuple rfl) (by rfl) T.b_tuple (by decide +kernel) (pv 4))))))) ma_l_hands
theorem ok_l_fields (T : Tx K mg) (hs : ∃ o, base.get? sysModules = some o) : FnG P w K mg base CX0 3 T.a_l_fields T.d_l_fields ["deck", "some"] (spD K (Jr P w K) 2 F_l_fields) :=
  fn_ok T.F_l_fields sc_l_fields hs (t := rd_l_fields) (fun cdv A outer s H E hg hr gd => (dss_cons (ds_par (i := 2) (j := 3) gd rfl rfl (by decide) rfl rfl (de_call rfl (ok_l_pick T hs) (hr.mono (by decide)) gd (by rfl) T.m_l_pick T.F_l_pick.kp T.B_l_pick pass0 (da_cons (de_var 0) (da_cons (de_fz gd (de_lst (da_cons de_int (da_cons de_int (da_cons de_int (da_cons de_int (da_cons de_int (da_cons de_int da_nil)))))))) da_nil))) (de_fz gd (de_op (o_add rfl) (de_fz gd (de_lst (da_cons de_non da_nil))) (de_fz gd (de_callT (c_list rfl) (by rfl) T.b_list (by decide +kernel) (da_cons (de_var 1) da_nil))))) rfl) (dss_cons (ds_set (i := 4) gd rfl (.inl rfl) (de_lst da_nil)) (dss_cons (ds_for gd PassesOwn.never (di_rng (by rfl) T.b_range (de_var 2)) (dg_name (i := 5) gd rfl (.inl rfl)) (dss_one (ds_expr (de_append (pv 4) (de_if (dt_cmp (o_gt) (de_call rfl (ok_l_draw T hs) (hr.mono (by decide)) gd (by rfl) T.m_l_draw T.F_l_draw.kp T.B_l_draw pass0 (da_cons (de_var 0) (da_cons de_int da_nil))) de_int (nomark _)) (de_call rfl (ok_l_pick T hs) (hr.mono (by decide)) gd (by rfl) T.m_l_pick T.F_l_pick.kp T.B_l_pick pass0 (da_cons (de_var 0) (da_cons (de_var 3) da_nil))) de_non))))) (dss_one (ds_ret (de_callT1 (c_tuple rfl) (by rfl) T.b_tuple (by decide +kernel) (pv 4)))))))) ma_l_fields
theorem ok_l_mark (T : Tx K mg) (hs : ∃ o, base.get? sysModules = some o) : FnG P w K mg base CX0 3 T.a_l_mark T.d_l_mark ["deck", "cell"] (spD K (Jr P w K) 2 F_l_mark) :=
  fn_ok T.F_l_mark sc_l_mark hs (t := rd_l_mark) (fun cdv A outer s H E hg hr gd => (dss_one (ds_ret (de_call rfl (ok_l_pick T hs) (hr.mono (by decide)) gd (by rfl) T.m_l_pick T.F_l_pick.kp T.B_l_pick pass0 (da_cons (de_var 0) (da_cons (de_fz gd (de_op (o_add rfl) (de_fz gd (de_lst (da_cons de_str (da_cons de_str (da_cons de_str da_nil))))) (de_fz gd (de_listRng gd (by rfl) T.b_list (by rfl) T.b_range (de_callB (c_len rfl) (by rfl) T.b_len (by decide +kernel) (da_cons (de_var 1) da_nil)))))) da_nil)))))) ma_l_mark
theorem ok_l_standing (T : Tx K mg) (hs : ∃ o, base.get? sysModules = some o) : FnG P w K mg base CX0 4 T.a_l_standing T.d_l_standing ["deck", "cells", "spare", "most"] (spD K (Jr P w K) 4 F_l_standing) :=
  fn_ok T.F_l_standing sc_l_standing hs (t := rd_l_standing) (fun cdv A outer s H E hg hr gd => (dss_cons (ds_set (i := 4) gd rfl (.inl rfl) (de_call rfl (ok_l_mixed T hs) (hr.mono (by decide)) gd (by rfl) T.m_l_mixed T.F_l_mixed.kp T.B_l_mixed pass0 (da_cons (de_var 0) (da_cons (de_fz gd (de_listRng gd (by rfl) T.b_list (by rfl) T.b_range (de_op (o_add rfl) (de_var 1) (de_var 2)))) da_nil)))) (dss_cons (ds_par3 (i := 5) (j := 6) (l := 7) gd rfl rfl rfl (by decide) (by decide) (by decide) rfl rfl rfl (de_fz gd (de_callB (c_sorted rfl) (by rfl) T.b_sorted (by decide +kernel) (da_cons (de_fz gd (de_cut rfl (de_var 4) do_none (do_some (de_var 1)))) da_nil))) (de_lst da_nil) (de_lst da_nil) rfl) (dss_cons (ds_for gd PassesOwn.never (di_rng (by rfl) T.b_range (de_op (o_add rfl) (de_var 1) (de_var 2))) (dg_name (i := 8) gd rfl (.inl rfl)) (dss_cons (ds_expr (de_append (pv 6) (de_if (dt_cmp (o_in rfl gd) (de_var 8) (de_var 5) (rfl)) (de_call rfl (ok_l_fields T hs) (hr.mono (by decide)) gd (by rfl) T.m_l_fields T.F_l_fields.kp T.B_l_fields pass0 (da_cons (de_var 0) (da_cons (de_var 5) da_nil))) (de_tup da_nil)))) (dss_one (ds_expr (de_append (pv 7) (de_if (dt_cmp (o_in rfl gd) (de_var 8) (de_var 5) (rfl)) (de_call rfl (ok_l_mark T hs) (hr.mono (by decide)) gd (by rfl) T.m_l_mark T.F_l_mark.kp T.B_l_mark pass0 (da_cons (de_var 0) (da_cons (de_ixL (i_at rfl) (pv 6) (de_var 8) (fun _ _ => rfl)) da_nil))) de_str)))))) (dss_cons (ds_set (i := 9) gd rfl (.inl rfl) (de_call rfl (ok_l_hands T hs) (hr.mono (by decide)) gd (by rfl) T.m_l_hands T.F_l_hands.kp T.B_l_hands pass0 (da_cons (de_var 0) (da_cons (de_var 5) (da_cons (de_var 3) da_nil))))) (dss_one (ds_ret (de_tup (da_cons (de_callT1 (c_tuple rfl) (by rfl) T.b_tuple (by decide +kernel) (pv 6)) (da_cons (de_callT1 (c_tuple rfl) (by rfl) T.b_tuple (by decide +kernel) (pv 7)) (da_cons (de_var 9) (da_cons (de_callT (c_tuple rfl) (by rfl) T.b_tuple (by decide +kernel) (da_cons (de_fz gd (de_lc (own := [("rooms", 10)]) gd (di_seq rfl (de_var 9)) (blkOk_by (N := nm_l_standing) (sc := defScope st_l_standing) (by decide +kernel)) (fun _ _ _ _ _ => (pg_name (i := 10) (by exact gd.nd) (by rfl) (by exact (.inl rfl)))) (gown_name (by decide)) (fun _ _ _ _ _ gd => dts_nil) (fun _ _ _ _ _ gd => (de_cmp (o_eq rfl gd) (de_call rfl (ok_l_draw T hs) (hr.mono (by decide)) gd (by rfl) T.m_l_draw T.F_l_draw.kp T.B_l_draw pass0 (da_cons (de_var 0) (da_cons de_int da_nil))) de_int (nomark _))))) da_nil)) da_nil)))))))))))) ma_l_standing
theorem ok_l_depths (T : Tx K mg) (hs : ∃ o, base.get? sysModules = some o) : FnG P w K mg base CX0 1 T.a_l_depths T.d_l_depths ["heap", "hands"] (spD K (Jr P w K) 2 F_l_depths) :=
  fn_ok T.F_l_depths sc_l_depths hs (t := rd_l_depths) (fun cdv A outer s H E hg hr gd => (dss_cons (ds_par3 (i := 2) (j := 3) (l := 4) gd rfl rfl rfl (by decide) (by decide) (by decide) rfl rfl rfl (de_lst da_nil) de_newD de_int rfl) (dss_cons (ds_for gd PassesOwn.never (di_seq rfl (de_var 1)) (dg_name (i := 5) gd rfl (.inl rfl)) (dss_one (ds_expr (de_extend rfl (pv 2) (de_fz gd (de_lc (own := [("item", 8)]) gd (di_seq rfl (de_var 5)) (blkOk_by (N := nm_l_depths) (sc := defScope st_l_depths) (by decide +kernel)) (fun _ _ _ _ _ => (pg_name (i := 8) (by exact gd.nd) (by rfl) (by exact (.inl rfl)))) (gown_name (by decide)) (fun _ _ _ _ _ gd => (dts_one (dt_cmp (o_isnot) (de_var 8) de_non (nomark _)))) (fun _ _ _ _ _ gd => (de_var 8)))))))) (dss_fix gd 2 (dss_cons (ds_while PassesOwn.never (dt_cmp (o_ne rfl gd) (de_var 2) (de_fz gd (de_lst da_nil)) (nomark _)) (dss_cons (ds_set (i := 6) gd rfl (.inl rfl) (de_lst da_nil)) (dss_cons (ds_for gd PassesOwn.never (di_seq rfl (de_var 2)) (dg_name (i := 7) gd rfl (.inl rfl)) (dss_one (ds_if (dt_notInO gd (de_var 7) (pv 3)) (dss_cons (ds_putO gd (pv 3) (de_var 7) (de_var 4)) (dss_one (ds_expr (de_extend rfl (pv 6) (de_fz gd (de_lc (own := [("item", 8)]) gd (di_seq rfl (de_ix (i_at rfl) (de_var 0) (de_var 7) (fun _ _ => rfl))) (blkOk_by (N := nm_l_depths) (sc := defScope st_l_depths) (by decide +kernel)) (fun _ _ _ _ _ => (pg_name (i := 8) (by exact gd.nd) (by rfl) (by exact (.inl rfl)))) (gown_name (by decide)) (fun _ _ _ _ _ gd => (dts_one (dt_cmp (o_isnot) (de_var 8) de_non (nomark _)))) (fun _ _ _ _ _ gd => (de_var 8)))))))) dss_nil))) (dss_fix gd 6 (dss_one (ds_par (i := 2) (j := 4) gd rfl rfl (by decide) rfl rfl (de_var 6) (de_fz gd (de_op (o_add rfl) (de_var 4) de_int)) rfl)))))) (dss_fixK gd 3 (dss_one (ds_ret (de_var 3))))))))) ma_l_depths
theorem ok_p_ways_of_held (T : Tx K mg) (hs : ∃ o, base.get? sysModules = some o) : FnG P w K mg base CX0 1 T.a_p_ways_of_held T.d_p_ways_of_held ["hands"] (spD K (Jr P w K) 1 F_p_ways_of_held) :=
  fn_ok T.F_p_ways_of_held sc_p_ways_of_held hs (t := rd_p_ways_of_held) (fun cdv A outer s H E hg hr gd => (dss_cons (ds_set (i := 1) gd rfl (.inl rfl) de_newD) (dss_cons (ds_for gd PassesOwn.never (di_enum rfl (by rfl) T.b_enumerate (de_var 0)) (dg_tup gd rfl (dgs_cons (dg_name (i := 2) gd rfl (.inl rfl)) (dgs_cons (dg_name (i := 3) gd rfl (.inl rfl)) dgs_nil))) (dss_one (ds_for gd PassesOwn.never (di_enum rfl (by rfl) T.b_enumerate (de_var 3)) (dg_tup gd rfl (dgs_cons (dg_name (i := 4) gd rfl (.inl rfl)) (dgs_cons (dg_name (i := 5) gd rfl (.inl rfl)) dgs_nil))) (dss_one (ds_if (dw_and (dt_cmp (o_isnot) (de_var 5) de_non (nomark _)) (dw_and1 (dt_notInO gd (de_var 5) (pv 1)))).pt (dss_one (ds_putO gd (pv 1) (de_var 5) (de_tup (da_cons (de_var 2) (da_cons (de_var 4) da_nil))))) dss_nil))))) (dss_one (ds_retO (pv 1)))))) ma_p_ways_of_held
theorem ok_p_ways (T : Tx K mg) (hs : ∃ o, base.get? sysModules = some o) : FnG P w K mg base CX0 2 T.a_p_ways T.d_p_ways ["standing"] (spD K (Jr P w K) 1 F_p_ways) :=
  fn_ok T.F_p_ways sc_p_ways hs (t := rd_p_ways) (fun cdv A outer s H E hg hr gd => (dss_cons (ds_asg (de_var 0) (dg_tup gd rfl (dgs_cons (dg_name (i := 1) gd rfl (.inl rfl)) (dgs_cons (dg_name (i := 2) gd rfl (.inl rfl)) (dgs_cons (dg_name (i := 3) gd rfl (.inl rfl)) (dgs_cons (dg_name (i := 2) gd rfl (.inl rfl)) dgs_nil)))))) (dss_cons (ds_set (i := 4) gd rfl (.inl rfl) (de_call rfl (ok_p_ways_of_held T hs) (hr.mono (by decide)) gd (by rfl) T.m_p_ways_of_held T.F_p_ways_of_held.kp T.B_p_ways_of_held pass0 (da_cons (de_var 3) da_nil))) (dss_cons (ds_set (i := 5) gd rfl (.inl rfl) (de_fz gd (de_listO gd (by rfl) T.b_list (pv 4)))) (dss_cons (ds_while PassesOwn.never (dt_tr rfl (de_var 5)) (dss_cons (ds_set (i := 6) gd rfl (.inl rfl) (de_lst da_nil)) (dss_cons (ds_for gd PassesOwn.never (di_seq rfl (de_var 5)) (dg_name (i := 7) gd rfl (.inl rfl)) (dss_one (ds_for gd PassesOwn.never (di_enum rfl (by rfl) T.b_enumerate (de_ix (i_at rfl) (de_var 1) (de_var 7) (fun _ _ => rfl))) (dg_tup gd rfl (dgs_cons (dg_name (i := 8) gd rfl (.inl rfl)) (dgs_cons (dg_name (i := 9) gd rfl (.inl rfl)) dgs_nil))) (dss_one (ds_if (dw_and (dt_cmp (o_isnot) (de_var 9) de_non (nomark _)) (dw_and1 (dt_notInO gd (de_var 9) (pv 4)))).pt (dss_cons (ds_putO gd (pv 4) (de_var 9) (de_fz gd (de_op (o_add rfl) (de_itemO gd (pv 4) (de_var 7)) (de_tup (da_cons (de_var 8) da_nil))))) (dss_one (ds_expr (de_append (pv 6) (de_var 9))))) dss_nil))))) (dss_fix gd 6 (dss_one (ds_set (i := 5) gd rfl (.inl rfl) (de_var 6))))))) (dss_fixK gd 4 (dss_one (ds_ret (de_var 4))))))))) ma_p_ways
theorem ok_way_to (T : Tx K mg) (hs : ∃ o, base.get? sysModules = some o) : FnG P w K mg base CX0 3 T.a_way_to T.d_way_to ["standing", "cell"] (spD K (Jr P w K) 2 F_way_to) :=
  fn_ok T.F_way_to sc_way_to hs (t := rd_way_to) (fun cdv A outer s H E hg hr gd => (dss_one (ds_ret (de_getF gd (de_call rfl (ok_p_ways T hs) (hr.mono (by decide)) gd (by rfl) T.m_p_ways T.F_p_ways.kp T.B_p_ways pass0 (da_cons (de_var 0) da_nil)) (de_var 1))))) ma_way_to
theorem ok_l_is_way (T : Tx K mg) (hs : ∃ o, base.get? sysModules = some o) : FnG P w K mg base CX0 1 T.a_l_is_way T.d_l_is_way ["stand", "told", "cell"] (spD K (Jr P w K) 3 F_l_is_way) :=
  fn_ok T.F_l_is_way sc_l_is_way hs (t := rd_l_is_way) (fun cdv A outer s H E hg hr gd => (dss_cons (ds_asg (de_var 0) (dg_tup gd rfl (dgs_cons (dg_name (i := 3) gd rfl (.inl rfl)) (dgs_cons (dg_name (i := 4) gd rfl (.inl rfl)) (dgs_cons (dg_name (i := 5) gd rfl (.inl rfl)) (dgs_cons (dg_name (i := 6) gd rfl (.inl rfl)) dgs_nil)))))) (dss_cons (ds_if (dw_or (dt_not (dt_tr rfl (de_isi (Ts := "tuple") rfl (by rfl) T.b_isinstance (by rfl) T.b_tuple (by decide +kernel) (.inr (.inr (.inr (.inl rfl)))) (de_var 1)))) (dw_or1 (dt_cmp (o_lt) (de_callB (c_len rfl) (by rfl) T.b_len (by decide +kernel) (da_cons (de_var 1) da_nil)) de_int (nomark _)))).pt (dss_one (ds_ret de_bl)) dss_nil) (dss_cons (ds_if (dt_cmp (o_ne rfl gd) (de_fz gd (de_lc (own := [("own", 9)]) gd (di_seq rfl (de_var 1)) (blkOk_by (N := nm_l_is_way) (sc := defScope st_l_is_way) (by decide +kernel)) (fun _ _ _ _ _ => (pg_name (i := 9) (by exact gd.nd) (by rfl) (by exact (.inl rfl)))) (gown_name (by decide)) (fun _ _ _ _ _ gd => (dts_one (dw_or (dt_not (dt_tr rfl (de_isi (Ts := "int") rfl (by rfl) T.b_isinstance (by rfl) T.b_int (by decide +kernel) (.inl rfl) (de_var 9)))) (dw_or (dt_tr rfl (de_isi (Ts := "bool") rfl (by rfl) T.b_isinstance (by rfl) T.b_bool (by decide +kernel) (.inr (.inl rfl)) (de_var 9))) (dw_or1 (dt_cmp (o_lt) (de_var 9) de_int (nomark _))))).pt)) (fun _ _ _ _ _ gd => de_int))) (de_fz gd (de_lst da_nil)) (nomark _)) (dss_one (ds_ret de_bl)) dss_nil) (dss_cons (ds_if (dw_or (dt_cmp (o_ge) (de_ix (i_at rfl) (de_var 1) de_int (fun _ _ => rfl)) (de_callB (c_len rfl) (by rfl) T.b_len (by decide +kernel) (da_cons (de_var 5) da_nil)) (nomark _)) (dw_or1 (dt_cmp (o_ge) (de_ix (i_at rfl) (de_var 1) de_int (fun _ _ => rfl)) (de_callB (c_len rfl) (by rfl) T.b_len (by decide +kernel) (da_cons (de_ix (i_at rfl) (de_var 5) (de_ix (i_at rfl) (de_var 1) de_int (fun _ _ => rfl)) (fun _ _ => rfl)) da_nil)) (nomark _)))).pt (dss_one (ds_ret de_bl)) dss_nil) (dss_cons (ds_set (i := 7) gd rfl (.inl rfl) (de_ix (i_at rfl) (de_ix (i_at rfl) (de_var 5) (de_ix (i_at rfl) (de_var 1) de_int (fun _ _ => rfl)) (fun _ _ => rfl)) (de_ix (i_at rfl) (de_var 1) de_int (fun _ _ => rfl)) (fun _ _ => rfl))) (dss_cons (ds_for gd PassesOwn.never (di_seq rfl (de_fz gd (de_cut rfl (de_var 1) (do_some de_int) do_none))) (dg_name (i := 8) gd rfl (.inl rfl)) (dss_cons (ds_if (dw_or (dt_cmp (o_is) (de_var 7) de_non (nomark _)) (dw_or1 (dt_cmp (o_ge) (de_var 8) (de_callB (c_len rfl) (by rfl) T.b_len (by decide +kernel) (da_cons (de_ix (i_at rfl) (de_var 3) (de_var 7) (fun _ _ => rfl)) da_nil)) (nomark _)))).pt (dss_one (ds_ret de_bl)) dss_nil) (dss_one (ds_set (i := 7) gd rfl (.inl rfl) (de_ix (i_at rfl) (de_ix (i_at rfl) (de_var 3) (de_var 7) (fun _ _ => rfl)) (de_var 8) (fun _ _ => rfl)))))) (dss_one (ds_ret (de_cmp (o_eq rfl gd) (de_var 7) (de_var 2) (nomark _))))))))))) ma_l_is_way
theorem ok_l_is_told (T : Tx K mg) (hs : ∃ o, base.get? sysModules = some o) : FnG P w K mg base CX0 4 T.a_l_is_told T.d_l_is_told ["stand", "cell", "due", "is_named"] (spD K (Jr P w K) 4 F_l_is_told) :=
  fn_ok T.F_l_is_told sc_l_is_told hs (t := rd_l_is_told) (fun cdv A outer s H E hg hr gd => (dss_cons (ds_set (i := 4) gd rfl (.inl rfl) (de_callB (c_repr rfl gd) (by rfl) T.b_repr (by decide +kernel) (da_cons (de_var 0) da_nil))) (dss_cons (ds_set (i := 5) gd rfl (.inl rfl) (de_if (dt_tr rfl (de_var 3)) (de_callK rfl (ok_way_to T hs) (hr.mono (by decide)) gd (by rfl) T.m_way_to T.F_way_to.kp T.P_way_to_1_0 pass0 (dk_cons (de_var 1) (dk_cons (de_var 0) dk_nil))) (de_call rfl (ok_way_to T hs) (hr.mono (by decide)) gd (by rfl) T.m_way_to T.F_way_to.kp T.B_way_to pass0 (da_cons (de_var 0) (da_cons (de_var 1) da_nil))))) (dss_cons (ds_if (dw_or (dt_cmp (o_ne rfl gd) (de_callB (c_repr rfl gd) (by rfl) T.b_repr (by decide +kernel) (da_cons (de_call rfl (ok_way_to T hs) (hr.mono (by decide)) gd (by rfl) T.m_way_to T.F_way_to.kp T.B_way_to pass0 (da_cons (de_var 0) (da_cons (de_var 1) da_nil))) da_nil)) (de_callB (c_repr rfl gd) (by rfl) T.b_repr (by decide +kernel) (da_cons (de_var 5) da_nil)) (nomark _)) (dw_or1 (dt_cmp (o_ne rfl gd) (de_callB (c_repr rfl gd) (by rfl) T.b_repr (by decide +kernel) (da_cons (de_var 0) da_nil)) (de_var 4) (nomark _)))).pt (dss_one (ds_ret de_bl)) dss_nil) (dss_cons (ds_if (dw_or (dt_cmp (o_is) (de_var 2) de_non (nomark _)) (dw_or1 (dt_cmp (o_is) (de_var 5) de_non (nomark _)))).pt (dss_one (ds_ret (de_and (de_cmp (o_is) (de_var 2) de_non (nomark _)) (de_one (de_cmp (o_is) (de_var 5) de_non (nomark _)))))) dss_nil) (dss_one (ds_ret (de_and (de_call rfl (ok_l_is_way T hs) (hr.mono (by decide)) gd (by rfl) T.m_l_is_way T.F_l_is_way.kp T.B_l_is_way pass0 (da_cons (de_var 0) (da_cons (de_var 5) (da_cons (de_var 1) da_nil)))) (de_and (de_cmp (o_eq rfl gd) (de_callB (c_len rfl) (by rfl) T.b_len (by decide +kernel) (da_cons (de_var 5) da_nil)) (de_var 2) (nomark _)) (de_one (de_cmp (o_le) (de_var 2) (de_fz gd (de_op (o_add rfl) (de_callB (c_len rfl) (by rfl) T.b_len (by decide +kernel) (da_cons (de_ix (i_at rfl) (de_var 0) de_int (fun _ _ => rfl)) da_nil)) de_int)) (nomark _)))))))))))) ma_l_is_told
theorem ok_l_are_told (T : Tx K mg) (hs : ∃ o, base.get? sysModules = some o) : FnG P w K mg base CX0 5 T.a_l_are_told T.d_l_are_told ["deck", "stand", "some"] (spD K (Jr P w K) 3 F_l_are_told) :=
  fn_ok T.F_l_are_told sc_l_are_told hs (t := rd_l_are_told) (fun cdv A outer s H E hg hr gd => (dss_cons (ds_par (i := 3) (j := 4) gd rfl rfl (by decide) rfl rfl (de_call rfl (ok_l_depths T hs) (hr.mono (by decide)) gd (by rfl) T.m_l_depths T.F_l_depths.kp T.B_l_depths pass0 (da_cons (de_ix (i_at rfl) (de_var 1) de_int (fun _ _ => rfl)) (da_cons (de_ix (i_at rfl) (de_var 1) de_int (fun _ _ => rfl)) da_nil))) (de_call rfl (ok_l_draw T hs) (hr.mono (by decide)) gd (by rfl) T.m_l_draw T.F_l_draw.kp T.B_l_draw pass0 (da_cons (de_var 0) (da_cons de_int da_nil))) rfl) (dss_cons (ds_for gd PassesOwn.never (di_enum rfl (by rfl) T.b_enumerate (de_var 2)) (dg_tup gd rfl (dgs_cons (dg_name (i := 5) gd rfl (.inl rfl)) (dgs_cons (dg_name (i := 6) gd rfl (.inl rfl)) dgs_nil))) (dss_one (ds_if (dt_not (dt_tr rfl (de_call rfl (ok_l_is_told T hs) (hr.mono (by decide)) gd (by rfl) T.m_l_is_told T.F_l_is_told.kp T.B_l_is_told pass0 (da_cons (de_var 1) (da_cons (de_var 6) (da_cons (de_getF gd (de_var 3) (de_var 6)) (da_cons (de_cmp (o_eq rfl gd) (de_var 5) (de_var 4) (nomark _)) da_nil))))))) (dss_one (ds_ret de_bl)) dss_nil))) (dss_one (ds_ret de_bl))))) ma_l_are_told
theorem ok_law (T : Tx K mg) (hs : ∃ o, base.get? sysModules = some o) : FnG P w K mg base CX0 6 T.a_law T.d_law ["script"] (spD K (Jr P w K) 1 F_law) :=
  fn_ok T.F_law sc_law hs (t := rd_law) (fun cdv A outer s H E hg hr gd => (dss_cons (ds_set (i := 1) gd rfl (.inl rfl) (de_call rfl (ok_l_deck T hs) (hr.mono (by decide)) gd (by rfl) T.m_l_deck T.F_l_deck.kp T.B_l_deck pass0 (da_cons (de_var 0) da_nil))) (dss_cons (ds_for gd PassesOwn.never (di_rng (by rfl) T.b_range de_int) (dg_name (i := 2) gd rfl (.inl rfl)) (dss_cons (ds_set (i := 3) gd rfl (.inl rfl) (de_call rfl (ok_l_standing T hs) (hr.mono (by decide)) gd (by rfl) T.m_l_standing T.F_l_standing.kp T.B_l_standing pass0 (da_cons (de_var 1) (da_cons (de_call rfl (ok_l_pick T hs) (hr.mono (by decide)) gd (by rfl) T.m_l_pick T.F_l_pick.kp T.B_l_pick pass0 (da_cons (de_var 1) (da_cons (de_fz gd (de_lst (da_cons de_int (da_cons de_int (da_cons de_int (da_cons de_int (da_cons de_int (da_cons de_int da_nil)))))))) da_nil))) (da_cons (de_call rfl (ok_l_draw T hs) (hr.mono (by decide)) gd (by rfl) T.m_l_draw T.F_l_draw.kp T.B_l_draw pass0 (da_cons (de_var 1) (da_cons de_int da_nil))) (da_cons de_int da_nil)))))) (dss_one (ds_if (dt_not (dt_tr rfl (de_call rfl (ok_l_are_told T hs) (hr.mono (by decide)) gd (by rfl) T.m_l_are_told T.F_l_are_told.kp T.B_l_are_told pass0 (da_cons (de_var 1) (da_cons (de_var 3) (da_cons (de_fz gd (de_listRng gd (by rfl) T.b_list (by rfl) T.b_range (de_callB (c_len rfl) (by rfl) T.b_len (by decide +kernel) (da_cons (de_ix (i_at rfl) (de_var 3) de_int (fun _ _ => rfl)) da_nil)))) da_nil)))))) (dss_one (ds_ret de_bl)) dss_nil)))) (dss_cons (ds_asg (de_call rfl (ok_l_row T hs) (hr.mono (by decide)) gd (by rfl) T.m_l_row T.F_l_row.kp T.B_l_row pass0 (da_cons (de_var 1) (da_cons de_int da_nil))) (dg_tup gd rfl (dgs_cons (dg_name (i := 4) gd rfl (.inl rfl)) (dgs_cons (dg_name (i := 5) gd rfl (.inl rfl)) dgs_nil)))) (dss_cons (ds_if (dt_not (dt_tr rfl (de_call rfl (ok_l_are_told T hs) (hr.mono (by decide)) gd (by rfl) T.m_l_are_told T.F_l_are_told.kp T.B_l_are_told pass0 (da_cons (de_var 1) (da_cons (de_var 4) (da_cons (de_fz gd (de_lst (da_cons (de_ix (i_at rfl) (de_var 5) (de_neg de_int) (fun _ _ => rfl)) (da_cons (de_ix (i_at rfl) (de_var 5) de_int (fun _ _ => rfl)) (da_cons (de_ix (i_at rfl) (de_var 5) de_int (fun _ _ => rfl)) (da_cons (de_ix (i_at rfl) (de_var 5) de_int (fun _ _ => rfl)) da_nil)))))) da_nil)))))) (dss_one (ds_ret de_bl)) dss_nil) (dss_cons (ds_set (i := 3) gd rfl (.inl rfl) (de_call rfl (ok_l_standing T hs) (hr.mono (by decide)) gd (by rfl) T.m_l_standing T.F_l_standing.kp T.B_l_standing pass0 (da_cons (de_var 1) (da_cons de_int (da_cons de_int (da_cons de_int da_nil)))))) (dss_one (ds_ret (de_call rfl (ok_l_are_told T hs) (hr.mono (by decide)) gd (by rfl) T.m_l_are_told T.F_l_are_told.kp T.B_l_are_told pass0 (da_cons (de_var 1) (da_cons (de_var 3) (da_cons (de_fz gd (de_cut rfl (de_call rfl (ok_l_mixed T hs) (hr.mono (by decide)) gd (by rfl) T.m_l_mixed T.F_l_mixed.kp T.B_l_mixed pass0 (da_cons (de_var 1) (da_cons (de_fz gd (de_listRng gd (by rfl) T.b_list (by rfl) T.b_range de_int)) da_nil))) do_none (do_some de_int))) da_nil)))))))))))) ma_law
end
set_option maxHeartbeats 0 in
theorem all_mk {P : Program} {w : World} {K : PySem.W.Frag} {h : Heap} {mg : Str → Option Value} {fa : Addr} (X : K.In h) (G : h.Ns mainGlobals mg) (hfa : mg "law" = some (.ref fa))
    {f_l_deck : Addr} {od_l_deck an_l_deck : Option Addr} {sl_l_deck : Array (Option Value)} {oc_l_deck kV_l_deck dc_l_deck pm_l_deck cd_l_deck ct_l_deck : Value}
    (a_l_deck : PySem.W.nsIn K mainGlobals "_law_deck" = some (some (.ref f_l_deck))) (l_l_deck : K.lookup f_l_deck = some ⟨oc_l_deck, od_l_deck, .func (PySem.W.fnOf "_law_deck" "_law_deck" (defArgs st_l_deck) (defBody st_l_deck) (defScope st_l_deck) .none kV_l_deck dc_l_deck pm_l_deck an_l_deck cd_l_deck ct_l_deck), sl_l_deck⟩) (c_l_deck : PySem.W.codeIn K cd_l_deck "_law_deck" = true) (k_l_deck : PySem.W.keepIn K (.ref f_l_deck) = true)
    {f_l_draw : Addr} {od_l_draw an_l_draw : Option Addr} {sl_l_draw : Array (Option Value)} {oc_l_draw kV_l_draw dc_l_draw pm_l_draw cd_l_draw ct_l_draw : Value}
    (a_l_draw : PySem.W.nsIn K mainGlobals "_law_draw" = some (some (.ref f_l_draw))) (l_l_draw : K.lookup f_l_draw = some ⟨oc_l_draw, od_l_draw, .func (PySem.W.fnOf "_law_draw" "_law_draw" (defArgs st_l_draw) (defBody st_l_draw) (defScope st_l_draw) .none kV_l_draw dc_l_draw pm_l_draw an_l_draw cd_l_draw ct_l_draw), sl_l_draw⟩) (c_l_draw : PySem.W.codeIn K cd_l_draw "_law_draw" = true) (k_l_draw : PySem.W.keepIn K (.ref f_l_draw) = true)
    {f_l_mixed : Addr} {od_l_mixed an_l_mixed : Option Addr} {sl_l_mixed : Array (Option Value)} {oc_l_mixed kV_l_mixed dc_l_mixed pm_l_mixed cd_l_mixed ct_l_mixed : Value}
    (a_l_mixed : PySem.W.nsIn K mainGlobals "_law_mixed" = some (some (.ref f_l_mixed))) (l_l_mixed : K.lookup f_l_mixed = some ⟨oc_l_mixed, od_l_mixed, .func (PySem.W.fnOf "_law_mixed" "_law_mixed" (defArgs st_l_mixed) (defBody st_l_mixed) (defScope st_l_mixed) .none kV_l_mixed dc_l_mixed pm_l_mixed an_l_mixed cd_l_mixed ct_l_mixed), sl_l_mixed⟩) (c_l_mixed : PySem.W.codeIn K cd_l_mixed "_law_mixed" = true) (k_l_mixed : PySem.W.keepIn K (.ref f_l_mixed) = true)
    {f_l_pick : Addr} {od_l_pick an_l_pick : Option Addr} {sl_l_pick : Array (Option Value)} {oc_l_pick kV_l_pick dc_l_pick pm_l_pick cd_l_pick ct_l_pick : Value}
    (a_l_pick : PySem.W.nsIn K mainGlobals "_law_pick" = some (some (.ref f_l_pick))) (l_l_pick : K.lookup f_l_pick = some ⟨oc_l_pick, od_l_pick, .func (PySem.W.fnOf "_law_pick" "_law_pick" (defArgs st_l_pick) (defBody st_l_pick) (defScope st_l_pick) .none kV_l_pick dc_l_pick pm_l_pick an_l_pick cd_l_pick ct_l_pick), sl_l_pick⟩) (c_l_pick : PySem.W.codeIn K cd_l_pick "_law_pick" = true) (k_l_pick : PySem.W.keepIn K (.ref f_l_pick) = true)
    {f_l_row : Addr} {od_l_row an_l_row : Option Addr} {sl_l_row : Array (Option Value)} {oc_l_row kV_l_row dc_l_row pm_l_row cd_l_row ct_l_row : Value}
    (a_l_row : PySem.W.nsIn K mainGlobals "_law_row" = some (some (.ref f_l_row))) (l_l_row : K.lookup f_l_row = some ⟨oc_l_row, od_l_row, .func (PySem.W.fnOf "_law_row" "_law_row" (defArgs st_l_row) (defBody st_l_row) (defScope st_l_row) .none kV_l_row dc_l_row pm_l_row an_l_row cd_l_row ct_l_row), sl_l_row⟩) (c_l_row : PySem.W.codeIn K cd_l_row "_law_row" = true) (k_l_row : PySem.W.keepIn K (.ref f_l_row) = true)
    {f_l_hands : Addr} {od_l_hands an_l_hands : Option Addr} {sl_l_hands : Array (Option Value)} {oc_l_hands kV_l_hands dc_l_hands pm_l_hands cd_l_hands ct_l_hands : Value}
    (a_l_hands : PySem.W.nsIn K mainGlobals "_law_hands" = some (some (.ref f_l_hands))) (l_l_hands : K.lookup f_l_hands = some ⟨oc_l_hands, od_l_hands, .func (PySem.W.fnOf "_law_hands" "_law_hands" (defArgs st_l_hands) (defBody st_l_hands) (defScope st_l_hands) .none kV_l_hands dc_l_hands pm_l_hands an_l_hands cd_l_hands ct_l_hands), sl_l_hands⟩) (c_l_hands : PySem.W.codeIn K cd_l_hands "_law_hands" = true) (k_l_hands : PySem.W.keepIn K (.ref f_l_hands) = true)
    {f_l_fields : Addr} {od_l_fields an_l_fields : Option Addr} {sl_l_fields : Array (Option Value)} {oc_l_fields kV_l_fields dc_l_fields pm_l_fields cd_l_fields ct_l_fields : Value}
    (a_l_fields : PySem.W.nsIn K mainGlobals "_law_fields" = some (some (.ref f_l_fields))) (l_l_fields : K.lookup f_l_fields = some ⟨oc_l_fields, od_l_fields, .func (PySem.W.fnOf "_law_fields" "_law_fields" (defArgs st_l_fields) (defBody st_l_fields) (defScope st_l_fields) .none kV_l_fields dc_l_fields pm_l_fields an_l_fields cd_l_fields ct_l_fields), sl_l_fields⟩) (c_l_fields : PySem.W.codeIn K cd_l_fields "_law_fields" = true) (k_l_fields : PySem.W.keepIn K (.ref f_l_fields) = true)
    {f_l_mark : Addr} {od_l_mark an_l_mark : Option Addr} {sl_l_mark : Array (Option Value)} {oc_l_mark kV_l_mark dc_l_mark pm_l_mark cd_l_mark ct_l_mark : Value}
    (a_l_mark : PySem.W.nsIn K mainGlobals "_law_mark" = some (some (.ref f_l_mark))) (l_l_mark : K.lookup f_l_mark = some ⟨oc_l_mark, od_l_mark, .func (PySem.W.fnOf "_law_mark" "_law_mark" (defArgs st_l_mark) (defBody st_l_mark) (defScope st_l_mark) .none kV_l_mark dc_l_mark pm_l_mark an_l_mark cd_l_mark ct_l_mark), sl_l_mark⟩) (c_l_mark : PySem.W.codeIn K cd_l_mark "_law_mark" = true) (k_l_mark : PySem.W.keepIn K (.ref f_l_mark) = true)
    {f_l_standing : Addr} {od_l_standing an_l_standing : Option Addr} {sl_l_standing : Array (Option Value)} {oc_l_standing kV_l_standing dc_l_standing pm_l_standing cd_l_standing ct_l_standing : Value}
    (a_l_standing : PySem.W.nsIn K mainGlobals "_law_standing" = some (some (.ref f_l_standing))) (l_l_standing : K.lookup f_l_standing = some ⟨oc_l_standing, od_l_standing, .func (PySem.W.fnOf "_law_standing" "_law_standing" (defArgs st_l_standing) (defBody st_l_standing) (defScope st_l_standing) .none kV_l_standing dc_l_standing pm_l_standing an_l_standing cd_l_standing ct_l_standing), sl_l_standing⟩) (c_l_standing : PySem.W.codeIn K cd_l_standing "_law_standing" = true) (k_l_standing : PySem.W.keepIn K (.ref f_l_standing) = true)
    {f_l_depths : Addr} {od_l_depths an_l_depths : Option Addr} {sl_l_depths : Array (Option Value)} {oc_l_depths kV_l_depths dc_l_depths pm_l_depths cd_l_depths ct_l_depths : Value}
    (a_l_depths : PySem.W.nsIn K mainGlobals "_law_depths" = some (some (.ref f_l_depths))) (l_l_depths : K.lookup f_l_depths = some ⟨oc_l_depths, od_l_depths, .func (PySem.W.fnOf "_law_depths" "_law_depths" (defArgs st_l_depths) (defBody st_l_depths) (defScope st_l_depths) .none kV_l_depths dc_l_depths pm_l_depths an_l_depths cd_l_depths ct_l_depths), sl_l_depths⟩) (c_l_depths : PySem.W.codeIn K cd_l_depths "_law_depths" = true) (k_l_depths : PySem.W.keepIn K (.ref f_l_depths) = true)
    {f_p_ways_of_held : Addr} {od_p_ways_of_held an_p_ways_of_held : Option Addr} {sl_p_ways_of_held : Array (Option Value)} {oc_p_ways_of_held kV_p_ways_of_held dc_p_ways_of_held pm_p_ways_of_held cd_p_ways_of_held ct_p_ways_of_held : Value}
    (a_p_ways_of_held : PySem.W.nsIn K mainGlobals "_ways_of_held" = some (some (.ref f_p_ways_of_held))) (l_p_ways_of_held : K.lookup f_p_ways_of_held = some ⟨oc_p_ways_of_held, od_p_ways_of_held, .func (PySem.W.fnOf "_ways_of_held" "_ways_of_held" (defArgs st_p_ways_of_held) (defBody st_p_ways_of_held) (defScope st_p_ways_of_held) .none kV_p_ways_of_held dc_p_ways_of_held pm_p_ways_of_held an_p_ways_of_held cd_p_ways_of_held ct_p_ways_of_held), sl_p_ways_of_held⟩) (c_p_ways_of_held : PySem.W.codeIn K cd_p_ways_of_held "_ways_of_held" = true) (k_p_ways_of_held : PySem.W.keepIn K (.ref f_p_ways_of_held) = true)
    {f_p_ways : Addr} {od_p_ways an_p_ways : Option Addr} {sl_p_ways : Array (Option Value)} {oc_p_ways kV_p_ways dc_p_ways pm_p_ways cd_p_ways ct_p_ways : Value}
    (a_p_ways : PySem.W.nsIn K mainGlobals "_ways" = some (some (.ref f_p_ways))) (l_p_ways : K.lookup f_p_ways = some ⟨oc_p_ways, od_p_ways, .func (PySem.W.fnOf "_ways" "_ways" (defArgs st_p_ways) (defBody st_p_ways) (defScope st_p_ways) .none kV_p_ways dc_p_ways pm_p_ways an_p_ways cd_p_ways ct_p_ways), sl_p_ways⟩) (c_p_ways : PySem.W.codeIn K cd_p_ways "_ways" = true) (k_p_ways : PySem.W.keepIn K (.ref f_p_ways) = true)
    {f_way_to : Addr} {od_way_to an_way_to : Option Addr} {sl_way_to : Array (Option Value)} {oc_way_to kV_way_to dc_way_to pm_way_to cd_way_to ct_way_to : Value}
    (a_way_to : PySem.W.nsIn K mainGlobals "way_to" = some (some (.ref f_way_to))) (l_way_to : K.lookup f_way_to = some ⟨oc_way_to, od_way_to, .func (PySem.W.fnOf "way_to" "way_to" (defArgs st_way_to) (defBody st_way_to) (defScope st_way_to) .none kV_way_to dc_way_to pm_way_to an_way_to cd_way_to ct_way_to), sl_way_to⟩) (c_way_to : PySem.W.codeIn K cd_way_to "way_to" = true) (k_way_to : PySem.W.keepIn K (.ref f_way_to) = true)
    {f_l_is_way : Addr} {od_l_is_way an_l_is_way : Option Addr} {sl_l_is_way : Array (Option Value)} {oc_l_is_way kV_l_is_way dc_l_is_way pm_l_is_way cd_l_is_way ct_l_is_way : Value}
    (a_l_is_way : PySem.W.nsIn K mainGlobals "_law_is_way" = some (some (.ref f_l_is_way))) (l_l_is_way : K.lookup f_l_is_way = some ⟨oc_l_is_way, od_l_is_way, .func (PySem.W.fnOf "_law_is_way" "_law_is_way" (defArgs st_l_is_way) (defBody st_l_is_way) (defScope st_l_is_way) .none kV_l_is_way dc_l_is_way pm_l_is_way an_l_is_way cd_l_is_way ct_l_is_way), sl_l_is_way⟩) (c_l_is_way : PySem.W.codeIn K cd_l_is_way "_law_is_way" = true) (k_l_is_way : PySem.W.keepIn K (.ref f_l_is_way) = true)
    {f_l_is_told : Addr} {od_l_is_told an_l_is_told : Option Addr} {sl_l_is_told : Array (Option Value)} {oc_l_is_told kV_l_is_told dc_l_is_told pm_l_is_told cd_l_is_told ct_l_is_told : Value}
    (a_l_is_told : PySem.W.nsIn K mainGlobals "_law_is_told" = some (some (.ref f_l_is_told))) (l_l_is_told : K.lookup f_l_is_told = some ⟨oc_l_is_told, od_l_is_told, .func (PySem.W.fnOf "_law_is_told" "_law_is_told" (defArgs st_l_is_told) (defBody st_l_is_told) (defScope st_l_is_told) .none kV_l_is_told dc_l_is_told pm_l_is_told an_l_is_told cd_l_is_told ct_l_is_told), sl_l_is_told⟩) (c_l_is_told : PySem.W.codeIn K cd_l_is_told "_law_is_told" = true) (k_l_is_told : PySem.W.keepIn K (.ref f_l_is_told) = true)
    {f_l_are_told : Addr} {od_l_are_told an_l_are_told : Option Addr} {sl_l_are_told : Array (Option Value)} {oc_l_are_told kV_l_are_told dc_l_are_told pm_l_are_told cd_l_are_told ct_l_are_told : Value}
    (a_l_are_told : PySem.W.nsIn K mainGlobals "_law_are_told" = some (some (.ref f_l_are_told))) (l_l_are_told : K.lookup f_l_are_told = some ⟨oc_l_are_told, od_l_are_told, .func (PySem.W.fnOf "_law_are_told" "_law_are_told" (defArgs st_l_are_told) (defBody st_l_are_told) (defScope st_l_are_told) .none kV_l_are_told dc_l_are_told pm_l_are_told an_l_are_told cd_l_are_told ct_l_are_told), sl_l_are_told⟩) (c_l_are_told : PySem.W.codeIn K cd_l_are_told "_law_are_told" = true) (k_l_are_told : PySem.W.keepIn K (.ref f_l_are_told) = true)
    {f_law : Addr} {od_law an_law : Option Addr} {sl_law : Array (Option Value)} {oc_law kV_law dc_law pm_law cd_law ct_law : Value}
    (a_law : PySem.W.nsIn K mainGlobals "law" = some (some (.ref f_law))) (l_law : K.lookup f_law = some ⟨oc_law, od_law, .func (PySem.W.fnOf "law" "law" (defArgs st_law) (defBody st_law) (defScope st_law) .none kV_law dc_law pm_law an_law cd_law ct_law), sl_law⟩) (c_law : PySem.W.codeIn K cd_law "law" = true) (k_law : PySem.W.keepIn K (.ref f_law) = true)
    (z_abs : PySem.W.nsIn K mainGlobals "abs" = some none)
    (z_bool : PySem.W.nsIn K mainGlobals "bool" = some none)
    (z_enumerate : PySem.W.nsIn K mainGlobals "enumerate" = some none)
    (z_int : PySem.W.nsIn K mainGlobals "int" = some none)
    (z_isinstance : PySem.W.nsIn K mainGlobals "isinstance" = some none)
    (z_len : PySem.W.nsIn K mainGlobals "len" = some none)
    (z_list : PySem.W.nsIn K mainGlobals "list" = some none)
    (z_range : PySem.W.nsIn K mainGlobals "range" = some none)
    (z_repr : PySem.W.nsIn K mainGlobals "repr" = some none)
    (z_sorted : PySem.W.nsIn K mainGlobals "sorted" = some none)
    (z_tuple : PySem.W.nsIn K mainGlobals "tuple" = some none) :
    ∃ fd : FuncData, (∀ (s : Shared) (v : Value), BindsTo s fd ⟨[v], []⟩ [("script", v)]) ∧ ∀ base : Heap, K.In base → base.Ns mainGlobals mg → (∃ o, base.get? sysModules = some o) → FnG P w K mg base CX0 6 fa fd ["script"] (spD K (Jr P w K) 1 F_law) := by
  have e := hfa.symm.trans (PySem.W.mg_of X G a_law)
  cases e
  have F_l_deck := fun_mk (st := st_l_deck) l_l_deck c_l_deck k_l_deck
  have B_l_deck := F_l_deck.binds (ps := ["script"]) fun _ _ _ _ _ _ us hl => match us, hl with | [_], _ => rfl
  have F_l_draw := fun_mk (st := st_l_draw) l_l_draw c_l_draw k_l_draw
  have B_l_draw := F_l_draw.binds (ps := ["deck", "many"]) fun _ _ _ _ _ _ us hl => match us, hl with | [_, _], _ => rfl
  have F_l_mixed := fun_mk (st := st_l_mixed) l_l_mixed c_l_mixed k_l_mixed
  have B_l_mixed := F_l_mixed.binds (ps := ["deck", "items"]) fun _ _ _ _ _ _ us hl => match us, hl with | [_, _], _ => rfl
  have F_l_pick := fun_mk (st := st_l_pick) l_l_pick c_l_pick k_l_pick
  have B_l_pick := F_l_pick.binds (ps := ["deck", "items"]) fun _ _ _ _ _ _ us hl => match us, hl with | [_, _], _ => rfl
  have F_l_row := fun_mk (st := st_l_row) l_l_row c_l_row k_l_row
  have B_l_row := F_l_row.binds (ps := ["deck", "many"]) fun _ _ _ _ _ _ us hl => match us, hl with | [_, _], _ => rfl
  have F_l_hands := fun_mk (st := st_l_hands) l_l_hands c_l_hands k_l_hands
  have B_l_hands := F_l_hands.binds (ps := ["deck", "some", "most"]) fun _ _ _ _ _ _ us hl => match us, hl with | [_, _, _], _ => rfl
  have F_l_fields := fun_mk (st := st_l_fields) l_l_fields c_l_fields k_l_fields
  have B_l_fields := F_l_fields.binds (ps := ["deck", "some"]) fun _ _ _ _ _ _ us hl => match us, hl with | [_, _], _ => rfl
  have F_l_mark := fun_mk (st := st_l_mark) l_l_mark c_l_mark k_l_mark
  have B_l_mark := F_l_mark.binds (ps := ["deck", "cell"]) fun _ _ _ _ _ _ us hl => match us, hl with | [_, _], _ => rfl
  have F_l_standing := fun_mk (st := st_l_standing) l_l_standing c_l_standing k_l_standing
  have B_l_standing := F_l_standing.binds (ps := ["deck", "cells", "spare", "most"]) fun _ _ _ _ _ _ us hl => match us, hl with | [_, _, _, _], _ => rfl
  have F_l_depths := fun_mk (st := st_l_depths) l_l_depths c_l_depths k_l_depths
  have B_l_depths := F_l_depths.binds (ps := ["heap", "hands"]) fun _ _ _ _ _ _ us hl => match us, hl with | [_, _], _ => rfl
  have F_p_ways_of_held := fun_mk (st := st_p_ways_of_held) l_p_ways_of_held c_p_ways_of_held k_p_ways_of_held
  have B_p_ways_of_held := F_p_ways_of_held.binds (ps := ["hands"]) fun _ _ _ _ _ _ us hl => match us, hl with | [_], _ => rfl
  have F_p_ways := fun_mk (st := st_p_ways) l_p_ways c_p_ways k_p_ways
  have B_p_ways := F_p_ways.binds (ps := ["standing"]) fun _ _ _ _ _ _ us hl => match us, hl with | [_], _ => rfl
  have F_way_to := fun_mk (st := st_way_to) l_way_to c_way_to k_way_to
  have B_way_to := F_way_to.binds (ps := ["standing", "cell"]) fun _ _ _ _ _ _ us hl => match us, hl with | [_, _], _ => rfl
  have F_l_is_way := fun_mk (st := st_l_is_way) l_l_is_way c_l_is_way k_l_is_way
  have B_l_is_way := F_l_is_way.binds (ps := ["stand", "told", "cell"]) fun _ _ _ _ _ _ us hl => match us, hl with | [_, _, _], _ => rfl
  have F_l_is_told := fun_mk (st := st_l_is_told) l_l_is_told c_l_is_told k_l_is_told
  have B_l_is_told := F_l_is_told.binds (ps := ["stand", "cell", "due", "is_named"]) fun _ _ _ _ _ _ us hl => match us, hl with | [_, _, _, _], _ => rfl
  have F_l_are_told := fun_mk (st := st_l_are_told) l_l_are_told c_l_are_told k_l_are_told
  have B_l_are_told := F_l_are_told.binds (ps := ["deck", "stand", "some"]) fun _ _ _ _ _ _ us hl => match us, hl with | [_, _, _], _ => rfl
  have F_law := fun_mk (st := st_law) l_law c_law k_law
  have B_law := F_law.binds (ps := ["script"]) fun _ _ _ _ _ _ us hl => match us, hl with | [_], _ => rfl
  refine ⟨_, fun s v => .of_eq rfl, fun base _ _ hs => ok_law (T := { a_l_deck := f_l_deck, d_l_deck := _, F_l_deck := F_l_deck, m_l_deck := PySem.W.mg_of X G a_l_deck, B_l_deck := B_l_deck, a_l_draw := f_l_draw, d_l_draw := _, F_l_draw := F_l_draw, m_l_draw := PySem.W.mg_of X G a_l_draw, B_l_draw := B_l_draw, a_l_mixed := f_l_mixed, d_l_mixed := _, F_l_mixed := F_l_mixed, m_l_mixed := PySem.W.mg_of X G a_l_mixed, B_l_mixed := B_l_mixed, a_l_pick := f_l_pick, d_l_pick := _, F_l_pick := F_l_pick, m_l_pick := PySem.W.mg_of X G a_l_pick, B_l_pick := B_l_pick, a_l_row := f_l_row, d_l_row := _, F_l_row := F_l_row, m_l_row := PySem.W.mg_of X G a_l_row, B_l_row := B_l_row, a_l_hands := f_l_hands, d_l_hands := _, F_l_hands := F_l_hands, m_l_hands := PySem.W.mg_of X G a_l_hands, B_l_hands := B_l_hands, a_l_fields := f_l_fields, d_l_fields := _, F_l_fields := F_l_fields, m_l_fields := PySem.W.mg_of X G a_l_fields, B_l_fields := B_l_fields, a_l_mark := f_l_mark, d_l_mark := _, F_l_mark := F_l_mark, m_l_mark := PySem.W.mg_of X G a_l_mark, B_l_mark := B_l_mark, a_l_standing := f_l_standing, d_l_standing := _, F_l_standing := F_l_standing, m_l_standing := PySem.W.mg_of X G a_l_standing, B_l_standing := B_l_standing, a_l_depths := f_l_depths, d_l_depths := _, F_l_depths := F_l_depths, m_l_depths := PySem.W.mg_of X G a_l_depths, B_l_depths := B_l_depths, a_p_ways_of_held := f_p_ways_of_held, d_p_ways_of_held := _, F_p_ways_of_held := F_p_ways_of_held, m_p_ways_of_held := PySem.W.mg_of X G a_p_ways_of_held, B_p_ways_of_held := B_p_ways_of_held, a_p_ways := f_p_ways, d_p_ways := _, F_p_ways := F_p_ways, m_p_ways := PySem.W.mg_of X G a_p_ways, B_p_ways := B_p_ways, a_way_to := f_way_to, d_way_to := _, F_way_to := F_way_to, m_way_to := PySem.W.mg_of X G a_way_to, B_way_to := B_way_to, a_l_is_way := f_l_is_way, d_l_is_way := _, F_l_is_way := F_l_is_way, m_l_is_way := PySem.W.mg_of X G a_l_is_way, B_l_is_way := B_l_is_way, a_l_is_told := f_l_is_told, d_l_is_told := _, F_l_is_told := F_l_is_told, m_l_is_told := PySem.W.mg_of X G a_l_is_told, B_l_is_told := B_l_is_told, a_l_are_told := f_l_are_told, d_l_are_told := _, F_l_are_told := F_l_are_told, m_l_are_told := PySem.W.mg_of X G a_l_are_told, B_l_are_told := B_l_are_told, a_law := fa, d_law := _, F_law := F_law, m_law := PySem.W.mg_of X G a_law, B_law := B_law, P_way_to_1_0 := perm_mk (fun s us hl => match us, hl with | [], hl => nomatch hl | v0 :: [], hl => nomatch hl | v0 :: v1 :: _, _ => .of_eq rfl), b_abs := PySem.W.mg_none_of X G z_abs, b_bool := PySem.W.mg_none_of X G z_bool, b_enumerate := PySem.W.mg_none_of X G z_enumerate, b_int := PySem.W.mg_none_of X G z_int, b_isinstance := PySem.W.mg_none_of X G z_isinstance, b_len := PySem.W.mg_none_of X G z_len, b_list := PySem.W.mg_none_of X G z_list, b_range := PySem.W.mg_none_of X G z_range, b_repr := PySem.W.mg_none_of X G z_repr, b_sorted := PySem.W.mg_none_of X G z_sorted, b_tuple := PySem.W.mg_none_of X G z_tuple }) hs⟩
end GK
open PySem PySem.W PyProof.Rows
set_option maxHeartbeats 0 in
theorem PySem.Challenge.cw_guardbooks_k05_whole_shortest_ways_holds : PySem.Challenge.rw_guardbooks_k05_whole_shortest_ways.Holds := by
  w_on; o_law; k_head; (case hw => w_witness2)
  k_fill
  refine GB.end_of (l := PySem.Challenge.rw_guardbooks_k05_whole_shortest_ways) (n := 63) (k := 6) (x := "script") (J := fun w => GK.Jr PySem.Challenge.pw_guardbooks_k05_whole_shortest_ways w _) (F := GK.F_law) rfl (by decide) rfl ⟨rfl, by decide, by decide⟩ (by decide +kernel) (fun w h Y => PySem.W.kIn_of Y) ?F (fun _ _ _ _ h => h) GK.go_law
  case F =>
    intro w mg fa h KX G hmg
    refine' GK.all_mk KX G hmg ?a_l_deck ?l_l_deck ?c_l_deck ?k_l_deck ?a_l_draw ?l_l_draw ?c_l_draw ?k_l_draw ?a_l_mixed ?l_l_mixed ?c_l_mixed ?k_l_mixed ?a_l_pick ?l_l_pick ?c_l_pick ?k_l_pick ?a_l_row ?l_l_row ?c_l_row ?k_l_row ?a_l_hands ?l_l_hands ?c_l_hands ?k_l_hands ?a_l_fields ?l_l_fields ?c_l_fields ?k_l_fields ?a_l_mark ?l_l_mark ?c_l_mark ?k_l_mark ?a_l_standing ?l_l_standing ?c_l_standing ?k_l_standing ?a_l_depths ?l_l_depths ?c_l_depths ?k_l_depths ?a_p_ways_of_held ?l_p_ways_of_held ?c_p_ways_of_held ?k_p_ways_of_held ?a_p_ways ?l_p_ways ?c_p_ways ?k_p_ways ?a_way_to ?l_way_to ?c_way_to ?k_way_to ?a_l_is_way ?l_l_is_way ?c_l_is_way ?k_l_is_way ?a_l_is_told ?l_l_is_told ?c_l_is_told ?k_l_is_told ?a_l_are_told ?l_l_are_told ?c_l_are_told ?k_l_are_told ?a_law ?l_law ?c_law ?k_law ?z_abs ?z_bool ?z_enumerate ?z_int ?z_isinstance ?z_len ?z_list ?z_range ?z_repr ?z_sorted ?z_tuple
    (case a_l_deck => k_is); (case l_l_deck => k_is); (case c_l_deck => k_is); (case k_l_deck => k_is); (case a_l_draw => k_is); (case l_l_draw => k_is); (case c_l_draw => k_is); (case k_l_draw => k_is); (case a_l_mixed => k_is); (case l_l_mixed => k_is); (case c_l_mixed => k_is); (case k_l_mixed => k_is); (case a_l_pick => k_is); (case l_l_pick => k_is); (case c_l_pick => k_is); (case k_l_pick => k_is); (case a_l_row => k_is); (case l_l_row => k_is); (case c_l_row => k_is); (case k_l_row => k_is); (case a_l_hands => k_is); (case l_l_hands => k_is); (case c_l_hands => k_is); (case k_l_hands => k_is); (case a_l_fields => k_is); (case l_l_fields => k_is); (case c_l_fields => k_is); (case k_l_fields => k_is); (case a_l_mark => k_is); (case l_l_mark => k_is); (case c_l_mark => k_is); (case k_l_mark => k_is); (case a_l_standing => k_is); (case l_l_standing => k_is); (case c_l_standing => k_is); (case k_l_standing => k_is); (case a_l_depths => k_is); (case l_l_depths => k_is); (case c_l_depths => k_is); (case k_l_depths => k_is); (case a_p_ways_of_held => k_is); (case l_p_ways_of_held => k_is); (case c_p_ways_of_held => k_is); (case k_p_ways_of_held => k_is); (case a_p_ways => k_is); (case l_p_ways => k_is); (case c_p_ways => k_is); (case k_p_ways => k_is); (case a_way_to => k_is); (case l_way_to => k_is); (case c_way_to => k_is); (case k_way_to => k_is); (case a_l_is_way => k_is); (case l_l_is_way => k_is); (case c_l_is_way => k_is); (case k_l_is_way => k_is); (case a_l_is_told => k_is); (case l_l_is_told => k_is); (case c_l_is_told => k_is); (case k_l_is_told => k_is); (case a_l_are_told => k_is); (case l_l_are_told => k_is); (case c_l_are_told => k_is); (case k_l_are_told => k_is); (case a_law => k_is); (case l_law => k_is); (case c_law => k_is); (case k_law => k_is); (case z_abs => k_is); (case z_bool => k_is); (case z_enumerate => k_is); (case z_int => k_is); (case z_isinstance => k_is); (case z_len => k_is); (case z_list => k_is); (case z_range => k_is); (case z_repr => k_is); (case z_sorted => k_is); (case z_tuple => k_is)

