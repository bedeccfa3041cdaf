import PyProof.Rows.All
import HandS.ForMost
import HandS.Walk
import HandS.IsInst
import HandS.Conv
import HandS.Deep
import PyProof.ReprRoads
import HandS.TupAny
import HandS.TupMul
import HandS.Wide
import HandS.Zip
import KE.GoesEnum
import HandS.More
import HandS.Dict
import HandS.Style
import PyProof.ReprBulk
import HandS.SortInts
import KE.DataCmp
import HandS.ExcOwn
import HandS.WordsExc
import HandS.Flow
import KE.KExcIs
import KE.KIsAll
import PySem.Challenge.RW_guardbooks_k46_whole_least_parts
set_option Elab.async false
set_option linter.all false
namespace GB
open PySem PySem.Spec PyProof.Rows L2

/-! data in the abstract heap: what lies there for good -/
def Firm : HO → Prop
  | .tup _ => True
  | .frz _ _ => True
  | .ext _ => True
  | _ => False
def Keep (H H' : Hp) : Prop := ∀ a o, H a = some o → Firm o → H' a = some o
theorem Keep.rfl' (H : Hp) : Keep H H := fun _ _ h _ => h
theorem Keep.tr {H H1 H2 : Hp} (p : Keep H H1) (q : Keep H1 H2) : Keep H H2 := fun a o h f => q a o (p a o h f) f
theorem keep_of_same {H H' : Hp} (p : Same H H') : Keep H H' := fun a o h _ => p a o h
theorem same_new {H : Hp} {p : Addr} {o : HO} (h : H p = none) : Same H (upd H p o) := fun b x e => by
  rw [upd_ne (ne_of_none e h)]; exact e

def keyD : Key → PyData
  | .inl i => .int i
  | .inr z => .str z
mutual
inductive Br (K : PySem.W.Frag) (H : Hp) : V → PyData → Prop
  | non : Br K H .non .none
  | bl (b : Bool) : Br K H (.bl b) (.bool b)
  | int (i : Int) : Br K H (.int i) (.int i)
  | str (z : Str) : Br K H (.str z) (.str z)
  | tup {a : Addr} {vs : List V} {ds : List PyData} : SqT K H a vs → BrA K H vs ds → Br K H (.ref a) (.tuple ds)
  | lst {a : Addr} {o : Obj} {vs : List V} {ds : List PyData} : H a = some (.frz o (.lst vs)) → (a == sysModules) = false → BrA K H vs ds → Br K H (.ref a) (.list ds)
  | dct {a : Addr} {o : Obj} {vks : List (Key × V)} {kvs : List (PyData × PyData)} : H a = some (.frz o (.dK vks)) → kvs.map (·.1) = vks.map (fun p => keyD p.1) → BrA K H (vks.map (·.2)) (kvs.map (·.2)) → Br K H (.ref a) (.dict kvs)
inductive BrA (K : PySem.W.Frag) (H : Hp) : List V → List PyData → Prop
  | nil : BrA K H [] []
  | cons {v : V} {vs : List V} {d : PyData} {ds : List PyData} : Br K H v d → BrA K H vs ds → BrA K H (v :: vs) (d :: ds)
end
section
variable {K : PySem.W.Frag} {H H' : Hp}
theorem sqT_keep (k : Keep H H') {a : Addr} {vs : List V} (h : SqT K H a vs) : SqT K H' a vs := by
  rcases h with (h | ⟨o, h⟩) | h
  · exact .inl (.inl (k _ _ h trivial))
  · exact .inl (.inr ⟨o, k _ _ h trivial⟩)
  · exact .inr h
mutual
theorem Br.keep (k : Keep H H') : ∀ (d : PyData) (v : V), Br K H v d → Br K H' v d
  | .none, _, h => by cases h; exact .non
  | .bool _, _, h => by cases h; exact .bl _
  | .int _, _, h => by cases h; exact .int _
  | .str _, _, h => by cases h; exact .str _
  | .tuple ds, _, h => by cases h with | tup h1 h2 => exact .tup (sqT_keep k h1) (BrA.keep k ds _ h2)
  | .list ds, _, h => by cases h with | lst h1 h2 h3 => exact .lst (k _ _ h1 trivial) h2 (BrA.keep k ds _ h3)
  | .dict kvs, _, h => by cases h with | dct h1 h2 h3 => exact .dct (k _ _ h1 trivial) h2 (BrK.keep k kvs _ h3)
theorem BrA.keep (k : Keep H H') : ∀ (ds : List PyData) (vs : List V), BrA K H vs ds → BrA K H' vs ds
  | [], _, h => by cases h; exact .nil
  | d :: ds, _, h => by cases h with | cons h1 h2 => exact .cons (Br.keep k d _ h1) (BrA.keep k ds _ h2)
theorem BrK.keep (k : Keep H H') : ∀ (kvs : List (PyData × PyData)) (vs : List V), BrA K H vs (kvs.map (·.2)) → BrA K H' vs (kvs.map (·.2))
  | [], _, h => by cases h; exact .nil
  | (_, d) :: kvs, _, h => by cases h with | cons h1 h2 => exact .cons (Br.keep k d _ h1) (BrK.keep k kvs _ h2)
end
theorem BrA.len : ∀ {vs : List V} {ds : List PyData}, BrA K H vs ds → vs.length = ds.length
  | _, [], h => by cases h; rfl
  | _, _ :: _, h => by cases h with | cons _ t => simp [BrA.len t]
theorem BrA.get : ∀ {vs : List V} {ds : List PyData} {i : Nat} {d : PyData}, BrA K H vs ds → ds[i]? = some d → ∃ v, vs[i]? = some v ∧ Br K H v d
  | _, [], _, _, _, e => by simp at e
  | _, _ :: _, 0, _, h, e => by cases h with | cons h1 _ => exact ⟨_, rfl, by simpa using (Option.some.inj e) ▸ h1⟩
  | _, _ :: _, i + 1, _, h, e => by cases h with | cons _ t => obtain ⟨v, h1, h2⟩ := BrA.get (i := i) t (by simpa using e); exact ⟨v, by simpa using h1, h2⟩
theorem BrA.getV : ∀ {vs : List V} {ds : List PyData} {i : Nat} {v : V}, BrA K H vs ds → vs[i]? = some v → ∃ d, ds[i]? = some d ∧ Br K H v d
  | _, [], _, _, h, e => by cases h; simp at e
  | _, _ :: _, 0, _, h, e => by cases h with | cons h1 _ => exact ⟨_, rfl, by simpa using (Option.some.inj e) ▸ h1⟩
  | _, _ :: _, i + 1, _, h, e => by cases h with | cons _ t => obtain ⟨v, h1, h2⟩ := BrA.getV (i := i) t (by simpa using e); exact ⟨v, by simpa using h1, h2⟩
theorem BrA.app : ∀ {vs ws : List V} {ds es : List PyData}, BrA K H vs ds → BrA K H ws es → BrA K H (vs ++ ws) (ds ++ es)
  | _, _, [], _, h, q => by cases h; exact q
  | _, _, _ :: _, _, h, q => by cases h with | cons h1 t => exact .cons h1 (BrA.app t q)
theorem BrA.take : ∀ {vs : List V} {ds : List PyData} (n : Nat), BrA K H vs ds → BrA K H (vs.take n) (ds.take n)
  | _, _, 0, _ => .nil
  | _, [], n + 1, h => by cases h; exact .nil
  | _, _ :: _, n + 1, h => by cases h with | cons h1 t => exact .cons h1 (BrA.take n t)
theorem BrA.drop : ∀ {vs : List V} {ds : List PyData} (n : Nat), BrA K H vs ds → BrA K H (vs.drop n) (ds.drop n)
  | _, _, 0, h => h
  | _, [], n + 1, h => by cases h; exact .nil
  | _, _ :: _, n + 1, h => by cases h with | cons _ t => exact BrA.drop n t
theorem BrA.one {v : V} {d : PyData} (h : Br K H v d) : BrA K H [v] [d] := .cons h .nil
theorem BrA.rep {vs : List V} {ds : List PyData} (h : BrA K H vs ds) : ∀ n : Nat, BrA K H (List.replicate n vs).flatten (List.replicate n ds).flatten
  | 0 => .nil
  | n + 1 => by simp only [List.replicate_succ, List.flatten_cons]; exact h.app (BrA.rep h n)
theorem BrA.set : ∀ {vs : List V} {ds : List PyData} (i : Nat) {v : V} {d : PyData}, BrA K H vs ds → Br K H v d → BrA K H (vs.set i v) (ds.set i d)
  | _, [], _, _, _, h, _ => by cases h; exact .nil
  | _, _ :: _, 0, _, _, h, q => by cases h with | cons _ t => exact .cons q t
  | _, _ :: _, i + 1, _, _, h, q => by cases h with | cons h1 t => exact .cons h1 (BrA.set i t q)
theorem BrA.erase : ∀ {vs : List V} {ds : List PyData} (i : Nat), BrA K H vs ds → BrA K H (vs.eraseIdx i) (ds.eraseIdx i)
  | _, [], _, h => by cases h; exact .nil
  | _, _ :: _, 0, h => by cases h with | cons _ t => exact t
  | _, _ :: _, i + 1, h => by cases h with | cons h1 t => exact .cons h1 (BrA.erase i t)
theorem BrA.dropLast {vs : List V} {ds : List PyData} (h : BrA K H vs ds) : BrA K H vs.dropLast ds.dropLast := by
  rw [List.dropLast_eq_take, List.dropLast_eq_take, h.len]; exact h.take _
end
/-! back to the library's readings of the plain heap -/
section
variable {X : Cx} {pins : List (Addr × Obj)} {σ : L2.St} {H : Hp} {s : Shared}
theorem kv_keys : ∀ {es : List DictEntry} {P : Program} {w : World} {vs : List (Key × Value)} {h : Heap}, Pairs (mixKind P w) es vs → ReadsAll h (es.map (·.key)) (vs.map fun p => keyD p.1) []
  | [], _, _, _, _, h => by cases h; exact .nil
  | e :: es, P, w, _, hp, h => by
    cases h with
    | @cons _ kv _ kvs h1 h2 h3 =>
      have t := kv_keys (h := hp) h3
      rcases keyIs_shape h1 with ⟨i, tk, q1, q2⟩ | ⟨i, tk, q1, q2⟩
      · have := ReadsAll.cons (Reads.int (h := hp) i tk) t
        simpa [q1, q2, keyD] using this
      · have := ReadsAll.cons (Reads.str (h := hp) i tk) t
        simpa [q1, q2, keyD] using this
theorem pairs_vals : ∀ {es : List DictEntry} {P : Program} {w : World} {vs : List (Key × Value)}, Pairs (mixKind P w) es vs → es.map (·.val) = vs.map (·.2)
  | [], _, _, _, h => by cases h; rfl
  | e :: es, _, _, _, h => by cases h with | cons h1 h2 h3 => simp [h2, pairs_vals h3]
theorem kv_vals : ∀ {vks : List (Key × V)} {vs : List (Key × Value)}, KV vks vs → Vals (vks.map (·.2)) (vs.map (·.2)) ∧ vks.map (·.1) = vs.map (·.1)
  | [], _, h => by cases h; exact ⟨.nil, rfl⟩
  | p :: r, _, h => by cases h with | cons h1 h2 => have q := kv_vals h2; exact ⟨.cons h1.2 q.1, by simp [h1.1, q.2]⟩
theorem not_sys {a : Addr} {as : List Addr} (h : (a == sysModules) = false) (h2 : sysModules ∉ as) : sysModules ∉ a :: as := fun m => by
  rcases List.mem_cons.mp m with e | e
  · exact absurd e.symm (beq_eq_false_iff_ne.mp h)
  · exact h2 e
mutual
theorem Br.reads (I : Inv X pins σ H s) : ∀ (d : PyData) (v : V) (u : Value), Br X.K H v d → RelV v u → ∃ as, Reads s.heap u d as ∧ sysModules ∉ as
  | .none, _, _, h, r => by cases h; cases r; exact ⟨_, .none, by simp⟩
  | .bool b, _, _, h, r => by cases h; cases r; exact ⟨_, .bool b, by simp⟩
  | .int i, _, _, h, r => by cases h; obtain ⟨t, rfl⟩ := r; exact ⟨_, .int i t, by simp⟩
  | .str z, _, _, h, r => by cases h; obtain ⟨t, rfl⟩ := r; exact ⟨_, .str z t, by simp⟩
  | .tuple ds, _, _, h, r => by
    cases h with
    | tup h1 h2 =>
      cases r
      obtain ⟨its, rv, ⟨o, ho, hc, n, hd⟩, _⟩ := I.tuple h1
      obtain ⟨as, q1, q2⟩ := BrA.reads I ds _ its h2 rv
      exact ⟨_, .tuple ho hc hd q1, q2⟩
  | .list ds, _, _, h, r => by
    cases h with
    | lst h1 h2 h3 =>
      cases r
      obtain ⟨its, rv, ⟨o, n, ho, hc, _, hd⟩, _⟩ := I.list (.inl (.inr ⟨_, h1⟩))
      obtain ⟨as, q1, q2⟩ := BrA.reads I ds _ its h3 rv
      exact ⟨_, .list ho hc hd q1, not_sys h2 q2⟩
  | .dict kvs, _, _, h, r => by
    cases h with
    | dct h1 h2 h3 =>
      cases r
      obtain ⟨hd, z, hs, vs, kv, o', es, ep, ho, hx, hdt, hk, hp, hn⟩ := I.hok _ _ h1
      obtain ⟨k1, k2⟩ := kv_vals kv
      obtain ⟨bs, q1, q2⟩ := BrK.reads I kvs _ (vs.map (·.2)) h3 k1
      have e1 : kvs.map (·.1) = vs.map fun p => keyD p.1 := by
        have e := congrArg (List.map keyD) k2
        rw [List.map_map, List.map_map] at e
        rw [h2]; exact e
      refine ⟨_, .dict ho hx.1 hdt (as := []) (by rw [e1]; exact kv_keys hp) (by rw [pairs_vals hp]; exact q1), ?_⟩
      simpa using not_sys hs q2
theorem BrA.reads (I : Inv X pins σ H s) : ∀ (ds : List PyData) (vs : List V) (us : List Value), BrA X.K H vs ds → Vals vs us → ∃ as, ReadsAll s.heap us ds as ∧ sysModules ∉ as
  | [], _, _, h, r => by cases h; cases r; exact ⟨_, .nil, by simp⟩
  | d :: ds, _, _, h, r => by
    cases h with
    | cons h1 h2 =>
      cases r with
      | cons r1 r2 =>
        obtain ⟨as, q1, z1⟩ := Br.reads I d _ _ h1 r1
        obtain ⟨bs, q2, z2⟩ := BrA.reads I ds _ _ h2 r2
        exact ⟨_, .cons q1 q2, by simp [z1, z2]⟩
theorem BrK.reads (I : Inv X pins σ H s) : ∀ (kvs : List (PyData × PyData)) (vs : List V) (us : List Value), BrA X.K H vs (kvs.map (·.2)) → Vals vs us → ∃ as, ReadsAll s.heap us (kvs.map (·.2)) as ∧ sysModules ∉ as
  | [], _, _, h, r => by cases h; cases r; exact ⟨_, .nil, by simp⟩
  | (_, d) :: kvs, _, _, h, r => by
    cases h with
    | cons h1 h2 =>
      cases r with
      | cons r1 r2 =>
        obtain ⟨as, q1, z1⟩ := Br.reads I d _ _ h1 r1
        obtain ⟨bs, q2, z2⟩ := BrK.reads I kvs _ _ h2 r2
        exact ⟨_, .cons q1 q2, by simp [z1, z2]⟩
end
end
end GB

namespace GB
open PySem PySem.Spec PyProof.Rows L2
section
variable {X : Cx} {pins : List (Addr × Obj)} {σ : L2.St} {H : Hp} {s : Shared}
/-! a list or dict of one's own is declared to be as it is for good -/
def Loose : HO → Prop
  | .lst _ => True
  | .dK _ => True
  | .dT _ => True
  | _ => False
theorem fix_inv (I : Inv X pins σ H s) {a : Addr} {u : HO} (h : H a = some u) (l : Loose u) : ∃ o, Inv X pins σ (upd H a (.frz o u)) s := by
  have ok := I.hok a u h
  obtain ⟨o, ho⟩ : ∃ o, s.heap.get? a = some o := by
    cases u with
    | lst xs => obtain ⟨_, _, _, _, e⟩ := ok; exact ⟨_, e⟩
    | dK kvs => obtain ⟨_, _, _, _, o, _, _, e, _⟩ := ok; exact ⟨_, e⟩
    | dT kvs => obtain ⟨_, _, _, _, o, _, _, e, _⟩ := ok; exact ⟨_, e⟩
    | _ => exact l.elim
  have nt : ∀ c xs, H c = some (.tup xs) → c ≠ a := fun c xs q z => by rw [z, h] at q; cases q; exact l
  have no : ∀ c y, H c = some (.own y) → c ≠ a := fun c y q z => by rw [z, h] at q; cases q; exact l
  have nf : ∀ c o' u', H c = some (.frz o' u') → c ≠ a := fun c o' u' q z => by rw [z, h] at q; cases q; exact l
  have nb : ∀ c ps, H c = some (.tbl ps) → c ≠ a := fun c ps q z => by rw [z, h] at q; cases q; exact l
  refine ⟨o, ?_⟩
  have un : Un X.fs [] H (upd H a (.frz o u)) s.heap s.heap := by
    refine ⟨fun b ob q _ _ _ => q, fun b ob q _ _ _ => ⟨ob.slots, q⟩, fun b ob q n _ => ?_, fun b ob q _ => ⟨ob, q⟩, fun b xs q => ?_, fun b ob xs q => ?_, fun b ps q => ⟨#[], ?_⟩⟩
    · rw [upd_ne (fun z => by rw [z, h] at n; cases n)]; exact n
    · rw [upd_ne (nt _ _ q)]; exact q
    · rw [upd_ne (nf _ _ _ q)]; exact q
    · rw [upd_ne (nb _ _ q), q]; simp
  have hok : HOk X.prog X.w (upd H a (.frz o u)) s.heap := fun b v q => by
    by_cases hb : b = a
    · subst hb
      rw [upd_same] at q; cases q
      refine ⟨ho, ok.stay (fun _ _ _ z => z) (fun c q => ?_) fun c xs q => ?_⟩
      · rw [upd_ne (no _ _ q)]; exact q
      · rw [upd_ne (nt _ _ q)]; exact q
    · rw [upd_ne hb] at q
      refine (I.hok b v q).stay (fun _ _ _ z => z) (fun c q => ?_) fun c xs q => ?_
      · rw [upd_ne (no _ _ q)]; exact q
      · rw [upd_ne (nt _ _ q)]; exact q
  exact I.un (t' := s.toks) un hok
theorem keep_fix {H : Hp} {a : Addr} {u : HO} {o : Obj} (h : H a = some u) (l : Loose u) : Keep H (upd H a (.frz o u)) := fun b v q f => by
  rw [upd_ne (fun z => by rw [z, h] at q; cases q; cases u <;> first | exact l.elim | exact f.elim)]; exact q
theorem keep_put {H : Hp} {a : Addr} {u v : HO} (h : H a = some u) (l : Loose u) : Keep H (upd H a v) := fun b w q f => by
  rw [upd_ne (fun z => by rw [z, h] at q; cases q; cases u <;> first | exact l.elim | exact f.elim)]; exact q
end

/-! a def's promise, where no repr is under way -/
structure FnG (P : Program) (w : World) (K : PySem.W.Frag) (mg : Str → Option Value) (base : Heap) (CX : CXT) (k : Nat) (f : Addr) (fd : FuncData) (ps : List Str) (sp : Sp) : Prop where
  arity : ∀ vs H Q E, sp vs H Q E → vs.length = ps.length
  go : ∀ (A : Around) (outer : List Env) (s : Shared) (H : Hp) (args : Args) (us : List Value) (vs : List V) (Q : VK) (E : XK), A.guards = some [] → Room k A → Env0 P w K mg base A outer s H →
    BindsTo s fd args (ps.zip us) → Vals vs us → sp vs H Q E → codeAny (model P w) A (.call (.ref f) args) (CR CX outer P w H s Q E) s
section
variable {P : Program} {w : World} {K : PySem.W.Frag} {mg : Str → Option Value} {base : Heap} {CX : CXT}
theorem FnG.up {j k : Nat} {f : Addr} {fd : FuncData} {ps : List Str} {sp : Sp} (F : FnG P w K mg base CX j f fd ps sp) (h : j ≤ k) : FnG P w K mg base CX k f fd ps sp :=
  ⟨F.arity, fun A outer s H args us vs Q E hg hr => F.go A outer s H args us vs Q E hg (hr.mono h)⟩
theorem FnG.weak {k : Nat} {f : Addr} {fd : FuncData} {ps : List Str} {sp sp' : Sp} (F : FnG P w K mg base CX k f fd ps sp) (h : ∀ vs H Q E, sp' vs H Q E → sp vs H Q E) : FnG P w K mg base CX k f fd ps sp' :=
  ⟨fun vs H Q E q => F.arity vs H Q E (h _ _ _ _ q), fun A outer s H args us vs Q E hg hr he hb hv hs => F.go A outer s H args us vs Q E hg hr he hb hv (h _ _ _ _ hs)⟩
theorem deeper_guards (A : Around) (env : Env) (h : A.guards = some []) : (A.deeper env).guards = some [] := h
theorem fng_of {k : Nat} {f : Addr} {fd : FuncData} {x qual : Str} {st : Stmt} {N ps : List Str} {sp : Sp} (F : Fun K x qual st f fd) (S : FnScope N ps (defScope st))
    (ar : ∀ vs H Q E, sp vs H Q E → vs.length = ps.length)
    (bd : ∀ (cdv : Value) (A : Around) (outer : List Env) (s : Shared) (H : Hp) (vs : List V) (Q : VK) (E : XK), A.guards = some [] →
      Room k (A.deeper (envOfC qual (defScope st) s.heap.objs.size f cdv)) → sp vs H Q E →
      ∃ t, PSs (cxOf CX P w K mg base N qual (defScope st) f cdv A outer s H E) (defBody st) t ∧ t { nx := fun _ H' => Q .non H', rt := Q } (L2.start N vs) H) :
    FnG P w K mg base CX (k + 1) f fd ps sp := by
  obtain ⟨oc, od, kV, doc, pm, an, cdv, ct, osl, rfl, lk, hcd⟩ := F.ex
  refine ⟨ar, fun A outer s H args us vs Q E hg hr e0 hb r hsp => ?_⟩
  have kept : ∀ b o, base.get? b = some o → s.heap.get? b = some o := fun b o e => (e0.bs b o e).1
  have KX : K.In s.heap := e0.mod.kin.keeps kept
  have lim : s.heap.NoLimit := e0.mod.nolimit.keeps kept
  refine codeAny_call_function hr.depth (KX _ _ lk) rfl S.co S.gen rfl (PySem.W.codeRec_of KX hcd) (hb _ _ _ _ ?_)
  refine wpAny_newFunctionEnv_cells S.kind (fun ⟨n, v⟩ hy => ?_) fun env he s1 x => ?_
  · rcases S.par n (List.of_mem_zip hy).1 with q | q
    · exact .inl q
    · exact .inr ⟨q, PySem.W.cellsFrom_some _ _ _ (.inl q)⟩
  subst he
  refine ⟨lim.keeps x.toInCall.keep, codeAny_func ?_⟩
  obtain ⟨t, ht, hq⟩ := bd cdv A outer s H vs Q E hg (hr.deeper _) hsp
  have I := inv_start (CX := CX) (E := E) (N := N) (mg := mg) (base := base) S hr.hd e0 (ar _ _ _ _ hsp) r x
  refine wpAny_mono (ht.run [] s1 (L2.start N vs) H _ I hq) (fun fl s' hs => ?_) fun e s' hs => hs
  cases fl with
  | ret u =>
    obtain ⟨v, σ', H', J, rv, q⟩ := hs
    exact ⟨v, H', J.os, J.bare, J.base, J.hok, rv, q⟩
  | next =>
    obtain ⟨σ', H', J, q⟩ := hs
    exact ⟨V.non, H', J.os, J.bare, J.base, J.hok, rfl, q⟩
  | brk => obtain ⟨_, _, _, q⟩ := hs; exact False.elim q
  | cont => obtain ⟨_, _, _, q⟩ := hs; exact False.elim q
/-- where no exception leaves -/
theorem fng_nox {k : Nat} {f : Addr} {fd : FuncData} {x qual : Str} {st : Stmt} {N ps : List Str} {sp : Sp} (F : Fun K x qual st f fd) (S : FnScope N ps (defScope st))
    (ar : ∀ vs H Q E, sp vs H Q E → vs.length = ps.length)
    (bd : ∀ (cdv : Value) (A : Around) (outer : List Env) (s : Shared) (H : Hp) (vs : List V) (Q : VK) (E : XK), A.guards = some [] →
      Room k (A.deeper (envOfC qual (defScope st) s.heap.objs.size f cdv)) → sp vs H Q E →
      ∃ t, PSs (cxOf CX P w K mg base N qual (defScope st) f cdv A outer s H E).nox (defBody st) t ∧ t { nx := fun _ H' => Q .non H', rt := Q } (L2.start N vs) H) :
    FnG P w K mg base CX (k + 1) f fd ps sp :=
  fng_of F S ar fun cdv A outer s H vs Q E hg hr hsp => let ⟨t, h, q⟩ := bd cdv A outer s H vs Q E hg hr hsp; ⟨t, h.nox, q⟩
end
section
variable {X : Cx} {CX : CXT} {k : Nat} {f : Addr} {fd : FuncData} {ps ks : List Str} {sp : Sp} {E : XK} {x : Str} {p pos : Pos} {e : Expr} {es : List Expr} {kws : List Keyword} {t tk : TA}
/-- a call by places -/
theorem g_call (F : FnG X.prog X.w X.K X.mg X.base CX k f fd ps sp) (hr : Room k X.A) (gd : X.A.guards = some []) (hg : Gl X x) (hm : X.mg x = some (.ref f)) (hk : PySem.W.keepIn X.K (.ref f) = true) (hb : Binds X.K fd ps []) (hx : Passes CX X E)
    (ha : PA X (e :: es) t) (hdb : (x == ("__debug__" : Str)) = false := by decide) (he : starEach (e :: es) X.env = (false, eval e X.env) :: starEach es X.env := by rfl)
    (hpl : (backTo pos (starEach es X.env)).any (·.1) = false := by rfl) : PE X (.Call (.Name x p) (e :: es) [] pos) (tCall sp [] E t) := by
  constructor
  intro pins s σ H Q I h
  refine wpAny_Call_Name_kw (ld_glob I hg hm ?_ hdb)
  refine PySem.W.callWith_K (h₀ := X.base) I.ok.mod.kin hk (thn (ha.run pos pins s σ H _ I h) fun us s1 z => ?_) he hpl
  obtain ⟨vs, H1, I1, r, q⟩ := z
  refine ⟨I1.kIn, ?_⟩
  have q : sp (vs ++ []) H1 Q E := q
  rw [List.append_nil] at q
  have hl : us.length = ps.length := by rw [← r.length]; exact F.arity _ _ _ _ q
  have bb := hb s1 us I1.kIn (by simpa using hl)
  rw [List.append_nil] at bb
  refine wpAny_call (codeAny_mono (F.go X.A X.stack s1 H1 ⟨us, []⟩ us vs Q E gd hr I1.env0 bb r q) fun r2 s' hq => ?_)
  match r2, hq with
  | .error e, hq => exact hx pins σ H1 s1 e s' I1 hq
  | .ok (.ret u), hq => exact I1.after hq
  | .ok .next, hq => exact False.elim hq
  | .ok .brk, hq => exact False.elim hq
  | .ok .cont, hq => exact False.elim hq
theorem g_call0 (F : FnG X.prog X.w X.K X.mg X.base CX k f fd ps sp) (hr : Room k X.A) (gd : X.A.guards = some []) (hg : Gl X x) (hm : X.mg x = some (.ref f)) (hk : PySem.W.keepIn X.K (.ref f) = true) (hb : Binds X.K fd ps []) (hx : Passes CX X E)
    (hdb : (x == ("__debug__" : Str)) = false := by decide) : PE X (.Call (.Name x p) [] [] pos) (tCall sp [] E tNil) := by
  constructor
  intro pins s σ H Q I q
  refine wpAny_Call_Name_kw (ld_glob I hg hm ?_ hdb)
  refine PySem.W.callWith_K0 I.kIn hk ?_
  have q : sp [] H Q E := q
  have hl := F.arity _ _ _ _ q
  have bb := hb s [] I.kIn (by simpa using hl)
  refine wpAny_call (codeAny_mono (F.go X.A X.stack s H ⟨[], []⟩ [] [] Q E gd hr I.env0 bb .nil q) fun r2 s' hq => ?_)
  match r2, hq with
  | .error e, hq => exact hx pins σ H s e s' I hq
  | .ok (.ret u), hq => exact I.after hq
  | .ok .next, hq => exact False.elim hq
  | .ok .brk, hq => exact False.elim hq
  | .ok .cont, hq => exact False.elim hq
/-- a call with keywords alone (some in front by place) -/
theorem g_callK {g : List Value → List Value → List Value} {gV : List V → List V → List V} (F : FnG X.prog X.w X.K X.mg X.base CX k f fd ps sp) (hr : Room k X.A) (gd : X.A.guards = some []) (hg : Gl X x) (hm : X.mg x = some (.ref f)) (hk : PySem.W.keepIn X.K (.ref f) = true)
    (hb : KBinds X.K fd ps ks g gV) (hx : Passes CX X E) (ha : PA X es t) (hkw : PK X kws tk)
    (run : ∀ {pins : List (Addr × Obj)} {s : Shared} {σ : L2.St} {H : Hp} {Q : VK}, Inv X pins σ H s → (∀ us s1, AP X pins σ (fun vs H1 => tk σ H1 fun zs H2 => sp (gV vs zs) H2 Q E) us s1 →
        wpAny (model X.prog X.w) X.A (evalAll ((backToKw pos (keywordEach kws X.env)).map (·.2))) (fun ws s2 => X.K.In s2.heap ∧ wpAny (model X.prog X.w) X.A (call (.ref f) us (ks.zip ws)) (EP X pins σ Q) X.xe s2) X.xe s1) →
      wpAny (model X.prog X.w) X.A (spliced (backTo pos (starEach es X.env))) (AP X pins σ fun vs H1 => tk σ H1 fun zs H2 => sp (gV vs zs) H2 Q E) X.xe s →
      wpAny (model X.prog X.w) X.A (eval (.Call (.Name x p) es kws pos) X.env) (EP X pins σ Q) X.xe s) :
    PE X (.Call (.Name x p) es kws pos) (tCallK sp gV E t tk) := by
  constructor
  intro pins s σ H Q I h
  refine run I (fun us s1 z => ?_) (ha.run pos pins s σ H _ I h)
  obtain ⟨vs, H1, I1, r, q⟩ := z
  refine thn (hkw.run pos pins s1 σ H1 _ I1 q) fun ws s2 z2 => ?_
  obtain ⟨zs, H2, I2, rz, q2⟩ := z2
  refine ⟨I2.kIn, ?_⟩
  have r2 := hb.rel r rz
  have hl : (g us ws).length = ps.length := by rw [← r2.length]; exact F.arity _ _ _ _ q2
  refine wpAny_call (codeAny_mono (F.go X.A X.stack s2 H2 ⟨us, ks.zip ws⟩ (g us ws) (gV vs zs) Q E gd hr I2.env0 (hb.to s2 us ws I2.kIn hl) r2 q2) fun r2 s' hq => ?_)
  match r2, hq with
  | .error e, hq => exact hx pins σ H2 s2 e s' I2 hq
  | .ok (.ret u), hq => exact I2.after hq
  | .ok .next, hq => exact False.elim hq
  | .ok .brk, hq => exact False.elim hq
  | .ok .cont, hq => exact False.elim hq
end
end GB

namespace GB
open PySem PySem.Spec PyProof.Rows L2

/-- a firm thing that is no datum: the draws' store, the script, others -/
inductive Tk where
  | jar
  | scr (ns : List Int)
  | more (n : Nat)
/-- what a slot, or a value, is as data -/
inductive S where
  | un
  | d (x : PyData)
  | own (xs : List PyData)
  | ob (t : Tk)
abbrev En := List S
/-- the draws' store, known by a fact that firm things bear -/
structure Jar where
  ok : Tk → Addr → Hp → Prop
  keep : ∀ t a H H', Keep H H' → ok t a H → ok t a H'
/-- the written part, the store, the heap at the def's entry -/
structure Lay where
  K : PySem.W.Frag
  J : Jar
  H0 : Hp
/-- firm values -/
def FR (L : Lay) (H : Hp) (v : V) : S → Prop
  | .un => False
  | .d x => Br L.K H v x
  | .own _ => False
  | .ob t => ∃ a, v = .ref a ∧ L.J.ok t a H
def OR (L : Lay) (H : Hp) (v : V) (xs : List PyData) : Prop := ∃ l vs, v = .ref l ∧ H l = some (.lst vs) ∧ BrA L.K H vs xs ∧ L.H0 l = none
def SR (L : Lay) (H : Hp) (o : Option V) : S → Prop
  | .un => True
  | .d x => ∃ v, o = some v ∧ Br L.K H v x
  | .own xs => ∃ v, o = some v ∧ OR L H v xs
  | .ob t => ∃ a, o = some (.ref a) ∧ L.J.ok t a H
structure Rel (L : Lay) (H : Hp) (σ : L2.St) (ρ : En) : Prop where
  len : σ.length = ρ.length
  at' : ∀ (i : Nat) (s : S), ρ[i]? = some s → SR L H (σ[i]?.getD none) s
  sep : ∀ (i j : Nat) (xs ys : List PyData), ρ[i]? = some (.own xs) → ρ[j]? = some (.own ys) → σ[i]? = σ[j]? → i = j
  same : Same L.H0 H
/-- a value that an expression gave, begun at Hs -/
def VR (L : Lay) (Hs H : Hp) (v : V) : S → Prop
  | .own xs => OR L H v xs ∧ ∀ l, v = .ref l → Hs l = none
  | s => FR L H v s
/-- what an expression leaves as it is: all but the lists that slots own -/
structure Go (σ : L2.St) (ρ ρ' : En) (H H' : Hp) : Prop where
  stay : ∀ a o, H a = some o → (∀ (i : Nat) (xs : List PyData), ρ[i]? = some (.own xs) → σ[i]? ≠ some (some (.ref a))) → H' a = some o
  less : ∀ (i : Nat) (xs : List PyData), ρ'[i]? = some (.own xs) → ∃ ys, ρ[i]? = some (.own ys)
  dom : ∀ a, H' a = none → H a = none
def RR (L : Lay) (H : Hp) (v : V) : S → Prop
  | .own xs => OR L H v xs
  | s => FR L H v s

abbrev TEd := En → (S → En → Prop) → Prop
abbrev TTd := En → (Bool → En → Prop) → Prop
abbrev TAd := En → (List S → En → Prop) → Prop
structure EndsD where
  nx : En → Prop
  rt : S → Prop
  bk : En → Prop := fun _ => False
  ct : En → Prop := fun _ => False
abbrev TSd := EndsD → En → Prop
inductive FRs (L : Lay) (H : Hp) : List V → List S → Prop
  | nil : FRs L H [] []
  | cons {v : V} {vs : List V} {s : S} {ss : List S} : FR L H v s → FRs L H vs ss → FRs L H (v :: vs) (s :: ss)
def tE (L : Lay) (t : TEd) : TE := fun σ H Q' => ∃ ρ Q, Rel L H σ ρ ∧ t ρ Q ∧ ∀ v H' s ρ', Go σ ρ ρ' H H' → Rel L H' σ ρ' → VR L H H' v s → Q s ρ' → Q' v H'
def tT (L : Lay) (t : TTd) : TT := fun σ H Q' => ∃ ρ Q, Rel L H σ ρ ∧ t ρ Q ∧ ∀ b H' ρ', Go σ ρ ρ' H H' → Rel L H' σ ρ' → Q b ρ' → Q' b H'
def tA (L : Lay) (t : TAd) : TA := fun σ H Q' => ∃ ρ Q, Rel L H σ ρ ∧ t ρ Q ∧ ∀ vs H' ss ρ', Go σ ρ ρ' H H' → Rel L H' σ ρ' → FRs L H' vs ss → Q ss ρ' → Q' vs H'
def tS (L : Lay) (t : TSd) : TS := fun D σ H => ∃ ρ De, Rel L H σ ρ ∧ t De ρ ∧ (∀ σ' H' ρ', Keep H H' → Rel L H' σ' ρ' → De.nx ρ' → D.nx σ' H') ∧ (∀ v H' s, Keep H H' → Same L.H0 H' → RR L H' v s → De.rt s → D.rt v H') ∧
  (∀ σ' H' ρ', Keep H H' → Rel L H' σ' ρ' → De.bk ρ' → D.bk σ' H') ∧ (∀ σ' H' ρ', Keep H H' → Rel L H' σ' ρ' → De.ct ρ' → D.ct σ' H')

section
variable {L : Lay} {H H' : Hp} {σ : L2.St} {ρ : En}
theorem FR.keep (k : Keep H H') {v : V} : ∀ {s : S}, FR L H v s → FR L H' v s
  | .d x, h => Br.keep k x v h
  | .ob t, ⟨a, e, h⟩ => ⟨a, e, L.J.keep t a _ _ k h⟩
theorem FRs.keep (k : Keep H H') {vs : List V} {ss : List S} (h : FRs L H vs ss) : FRs L H' vs ss := by
  induction h with
  | nil => exact .nil
  | cons h1 _ ih => exact .cons (h1.keep k) ih
theorem OR.same (k : Same H H') {v : V} {xs : List PyData} (h : OR L H v xs) : OR L H' v xs := by
  obtain ⟨l, vs, e, h1, h2, h3⟩ := h
  exact ⟨l, vs, e, k _ _ h1, BrA.keep (keep_of_same k) _ _ h2, h3⟩
theorem SR.same (k : Same H H') {o : Option V} : ∀ {s : S}, SR L H o s → SR L H' o s
  | .un, _ => trivial
  | .d x, ⟨v, e, h⟩ => ⟨v, e, Br.keep (keep_of_same k) x v h⟩
  | .own xs, ⟨v, e, h⟩ => ⟨v, e, h.same k⟩
  | .ob t, ⟨a, e, h⟩ => ⟨a, e, L.J.keep t a _ _ (keep_of_same k) h⟩
/-- all that was tracked stays -/
theorem Rel.go (r : Rel L H σ ρ) (k : Same H H') : Rel L H' σ ρ := ⟨r.len, fun i s e => (r.at' i s e).same k, r.sep, r.same.trans k⟩
theorem Rel.get (r : Rel L H σ ρ) {i : Nat} {s : S} (h : ρ[i]? = some s) : ∃ o, σ[i]? = some o ∧ SR L H o s := by
  have hi : i < σ.length := by rw [r.len]; exact (List.getElem?_eq_some_iff.mp h).1
  have q := r.at' i s h
  rw [List.getElem?_eq_getElem hi] at q ⊢
  exact ⟨_, rfl, q⟩
theorem Rel.getD (r : Rel L H σ ρ) {i : Nat} {x : PyData} (h : ρ[i]? = some (.d x)) : ∃ v, σ[i]? = some (some v) ∧ Br L.K H v x := by
  obtain ⟨o, e, v, e2, q⟩ := r.get h
  exact ⟨v, by rw [e, e2], q⟩
theorem Rel.getO (r : Rel L H σ ρ) {i : Nat} {xs : List PyData} (h : ρ[i]? = some (.own xs)) : ∃ l vs, σ[i]? = some (some (.ref l)) ∧ H l = some (.lst vs) ∧ BrA L.K H vs xs ∧ L.H0 l = none := by
  obtain ⟨o, e, v, e2, l, vs, e3, h1, h2, h3⟩ := r.get h
  exact ⟨l, vs, by rw [e, e2, e3], h1, h2, h3⟩
theorem Go.rf : Go σ ρ ρ H H := ⟨fun _ _ h _ => h, fun _ xs h => ⟨xs, h⟩, fun _ h => h⟩
theorem Go.sm (k : Same H H') : Go σ ρ ρ H H' := ⟨fun a o h _ => k a o h, fun _ xs h => ⟨xs, h⟩, fun _ h => k.free h⟩
theorem Go.tr {ρ1 ρ2 : En} {H1 H2 : Hp} (p : Go σ ρ ρ1 H H1) (q : Go σ ρ1 ρ2 H1 H2) : Go σ ρ ρ2 H H2 :=
  ⟨fun a o h n => q.stay a o (p.stay a o h n) fun i xs e => let ⟨ys, e'⟩ := p.less i xs e; n i ys e', fun i xs e => let ⟨ys, e'⟩ := q.less i xs e; p.less i ys e', fun a h => p.dom a (q.dom a h)⟩
theorem Go.keep {ρ' : En} (p : Go σ ρ ρ' H H') (r : Rel L H σ ρ) : Keep H H' := fun a o h f => p.stay a o h fun i xs e z => by
  obtain ⟨l, vs, h1, h2, _⟩ := r.getO e
  rw [h1] at z; cases z
  rw [h] at h2; cases h2; exact f
theorem VR.of {Hs : Hp} {v : V} {s : S} (h : FR L H v s) : VR L Hs H v s := by
  cases s with
  | un => exact h
  | d x => exact h
  | own xs => exact False.elim h
  | ob t => exact h
theorem get_set {α : Type} {l : List α} {i j : Nat} {x : α} : (l.set i x)[j]? = if i = j then (if j < l.length then some x else none) else l[j]? := by
  rw [List.getElem?_set]
  by_cases h : i = j
  · subst h; rfl
  · rw [if_neg h, if_neg h]
/-- a slot takes a firm value -/
theorem Rel.setF (r : Rel L H σ ρ) {i : Nat} {v : V} {s : S} (h : FR L H v s) : Rel L H (σ.set i (some v)) (ρ.set i s) := by
  have nown : ∀ xs, s ≠ .own xs := fun xs e => by subst e; exact h
  refine ⟨by simp [r.len], fun j z e => ?_, fun j k xs ys e1 e2 e3 => ?_, r.same⟩
  · by_cases hj : i = j
    · subst hj
      rw [get_set, if_pos rfl] at e
      split at e
      · rename_i hl
        cases e
        rw [get_set, if_pos rfl, if_pos (by rw [r.len]; exact hl)]
        cases s with
        | un => exact h.elim
        | d x => exact ⟨v, rfl, h⟩
        | own xs => exact h.elim
        | ob t => obtain ⟨a, rfl, q⟩ := h; exact ⟨a, rfl, q⟩
      · cases e
    · rw [get_set, if_neg hj] at e ⊢
      exact r.at' j z e
  · have h1 : i ≠ j := fun z => by
      subst z; rw [get_set, if_pos rfl] at e1; split at e1
      · exact nown xs (Option.some.inj e1)
      · cases e1
    have h2 : i ≠ k := fun z => by
      subst z; rw [get_set, if_pos rfl] at e2; split at e2
      · exact nown ys (Option.some.inj e2)
      · cases e2
    rw [get_set, if_neg h1] at e1 e3
    rw [get_set, if_neg h2] at e2 e3
    exact r.sep j k xs ys e1 e2 e3
/-- a slot takes a list of one's own -/
theorem Rel.setO (r : Rel L H σ ρ) {i : Nat} {v : V} {xs : List PyData} (h : OR L H v xs) (hs : ∀ (i : Nat) (ys : List PyData), ρ[i]? = some (.own ys) → σ[i]? ≠ some (some v)) : Rel L H (σ.set i (some v)) (ρ.set i (.own xs)) := by
  refine ⟨by simp [r.len], fun j z e => ?_, fun j k xs ys e1 e2 e3 => ?_, r.same⟩
  · by_cases hj : i = j
    · subst hj
      rw [get_set, if_pos rfl] at e
      split at e
      · rename_i hl
        cases e
        rw [get_set, if_pos rfl, if_pos (by rw [r.len]; exact hl)]
        exact ⟨v, rfl, h⟩
      · cases e
    · rw [get_set, if_neg hj] at e ⊢
      exact r.at' j z e
  · by_cases hj : i = j
    · subst hj
      by_cases hk : i = k
      · exact hk
      · exfalso
        have hl : i < ρ.length := by
          rw [get_set, if_pos rfl] at e1
          split at e1
          · assumption
          · cases e1
        rw [get_set, if_neg hk] at e2
        rw [get_set, if_pos rfl, if_pos (by rw [r.len]; exact hl), get_set, if_neg hk] at e3
        exact hs k ys e2 e3.symm
    · by_cases hk : i = k
      · subst hk
        exfalso
        have hl : i < ρ.length := by
          rw [get_set, if_pos rfl] at e2
          split at e2
          · assumption
          · cases e2
        rw [get_set, if_neg hj] at e1
        rw [get_set, if_neg hj, get_set, if_pos rfl, if_pos (by rw [r.len]; exact hl)] at e3
        exact hs j xs e1 e3
      · rw [get_set, if_neg hj] at e1 e3
        rw [get_set, if_neg hk] at e2 e3
        exact r.sep j k xs ys e1 e2 e3
theorem OR.keep (k : Keep H H') {v : V} {xs : List PyData} (h : OR L H v xs) (hv : ∀ l, v = .ref l → H' l = H l) : OR L H' v xs := by
  obtain ⟨l, vs, e, h1, h2, h3⟩ := h
  exact ⟨l, vs, e, by rw [hv l e]; exact h1, BrA.keep k _ _ h2, h3⟩
/-- a list of one's own is changed in place -/
theorem Rel.put (r : Rel L H σ ρ) {i : Nat} {xs ys : List PyData} {l : Addr} {vs ws : List V} (h : ρ[i]? = some (.own xs)) (hi : σ[i]? = some (some (.ref l))) (hl : H l = some (.lst vs)) (hw : BrA L.K H ws ys) :
    Rel L (upd H l (.lst ws)) σ (ρ.set i (.own ys)) ∧ Keep H (upd H l (.lst ws)) := by
  have k : Keep H (upd H l (.lst ws)) := keep_put hl trivial
  obtain ⟨l', vs', hi', hl', _, h0⟩ := r.getO h
  rw [hi] at hi'; cases hi'
  refine ⟨⟨by simp [r.len], fun j z e => ?_, fun j m as bs e1 e2 e3 => ?_, fun b o q => ?_⟩, k⟩
  · by_cases hj : i = j
    · subst hj
      rw [get_set, if_pos rfl] at e
      split at e
      · cases e
        rw [hi]
        exact ⟨.ref l, rfl, l, ws, rfl, upd_same, BrA.keep k _ _ hw, h0⟩
      · cases e
    · rw [get_set, if_neg hj] at e
      have q := r.at' j z e
      cases z with
      | un => trivial
      | d x => obtain ⟨v, e2, q⟩ := q; exact ⟨v, e2, Br.keep k _ _ q⟩
      | own zs =>
        obtain ⟨v, e2, q⟩ := q
        refine ⟨v, e2, q.keep k fun m em => upd_ne fun z => hj (r.sep i j xs zs h e ?_)⟩
        subst em; subst z
        obtain ⟨o, e4, _⟩ := r.get e
        rw [hi, e4]
        rw [e4] at e2
        exact congrArg some (show some (V.ref m) = o from e2.symm)
      | ob t => obtain ⟨a, e2, q⟩ := q; exact ⟨a, e2, L.J.keep _ _ _ _ k q⟩
  · have f : ∀ (m : Nat) (as : List PyData), (ρ.set i (.own ys))[m]? = some (.own as) → ∃ cs, ρ[m]? = some (.own cs) := fun m as e => by
      by_cases hm : i = m
      · subst hm; exact ⟨xs, h⟩
      · rw [get_set, if_neg hm] at e; exact ⟨as, e⟩
    obtain ⟨cs, q1⟩ := f j as e1
    obtain ⟨ds, q2⟩ := f m bs e2
    exact r.sep j m cs ds q1 q2 e3
  · rw [upd_ne (fun z => by rw [z] at q; rw [q] at h0; cases h0)]
    exact r.same _ _ q
/-- a value goes into a slot -/
theorem Rel.set {ρ' : En} {H1 : Hp} (r : Rel L H σ ρ) (r1 : Rel L H1 σ ρ') (g : Go σ ρ ρ' H H1) {i : Nat} {v : V} {s : S} (h : VR L H H1 v s) : Rel L H1 (σ.set i (some v)) (ρ'.set i s) := by
  cases s with
  | un => exact h.elim
  | d x => exact r1.setF h
  | ob t => exact r1.setF h
  | own xs =>
    refine r1.setO h.1 fun j ys e z => ?_
    obtain ⟨zs, e'⟩ := g.less j ys e
    obtain ⟨l, vs, h1, h2, _⟩ := r.getO e'
    rw [h1] at z; cases z
    rw [h.2 l rfl] at h2; cases h2
end
end GB

namespace GB
open PySem PySem.Spec PyProof.Rows L2

theorem _root_.L2.PE.less {X : Cx} {e : Expr} {t t2 : TE} (h : PE X e t) (w : ∀ σ H Q, t2 σ H Q → t σ H Q) : PE X e t2 := ⟨fun pins s σ H Q I q => h.run pins s σ H Q I (w _ _ _ q)⟩
theorem _root_.L2.PT.less {X : Cx} {e : Expr} {t t2 : TT} (h : PT X e t) (w : ∀ σ H Q, t2 σ H Q → t σ H Q) : PT X e t2 := ⟨fun pins s σ H Q I q => h.run pins s σ H Q I (w _ _ _ q)⟩
theorem _root_.L2.PW.less {X : Cx} {e : Expr} {t t2 : TT} (h : PW X e t) (w : ∀ σ H Q, t2 σ H Q → t σ H Q) : PW X e t2 := ⟨fun wh pins s σ H Q I q => h.run wh pins s σ H Q I (w _ _ _ q)⟩
theorem _root_.L2.PA.less {X : Cx} {e : List Expr} {t t2 : TA} (h : PA X e t) (w : ∀ σ H Q, t2 σ H Q → t σ H Q) : PA X e t2 := ⟨fun pos pins s σ H Q I q => h.run pos pins s σ H Q I (w _ _ _ q)⟩
theorem _root_.L2.PK.less' {X : Cx} {e : List Keyword} {t t2 : TA} (h : PK X e t) (w : ∀ σ H Q, t2 σ H Q → t σ H Q) : PK X e t2 := ⟨fun pos pins s σ H Q I q => h.run pos pins s σ H Q I (w _ _ _ q)⟩
theorem _root_.L2.PS.less {X : Cx} {e : Stmt} {t t2 : TS} (h : PS X e t) (w : ∀ D σ H, t2 D σ H → t D σ H) : PS X e t2 := ⟨fun pins s σ H D I q => h.run pins s σ H D I (w _ _ _ q)⟩
theorem _root_.L2.PSs.less {X : Cx} {e : List Stmt} {t t2 : TS} (h : PSs X e t) (w : ∀ D σ H, t2 D σ H → t D σ H) : PSs X e t2 := ⟨fun pins s σ H D I q => h.run pins s σ H D I (w _ _ _ q)⟩

/-- what a rule wants of its context -/
structure Good (X : Cx) : Prop where
  calm : X.calm = true
  gd : X.A.guards = some []
  sys : ∃ o, X.base.get? sysModules = some o
  un : X.A.units + 200 < cLine
  nd : X.N.Nodup

def S.firm : S → Prop
  | .d _ => True
  | .ob _ => True
  | _ => False
def S.fz : S → S
  | .own xs => .d (.list xs)
  | s => s
/-! names, constants -/
def dVar (i : Nat) : TEd := fun ρ Q => ∃ s, ρ[i]? = some s ∧ s.firm ∧ Q s ρ
def dK (x : PyData) : TEd := fun ρ Q => Q (.d x) ρ
def dFz (t : TEd) : TEd := fun ρ Q => t ρ fun s ρ' => Q s.fz ρ'
def dFix (i : Nat) : TEd := fun ρ Q => ∃ xs, ρ[i]? = some (.own xs) ∧ Q (.d (.list xs)) (ρ.set i (.d (.list xs)))
section
variable {X : Cx} {L : Lay} {pos : Pos} {e a b c : Expr} {t ta tb tc : TEd}
theorem firm_of {H : Hp} {o : Option V} {s : S} (f : s.firm) (h : SR L H o s) : ∃ v, o = some v ∧ FR L H v s := by
  cases s with
  | un => exact f.elim
  | d x => obtain ⟨v, e, q⟩ := h; exact ⟨v, e, q⟩
  | own xs => exact f.elim
  | ob t => obtain ⟨a, e, q⟩ := h; exact ⟨_, e, a, rfl, q⟩
theorem de_var {x : Str} (i : Nat) (hN : X.N[i]? = some x := by rfl) (hv : Vis X.env.scope x := by first | exact Or.inl rfl | exact Or.inr (Or.inl rfl) | exact Or.inr (Or.inr rfl))
    (hd : (x == ("__debug__" : Str)) = false := by decide) (hcd : (x == ("__classdict__" : Str)) = false := by decide) : PE X (.Name x pos) (tE L (dVar i)) := by
  refine (pe_var hN hv hd hcd).less fun σ H Q' h => ?_
  obtain ⟨ρ, Q, r, ⟨s, e, f, q⟩, fin⟩ := h
  obtain ⟨o, e2, h2⟩ := r.get e
  obtain ⟨v, rfl, hv⟩ := firm_of f h2
  exact ⟨v, e2, fin v H s ρ Go.rf r (VR.of hv) q⟩
theorem de_k {t0 : TE} {x : PyData} {v : V} (h : PE X e t0) (ht : ∀ σ H Q, Q v H → t0 σ H Q) (hb : ∀ H, Br L.K H v x) : PE X e (tE L (dK x)) := by
  refine h.less fun σ H Q' h => ?_
  obtain ⟨ρ, Q, r, q, fin⟩ := h
  exact ht _ _ _ (fin v H (.d x) ρ Go.rf r (hb H) q)
theorem de_int {i j} : PE X (.Constant (.int i) j pos) (tE L (dK (.int i))) := de_k pe_int (fun _ _ _ q => q) fun _ => .int _
theorem de_bl {b j} : PE X (.Constant (.bool b) j pos) (tE L (dK (.bool b))) := de_k pe_bl (fun _ _ _ q => q) fun _ => .bl _
theorem de_non {j} : PE X (.Constant .none j pos) (tE L (dK .none)) := de_k pe_non (fun _ _ _ q => q) fun _ => .non
theorem de_str {x j} : PE X (.Constant (.str x) j pos) (tE L (dK (.str x))) := de_k pe_str (fun _ _ _ q => q) fun _ => .str _
/-- a constant of the module -/
theorem de_glob {x : Str} {d : PyData} {v : V} {u : Value} (hg : Gl X x) (hm : X.mg x = some u) (r : RelV v u) (hb : ∀ H, Br L.K H v d) (hd : (x == ("__debug__" : Str)) = false := by decide) : PE X (.Name x pos) (tE L (dK d)) :=
  de_k (pe_glob hg hm r hd) (fun _ _ _ q => q) hb

theorem ne_sys {pins : List (Addr × Obj)} {σ : L2.St} {H : Hp} {s : Shared} (I : Inv X pins σ H s) (g : Good X) {l : Addr} {u : HO} (h : H l = some u) : (l == sysModules) = false := by
  obtain ⟨o, ho⟩ := g.sys
  refine beq_eq_false_iff_ne.mpr fun z => ?_
  subst z
  rw [(I.bs _ _ ho).2] at h; cases h
theorem same_fix {H0 H : Hp} {l : Addr} {o : HO} (k : Same H0 H) (h0 : H0 l = none) : Same H0 (upd H l o) := fun b u q => by
  rw [upd_ne (fun z => by rw [z] at q; rw [q] at h0; cases h0)]; exact k _ _ q
/-- what else stays when a list of one's own, in no slot, is fixed -/
theorem Rel.fixOut {H : Hp} {σ : L2.St} {ρ : En} (r : Rel L H σ ρ) {l : Addr} {vs : List V} {o : Obj} (hl : H l = some (.lst vs)) (h0 : L.H0 l = none)
    (hs : ∀ (i : Nat) (ys : List PyData), ρ[i]? = some (.own ys) → σ[i]? ≠ some (some (.ref l))) : Rel L (upd H l (.frz o (.lst vs))) σ ρ := by
  have k := keep_fix (o := o) hl trivial
  refine ⟨r.len, fun j z e => ?_, r.sep, same_fix r.same h0⟩
  have q := r.at' j z e
  cases z with
  | un => trivial
  | d x => obtain ⟨v, e2, q⟩ := q; exact ⟨v, e2, Br.keep k _ _ q⟩
  | own zs =>
    obtain ⟨v, e2, q⟩ := q
    refine ⟨v, e2, q.keep k fun m em => upd_ne fun z => ?_⟩
    subst em; subst z
    obtain ⟨w, e4, _⟩ := r.get e
    rw [e4] at e2
    refine hs j zs e ?_
    rw [e4]
    exact congrArg some (show w = some (V.ref m) from e2)
  | ob t => obtain ⟨a, e2, q⟩ := q; exact ⟨a, e2, L.J.keep _ _ _ _ k q⟩
theorem Rel.fixIn {H : Hp} {σ : L2.St} {ρ : En} (r : Rel L H σ ρ) {i : Nat} {xs : List PyData} {l : Addr} {vs : List V} {o : Obj} (h : ρ[i]? = some (.own xs)) (hi : σ[i]? = some (some (.ref l))) (hl : H l = some (.lst vs)) (ns : (l == sysModules) = false) :
    Rel L (upd H l (.frz o (.lst vs))) σ (ρ.set i (.d (.list xs))) ∧ Br L.K (upd H l (.frz o (.lst vs))) (.ref l) (.list xs) := by
  obtain ⟨l', vs', hi', hl', hb, h0⟩ := r.getO h
  rw [hi] at hi'; cases hi'
  rw [hl] at hl'; cases hl'
  have k := keep_fix (o := o) hl trivial
  have br : Br L.K (upd H l (.frz o (.lst vs))) (.ref l) (.list xs) := .lst upd_same ns (BrA.keep k _ _ hb)
  have other : ∀ (j : Nat) (as : List PyData), (ρ.set i (.d (.list xs)))[j]? = some (.own as) → i ≠ j ∧ ρ[j]? = some (.own as) := fun j as e => by
    by_cases hj : i = j
    · subst hj
      rw [get_set, if_pos rfl] at e
      split at e <;> cases e
    · rw [get_set, if_neg hj] at e
      exact ⟨hj, e⟩
  refine ⟨⟨by simp [r.len], fun j z e => ?_, fun j m as bs e1 e2 e3 => ?_, same_fix r.same h0⟩, br⟩
  · by_cases hj : i = j
    · subst hj
      rw [get_set, if_pos rfl] at e
      split at e
      · cases e; rw [hi]; exact ⟨_, rfl, br⟩
      · cases e
    · rw [get_set, if_neg hj] at e
      have q := r.at' j z e
      cases z with
      | un => trivial
      | d x => obtain ⟨v, e2, q⟩ := q; exact ⟨v, e2, Br.keep k _ _ q⟩
      | own zs =>
        obtain ⟨v, e2, q⟩ := q
        refine ⟨v, e2, q.keep k fun m em => upd_ne fun z => hj (r.sep i j xs zs h e ?_)⟩
        subst em; subst z
        obtain ⟨w, e4, _⟩ := r.get e
        rw [hi, e4]
        rw [e4] at e2
        exact congrArg some (show some (V.ref m) = w from e2.symm)
      | ob t => obtain ⟨a, e2, q⟩ := q; exact ⟨a, e2, L.J.keep _ _ _ _ k q⟩
  · obtain ⟨_, q1⟩ := other j as e1
    obtain ⟨_, q2⟩ := other m bs e2
    exact r.sep j m as bs q1 q2 e3
/-- a fresh list becomes a firm one -/
theorem de_fz (g : Good X) (h : PE X e (tE L t)) : PE X e (tE L (dFz t)) := by
  constructor
  intro pins s σ H Q' I q
  obtain ⟨ρ, Q, r, q, fin⟩ := q
  have q : t ρ fun s ρ' => Q s.fz ρ' := q
  refine thn (h.run pins s σ H (fun v H1 => ∃ s ρ', Go σ ρ ρ' H H1 ∧ Rel L H1 σ ρ' ∧ VR L H H1 v s ∧ Q s.fz ρ') I ⟨ρ, _, r, q, fun v H' s ρ' k r' hv q' => ⟨s, ρ', k, r', hv, q'⟩⟩) fun u s1 z => ?_
  obtain ⟨v, H1, I1, rv, sv, ρ', k, r', hv, q'⟩ := z
  cases sv with
  | un => exact False.elim hv
  | d x => exact ⟨v, H1, I1, rv, fin v H1 (.d x) ρ' k r' hv q'⟩
  | ob t => exact ⟨v, H1, I1, rv, fin v H1 (.ob t) ρ' k r' hv q'⟩
  | own xs =>
    obtain ⟨⟨l, vs, rfl, hl, hb, h0⟩, hs⟩ := hv
    obtain ⟨o, I2⟩ := fix_inv I1 hl trivial
    have k2 := keep_fix (o := o) hl trivial
    have hn : H l = none := hs l rfl
    have out : ∀ (i : Nat) (ys : List PyData), ρ'[i]? = some (.own ys) → σ[i]? ≠ some (some (.ref l)) := fun i ys e z => by
      obtain ⟨zs, e'⟩ := k.less i ys e
      obtain ⟨l', vs', h1, h2, _⟩ := r.getO e'
      rw [h1] at z; cases z
      rw [hn] at h2; cases h2
    have go : Go σ ρ ρ' H (upd H1 l (.frz o (.lst vs))) := by
      refine ⟨fun a o' q n => ?_, k.less, fun a q => ?_⟩
      · rw [upd_ne (fun z => by rw [z, hn] at q; cases q)]; exact k.stay a o' q n
      · by_cases z : a = l
        · rw [z]; exact hn
        · rw [upd_ne z] at q; exact k.dom a q
    exact ⟨.ref l, _, I2, rv, fin (.ref l) _ (.d (.list xs)) ρ' go (r'.fixOut hl h0 out) (.lst upd_same (ne_sys I1 g hl) (BrA.keep k2 _ _ hb)) q'⟩
theorem de_fix (g : Good X) {x : Str} (i : Nat) (hN : X.N[i]? = some x := by rfl) (hv : Vis X.env.scope x := by first | exact Or.inl rfl | exact Or.inr (Or.inl rfl) | exact Or.inr (Or.inr rfl))
    (hd : (x == ("__debug__" : Str)) = false := by decide) (hcd : (x == ("__classdict__" : Str)) = false := by decide) : PE X (.Name x pos) (tE L (dFix i)) := by
  constructor
  intro pins s σ H Q' I q
  obtain ⟨ρ, Q, r, ⟨xs, e, q⟩, fin⟩ := q
  obtain ⟨l, vs, hi, hl, hb, h0⟩ := r.getO e
  obtain ⟨o, I2⟩ := fix_inv I hl trivial
  obtain ⟨r2, b2⟩ := r.fixIn (o := o) e hi hl (ne_sys I g hl)
  refine (pe_var (pos := pos) hN hv hd hcd).run pins s σ _ Q' I2 ⟨.ref l, hi, fin _ _ (.d (.list xs)) _ ?_ r2 b2 q⟩
  refine ⟨fun a o' q n => ?_, fun j ys q => ?_, fun a q => ?_⟩
  · rw [upd_ne (fun z => n i xs e (by rw [z]; exact hi))]; exact q
  · by_cases hj : i = j
    · subst hj; rw [get_set, if_pos rfl] at q; split at q <;> cases q
    · rw [get_set, if_neg hj] at q; exact ⟨ys, q⟩
  · by_cases z : a = l
    · rw [z, upd_same] at q; cases q
    · rw [upd_ne z] at q; exact q
end

/-! operations by value -/
def NR (L : Lay) (H H' : Hp) (v : V) : S → Prop
  | .own xs => ∃ l vs, v = .ref l ∧ H l = none ∧ H' l = some (.lst vs) ∧ BrA L.K H' vs xs
  | s => FR L H' v s
abbrev F2 := PyData → PyData → (S → Prop) → Prop
abbrev FN := List PyData → (S → Prop) → Prop
/-- a value read now: a firm one, or a list of one's own -/
def Bk (L : Lay) (H : Hp) (v : V) : PyData → Prop
  | .list xs => ∃ a vs, v = .ref a ∧ (H a = some (.lst vs) ∨ ∃ o, H a = some (.frz o (.lst vs))) ∧ BrA L.K H vs xs
  | x => Br L.K H v x
theorem Bk.of {L : Lay} {H : Hp} {v : V} {x : PyData} (h : Br L.K H v x) : Bk L H v x := by
  cases h with
  | lst h1 h2 h3 => exact ⟨_, _, rfl, .inr ⟨_, h1⟩, h3⟩
  | non => exact .non
  | bl b => exact .bl b
  | int i => exact .int i
  | str z => exact .str z
  | tup h1 h2 => exact .tup h1 h2
  | dct h1 h2 h3 => exact .dct h1 h2 h3
inductive BkA (L : Lay) (H : Hp) : List V → List PyData → Prop
  | nil : BkA L H [] []
  | cons {v : V} {vs : List V} {x : PyData} {xs : List PyData} : Bk L H v x → BkA L H vs xs → BkA L H (v :: vs) (x :: xs)
theorem BkA.of {L : Lay} {H : Hp} : ∀ {vs : List V} {xs : List PyData}, BrA L.K H vs xs → BkA L H vs xs
  | _, [], h => by cases h; exact .nil
  | _, _ :: _, h => by cases h with | cons h1 h2 => exact .cons (Bk.of h1) (BkA.of h2)
def rD (L : Lay) (f : F2) : R2 := fun v u H Q' => ∃ x y Q, Bk L H v x ∧ Bk L H u y ∧ f x y Q ∧ ∀ w H' s, Same H H' → NR L H H' w s → Q s → Q' w H'
def rN (L : Lay) (f : FN) : List V → Hp → VK → Prop := fun vs H Q' => ∃ xs Q, BkA L H vs xs ∧ f xs Q ∧ ∀ w H' s, Same H H' → NR L H H' w s → Q s → Q' w H'
section
variable {L : Lay} {H H' : Hp} {σ : L2.St} {ρ : En}
theorem NR.vr {Hs : Hp} {ρ0 : En} (r : Rel L H σ ρ) (k : Same H H') (g : Go σ ρ0 ρ Hs H) {v : V} {s : S} (h : NR L H H' v s) : VR L Hs H' v s := by
  cases s with
  | un => exact h
  | d x => exact h
  | ob t => exact h
  | own xs =>
    obtain ⟨l, vs, rfl, h1, h2, h3⟩ := h
    exact ⟨⟨l, vs, rfl, h2, h3, r.same.free h1⟩, fun l' e => by cases e; exact g.dom _ h1⟩
theorem VR.back {Hs H1 H2 : Hp} {ρ' : En} (g : Go σ ρ ρ' Hs H1) {v : V} {s : S} (h : VR L H1 H2 v s) : VR L Hs H2 v s := by
  cases s with
  | un => exact h
  | d x => exact h
  | ob t => exact h
  | own xs => exact ⟨h.1, fun l e => g.dom _ (h.2 l e)⟩
end
def dOp (f : F2) (ta tb : TEd) : TEd := fun ρ Q => ta ρ fun s1 ρ1 => tb ρ1 fun s2 ρ2 => ∃ x y, s1 = .d x ∧ s2 = .d y ∧ f x y fun s => Q s ρ2
def dN (f : FN) (ta : TAd) : TEd := fun ρ Q => ta ρ fun ss ρ1 => ∃ xs, ss = xs.map S.d ∧ f xs fun s => Q s ρ1
section
variable {X : Cx} {L : Lay} {pos p : Pos} {e a b c : Expr} {es : List Expr} {t ta tb tc : TEd} {tas : TAd}
theorem tE_op {r : R2} {f : F2} (hr : ∀ v u H Q, rD L f v u H Q → r v u H Q) : ∀ σ H Q, tE L (dOp f ta tb) σ H Q → tOp r (tE L ta) (tE L tb) σ H Q := fun σ H Q' h => by
  obtain ⟨ρ, Q, r0, q, fin⟩ := h
  refine ⟨ρ, _, r0, q, fun v H1 s ρ1 k1 r1 hv q1 => ?_⟩
  refine ⟨ρ1, _, r1, q1, fun u H2 s2 ρ2 k2 r2 hu q2 => ?_⟩
  obtain ⟨x, y, rfl, rfl, q3⟩ := q2
  exact hr _ _ _ _ ⟨x, y, _, Bk.of (Br.keep (k2.keep r1) _ _ hv), Bk.of hu, q3, fun w H3 s3 sm nr q4 => fin w H3 s3 ρ2 ((k1.tr k2).tr (Go.sm sm)) (r2.go sm) (nr.vr r2 sm (k1.tr k2)) q4⟩
theorem de_op {op : Operator} {f : F2} (ho : OpR X (binaryOp op) (rD L f)) (ha : PE X a (tE L ta)) (hb : PE X b (tE L tb)) : PE X (.BinOp a op b pos) (tE L (dOp f ta tb)) :=
  (pe_op ho ha hb).less (tE_op fun _ _ _ _ q => q)
theorem de_cmp {op : CmpOp} {f : F2} (ho : OpR X (compareOp op) (rD L f)) (ha : PE X a (tE L ta)) (hb : PE X b (tE L tb)) (hm : behindInMarks op b = false) : PE X (.Compare a [op] [b] pos) (tE L (dOp f ta tb)) :=
  (pe_cmpR ho ha hb hm).less (tE_op fun _ _ _ _ q => q)
theorem de_ix {f : F2} (ho : IxR X (rD L f)) (ha : PE X a (tE L ta)) (hb : PE X b (tE L tb)) (hs : PlainIx b) : PE X (.Subscript a b pos) (tE L (dOp f ta tb)) :=
  (pe_ix ho ha hb hs).less (tE_op fun _ _ _ _ q => q)
/-- tests -/
def dB (t : TEd) : TTd := fun ρ Q => t ρ fun s ρ1 => ∃ b, s = .d (.bool b) ∧ Q b ρ1
theorem tT_of {t0 : TE} (h0 : ∀ σ H Q, tE L t σ H Q → t0 σ H Q) : ∀ σ H Q, tT L (dB t) σ H Q → tTest t0 σ H Q := fun σ H Q' h => by
  obtain ⟨ρ, Q, r0, q, fin⟩ := h
  refine h0 _ _ _ ⟨ρ, _, r0, q, fun v H1 s ρ1 k1 r1 hv q1 => ?_⟩
  obtain ⟨b, rfl, q2⟩ := q1
  have hv : Br L.K H1 v (.bool b) := hv
  cases hv
  exact ⟨b, rfl, fin b H1 ρ1 k1 r1 q2⟩
theorem dt_cmp {op : CmpOp} {f : F2} (ho : OpR X (compareOp op) (rD L f)) (ha : PE X a (tE L ta)) (hb : PE X b (tE L tb)) (hm : behindInMarks op b = false) : PT X (.Compare a [op] [b] pos) (tT L (dB (dOp f ta tb))) :=
  (pt_cmpR ho ha hb hm).less (tT_of (tE_op fun _ _ _ _ q => q))
theorem dt_val (h : PE X e (tE L t)) (he : ∀ whole, isTrue e X.env whole = (do let v ← whole; standAt e.pos; holding [v] (truthy v)) := by intro _; rfl) : PT X e (tT L (dB t)) :=
  (pt_val h he).less (tT_of fun _ _ _ q => q)
def dNot (t : TTd) : TTd := fun ρ Q => t ρ fun b ρ1 => Q (!b) ρ1
def dAnd (t u : TTd) : TTd := fun ρ Q => t ρ fun b ρ1 => if b = true then u ρ1 Q else Q false ρ1
def dOr (t u : TTd) : TTd := fun ρ Q => t ρ fun b ρ1 => if b = true then Q true ρ1 else u ρ1 Q
variable {tq tr : TTd} {rest : List Expr}
theorem dt_not (h : PT X a (tT L tq)) : PT X (.UnaryOp .Not a pos) (tT L (dNot tq)) := by
  refine (pt_not h).less fun σ H Q' h => ?_
  obtain ⟨ρ, Q, r0, q, fin⟩ := h
  exact ⟨ρ, _, r0, q, fun b H1 ρ1 k1 r1 q1 => fin (!b) H1 ρ1 k1 r1 q1⟩
theorem dw_and1 (h : PT X a (tT L tq)) : PW X (.BoolOp .And [a] pos) (tT L tq) := pw_and1 h
theorem dw_or1 (h : PT X a (tT L tq)) : PW X (.BoolOp .Or [a] pos) (tT L tq) := pw_or1 h
theorem dw_and (h : PT X a (tT L tq)) (h2 : PW X (.BoolOp .And (b :: rest) pos) (tT L tr)) : PW X (.BoolOp .And (a :: b :: rest) pos) (tT L (dAnd tq tr)) := by
  refine (pw_and h h2).less fun σ H Q' h => ?_
  obtain ⟨ρ, Q, r0, q, fin⟩ := h
  refine ⟨ρ, _, r0, q, fun b H1 ρ1 k1 r1 q1 => ?_⟩
  cases b with
  | true => exact ⟨ρ1, _, r1, by simpa using q1, fun b H2 ρ2 k2 r2 q2 => fin b H2 ρ2 (k1.tr k2) r2 q2⟩
  | false => exact fin false H1 ρ1 k1 r1 (by simpa using q1)
theorem dw_or (h : PT X a (tT L tq)) (h2 : PW X (.BoolOp .Or (b :: rest) pos) (tT L tr)) : PW X (.BoolOp .Or (a :: b :: rest) pos) (tT L (dOr tq tr)) := by
  refine (pw_or h h2).less fun σ H Q' h => ?_
  obtain ⟨ρ, Q, r0, q, fin⟩ := h
  refine ⟨ρ, _, r0, q, fun b H1 ρ1 k1 r1 q1 => ?_⟩
  cases b with
  | false => exact ⟨ρ1, _, r1, by simpa using q1, fun b H2 ρ2 k2 r2 q2 => fin b H2 ρ2 (k1.tr k2) r2 q2⟩
  | true => exact fin true H1 ρ1 k1 r1 (by simpa using q1)
/-- a test's outcome as a value -/
def dTV (t : TTd) : TEd := fun ρ Q => t ρ fun b ρ1 => Q (.d (.bool b)) ρ1
def dAndV (ta tb : TEd) : TEd := fun ρ Q => ta ρ fun s ρ1 => ∃ b, s = .d (.bool b) ∧ if b = true then tb ρ1 Q else Q (.d (.bool false)) ρ1
def dOrV (ta tb : TEd) : TEd := fun ρ Q => ta ρ fun s ρ1 => ∃ b, s = .d (.bool b) ∧ if b = true then Q (.d (.bool true)) ρ1 else tb ρ1 Q
def dNotV (ta : TEd) : TEd := fun ρ Q => ta ρ fun s ρ1 => ∃ b, s = .d (.bool b) ∧ Q (.d (.bool (!b))) ρ1
theorem de_one {op} (h : PE X a (tE L t)) : PE X (.BoolOp op [a] pos) (tE L t) := pe_one h
theorem de_and (h : PE X a (tE L ta)) (h2 : PE X (.BoolOp .And (b :: rest) pos) (tE L tb)) : PE X (.BoolOp .And (a :: b :: rest) pos) (tE L (dAndV ta tb)) := by
  refine (pe_and h h2).less fun σ H Q' h => ?_
  obtain ⟨ρ, Q, r0, q, fin⟩ := h
  refine ⟨ρ, _, r0, q, fun v H1 s ρ1 k1 r1 hv q1 => ?_⟩
  obtain ⟨b, rfl, q2⟩ := q1
  have hv : Br L.K H1 v (.bool b) := hv
  cases hv
  refine ⟨b, rfl, ?_⟩
  cases b with
  | true => exact ⟨ρ1, _, r1, by simpa using q2, fun v H2 s ρ2 k2 r2 hv q3 => fin v H2 s ρ2 (k1.tr k2) r2 (hv.back k1) q3⟩
  | false => exact fin _ H1 (.d (.bool false)) ρ1 k1 r1 (.bl _) (by simpa using q2)
theorem de_or (h : PE X a (tE L ta)) (h2 : PE X (.BoolOp .Or (b :: rest) pos) (tE L tb)) : PE X (.BoolOp .Or (a :: b :: rest) pos) (tE L (dOrV ta tb)) := by
  refine (pe_or h h2).less fun σ H Q' h => ?_
  obtain ⟨ρ, Q, r0, q, fin⟩ := h
  refine ⟨ρ, _, r0, q, fun v H1 s ρ1 k1 r1 hv q1 => ?_⟩
  obtain ⟨b, rfl, q2⟩ := q1
  have hv : Br L.K H1 v (.bool b) := hv
  cases hv
  refine ⟨b, rfl, ?_⟩
  cases b with
  | false => exact ⟨ρ1, _, r1, by simpa using q2, fun v H2 s ρ2 k2 r2 hv q3 => fin v H2 s ρ2 (k1.tr k2) r2 (hv.back k1) q3⟩
  | true => exact fin _ H1 (.d (.bool true)) ρ1 k1 r1 (.bl _) (by simpa using q2)
theorem de_not (h : PE X a (tE L ta)) : PE X (.UnaryOp .Not a pos) (tE L (dNotV ta)) := by
  refine (pe_not h).less fun σ H Q' h => ?_
  obtain ⟨ρ, Q, r0, q, fin⟩ := h
  refine ⟨ρ, _, r0, q, fun v H1 s ρ1 k1 r1 hv q1 => ?_⟩
  obtain ⟨b, rfl, q2⟩ := q1
  have hv : Br L.K H1 v (.bool b) := hv
  cases hv
  exact ⟨b, rfl, fin _ H1 (.d (.bool (!b))) ρ1 k1 r1 (.bl _) q2⟩
def dIf (t : TTd) (ta tb : TEd) : TEd := fun ρ Q => t ρ fun b ρ1 => if b = true then ta ρ1 Q else tb ρ1 Q
theorem de_if (h : PT X c (tT L tq)) (ha : PE X a (tE L ta)) (hb : PE X b (tE L tb)) : PE X (.IfExp c a b pos) (tE L (dIf tq ta tb)) := by
  refine (pe_ifExp h ha hb).less fun σ H Q' h => ?_
  obtain ⟨ρ, Q, r0, q, fin⟩ := h
  refine ⟨ρ, _, r0, q, fun b H1 ρ1 k1 r1 q1 => ?_⟩
  cases b with
  | true => exact ⟨ρ1, _, r1, by simpa using q1, fun v H2 s ρ2 k2 r2 hv q2 => fin v H2 s ρ2 (k1.tr k2) r2 (hv.back k1) q2⟩
  | false => exact ⟨ρ1, _, r1, by simpa using q1, fun v H2 s ρ2 k2 r2 hv q2 => fin v H2 s ρ2 (k1.tr k2) r2 (hv.back k1) q2⟩
/-! argument lists -/
def dNil : TAd := fun ρ Q => Q [] ρ
def dCons (t : TEd) (tr : TAd) : TAd := fun ρ Q => t ρ fun s ρ1 => s.firm ∧ tr ρ1 fun ss ρ2 => Q (s :: ss) ρ2
theorem fr_of {Hs H : Hp} {v : V} {s : S} (f : s.firm) (h : VR L Hs H v s) : FR L H v s := by
  cases s with
  | un => exact f.elim
  | d x => exact h
  | own xs => exact f.elim
  | ob t => exact h
theorem da_nil : PA X [] (tA L dNil) := by
  refine pa_nil.less fun σ H Q' h => ?_
  obtain ⟨ρ, Q, r0, q, fin⟩ := h
  exact fin [] H [] ρ Go.rf r0 .nil q
theorem da_cons (h : PE X e (tE L t)) (hr : PA X es (tA L tas)) (hs : starEach (e :: es) X.env = (false, eval e X.env) :: starEach es X.env := by rfl) : PA X (e :: es) (tA L (dCons t tas)) := by
  refine (pa_cons h hr hs).less fun σ H Q' h => ?_
  obtain ⟨ρ, Q, r0, q, fin⟩ := h
  refine ⟨ρ, _, r0, q, fun v H1 s ρ1 k1 r1 hv q1 => ?_⟩
  obtain ⟨f, q2⟩ := q1
  refine ⟨ρ1, _, r1, q2, fun vs H2 ss ρ2 k2 r2 hvs q3 => ?_⟩
  exact fin (v :: vs) H2 (s :: ss) ρ2 (k1.tr k2) r2 (.cons ((fr_of f hv).keep (k2.keep r1)) hvs) q3
theorem frs_brA {H : Hp} {vs : List V} {xs : List PyData} (h : FRs L H vs (xs.map S.d)) : BrA L.K H vs xs := by
  induction xs generalizing vs with
  | nil => cases h; exact .nil
  | cons x xs ih => cases h with | cons h1 h2 => exact .cons h1 (ih h2)
/-- displays -/
def dTup (ta : TAd) : TEd := fun ρ Q => ta ρ fun ss ρ1 => ∃ xs, ss = xs.map S.d ∧ xs.length ≤ sizeLine ∧ Q (.d (.tuple xs)) ρ1
def dLst (ta : TAd) : TEd := fun ρ Q => ta ρ fun ss ρ1 => ∃ xs, ss = xs.map S.d ∧ xs.length ≤ sizeLine ∧ Q (.own xs) ρ1
theorem de_tup {x1} (h : PA X es (tA L tas)) : PE X (.Tuple es x1 pos) (tE L (dTup tas)) := by
  refine (pe_tup h).less fun σ H Q' h => ?_
  obtain ⟨ρ, Q, r0, q, fin⟩ := h
  refine ⟨ρ, _, r0, q, fun vs H1 ss ρ1 k1 r1 hv q1 => ?_⟩
  obtain ⟨xs, rfl, hz, q2⟩ := q1
  have hb := frs_brA hv
  refine ⟨by rw [hb.len]; exact hz, fun p hp => ?_⟩
  have sm := same_new (o := .tup vs) hp
  exact fin _ _ (.d (.tuple xs)) ρ1 (k1.tr (Go.sm sm)) (r1.go sm) (.tup (.of upd_same) (BrA.keep (keep_of_same sm) _ _ hb)) q2
theorem de_lst (h : PA X es (tA L tas)) : PE X (.List es pos) (tE L (dLst tas)) := by
  refine (pe_lst h).less fun σ H Q' h => ?_
  obtain ⟨ρ, Q, r0, q, fin⟩ := h
  refine ⟨ρ, _, r0, q, fun vs H1 ss ρ1 k1 r1 hv q1 => ?_⟩
  obtain ⟨xs, rfl, hz, q2⟩ := q1
  have hb := frs_brA hv
  refine ⟨by rw [hb.len]; exact hz, fun p hp => ?_⟩
  have sm := same_new (o := .lst vs) hp
  exact fin _ _ (.own xs) ρ1 (k1.tr (Go.sm sm)) (r1.go sm) (NR.vr (s := .own xs) r1 sm k1 ⟨p, vs, rfl, hp, upd_same, BrA.keep (keep_of_same sm) _ _ hb⟩) q2
/-- calls of built-in things -/
theorem tE_n {r : List V → Hp → VK → Prop} {f : FN} (hr : ∀ v H Q, rN L f v H Q → r v H Q) : ∀ σ H Q, tE L (dN f tas) σ H Q → tCB r (tA L tas) σ H Q := fun σ H Q' h => by
  obtain ⟨ρ, Q, r0, q, fin⟩ := h
  refine ⟨ρ, _, r0, q, fun vs H1 ss ρ1 k1 r1 hv q1 => ?_⟩
  obtain ⟨xs, rfl, q2⟩ := q1
  exact hr _ _ _ ⟨xs, _, BkA.of (frs_brA hv), q2, fun w H2 s sm nr q3 => fin w H2 s ρ1 (k1.tr (Go.sm sm)) (r1.go sm) (nr.vr r1 sm k1) q3⟩
theorem de_callB {x : Str} {id : String} {f : FN} (hc : CallR X (.builtin id) (rN L f)) (hg : Gl X x) (hm : X.mg x = none) (hv : bootBuiltins x = some (.builtin id)) (ha : PA X (e :: es) (tA L tas)) (hn : x ≠ "__name__" := by decide)
    (hdb : (x == ("__debug__" : Str)) = false := by decide) (he : starEach (e :: es) X.env = (false, eval e X.env) :: starEach es X.env := by rfl) (hpl : (backTo pos (starEach es X.env)).any (·.1) = false := by rfl) :
    PE X (.Call (.Name x p) (e :: es) [] pos) (tE L (dN f tas)) := (pe_callB hc hg hm hv ha hn hdb he hpl).less (tE_n fun _ _ _ q => q)
theorem de_callT {x : Str} {T : String} {f : FN} (hc : CallR X (.type T) (rN L f)) (hg : Gl X x) (hm : X.mg x = none) (hv : bootBuiltins x = some (.type T)) (ha : PA X (e :: es) (tA L tas)) (hn : x ≠ "__name__" := by decide)
    (hdb : (x == ("__debug__" : Str)) = false := by decide) (he : starEach (e :: es) X.env = (false, eval e X.env) :: starEach es X.env := by rfl) (hpl : (backTo pos (starEach es X.env)).any (·.1) = false := by rfl) :
    PE X (.Call (.Name x p) (e :: es) [] pos) (tE L (dN f tas)) := (pe_callTy hc hg hm hv ha hn hdb he hpl).less (tE_n fun _ _ _ q => q)
/-! with lists of one's own, read in place -/
theorem pk_own {H : Hp} {σ : L2.St} {ρ : En} (r : Rel L H σ ρ) {i : Nat} {xs : List PyData} (h : ρ[i]? = some (.own xs)) : ∃ v, σ[i]? = some (some v) ∧ Bk L H v (.list xs) := by
  obtain ⟨l, vs, h1, h2, h3, _⟩ := r.getO h
  exact ⟨_, h1, l, vs, rfl, .inl h2, h3⟩
def dOpL (i : Nat) (f : F2) (tb : TEd) : TEd := fun ρ Q => (∃ ys, ρ[i]? = some (.own ys)) ∧ tb ρ fun s2 ρ2 => ∃ xs y, ρ2[i]? = some (.own xs) ∧ s2 = .d y ∧ f (.list xs) y fun s => Q s ρ2
def dOpR (f : F2) (ta : TEd) (i : Nat) : TEd := fun ρ Q => ta ρ fun s1 ρ1 => ∃ x ys, s1 = .d x ∧ ρ1[i]? = some (.own ys) ∧ f x (.list ys) fun s => Q s ρ1
def dN1 (f : FN) (i : Nat) : TEd := fun ρ Q => ∃ xs, ρ[i]? = some (.own xs) ∧ f [.list xs] fun s => Q s ρ
theorem tE_opL {r : R2} {f : F2} {i : Nat} (hr : ∀ v u H Q, rD L f v u H Q → r v u H Q) : ∀ σ H Q, tE L (dOpL i f tb) σ H Q → tOp r (tVar i) (tE L tb) σ H Q := fun σ H Q' h => by
  obtain ⟨ρ, Q, r0, ⟨⟨ys, ey⟩, q⟩, fin⟩ := h
  obtain ⟨l, vs, h1, _⟩ := r0.getO ey
  refine ⟨_, h1, ρ, _, r0, q, fun u H2 s2 ρ2 k2 r2 hu q2 => ?_⟩
  obtain ⟨xs, y, ex, rfl, q3⟩ := q2
  obtain ⟨v, h2, hv⟩ := pk_own r2 ex
  rw [h1] at h2; cases h2
  exact hr _ _ _ _ ⟨.list xs, y, _, hv, Bk.of hu, q3, fun w H3 s3 sm nr q4 => fin w H3 s3 ρ2 (k2.tr (Go.sm sm)) (r2.go sm) (nr.vr r2 sm k2) q4⟩
theorem tE_opR {r : R2} {f : F2} {i : Nat} (hr : ∀ v u H Q, rD L f v u H Q → r v u H Q) : ∀ σ H Q, tE L (dOpR f ta i) σ H Q → tOp r (tE L ta) (tVar i) σ H Q := fun σ H Q' h => by
  obtain ⟨ρ, Q, r0, q, fin⟩ := h
  refine ⟨ρ, _, r0, q, fun v H1 s ρ1 k1 r1 hv q1 => ?_⟩
  obtain ⟨x, ys, rfl, ey, q3⟩ := q1
  obtain ⟨u, h2, hu⟩ := pk_own r1 ey
  exact ⟨u, h2, hr _ _ _ _ ⟨x, .list ys, _, Bk.of hv, hu, q3, fun w H3 s3 sm nr q4 => fin w H3 s3 ρ1 (k1.tr (Go.sm sm)) (r1.go sm) (nr.vr r1 sm k1) q4⟩⟩
theorem tE_n1 {r : List V → Hp → VK → Prop} {f : FN} {i : Nat} (hr : ∀ v H Q, rN L f v H Q → r v H Q) : ∀ σ H Q, tE L (dN1 f i) σ H Q → tCB r (tCons (tVar i) tNil) σ H Q := fun σ H Q' h => by
  obtain ⟨ρ, Q, r0, ⟨xs, ex, q⟩, fin⟩ := h
  obtain ⟨v, h1, hv⟩ := pk_own r0 ex
  exact ⟨v, h1, hr _ _ _ ⟨[.list xs], _, .cons hv .nil, q, fun w H2 s sm nr q3 => fin w H2 s ρ (Go.sm sm) (r0.go sm) (nr.vr r0 sm Go.rf) q3⟩⟩
section
variable {px : Pos} {x y : Str} {i : Nat} {op : Operator} {cop : CmpOp} {f : F2} {fn : FN}
theorem de_opL (ho : OpR X (binaryOp op) (rD L f)) (hx : PE X a (tVar i)) (hb : PE X b (tE L tb)) : PE X (.BinOp a op b pos) (tE L (dOpL i f tb)) := (pe_op ho hx hb).less (tE_opL fun _ _ _ _ q => q)
theorem de_opR (ho : OpR X (binaryOp op) (rD L f)) (ha : PE X a (tE L ta)) (hx : PE X b (tVar i)) : PE X (.BinOp a op b pos) (tE L (dOpR f ta i)) := (pe_op ho ha hx).less (tE_opR fun _ _ _ _ q => q)
theorem de_cmpL (ho : OpR X (compareOp cop) (rD L f)) (hx : PE X a (tVar i)) (hb : PE X b (tE L tb)) (hm : behindInMarks cop b = false) : PE X (.Compare a [cop] [b] pos) (tE L (dOpL i f tb)) := (pe_cmpR ho hx hb hm).less (tE_opL fun _ _ _ _ q => q)
theorem de_cmpR (ho : OpR X (compareOp cop) (rD L f)) (ha : PE X a (tE L ta)) (hx : PE X b (tVar i)) (hm : behindInMarks cop b = false) : PE X (.Compare a [cop] [b] pos) (tE L (dOpR f ta i)) := (pe_cmpR ho ha hx hm).less (tE_opR fun _ _ _ _ q => q)
theorem dt_cmpL (ho : OpR X (compareOp cop) (rD L f)) (hx : PE X a (tVar i)) (hb : PE X b (tE L tb)) (hm : behindInMarks cop b = false) : PT X (.Compare a [cop] [b] pos) (tT L (dB (dOpL i f tb))) := (pt_cmpR ho hx hb hm).less (tT_of (tE_opL fun _ _ _ _ q => q))
theorem dt_cmpR (ho : OpR X (compareOp cop) (rD L f)) (ha : PE X a (tE L ta)) (hx : PE X b (tVar i)) (hm : behindInMarks cop b = false) : PT X (.Compare a [cop] [b] pos) (tT L (dB (dOpR f ta i))) := (pt_cmpR ho ha hx hm).less (tT_of (tE_opR fun _ _ _ _ q => q))
theorem de_ixL (ho : IxR X (rD L f)) (hx : PE X a (tVar i)) (hb : PE X b (tE L tb)) (hs : PlainIx b) : PE X (.Subscript a b pos) (tE L (dOpL i f tb)) := (pe_ix ho hx hb hs).less (tE_opL fun _ _ _ _ q => q)
theorem de_callB1 {id : String} (hc : CallR X (.builtin id) (rN L fn)) (hg : Gl X x) (hm : X.mg x = none) (hv : bootBuiltins x = some (.builtin id)) (hx : PE X a (tVar i)) (hn : x ≠ "__name__" := by decide) (hdb : (x == ("__debug__" : Str)) = false := by decide)
    (h1 : starEach (a :: []) X.env = (false, eval a X.env) :: starEach [] X.env := by rfl) (he : starEach (a :: []) X.env = (false, eval a X.env) :: starEach [] X.env := by rfl) (hpl : (backTo pos (starEach [] X.env)).any (·.1) = false := by rfl) :
    PE X (.Call (.Name x p) [a] [] pos) (tE L (dN1 fn i)) := (pe_callB hc hg hm hv (pa_cons hx pa_nil h1) hn hdb he hpl).less (tE_n1 fun _ _ _ q => q)
theorem de_callT1 {T : String} (hc : CallR X (.type T) (rN L fn)) (hg : Gl X x) (hm : X.mg x = none) (hv : bootBuiltins x = some (.type T)) (hx : PE X a (tVar i)) (hn : x ≠ "__name__" := by decide) (hdb : (x == ("__debug__" : Str)) = false := by decide)
    (h1 : starEach (a :: []) X.env = (false, eval a X.env) :: starEach [] X.env := by rfl) (he : starEach (a :: []) X.env = (false, eval a X.env) :: starEach [] X.env := by rfl) (hpl : (backTo pos (starEach [] X.env)).any (·.1) = false := by rfl) :
    PE X (.Call (.Name x p) [a] [] pos) (tE L (dN1 fn i)) := (pe_callTy hc hg hm hv (pa_cons hx pa_nil h1) hn hdb he hpl).less (tE_n1 fun _ _ _ q => q)
end
end
end GB

namespace GB
open PySem PySem.Spec PyProof.Rows L2 HT

/-! rows times numbers -/
theorem tmul_same (l : Addr) (items : Array Value) (n : Nat) (dd : Option Addr) (sl : Array (Option Value)) (x : Int) (u : Tok) (c0 : (decide (x < -(2 ^ 63)) || decide (x ≥ 2 ^ 63)) = false) (c1 : (items.isEmpty || x == 1) = true) :
    Meets (Builtin.«tuple.__mul__» ⟨[.ref l, .int x u], []⟩) (fun _ R s => s.heap.get? l = some { cls := .type "tuple", dict := dd, data := .seq items n, slots := sl } ∧ R (.ok (.ret (Value.ref l))) s) :=
  .of_wp fun prog w A R s h => by
    obtain ⟨hp, g, d, tk, os⟩ := s
    obtain ⟨hl, h⟩ := h
    have f1 := AutoSeq1.idx_int
    wp_walk using wpAny_loadPart' hl
    refine wpAny_ite_false (decide_eq_false (by rw [c0]; exact Bool.false_ne_true)) ?_
    wp_walk using wpAny_loadPart' hl
    exact ⟨_, rfl, h⟩
theorem tmul_none (l : Addr) (items : Array Value) (n : Nat) (dd : Option Addr) (sl : Array (Option Value)) (x : Int) (u : Tok) (c0 : (decide (x < -(2 ^ 63)) || decide (x ≥ 2 ^ 63)) = false) (c1 : (items.isEmpty || x == 1) = false) (c2 : (decide (x ≤ 0) || items.isEmpty) = true) :
    Meets (Builtin.«tuple.__mul__» ⟨[.ref l, .int x u], []⟩) (fun _ R s => s.heap.get? l = some { cls := .type "tuple", dict := dd, data := .seq items n, slots := sl } ∧ R (.ok (.ret (Value.ref s.heap.objs.size))) { s with heap := s.heap.push { cls := Value.type "tuple", data := Data.seq #[] }, toks := s.toks }) :=
  .of_wp fun prog w A R s h => by
    obtain ⟨hp, g, d, tk, os⟩ := s
    obtain ⟨hl, h⟩ := h
    have f1 := AutoSeq1.idx_int
    wp_walk using wpAny_loadPart' hl
    refine wpAny_ite_false (decide_eq_false (by rw [c0]; exact Bool.false_ne_true)) ?_
    wp_walk using wpAny_loadPart' hl
    exact ⟨_, rfl, h⟩

/-! arithmetic -/
def fI2 (g : Int → Int → PyData) (c : Int → Int → Prop) : F2 := fun x y Q => ∃ i j, x = .int i ∧ y = .int j ∧ c i j ∧ Q (.d (g i j))
def fAdd : F2 := fun x y Q => match x, y with
  | .int i, .int j => Q (.d (.int (i + j)))
  | .str a, .str b => a.length + b.length ≤ sizeLine ∧ Q (.d (.str (a ++ b)))
  | .tuple xs, .tuple ys => xs.length + ys.length ≤ sizeLine ∧ Q (.d (.tuple (xs ++ ys)))
  | .list xs, .list ys => xs.length + ys.length ≤ sizeLine ∧ Q (.own (xs ++ ys))
  | _, _ => False
abbrev fSub : F2 := fI2 (fun i j => .int (i - j)) fun _ _ => True
abbrev fDiv : F2 := fI2 (fun i j => .int (i / j)) fun _ j => 0 < j ∧ j < 2 ^ 2000
abbrev fMod : F2 := fI2 (fun i j => .int (i % j)) fun _ j => 0 < j
abbrev fPow : F2 := fI2 (fun i j => .int (i ^ j.toNat)) CPow
/-- numbers of a million bits together; rows times small numbers -/
def fMul : F2 := fun x y Q => match x, y with
  | .int i, .int j => (CMul i j ∨ CMulW i j) ∧ Q (.d (.int (i * j)))
  | .tuple xs, .int k => -(2 ^ 62) < k ∧ k < 2 ^ 62 ∧ xs.length * k.toNat ≤ sizeLine ∧ Q (.d (.tuple (List.replicate k.toNat xs).flatten))
  | .list xs, .int k => -(2 ^ 62) < k ∧ k < 2 ^ 62 ∧ xs.length * k.toNat ≤ sizeLine ∧ Q (.own (List.replicate k.toNat xs).flatten)
  | _, _ => False
/-- what == is asked of: rows without dicts, and any two texts -/
def eqOk : PyData → PyData → Bool
  | .str _, .str _ => true
  | x, y => SeqAt.shaped x && SeqAt.shaped y
def fEq : F2 := fun x y Q => eqOk x y = true ∧ Q (.d (.bool (PyData.eqv x y)))
def fNe : F2 := fun x y Q => eqOk x y = true ∧ Q (.d (.bool (!PyData.eqv x y)))
theorem eqOk_cases {x y : PyData} (h : eqOk x y = true) : (∃ a b, x = .str a ∧ y = .str b) ∨ (SeqAt.shaped x = true ∧ SeqAt.shaped y = true) := by
  cases x <;> cases y <;> first
    | exact .inl ⟨_, _, rfl, rfl⟩
    | exact .inr (by simpa [eqOk] using h)
abbrev fLt : F2 := fI2 (fun i j => .bool (decide (i < j))) fun _ _ => True
abbrev fLe : F2 := fI2 (fun i j => .bool (decide (i ≤ j))) fun _ _ => True
abbrev fGt : F2 := fI2 (fun i j => .bool (decide (j < i))) fun _ _ => True
abbrev fGe : F2 := fI2 (fun i j => .bool (decide (j ≤ i))) fun _ _ => True
def isNon : PyData → Bool
  | .none => true
  | _ => false
def fIs : F2 := fun x y Q => y = .none ∧ Q (.d (.bool (isNon x)))
def fIsNot : F2 := fun x y Q => y = .none ∧ Q (.d (.bool (!isNon x)))
/-- x in c -/
def inD (x : PyData) (c : PyData) : Option Bool := match c with
  | .list xs => if SeqAt.shaped x = true ∧ SeqAt.shaped (.list xs) = true then some (xs.any fun z => PyData.eqv z x) else none
  | .tuple xs => if SeqAt.shaped x = true ∧ SeqAt.shaped (.tuple xs) = true then some (xs.any fun z => PyData.eqv z x) else none
  | _ => none
def fIn : F2 := fun x c Q => ∃ b, inD x c = some b ∧ Q (.d (.bool b))
def fNotIn : F2 := fun x c Q => ∃ b, inD x c = some b ∧ Q (.d (.bool (!b)))
def fIx : F2 := fun x y Q => ∃ i, y = .int i ∧ match x with
  | .list xs => ∃ v, atI xs i = some v ∧ Q (.d v)
  | .tuple xs => ∃ v, atI xs i = some v ∧ Q (.d v)
  | .str z => z.length ≤ sizeLine ∧ ∃ c, atI z.cps.toList i = some c ∧ Q (.d (.str ⟨#[c]⟩))
  | _ => False
def fLen : FN := fun xs Q => match xs with
  | [.list ys] => Q (.d (.int ys.length))
  | [.tuple ys] => Q (.d (.int ys.length))
  | [.str z] => z.length ≤ sizeLine ∧ Q (.d (.int z.length))
  | _ => False
def fAbs : FN := fun xs Q => ∃ i, xs = [.int i] ∧ Q (.d (.int i.natAbs))
def fInt : FN := fun xs Q => match xs with
  | [.int i] => Q (.d (.int i))
  | [.bool b] => Q (.d (.int (if b then 1 else 0)))
  | _ => False
def fTuple : FN := fun xs Q => match xs with
  | [.list ys] => Q (.d (.tuple ys))
  | [.tuple ys] => Q (.d (.tuple ys))
  | _ => False
def fList : FN := fun xs Q => match xs with
  | [.list ys] => Q (.own ys)
  | [.tuple ys] => Q (.own ys)
  | _ => False
def fRepr : FN := fun xs Q => ∃ x, xs = [x] ∧ x.showable = true ∧ x.shown.length ≤ sizeLine ∧ x.depth ≤ 60 ∧ Q (.d (.str x.shown))
section
variable {X : Cx} {L : Lay}
theorem nr_d {H : Hp} {v : V} {x : PyData} (h : Br L.K H v x) : NR L H H v (.d x) := h
theorem op2_int {g : Value → Value → Sem Value} {gi : Int → Int → V} {gd : Int → Int → PyData} {c : Int → Int → Prop} {r : R2} (h : OpR X g r) (hr : ∀ v u H Q, (∃ i j, v = .int i ∧ u = .int j ∧ c i j ∧ Q (gi i j) H) → r v u H Q) (hb : ∀ H i j, Br L.K H (gi i j) (gd i j)) :
    OpR X g (rD L (fI2 gd c)) := by
  intro pins s σ H x y v u Q' I rx ry q
  obtain ⟨dx, dy, Q, bx, by_, ⟨i, j, rfl, rfl, hc, q⟩, fin⟩ := q
  have bx : Br L.K H x (.int i) := bx
  have by_ : Br L.K H y (.int j) := by_
  cases bx
  cases by_
  exact h pins s σ H _ _ v u Q' I rx ry (hr _ _ _ _ ⟨i, j, rfl, rfl, hc, fin _ H _ (Same.refl H) (nr_d (hb H i j)) q⟩)
theorem o_sub : OpR X (binaryOp .Sub) (rD L fSub) := op2_int op_sub (fun _ _ _ _ ⟨i, j, e1, e2, _, q⟩ => ⟨i, j, e1, e2, q⟩) fun _ _ _ => .int _
theorem o_mod : OpR X (binaryOp .Mod) (rD L fMod) := op2_int op_mod (fun _ _ _ _ h => h) fun _ _ _ => .int _
theorem o_div : OpR X (binaryOp .FloorDiv) (rD L fDiv) := op2_int op_fdivW (fun _ _ _ _ ⟨i, j, e1, e2, ⟨h1, h2⟩, q⟩ => ⟨i, j, e1, e2, wide_div (b := 2000) h1 (by omega) (by decide) (by decide), q⟩) fun _ _ _ => .int _
theorem o_pow : OpR X (binaryOp .Pow) (rD L fPow) := op2_int op_pow (fun _ _ _ _ h => h) fun _ _ _ => .int _
theorem o_lt : OpR X (compareOp .Lt) (rD L fLt) := op2_int op_lt (fun _ _ _ _ ⟨i, j, e1, e2, _, q⟩ => ⟨i, j, e1, e2, q⟩) fun _ _ _ => .bl _
theorem o_le : OpR X (compareOp .LtE) (rD L fLe) := op2_int op_le (fun _ _ _ _ ⟨i, j, e1, e2, _, q⟩ => ⟨i, j, e1, e2, q⟩) fun _ _ _ => .bl _
theorem o_gt : OpR X (compareOp .Gt) (rD L fGt) := op2_int op_gt (fun _ _ _ _ ⟨i, j, e1, e2, _, q⟩ => ⟨i, j, e1, e2, q⟩) fun _ _ _ => .bl _
theorem o_ge : OpR X (compareOp .GtE) (rD L fGe) := op2_int op_ge (fun _ _ _ _ ⟨i, j, e1, e2, _, q⟩ => ⟨i, j, e1, e2, q⟩) fun _ _ _ => .bl _
theorem isNon_v {H : Hp} {v : V} {x : PyData} (h : Bk L H v x) : decide (v = .non) = isNon x := by
  cases x with
  | list xs => obtain ⟨a, vs, rfl, _⟩ := h; rfl
  | _ => (have h : Br L.K H v _ := h; cases h <;> rfl)
theorem o_is : OpR X (compareOp .Is) (rD L fIs) := by
  intro pins s σ H x y v u Q' I rx ry q
  obtain ⟨dx, dy, Q, bx, by_, ⟨rfl, q⟩, fin⟩ := q
  have by_ : Br L.K H y .none := by_
  cases by_
  refine op_isN pins s σ H _ _ v u Q' I rx ry ⟨rfl, ?_⟩
  rw [isNon_v bx]
  exact fin _ H _ (Same.refl H) (nr_d (.bl _)) q
theorem o_isnot : OpR X (compareOp .IsNot) (rD L fIsNot) := by
  intro pins s σ H x y v u Q' I rx ry q
  obtain ⟨dx, dy, Q, bx, by_, ⟨rfl, q⟩, fin⟩ := q
  have by_ : Br L.K H y .none := by_
  cases by_
  refine op_notN pins s σ H _ _ v u Q' I rx ry ⟨rfl, ?_⟩
  rw [isNon_v bx]
  exact fin _ H _ (Same.refl H) (nr_d (.bl _)) q
variable (hK : L.K = X.K)
include hK
theorem Bk.reads {pins : List (Addr × Obj)} {s : Shared} {σ : L2.St} {H : Hp} (I : Inv X pins σ H s) {v : V} {u : Value} {d : PyData} (h : Bk L H v d) (r : RelV v u) : ∃ as, Reads s.heap u d as := by
  cases d with
  | list xs =>
    obtain ⟨a, vs, rfl, h1, h2⟩ := h
    have sq : SqL X.K H a vs := by
      rcases h1 with h1 | ⟨o, h1⟩
      · exact .inl (.inl h1)
      · exact .inl (.inr ⟨o, h1⟩)
    obtain ⟨its, rv, ⟨o, n, ho, hc, _, hd⟩, _⟩ := I.list sq
    cases r
    rw [hK] at h2
    obtain ⟨as, q1, q2⟩ := BrA.reads I xs _ its h2 rv
    exact ⟨_, .list ho hc hd q1⟩
  | _ =>
    (have h : Br L.K H v _ := h
     rw [hK] at h
     obtain ⟨as, q, _⟩ := Br.reads I _ v u h r
     exact ⟨as, q⟩)
theorem o_eq (g : Good X) : OpR X (compareOp .Eq) (rD L fEq) := by
  intro pins s σ H x y v u Q' I rx ry q
  obtain ⟨dx, dy, Q, bx, by_, ⟨s0, q⟩, fin⟩ := q
  rcases eqOk_cases s0 with ⟨a, b, rfl, rfl⟩ | ⟨s1, s2⟩
  · have bx : Br L.K H x (.str a) := bx
    have by_ : Br L.K H y (.str b) := by_
    cases bx; cases by_
    refine op_eq pins s σ H _ _ v u Q' I rx ry ⟨rfl, fin _ H (.d (.bool _)) (Same.refl H) (nr_d (.bl _)) ?_⟩
    have e : decide (V.str a = V.str b) = PyData.eqv (.str a) (.str b) := by
      by_cases h : a = b
      · subst h; simp [PyData.eqv]
      · simp [PyData.eqv, h]
    rw [e]; exact q
  obtain ⟨as, r1⟩ := Bk.reads hK I bx rx
  obtain ⟨bs, r2⟩ := Bk.reads hK I by_ ry
  exact eq_dataH r1 r2 s1 s2 (by have := g.un; omega) ⟨.bl _, H, I, rfl, fin _ H _ (Same.refl H) (nr_d (.bl _)) q⟩
theorem o_ne (g : Good X) : OpR X (compareOp .NotEq) (rD L fNe) := by
  intro pins s σ H x y v u Q' I rx ry q
  obtain ⟨dx, dy, Q, bx, by_, ⟨s0, q⟩, fin⟩ := q
  rcases eqOk_cases s0 with ⟨a, b, rfl, rfl⟩ | ⟨s1, s2⟩
  · have bx : Br L.K H x (.str a) := bx
    have by_ : Br L.K H y (.str b) := by_
    cases bx; cases by_
    refine op_ne pins s σ H _ _ v u Q' I rx ry ⟨rfl, fin _ H (.d (.bool _)) (Same.refl H) (nr_d (.bl _)) ?_⟩
    have e : decide (V.str a = V.str b) = PyData.eqv (.str a) (.str b) := by
      by_cases h : a = b
      · subst h; simp [PyData.eqv]
      · simp [PyData.eqv, h]
    rw [e]; exact q
  obtain ⟨as, r1⟩ := Bk.reads hK I bx rx
  obtain ⟨bs, r2⟩ := Bk.reads hK I by_ ry
  exact ne_dataH r1 r2 s1 s2 (by have := g.un; omega) ⟨.bl _, H, I, rfl, fin _ H _ (Same.refl H) (nr_d (.bl _)) q⟩
theorem lay_list {xs : List PyData} (h : SeqAt.shaped (.list xs) = true) : PyData.canLayAll0 xs = true := SeqAt.canLay_of_shaped h
theorem lay_tup {xs : List PyData} (h : SeqAt.shaped (.tuple xs) = true) : PyData.canLayAll0 xs = true := SeqAt.canLay_of_shaped h
theorem in_run (g : Good X) {pins : List (Addr × Obj)} {s : Shared} {σ : L2.St} {H : Hp} {x y : V} {v u : Value} {dx dy : PyData} {b : Bool} (I : Inv X pins σ H s) (rx : RelV x v) (ry : RelV y u) (bx : Bk L H x dx) (by_ : Bk L H y dy) (e : inD dx dy = some b)
    {E Q : Value → Shared → Prop} : (Q (.bool b) s → wpAny (model X.prog X.w) X.A (compareOp .In v u) Q E s) ∧ (Q (.bool (!b)) s → wpAny (model X.prog X.w) X.A (compareOp .NotIn v u) Q E s) := by
  obtain ⟨as, r1⟩ := Bk.reads hK I bx rx
  obtain ⟨bs, r2⟩ := Bk.reads hK I by_ ry
  cases dy with
  | list xs =>
    unfold inD at e
    simp only at e
    split at e
    · rename_i h
      cases e
      have hr := room_in_shaped (A := X.A) (xs := xs) h.1 (by have := g.un; omega)
      exact ⟨fun q => SeqAt.in_list_reads r2 r1 (SeqAt.canLay_of_shaped h.2) (SeqAt.canLay_of_shaped h.1) hr q, fun q => SeqAt.notIn_list_reads r2 r1 (SeqAt.canLay_of_shaped h.2) (SeqAt.canLay_of_shaped h.1) hr q⟩
    · cases e
  | tuple xs =>
    unfold inD at e
    simp only at e
    split at e
    · rename_i h
      cases e
      have hr := room_in_shaped (A := X.A) (xs := xs) h.1 (by have := g.un; omega)
      exact ⟨fun q => SeqAt.in_tuple_reads r2 r1 (SeqAt.canLay_of_shaped h.2) (SeqAt.canLay_of_shaped h.1) hr q, fun q => SeqAt.notIn_tuple_reads r2 r1 (SeqAt.canLay_of_shaped h.2) (SeqAt.canLay_of_shaped h.1) hr q⟩
    · cases e
  | _ => cases e
theorem o_in (g : Good X) : OpR X (compareOp .In) (rD L fIn) := by
  intro pins s σ H x y v u Q' I rx ry q
  obtain ⟨dx, dy, Q, bx, by_, ⟨b, e, q⟩, fin⟩ := q
  exact (in_run hK g I rx ry bx by_ e).1 ⟨.bl _, H, I, rfl, fin _ H _ (Same.refl H) (nr_d (.bl _)) q⟩
theorem o_notin (g : Good X) : OpR X (compareOp .NotIn) (rD L fNotIn) := by
  intro pins s σ H x y v u Q' I rx ry q
  obtain ⟨dx, dy, Q, bx, by_, ⟨b, e, q⟩, fin⟩ := q
  exact (in_run hK g I rx ry bx by_ e).2 ⟨.bl _, H, I, rfl, fin _ H _ (Same.refl H) (nr_d (.bl _)) q⟩
/-- a firm list in the plain heap -/
theorem list_at {pins : List (Addr × Obj)} {s : Shared} {σ : L2.St} {H : Hp} (I : Inv X pins σ H s) {v : V} {ds : List PyData} (b : Bk L H v (.list ds)) :
    ∃ a vs its n, v = .ref a ∧ BrA L.K H vs ds ∧ Vals vs its ∧ s.heap.get? a = some { cls := .type "list", data := .seq its.toArray n } ∧ vs.length ≤ sizeLine := by
  obtain ⟨a, vs, rfl, h1, h3⟩ := b
  rcases h1 with h1 | ⟨o, h1⟩
  · obtain ⟨hz, its, n, r, e⟩ := I.hok _ _ h1
    exact ⟨_, _, its, n, rfl, h3, r, e, hz⟩
  · obtain ⟨_, hz, its, n, r, e⟩ := I.hok _ _ h1
    exact ⟨_, _, its, n, rfl, h3, r, e, hz⟩
theorem Bk.readsN (g : Good X) {pins : List (Addr × Obj)} {s : Shared} {σ : L2.St} {H : Hp} (I : Inv X pins σ H s) {v : V} {u : Value} {d : PyData} (h : Bk L H v d) (r : RelV v u) : ∃ as, Reads s.heap u d as ∧ sysModules ∉ as := by
  cases d with
  | list xs =>
    obtain ⟨a, vs, rfl, h1, h2⟩ := h
    have ⟨sq, ns⟩ : SqL X.K H a vs ∧ (a == sysModules) = false := by
      rcases h1 with h1 | ⟨o, h1⟩
      · exact ⟨.inl (.inl h1), ne_sys I g h1⟩
      · exact ⟨.inl (.inr ⟨o, h1⟩), ne_sys I g h1⟩
    obtain ⟨its, rv, ⟨o, n, ho, hc, _, hd⟩, _⟩ := I.list sq
    cases r
    rw [hK] at h2
    obtain ⟨as, q1, q2⟩ := BrA.reads I xs _ its h2 rv
    exact ⟨_, .list ho hc hd q1, not_sys ns q2⟩
  | _ =>
    (have h : Br L.K H v _ := h
     rw [hK] at h
     exact Br.reads I _ v u h r)
theorem list_sq {H : Hp} {v : V} {ds : List PyData} (b : Bk L H v (.list ds)) : ∃ a vs, v = .ref a ∧ SqL X.K H a vs ∧ BrA L.K H vs ds := by
  obtain ⟨a, vs, rfl, h1, h3⟩ := b
  rcases h1 with h1 | ⟨o, h1⟩
  · exact ⟨a, vs, rfl, .inl (.inl h1), h3⟩
  · exact ⟨a, vs, rfl, .inl (.inr ⟨o, h1⟩), h3⟩
theorem o_add : OpR X (binaryOp .Add) (rD L fAdd) := by
  intro pins s σ H x y v u Q' I rx ry q
  obtain ⟨dx, dy, Q, bx, by_, q, fin⟩ := q
  unfold fAdd at q
  split at q
  · rename_i i j
    have bx : Br L.K H x (.int i) := bx
    have by_ : Br L.K H y (.int j) := by_
    cases bx; cases by_
    exact op_add pins s σ H _ _ v u Q' I rx ry ⟨_, _, rfl, rfl, fin _ H _ (Same.refl H) (nr_d (.int _)) q⟩
  · rename_i i j
    have bx : Br L.K H x (.str i) := bx
    have by_ : Br L.K H y (.str j) := by_
    cases bx; cases by_
    exact op_add_str pins s σ H _ _ v u Q' I rx ry ⟨_, _, rfl, rfl, q.1, fin _ H _ (Same.refl H) (nr_d (.str _)) q.2⟩
  · rename_i xs ys
    have bx : Br L.K H x (.tuple xs) := bx
    have by_ : Br L.K H y (.tuple ys) := by_
    cases bx with
    | tup h1 h2 =>
      cases by_ with
      | tup h3 h4 =>
        rw [hK] at h1 h3
        refine op_catA pins s σ H _ _ v u Q' I rx ry ⟨_, _, _, _, rfl, rfl, h1, h3, by rw [h2.len, h4.len]; exact q.1, fun e => ?_, fun e1 e2 => ?_, fun _ _ p hp => ?_⟩
        · have ex : xs = [] := by have := h2.len; rw [e] at this; exact List.length_eq_zero_iff.mp this.symm
          subst ex
          exact fin _ H _ (Same.refl H) (nr_d (.tup (by rw [hK]; exact h3) h4)) (by simpa using q.2)
        · have ex : ys = [] := by have := h4.len; rw [e2] at this; exact List.length_eq_zero_iff.mp this.symm
          subst ex
          exact fin _ H _ (Same.refl H) (nr_d (.tup (by rw [hK]; exact h1) h2)) (by simpa using q.2)
        · exact fin _ _ (.d _) (same_new hp) (.tup (.of upd_same) (BrA.keep (keep_of_same (same_new hp)) _ _ (h2.app h4))) q.2
  · rename_i xs ys
    obtain ⟨a, vs, its, n, rfl, b1, r1, e1, z1⟩ := list_at hK I bx
    obtain ⟨b, ws, its2, n2, rfl, b2, r2, e2, z2⟩ := list_at hK I by_
    cases rx; cases ry
    have l1 := r1.length
    have l2 := r2.length
    have hz : vs.length + ws.length ≤ sizeLine := by rw [b1.len, b2.len]; exact q.1
    refine PySem.P.add_list e1 e2 ?_ (by rw [List.size_toArray, List.size_toArray]; omega)
    rw [List.append_toArray]
    have sm := same_new (o := .lst (vs ++ ws)) I.fresh
    exact ⟨.ref _, _, I.lnew (t' := s.toks) (r1.append r2) (by rw [List.length_append]; exact hz), rfl, fin _ _ (.own _) sm ⟨_, _, rfl, I.fresh, upd_same, BrA.keep (keep_of_same sm) _ _ (b1.app b2)⟩ q.2⟩
  · exact q.elim
theorem o_mul : OpR X (binaryOp .Mult) (rD L fMul) := by
  intro pins s σ H x y v u Q' I rx ry q
  obtain ⟨dx, dy, Q, bx, by_, q, fin⟩ := q
  unfold fMul at q
  split at q
  · rename_i i j
    have bx : Br L.K H x (.int i) := bx
    have by_ : Br L.K H y (.int j) := by_
    cases bx; cases by_
    rcases q.1 with hc | hc
    · exact op_mul pins s σ H _ _ v u Q' I rx ry ⟨_, _, rfl, rfl, hc, fin _ H _ (Same.refl H) (nr_d (.int _)) q.2⟩
    · exact op_mulW pins s σ H _ _ v u Q' I rx ry ⟨_, _, rfl, rfl, hc, fin _ H _ (Same.refl H) (nr_d (.int _)) q.2⟩
  · rename_i xs k
    obtain ⟨hk1, hk2, hk3, q⟩ : -(2 ^ 62) < k ∧ k < 2 ^ 62 ∧ xs.length * k.toNat ≤ sizeLine ∧ Q (.d (.tuple (List.replicate k.toNat xs).flatten)) := q
    have bx : Br L.K H x (.tuple xs) := bx
    have by_ : Br L.K H y (.int k) := by_
    cases by_
    obtain ⟨t, rfl⟩ := ry
    cases bx with
    | tup h1 h2 =>
      rename_i l vs
      cases rx
      have h1' := h1
      rw [hK] at h1
      obtain ⟨its, r, ⟨⟨cls, dd, data, sl⟩, ho, hc, n, hd⟩, hs⟩ := I.tuple h1
      simp only at hc hd
      subst hc hd
      have hv := r.length
      have hx := h2.len
      have sz : its.toArray.size = xs.length := by rw [List.size_toArray]; omega
      have c0 : (decide (k < -(2 ^ 63)) || decide (k ≥ 2 ^ 63)) = false := by
        rw [decide_eq_false (by omega), decide_eq_false (by omega)]; rfl
      refine wpAny_binaryOp_repeat_ref (T := "tuple") (U := "int") (by decide) ⟨_, ho, rfl⟩ (fun s' => typeIs_int s' k t) noFill_tuple_mul F.fills_int_mul F.slot_int_rmul repeat_tuple F.slot_int_index.lookup
        (call_meets F.slot_int_rmul (typeIs_int s k t) F.entry_int_rmul (F.args_int_rmul_2 _ _) (int_rmul_tuple k t l its.toArray n dd sl) ⟨ho, rfl, ⟨_, ho, rfl⟩, ?_⟩)
      by_cases c1 : (its.toArray.isEmpty || k == 1) = true
      · refine call_meets F.slot_tuple_mul ⟨_, ho, rfl⟩ F.entry_tuple_mul (F.args_tuple_mul_2 _ _) (tmul_same l its.toArray n dd sl k t c0 c1) ⟨ho, ?_⟩
        have e : (List.replicate k.toNat xs).flatten = xs := by
          rcases Bool.or_eq_true_iff.mp c1 with z | z
          · have : xs = [] := by
              have : its.toArray.size = 0 := by simpa using z
              exact List.length_eq_zero_iff.mp (by omega)
            subst this; simp
          · have : k = 1 := by simpa using z
            subst this; simp
        rw [e] at q
        exact ⟨.ref l, H, I, rfl, fin _ H (.d (.tuple xs)) (Same.refl H) (nr_d (.tup h1' h2)) q⟩
      · have c1 : (its.toArray.isEmpty || k == 1) = false := by simpa using c1
        by_cases c2 : (decide (k ≤ 0) || its.toArray.isEmpty) = true
        · refine call_meets F.slot_tuple_mul ⟨_, ho, rfl⟩ F.entry_tuple_mul (F.args_tuple_mul_2 _ _) (tmul_none l its.toArray n dd sl k t c0 c1 c2) ⟨ho, ?_⟩
          have hk0 : k ≤ 0 := by
            rcases Bool.or_eq_true_iff.mp c2 with z | z
            · exact of_decide_eq_true z
            · rw [z, Bool.true_or] at c1; cases c1
          have e : (List.replicate k.toNat xs).flatten = [] := by
            have : k.toNat = 0 := by omega
            rw [this]; rfl
          rw [e] at q
          refine ⟨.ref s.heap.objs.size, _, I.laid (t' := s.toks) (o := .tup []) (fun b ob q => Heap.get?_push_of_some _ q) (Nat.le_refl _) ⟨Nat.zero_le _, [], .nil, IsTup.new _ _⟩, rfl, ?_⟩
          exact fin _ _ (.d (.tuple [])) (same_new I.fresh) (.tup (.of upd_same) .nil) q
        · have c2 : (decide (k ≤ 0) || its.toArray.isEmpty) = false := by simpa using c2
          have hk0 : 0 < k := by
            have := (Bool.or_eq_false_iff.mp c2).1
            have := of_decide_eq_false this
            omega
          have hm : ((its.toArray.size : Nat) : Int) * k = ((xs.length * k.toNat : Nat) : Int) := by
            rw [sz]; push_cast; rw [Int.toNat_of_nonneg (by omega)]
          have sl16 := sizeLine_eq
          have c4 : Builtin.Tuple.tupleTooMany (((its.toArray.size : Nat) : Int) * k) = false := by
            unfold Builtin.Tuple.tupleTooMany
            rw [hm]
            exact decide_eq_false (by omega)
          have lf : (List.replicate k.toNat its).flatten.length ≤ sizeLine := by
            rw [PyProof.Rows.lm_len_rep_flat, Nat.mul_comm, show its.length = xs.length by omega]; exact hk3
          refine call_meets F.slot_tuple_mul ⟨_, ho, rfl⟩ F.entry_tuple_mul (F.args_tuple_mul_2 _ _) (tuple_mulW l its.toArray n dd sl k t c0 c1 c2 (by rw [hm]; omega) c4 (by rw [size_rep, List.size_toArray]; exact lf)) ⟨ho, ?_⟩
          rw [size_rep]
          have lv : (List.replicate k.toNat vs).flatten.length ≤ sizeLine := by
            rw [PyProof.Rows.lm_len_rep_flat, Nat.mul_comm, show vs.length = xs.length by omega]; exact hk3
          refine ⟨.ref s.heap.objs.size, _, I.laid (t' := s.toks) (o := .tup (List.replicate k.toNat vs).flatten) (fun b ob q => Heap.get?_push_of_some _ q) (Nat.le_refl _) ⟨lv, _, r.rep k.toNat, IsTup.new _ _⟩, rfl, ?_⟩
          exact fin _ _ (.d _) (same_new I.fresh) (.tup (.of upd_same) (BrA.keep (keep_of_same (same_new I.fresh)) _ _ (h2.rep _))) q
  · rename_i xs k
    obtain ⟨hk1, hk2, hk3, q⟩ : -(2 ^ 62) < k ∧ k < 2 ^ 62 ∧ xs.length * k.toNat ≤ sizeLine ∧ Q (.own (List.replicate k.toNat xs).flatten) := q
    have by_ : Br L.K H y (.int k) := by_
    cases by_
    obtain ⟨t, rfl⟩ := ry
    obtain ⟨l, vs, its, n, rfl, b1, r, e, hz⟩ := list_at hK I bx
    cases rx
    have hv := r.length
    have hx := b1.len
    have sl16 := sizeLine_eq
    have sz : its.toArray.size = xs.length := by rw [List.size_toArray]; omega
    have fill : List.foldl (fun x1 x2 => x1 ++ x2) #[] (List.replicate (if its.toArray.isEmpty = true then 0 else k.toNat) its.toArray) = (List.replicate k.toNat its).flatten.toArray := by
      rw [size_rep]
      cases its with
      | nil => simp
      | cons a r' => rw [if_neg (by simp)]
    refine wpAny_binaryOp_repeat_ref (T := "list") (U := "int") (by decide) ⟨_, e, rfl⟩ (fun s' => typeIs_int s' k t) noFill_list_mul F.fills_int_mul F.slot_int_rmul repeat_list F.slot_int_index.lookup
      (call_meets F.slot_int_rmul (typeIs_int s k t) F.entry_int_rmul (F.args_int_rmul_2 _ _) (int___rmul___int_list k t l its.toArray n)
        ⟨e, rfl, ⟨_, e, rfl⟩, call_meets F.slot_list_mul ⟨_, e, rfl⟩ F.entry_list_mul (F.args_list_mul_2 _ _) (AutoListH.list___mul___list_int_3 l its.toArray n k t ?_ ?_ ?_) ⟨e, ?_⟩⟩)
    · rw [fitsIndex_both (by omega) (by omega)]; exact Bool.false_ne_true
    · rw [sz]; omega
    · rw [notLongL (by rw [sz]; exact hk3)]; exact Bool.false_ne_true
    · rw [fill]
      have lv : (List.replicate k.toNat vs).flatten.length ≤ sizeLine := by
        rw [PyProof.Rows.lm_len_rep_flat, Nat.mul_comm, show vs.length = xs.length by omega]; exact hk3
      exact ⟨.ref _, _, I.lnew (t' := s.toks) (r.rep k.toNat) lv, rfl, fin _ _ (.own _) (same_new I.fresh) ⟨_, _, rfl, I.fresh, upd_same, BrA.keep (keep_of_same (same_new I.fresh)) _ _ (b1.rep _)⟩ q⟩
  · exact q.elim
theorem i_at : IxR X (rD L fIx) := by
  intro ev es pins s σ H x y v u Q' I rx ry q hs
  obtain ⟨dx, dy, Q, bx, by_, ⟨i, rfl, q⟩, fin⟩ := q
  have by_ : Br L.K H y (.int i) := by_
  cases by_
  cases dx with
  | list xs =>
    obtain ⟨d, e, q⟩ := q
    obtain ⟨a, vs, rfl, h1, h3⟩ := list_sq hK bx
    · obtain ⟨j, hj, e3, _⟩ := atI_get e
      obtain ⟨v1, e4, b1⟩ := h3.get e3
      have e5 : atI vs i = some v1 := by
        unfold atI at e ⊢
        rw [h3.len]
        cases hx : ixN xs.length i with
        | none => rw [hx] at e; cases e
        | some k =>
          obtain ⟨q1, _, _, _⟩ := ixN_seq hx
          have : k = j := Option.some.inj (q1.symm.trans hj)
          subst this
          exact e4
      exact ix_list ev es pins s σ H _ _ v u Q' I rx ry ⟨_, _, i, v1, rfl, rfl, h1, e5, fin _ H _ (Same.refl H) (nr_d b1) q⟩ hs
  | tuple xs =>
    obtain ⟨d, e, q⟩ := q
    have bx : Br L.K H x (.tuple xs) := bx
    cases bx with
    | tup h1 h3 =>
      rename_i a vs
      rw [hK] at h1
      obtain ⟨j, hj, e3, _⟩ := atI_get e
      obtain ⟨v1, e4, b1⟩ := h3.get e3
      have e5 : atI vs i = some v1 := by
        unfold atI at e ⊢
        rw [h3.len]
        cases hx : ixN xs.length i with
        | none => rw [hx] at e; cases e
        | some k =>
          obtain ⟨q1, _, _, _⟩ := ixN_seq hx
          have : k = j := Option.some.inj (q1.symm.trans hj)
          subst this
          exact e4
      exact ix_tup ev es pins s σ H _ _ v u Q' I rx ry ⟨_, _, i, v1, rfl, rfl, h1, e5, fin _ H _ (Same.refl H) (nr_d b1) q⟩ hs
  | str z =>
    obtain ⟨hz, c, e, q⟩ := q
    have bx : Br L.K H x (.str z) := bx
    cases bx
    exact ix_str ev es pins s σ H _ _ v u Q' I rx ry ⟨z, i, c, rfl, rfl, hz, e, fin _ H _ (Same.refl H) (nr_d (.str _)) q⟩ hs
  | _ => exact q.elim
theorem brA1 {H : Hp} {vs : List V} {x : PyData} (h : BkA L H vs [x]) : ∃ v, vs = [v] ∧ Bk L H v x := by
  cases h with | cons h1 h2 => cases h2; exact ⟨_, rfl, h1⟩
theorem c_len : CallR X (.builtin "len") (rN L fLen) := by
  intro pins s σ H vs us Q' I r q
  obtain ⟨xs, Q, b, q, fin⟩ := q
  unfold fLen at q
  split at q
  · obtain ⟨v, rfl, b1⟩ := brA1 hK b
    obtain ⟨a, vs, rfl, h1, h3⟩ := list_sq hK b1
    exact call_len_seq pins s σ H _ us Q' I r ⟨_, _, rfl, .inl h1, fin _ H _ (Same.refl H) (nr_d (.int _)) (by rw [h3.len]; exact q)⟩
  · obtain ⟨v, rfl, b1⟩ := brA1 hK b
    cases b1 with
    | tup h1 h3 => rw [hK] at h1; exact call_len_seq pins s σ H _ us Q' I r ⟨_, _, rfl, .inr h1, fin _ H _ (Same.refl H) (nr_d (.int _)) (by rw [h3.len]; exact q)⟩
  · obtain ⟨v, rfl, b1⟩ := brA1 hK b
    cases b1
    exact call_len_str pins s σ H _ us Q' I r ⟨_, rfl, q.1, fin _ H _ (Same.refl H) (nr_d (.int _)) q.2⟩
  · exact q.elim
theorem c_abs : CallR X (.builtin "abs") (rN L fAbs) := by
  intro pins s σ H vs us Q' I r q
  obtain ⟨xs, Q, b, ⟨i, rfl, q⟩, fin⟩ := q
  obtain ⟨v, rfl, b1⟩ := brA1 hK b
  cases b1
  refine call_abs pins s σ H _ us Q' I r ⟨i, rfl, fin _ H (.d (.int i.natAbs)) (Same.refl H) ?_ q⟩
  have : (if i < 0 then -i else i) = (i.natAbs : Int) := by split <;> omega
  rw [this]; exact nr_d (.int _)
theorem c_int : CallR X (.type "int") (rN L fInt) := by
  intro pins s σ H vs us Q' I r q
  obtain ⟨xs, Q, b, q, fin⟩ := q
  unfold fInt at q
  split at q
  · obtain ⟨v, rfl, b1⟩ := brA1 hK b
    cases b1
    exact call_int1 pins s σ H _ us Q' I r (.inl ⟨_, rfl, fin _ H _ (Same.refl H) (nr_d (.int _)) q⟩)
  · obtain ⟨v, rfl, b1⟩ := brA1 hK b
    cases b1
    exact call_int1 pins s σ H _ us Q' I r (.inr ⟨_, rfl, fin _ H _ (Same.refl H) (nr_d (.int _)) q⟩)
  · exact q.elim
theorem c_tuple : CallR X (.type "tuple") (rN L fTuple) := by
  intro pins s σ H vs us Q' I r q
  obtain ⟨xs, Q, b, q, fin⟩ := q
  unfold fTuple at q
  split at q
  · obtain ⟨v, rfl, b1⟩ := brA1 hK b
    obtain ⟨a, vs, rfl, h1, h3⟩ := list_sq hK b1
    · refine call_tuple_of pins s σ H _ us Q' I r ⟨_, _, rfl, .inl ⟨h1, fun l hl => ?_⟩⟩
      exact fin _ _ (.d _) (same_new hl) (.tup (.of upd_same) (BrA.keep (keep_of_same (same_new hl)) _ _ h3)) q
  · obtain ⟨v, rfl, b1⟩ := brA1 hK b
    cases b1 with
    | tup h1 h3 =>
      rw [hK] at h1
      exact call_tuple_of pins s σ H _ us Q' I r ⟨_, _, rfl, .inr ⟨h1, fin _ H _ (Same.refl H) (nr_d (.tup (by rw [hK]; exact h1) h3)) q⟩⟩
  · exact q.elim
theorem c_list : CallR X (.type "list") (rN L fList) := by
  intro pins s σ H vs us Q' I r q
  obtain ⟨xs, Q, b, q, fin⟩ := q
  unfold fList at q
  split at q
  · obtain ⟨v, rfl, b1⟩ := brA1 hK b
    obtain ⟨a, vs, rfl, h1, h3⟩ := list_sq hK b1
    · refine call_list_of pins s σ H _ us Q' I r ⟨_, _, rfl, .inl h1, fun l hl => ?_⟩
      exact fin _ _ (.own _) (same_new hl) ⟨_, _, rfl, hl, upd_same, BrA.keep (keep_of_same (same_new hl)) _ _ h3⟩ q
  · obtain ⟨v, rfl, b1⟩ := brA1 hK b
    cases b1 with
    | tup h1 h3 =>
      rw [hK] at h1
      refine call_list_of pins s σ H _ us Q' I r ⟨_, _, rfl, .inr h1, fun l hl => ?_⟩
      exact fin _ _ (.own _) (same_new hl) ⟨_, _, rfl, hl, upd_same, BrA.keep (keep_of_same (same_new hl)) _ _ h3⟩ q
  · exact q.elim
theorem c_repr (g : Good X) : CallR X (.builtin "repr") (rN L fRepr) := by
  intro pins s σ H vs us Q' I r q
  obtain ⟨xs, Q, b, ⟨x, rfl, h1, h2, h3, q⟩, fin⟩ := q
  obtain ⟨v, rfl, b1⟩ := brA1 hK b
  obtain ⟨u, rfl, ru⟩ := vals1 r
  obtain ⟨as, rd, ns⟩ := Bk.readsN hK g I b1 ru
  have fn : Q' (.str x.shown) H := fin _ H (.d (.str x.shown)) (Same.refl H) (nr_d (.str _)) q
  have un := g.un
  have byRef : ∀ a, u = .ref a → wpAny (model X.prog X.w) X.A (call (.builtin "repr") [u]) (EP X pins σ Q') X.xe s := fun a e => by
    subst e
    exact repr_of_reads' rd h1 (fun _ => ns) g.gd (by omega) (fun _ _ e => e) (fun h' t tk hk => ⟨.str _, H, I.kept (t' := tk) hk, ⟨t, rfl⟩, fn⟩) h2
  cases x with
  | none => cases b1; cases ru; exact PySem.P.repr_of_none ⟨.str _, H, I.tok _, ⟨_, rfl⟩, by simpa [PyData.shown] using fn⟩
  | bool b => cases b1; cases ru; exact PySem.P.repr_of_bool ⟨.str _, H, I.tok _, ⟨_, rfl⟩, by cases b <;> simpa [PyData.shown] using fn⟩
  | int i => cases b1; obtain ⟨t, rfl⟩ := ru; exact PySem.P.repr_of_int (by simpa [PyData.showable] using h1) ⟨.str _, H, I.tok _, ⟨_, rfl⟩, by simpa [PyData.shown] using fn⟩
  | str z => cases b1; obtain ⟨t, rfl⟩ := ru; exact PySem.P.repr_of_str ⟨.str _, H, I.tok _, ⟨_, rfl⟩, by simpa [PyData.shown] using fn⟩ (by simpa [PyData.shown] using h2)
  | tuple ds => cases b1; exact byRef _ ru
  | list ds => obtain ⟨a, vs, rfl, _⟩ := b1; exact byRef _ ru
  | dict kvs => cases b1; exact byRef _ ru
end
end GB

namespace GB
open PySem PySem.Spec PyProof.Rows L2

/-! statements -/
def dNext : TSd := fun D ρ => D.nx ρ
def dSeq (t u : TSd) : TSd := fun D ρ => t { D with nx := u D } ρ
def dSet (i : Nat) (t : TEd) : TSd := fun D ρ => t ρ fun s ρ1 => D.nx (ρ1.set i s)
def dDrop (t : TEd) : TSd := fun D ρ => t ρ fun _ ρ1 => D.nx ρ1
def dRet (t : TEd) : TSd := fun D ρ => t ρ fun s _ => D.rt s
def dIfS (c : TTd) (t u : TSd) : TSd := fun D ρ => c ρ fun b ρ1 => if b = true then t D ρ1 else u D ρ1
def dBrk : TSd := fun D ρ => D.bk ρ
def dCnt : TSd := fun D ρ => D.ct ρ
/-- from here on the slot's list is as it is for good -/
def dFixS (i : Nat) (t : TSd) : TSd := fun D ρ => ∃ xs, ρ[i]? = some (.own xs) ∧ t D (ρ.set i (.d (.list xs)))
section
variable {X : Cx} {L : Lay} {pos : Pos} {e c : Expr} {st : Stmt} {sts sts2 : List Stmt} {t u : TSd} {te : TEd} {tc : TTd}
theorem tS_mono {D D' : Ends} {σ : L2.St} {H : Hp} (h : tS L t D σ H) (nx : ∀ σ' H' ρ', Keep H H' → Rel L H' σ' ρ' → D.nx σ' H' → D'.nx σ' H') (rt : ∀ v H', D.rt v H' → D'.rt v H') (bk : ∀ σ' H', D.bk σ' H' → D'.bk σ' H') (ct : ∀ σ' H', D.ct σ' H' → D'.ct σ' H') : tS L t D' σ H := by
  obtain ⟨ρ, De, r, q, h1, h2, h3, h4⟩ := h
  exact ⟨ρ, De, r, q, fun σ' H' ρ' k r' n => nx _ _ ρ' k r' (h1 σ' H' ρ' k r' n), fun v H' s k sm rr n => rt _ _ (h2 v H' s k sm rr n), fun σ' H' ρ' k r' n => bk _ _ (h3 σ' H' ρ' k r' n), fun σ' H' ρ' k r' n => ct _ _ (h4 σ' H' ρ' k r' n)⟩
theorem VR.rr {Hs H : Hp} {v : V} {s : S} (h : VR L Hs H v s) : RR L H v s := by
  cases s with
  | un => exact h
  | d x => exact h
  | ob t => exact h
  | own xs => exact h.1
theorem dss_nil : PSs X [] (tS L dNext) := pss_nil.less fun D σ H h => by
  obtain ⟨ρ, De, r, q, h1, _⟩ := h
  exact h1 σ H ρ (Keep.rfl' H) r q
theorem dss_cons (h : PS X st (tS L t)) (h2 : PSs X sts (tS L u)) : PSs X (st :: sts) (tS L (dSeq t u)) := (pss_cons h h2).less fun D σ H q => by
  obtain ⟨ρ, De, r, q, h1, h2, h3, h4⟩ := q
  refine ⟨ρ, { De with nx := u De }, r, q, fun σ' H' ρ' k r' n => ?_, h2, h3, h4⟩
  exact ⟨ρ', De, r', n, fun σ2 H2 ρ2 k2 => h1 σ2 H2 ρ2 (k.tr k2), fun v H2 s k2 => h2 v H2 s (k.tr k2), fun σ2 H2 ρ2 k2 => h3 σ2 H2 ρ2 (k.tr k2), fun σ2 H2 ρ2 k2 => h4 σ2 H2 ρ2 (k.tr k2)⟩
theorem dss_one (h : PS X st (tS L t)) : PSs X [st] (tS L t) := pss_one h
theorem ds_set {i : Nat} {x : Str} {pos' : Pos} (g : Good X) (hi : X.N[i]? = some x) (hx : Loc X.env.scope x) (he : PE X e (tE L te)) (hs : swapsWith e (some (.Name x pos')) pos.line X.env = pure false := by rfl)
    (hf : X.fn x = true ∨ X.env.scope.names.lookup x = some .local := by first | exact .inl rfl | exact .inr rfl | assumption) : PS X (.Assign [.Name x pos'] e pos) (tS L (dSet i te)) :=
  (ps_set g.nd hi hx he hs hf).less fun D σ H q => by
    obtain ⟨ρ, De, r, q, h1, h2, h3, h4⟩ := q
    exact ⟨ρ, _, r, q, fun v H' s ρ' go r' hv n => h1 _ _ _ (go.keep r) (r.set r' go hv) n⟩
theorem ds_expr (he : PE X e (tE L te)) (hs : swapsWith e none pos.line X.env = pure false := by rfl) : PS X (.Expr e pos) (tS L (dDrop te)) := (ps_expr he hs).less fun D σ H q => by
  obtain ⟨ρ, De, r, q, h1, h2, h3, h4⟩ := q
  exact ⟨ρ, _, r, q, fun v H' s ρ' go r' hv n => h1 _ _ _ (go.keep r) r' n⟩
theorem ds_ret (he : PE X e (tE L te)) : PS X (.Return (some e) pos) (tS L (dRet te)) := (ps_ret he).less fun D σ H q => by
  obtain ⟨ρ, De, r, q, h1, h2, h3, h4⟩ := q
  exact ⟨ρ, _, r, q, fun v H' s ρ' go r' hv n => h2 _ _ _ (go.keep r) r'.same hv.rr n⟩
theorem ds_if (hc : PT X c (tT L tc)) (h : PSs X sts (tS L t)) (h2 : PSs X sts2 (tS L u)) : PS X (.If c sts sts2 pos) (tS L (dIfS tc t u)) := (ps_if hc h h2).less fun D σ H q => by
  obtain ⟨ρ, De, r, q, h1, h2, h3, h4⟩ := q
  refine ⟨ρ, _, r, q, fun b H' ρ' go r' n => ?_⟩
  have k := go.keep r
  cases b with
  | true => exact ⟨ρ', De, r', by simpa using n, fun σ2 H2 ρ2 k2 => h1 σ2 H2 ρ2 (k.tr k2), fun v H2 s k2 => h2 v H2 s (k.tr k2), fun σ2 H2 ρ2 k2 => h3 σ2 H2 ρ2 (k.tr k2), fun σ2 H2 ρ2 k2 => h4 σ2 H2 ρ2 (k.tr k2)⟩
  | false => exact ⟨ρ', De, r', by simpa using n, fun σ2 H2 ρ2 k2 => h1 σ2 H2 ρ2 (k.tr k2), fun v H2 s k2 => h2 v H2 s (k.tr k2), fun σ2 H2 ρ2 k2 => h3 σ2 H2 ρ2 (k.tr k2), fun σ2 H2 ρ2 k2 => h4 σ2 H2 ρ2 (k.tr k2)⟩
theorem ds_brk : PS X (.Break pos) (tS L dBrk) := ps_break.less fun D σ H q => by
  obtain ⟨ρ, De, r, q, h1, h2, h3, h4⟩ := q
  exact h3 _ _ _ (Keep.rfl' H) r q
theorem ds_cnt : PS X (.Continue pos) (tS L dCnt) := ps_continue.less fun D σ H q => by
  obtain ⟨ρ, De, r, q, h1, h2, h3, h4⟩ := q
  exact h4 _ _ _ (Keep.rfl' H) r q
theorem dss_fix (g : Good X) (i : Nat) (h : PSs X sts (tS L t)) : PSs X sts (tS L (dFixS i t)) := by
  constructor
  intro pins s σ H D I q
  obtain ⟨ρ, De, r, ⟨xs, e, q⟩, h1, h2, h3, h4⟩ := q
  obtain ⟨l, vs, hi, hl, hb, h0⟩ := r.getO e
  obtain ⟨o, I2⟩ := fix_inv I hl trivial
  obtain ⟨r2, b2⟩ := r.fixIn (o := o) e hi hl (ne_sys I g hl)
  have k := keep_fix (o := o) hl trivial
  exact h.run pins s σ _ D I2 ⟨_, De, r2, q, fun σ2 H2 ρ2 k2 => h1 σ2 H2 ρ2 (k.tr k2), fun v H2 s k2 => h2 v H2 s (k.tr k2), fun σ2 H2 ρ2 k2 => h3 σ2 H2 ρ2 (k.tr k2), fun σ2 H2 ρ2 k2 => h4 σ2 H2 ρ2 (k.tr k2)⟩
end

/-! defs: promises over data -/
abbrev FnD := List S → (S → Prop) → Prop
def spD (K : PySem.W.Frag) (J : Jar) (n : Nat) (F : FnD) : Sp := fun vs H Q _ => ∃ ss R, FRs ⟨K, J, H⟩ H vs ss ∧ ss.length = n ∧ F ss R ∧ ∀ v H' s, Same H H' → RR ⟨K, J, H⟩ H' v s → R s → Q v H'
def dCall (F : FnD) (n : Nat) (ta : TAd) : TEd := fun ρ Q => ta ρ fun ss ρ1 => ss.length = n ∧ F ss fun s => Q s ρ1
theorem FRs.len {L : Lay} {H : Hp} {vs : List V} {ss : List S} (h : FRs L H vs ss) : vs.length = ss.length := by
  induction h with
  | nil => rfl
  | cons _ _ ih => simp [ih]
theorem FRs.lay {L : Lay} {H H0 : Hp} {vs : List V} {ss : List S} (h : FRs L H vs ss) : FRs { L with H0 := H0 } H vs ss := by
  induction h with
  | nil => exact .nil
  | @cons v vs s ss h1 _ ih => exact .cons (by cases s <;> exact h1) ih
section
variable {X : Cx} {L : Lay} {pos p : Pos} {e : Expr} {es : List Expr} {tas tks : TAd} {F : FnD} {x : Str} {f : Addr} {fd : FuncData} {ps ks : List Str} {k : Nat} {CX : CXT} {E : XK} {kws : List Keyword}
theorem rr_vr {H H1 H2 : Hp} {σ : L2.St} {ρ ρ1 : En} (r1 : Rel L H1 σ ρ1) (go : Go σ ρ ρ1 H H1) {v : V} {s : S} (h : RR ⟨L.K, L.J, H1⟩ H2 v s) : VR L H H2 v s := by
  cases s with
  | un => exact h
  | d x => exact h
  | ob t => exact h
  | own xs =>
    obtain ⟨l, vs, rfl, h1, h2, h3⟩ := h
    exact ⟨⟨l, vs, rfl, h1, h2, r1.same.free h3⟩, fun l' e => by cases e; exact go.dom _ h3⟩
theorem de_call (hK : L.K = X.K) (Fn : FnG X.prog X.w X.K X.mg X.base CX k f fd ps (spD X.K L.J ps.length F)) (hr : Room k X.A) (g : Good X) (hg : Gl X x) (hm : X.mg x = some (.ref f)) (hk : PySem.W.keepIn X.K (.ref f) = true) (hb : Binds X.K fd ps [])
    (hx : Passes CX X E) (ha : PA X (e :: es) (tA L tas)) (hdb : (x == ("__debug__" : Str)) = false := by decide) (he : starEach (e :: es) X.env = (false, eval e X.env) :: starEach es X.env := by rfl)
    (hpl : (backTo pos (starEach es X.env)).any (·.1) = false := by rfl) : PE X (.Call (.Name x p) (e :: es) [] pos) (tE L (dCall F ps.length tas)) :=
  (g_call Fn hr g.gd hg hm hk hb hx ha hdb he hpl).less fun σ H Q' h => by
    obtain ⟨ρ, Q, r, q, fin⟩ := h
    refine ⟨ρ, _, r, q, fun vs H1 ss ρ1 go r1 hv q1 => ?_⟩
    show spD X.K L.J ps.length F (vs ++ []) H1 Q' E
    rw [List.append_nil]
    refine ⟨ss, _, ?_, q1.1, q1.2, fun v H2 s sm rr q2 => fin v H2 s ρ1 (go.tr (Go.sm sm)) (r1.go sm) (rr_vr r1 go (by rw [hK]; exact rr)) q2⟩
    rw [← hK]; exact hv.lay
theorem de_call0 (hK : L.K = X.K) (Fn : FnG X.prog X.w X.K X.mg X.base CX k f fd ps (spD X.K L.J ps.length F)) (hr : Room k X.A) (g : Good X) (hg : Gl X x) (hm : X.mg x = some (.ref f)) (hk : PySem.W.keepIn X.K (.ref f) = true) (hb : Binds X.K fd ps [])
    (hx : Passes CX X E) (hdb : (x == ("__debug__" : Str)) = false := by decide) : PE X (.Call (.Name x p) [] [] pos) (tE L (dCall F ps.length dNil)) :=
  (g_call0 Fn hr g.gd hg hm hk hb hx hdb).less fun σ H Q' h => by
    obtain ⟨ρ, Q, r, q, fin⟩ := h
    show spD X.K L.J ps.length F [] H Q' E
    have q : ([] : List S).length = ps.length ∧ F [] fun s => Q s ρ := q
    exact ⟨[], _, .nil, q.1, q.2, fun v H2 s sm rr q2 => fin v H2 s ρ (Go.sm sm) (r.go sm) (rr_vr r Go.rf (by rw [hK]; exact rr)) q2⟩
/-- keywords: their places among the parameters -/
def dCallK (F : FnD) (n : Nat) (gS : List S → List S) (ta : TAd) : TEd := fun ρ Q => ta ρ fun ss ρ1 => (gS ss).length = n ∧ F (gS ss) fun s => Q s ρ1
theorem dk_nil : PK X [] (tA L dNil) := pk_nil.less' fun σ H Q' h => by
  obtain ⟨ρ, Q, r, q, fin⟩ := h
  exact fin [] H [] ρ Go.rf r .nil q
theorem dk_cons {te : TEd} {nm : Option Str} {kpos : Pos} (h : PE X e (tE L te)) (hr : PK X kws (tA L tks)) : PK X (⟨nm, e, kpos⟩ :: kws) (tA L (dCons te tks)) := (pk_cons h hr).less' fun σ H Q' h => by
  obtain ⟨ρ, Q, r0, q, fin⟩ := h
  refine ⟨ρ, _, r0, q, fun v H1 s ρ1 k1 r1 hv q1 => ?_⟩
  obtain ⟨f, q2⟩ := q1
  refine ⟨ρ1, _, r1, q2, fun vs H2 ss ρ2 k2 r2 hvs q3 => ?_⟩
  exact fin (v :: vs) H2 (s :: ss) ρ2 (k1.tr k2) r2 (.cons ((fr_of f hv).keep (k2.keep r1)) hvs) q3
/-- how names given bind: a permutation of what is given -/
structure Perm (K : PySem.W.Frag) (fd : FuncData) (ps ks : List Str) (g : List Value → List Value) (gV : List V → List V) (gS : List S → List S) : Prop where
  to : ∀ (s : Shared) (ws : List Value), (g ws).length = ps.length → BindsTo s fd ⟨[], ks.zip ws⟩ (ps.zip (g ws))
  rel : ∀ {zs : List V} {ws : List Value}, Vals zs ws → Vals (gV zs) (g ws)
  fr : ∀ {L : Lay} {H : Hp} {zs : List V} {ss : List S}, FRs L H zs ss → FRs L H (gV zs) (gS ss)
theorem g_kw {gV : List V → List V} {g : List Value → List Value} {sp : Sp} {tk : TA} (Fn : FnG X.prog X.w X.K X.mg X.base CX k f fd ps sp) (hr : Room k X.A) (gd : X.A.guards = some []) (hg : Gl X x) (hm : X.mg x = some (.ref f)) (hk : PySem.W.keepIn X.K (.ref f) = true)
    (hto : ∀ (s : Shared) (ws : List Value), (g ws).length = ps.length → BindsTo s fd ⟨[], ks.zip ws⟩ (ps.zip (g ws))) (hrel : ∀ {zs : List V} {ws : List Value}, Vals zs ws → Vals (gV zs) (g ws)) (hx : Passes CX X E) (hkw : PK X kws tk) (hall : (backToKw pos (keywordEach kws X.env)).all (·.1.isSome) = true := by rfl)
    (hks : (backToKw pos (keywordEach kws X.env)).filterMap (·.1) = ks := by rfl) (hdb : (x == ("__debug__" : Str)) = false := by decide)
    (hpl : ((backTo pos (starEach [] X.env)).any (·.1) || (backToKw pos (keywordEach kws X.env)).any (·.1.isNone)) = false := by rfl) :
    PE X (.Call (.Name x p) [] kws pos) fun σ H Q => tk σ H fun zs H2 => sp (gV zs) H2 Q E := by
  constructor
  intro pins s σ H Q I h
  refine wpAny_Call_Name_kw (ld_glob I hg hm ?_ hdb)
  refine PySem.W.callWith_KW0 (h₀ := X.base) I.ok.mod.kin hk hall (thn (hkw.run pos pins s σ H _ I h) fun ws s2 z => ?_) hpl
  obtain ⟨zs, H2, I2, rz, q⟩ := z
  refine ⟨I2.kIn, ?_⟩
  rw [hks]
  have r2 := hrel rz
  have hl : (g ws).length = ps.length := by rw [← r2.length]; exact Fn.arity _ _ _ _ q
  refine wpAny_call (codeAny_mono (Fn.go X.A X.stack s2 H2 ⟨[], ks.zip ws⟩ (g ws) (gV zs) Q E gd hr I2.env0 (hto s2 ws hl) r2 q) fun r3 s' hq => ?_)
  match r3, hq with
  | .error e, hq => exact hx pins σ H2 s2 e s' I2 hq
  | .ok (.ret u), hq => exact I2.after hq
  | .ok .next, hq => exact False.elim hq
  | .ok .brk, hq => exact False.elim hq
  | .ok .cont, hq => exact False.elim hq
theorem de_callK {gV : List V → List V} {g : List Value → List Value} {gS : List S → List S} (hK : L.K = X.K) (Fn : FnG X.prog X.w X.K X.mg X.base CX k f fd ps (spD X.K L.J ps.length F)) (hr : Room k X.A) (gd : Good X) (hg : Gl X x) (hm : X.mg x = some (.ref f)) (hk : PySem.W.keepIn X.K (.ref f) = true)
    (hb : Perm X.K fd ps ks g gV gS) (hx : Passes CX X E) (hkw : PK X kws (tA L tks)) (hall : (backToKw pos (keywordEach kws X.env)).all (·.1.isSome) = true := by rfl)
    (hks : (backToKw pos (keywordEach kws X.env)).filterMap (·.1) = ks := by rfl) (hdb : (x == ("__debug__" : Str)) = false := by decide)
    (hpl : ((backTo pos (starEach [] X.env)).any (·.1) || (backToKw pos (keywordEach kws X.env)).any (·.1.isNone)) = false := by rfl) :
    PE X (.Call (.Name x p) [] kws pos) (tE L (dCallK F ps.length gS tks)) :=
  (g_kw Fn hr gd.gd hg hm hk hb.to hb.rel hx hkw hall hks hdb hpl).less fun σ H Q' h => by
    obtain ⟨ρ, Q, r, q, fin⟩ := h
    refine ⟨ρ, _, r, q, fun vs H1 ss ρ1 go r1 hv q1 => ?_⟩
    refine ⟨gS ss, _, ?_, q1.1, q1.2, fun v H2 s sm rr q2 => fin v H2 s ρ1 (go.tr (Go.sm sm)) (r1.go sm) (rr_vr r1 go (by rw [hK]; exact rr)) q2⟩
    rw [← hK]; exact hb.fr hv.lay
end
theorem brA_start {L : Lay} {H : Hp} : ∀ {vs : List V} {ss : List S} {n : Nat}, FRs L H vs ss → L.H0 = H → Rel L H (vs.map some ++ List.replicate n none) (ss ++ List.replicate n S.un) := by
  intro vs ss n h h0
  have hl := h.len
  have nown : ∀ {vs : List V} {ss : List S}, FRs L H vs ss → ∀ (i : Nat) (s : S), ss[i]? = some s → ∃ v, vs[i]? = some v ∧ FR L H v s := by
    intro vs ss h
    induction h with
    | nil => intro i s e; simp at e
    | @cons v vs s ss h1 h2 ih =>
      intro i s' e
      cases i with
      | zero => simp at e; subst e; exact ⟨v, rfl, h1⟩
      | succ i => simp at e ⊢; exact ih i s' e
  have at0 : ∀ (i : Nat) (s : S), (ss ++ List.replicate n S.un)[i]? = some s → s = .un ∨ ∃ v, vs[i]? = some v ∧ FR L H v s := fun i s e => by
    by_cases hi : i < ss.length
    · rw [List.getElem?_append_left hi] at e
      exact .inr (nown h i s e)
    · rw [List.getElem?_append_right (by omega), List.getElem?_replicate] at e
      split at e
      · cases e; exact .inl rfl
      · cases e
  refine ⟨by simp [hl], fun i s e => ?_, fun i j xs ys e1 _ _ => ?_, by rw [h0]; exact Same.refl H⟩
  · rcases at0 i s e with rfl | ⟨v, hv, fr⟩
    · trivial
    · have hi : i < vs.length := (List.getElem?_eq_some_iff.mp hv).1
      have eq : ((vs.map some ++ List.replicate n none)[i]?).getD none = some v := by
        rw [List.getElem?_append_left (by simpa using hi), List.getElem?_map, hv]; rfl
      rw [eq]
      cases s with
      | un => trivial
      | d x => exact ⟨v, rfl, fr⟩
      | own xs => exact fr.elim
      | ob t => obtain ⟨a, rfl, q⟩ := fr; exact ⟨a, rfl, q⟩
  · rcases at0 i _ e1 with q | ⟨v, _, fr⟩
    · cases q
    · exact fr.elim
section
variable {P : Program} {w : World} {K : PySem.W.Frag} {mg : Str → Option Value} {base : Heap} {J : Jar}
theorem good_of {CX : CXT} {N : List Str} {qual : Str} {scope : Scope} {f : Addr} {cdv : Value} {A : Around} {outer : List Env} {s : Shared} {H : Hp} {E : XK} {k : Nat} (hs : ∃ o, base.get? sysModules = some o) (nd : N.Nodup) (hg : A.guards = some [])
    (hr : Room k (A.deeper (envOfC qual scope s.heap.objs.size f cdv))) : Good (cxOf CX P w K mg base N qual scope f cdv A outer s H E).nox := ⟨rfl, hg, hs, by have := hr.un; show (A.deeper (envOfC qual scope s.heap.objs.size f cdv)).units + 200 < cLine; omega, nd⟩
/-- a def that lets no exception out -/
theorem fn_ok {f : Addr} {fd : FuncData} {x qual : Str} {st : Stmt} {N ps : List Str} {k : Nat} {F : FnD} {t : TSd} (Fn : Fun K x qual st f fd) (S0 : FnScope N ps (defScope st)) (hs : ∃ o, base.get? sysModules = some o)
    (body : ∀ (cdv : Value) (A : Around) (outer : List Env) (s : Shared) (H : Hp) (E : XK), A.guards = some [] → Room k (A.deeper (envOfC qual (defScope st) s.heap.objs.size f cdv)) → Good (cxOf CX0 P w K mg base N qual (defScope st) f cdv A outer s H E).nox →
      PSs (cxOf CX0 P w K mg base N qual (defScope st) f cdv A outer s H E).nox (defBody st) (tS ⟨K, J, H⟩ t))
    (math : ∀ ss R, ss.length = ps.length → F ss R → t { nx := fun _ => R (.d .none), rt := R } (ss ++ List.replicate (N.length - ps.length) .un)) :
    FnG P w K mg base CX0 (k + 1) f fd ps (spD K J ps.length F) := by
  refine fng_nox Fn S0 (fun vs H Q E h => ?_) fun cdv A outer s H vs Q E hg hr h => ?_
  · obtain ⟨ss, R, fr, hl, _⟩ := h
    rw [fr.len, hl]
  · obtain ⟨ss, R, fr, hl, hF, fin⟩ := h
    refine ⟨_, body cdv A outer s H E hg hr (good_of hs S0.nd hg hr), ss ++ List.replicate (N.length - ps.length) .un, { nx := fun _ => R (.d .none), rt := R }, ?_, math ss R hl hF, fun σ' H' ρ' k r n => ?_, fun v H' s k sm rr n => fin v H' s sm rr n, fun _ _ _ _ _ n => n, fun _ _ _ _ _ n => n⟩
    · have hv := fr.len
      unfold L2.start
      rw [hv, hl]
      exact brA_start fr rfl
    · exact fin .non H' (.d .none) r.same .non n
end
end GB

namespace GB
open PySem PySem.Spec PyProof.Rows L2

/-! targets -/
abbrev DTG := PyData → En → (En → Prop) → Prop
abbrev DTGs := List PyData → En → (En → Prop) → Prop
def tG (L : Lay) (g : DTG) : TG := fun v σ H Q' => ∃ ρ d Q, Rel L H σ ρ ∧ Br L.K H v d ∧ g d ρ Q ∧ ∀ σ' ρ', Rel L H σ' ρ' → Q ρ' → Q' σ' H
def tGs (L : Lay) (g : DTGs) : TGs := fun vs σ H Q' => ∃ ρ ds Q, Rel L H σ ρ ∧ BrA L.K H vs ds ∧ g ds ρ Q ∧ ∀ σ' ρ', Rel L H σ' ρ' → Q ρ' → Q' σ' H
def dgName (i : Nat) : DTG := fun d ρ Q => Q (ρ.set i (.d d))
def dgNil : DTGs := fun ds ρ Q => ds = [] ∧ Q ρ
def dgCons (g : DTG) (gs : DTGs) : DTGs := fun ds ρ Q => ∃ d r, ds = d :: r ∧ g d ρ fun ρ1 => gs r ρ1 Q
def dgTup (n : Nat) (gs : DTGs) : DTG := fun d ρ Q => ∃ ds, d = .tuple ds ∧ ds.length = n ∧ gs ds ρ Q
theorem _root_.L2.PG.less {X : Cx} {e : Expr} {t t2 : TG} (h : PG X e t) (w : ∀ v σ H Q, t2 v σ H Q → t v σ H Q) : PG X e t2 := ⟨fun pins s σ H v u Q I r q => h.run pins s σ H v u Q I r (w _ _ _ _ q)⟩
theorem _root_.L2.PGs.less {X : Cx} {e : List Expr} {t t2 : TGs} (h : PGs X e t) (w : ∀ v σ H Q, t2 v σ H Q → t v σ H Q) : PGs X e t2 := ⟨fun pins s σ H v u Q I r q => h.run pins s σ H v u Q I r (w _ _ _ _ q)⟩
section
variable {X : Cx} {L : Lay} {pos : Pos} {e : Expr} {es : List Expr} {g : DTG} {gs : DTGs}
theorem dg_name {i : Nat} {x : Str} (gd : Good X) (hi : X.N[i]? = some x) (hx : Loc X.env.scope x) (hf : X.fn x = true ∨ X.env.scope.names.lookup x = some .local := by first | exact .inl rfl | exact .inr rfl | assumption) : PG X (.Name x pos) (tG L (dgName i)) :=
  (pg_name gd.nd hi hx hf).less fun v σ H Q' h => by
    obtain ⟨ρ, d, Q, r, b, q, fin⟩ := h
    exact fin _ _ (r.setF (s := .d d) b) q
theorem dgs_nil : PGs X [] (tGs L dgNil) := pgs_nil.less fun vs σ H Q' h => by
  obtain ⟨ρ, ds, Q, r, b, ⟨rfl, q⟩, fin⟩ := h
  cases b
  exact ⟨rfl, fin _ _ r q⟩
theorem dgs_cons (h : PG X e (tG L g)) (h2 : PGs X es (tGs L gs)) (hs : (assignEach (e :: es) X.env).map (·.2) = assign e X.env :: (assignEach es X.env).map (·.2) := by rfl) : PGs X (e :: es) (tGs L (dgCons g gs)) := (pgs_cons h h2 hs).less fun vs σ H Q' h => by
  obtain ⟨ρ, ds, Q, r, b, ⟨d, rs, rfl, q⟩, fin⟩ := h
  cases b with
  | cons b1 b2 => exact ⟨_, _, rfl, ρ, d, _, r, b1, q, fun σ' ρ' r' n => ⟨ρ', rs, Q, r', b2, n, fin⟩⟩
theorem dg_tup {k : Nat} {n : Nat} (gd : Good X) (hK : L.K = X.K) (h : PGs X es (tGs L gs)) (hn : (assignEach es X.env).length = n := by rfl) (hst : (assignEach es X.env).findIdx? (·.1) = none := by rfl) : PG X (.Tuple es k pos) (tG L (dgTup n gs)) := (pg_tup gd.calm h hn hst).less fun v σ H Q' h => by
  obtain ⟨ρ, d, Q, r, b, ⟨ds, rfl, hl, q⟩, fin⟩ := h
  cases b with
  | tup h1 h2 =>
    rw [hK] at h1
    exact ⟨_, _, rfl, h1, by rw [h2.len]; exact hl, ρ, ds, Q, r, by rw [hK] at h2 ⊢; exact h2, q, fin⟩
end
end GB

namespace GB
open PySem PySem.Spec PyProof.Rows L2

set_option maxHeartbeats 1000000 in
theorem meets_enum_one {v : Value} {o : Obj} {H : Heap → Prop} (B : Begins v o H) :
    Meets (Builtin.«enumerate.__new__» ⟨[.type "enumerate", v], []⟩) (fun _ R s => H s.heap ∧
      R (.ok (.ret (.ref (s.heap.push o).objs.size))) { s with heap := (s.heap.push o).push { cls := .type "enumerate", data := .fields #[.none, .bool false, .ref s.heap.objs.size, rawInt 0, .none, .none] } }) :=
  .of_wp fun prog w A R s h => by
    obtain ⟨hp, g, d, tk, os⟩ := s
    obtain ⟨h1, h⟩ := h
    have hsub := sub_enumerate
    have q1 : ∀ {A' : Around} {E : Value → Shared → Prop} {Q : Value → Shared → Prop}, Q (.ref hp.objs.size) ⟨hp.push o, g, d, tk, os⟩ → wpAny (model prog w) A' (pyIter v) Q E ⟨hp, g, d, tk, os⟩ := fun q => B.iter prog w _ _ ⟨hp, g, d, tk, os⟩ _ h1 q
    wp_walk using q1
    refine wpAny_stack_any fun st => wpAny_pure ?_
    split
    · rename_i c _ _ _ _ _
      cases (c == Value.type "enumerate")
      · wp_walk using q1
        exact ⟨_, rfl, h⟩
      · wp_walk using q1
        exact ⟨_, rfl, h⟩
    · wp_walk using q1
      exact ⟨_, rfl, h⟩
theorem call_enum_one {prog : Program} {w : World} {A : Around} {E : Value → Shared → Prop} {s : Shared} {v : Value} {o : Obj} {H : Heap → Prop} {Q : Value → Shared → Prop} (B : Begins v o H) (h1 : H s.heap)
    (h : ∀ h', IsEnum h' (s.heap.objs.size + 1) s.heap.objs.size 0 .none → h'.get? s.heap.objs.size = some o → (∀ b o', s.heap.get? b = some o' → h'.get? b = some o') → Q (.ref (s.heap.objs.size + 1)) { s with heap := h' }) :
    wpAny (model prog w) A (call (.type "enumerate") [v]) Q E s := by
  refine callType_new F.called_enumerate (by decide) (F.typeCall_enumerate_1 _) (F.newCall_enumerate_1 _) (fun obj => F.args_object_init_2 obj _) F.entry_enumerate_new (meets_enum_one B) ⟨h1, ?_⟩
  have hz : (s.heap.push o).objs.size = s.heap.objs.size + 1 := Heap.size_push ..
  show _ ∧ _
  rw [hz]
  have he : IsEnum ((s.heap.push o).push { cls := .type "enumerate", data := .fields #[.none, .bool false, .ref s.heap.objs.size, rawInt 0, .none, .none] }) (s.heap.objs.size + 1) s.heap.objs.size 0 .none := by
    have q := Heap.get?_push_size (s.heap.push o) (o := { cls := .type "enumerate", data := .fields #[.none, .bool false, .ref s.heap.objs.size, rawInt 0, .none, .none] }) rfl
    rw [hz] at q; exact q
  exact ⟨⟨_, he, rfl⟩, h _ he (Heap.get?_push_of_some _ (Heap.get?_push_size _ B.free)) fun b o' x => Heap.get?_push_of_some _ (Heap.get?_push_of_some _ x)⟩

/-- the tuple at a, each item in a new pair with its place -/
def IteT (K : PySem.W.Frag) (a : Addr) : It where
  go := fun i H => ∃ (xs : List V) (x : V), SqT K H a xs ∧ xs[i]? = some x
  yld := fun i H v H' => ∃ T x, v = .ref T ∧ H T = none ∧ H' = upd H T (.tup [.int (i : Nat), x]) ∧ ∀ xs, SqT K H a xs → xs[i]? = some x
  stop := fun i H => ∃ xs : List V, SqT K H a xs ∧ xs.length ≤ i
theorem turn_enumT {P : Program} {w : World} {K : PySem.W.Frag} {elts : List Expr} {kk : Nat} {tpos : Pos} (a e it : Addr) :
    Turn P w K (.Tuple elts kk tpos) (IteT K a) [e, it] e (fun i h => (∃ old, IsEnum h e it ((i : Nat) : Int) old) ∧ h.IsTupleIter it a i ∧ e ≠ it) where
  mem := List.mem_cons_self
  obj := fun i h st b hb => by
    obtain ⟨⟨old, he⟩, ⟨o, ho, hc, hd⟩, _⟩ := st
    rcases List.mem_cons.mp hb with z | z
    · rw [z]; exact ⟨_, he, fun v q => nomatch q⟩
    · rw [List.mem_singleton.mp z]; exact ⟨o, ho, fun v q => by rw [hd] at q; cases q⟩
  keep := fun i h h' st k => let ⟨⟨old, he⟩, hi, hne⟩ := st; ⟨⟨old, k e (by simp) _ he⟩, hi.at fun o q => k it (by simp) o q, hne⟩
  item := by
    intro X hP hw hK hc i pins s σ H E I hf st hg
    subst hP hw hK
    obtain ⟨⟨old, he⟩, hit, hne⟩ := st
    obtain ⟨xs, x, hq, hx⟩ := hg
    obtain ⟨its, rv, p, hz⟩ := I.tuple hq
    obtain ⟨u, hu, ru⟩ := rv.get hx
    have hel : e < s.heap.objs.size := Heap.lt_size he
    have hil : it < s.heap.objs.size := by obtain ⟨_, q, _⟩ := hit; exact Heap.lt_size q
    have pa : s.heap.IsTuple a its.toArray := p
    have hai : a ≠ it := fun z => by
      obtain ⟨o1, e1, c1, _⟩ := p
      obtain ⟨o2, e2, c2, _⟩ := hit
      rw [z, e2] at e1; cases e1
      rw [c2] at c1; simp at c1
    have hae : a ≠ e := fun z => by
      obtain ⟨o1, e1, c1, _⟩ := p
      rw [z, he] at e1; cases e1
      simp at c1
    have D := Draws.tuple (prog := X.prog) (w := X.w) (A := X.A.in1) (I.ok.hd hc) it a hai its.toArray
    have hlt : i < its.toArray.size := by
      have := (List.getElem?_eq_some_iff.mp hu).1
      simpa using this
    refine wpAny_pyNext_enum_itemD D he ⟨hit, pa⟩ hlt hne (by simp [hne, hae.symm]) fun x' h' tk px ho st' hT hsz hk => ?_
    have ex : x' = u := by
      have : its.toArray[i]? = some u := by simpa using hu
      rw [this] at px; exact (Option.some.inj px).symm
    subst ex
    refine ⟨_, rfl, wpAny_letOwnedTupleGo_enum (s := { s with heap := h', toks := tk + 1 }) ho fun h'' he' sb => ?_⟩
    have hT2 : h''.get? s.heap.objs.size = some { cls := .type "tuple", data := .seq #[.int i tk, x'] } := (sb.2 _ (Nat.ne_of_gt hel)).trans hT
    have new : ObjOk X.prog X.w (upd H s.heap.objs.size (.tup [.int (i : Nat), x])) h'' s.heap.objs.size (.tup [.int (i : Nat), x]) :=
      ⟨by show 2 ≤ sizeLine; decide, [.int i tk, x'], .cons ⟨_, rfl⟩ (.cons ru .nil), ⟨_, hT2, rfl, _, rfl⟩⟩
    have I1 : Inv X pins σ (upd H s.heap.objs.size (.tup [.int (i : Nat), x])) { s with heap := h'', toks := tk + 1 } :=
      I.turnedNew (ch := [e, it]) (fun b ob hb q => (sb.2 b (fun z => hb (by simp [z]))).trans (hk b ob (fun z => hb (by simp [z])) (fun z => hb (by simp [z])) q)) hf (Nat.le_refl _) new
    refine ⟨.ref s.heap.objs.size, _, I1, rfl, ⟨_, x, rfl, I.hok.fresh (Nat.le_refl _), rfl, fun ys hy => by rw [I.tuple_inj hy hq]; exact hx⟩, ⟨⟨x', ?_⟩, st'.1.at fun o q => (sb.2 it (Ne.symm hne)).trans q, hne⟩, fun b hb => ?_⟩
    · have e1 : ((i + 1 : Nat) : Int) = (i : Int) + 1 := by omega
      rw [e1]; exact he'
    · have hb' : b < s.heap.objs.size := by
        rcases List.mem_cons.mp hb with z | z
        · rw [z]; exact hel
        · rw [List.mem_singleton.mp z]; exact hil
      rw [upd_ne (Nat.ne_of_lt hb')]
      exact (hf b hb).1
  done := by
    intro X hP hw hK hc i pins s σ H E I hf st hg
    subst hP hw hK
    obtain ⟨⟨old, he⟩, hit, hne⟩ := st
    obtain ⟨xs, hq, hx⟩ := hg
    obtain ⟨its, rv, p, hz⟩ := I.tuple hq
    obtain ⟨f0, f1, f2, f3, f4, f5⟩ := hf it (by simp)
    have pa : s.heap.IsTuple a its.toArray := p
    have hai : a ≠ it := fun z => by
      obtain ⟨o1, e1, c1, _⟩ := p
      obtain ⟨o2, e2, c2, _⟩ := hit
      rw [z, e2] at e1; cases e1
      rw [c2] at c1; simp at c1
    have hl := rv.length
    have hT : s.TypeIs (.ref e) "enumerate" := ⟨_, he, rfl⟩
    unfold pyNext
    refine wpAny_bind (wpAny_attempt (wpAny_callSpecial?_slot (name := Str.ofString "__next__") hT F.slot_enumerate_next (wpAny_call_entry F.slot_enumerate_next hT F.entry_enumerate_next ?_ (F.args_enumerate_next_1 _))))
    show wpAny _ _ (field (.ref e) 2 >>= _) _ _ _
    refine wpAny_bind (wpAny_field he rfl (x := .ref it) rfl ?_)
    refine wpAny_bind (wpAny_nextOf_tuple_end (I.ok.hd hc) hit pa (by simp; omega) fun h' x he' hx' => ?_)
    obtain ⟨o, ho, hc'⟩ := hx'
    refine wpAny_bind (wpAny_isInstance (T := "StopIteration") (b := true) ⟨o, ho, hc'⟩ isSubtype_stop ?_)
    exact wpAny_pure ⟨rfl, I.turned (t' := s.toks) (fun b o hb q => he' b o hb q) f0 f1 f3 f4 f5⟩
  self := fun A i s Q E st h => let ⟨⟨_, he⟩, _⟩ := st; wpAny_pyIter_enum he h
end GB

namespace GB
open PySem PySem.Spec PyProof.Rows L2

/-! what is walked -/
def ItD (L : Lay) (J : It) (H : Hp) (ds : List PyData) : Prop := ∃ G Y, Walk J ds.length G Y ∧ G H ∧ (∀ H1 H2, Keep H1 H2 → G H1 → G H2) ∧
  ∀ i H1 x H2, i < ds.length → Keep H H1 → G H1 → Y i H1 x H2 → Same H1 H2 ∧ ∃ d, ds[i]? = some d ∧ Br L.K H2 x d
abbrev TId := En → (List PyData → En → Prop) → Prop
def tI (L : Lay) (t : TId) : TI := fun σ H R => ∃ ρ Q, Rel L H σ ρ ∧ t ρ Q ∧ ∀ J H' ds ρ', Go σ ρ ρ' H H' → Rel L H' σ ρ' → Q ds ρ' → ItD L J H' ds → R J H'
theorem _root_.L2.PI.less {X : Cx} {tg e : Expr} {t t2 : TI} (h : PI X tg e t) (w : ∀ σ H R, t2 σ H R → t σ H R) : PI X tg e t2 := ⟨fun pins s σ H R I q => h.run pins s σ H R I (w _ _ _ q)⟩
section
variable {L : Lay} {H : Hp} {a : Addr} {vs : List V} {ds : List PyData}
theorem it_frz {o : Obj} (h : H a = some (.frz o (.lst vs))) (b : BrA L.K H vs ds) : ItD L (Itl L.K a) H ds := by
  refine ⟨fun H1 => H1 a = some (.frz o (.lst vs)), YAt vs, ?_, h, fun H1 H2 k q => k _ _ q trivial, fun i H1 x H2 hi k q y => ?_⟩
  · rw [← b.len]
    exact (walk_list (K := L.K) (a := a) (xs := vs)).mono (fun H q => .inl (.inr ⟨o, q⟩)) fun i H x H' _ _ y => y
  · obtain ⟨rfl, hx⟩ := y
    obtain ⟨d, e, bd⟩ := b.getV hx
    exact ⟨Same.refl _, d, e, Br.keep k _ _ bd⟩
theorem it_tup (h : SqT L.K H a vs) (b : BrA L.K H vs ds) : ItD L (Itt L.K a) H ds := by
  refine ⟨fun H1 => SqT L.K H1 a vs, YAt vs, ?_, h, fun H1 H2 k q => sqT_keep k q, fun i H1 x H2 hi k q y => ?_⟩
  · rw [← b.len]; exact walk_tup
  · obtain ⟨rfl, hx⟩ := y
    obtain ⟨d, e, bd⟩ := b.getV hx
    exact ⟨Same.refl _, d, e, Br.keep k _ _ bd⟩
/-- 0, lo + 1, .. -/
def irow (lo : Int) (n : Nat) : List PyData := (List.range n).map fun (i : Nat) => .int (lo + i)
theorem irow_len (lo : Int) (n : Nat) : (irow lo n).length = n := by simp [irow]
theorem it_rng {lo : Int} {n : Nat} : ItD L (Itr lo n) H (irow lo n) := by
  refine ⟨fun _ => True, YFn fun i => .int (lo + i), ?_, trivial, fun _ _ _ q => q, fun i H1 x H2 hi k q y => ?_⟩
  · rw [irow_len]; exact walk_range
  · obtain ⟨rfl, rfl⟩ := y
    rw [irow_len] at hi
    exact ⟨Same.refl _, .int (lo + i), by simp [irow, hi], .int _⟩
/-- pairs of places and items -/
def pairsOf (ds : List PyData) : List PyData := (List.range ds.length).map fun (i : Nat) => .tuple [.int i, ds.getD i .none]
theorem pairs_len (ds : List PyData) : (pairsOf ds).length = ds.length := by simp [pairsOf]
theorem pairs_get {ds : List PyData} {i : Nat} {d : PyData} (h : ds[i]? = some d) : (pairsOf ds)[i]? = some (.tuple [.int i, d]) := by
  obtain ⟨hi, e⟩ := List.getElem?_eq_some_iff.mp h
  simp [pairsOf, hi, e]
theorem walk_enT {K : PySem.W.Frag} {xs : List V} : Walk (IteT K a) xs.length (fun H => SqT K H a xs) (YPair (fun i => some (.int (i : Nat))) (fun i => xs[i]?)) := by
  refine ⟨fun i _ hi q => ⟨xs, xs[i], q, by simp [hi]⟩, fun _ q => ⟨xs, q, Nat.le_refl _⟩, fun i H v H' _ q y => ?_⟩
  obtain ⟨T, x, h1, h2, h3, h4⟩ := y
  exact ⟨T, .int (i : Nat), x, h1, h2, h3, rfl, h4 xs q⟩
theorem yp_enum {i : Nat} {H1 H2 : Hp} {x : V} (b : BrA L.K H vs ds) (k : Keep H H1) (y : YPair (fun i => some (.int (i : Nat))) (fun i => vs[i]?) i H1 x H2) : Same H1 H2 ∧ ∃ d, (pairsOf ds)[i]? = some d ∧ Br L.K H2 x d := by
  obtain ⟨T, z, u, rfl, hT, rfl, hz, hu⟩ := y
  cases hz
  obtain ⟨d, e, bd⟩ := b.getV hu
  have sm := same_new (o := .tup [.int (i : Nat), u]) hT
  exact ⟨sm, _, pairs_get e, .tup (.of upd_same) (.cons (.int _) (.cons (Br.keep (k.tr (keep_of_same sm)) _ _ bd) .nil))⟩
theorem it_enF {o : Obj} (h : H a = some (.frz o (.lst vs))) (b : BrA L.K H vs ds) : ItD L (Ite L.K a) H (pairsOf ds) := by
  refine ⟨fun H1 => H1 a = some (.frz o (.lst vs)), _, ?_, h, fun H1 H2 k q => k _ _ q trivial, fun i H1 x H2 hi k q y => yp_enum b k y⟩
  rw [pairs_len, ← b.len]
  exact (walk_enum (K := L.K) (a := a) (xs := vs)).mono (fun H q => .inl (.inr ⟨o, q⟩)) fun i H x H' _ _ y => y
theorem it_enT (h : SqT L.K H a vs) (b : BrA L.K H vs ds) : ItD L (IteT L.K a) H (pairsOf ds) := by
  refine ⟨fun H1 => SqT L.K H1 a vs, _, ?_, h, fun H1 H2 k q => sqT_keep k q, fun i H1 x H2 hi k q y => yp_enum b k y⟩
  rw [pairs_len, ← b.len]; exact walk_enT
end
def dISeq (t : TEd) : TId := fun ρ Q => t ρ fun s ρ1 => ∃ ds, (s = .d (.list ds) ∨ s = .d (.tuple ds)) ∧ Q ds ρ1
def dIEnum (t : TEd) : TId := fun ρ Q => t ρ fun s ρ1 => ∃ ds, (s = .d (.list ds) ∨ s = .d (.tuple ds)) ∧ Q (pairsOf ds) ρ1
def dIRng (t : TEd) : TId := fun ρ Q => t ρ fun s ρ1 => ∃ j, s = .d (.int j) ∧ j < 2 ^ 60 ∧ -(2 ^ 60) < j ∧ Q (irow 0 j.toNat) ρ1
def dIRng2 (t u : TEd) : TId := fun ρ Q => t ρ fun s ρ1 => u ρ1 fun s2 ρ2 => ∃ i j, s = .d (.int i) ∧ s2 = .d (.int j) ∧ (-(2 ^ 60) < i ∧ i < 2 ^ 60 ∧ -(2 ^ 60) < j ∧ j < 2 ^ 60) ∧ Q (irow i (j - i).toNat) ρ2
section
variable {X : Cx} {L : Lay} {tg e a b : Expr} {t u : TEd} {pos p : Pos}
theorem di_seq (hK : L.K = X.K) (h : PE X e (tE L t)) : PI X tg e (tI L (dISeq t)) := by
  constructor
  intro pins s σ H R I q
  obtain ⟨ρ, Q, r, q, fin⟩ := q
  refine thn (h.run pins s σ H (fun v H1 => ∃ ds ρ', Go σ ρ ρ' H H1 ∧ Rel L H1 σ ρ' ∧ (Br L.K H1 v (.list ds) ∨ Br L.K H1 v (.tuple ds)) ∧ Q ds ρ') I ⟨ρ, _, r, q, fun v H' sv ρ' go r' hv q' => ?_⟩) fun uv s1 z => ?_
  · obtain ⟨ds, hd, q2⟩ := q'
    rcases hd with rfl | rfl
    · exact ⟨ds, ρ', go, r', .inl hv, q2⟩
    · exact ⟨ds, ρ', go, r', .inr hv, q2⟩
  · obtain ⟨v, H1, I1, rv, ds, ρ', go, r', hd, q2⟩ := z
    have fp : ∀ b ∈ [s1.heap.objs.size], FpOk X pins H1 b := fun b hb => by
      rw [List.mem_singleton.mp hb]
      exact I1.fpOk (Nat.le_refl _) (I1.hok.fresh (Nat.le_refl _))
    rcases hd with hd | hd
    · cases hd with
      | lst h1 h2 h3 =>
        cases rv
        obtain ⟨its, rv, pl, hz⟩ := I1.list (.inl (.inr ⟨_, h1⟩))
        refine wpAny_pyIter_list pl.isList ?_
        have it := fin _ H1 ds ρ' go r' q2 (it_frz h1 h3)
        rw [hK] at it
        exact ⟨s1.heap.objs.size, [s1.heap.objs.size], _, _, H1, rfl, I1.kept (t' := s1.toks) fun b o e => Heap.get?_push_of_some _ e, turn_list _ _, ⟨_, Heap.get?_push_size _ rfl, rfl, rfl⟩, fp, it⟩
    · cases hd with
      | tup h1 h3 =>
        cases rv
        have h1' := h1
        rw [hK] at h1
        obtain ⟨its, rv, pl, hz⟩ := I1.tuple h1
        refine wpAny_pyIter_tuple (show s1.heap.IsTuple _ its.toArray from pl) ?_
        have it := fin _ H1 ds ρ' go r' q2 (it_tup h1' h3)
        rw [hK] at it
        exact ⟨s1.heap.objs.size, [s1.heap.objs.size], _, _, H1, rfl, I1.kept (t' := s1.toks) fun b o e => Heap.get?_push_of_some _ e, turn_tuple _ _, ⟨_, Heap.get?_push_size _ rfl, rfl, rfl⟩, fp, it⟩
theorem di_enum {elts : List Expr} {kk : Nat} {tpos : Pos} (hK : L.K = X.K) (hg : Gl X "enumerate") (hm : X.mg "enumerate" = none) (h : PE X e (tE L t)) (hs : starEach [e] X.env = [(false, eval e X.env)] := by rfl) :
    PI X (.Tuple elts kk tpos) (.Call (.Name "enumerate" p) [e] [] pos) (tI L (dIEnum t)) := by
  constructor
  intro pins s σ H R I q
  obtain ⟨ρ, Q, r, q, fin⟩ := q
  refine Call_ (ld_blt I hg hm boot_enumerate (PyProof.Rows.callWith_type1 (thn ((pa_cons h pa_nil (by rw [hs]; rfl)).run pos pins s σ H (fun vs H1 => ∃ v ds ρ', vs = [v] ∧ Go σ ρ ρ' H H1 ∧ Rel L H1 σ ρ' ∧ (Br L.K H1 v (.list ds) ∨ Br L.K H1 v (.tuple ds)) ∧ Q (pairsOf ds) ρ') I ⟨ρ, _, r, q, fun v H' sv ρ' go r' hv q' => ?_⟩) fun us s1 z => ?_) hs rfl))
  · obtain ⟨ds, hd, q2⟩ := q'
    rcases hd with rfl | rfl
    · exact ⟨v, ds, ρ', rfl, go, r', .inl hv, q2⟩
    · exact ⟨v, ds, ρ', rfl, go, r', .inr hv, q2⟩
  · obtain ⟨vs, H1, I1, rvs, v, ds, ρ', rfl, go, r', hd, q2⟩ := z
    obtain ⟨uv, rfl, rv⟩ := vals1 rvs
    have fp : ∀ b ∈ [s1.heap.objs.size + 1, s1.heap.objs.size], FpOk X pins H1 b := fun b hb => by
      have hle : s1.heap.objs.size ≤ b := by
        rcases List.mem_cons.mp hb with z | z
        · rw [z]; exact Nat.le_add_right _ _
        · rw [List.mem_singleton.mp z]; exact Nat.le_refl _
      exact I1.fpOk hle (I1.hok.fresh hle)
    rcases hd with hd | hd
    · cases hd with
      | lst h1 h2 h3 =>
        cases rv
        obtain ⟨its, rv, pl, hz⟩ := I1.list (.inl (.inr ⟨_, h1⟩))
        have it := fin _ H1 _ ρ' go r' q2 (it_enF h1 h3)
        rw [hK] at it
        refine call_enum_one (begins_list _ its.toArray) pl.isList fun h' he hit hk => wpAny_pyIter_enum he ?_
        exact ⟨s1.heap.objs.size + 1, _, _, _, H1, rfl, I1.kept (t' := s1.toks) hk, turn_enum _ (s1.heap.objs.size + 1) s1.heap.objs.size, ⟨⟨.none, he⟩, ⟨_, hit, rfl, rfl⟩, Nat.succ_ne_self _⟩, fp, it⟩
    · cases hd with
      | tup h1 h3 =>
        cases rv
        have h1' := h1
        rw [hK] at h1
        obtain ⟨its, rv, pl, hz⟩ := I1.tuple h1
        have it := fin _ H1 _ ρ' go r' q2 (it_enT h1' h3)
        rw [hK] at it
        refine call_enum_one (begins_tuple _ its.toArray) (show s1.heap.IsTuple _ its.toArray from pl) fun h' he hit hk => wpAny_pyIter_enum he ?_
        exact ⟨s1.heap.objs.size + 1, _, _, _, H1, rfl, I1.kept (t' := s1.toks) hk, turn_enumT _ (s1.heap.objs.size + 1) s1.heap.objs.size, ⟨⟨.none, he⟩, ⟨_, hit, rfl, rfl⟩, Nat.succ_ne_self _⟩, fp, it⟩
theorem di_rng (hg : Gl X "range") (hm : X.mg "range" = none) (h : PE X a (tE L t)) (hs : starEach [a] X.env = [(false, eval a X.env)] := by rfl) : PI X tg (.Call (.Name "range" p) [a] [] pos) (tI L (dIRng t)) :=
  (pi_range1 hg hm (pa_cons h pa_nil (by rw [hs]; rfl)) hs).less fun σ H R q => by
    obtain ⟨ρ, Q, r, q, fin⟩ := q
    refine ⟨ρ, _, r, q, fun v H1 sv ρ1 go r1 hv q1 => ?_⟩
    obtain ⟨j, rfl, h1, h2, q2⟩ := q1
    have hv : Br L.K H1 v (.int j) := hv
    cases hv
    exact ⟨j, rfl, by omega, by omega, fin _ H1 _ ρ1 go r1 q2 it_rng⟩
theorem di_rng2 (hg : Gl X "range") (hm : X.mg "range" = none) (h : PE X a (tE L t)) (h2 : PE X b (tE L u)) (hs : starEach [a, b] X.env = [(false, eval a X.env), (false, eval b X.env)] := by rfl) (hs2 : starEach [b] X.env = [(false, eval b X.env)] := by rfl) :
    PI X tg (.Call (.Name "range" p) [a, b] [] pos) (tI L (dIRng2 t u)) :=
  (pi_range2 hg hm (pa_cons h (pa_cons h2 pa_nil (by rw [hs2]; rfl)) (by rw [hs, hs2])) hs hs2).less fun σ H R q => by
    obtain ⟨ρ, Q, r, q, fin⟩ := q
    refine ⟨ρ, _, r, q, fun v H1 sv ρ1 go r1 hv q1 => ⟨ρ1, _, r1, q1, fun w H2 sw ρ2 go2 r2 hw q2 => ?_⟩⟩
    obtain ⟨i, j, rfl, rfl, hb, q3⟩ := q2
    have hv : Br L.K H1 v (.int i) := hv
    have hw : Br L.K H2 w (.int j) := hw
    cases hv; cases hw
    exact ⟨i, j, rfl, by omega, fin _ H2 _ ρ2 (go.tr go2) r2 q3 it_rng⟩
end
/-! loops -/
def dLoop (g : DTG) (tb : TSd) (D : EndsD) : List PyData → En → Prop
  | [], ρ => D.nx ρ
  | d :: ds, ρ => g d ρ fun ρ1 => tb { nx := dLoop g tb D ds, ct := dLoop g tb D ds, bk := D.nx, rt := D.rt } ρ1
def dFor (ti : TId) (g : DTG) (tb : TSd) : TSd := fun D ρ => ti ρ fun ds ρ1 => dLoop g tb D ds ρ1
def dWhile (c : TTd) (tb : TSd) : TSd := fun D ρ => ∃ W : Nat → En → Prop, (∃ m, W m ρ) ∧ ∀ m ρ, W m ρ → c ρ fun b ρ1 => if b = true then tb { nx := fun ρ' => ∃ m', m' < m ∧ W m' ρ', ct := fun ρ' => ∃ m', m' < m ∧ W m' ρ', bk := D.nx, rt := D.rt } ρ1 else D.nx ρ1
section
variable {X : Cx} {L : Lay} {tg iter c : Expr} {body : List Stmt} {ti : TId} {g : DTG} {tb : TSd} {tc : TTd} {pos : Pos}
theorem ds_for (gd : Good X) (hp : PassesOwn (model X.prog X.w) X.A X.env X.xe) (hi : PI X tg iter (tI L ti)) (hg : PG X tg (tG L g)) (hb : PSs X body (tS L tb)) (hs : ∀ x, foldedSetIterable iter X.env x = pure x := by intro _; rfl) :
    PS X (.For tg iter body [] pos) (tS L (dFor ti g tb)) := (ps_for hp gd.calm hi hg hb hs).less fun D σ H q => by
  obtain ⟨ρ, De, r, q, h1, h2, h3, h4⟩ := q
  refine ⟨ρ, _, r, q, fun J H1 ds ρ1 go r1 q1 it => ?_⟩
  have k0 := go.keep r
  obtain ⟨G, Y, wk, g0, gk, step⟩ := it
  refine for_it wk (fun i σ' H' => Keep H1 H' ∧ ∃ ρ', Rel L H' σ' ρ' ∧ dLoop g tb De (ds.drop i) ρ') ⟨Keep.rfl' H1, ρ1, r1, q1⟩ (fun i σ' H' _ ⟨k, _⟩ => gk _ _ k g0) (fun i x σ' H' H2 hi ⟨k, ρ', r', ql⟩ hy => ?_) fun σ' H' ⟨k, ρ', r', ql⟩ => ?_
  · obtain ⟨sm, d, hd, bd⟩ := step i H' x H2 hi k (gk _ _ k g0) hy
    have e : ds.drop i = d :: ds.drop (i + 1) := by
      obtain ⟨hi', e⟩ := List.getElem?_eq_some_iff.mp hd
      rw [List.drop_eq_getElem_cons hi', e]
    rw [e] at ql
    have kk := (k.tr (keep_of_same sm))
    refine ⟨ρ', d, _, r'.go sm, bd, ql, fun σ2 ρ2 r2 n => ⟨ρ2, _, r2, n, fun σ3 H4 ρ3 k4 r3 n3 => ⟨kk.tr k4, ρ3, r3, n3⟩, fun v H4 s k4 => h2 v H4 s (k0.tr (kk.tr k4)), fun σ3 H4 ρ3 k4 r3 n3 => h1 _ _ ρ3 (k0.tr (kk.tr k4)) r3 n3, fun σ3 H4 ρ3 k4 r3 n3 => ⟨kk.tr k4, ρ3, r3, n3⟩⟩⟩
  · rw [List.drop_length] at ql
    exact h1 _ _ ρ' (k0.tr k) r' ql
theorem ds_while (hp : PassesOwn (model X.prog X.w) X.A X.env X.xe) (hc : PT X c (tT L tc)) (hb : PSs X body (tS L tb)) : PS X (.While c body [] pos) (tS L (dWhile tc tb)) := (ps_while hp hc hb).less fun D σ H q => by
  obtain ⟨ρ, De, r, ⟨W, ⟨m0, w0⟩, turn⟩, h1, h2, h3, h4⟩ := q
  refine ⟨fun m σ' H' => Keep H H' ∧ ∃ ρ', Rel L H' σ' ρ' ∧ W m ρ', ⟨m0, Keep.rfl' H, ρ, r, w0⟩, fun m σ' H' ⟨k, ρ', r', w⟩ => ?_⟩
  refine ⟨ρ', _, r', turn m ρ' w, fun b H2 ρ2 go r2 n => ?_⟩
  have kk := k.tr (go.keep r')
  cases b with
  | false =>
    refine iteF ?_
    exact h1 _ _ ρ2 kk r2 (by simpa using n)
  | true =>
    refine iteT ?_
    refine ⟨fun σ3 H3 => ∃ m', m' < m ∧ Keep H H3 ∧ ∃ ρ3, Rel L H3 σ3 ρ3 ∧ W m' ρ3, fun σ3 H3 ⟨m', hm, z⟩ => ⟨m', hm, z⟩, ρ2, { nx := fun ρ' => ∃ m', m' < m ∧ W m' ρ', ct := fun ρ' => ∃ m', m' < m ∧ W m' ρ', bk := De.nx, rt := De.rt }, r2, by simpa using n, fun σ3 H3 ρ3 k3 r3 ⟨m', hm, w3⟩ => ⟨m', hm, kk.tr k3, ρ3, r3, w3⟩, fun v H3 s k3 => h2 v H3 s (kk.tr k3), fun σ3 H3 ρ3 k3 r3 n3 => h1 _ _ ρ3 (kk.tr k3) r3 n3, fun σ3 H3 ρ3 k3 r3 ⟨m', hm, w3⟩ => ⟨m', hm, kk.tr k3, ρ3, r3, w3⟩⟩
end
end GB

namespace GB
open PySem PySem.Spec PyProof.Rows L2

/-! methods of lists of one's own -/
def dAppend (i : Nat) (t : TEd) : TEd := fun ρ Q => (∃ ys, ρ[i]? = some (.own ys)) ∧ t ρ fun s ρ1 => ∃ x xs, s = .d x ∧ ρ1[i]? = some (.own xs) ∧ xs.length < sizeLine ∧ Q (.d .none) (ρ1.set i (.own (xs ++ [x])))
def dPop (i : Nat) : TEd := fun ρ Q => ∃ xs x, ρ[i]? = some (.own xs) ∧ xs[xs.length - 1]? = some x ∧ Q (.d x) (ρ.set i (.own xs.dropLast))
def dPopAt (i : Nat) (t : TEd) : TEd := fun ρ Q => (∃ ys, ρ[i]? = some (.own ys)) ∧ t ρ fun s ρ1 => ∃ j k x xs, s = .d (.int j) ∧ ρ1[i]? = some (.own xs) ∧ -(2 ^ 62) < j ∧ j < 2 ^ 62 ∧ seqIndex? j xs.length = some k ∧ xs[k]? = some x ∧ Q (.d x) (ρ1.set i (.own (xs.eraseIdx k)))
def dExtend (i : Nat) (t : TEd) : TEd := fun ρ Q => (∃ ys, ρ[i]? = some (.own ys)) ∧ t ρ fun s ρ1 => ∃ zs xs, s = .d (.list zs) ∧ ρ1[i]? = some (.own xs) ∧ xs.length + zs.length ≤ sizeLine ∧ Q (.d .none) (ρ1.set i (.own (xs ++ zs)))
section
variable {L : Lay} {H H1 : Hp} {σ : L2.St} {ρ ρ1 : En}
theorem Go.put (go : Go σ ρ ρ1 H H1) {i : Nat} {xs ys zs : List PyData} {l : Addr} {vs ws : List V} (h0 : ρ[i]? = some (.own zs)) (h : ρ1[i]? = some (.own xs)) (hi : σ[i]? = some (some (.ref l))) (hl : H1 l = some (.lst vs)) :
    Go σ ρ (ρ1.set i (.own ys)) H (upd H1 l (.lst ws)) := by
  refine ⟨fun a o q n => ?_, fun j as q => ?_, fun a q => ?_⟩
  · rw [upd_ne (fun z => n i zs h0 (by rw [z]; exact hi))]; exact go.stay a o q n
  · by_cases hj : i = j
    · subst hj; exact ⟨zs, h0⟩
    · rw [get_set, if_neg hj] at q; exact go.less j as q
  · by_cases z : a = l
    · rw [z, upd_same] at q; cases q
    · rw [upd_ne z] at q; exact go.dom a q
end
section
variable {X : Cx} {L : Lay} {pos p apos cpos : Pos} {o e : Expr} {t : TEd} {i : Nat}
theorem own_ty {pins : List (Addr × Obj)} {K : PySem.W.Frag} {H : Hp} {l : Addr} {vs : List V} (h : H l = some (.lst vs)) : tyV K "list" (.ref l) H := .inl ⟨rfl, _, .inl (.inl h)⟩
theorem mr_of {id : String} {r : V → List V → Hp → VK → Prop} (h : MtM X id r) : MtR X id r := h
theorem de_append (ho : PE X o (tVar i)) (he : PE X e (tE L t)) (hs : starEach [e] X.env = (false, eval e X.env) :: starEach [] X.env := by rfl) (hbase : attributeBase o "append" X.env (eval o X.env) = eval o X.env := by rfl)
    (hfew : ((backTo cpos (starEach [e] X.env)).all (fun x => !x.1) && (backToKw cpos (keywordEach [] X.env)).all (fun x => x.1.isSome) && decide ([e].length + ([] : List Keyword).length + (if ([] : List Keyword).isEmpty then 0 else 1) < 30)) = true := by rfl)
    (hline : (apos.endLine == cpos.line) = true := by rfl) (hpl : (backTo cpos (starEach [] X.env)).any (·.1) = false := by rfl) : PE X (.Call (.Attribute o "append" apos) [e] [] cpos) (tE L (dAppend i t)) :=
  (pe_bm PySem.F.plainAttrs_list PySem.F.slot_list_append PySem.F.type_list_append mt_append ho (pa_cons he pa_nil hs) hbase hfew hline hs hpl).less fun σ H Q' q => by
    obtain ⟨ρ, Q, r, ⟨⟨ys, ey⟩, q⟩, fin⟩ := q
    obtain ⟨l, vs, hi, hl, _⟩ := r.getO ey
    refine ⟨_, hi, own_ty (pins := []) hl, ρ, _, r, q, fun v H1 s ρ1 go r1 hv q1 => ?_⟩
    obtain ⟨x, xs, rfl, ex, hz, q2⟩ := q1
    obtain ⟨l', ws, hi', hl', hb, _⟩ := r1.getO ex
    rw [hi] at hi'; cases hi'
    obtain ⟨r2, k2⟩ := r1.put ex hi hl' (hb.app (BrA.one hv))
    exact ⟨l, ws, v, rfl, rfl, hl', by rw [hb.len]; exact hz, fin .non _ (.d .none) _ (go.put ey ex hi hl') r2 .non q2⟩
theorem de_pop (ho : PE X o (tVar i)) (hbase : attributeBase o "pop" X.env (eval o X.env) = eval o X.env := by rfl) (hline : (apos.endLine == cpos.line) = true := by rfl) : PE X (.Call (.Attribute o "pop" apos) [] [] cpos) (tE L (dPop i)) :=
  (pe_bm0 PySem.F.plainAttrs_list PySem.F.slot_list_pop PySem.F.type_list_pop mt_pop ho hbase hline).less fun σ H Q' q => by
    obtain ⟨ρ, Q, r, ⟨xs, x, ex, hx, q⟩, fin⟩ := q
    obtain ⟨l, vs, hi, hl, hb, _⟩ := r.getO ex
    obtain ⟨v, hv, bv⟩ := hb.get hx
    obtain ⟨r2, k2⟩ := r.put ex hi hl hb.dropLast
    refine ⟨_, hi, own_ty (pins := []) hl, l, vs, v, rfl, rfl, hl, by rw [hb.len]; exact hv, fin v _ (.d x) _ (Go.rf.put ex ex hi hl) r2 (Br.keep k2 _ _ bv) q⟩
theorem de_popAt (ho : PE X o (tVar i)) (he : PE X e (tE L t)) (hs : starEach [e] X.env = (false, eval e X.env) :: starEach [] X.env := by rfl) (hbase : attributeBase o "pop" X.env (eval o X.env) = eval o X.env := by rfl)
    (hfew : ((backTo cpos (starEach [e] X.env)).all (fun x => !x.1) && (backToKw cpos (keywordEach [] X.env)).all (fun x => x.1.isSome) && decide ([e].length + ([] : List Keyword).length + (if ([] : List Keyword).isEmpty then 0 else 1) < 30)) = true := by rfl)
    (hline : (apos.endLine == cpos.line) = true := by rfl) (hpl : (backTo cpos (starEach [] X.env)).any (·.1) = false := by rfl) : PE X (.Call (.Attribute o "pop" apos) [e] [] cpos) (tE L (dPopAt i t)) :=
  (pe_bm PySem.F.plainAttrs_list PySem.F.slot_list_pop PySem.F.type_list_pop mt_popAt ho (pa_cons he pa_nil hs) hbase hfew hline hs hpl).less fun σ H Q' q => by
    obtain ⟨ρ, Q, r, ⟨⟨ys, ey⟩, q⟩, fin⟩ := q
    obtain ⟨l, vs, hi, hl, _⟩ := r.getO ey
    refine ⟨_, hi, own_ty (pins := []) hl, ρ, _, r, q, fun v H1 s ρ1 go r1 hv q1 => ?_⟩
    obtain ⟨j, k, x, xs, rfl, ex, b1, b2, hk, hx, q2⟩ := q1
    have hv : Br L.K H1 v (.int j) := hv
    cases hv
    obtain ⟨l', ws, hi', hl', hb, _⟩ := r1.getO ex
    rw [hi] at hi'; cases hi'
    obtain ⟨v, hv, bv⟩ := hb.get hx
    obtain ⟨r2, k2⟩ := r1.put ex hi hl' (hb.erase k)
    exact ⟨l, ws, j, k, v, rfl, rfl, hl', by omega, by omega, by rw [hb.len]; exact hk, hv, fin v _ (.d x) _ (go.put ey ex hi hl') r2 (Br.keep k2 _ _ bv) q2⟩
end

/-! a, b = x, y with plain local names -/
def dPar (i j : Nat) (t1 t2 : TEd) : TSd := fun D ρ => t1 ρ fun s1 ρ1 => t2 ρ1 fun s2 ρ2 => D.nx ((ρ2.set i s1).set j s2)
section
variable {L : Lay} {H H1 H2 : Hp} {σ : L2.St} {ρ ρ1 ρ2 : En}
theorem VR.later (r : Rel L H σ ρ) (g1 : Go σ ρ ρ1 H H1) (r1 : Rel L H1 σ ρ1) (g2 : Go σ ρ1 ρ2 H1 H2) {v : V} {s : S} (h : VR L H H1 v s) : VR L H H2 v s := by
  cases s with
  | un => exact h
  | d x => exact Br.keep (g2.keep r1) _ _ h
  | ob t => exact FR.keep (s := .ob t) (g2.keep r1) h
  | own xs =>
    obtain ⟨⟨l, vs, rfl, h1, h2, h3⟩, hn⟩ := h
    refine ⟨⟨l, vs, rfl, g2.stay l _ h1 fun i ys e z => ?_, BrA.keep (g2.keep r1) _ _ h2, h3⟩, hn⟩
    obtain ⟨zs, e'⟩ := g1.less i ys e
    obtain ⟨l', vs', q1, q2, _⟩ := r.getO e'
    rw [q1] at z; cases z
    rw [hn l rfl] at q2; cases q2
/-- the slots' own lists stood at Hs already -/
def Old (Hs : Hp) (σ : L2.St) (ρ : En) : Prop := ∀ (k : Nat) (ys : List PyData), ρ[k]? = some (.own ys) → ∀ l, σ[k]? = some (some (.ref l)) → Hs l ≠ none
theorem Rel.old (r : Rel L H σ ρ) (g : Go σ ρ ρ1 H H1) : Old H σ ρ1 := fun k ys e l hl hn => by
  obtain ⟨zs, e'⟩ := g.less k ys e
  obtain ⟨l', vs', q1, q2, _⟩ := r.getO e'
  rw [hl] at q1; cases q1
  rw [hn] at q2; cases q2
theorem Rel.put1 {Hs : Hp} {σ' : L2.St} {ρ' : En} (r : Rel L H2 σ' ρ') (o : Old Hs σ' ρ') {j : Nat} {v : V} {s : S} (h : VR L Hs H2 v s) : Rel L H2 (σ'.set j (some v)) (ρ'.set j s) := by
  cases s with
  | un => exact h.elim
  | d x => exact r.setF h
  | ob t => exact r.setF h
  | own xs =>
    refine r.setO h.1 fun k ys e z => ?_
    obtain ⟨l, vs, rfl, _⟩ := h.1
    exact o k ys e l z (h.2 l rfl)
theorem Old.set {Hs Hm : Hp} {σ' : L2.St} {ρ' : En} (o : Old Hs σ' ρ') (up : ∀ a, Hm a = none → Hs a = none) {i : Nat} {v : V} {s : S} (h : ∀ l, v = .ref l → ∀ xs, s = .own xs → Hm l ≠ none) : Old Hm (σ'.set i (some v)) (ρ'.set i s) := fun k ys e l z => by
  by_cases hk : i = k
  · subst hk
    rw [get_set, if_pos rfl] at e z
    split at e
    · split at z
      · cases e; cases z
        exact h l rfl ys rfl
      · cases z
    · cases e
  · rw [get_set, if_neg hk] at e z
    exact fun q => o k ys e l z (up l q)
theorem VR.there {Hs Hm : Hp} {v : V} {s : S} (h : VR L Hs Hm v s) : ∀ l, v = .ref l → ∀ xs, s = .own xs → Hm l ≠ none := fun l e xs es q => by
  subst es
  obtain ⟨l', vs, e2, h1, _⟩ := h.1
  rw [e2] at e; cases e
  rw [q] at h1; cases h1
end
section
variable {X : Cx} {L : Lay} {a b : Expr} {t1 t2 : TEd} {pos : Pos}
theorem ds_par {i j : Nat} {x y : Str} {px py pt : Pos} {kt k2 pt2} (g : Good X) (hi : X.N[i]? = some x) (hj : X.N[j]? = some y) (hij : i ≠ j) (hx : X.env.scope.names.lookup x = some .local) (hy : X.env.scope.names.lookup y = some .local)
    (ha : PE X a (tE L t1)) (hb : PE X b (tE L t2)) (hw : swappedStores [.Tuple [.Name x px, .Name y py] kt pt] (.Tuple [a, b] k2 pt2) X.env = pure (some [x, y]))
    (h1 : starEach [a, b] X.env = (false, eval a X.env) :: starEach [b] X.env := by rfl) (h2 : starEach [b] X.env = (false, eval b X.env) :: starEach [] X.env := by rfl)
    (hs : swapsWithSole [.Tuple [.Name x px, .Name y py] kt pt] (.Tuple [a, b] k2 pt2) pos.line X.env = pure false := by rfl) :
    PS X (.Assign [.Tuple [.Name x px, .Name y py] kt pt] (.Tuple [a, b] k2 pt2) pos) (tS L (dPar i j t1 t2)) :=
  (ps_par g.calm g.nd hi hj hij hx hy (pa_cons ha (pa_cons hb pa_nil h2) h1) hw hs).less fun D σ H q => by
    obtain ⟨ρ, De, r, q, n1, _⟩ := q
    refine ⟨ρ, _, r, q, fun v H1 s ρ1 go r1 hv q1 => ⟨ρ1, _, r1, q1, fun w H2 s2 ρ2 go2 r2 hw q2 => ⟨v, w, rfl, ?_⟩⟩⟩
    have hv2 := hv.later r go r1 go2
    have ra := r2.put1 (j := i) (r.old (go.tr go2)) hv2
    have rb := ra.put1 (j := j) ((r.old (go.tr go2)).set (Hm := H1) (go.dom) hv.there) hw
    exact n1 _ _ _ ((go.tr go2).keep r) rb q2
end
end GB

namespace GB
open PySem PySem.Spec PyProof.Rows L2

/-! comprehensions -/
def wipeD (ρ : En) : List Nat → En
  | [] => ρ
  | v :: vs => (wipeD ρ vs).set v .un
theorem wipeD_get (ρ : En) (j : Nat) : ∀ vs : List Nat, (wipeD ρ vs)[j]? = if j ∈ vs then (if j < ρ.length then some .un else none) else ρ[j]?
  | [] => by simp [wipeD]
  | v :: vs => by
    have hl : ∀ vs : List Nat, (wipeD ρ vs).length = ρ.length := fun vs => by
      induction vs with
      | nil => rfl
      | cons a r ih => simp [wipeD, ih]
    unfold wipeD
    rw [get_set, hl, wipeD_get ρ j vs]
    by_cases h : v = j
    · subst h; simp
    · have : ¬ j = v := fun e => h e.symm
      simp [h, this]
theorem wipeD_len (ρ : En) : ∀ vs : List Nat, (wipeD ρ vs).length = ρ.length
  | [] => rfl
  | v :: vs => by simp [wipeD, wipeD_len ρ vs]
theorem wipe_get (σ : L2.St) (j : Nat) : ∀ vs : List Nat, (wipe σ vs)[j]? = if j ∈ vs then (if j < σ.length then some none else none) else σ[j]?
  | [] => by simp [wipe]
  | v :: vs => by
    unfold wipe
    rw [get_set, wipe_length, wipe_get σ j vs]
    by_cases h : v = j
    · subst h; simp
    · have : ¬ j = v := fun e => h e.symm
      simp [h, this]
section
variable {L : Lay} {H H' : Hp} {σ σ' : L2.St} {ρ : En} {vs : List Nat}
/-- only what is not forgotten counts -/
theorem Rel.move (r : Rel L H σ (wipeD ρ vs)) (hl : σ'.length = σ.length) (h : ∀ j, j ∉ vs → σ'[j]? = σ[j]?) : Rel L H σ' (wipeD ρ vs) := by
  have out : ∀ (j : Nat) (s : S), (wipeD ρ vs)[j]? = some s → s ≠ .un → j ∉ vs := fun j s e n m => by
    rw [wipeD_get, if_pos m] at e
    split at e
    · cases e; exact n rfl
    · cases e
  refine ⟨by rw [hl]; exact r.len, fun j s e => ?_, fun i j xs ys e1 e2 e3 => ?_, r.same⟩
  · by_cases hs : s = .un
    · subst hs; trivial
    · rw [h j (out j s e hs)]; exact r.at' j s e
  · rw [h i (out i _ e1 (by intro z; cases z)), h j (out j _ e2 (by intro z; cases z))] at e3
    exact r.sep i j xs ys e1 e2 e3
theorem Rel.wiped (r : Rel L H σ ρ) : Rel L H σ (wipeD ρ vs) := by
  have sub : ∀ (j : Nat) (s : S), (wipeD ρ vs)[j]? = some s → s = .un ∨ ρ[j]? = some s := fun j s e => by
    rw [wipeD_get] at e
    split at e
    · split at e
      · cases e; exact .inl rfl
      · cases e
    · exact .inr e
  refine ⟨by rw [wipeD_len]; exact r.len, fun j s e => ?_, fun i j xs ys e1 e2 e3 => ?_, r.same⟩
  · rcases sub j s e with rfl | e
    · trivial
    · exact r.at' j s e
  · rcases sub i _ e1 with q | q1
    · cases q
    · rcases sub j _ e2 with q | q2
      · cases q
      · exact r.sep i j xs ys q1 q2 e3
theorem wipe_out (σ : L2.St) (vs : List Nat) : ∀ j, j ∉ vs → (wipe σ vs)[j]? = σ[j]? := fun j h => by rw [wipe_get, if_neg h]
/-- outside of the lists that slots own -/
theorem Go.wiped (go : Go σ ρ ρ H H') : Go σ ρ (wipeD ρ vs) H H' := ⟨go.stay, fun i xs e => by
  rw [wipeD_get] at e
  split at e
  · split at e <;> cases e
  · exact ⟨xs, e⟩, go.dom⟩
end
def dLcGo (vs : List Nat) (g : DTG) (tt : TTd) (te : TEd) (ρw : En) (Q : List PyData → Prop) : List PyData → List PyData → Prop
  | [], acc => Q acc
  | d :: ds, acc => g d ρw fun ρ2 => wipeD ρ2 vs = ρw ∧ tt ρ2 fun b ρ3 => ρ3 = ρ2 ∧ if b = true then te ρ2 fun s ρ4 => ρ4 = ρ2 ∧ ∃ y, s = .d y ∧ dLcGo vs g tt te ρw Q ds (acc ++ [y]) else dLcGo vs g tt te ρw Q ds acc
def dLc (ti : TId) (vs : List Nat) (g : DTG) (tt : TTd) (te : TEd) : TEd := fun ρ Q => ti ρ fun ds ρ1 => ds.length ≤ sizeLine ∧ dLcGo vs g tt te (wipeD ρ1 vs) (fun acc => Q (.own acc) (wipeD ρ1 vs)) ds []
def dYes : TTd := fun ρ Q => Q true ρ
theorem _root_.L2.PTs.less {X : Cx} {e : List Expr} {t t2 : TT} (h : PTs X e t) (w : ∀ σ H Q, t2 σ H Q → t σ H Q) : PTs X e t2 := ⟨fun pins s σ H Q I q => h.run pins s σ H Q I (w _ _ _ q)⟩
theorem dts_nil {X : Cx} {L : Lay} : PTs X [] (tT L dYes) := pts_nil.less fun σ H Q' h => by
  obtain ⟨ρ, Q, r, q, fin⟩ := h
  exact fin true H ρ Go.rf r q
theorem dts_one {X : Cx} {L : Lay} {c : Expr} {t : TTd} (h : PT X c (tT L t)) : PTs X [c] (tT L t) := pts_one h
section
variable {L : Lay} {ti : TId} {vs : List Nat} {g : DTG} {tt : TTd} {te : TEd}
/-- in these slots there is no list of one's own -/
def NoOwn (vs : List Nat) (ρ : En) : Prop := ∀ j, j ∈ vs → ∀ xs, ρ[j]? ≠ some (.own xs)
theorem noOwn_wiped (ρ : En) : NoOwn vs (wipeD ρ vs) := fun j hj xs e => by
  rw [wipeD_get, if_pos hj] at e
  split at e <;> cases e
/-- target assignments touch no slot but the block's own -/
def GOwn (L : Lay) (vs : List Nat) (tg : TG) (g : DTG) : Prop := ∀ {H : Hp} {σ : L2.St} {ρ : En} {v : V} {d : PyData} {Q : En → Prop} {Q' : L2.St → Hp → Prop}, Rel L H σ ρ → NoOwn vs ρ → Br L.K H v d → g d ρ Q →
  (∀ σ' ρ', Rel L H σ' ρ' → NoOwn vs ρ' → Q ρ' → wipe σ' vs = wipe σ vs → Q' σ' H) → tg v σ H Q'
theorem wipe_set {σ : L2.St} {i : Nat} {o : Option V} (h : i ∈ vs) : wipe (σ.set i o) vs = wipe σ vs := by
  apply List.ext_getElem?
  intro j
  rw [wipe_get, wipe_get, List.length_set]
  split
  · rfl
  · rename_i hj
    rw [get_set, if_neg (show ¬ i = j from fun e => hj (e ▸ h))]
theorem gown_name {i : Nat} (h : i ∈ vs) : GOwn L vs (gName i) (dgName i) := fun r n b q fin => by
  refine fin _ _ (r.setF (s := .d _) b) (fun j hj xs e => ?_) q (wipe_set h)
  by_cases hij : i = j
  · subst hij; rw [get_set, if_pos rfl] at e; split at e <;> cases e
  · rw [get_set, if_neg hij] at e; exact n j hj xs e
def GOwns (L : Lay) (vs : List Nat) (tg : TGs) (g : DTGs) : Prop := ∀ {H : Hp} {σ : L2.St} {ρ : En} {us : List V} {ds : List PyData} {Q : En → Prop} {Q' : L2.St → Hp → Prop}, Rel L H σ ρ → NoOwn vs ρ → BrA L.K H us ds → g ds ρ Q →
  (∀ σ' ρ', Rel L H σ' ρ' → NoOwn vs ρ' → Q ρ' → wipe σ' vs = wipe σ vs → Q' σ' H) → tg us σ H Q'
theorem gowns_nil : GOwns L vs gNil dgNil := fun r n b q fin => by
  obtain ⟨rfl, q⟩ := q
  cases b
  exact ⟨rfl, fin _ _ r n q rfl⟩
theorem gowns_cons {tg : TG} {tgs : TGs} {g : DTG} {gs : DTGs} (h : GOwn L vs tg g) (h2 : GOwns L vs tgs gs) : GOwns L vs (gCons tg tgs) (dgCons g gs) := fun r n b q fin => by
  obtain ⟨d, rs, rfl, q⟩ := q
  cases b with
  | cons b1 b2 => exact ⟨_, _, rfl, h r n b1 q fun σ' ρ' r' n' q' e => h2 r' n' b2 q' fun σ2 ρ2 r2 n2 q2 e2 => fin σ2 ρ2 r2 n2 q2 (e2.trans e)⟩
theorem gown_tup {k : Nat} {tgs : TGs} {gs : DTGs} (h : GOwns L vs tgs gs) : GOwn L vs (gTup L.K k tgs) (dgTup k gs) := fun r n b q fin => by
  obtain ⟨ds, rfl, hl, q⟩ := q
  cases b with
  | tup h1 h2 => exact ⟨_, _, rfl, h1, by rw [h2.len]; exact hl, h r n h2 q fin⟩
theorem Rel.other {H : Hp} {σ : L2.St} {ρ : En} (r : Rel L H σ ρ) {l : Addr} {us ws : List V} (hl : H l = some (.lst us)) (h0 : L.H0 l = none) (hs : ∀ (i : Nat) (ys : List PyData), ρ[i]? = some (.own ys) → σ[i]? ≠ some (some (.ref l))) : Rel L (upd H l (.lst ws)) σ ρ := by
  have k : Keep H (upd H l (.lst ws)) := keep_put hl trivial
  refine ⟨r.len, fun j z e => ?_, r.sep, same_fix r.same h0⟩
  have q := r.at' j z e
  cases z with
  | un => trivial
  | d x => obtain ⟨v, e2, q⟩ := q; exact ⟨v, e2, Br.keep k _ _ q⟩
  | own zs =>
    obtain ⟨v, e2, q⟩ := q
    refine ⟨v, e2, q.keep k fun m em => upd_ne fun z => ?_⟩
    subst em; subst z
    obtain ⟨w, e4, _⟩ := r.get e
    rw [e4] at e2
    refine hs j zs e ?_
    rw [e4]
    exact congrArg some (show w = some (V.ref m) from e2)
  | ob t => obtain ⟨a, e2, q⟩ := q; exact ⟨a, e2, L.J.keep _ _ _ _ k q⟩
theorem lc_read {gt : TG} (hg : GOwn L vs gt g) : ∀ σ H Q', tE L (dLc ti vs g tt te) σ H Q' → tLc (tI L ti) gt (tT L tt) (tE L te) vs σ H Q' := by
  intro σ H Q' q
  obtain ⟨ρ, Q, r, q, fin⟩ := q
  refine ⟨ρ, _, r, q, fun J H1 ds ρ1 go r1 q1 it D hD => ?_⟩
  obtain ⟨hz, q1⟩ := q1
  obtain ⟨G, Y, wk, g0, gk, step⟩ := it
  have rw1 : Rel L H1 (wipe σ vs) (wipeD ρ1 vs) := r1.wiped.move (wipe_length σ vs) (wipe_out σ vs)
  have sD := same_new (o := .lst []) hD
  have d0 : L.H0 D = none := r1.same.free hD
  have dSlot : ∀ (i : Nat) (ys : List PyData), (wipeD ρ1 vs)[i]? = some (.own ys) → (wipe σ vs)[i]? ≠ some (some (.ref D)) := fun i ys e z => by
    obtain ⟨l', us', q1, q2, _⟩ := rw1.getO e
    rw [z] at q1; cases q1
    rw [hD] at q2; cases q2
  refine lc_it wk (fun i H2 => i ≤ ds.length ∧ Keep H1 H2 ∧ Go (wipe σ vs) (wipeD ρ1 vs) (wipeD ρ1 vs) H1 H2 ∧ Rel L H2 (wipe σ vs) (wipeD ρ1 vs) ∧ ∃ acc us, H2 D = some (.lst us) ∧ BrA L.K H2 us acc ∧ acc.length ≤ i ∧ dLcGo vs g tt te (wipeD ρ1 vs) (fun acc => Q (.own acc) (wipeD ρ1 vs)) (ds.drop i) acc)
    ⟨Nat.zero_le _, keep_of_same sD, Go.sm sD, rw1.go sD, [], [], upd_same, .nil, Nat.le_refl _, q1⟩ (fun i H2 _ ⟨_, k, _⟩ => gk _ _ k g0) (fun i x H2 H3 hi ⟨_, k, goi, r2, acc, us, hDl, hb, hacc, ql⟩ hy => ?_) fun H2 ⟨_, k, goi, r2, acc, us, hDl, hb, hacc, ql⟩ => ?_
  · obtain ⟨sm, d, hd, bd⟩ := step i H2 x H3 hi k (gk _ _ k g0) hy
    have e : ds.drop i = d :: ds.drop (i + 1) := by
      obtain ⟨hi', e⟩ := List.getElem?_eq_some_iff.mp hd
      rw [List.drop_eq_getElem_cons hi', e]
    rw [e] at ql
    refine hg (r2.go sm) (noOwn_wiped ρ1) bd ql fun σ2 ρ2 r3 no2 q3 ew => ⟨?_, ?_⟩
    · rw [ew]
      apply List.ext_getElem?
      intro j
      rw [wipe_get, wipe_length, wipe_get]
      split <;> rfl
    · obtain ⟨e2, q3⟩ := q3
      have ew2 : wipe σ2 vs = wipe σ vs := by
        rw [ew]
        apply List.ext_getElem?
        intro j
        rw [wipe_get, wipe_length, wipe_get]
        split <;> rfl
      have lw : σ2.length = σ.length := by
        have := congrArg List.length ew2
        rw [wipe_length, wipe_length] at this; exact this
      have outw : ∀ j, j ∉ vs → (wipe σ vs)[j]? = σ2[j]? := fun j hj => by
        rw [← ew2]; exact wipe_out σ2 vs j hj
      have goback : ∀ {H4 : Hp}, Go σ2 ρ2 ρ2 H3 H4 → Rel L H4 σ2 ρ2 → Go (wipe σ vs) (wipeD ρ1 vs) (wipeD ρ1 vs) H1 H4 ∧ Rel L H4 (wipe σ vs) (wipeD ρ1 vs) ∧ H4 D = some (.lst us) := fun {H4} g4 r4 => by
        have own2 : ∀ (j : Nat) (xs : List PyData), ρ2[j]? = some (.own xs) → j ∉ vs ∧ (wipeD ρ1 vs)[j]? = some (.own xs) := fun j xs ej => by
          have nj : j ∉ vs := fun m => no2 j m xs ej
          exact ⟨nj, by rw [← e2, wipeD_get, if_neg nj]; exact ej⟩
        refine ⟨⟨fun a o h n => ?_, fun j xs ej => ⟨xs, ej⟩, fun a h => goi.dom a (sm.free (g4.dom a h))⟩, ?_, ?_⟩
        · refine g4.stay a o (sm a o (goi.stay a o h n)) fun j xs ej z => ?_
          obtain ⟨nj, ej'⟩ := own2 j xs ej
          exact n j xs ej' (by rw [outw j nj]; exact z)
        · have := (r4.wiped (vs := vs)).move (σ' := wipe σ vs) (by rw [wipe_length, lw]) outw
          rw [e2] at this; exact this
        · refine g4.stay D _ (sm D _ hDl) fun j xs ej z => ?_
          obtain ⟨nj, ej'⟩ := own2 j xs ej
          exact dSlot j xs ej' (by rw [outw j nj]; exact z)
      refine ⟨ρ2, _, r3, q3, fun b H4 ρ3 go4 r4 q4 => ?_⟩
      obtain ⟨e3, q4⟩ := q4
      subst e3
      obtain ⟨goA, rA, dA⟩ := goback go4 r4
      have k4 : Keep H2 H4 := (keep_of_same sm).tr (go4.keep r3)
      cases b with
      | false => exact iteF ⟨hi, k.tr k4, goA, rA, acc, us, dA, BrA.keep k4 _ _ hb, by omega, by simpa using q4⟩
      | true =>
        refine iteT ⟨ρ3, _, r4, by simpa using q4, fun y H5 s ρ4 go5 r5 hv q5 => ?_⟩
        obtain ⟨e4, y', rfl, q6⟩ := q5
        subst e4
        obtain ⟨goB, rB, dB⟩ := goback (go4.tr go5) r5
        have k5 : Keep H2 H5 := k4.tr (go5.keep r4)
        have kD : Keep H5 (upd H5 D (.lst (us ++ [y]))) := keep_put dB trivial
        have lu := hb.len
        refine ⟨us, dB, by omega, hi, (k.tr k5).tr kD, ⟨fun a o h n => ?_, fun j xs ej => ⟨xs, ej⟩, fun a h => ?_⟩, rB.other dB d0 dSlot, acc ++ [y'], us ++ [y], upd_same, ((BrA.keep (k5.tr kD) _ _ hb).app (BrA.one (Br.keep kD _ _ hv))), by simp; omega, q6⟩
        · rw [upd_ne (fun z => by rw [z, hD] at h; cases h)]; exact goB.stay a o h n
        · by_cases z : a = D
          · rw [z]; exact hD
          · rw [upd_ne z] at h; exact goB.dom a h
  · rw [List.drop_length] at ql
    have goF : Go σ ρ1 (wipeD ρ1 vs) H1 H2 := ⟨fun a o h n => goi.stay a o h fun j xs ej z => by
        by_cases nj : j ∈ vs
        · exact noOwn_wiped ρ1 j nj xs ej
        · rw [wipeD_get, if_neg nj] at ej
          rw [wipe_out σ vs j nj] at z
          exact n j xs ej z, fun j xs ej => by
        by_cases nj : j ∈ vs
        · exact absurd ej (noOwn_wiped ρ1 j nj xs)
        · rw [wipeD_get, if_neg nj] at ej; exact ⟨xs, ej⟩, goi.dom⟩
    exact fin (.ref D) H2 (.own acc) _ (go.tr goF) (r2.move (wipe_length σ vs).symm fun j hj => (wipe_out σ vs j hj).symm) ⟨⟨D, us, rfl, hDl, hb, d0⟩, fun l e => by cases e; exact go.dom _ hD⟩ ql
end
section
variable {X : Cx} {L : Lay} {elt tg iter : Expr} {ifs : List Expr} {scope : Scope} {own : List (Str × Nat)} {pos : Pos} {ti : TId} {g : DTG} {gt : TG} {tt : TTd} {te : TEd}
theorem de_lc (gd : Good X) (hi : PI X tg iter (tI L ti)) (ok : BlkOk X.N X.env.scope scope own)
    (hg : ∀ (s : Shared) (H : Hp) (C : Addr) (cl : List (Str × Addr)) (fp : List Addr), PG (X.blk s H scope (compEnvC scope cl C X.env) fp) tg gt) (ho : GOwn L (own.map (·.2)) gt g)
    (ht : ∀ (s : Shared) (H : Hp) (C : Addr) (cl : List (Str × Addr)) (fp : List Addr), Good (X.blk s H scope (compEnvC scope cl C X.env) fp) → PTs (X.blk s H scope (compEnvC scope cl C X.env) fp) ifs (tT L tt))
    (he : ∀ (s : Shared) (H : Hp) (C : Addr) (cl : List (Str × Addr)) (fp : List Addr), Good (X.blk s H scope (compEnvC scope cl C X.env) fp) → PE (X.blk s H scope (compEnvC scope cl C X.env) fp) elt (tE L te))
    (hs : ∀ x, foldedSetIterable iter X.env x = pure x := by intro _; rfl) : PE X (.ListComp elt [⟨tg, iter, ifs, 0⟩] scope pos) (tE L (dLc ti (own.map (·.2)) g tt te)) :=
  (pe_lc gd.calm gd.nd hi ok hg (fun s H C cl fp => ht s H C cl fp ⟨gd.calm, gd.gd, gd.sys, gd.un, gd.nd⟩) (fun s H C cl fp => he s H C cl fp ⟨gd.calm, gd.gd, gd.sys, gd.un, gd.nd⟩) hs).less (lc_read ho)
theorem ds_setLc {i : Nat} {y : Str} {py spos : Pos} (gd : Good X) (hy : X.N[i]? = some y) (hyl : X.env.scope.names.lookup y = some .local) (hsw : swapsWith (.ListComp elt [⟨tg, iter, ifs, 0⟩] scope pos) (some (.Name y py)) spos.line X.env = pure true)
    (hi : PI X tg iter (tI L ti)) (ok : BlkOk X.N X.env.scope scope own)
    (hg : ∀ (s : Shared) (H : Hp) (C : Addr) (cl : List (Str × Addr)) (fp : List Addr), PG (X.blk s H scope (compEnvC scope cl C X.env) fp) tg gt) (ho : GOwn L (own.map (·.2)) gt g)
    (ht : ∀ (s : Shared) (H : Hp) (C : Addr) (cl : List (Str × Addr)) (fp : List Addr), Good (X.blk s H scope (compEnvC scope cl C X.env) fp) → PTs (X.blk s H scope (compEnvC scope cl C X.env) fp) ifs (tT L tt))
    (he : ∀ (s : Shared) (H : Hp) (C : Addr) (cl : List (Str × Addr)) (fp : List Addr), Good (X.blk s H scope (compEnvC scope cl C X.env) fp) → PE (X.blk s H scope (compEnvC scope cl C X.env) fp) elt (tE L te))
    (hs : ∀ x, foldedSetIterable iter X.env x = pure x := by intro _; rfl) : PS X (.Assign [.Name y py] (.ListComp elt [⟨tg, iter, ifs, 0⟩] scope pos) spos) (tS L (dSet i (dLc ti (own.map (·.2)) g tt te))) :=
  (ps_setLc gd.calm gd.nd hy hyl hsw hi ok hg (fun s H C cl fp => ht s H C cl fp ⟨gd.calm, gd.gd, gd.sys, gd.un, gd.nd⟩) (fun s H C cl fp => he s H C cl fp ⟨gd.calm, gd.gd, gd.sys, gd.un, gd.nd⟩) hs).less fun D σ H q => by
    obtain ⟨ρ, De, r, q, n1, _⟩ := q
    exact lc_read ho σ H _ ⟨ρ, _, r, q, fun v H' s ρ' go r' hv n => n1 _ _ _ (go.keep r) (r.set r' go hv) n⟩
end
end GB

namespace GB
open PySem PySem.Spec PyProof.Rows L2

/-- the script: a firm list of ints, or one of the written part -/
def ScrOk (K : PySem.W.Frag) (a : Addr) (ns : List Int) (H : Hp) : Prop := (∃ o, H a = some (.frz o (.lst (ns.map V.int)))) ∨ SqL K (fun _ => none) a (ns.map V.int)
theorem sq_scr {K : PySem.W.Frag} {a : Addr} {ns : List Int} {H : Hp} (h : ScrOk K a ns H) : SqL K H a (ns.map V.int) := by
  rcases h with ⟨o, h⟩ | h
  · exact .inl (.inr ⟨o, h⟩)
  · rcases h with (h | ⟨o, h⟩) | h
    · cases h
    · cases h
    · exact .inr h
/-- the store's fact, the script's -/
def mkJar (K : PySem.W.Frag) (j : Addr → Hp → Prop) (hj : ∀ a H H', Keep H H' → j a H → j a H') : Jar where
  ok := fun t a H => match t with
    | .jar => j a H
    | .scr ns => ScrOk K a ns H
    | .more _ => False
  keep := fun t a H H' k h => by
    cases t with
    | jar => exact hj a H H' k h
    | scr ns =>
      rcases h with ⟨o, h⟩ | h
      · exact .inl ⟨o, k _ _ h trivial⟩
      · exact .inr h
    | more _ => exact h
section
variable {P : Program} {w : World} {K : PySem.W.Frag} {mg mb : Str → Option Value} {k : Nat} {fa a : Addr} {fd : FuncData} {x : Str} {J : Jar} {F : FnD} {s1 : Shared} {vs : List Value} {ns : List Int}
theorem end_call (KX : K.In s1.heap) (hns : s1.heap.Ns mainGlobals mg) (hb : s1.heap.Ns builtinsNs mb) (hbb : ∀ y : Str, y ≠ "__name__" → mb y = bootBuiltins y) (hlim : s1.heap.NoLimit) (sy : ∃ mm, s1.heap.Ns sysModules mm) (hg : s1.gens = #[])
    (ha : s1.heap.get? a = some { cls := .type "list", data := .seq vs.toArray }) (hi : IntsAre vs ns) (hl : ns.length ≤ sizeLine) (hr : Room k callerA)
    (hF : ∀ base : Heap, K.In base → base.Ns mainGlobals mg → (∃ o, base.get? sysModules = some o) → FnG P w K mg base CX0 k fa fd [x] (spD K J 1 F))
    (hbind : ∀ (s : Shared) (u : Value), BindsTo s fd ⟨[u], []⟩ [(x, u)]) (hJ : ∀ H, ScrOk K a ns H → J.ok (.scr ns) a H)
    (go : F [.ob (.scr ns)] fun s => s = .d (.bool true)) :
    codeAny (model P w) callerA (.call (.ref fa) ⟨[.ref a], []⟩) (fun r s' => r = .ok (.ret (.bool true)) ∧ OldK s1.heap s'.heap ∧ s'.os = s1.os ∧ AllBare s'.gens) s1 := by
  have rv := vals_ints hi
  have lv := hi.length
  have main : ∀ H : Hp, Only H → ScrOk K a ns H → HOk P w H s1.heap → (∀ b, H b ≠ none → b = a) → (H a ≠ none → K.lookup a = none) →
      codeAny (model P w) callerA (.call (.ref fa) ⟨[.ref a], []⟩) (fun r s' => r = .ok (.ret (.bool true)) ∧ OldK s1.heap s'.heap ∧ s'.os = s1.os ∧ AllBare s'.gens) s1 := by
    intro H hO hS ok hA hK
    have low : ∀ {b : Addr} {o : Obj}, s1.heap.get? b = some o → H b = none → (hidT s1.heap H).get? b = some o := fun e n => hidT_get e n
    have dictFree : ∀ {b : Addr} {o : Obj} {es : Array DictEntry} {ep : Nat}, s1.heap.get? b = some o → o.data = .dict es ep → H b = none := fun {b o es ep} e d => by
      cases q : H b with
      | none => rfl
      | some u =>
        obtain rfl : b = a := hA b (by rw [q]; simp)
        rw [ha] at e; cases e; cases d
    have ns0 : ∀ {b : Addr} {m : Str → Option Value}, s1.heap.Ns b m → (hidT s1.heap H).Ns b m := fun {b m} ⟨o, es, ep, e, d, r⟩ => ⟨o, es, ep, low e (dictFree e d), d, r⟩
    have kin : K.In (hidT s1.heap H) := fun b o e => low (KX b o e) (by
      cases q : H b with
      | none => rfl
      | some u =>
        obtain rfl : b = a := hA b (by rw [q]; simp)
        rw [hK (by rw [q]; simp)] at e; cases e)
    have md : Mod K mg (hidT s1.heap H) := ⟨kin, ns0 hns, ⟨mb, ns0 hb, hbb⟩, let ⟨mc, h1, h2⟩ := hlim; ⟨mc, ns0 h1, h2⟩⟩
    have sm : ∃ o, (hidT s1.heap H).get? sysModules = some o := let ⟨mm, q⟩ := sy; let ⟨o, _, _, e, _⟩ := ns0 q; ⟨o, e⟩
    have e0 : Env0 P w K mg (hidT s1.heap H) callerA [] s1 H := ⟨rfl, md, fun b o e => of_hidT e, Nat.le_of_eq (hidT_size _ _), trivial, fun b hb => (nomatch hb), ok, .of_eq hg⟩
    refine codeAny_mono ((hF _ kin (ns0 hns) sm).go callerA [] s1 H ⟨[.ref a], []⟩ [.ref a] [.ref a] (fun v _ => v = .bl true) (fun _ _ _ => False) rfl hr e0 (hbind s1 (.ref a)) (.cons rfl .nil) ⟨[.ob (.scr ns)], _, .cons ⟨a, rfl, hJ H hS⟩ .nil, rfl, go, fun v H' s _ rr e => ?_⟩) fun r s' h => ?_
    · subst e
      have rr : Br K H' v (.bool true) := rr
      cases rr; rfl
    match r, h with
    | .error e, h => exact False.elim h
    | .ok .next, h => exact False.elim h
    | .ok .brk, h => exact False.elim h
    | .ok .cont, h => exact False.elim h
    | .ok (.ret u), h =>
      obtain ⟨v, H', os, bare, un, hok', r', q⟩ := h
      obtain rfl : v = .bl true := q
      obtain rfl : u = Value.bool true := r'
      refine ⟨rfl, OldK.of_keep fun b o e => ?_, os, bare⟩
      cases q : H b with
      | none => exact un.keep b o e q (fun z => nomatch z) (fun z => nomatch z)
      | some u =>
        rcases hO b with z | ⟨ob, xs, z⟩
        · rw [q] at z; cases z
        · obtain ⟨e1, _⟩ := ok b _ z
          obtain ⟨e2, _⟩ := hok' b _ (un.frzs b ob _ z)
          rw [e] at e1; cases e1
          exact e2
  cases hk : K.lookup a with
  | some o =>
    have e := KX a o hk
    rw [ha] at e; cases e
    exact main (fun _ => none) (fun _ => .inl rfl) (.inr (.inr ⟨_, vs.toArray, _, hk, rfl, rfl, rfl, by rw [List.size_toArray, lv]; exact hl, by simpa using rv⟩)) (fun b u z => (nomatch z)) (fun b z => absurd rfl z) fun z => absurd rfl z
  | none =>
    refine main (upd (fun _ => none) a (.frz { cls := .type "list", data := .seq vs.toArray } (.lst (ns.map V.int)))) (fun b => ?_) (.inl ⟨_, upd_same⟩) (fun b u z => ?_) (fun b z => ?_) fun _ => hk
    · by_cases hb : b = a
      · subst hb; exact .inr ⟨_, _, upd_same⟩
      · exact .inl (upd_ne hb)
    · by_cases hb : b = a
      · subst hb
        rw [upd_same] at z; cases z
        exact ⟨ha, by rw [List.length_map]; exact hl, vs, _, rv, ha⟩
      · rw [upd_ne hb] at z; cases z
    · by_cases hb : b = a
      · exact hb
      · rw [upd_ne hb] at z; exact absurd rfl z
end
/-- THE END of a law's row -/
theorem end_of {l : PySem.W.OpenLaw} {n k : Nat} {q : Program} {loose : List Str} {XP : (Str → Option Value) → Heap → Prop} {YP : World → Heap → Prop} {d : DefRec} {Kp : Params → PySem.W.Frag} {x : Str} {J : World → Jar} {F : FnD}
    (hn : l.most = some n) (hn2 : n ≤ sizeLine) (hdf : d.params.defaults = []) (hr : Room k callerA) (hq : importsNone q = true) (hY : ∀ (w : World) (h : Heap), YP w h → (Kp w.params).In h)
    (hF : ∀ (w : World) (mg : Str → Option Value) (fa : Addr) (h : Heap), (Kp w.params).In h → h.Ns mainGlobals mg → mg d.name = some (.ref fa) → ∃ fd : FuncData, (∀ (s : Shared) (u : Value), BindsTo s fd ⟨[u], []⟩ [(x, u)]) ∧
      ∀ base : Heap, (Kp w.params).In base → base.Ns mainGlobals mg → (∃ o, base.get? sysModules = some o) → FnG l.prog w (Kp w.params) mg base CX0 k fa fd [x] (spD (Kp w.params) (J w) 1 F))
    (hJ : ∀ w a ns H, ScrOk (Kp w.params) a ns H → (J w).ok (.scr ns) a H) (go : ∀ ns : List Int, ns.length ≤ n → F [.ob (.scr ns)] fun s => s = .d (.bool true)) :
    PySem.W.WalkO q loose XP YP l.row.toRowW d [] (fun f vs => PySem.call f vs) := by
  refine Att.attach_call hn hdf fun w s0 s1 mg mb fa o pm cd doc a vs ns G Y ho hd hcd hmg hobj hints hlen hg => ?_
  obtain ⟨fd, hb, hF'⟩ := hF w mg fa _ (hY w _ Y) G.T.g hmg
  exact end_call (hY w _ Y) G.T.g G.T.b G.T.builtins G.T.nolimit (let ⟨mm, q, _⟩ := (G.T.seer hq).mods; ⟨mm, q⟩) hg hobj hints (Nat.le_trans hlen hn2) hr hF' hb (hJ _ a ns) (go ns hlen)
end GB

namespace GB
open PySem PySem.Spec PyProof.Rows L2

/-! slices -/
def cutD {α : Type} (xs : List α) (lo hi : Option Int) : List α := (xs.drop (HT.sIx xs.length 0 lo)).take (HT.sIx xs.length xs.length hi - HT.sIx xs.length 0 lo)
abbrev F3 := PyData → Option Int → Option Int → (S → Prop) → Prop
def fCut : F3 := fun x lo hi Q => match x with
  | .list xs => Q (.own (cutD xs lo hi))
  | .tuple xs => Q (.d (.tuple (cutD xs lo hi)))
  | _ => False
abbrev TOd := En → (Option Int → En → Prop) → Prop
def tO (L : Lay) (t : TOd) : TO := fun σ H Q' => ∃ ρ Q, Rel L H σ ρ ∧ t ρ Q ∧ ∀ o H' ρ', Go σ ρ ρ' H H' → Rel L H' σ ρ' → Q o ρ' → Q' o H'
theorem _root_.L2.PO.less {X : Cx} {e : Option Expr} {t t2 : TO} (h : PO X e t) (w : ∀ σ H Q, t2 σ H Q → t σ H Q) : PO X e t2 := ⟨fun pins s σ H Q I q => h.run pins s σ H Q I (w _ _ _ q)⟩
def dONone : TOd := fun ρ Q => Q none ρ
def dOSome (t : TEd) : TOd := fun ρ Q => t ρ fun s ρ1 => ∃ i, s = .d (.int i) ∧ Q (some i) ρ1
def dCut (t : TEd) (l u : TOd) : TEd := fun ρ Q => t ρ fun s ρ1 => l ρ1 fun lo ρ2 => u ρ2 fun hi ρ3 => ∃ x, s = .d x ∧ fCut x lo hi fun s => Q s ρ3
def dCutO (i : Nat) (l u : TOd) : TEd := fun ρ Q => (∃ ys, ρ[i]? = some (.own ys)) ∧ l ρ fun lo ρ2 => u ρ2 fun hi ρ3 => ∃ xs, ρ3[i]? = some (.own xs) ∧ Q (.own (cutD xs lo hi)) ρ3
section
variable {X : Cx} {L : Lay} {pos p2 p px : Pos} {e o : Expr} {lo hi : Option Expr} {t : TEd} {l u : TOd}
theorem do_none : PO X none (tO L dONone) := po_none.less fun σ H Q' q => by
  obtain ⟨ρ, Q, r, q, fin⟩ := q
  exact fin none H ρ Go.rf r q
theorem do_some (h : PE X e (tE L t)) : PO X (some e) (tO L (dOSome t)) := (po_some h).less fun σ H Q' q => by
  obtain ⟨ρ, Q, r, q, fin⟩ := q
  refine ⟨ρ, _, r, q, fun v H1 s ρ1 go r1 hv q1 => ?_⟩
  obtain ⟨i, rfl, q2⟩ := q1
  have hv : Br L.K H1 v (.int i) := hv
  cases hv
  exact ⟨i, rfl, fin (some i) H1 ρ1 go r1 q2⟩
theorem cut_br {K : PySem.W.Frag} {H : Hp} {vs : List V} {xs : List PyData} (h : BrA K H vs xs) (lo hi : Option Int) : BrA K H (cutV vs lo hi) (cutD xs lo hi) := by
  unfold cutV cutD
  rw [h.len]
  exact (h.drop _).take _
theorem sl_fin {H1 H2 H3 : Hp} {σ : L2.St} {ρ ρ3 : En} {H : Hp} {x : PyData} {v : V} {a b : Option Int} {Q : S → En → Prop} {Q' : VK} (hK : L.K = X.K) (r3 : Rel L H3 σ ρ3) (go : Go σ ρ ρ3 H H3) (hv : Bk L H3 v x) (q : fCut x a b fun s => Q s ρ3)
    (fin : ∀ (v : V) (H' : Hp) (s : S) (ρ' : En), Go σ ρ ρ' H H' → Rel L H' σ ρ' → VR L H H' v s → Q s ρ' → Q' v H') : rSlL X.K v a b H3 Q' ∨ rSlA X.K v a b H3 Q' := by
  cases x with
  | list xs =>
    obtain ⟨al, vs, rfl, h1, h3⟩ := list_sq hK hv
    refine .inl ⟨al, vs, rfl, h1, fun p hp => ?_⟩
    exact fin _ _ (.own _) ρ3 (go.tr (Go.sm (same_new hp))) (r3.go (same_new hp)) (NR.vr (s := .own _) r3 (same_new hp) go ⟨p, _, rfl, hp, upd_same, BrA.keep (keep_of_same (same_new hp)) _ _ (cut_br h3 a b)⟩) q
  | tuple xs =>
    have hv : Br L.K H3 v (.tuple xs) := hv
    cases hv with
    | tup h1 h3 =>
      rename_i al vs
      have h1' := h1
      rw [hK] at h1
      refine .inr ⟨al, vs, rfl, h1, fun hw => ?_, fun hw p hp => ?_⟩
      · have e : cutD xs a b = xs := by
          unfold cutD
          rw [← h3.len, hw.1, hw.2]
          simp [h3.len]
        have q : Q (.d (.tuple (cutD xs a b))) ρ3 := q
        rw [e] at q
        exact fin _ _ (.d (.tuple xs)) ρ3 go r3 (.tup h1' h3) q
      · exact fin _ _ (.d _) ρ3 (go.tr (Go.sm (same_new hp))) (r3.go (same_new hp)) (.tup (.of upd_same) (BrA.keep (keep_of_same (same_new hp)) _ _ (cut_br h3 a b))) q
  | _ => exact False.elim q
theorem de_cut (hK : L.K = X.K) (he : PE X e (tE L t)) (hl : PO X lo (tO L l)) (hu : PO X hi (tO L u)) : PE X (.Subscript e (.Slice lo hi none p2) pos) (tE L (dCut t l u)) :=
  (pe_slice (sl_list.or sl_tupA) he hl hu).less fun σ H Q' q => by
    obtain ⟨ρ, Q, r, q, fin⟩ := q
    refine ⟨ρ, _, r, q, fun v H1 s ρ1 g1 r1 hv q1 => ⟨ρ1, _, r1, q1, fun a H2 ρ2 g2 r2 q2 => ⟨ρ2, _, r2, q2, fun b H3 ρ3 g3 r3 q3 => ?_⟩⟩⟩
    obtain ⟨x, rfl, q4⟩ := q3
    exact sl_fin (H1 := H1) (H2 := H2) hK r3 ((g1.tr g2).tr g3) (Bk.of (Br.keep ((g2.tr g3).keep r1) _ _ hv)) q4 fin
theorem de_cutO {i : Nat} (hK : L.K = X.K) (he : PE X e (tVar i)) (hl : PO X lo (tO L l)) (hu : PO X hi (tO L u)) : PE X (.Subscript e (.Slice lo hi none p2) pos) (tE L (dCutO i l u)) :=
  (pe_slice (sl_list.or sl_tupA) he hl hu).less fun σ H Q' q => by
    obtain ⟨ρ, Q, r, ⟨⟨ys, ey⟩, q⟩, fin⟩ := q
    obtain ⟨la, vs, h1, _⟩ := r.getO ey
    refine ⟨_, h1, ρ, _, r, q, fun a H2 ρ2 g2 r2 q2 => ⟨ρ2, _, r2, q2, fun b H3 ρ3 g3 r3 q3 => ?_⟩⟩
    obtain ⟨xs, ex, q4⟩ := q3
    obtain ⟨v, h2, hv⟩ := pk_own r3 ex
    rw [h1] at h2; cases h2
    exact sl_fin (H1 := H) (H2 := H2) (x := .list xs) hK r3 (g2.tr g3) hv q4 fin
/-! isinstance of one built-in class -/
def kindOf : PyData → String
  | .none => "NoneType"
  | .bool _ => "bool"
  | .int _ => "int"
  | .str _ => "str"
  | .list _ => "list"
  | .tuple _ => "tuple"
  | .dict _ => "dict"
def isK (T : String) (x : PyData) : Bool := (kitB (kindOf x) T).getD false
theorem ty_of (hK : L.K = X.K) {H : Hp} {v : V} {x : PyData} (h : Bk L H v x) : TyX X.K H v (.type (kindOf x)) := by
  cases x with
  | none => cases h; exact .base .non
  | bool b => cases h; exact .base (.bl b)
  | int i => cases h; exact .base (.int i)
  | str z => cases h; exact .base (.str z)
  | list xs =>
    obtain ⟨a, vs, rfl, h1, _⟩ := h
    rcases h1 with h1 | ⟨o, h1⟩
    · exact .base (.lst h1)
    · exact .base (.frz h1)
  | tuple xs =>
    cases h with
    | tup h1 h2 =>
      rw [hK] at h1
      rcases h1 with (h1 | ⟨o, h1⟩) | ⟨o, its, n, h1, h3, _⟩
      · exact .base (.tup h1)
      · exact .fTuple h1
      · exact .kTuple h1 h3
  | dict kvs => cases h with | dct h1 _ _ => exact .fDict h1
def dIsi (T : String) (t : TEd) : TEd := fun ρ Q => t ρ fun s ρ1 => ∃ x, s = .d x ∧ Q (.d (.bool (isK T x))) ρ1
theorem kit_all {T : String} (h : T = "int" ∨ T = "bool" ∨ T = "str" ∨ T = "tuple" ∨ T = "list" ∨ T = "dict") (x : PyData) : kitB (kindOf x) T = some (isK T x) := by
  have dk : ∀ a ∈ ["NoneType", "bool", "int", "str", "list", "tuple", "dict"], ∀ b ∈ ["int", "bool", "str", "tuple", "list", "dict"], (kitB a b).isSome = true := by decide +kernel
  have hx : kindOf x ∈ ["NoneType", "bool", "int", "str", "list", "tuple", "dict"] := by cases x <;> simp [kindOf]
  have hT : T ∈ ["int", "bool", "str", "tuple", "list", "dict"] := by rcases h with h | h | h | h | h | h <;> subst h <;> simp
  have q := dk _ hx _ hT
  unfold isK
  cases e : kitB (kindOf x) T with
  | none => rw [e] at q; cases q
  | some b => rfl
theorem de_isi {T : Str} {Ts : String} (hK : L.K = X.K) (hg : Gl X "isinstance") (hm : X.mg "isinstance" = none) (hgT : Gl X T) (hmT : X.mg T = none) (hvT : bootBuiltins T = some (.type Ts)) (hT : Ts = "int" ∨ Ts = "bool" ∨ Ts = "str" ∨ Ts = "tuple" ∨ Ts = "list" ∨ Ts = "dict")
    (he : PE X e (tE L t)) (hv : bootBuiltins "isinstance" = some (.builtin "isinstance") := by decide +kernel) (hnT : T ≠ "__name__" := by decide) (hdT : (T == ("__debug__" : Str)) = false := by decide)
    (h1 : starEach (e :: [.Name T px]) X.env = (false, eval e X.env) :: starEach [.Name T px] X.env := by rfl) (h2 : starEach ([.Name T px]) X.env = (false, eval (.Name T px) X.env) :: starEach [] X.env := by rfl)
    (hpl : (backTo pos (starEach [.Name T px] X.env)).any (·.1) = false := by rfl) : PE X (.Call (.Name "isinstance" p) [e, .Name T px] [] pos) (tE L (dIsi Ts t)) :=
  (pe_callB call_isi hg hm hv (pa_cons he (pa_cons (pe_bltn (v := .ty Ts) hgT hmT hvT rfl hnT hdT) pa_nil h2) h1) (by decide) (by decide) h1 hpl).less fun σ H Q' q => by
    obtain ⟨ρ, Q, r, q, fin⟩ := q
    refine ⟨ρ, _, r, q, fun v H1 s ρ1 go r1 hv q1 => ?_⟩
    obtain ⟨x, rfl, q2⟩ := q1
    exact ⟨v, .ty Ts, .type (kindOf x), .type Ts, _, rfl, .ty Ts, ty_of hK (Bk.of hv), kit_ty (kit_all hT x), fin _ H1 (.d (.bool _)) ρ1 go r1 (.bl _) q2⟩
/-! a op b op' c -/
variable {a b c : Expr} {ta tb tc : TEd} {op op' : CmpOp} {f f' : F2}
def dChain (f f' : F2) (ta tb tc : TEd) : TEd := fun ρ Q => ta ρ fun s1 ρ1 => tb ρ1 fun s2 ρ2 => ∃ x y, s1 = .d x ∧ s2 = .d y ∧ f x y fun s => ∃ k, s = .d (.bool k) ∧
  if k = true then tc ρ2 fun s3 ρ3 => ∃ z, s3 = .d z ∧ f' y z fun s => Q s ρ3 else Q (.d (.bool false)) ρ2
theorem chain_read : ∀ σ H Q, tE L (dChain f f' ta tb tc) σ H Q → tChain (rD L f) (rD L f') (tE L ta) (tE L tb) (tE L tc) σ H Q := fun σ H Q' q => by
  obtain ⟨ρ, Q, r, q, fin⟩ := q
  refine ⟨ρ, _, r, q, fun v H1 s ρ1 k1 r1 hv q1 => ⟨ρ1, _, r1, q1, fun u H2 s2 ρ2 k2 r2 hu q2 => ?_⟩⟩
  obtain ⟨x, y, rfl, rfl, q3⟩ := q2
  refine ⟨x, y, _, Bk.of (Br.keep (k2.keep r1) _ _ hv), Bk.of hu, q3, fun w H3 s3 sm nr q4 => ?_⟩
  obtain ⟨k, rfl, q5⟩ := q4
  have nr : Br L.K H3 w (.bool k) := nr
  cases nr
  have g3 := (k1.tr k2).tr (Go.sm sm)
  have r3 := r2.go sm
  refine ⟨k, rfl, ?_⟩
  cases k with
  | false => exact iteF (fin _ H3 (.d (.bool false)) ρ2 g3 r3 (.bl _) (by simpa using q5))
  | true =>
    refine iteT ⟨ρ2, _, r3, by simpa using q5, fun z H4 s4 ρ4 k4 r4 hz q6 => ?_⟩
    obtain ⟨zd, rfl, q7⟩ := q6
    exact ⟨y, zd, _, Bk.of (Br.keep ((keep_of_same sm).tr (k4.keep r3)) _ _ hu), Bk.of hz, q7, fun w5 H5 s5 sm5 nr5 q8 => fin w5 H5 s5 ρ4 ((g3.tr k4).tr (Go.sm sm5)) (r4.go sm5) (nr5.vr r4 sm5 (g3.tr k4)) q8⟩
theorem de_chain (ho : OpR X (compareOp op) (rD L f)) (ho' : OpR X (compareOp op') (rD L f')) (ha : PE X a (tE L ta)) (hb : PE X b (tE L tb)) (hc : PE X c (tE L tc)) (hm : lastMarks [op, op'] [b, c] = false := by with_unfolding_all rfl) :
    PE X (.Compare a [op, op'] [b, c] pos) (tE L (dChain f f' ta tb tc)) := (pe_chain ho ho' ha hb hc hm).less chain_read
theorem dt_chain (ho : OpR X (compareOp op) (rD L f)) (ho' : OpR X (compareOp op') (rD L f')) (ha : PE X a (tE L ta)) (hb : PE X b (tE L tb)) (hc : PE X c (tE L tc)) (hm : lastMarks [op, op'] [b, c] = false := by with_unfolding_all rfl) :
    PT X (.Compare a [op, op'] [b, c] pos) (tT L (dB (dChain f f' ta tb tc))) := (pt_chain ho ho' ha hb hc hm).less (tT_of chain_read)
/-! -x -/
def dNeg (t : TEd) : TEd := fun ρ Q => t ρ fun s ρ1 => ∃ i, s = .d (.int i) ∧ Q (.d (.int (-i))) ρ1
theorem de_neg (h : PE X e (tE L t)) : PE X (.UnaryOp .USub e pos) (tE L (dNeg t)) := (pe_un un_neg h).less fun σ H Q' q => by
  obtain ⟨ρ, Q, r, q, fin⟩ := q
  refine ⟨ρ, _, r, q, fun v H1 s ρ1 go r1 hv q1 => ?_⟩
  obtain ⟨i, rfl, q2⟩ := q1
  have hv : Br L.K H1 v (.int i) := hv
  cases hv
  exact ⟨i, rfl, fin _ H1 (.d (.int (-i))) ρ1 go r1 (.int _) q2⟩
end
/-! what else lists do -/
section
variable {X : Cx} {L : Lay} {apos cpos : Pos} {o e e2 : Expr} {t t2 : TEd} {i : Nat}
def rExt (L : Lay) : V → List V → Hp → VK → Prop := fun x vs H Q => ∃ l xs z zs zv, x = .ref l ∧ vs = [z] ∧ H l = some (.lst xs) ∧ Bk L H z (.list zs) ∧ xs.length + zs.length ≤ sizeLine ∧ (∀ ws, BrA L.K H ws zs → ws.length = zs.length → zv = ws → Q .non (upd H l (.lst (xs ++ ws))))
theorem m_extend (hK : L.K = X.K) : MtM X "list.extend" (fun x vs H Q => ∃ l xs z zs, x = .ref l ∧ vs = [z] ∧ H l = some (.lst xs) ∧ Bk L H z (.list zs) ∧ xs.length + zs.length ≤ sizeLine ∧ ∀ ws, BrA L.K H ws zs → Q .non (upd H l (.lst (xs ++ ws)))) := by
  intro pins s σ H x vs v us Q I rx rv h
  obtain ⟨l, xs, z, zs, rfl, rfl, hH, hb, hz, q⟩ := h
  cases rx
  obtain ⟨u, rfl, ru⟩ := rv.one
  obtain ⟨b, ws, its2, n2, rfl, b2, r2, e2, z2⟩ := list_at hK I hb
  cases ru
  obtain ⟨z1, its, n, r, hl, e1⟩ := I.lstM hH
  have l2 := r2.length
  have lb := b2.len
  have hsz : its.toArray.size + its2.toArray.size ≤ sizeLine := by rw [List.size_toArray, List.size_toArray]; omega
  refine call_meets F.slot_list_extend ⟨_, e1, rfl⟩ F.entry_list_extend (F.args_list_extend_2 _ _)
    (AutoSeq1.list_extend_list_list_0 l its.toArray n b its2.toArray n2 (by rw [notLongL hsz, Bool.and_false]; exact Bool.false_ne_true) (by rw [List.size_toArray]; omega) (by omega)) ⟨e1, e2, ?_⟩
  exact ⟨.non, _, I.lset (its' := its ++ its2) hH e1 (by simp) (r.append r2) (by rw [List.length_append]; omega), rfl, q ws b2⟩
theorem de_extend (hK : L.K = X.K) (ho : PE X o (tVar i)) (he : PE X e (tE L t)) (hs : starEach [e] X.env = (false, eval e X.env) :: starEach [] X.env := by rfl) (hbase : attributeBase o "extend" X.env (eval o X.env) = eval o X.env := by rfl)
    (hfew : ((backTo cpos (starEach [e] X.env)).all (fun x => !x.1) && (backToKw cpos (keywordEach [] X.env)).all (fun x => x.1.isSome) && decide ([e].length + ([] : List Keyword).length + (if ([] : List Keyword).isEmpty then 0 else 1) < 30)) = true := by rfl)
    (hline : (apos.endLine == cpos.line) = true := by rfl) (hpl : (backTo cpos (starEach [] X.env)).any (·.1) = false := by rfl) : PE X (.Call (.Attribute o "extend" apos) [e] [] cpos) (tE L (dExtend i t)) :=
  (pe_bm PySem.F.plainAttrs_list PySem.F.slot_list_extend PySem.F.type_list_extend (mr_of (m_extend hK)) ho (pa_cons he pa_nil hs) hbase hfew hline hs hpl).less fun σ H Q' q => by
    obtain ⟨ρ, Q, r, ⟨⟨ys, ey⟩, q⟩, fin⟩ := q
    obtain ⟨l, vs, hi, hl, _⟩ := r.getO ey
    refine ⟨_, hi, own_ty (pins := []) hl, ρ, _, r, q, fun v H1 s ρ1 go r1 hv q1 => ?_⟩
    obtain ⟨zs, xs, rfl, ex, hz, q2⟩ := q1
    obtain ⟨l', ws, hi', hl', hb, _⟩ := r1.getO ex
    rw [hi] at hi'; cases hi'
    refine ⟨l, ws, v, zs, rfl, rfl, hl', Bk.of hv, by rw [hb.len]; exact hz, fun us hu => ?_⟩
    obtain ⟨r2, k2⟩ := r1.put ex hi hl' (hb.app hu)
    exact fin .non _ (.d .none) _ (go.put ey ex hi hl') r2 .non q2
def dInsert (i : Nat) (t t2 : TEd) : TEd := fun ρ Q => (∃ ys, ρ[i]? = some (.own ys)) ∧ t ρ fun s ρ1 => t2 ρ1 fun s2 ρ2 => ∃ j x xs, s = .d (.int j) ∧ s2 = .d x ∧ ρ2[i]? = some (.own xs) ∧ xs.length < sizeLine ∧ 0 ≤ j ∧ j < 2 ^ 62 ∧ Q (.d .none) (ρ2.set i (.own (xs.take j.toNat ++ [x] ++ xs.drop j.toNat)))
end
end GB

namespace GB
open PySem PySem.Spec PyProof.Rows L2

/-! the draws' store: a dict of one list and one int, known by name alone outside of the draws -/
def Shy : HO → Prop
  | .lst _ => True
  | .dK _ => True
  | .dT _ => True
  | .ext _ => True
  | _ => False
theorem swap_inv {X : Cx} {pins : List (Addr × Obj)} {σ : L2.St} {H : Hp} {s : Shared} (I : Inv X pins σ H s) {a : Addr} {u v : HO} (h : H a = some u) (l : Shy u) (new : ObjOk X.prog X.w (upd H a v) s.heap a v) : Inv X pins σ (upd H a v) s := by
  have nt : ∀ c xs, H c = some (.tup xs) → c ≠ a := fun c xs q z => by rw [z, h] at q; cases q; exact l
  have no : ∀ c y, H c = some (.own y) → c ≠ a := fun c y q z => by rw [z, h] at q; cases q; exact l
  have nf : ∀ c o' u', H c = some (.frz o' u') → c ≠ a := fun c o' u' q z => by rw [z, h] at q; cases q; exact l
  have nb : ∀ c ps, H c = some (.tbl ps) → c ≠ a := fun c ps q z => by rw [z, h] at q; cases q; exact l
  have un : Un X.fs [] H (upd H a v) s.heap s.heap := by
    refine ⟨fun b ob q _ _ _ => q, fun b ob q _ _ _ => ⟨ob.slots, q⟩, fun b ob q n _ => ?_, fun b ob q _ => ⟨ob, q⟩, fun b xs q => ?_, fun b ob xs q => ?_, fun b ps q => ⟨#[], ?_⟩⟩
    · rw [upd_ne (fun z => by rw [z, h] at n; cases n)]; exact n
    · rw [upd_ne (nt _ _ q)]; exact q
    · rw [upd_ne (nf _ _ _ q)]; exact q
    · rw [upd_ne (nb _ _ q), q]; simp
  have hok : HOk X.prog X.w (upd H a v) s.heap := fun b z q => by
    by_cases hb : b = a
    · subst hb
      rw [upd_same] at q; cases q
      exact new
    · rw [upd_ne hb] at q
      refine (I.hok b z q).stay (fun _ _ _ z => z) (fun c q => ?_) fun c xs q => ?_
      · rw [upd_ne (no _ _ q)]; exact q
      · rw [upd_ne (nt _ _ q)]; exact q
  exact I.un (t' := s.toks) un hok
/-- the store's dict, the list's place in it -/
def kvJ (nd ns : Str) (l : Addr) (st : Int) : List (Key × V) := [(.inr nd, .ref l), (.inr ns, .int st)]
def hoD (P : Program) (w : World) (nd ns : Str) (a l : Addr) : HO := .ext fun h => ∃ st : Int, (kvJ nd ns l st).length ≤ sizeLine ∧ (a == sysModules) = false ∧ ∃ vs, KV (kvJ nd ns l st) vs ∧ h.DictOf (mixKind P w) a vs
def hoL (l : Addr) : HO := .ext fun h => ∃ is : List Int, is.length ≤ sizeLine ∧ ∃ (its : List Value) (n : Nat), Vals (is.map V.int) its ∧ h.get? l = some { cls := .type "list", data := .seq its.toArray n }
section
variable {P : Program} {w : World} {nd ns : Str} {a l : Addr} {H : Hp} {h : Heap}
theorem hoD_ok {st : Int} (q : ObjOk P w H h a (.dK (kvJ nd ns l st))) : ObjOk P w H h a (hoD P w nd ns a l) := by
  obtain ⟨z, hs, vs, r, o, es, ep, e, c⟩ := q
  refine ⟨⟨st, z, hs, vs, r, o, es, ep, e, c⟩, ⟨o, e⟩, fun h1 h2 ⟨st', z', hs', vs', r', o', es', ep', e', c'⟩ k => ⟨st', z', hs', vs', r', o', es', ep', k _ e', c'⟩⟩
theorem hoL_ok {is : List Int} (q : ObjOk P w H h l (.lst (is.map V.int))) : ObjOk P w H h l (hoL l) := by
  obtain ⟨z, its, n, r, e⟩ := q
  rw [List.length_map] at z
  exact ⟨⟨is, z, its, n, r, e⟩, ⟨_, e⟩, fun h1 h2 ⟨is', z', its', n', r', e'⟩ k => ⟨is', z', its', n', r', k _ e'⟩⟩
end
/-- the store's fact -/
def JarOk (P : Program) (w : World) (nd ns : Str) (a : Addr) (H : Hp) : Prop := ∃ l, H a = some (hoD P w nd ns a l) ∧ H l = some (hoL l) ∧ l ≠ a
theorem jar_keep {P : Program} {w : World} {nd ns : Str} : ∀ a H H', Keep H H' → JarOk P w nd ns a H → JarOk P w nd ns a H' := fun a H H' k ⟨l, h1, h2, h3⟩ => ⟨l, k _ _ h1 trivial, k _ _ h2 trivial, h3⟩
section
variable {X : Cx} {nd ns : Str} {sts : List Stmt} {t : TS}
/-- a body that works on the store: opened at its begin, closed where it returns -/
def tOpen (P : Program) (w : World) (nd ns : Str) (t : TS) : TS := fun D σ H => ∃ a l, H a = some (hoD P w nd ns a l) ∧ H l = some (hoL l) ∧ l ≠ a ∧ ∀ (st : Int) (is : List Int),
  t { nx := fun _ _ => False, bk := fun _ _ => False, ct := fun _ _ => False, rt := fun v H' => (∃ (st' : Int) (is' : List Int), H' a = some (.dK (kvJ nd ns l st')) ∧ H' l = some (.lst (is'.map V.int))) ∧ D.rt v (upd (upd H' a (hoD P w nd ns a l)) l (hoL l)) } σ
    (upd (upd H a (.dK (kvJ nd ns l st))) l (.lst (is.map V.int)))
theorem close_inv {pins : List (Addr × Obj)} {σ : L2.St} {H : Hp} {s : Shared} (I : Inv X pins σ H s) {a l : Addr} {st : Int} {is : List Int} (h1 : H a = some (.dK (kvJ nd ns l st))) (h2 : H l = some (.lst (is.map V.int))) :
    Inv X pins σ (upd (upd H a (hoD X.prog X.w nd ns a l)) l (hoL l)) s := by
  have ne : l ≠ a := fun z => by rw [z, h1] at h2; cases h2
  have I1 := swap_inv I (v := hoD X.prog X.w nd ns a l) h1 trivial (hoD_ok (st := st) ((I.hok a _ h1).stay (fun _ _ _ z => z) (fun c q => by rw [upd_ne (fun z => by rw [z, h1] at q; cases q)]; exact q) fun c xs q => by rw [upd_ne (fun z => by rw [z, h1] at q; cases q)]; exact q))
  have e2 : (upd H a (hoD X.prog X.w nd ns a l)) l = some (.lst (is.map V.int)) := by rw [upd_ne ne]; exact h2
  exact swap_inv I1 (v := hoL l) e2 trivial (hoL_ok (is := is) ((I1.hok l _ e2).stay (fun _ _ _ z => z) (fun c q => by rw [upd_ne (fun z => by rw [z, e2] at q; cases q)]; exact q) fun c xs q => by rw [upd_ne (fun z => by rw [z, e2] at q; cases q)]; exact q))
theorem pss_open (h : PSs X sts t) : PSs X sts (tOpen X.prog X.w nd ns t) := by
  constructor
  intro pins s σ H D I q
  obtain ⟨a, l, ha, hl, ne, q⟩ := q
  obtain ⟨⟨st, z1, z2, vs, z3, o, es, ep, z4, z5⟩, _⟩ := I.hok a _ ha
  have I1 := swap_inv I (v := .dK (kvJ nd ns l st)) ha trivial ⟨z1, z2, vs, z3, o, es, ep, z4, z5⟩
  have e2 : (upd H a (.dK (kvJ nd ns l st))) l = some (hoL l) := by rw [upd_ne ne]; exact hl
  obtain ⟨⟨is, y1, its, n, y2, y3⟩, _⟩ := I1.hok l _ e2
  have I2 := swap_inv I1 (v := .lst (is.map V.int)) e2 trivial ⟨by rw [List.length_map]; exact y1, its, n, y2, y3⟩
  refine thn (h.run pins s σ _ _ I2 (q st is)) fun f s1 z => ?_
  match f, z with
  | .next, ⟨_, _, _, z⟩ => exact z.elim
  | .brk, ⟨_, _, _, z⟩ => exact z.elim
  | .cont, ⟨_, _, _, z⟩ => exact z.elim
  | .ret u, ⟨v, σ', H', I', rv, ⟨st', is', h1, h2⟩, q'⟩ => exact ⟨v, σ', _, close_inv I' h1 h2, rv, q'⟩
/-- a body that makes the store and returns it -/
def tMake (P : Program) (w : World) (nd ns : Str) (t : TS) : TS := fun D σ H =>
  t { nx := fun _ _ => False, bk := fun _ _ => False, ct := fun _ _ => False, rt := fun v H' => ∃ (a l : Addr) (st' : Int) (is' : List Int), v = .ref a ∧ H' a = some (.dK (kvJ nd ns l st')) ∧ H' l = some (.lst (is'.map V.int)) ∧ D.rt v (upd (upd H' a (hoD P w nd ns a l)) l (hoL l)) } σ H
theorem pss_make (h : PSs X sts t) : PSs X sts (tMake X.prog X.w nd ns t) := by
  constructor
  intro pins s σ H D I q
  refine thn (h.run pins s σ _ _ I q) fun f s1 z => ?_
  match f, z with
  | .next, ⟨_, _, _, z⟩ => exact z.elim
  | .brk, ⟨_, _, _, z⟩ => exact z.elim
  | .cont, ⟨_, _, _, z⟩ => exact z.elim
  | .ret u, ⟨v, σ', H', I', rv, a, l, st', is', e, h1, h2, q'⟩ => exact ⟨v, σ', _, close_inv I' h1 h2, rv, q'⟩
end
end GB

namespace GB
open PySem PySem.Spec PyProof.Rows L2

/-! more assignments -/
def dAsg (t : TEd) (g : DTG) : TSd := fun D ρ => t ρ fun s ρ1 => ∃ x, s = .d x ∧ g x ρ1 D.nx
def dPar3 (i j l : Nat) (t1 t2 t3 : TEd) : TSd := fun D ρ => t1 ρ fun s1 ρ1 => t2 ρ1 fun s2 ρ2 => t3 ρ2 fun s3 ρ3 => D.nx (((ρ3.set i s1).set j s2).set l s3)
section
variable {X : Cx} {L : Lay} {pos : Pos} {tg e a b c : Expr} {t t1 t2 t3 : TEd} {g : DTG}
theorem ds_asg (he : PE X e (tE L t)) (hg : PG X tg (tG L g)) (hw : swappedStores [tg] e X.env = pure none := by rfl) (hs : swapsWithSole [tg] e pos.line X.env = pure false := by rfl) (h1 : (assignEach [tg] X.env).map (·.2) = [assign tg X.env] := by rfl) :
    PS X (.Assign [tg] e pos) (tS L (dAsg t g)) := (ps_asg he hg hs hw h1).less fun D σ H q => by
  obtain ⟨ρ, De, r, q, n1, _⟩ := q
  refine ⟨ρ, _, r, q, fun v H1 s ρ1 go r1 hv q1 => ?_⟩
  obtain ⟨x, rfl, q2⟩ := q1
  exact ⟨ρ1, x, _, r1, hv, q2, fun σ' ρ' r' n => n1 _ _ _ (go.keep r) r' n⟩
theorem ds_par3 {i j l : Nat} {x y z : Str} {px py pz pt : Pos} {kt k2 pt2} (gd : Good X) (hi : X.N[i]? = some x) (hj : X.N[j]? = some y) (hl : X.N[l]? = some z) (hij : i ≠ j) (hil : i ≠ l) (hjl : j ≠ l)
    (hx : X.env.scope.names.lookup x = some .local) (hy : X.env.scope.names.lookup y = some .local) (hz : X.env.scope.names.lookup z = some .local) (ha : PE X a (tE L t1)) (hb : PE X b (tE L t2)) (hc : PE X c (tE L t3))
    (hw : swappedStores [.Tuple [.Name x px, .Name y py, .Name z pz] kt pt] (.Tuple [a, b, c] k2 pt2) X.env = pure (some [x, y, z]))
    (h1 : starEach [a, b, c] X.env = (false, eval a X.env) :: starEach [b, c] X.env := by rfl) (h2 : starEach [b, c] X.env = (false, eval b X.env) :: starEach [c] X.env := by rfl) (h3 : starEach [c] X.env = (false, eval c X.env) :: starEach [] X.env := by rfl)
    (hs : swapsWithSole [.Tuple [.Name x px, .Name y py, .Name z pz] kt pt] (.Tuple [a, b, c] k2 pt2) pos.line X.env = pure false := by rfl) :
    PS X (.Assign [.Tuple [.Name x px, .Name y py, .Name z pz] kt pt] (.Tuple [a, b, c] k2 pt2) pos) (tS L (dPar3 i j l t1 t2 t3)) :=
  (ps_par3 gd.calm gd.nd hi hj hl hij hil hjl hx hy hz (pa_cons ha (pa_cons hb (pa_cons hc pa_nil h3) h2) h1) hw hs).less fun D σ H q => by
    obtain ⟨ρ, De, r, q, n1, _⟩ := q
    refine ⟨ρ, _, r, q, fun v H1 s ρ1 go r1 hv q1 => ⟨ρ1, _, r1, q1, fun w H2 s2 ρ2 go2 r2 hw q2 => ⟨ρ2, _, r2, q2, fun u H3 s3 ρ3 go3 r3 hu q3 => ⟨v, w, u, rfl, ?_⟩⟩⟩⟩
    have gg := (go.tr go2).tr go3
    have hv3 := hv.later r go r1 (go2.tr go3)
    have hw3 := hw.later r1 go2 r2 go3
    have ra := r3.put1 (j := i) (r.old gg) hv3
    have oa := (r.old gg).set (Hm := H1) (i := i) go.dom hv.there
    have rb := ra.put1 (j := j) oa hw3
    have ob := oa.set (Hm := H2) (i := j) go2.dom hw.there
    have rc := rb.put1 (j := l) ob hu
    exact n1 _ _ _ (gg.keep r) rc q3
/-! rows of numbers -/
def dListRng (t : TEd) : TEd := fun ρ Q => t ρ fun s ρ1 => ∃ n, s = .d (.int n) ∧ 0 ≤ n ∧ n ≤ 16777216 ∧ Q (.own (irow 0 n.toNat)) ρ1
theorem rg_br {K : PySem.W.Frag} {H : Hp} : ∀ (is : List Nat) (lo : Int), BrA K H (is.map fun i => V.int (lo + (i : Nat))) (is.map fun (i : Nat) => PyData.int (lo + i))
  | [], _ => .nil
  | _ :: is, lo => .cons (.int _) (rg_br is lo)
theorem de_listRng {p p2 pos pos2 : Pos} (gd : Good X) (hl : Gl X "list") (ml : X.mg "list" = none) (hg : Gl X "range") (hm : X.mg "range" = none) (he : PE X e (tE L t)) (na : starEach [e] X.env = (false, eval e X.env) :: starEach [] X.env := by rfl)
    (nb : starEach [.Call (.Name "range" p) [e] [] pos] X.env = (false, eval (.Call (.Name "range" p) [e] [] pos) X.env) :: starEach [] X.env := by rfl) : PE X (.Call (.Name "list" p2) [.Call (.Name "range" p) [e] [] pos] [] pos2) (tE L (dListRng t)) :=
  (pe_listRg gd.calm hl ml (prg_1 hg hm he na) nb).less fun σ H Q' q => by
    obtain ⟨ρ, Q, r, q, fin⟩ := q
    refine ⟨ρ, _, r, q, fun v H1 s ρ1 go r1 hv q1 => ?_⟩
    obtain ⟨n, rfl, h0, hn, q2⟩ := q1
    have hv : Br L.K H1 v (.int n) := hv
    cases hv
    refine ⟨n, rfl, ?_⟩
    · refine ⟨.of_le (by omega) hn (by omega) h0, fun p hp => ?_⟩
      have e : rgV 0 n = (List.range n.toNat).map fun i => V.int (0 + (i : Nat)) := by unfold rgV; rw [Int.sub_zero]
      exact fin _ _ (.own _) ρ1 (go.tr (Go.sm (same_new hp))) (r1.go (same_new hp)) (NR.vr (s := .own _) r1 (same_new hp) go ⟨p, _, rfl, hp, upd_same, by rw [e]; exact rg_br _ 0⟩) q2
end
/-! dicts as they stand -/
def dDict0 : TEd := fun ρ Q => Q (.d (.dict [])) ρ
def dDict1 (k : Str) (t : TEd) : TEd := fun ρ Q => t ρ fun s ρ1 => ∃ x, s = .d x ∧ Q (.d (.dict [(.str k, x)])) ρ1
section
variable {X : Cx} {L : Lay} {pos p2 : Pos} {e : Expr} {t : TEd} {σ : L2.St} {ρ : En} {H : Hp}
theorem Rel.fixNew {l : Addr} {u : HO} {o : Obj} (r : Rel L H σ ρ) (hn : H l = none) : Rel L (upd H l (.frz o u)) σ ρ ∧ Same H (upd H l (.frz o u)) := ⟨r.go (same_new hn), same_new hn⟩
theorem de_dict0 (gd : Good X) : PE X (.Dict [] [] pos) (tE L dDict0) := by
  constructor
  intro pins s σ H Q' I q
  obtain ⟨ρ, Q, r, q, fin⟩ := q
  refine thn (pe_dnewK.run pins s σ H (fun v H1 => ∃ p, v = .ref p ∧ H p = none ∧ H1 = upd H p (.dK [])) I fun p hp => ⟨p, rfl, hp, rfl⟩) fun u s1 z => ?_
  obtain ⟨v, H1, I1, rv, p, rfl, hp, rfl⟩ := z
  obtain ⟨o, I2⟩ := fix_inv I1 upd_same trivial
  rw [upd_upd] at I2
  obtain ⟨r2, sm⟩ := r.fixNew (u := .dK []) (o := o) hp
  exact ⟨.ref p, _, I2, rv, fin _ _ (.d (.dict [])) ρ (Go.sm sm) r2 (.dct upd_same rfl .nil) q⟩
theorem de_dict1 {k : Str} {j : Nat} (gd : Good X) (h : PE X e (tE L t)) : PE X (.Dict [some (.Constant (.str k) j p2)] [e] pos) (tE L (dDict1 k t)) := by
  constructor
  intro pins s σ H Q' I q
  obtain ⟨ρ, Q, r, q, fin⟩ := q
  have core := (pe_disp (pos := pos) (pps_cons (pos := pos) (pe_str (x := k) (j := j) (pos := p2)) h pps_nil) rfl rfl (by simp) (by simp)).run pins s σ H
    (fun v H1 => ∃ p w x ρ' H2, v = .ref p ∧ H p = none ∧ H1 = upd H2 p (.dK [(.inr k, w)]) ∧ H2 p = some (.dK []) ∧ Go σ ρ ρ' (upd H p (.dK [])) H2 ∧ Rel L H2 σ ρ' ∧ Br L.K H2 w x ∧ Q (.d (.dict [(.str k, x)])) ρ') I fun p hp => ?_
  · refine thn core fun u s1 z => ?_
    obtain ⟨v, H1, I1, rv, p, w, x, ρ', H2, rfl, hp, rfl, h2, go, r2, hw, q2⟩ := z
    obtain ⟨o, I2⟩ := fix_inv I1 upd_same trivial
    rw [upd_upd] at I2
    have kp : Keep H2 (upd H2 p (.frz o (.dK [(.inr k, w)]))) := keep_put h2 trivial
    have h0 : L.H0 p = none := r.same.free hp
    have out : ∀ (i : Nat) (ys : List PyData), ρ'[i]? = some (.own ys) → σ[i]? ≠ some (some (.ref p)) := fun i ys e z => by
      obtain ⟨l', vs', q1, q2, _⟩ := r2.getO e
      rw [z] at q1; cases q1
      rw [h2] at q2; cases q2
    have rel : Rel L (upd H2 p (.frz o (.dK [(.inr k, w)]))) σ ρ' := by
      refine ⟨r2.len, fun j z e => ?_, r2.sep, same_fix r2.same h0⟩
      have q := r2.at' j z e
      cases z with
      | un => trivial
      | d x => obtain ⟨v, e2, q⟩ := q; exact ⟨v, e2, Br.keep kp _ _ q⟩
      | own zs =>
        obtain ⟨v, e2, q⟩ := q
        refine ⟨v, e2, q.keep kp fun m em => upd_ne fun z => ?_⟩
        subst em; subst z
        obtain ⟨w', e4, _⟩ := r2.get e
        rw [e4] at e2
        refine out j zs e ?_
        rw [e4]
        exact congrArg some (show w' = some (V.ref m) from e2)
      | ob t => obtain ⟨a, e2, q⟩ := q; exact ⟨a, e2, L.J.keep _ _ _ _ kp q⟩
    refine ⟨.ref p, _, I2, rv, fin _ _ (.d (.dict [(.str k, x)])) ρ' ⟨fun a o' q n => ?_, go.less, fun a q => ?_⟩ rel (.dct upd_same rfl (.cons (Br.keep kp _ _ hw) .nil)) q2⟩
    · have ne : a ≠ p := fun z => by rw [z, hp] at q; cases q
      rw [upd_ne ne]
      exact go.stay a o' (by rw [upd_ne ne]; exact q) n
    · by_cases z : a = p
      · rw [z]; exact hp
      · rw [upd_ne z] at q
        have := go.dom a q
        rw [upd_ne z] at this; exact this
  · refine ⟨ρ, _, r.go (same_new hp), q, fun w H2 s ρ' go r2 hw q2 => ?_⟩
    obtain ⟨x, rfl, q3⟩ := q2
    have h2 : H2 p = some (.dK []) := go.stay p _ upd_same fun i ys e z => by
      obtain ⟨l', vs', q1, q2, _⟩ := r.getO e
      rw [z] at q1; cases q1
      rw [hp] at q2; cases q2
    exact ⟨h2, [(.inr k, w)], rfl, by simp, p, w, x, ρ', H2, rfl, hp, rfl, h2, go, r2, hw, q3⟩
end
end GB

namespace GB
open PySem PySem.Spec PyProof.Rows L2

/-! the draws' store: a dict with one list of ints and some ints; closed (known by name alone) outside of each step -/
def KvOk (nd : Str) (ks : List Str) (l : Addr) (kvs : List (Key × V)) : Prop := kvs.length ≤ 15 ∧ valV kvs (.inr nd) = some (.ref l) ∧ ∀ k ∈ ks, ∃ n : Int, valV kvs (.inr k) = some (.int n)
def hoQ (P : Program) (w : World) (nd : Str) (ks : List Str) (a l : Addr) : HO := .ext fun h => ∃ kvs, KvOk nd ks l kvs ∧ (a == sysModules) = false ∧ ∃ vs, KV kvs vs ∧ h.DictOf (mixKind P w) a vs
def StoOk (P : Program) (w : World) (nd : Str) (ks : List Str) (a : Addr) (H : Hp) : Prop := ∃ l, H a = some (hoQ P w nd ks a l) ∧ H l = some (hoL l) ∧ l ≠ a
theorem sto_keep {P : Program} {w : World} {nd : Str} {ks : List Str} : ∀ a H H', Keep H H' → StoOk P w nd ks a H → StoOk P w nd ks a H' := fun a H H' k ⟨l, h1, h2, h3⟩ => ⟨l, k _ _ h1 trivial, k _ _ h2 trivial, h3⟩
theorem le_line {n : Nat} (h : n ≤ 15) : n ≤ sizeLine := Nat.le_trans h (by decide)
theorem hoQ_ok {P : Program} {w : World} {nd : Str} {ks : List Str} {a l : Addr} {H : Hp} {h : Heap} {kvs : List (Key × V)} (k : KvOk nd ks l kvs) (q : ObjOk P w H h a (.dK kvs)) : ObjOk P w H h a (hoQ P w nd ks a l) := by
  obtain ⟨z, hs, vs, r, o, es, ep, e, c⟩ := q
  refine ⟨⟨kvs, k, hs, vs, r, o, es, ep, e, c⟩, ⟨o, e⟩, fun h1 h2 ⟨kvs', k', hs', vs', r', o', es', ep', e', c'⟩ kk => ⟨kvs', k', hs', vs', r', o', es', ep', kk _ e', c'⟩⟩
def opn (H : Hp) (a l : Addr) (kvs : List (Key × V)) (is : List Int) : Hp := upd (upd H a (.dK kvs)) l (.lst (is.map V.int))
def cls (P : Program) (w : World) (nd : Str) (ks : List Str) (H : Hp) (a l : Addr) : Hp := upd (upd H a (hoQ P w nd ks a l)) l (hoL l)
/-- the store stands open at a, l -/
structure Opn (nd : Str) (ks : List Str) (H : Hp) (a l : Addr) (kvs : List (Key × V)) (is : List Int) : Prop where
  ha : H a = some (.dK kvs)
  hl : H l = some (.lst (is.map V.int))
  kv : KvOk nd ks l kvs
theorem Opn.ne {nd : Str} {ks : List Str} {H : Hp} {a l : Addr} {kvs : List (Key × V)} {is : List Int} (o : Opn nd ks H a l kvs is) : l ≠ a := fun z => by
  have h := o.hl
  rw [z, o.ha] at h; cases h
section
variable {X : Cx} {nd : Str} {ks : List Str} {e : Expr} {st : Stmt} {sts : List Stmt} {t : TE} {tt : TT} {ts : TS}
theorem close_of {pins : List (Addr × Obj)} {σ : L2.St} {H : Hp} {s : Shared} (I : Inv X pins σ H s) {a l : Addr} {kvs : List (Key × V)} {is : List Int} (o : Opn nd ks H a l kvs is) : Inv X pins σ (cls X.prog X.w nd ks H a l) s := by
  have h1 := o.ha
  have h2 := o.hl
  have ne := o.ne
  have I1 := swap_inv I (v := hoQ X.prog X.w nd ks a l) h1 trivial (hoQ_ok o.kv ((I.hok a _ h1).stay (fun _ _ _ z => z) (fun c q => by rw [upd_ne (fun z => by rw [z, h1] at q; cases q)]; exact q) fun c xs q => by rw [upd_ne (fun z => by rw [z, h1] at q; cases q)]; exact q))
  have e2 : (upd H a (hoQ X.prog X.w nd ks a l)) l = some (.lst (is.map V.int)) := by rw [upd_ne ne]; exact h2
  exact swap_inv I1 (v := hoL l) e2 trivial (hoL_ok (is := is) ((I1.hok l _ e2).stay (fun _ _ _ z => z) (fun c q => by rw [upd_ne (fun z => by rw [z, e2] at q; cases q)]; exact q) fun c xs q => by rw [upd_ne (fun z => by rw [z, e2] at q; cases q)]; exact q))
theorem open_of {pins : List (Addr × Obj)} {σ : L2.St} {H : Hp} {s : Shared} (I : Inv X pins σ H s) {a l : Addr} (ha : H a = some (hoQ X.prog X.w nd ks a l)) (hl : H l = some (hoL l)) (ne : l ≠ a) :
    ∃ kvs is, KvOk nd ks l kvs ∧ is.length ≤ sizeLine ∧ Inv X pins σ (opn H a l kvs is) s := by
  obtain ⟨⟨kvs, z1, z2, vs, z3, o, es, ep, z4, z5⟩, _⟩ := I.hok a _ ha
  have I1 := swap_inv I (v := .dK kvs) ha trivial ⟨le_line z1.1, z2, vs, z3, o, es, ep, z4, z5⟩
  have e2 : (upd H a (.dK kvs)) l = some (hoL l) := by rw [upd_ne ne]; exact hl
  obtain ⟨⟨is, y1, its, n, y2, y3⟩, _⟩ := I1.hok l _ e2
  have I2 := swap_inv I1 (v := .lst (is.map V.int)) e2 trivial ⟨by rw [List.length_map]; exact y1, its, n, y2, y3⟩
  exact ⟨kvs, is, z1, y1, I2⟩
/-- what is read of an opened store -/
def Opens (P : Program) (w : World) (nd : Str) (ks : List Str) (H : Hp) (go : Hp → Addr → Addr → List (Key × V) → List Int → Prop) : Prop :=
  ∃ a l, H a = some (hoQ P w nd ks a l) ∧ H l = some (hoL l) ∧ l ≠ a ∧ ∀ kvs is, is.length ≤ sizeLine → Opn nd ks (opn H a l kvs is) a l kvs is → go (opn H a l kvs is) a l kvs is
theorem opens_inv {pins : List (Addr × Obj)} {σ : L2.St} {H : Hp} {s : Shared} (I : Inv X pins σ H s) {go : Hp → Addr → Addr → List (Key × V) → List Int → Prop} (h : Opens X.prog X.w nd ks H go) :
    ∃ a l kvs is, Inv X pins σ (opn H a l kvs is) s ∧ go (opn H a l kvs is) a l kvs is := by
  obtain ⟨a, l, ha, hl, ne, q⟩ := h
  obtain ⟨kvs, is, k, z, I2⟩ := open_of I ha hl ne
  exact ⟨a, l, kvs, is, I2, q kvs is z ⟨by unfold opn; rw [upd_ne (Ne.symm ne), upd_same], upd_same, k⟩⟩
theorem pe_open (h : PE X e t) : PE X e (fun σ H Q => Opens X.prog X.w nd ks H fun H1 _ _ _ _ => t σ H1 Q) := ⟨fun pins s σ H Q I q => by
  obtain ⟨a, l, kvs, is, I2, q⟩ := opens_inv I q
  exact h.run pins s σ _ Q I2 q⟩
theorem pe_opened (h : PE X e t) : PE X e (fun σ H Q => t σ H fun v H1 => Opens X.prog X.w nd ks H1 fun H2 _ _ _ _ => Q v H2) := ⟨fun pins s σ H Q I q => by
  refine thn (h.run pins s σ H _ I q) fun u s1 z => ?_
  obtain ⟨v, H1, I1, rv, q1⟩ := z
  obtain ⟨a, l, kvs, is, I2, q2⟩ := opens_inv I1 q1
  exact ⟨v, _, I2, rv, q2⟩⟩
theorem pe_closed (h : PE X e t) : PE X e (fun σ H Q => t σ H fun v H1 => ∃ a l kvs is, Opn nd ks H1 a l kvs is ∧ Q v (cls X.prog X.w nd ks H1 a l)) := ⟨fun pins s σ H Q I q => by
  refine thn (h.run pins s σ H _ I q) fun u s1 z => ?_
  obtain ⟨v, H1, I1, rv, a, l, kvs, is, o, q2⟩ := z
  exact ⟨v, _, close_of I1 o, rv, q2⟩⟩
theorem pss_closing (h : PSs X sts ts) : PSs X sts (fun D σ H => ∃ a l kvs is, Opn nd ks H a l kvs is ∧ ts D σ (cls X.prog X.w nd ks H a l)) := ⟨fun pins s σ H D I q => by
  obtain ⟨a, l, kvs, is, o, q⟩ := q
  exact h.run pins s σ _ D (close_of I o) q⟩
theorem ps_open (h : PS X st ts) : PS X st (fun D σ H => Opens X.prog X.w nd ks H fun H1 _ _ _ _ => ts D σ H1) := ⟨fun pins s σ H D I q => by
  obtain ⟨a, l, kvs, is, I2, q⟩ := opens_inv I q
  exact h.run pins s σ _ D I2 q⟩
theorem ps_closed (h : PS X st ts) : PS X st (fun D σ H => ts { D with nx := fun σ1 H1 => ∃ a l kvs is, Opn nd ks H1 a l kvs is ∧ D.nx σ1 (cls X.prog X.w nd ks H1 a l) } σ H) := ⟨fun pins s σ H D I q => by
  refine thn (h.run pins s σ H _ I q) fun f s1 z => ?_
  match f, z with
  | .next, ⟨σ1, H1, I1, a, l, kvs, is, o, q2⟩ => exact ⟨σ1, _, close_of I1 o, q2⟩
  | .brk, z => exact z
  | .cont, z => exact z
  | .ret u, z => exact z⟩
end
/-- closed again: the heap as it was, but for what is new -/
theorem cls_opn {P : Program} {w : World} {nd : Str} {ks : List Str} {H H1 : Hp} {a l : Addr} (ha : H a = some (hoQ P w nd ks a l)) (hl : H l = some (hoL l)) (h : ∀ b, b ≠ a → b ≠ l → H1 b = H b) : cls P w nd ks H1 a l = H := by
  funext b
  unfold cls
  by_cases h1 : b = l
  · subst h1; rw [upd_same, hl]
  · rw [upd_ne h1]
    by_cases h2 : b = a
    · subst h2; rw [upd_same, ha]
    · rw [upd_ne h2]; exact h b h2 h1
theorem opn_off {H : Hp} {a l : Addr} {kvs : List (Key × V)} {is : List Int} {b : Addr} (h1 : b ≠ a) (h2 : b ≠ l) : opn H a l kvs is b = H b := by unfold opn; rw [upd_ne h2, upd_ne h1]
end GB

namespace GB
open PySem PySem.Spec PyProof.Rows L2

theorem ints_lay : ∀ is : List Int, PyData.canLayAll0 (is.map PyData.int) = true
  | [] => rfl
  | i :: is => by simp [PyData.canLayAll0, PyData.canLay0, ints_lay is]
theorem ints_deep : ∀ is : List Int, PyData.depthAll (is.map PyData.int) ≤ 1
  | [] => by simp [PyData.depthAll]
  | i :: is => by have := ints_deep is; simp [PyData.depthAll, PyData.depth]; omega
theorem ints_shaped (is : List Int) : SeqAt.shaped (.list (is.map PyData.int)) = true := by
  have := ints_deep is
  simp [SeqAt.shaped, PyData.canLay0, PyData.depth, ints_lay is]; omega
theorem ints_dp {K : PySem.W.Frag} {H : Hp} : ∀ is : List Int, DpAll K H (is.map V.int) (is.map PyData.int)
  | [] => .nil
  | _ :: is => .cons (.int _) (ints_dp is)
theorem ints_empty : ∀ is : List Int, PyData.eqv (.list (is.map PyData.int)) (.list []) = is.isEmpty
  | [] => rfl
  | _ :: _ => rfl
/-- a number of the store -/
def dJInt (i : Nat) : TEd := fun ρ Q => ρ[i]? = some (.ob .jar) ∧ ∀ n : Int, Q (.d (.int n)) ρ
/-- a number put into the store -/
def dJPut (i : Nat) (t : TEd) : TSd := fun D ρ => t ρ fun s ρ1 => ∃ n, s = .d (.int n) ∧ ρ1[i]? = some (.ob .jar) ∧ D.nx ρ1
/-- a digit of the store's last (first) number, where there is one -/
def dJPop (i iw im : Nat) (tb : TSd) : TSd := fun D ρ => ρ[i]? = some (.ob .jar) ∧ (∃ m : Int, ρ[im]? = some (.d (.int m)) ∧ 0 < m ∧ m < 1073741824) ∧ iw < ρ.length ∧ iw ≠ i ∧ iw ≠ im ∧ (∀ n : Int, tb { D with nx := fun _ => False } (ρ.set iw (.d (.int n)))) ∧ D.nx ρ
section
variable {X : Cx} {L : Lay} {nd : Str} {ks : List Str} {e o o1 o2 o3 : Expr} {pos p1 p2 : Pos} {i j : Nat} {t : TEd} {H : Hp} {σ : L2.St} {ρ : En}
theorem de_jint {k : Str} (gd : Good X) (hJ : ∀ a H, L.J.ok .jar a H → StoOk X.prog X.w nd ks a H) (hk : k ∈ ks) (ho : PE X o (tVar i)) (hs : NoSl (.Constant (.str k) j p1) := by intro _ _; rfl) : PE X (.Subscript o (.Constant (.str k) j p1) pos) (tE L (dJInt i)) :=
  (pe_open (nd := nd) (ks := ks) (pe_closed (nd := nd) (ks := ks) (pe_dget (by have := gd.un; omega) ho pe_str hs))).less fun σ H Q' q => by
    obtain ⟨ρ, Q, r, ⟨ej, q⟩, fin⟩ := q
    obtain ⟨o, e2, a, rfl, ja⟩ := r.get ej
    obtain ⟨l, ha, hl, ne⟩ := hJ a H ja
    refine ⟨a, l, ha, hl, ne, fun kvs is z op => ?_⟩
    obtain ⟨n, hn⟩ := op.kv.2.2 k hk
    refine ⟨.ref a, e2, a, .int n, rfl, ?_, a, l, kvs, is, op, ?_⟩
    · rw [← hn]; exact DGet.k (k := .inr k) op.ha
    · rw [cls_opn ha hl fun b h1 h2 => opn_off h1 h2]
      exact fin _ _ (.d (.int n)) ρ Go.rf r (.int n) (q n)
theorem kv_put {l : Addr} {kvs : List (Key × V)} {k : Str} {n : Int} (h : KvOk nd ks l kvs) (hk : k ∈ ks) (hn : k ≠ nd) : KvOk nd ks l (putK kvs (.inr k) (.int n)) := by
  obtain ⟨h1, h2, h3⟩ := h
  obtain ⟨n0, e0⟩ := h3 k hk
  refine ⟨?_, ?_, fun k' hk' => ?_⟩
  · unfold putK; rw [if_pos (by rw [valV_any, e0]; rfl), List.length_map]; exact h1
  · rw [valV_put, if_neg (fun z => by cases z; exact hn rfl)]; exact h2
  · rw [valV_put]
    split
    · exact ⟨n, rfl⟩
    · exact h3 k' hk'
theorem ds_jput {k : Str} {v : Expr} (gd : Good X) (hJ : ∀ a H, L.J.ok .jar a H → StoOk X.prog X.w nd ks a H) (hk : k ∈ ks) (hn : k ≠ nd) (ho : PE X o (tVar i)) (hv : PE X v (tE L t))
    (hw : swapsWith v (some (.Subscript o (.Constant (.str k) j p1) p2)) pos.line X.env = pure false := by rfl) (hs : NoSl (.Constant (.str k) j p1) := by intro _ _; rfl) :
    PS X (.Assign [.Subscript o (.Constant (.str k) j p1) p2] v pos) (tS L (dJPut i t)) :=
  (ps_closed (nd := nd) (ks := ks) (ps_dput (by have := gd.un; omega) ho pe_str (pe_opened (nd := nd) (ks := ks) hv) hw)).less fun D σ H q => by
    obtain ⟨ρ, De, r, q, n1, _⟩ := q
    refine ⟨ρ, _, r, q, fun v H1 s ρ1 go r1 hv q1 => ?_⟩
    obtain ⟨n, rfl, ej, q2⟩ := q1
    have hv : Br L.K H1 v (.int n) := hv
    cases hv
    obtain ⟨o, e2, a, rfl, ja⟩ := r1.get ej
    obtain ⟨l, ha, hl, ne⟩ := hJ a H1 ja
    refine ⟨a, l, ha, hl, ne, fun kvs is z op => ⟨.ref a, e2, a, _, rfl, DPut.k (k := .inr k) op.ha (Nat.lt_of_le_of_lt op.kv.1 (by decide)), a, l, _, is, ⟨upd_same, by rw [upd_ne op.ne]; exact op.hl, kv_put op.kv hk hn⟩, ?_⟩⟩
    rw [cls_opn ha hl fun b h1 h2 => by rw [upd_ne h1]; exact opn_off h1 h2]
    exact n1 _ _ _ (go.keep r) r1 q2
/-- what comes behind the digit -/
theorem jpop_end {P : Program} {w : World} (r : Rel L H σ ρ) {a l p : Addr} {kvs : List (Key × V)} {is js : List Int} {iw : Nat} {n : Int} {H3 : Hp} {tb : TSd} {D : Ends} {De : EndsD} (ha : H a = some (hoQ P w nd ks a l)) (hl : H l = some (hoL l)) (op : Opn nd ks (opn H a l kvs is) a l kvs is) (hp : opn H a l kvs is p = none)
    (h3 : H3 = upd (upd (opn H a l kvs is) p (.lst [])) l (.lst (js.map V.int))) (qn : tb { De with nx := fun _ => False } (ρ.set iw (.d (.int n))))
    (n2 : ∀ v H' s, Keep H H' → Same L.H0 H' → RR L H' v s → De.rt s → D.rt v H') (n3 : ∀ σ' H' ρ', Keep H H' → Rel L H' σ' ρ' → De.bk ρ' → D.bk σ' H') (n4 : ∀ σ' H' ρ', Keep H H' → Rel L H' σ' ρ' → De.ct ρ' → D.ct σ' H') (nx : L2.St → Hp → Prop) :
    ∃ a l kvs is, Opn nd ks H3 a l kvs is ∧ tS L tb { D with nx := nx } (σ.set iw (some (.int n))) (cls P w nd ks H3 a l) := by
  have pa : p ≠ a := fun z => by rw [z, op.ha] at hp; cases hp
  have pl : p ≠ l := fun z => by rw [z, op.hl] at hp; cases hp
  have hp0 : H p = none := (opn_off pa pl).symm.trans hp
  refine ⟨a, l, kvs, js, ⟨?_, ?_, op.kv⟩, ?_⟩
  · rw [h3, upd_ne (Ne.symm op.ne), upd_ne (Ne.symm pa)]; exact op.ha
  · rw [h3, upd_same]
  · have ec : cls P w nd ks H3 a l = upd H p (.lst []) := cls_opn (H := upd H p (.lst [])) (by rw [upd_ne (Ne.symm pa)]; exact ha) (by rw [upd_ne (Ne.symm pl)]; exact hl) fun b h1 h2 => by
      rw [h3, upd_ne h2]
      by_cases hb : b = p
      · subst hb; rw [upd_same, upd_same]
      · rw [upd_ne hb, upd_ne hb]; exact opn_off h1 h2
    have sm : Same H (upd H p (.lst [])) := same_new hp0
    have kp : Keep H (upd H p (.lst [])) := keep_of_same sm
    rw [ec]
    exact ⟨_, _, (r.go sm).setF (s := .d (.int n)) (.int n), qn, fun _ _ _ _ _ n => n.elim, fun v H' s k => n2 v H' s (kp.tr k), fun σ' H' ρ' k => n3 σ' H' ρ' (kp.tr k), fun σ' H' ρ' k => n4 σ' H' ρ' (kp.tr k)⟩
end
end GB

namespace GB
open PySem PySem.Spec PyProof.Rows L2

section
variable {X : Cx} {L : Lay} {nd x : Str} {ks : List Str} {o1 o2 o3 w1 m1 w2 m2 : Expr} {pos p1 p2 p3 p4 p5 p6 p7 p8 p9 p10 p11 p12 p13 p14 p15 p16 p17 p18 p19 p20 : Pos} {i j1 j2 j3 j4 j5 iw im : Nat} {rest : List Stmt} {tb : TSd}
/-- while there is a great number, a digit of the last one -/
theorem ds_jpop (gd : Good X) (hJ : ∀ a H, L.J.ok .jar a H → StoOk X.prog X.w nd ks a H) (hx : X.N[iw]? = some x) (hxl : X.env.scope.names.lookup x = some .local)
    (ho1 : PE X o1 (tVar i)) (ho2 : PE X o2 (tVar i)) (ho3 : PE X o3 (tVar i)) (hw1 : PE X w1 (tVar iw)) (hm1 : PE X m1 (tVar im)) (hw2 : PE X w2 (tVar iw)) (hm2 : PE X m2 (tVar im)) (hr : PSs X rest (tS L tb))
    (hn1 : NoSl (.Constant (.str nd) j1 p1) := by intro _ _; rfl) (hn2 : NoSl (.Constant (.str nd) j2 p6) := by intro _ _; rfl) (hn3 : NoSl (.Constant (.str nd) j3 p12) := by intro _ _; rfl)
    (hb1 : attributeBase (.Subscript o2 (.Constant (.str nd) j2 p6) p7) "pop" X.env (eval (.Subscript o2 (.Constant (.str nd) j2 p6) p7) X.env) = eval (.Subscript o2 (.Constant (.str nd) j2 p6) p7) X.env := by rfl) (li1 : (p8.endLine == p9.line) = true := by rfl)
    (hb2 : attributeBase (.Subscript o3 (.Constant (.str nd) j3 p12) p13) "append" X.env (eval (.Subscript o3 (.Constant (.str nd) j3 p12) p13) X.env) = eval (.Subscript o3 (.Constant (.str nd) j3 p12) p13) X.env := by rfl)
    (fw2 : ((backTo p16 (starEach [.BinOp w2 .FloorDiv m2 p15] X.env)).all (fun x => !x.1) && (backToKw p16 (keywordEach [] X.env)).all (fun x => x.1.isSome) && decide (([.BinOp w2 .FloorDiv m2 p15] : List Expr).length + ([] : List Keyword).length + (if ([] : List Keyword).isEmpty then 0 else 1) < 30)) = true := by rfl)
    (li2 : (p14.endLine == p16.line) = true := by rfl) (st2 : starEach [.BinOp w2 .FloorDiv m2 p15] X.env = (false, eval (.BinOp w2 .FloorDiv m2 p15) X.env) :: starEach [] X.env := by rfl) (pl2 : (backTo p16 (starEach [] X.env)).any (·.1) = false := by rfl)
    (sw1 : swapsWith (.Call (.Attribute (.Subscript o2 (.Constant (.str nd) j2 p6) p7) "pop" p8) [] [] p9) (some (.Name x p5)) p10.line X.env = pure false := by rfl)
    (sw2 : swapsWith (.Call (.Attribute (.Subscript o3 (.Constant (.str nd) j3 p12) p13) "append" p14) [.BinOp w2 .FloorDiv m2 p15] [] p16) none p17.line X.env = pure false := by rfl) :
    PS X (.If (.Compare (.Subscript o1 (.Constant (.str nd) j1 p1) p2) [.NotEq] [.List [] p3] p4)
      (.Assign [.Name x p5] (.Call (.Attribute (.Subscript o2 (.Constant (.str nd) j2 p6) p7) "pop" p8) [] [] p9) p10 ::
        .If (.Compare w1 [.GtE] [m1] p11) [.Expr (.Call (.Attribute (.Subscript o3 (.Constant (.str nd) j3 p12) p13) "append" p14) [.BinOp w2 .FloorDiv m2 p15] [] p16) p17] [] p18 :: rest) [] pos)
      (tS L (dJPop i iw im tb)) :=
  (ps_open (nd := nd) (ks := ks) (ps_closed (nd := nd) (ks := ks) (ps_if (pt_cmpR (op_neD (by have := gd.un; omega)) (pe_dget (by have := gd.un; omega) ho1 pe_str hn1) (pe_lst pa_nil) (nomark _))
    (pss_cons (ps_set (i := iw) gd.nd hx (.inl hxl) (pe_bm0 PySem.F.plainAttrs_list PySem.F.slot_list_pop PySem.F.type_list_pop mt_pop (pe_dget (by have := gd.un; omega) ho2 pe_str hn2) hb1 li1) sw1 (.inr hxl))
      (pss_cons (ps_if (pt_cmpR op_ge hw1 hm1 (nomark _)) (pss_one (ps_expr (pe_bm PySem.F.plainAttrs_list PySem.F.slot_list_append PySem.F.type_list_append mt_append (pe_dget (by have := gd.un; omega) ho3 pe_str hn3) (pa_cons (pe_op op_fdiv hw2 hm2) pa_nil st2) hb2 fw2 li2 st2 pl2) sw2)) pss_nil) (pss_closing (nd := nd) (ks := ks) hr))) pss_nil))).less fun D σ H q => by
    obtain ⟨ρ, De, r, ⟨ej, ⟨m, em, m0, m1⟩, hlen, hi, hm, qn, qx⟩, n1, n2, n3, n4⟩ := q
    obtain ⟨ov, e2, a, rfl, ja⟩ := r.get ej
    obtain ⟨vm, em2, bm⟩ := r.getD em
    cases bm
    obtain ⟨l, ha, hl, ne⟩ := hJ a H ja
    refine ⟨a, l, ha, hl, ne, fun kvs is z op => ?_⟩
    have rd : DGet (opn H a l kvs is) a (.str nd) (some (.ref l)) := by
      have q := DGet.k (k := .inr nd) op.ha
      rw [op.kv.2.1] at q; exact q
    refine ⟨.ref a, e2, a, .ref l, rfl, rd, Nat.zero_le _, fun p hp => ?_⟩
    have pa : p ≠ a := fun z => by rw [z, op.ha] at hp; cases hp
    have pl : p ≠ l := fun z => by rw [z, op.hl] at hp; cases hp
    refine ⟨.list (is.map .int), .list [], .lst (.inl (.inl (by rw [upd_ne (Ne.symm pl)]; exact op.hl))) (ints_dp is), .lst (.inl (.inl upd_same)) .nil, ints_shaped is, rfl, _, rfl, ?_⟩
    rw [ints_empty]
    have hl1 : (upd (opn H a l kvs is) p (.lst [])) l = some (.lst (is.map V.int)) := by rw [upd_ne (Ne.symm pl)]; exact op.hl
    have ha1 : (upd (opn H a l kvs is) p (.lst [])) a = some (.dK kvs) := by rw [upd_ne (Ne.symm pa)]; exact op.ha
    have rd2 : ∀ {H2 : Hp}, H2 a = some (.dK kvs) → DGet H2 a (.str nd) (some (.ref l)) := fun h => by
      have q := DGet.k (k := .inr nd) h
      rw [op.kv.2.1] at q; exact q
    cases is with
    | nil =>
      have hp0 : H p = none := (opn_off pa pl).symm.trans hp
      have sm : Same H (upd H p (.lst [])) := same_new hp0
      refine ⟨a, l, kvs, [], ⟨ha1, hl1, op.kv⟩, ?_⟩
      have ec : cls X.prog X.w nd ks (upd (opn H a l kvs []) p (.lst [])) a l = upd H p (.lst []) := cls_opn (H := upd H p (.lst [])) (by rw [upd_ne (Ne.symm pa)]; exact ha) (by rw [upd_ne (Ne.symm pl)]; exact hl) fun b h1 h2 => by
        by_cases hb : b = p
        · subst hb; rw [upd_same, upd_same]
        · rw [upd_ne hb, upd_ne hb]; exact opn_off h1 h2
      rw [ec]
      exact n1 _ _ _ (keep_of_same sm) (r.go sm) qx
    | cons y is =>
      have hne : (y :: is).map V.int ≠ [] := by simp
      have hlast : ((y :: is).map V.int)[((y :: is).map V.int).length - 1]? = some (.int ((y :: is).getLast (by simp))) := by
        rw [List.length_map, List.getElem?_map, ← List.getLast?_eq_getElem?, List.getLast?_eq_getLast (by simp)]; rfl
      refine ⟨.ref a, e2, ?_⟩
      refine ⟨a, .ref l, rfl, rd2 ha1, own_ty (pins := []) hl1, l, _, _, rfl, rfl, hl1, hlast, ?_⟩
      have ei : (σ.set iw (some (V.int ((y :: is).getLast (by simp)))))[i]? = some (some (.ref a)) := by
        rw [List.getElem?_set_ne hi]; exact e2
      have ew : (σ.set iw (some (V.int ((y :: is).getLast (by simp)))))[iw]? = some (some (V.int ((y :: is).getLast (by simp)))) := List.getElem?_set_self (by rw [r.len]; exact hlen)
      have emm : (σ.set iw (some (V.int ((y :: is).getLast (by simp)))))[im]? = some (some (.int m)) := by
        rw [List.getElem?_set_ne hm]; exact em2
      have dl : ((y :: is).map V.int).dropLast = ((y :: is).dropLast).map V.int := by rw [List.map_dropLast]
      have hl2 : (upd (upd (opn H a l kvs (y :: is)) p (.lst [])) l (.lst ((y :: is).map V.int).dropLast)) l = some (.lst (((y :: is).dropLast).map V.int)) := by rw [upd_same, dl]
      have ha2 : (upd (upd (opn H a l kvs (y :: is)) p (.lst [])) l (.lst ((y :: is).map V.int).dropLast)) a = some (.dK kvs) := by rw [upd_ne (Ne.symm op.ne)]; exact ha1
      refine ⟨_, ew, _, emm, _, m, rfl, rfl, _, rfl, ite2 (fun _ => ?_) fun _ => ?_⟩
      · refine ⟨.ref a, ei, a, .ref l, rfl, rd2 ha2, own_ty (pins := []) hl2, _, ew, _, emm, _, m, rfl, rfl, ⟨m0, m1⟩, l, _, _, rfl, rfl, hl2, ?_, ?_⟩
        · rw [List.length_map, List.length_dropLast]
          have : (y :: is).length ≤ sizeLine := z
          have : 0 < (y :: is).length := by simp
          omega
        · refine jpop_end (js := (y :: is).dropLast ++ [(y :: is).getLast (by simp) / m]) r ha hl op hp ?_ (qn _) n2 n3 n4 _
          rw [upd_upd, List.map_append]; rfl
      · exact jpop_end (js := (y :: is).dropLast) r ha hl op hp (by rw [dl]) (qn _) n2 n3 n4 _
/-- the same with the first one -/
theorem ds_jpop0 (gd : Good X) (hJ : ∀ a H, L.J.ok .jar a H → StoOk X.prog X.w nd ks a H) (hx : X.N[iw]? = some x) (hxl : X.env.scope.names.lookup x = some .local)
    (ho1 : PE X o1 (tVar i)) (ho2 : PE X o2 (tVar i)) (ho3 : PE X o3 (tVar i)) (hw1 : PE X w1 (tVar iw)) (hm1 : PE X m1 (tVar im)) (hw2 : PE X w2 (tVar iw)) (hm2 : PE X m2 (tVar im)) (hr : PSs X rest (tS L tb))
    (hn1 : NoSl (.Constant (.str nd) j1 p1) := by intro _ _; rfl) (hn2 : NoSl (.Constant (.str nd) j2 p6) := by intro _ _; rfl) (hn3 : NoSl (.Constant (.str nd) j3 p12) := by intro _ _; rfl)
    (hb1 : attributeBase (.Subscript o2 (.Constant (.str nd) j2 p6) p7) "pop" X.env (eval (.Subscript o2 (.Constant (.str nd) j2 p6) p7) X.env) = eval (.Subscript o2 (.Constant (.str nd) j2 p6) p7) X.env := by rfl) (li1 : (p8.endLine == p9.line) = true := by rfl)
    (hb2 : attributeBase (.Subscript o3 (.Constant (.str nd) j3 p12) p13) "insert" X.env (eval (.Subscript o3 (.Constant (.str nd) j3 p12) p13) X.env) = eval (.Subscript o3 (.Constant (.str nd) j3 p12) p13) X.env := by rfl)
    (fw2 : ((backTo p16 (starEach [.Constant (.int 0) j5 p20, .BinOp w2 .FloorDiv m2 p15] X.env)).all (fun x => !x.1) && (backToKw p16 (keywordEach [] X.env)).all (fun x => x.1.isSome) && decide (([.Constant (.int 0) j5 p20, .BinOp w2 .FloorDiv m2 p15] : List Expr).length + ([] : List Keyword).length + (if ([] : List Keyword).isEmpty then 0 else 1) < 30)) = true := by rfl)
    (li2 : (p14.endLine == p16.line) = true := by rfl) (st2 : starEach [.BinOp w2 .FloorDiv m2 p15] X.env = (false, eval (.BinOp w2 .FloorDiv m2 p15) X.env) :: starEach [] X.env := by rfl) (st3 : starEach [.Constant (.int 0) j5 p20, .BinOp w2 .FloorDiv m2 p15] X.env = (false, eval (.Constant (.int 0) j5 p20) X.env) :: starEach [.BinOp w2 .FloorDiv m2 p15] X.env := by rfl) (pl2 : (backTo p16 (starEach [.BinOp w2 .FloorDiv m2 p15] X.env)).any (·.1) = false := by rfl)
    (fw1 : ((backTo p9 (starEach [.Constant (.int 0) j4 p19] X.env)).all (fun x => !x.1) && (backToKw p9 (keywordEach [] X.env)).all (fun x => x.1.isSome) && decide (([.Constant (.int 0) j4 p19] : List Expr).length + ([] : List Keyword).length + (if ([] : List Keyword).isEmpty then 0 else 1) < 30)) = true := by rfl)
    (st1 : starEach [.Constant (.int 0) j4 p19] X.env = (false, eval (.Constant (.int 0) j4 p19) X.env) :: starEach [] X.env := by rfl) (pl1 : (backTo p9 (starEach [] X.env)).any (·.1) = false := by rfl)
    (sw1 : swapsWith (.Call (.Attribute (.Subscript o2 (.Constant (.str nd) j2 p6) p7) "pop" p8) [.Constant (.int 0) j4 p19] [] p9) (some (.Name x p5)) p10.line X.env = pure false := by rfl)
    (sw2 : swapsWith (.Call (.Attribute (.Subscript o3 (.Constant (.str nd) j3 p12) p13) "insert" p14) [.Constant (.int 0) j5 p20, .BinOp w2 .FloorDiv m2 p15] [] p16) none p17.line X.env = pure false := by rfl) :
    PS X (.If (.Compare (.Subscript o1 (.Constant (.str nd) j1 p1) p2) [.NotEq] [.List [] p3] p4)
      (.Assign [.Name x p5] (.Call (.Attribute (.Subscript o2 (.Constant (.str nd) j2 p6) p7) "pop" p8) [.Constant (.int 0) j4 p19] [] p9) p10 ::
        .If (.Compare w1 [.GtE] [m1] p11) [.Expr (.Call (.Attribute (.Subscript o3 (.Constant (.str nd) j3 p12) p13) "insert" p14) [.Constant (.int 0) j5 p20, .BinOp w2 .FloorDiv m2 p15] [] p16) p17] [] p18 :: rest) [] pos)
      (tS L (dJPop i iw im tb)) :=
  (ps_open (nd := nd) (ks := ks) (ps_closed (nd := nd) (ks := ks) (ps_if (pt_cmpR (op_neD (by have := gd.un; omega)) (pe_dget (by have := gd.un; omega) ho1 pe_str hn1) (pe_lst pa_nil) (nomark _))
    (pss_cons (ps_set (i := iw) gd.nd hx (.inl hxl) (pe_bm PySem.F.plainAttrs_list PySem.F.slot_list_pop PySem.F.type_list_pop mt_popAt (pe_dget (by have := gd.un; omega) ho2 pe_str hn2) (pa_cons pe_int pa_nil st1) hb1 fw1 li1 st1 pl1) sw1 (.inr hxl))
      (pss_cons (ps_if (pt_cmpR op_ge hw1 hm1 (nomark _)) (pss_one (ps_expr (pe_bm PySem.F.plainAttrs_list PySem.F.slot_list_insert PySem.F.type_list_insert mt_insert (pe_dget (by have := gd.un; omega) ho3 pe_str hn3) (pa_cons pe_int (pa_cons (pe_op op_fdiv hw2 hm2) pa_nil st2) st3) hb2 fw2 li2 st3 pl2) sw2)) pss_nil) (pss_closing (nd := nd) (ks := ks) hr))) pss_nil))).less fun D σ H q => by
    obtain ⟨ρ, De, r, ⟨ej, ⟨m, em, m0, m1⟩, hlen, hi, hm, qn, qx⟩, n1, n2, n3, n4⟩ := q
    obtain ⟨ov, e2, a, rfl, ja⟩ := r.get ej
    obtain ⟨vm, em2, bm⟩ := r.getD em
    cases bm
    obtain ⟨l, ha, hl, ne⟩ := hJ a H ja
    refine ⟨a, l, ha, hl, ne, fun kvs is z op => ?_⟩
    have rd : DGet (opn H a l kvs is) a (.str nd) (some (.ref l)) := by
      have q := DGet.k (k := .inr nd) op.ha
      rw [op.kv.2.1] at q; exact q
    refine ⟨.ref a, e2, a, .ref l, rfl, rd, Nat.zero_le _, fun p hp => ?_⟩
    have pa : p ≠ a := fun z => by rw [z, op.ha] at hp; cases hp
    have pl : p ≠ l := fun z => by rw [z, op.hl] at hp; cases hp
    refine ⟨.list (is.map .int), .list [], .lst (.inl (.inl (by rw [upd_ne (Ne.symm pl)]; exact op.hl))) (ints_dp is), .lst (.inl (.inl upd_same)) .nil, ints_shaped is, rfl, _, rfl, ?_⟩
    rw [ints_empty]
    have hl1 : (upd (opn H a l kvs is) p (.lst [])) l = some (.lst (is.map V.int)) := by rw [upd_ne (Ne.symm pl)]; exact op.hl
    have ha1 : (upd (opn H a l kvs is) p (.lst [])) a = some (.dK kvs) := by rw [upd_ne (Ne.symm pa)]; exact op.ha
    have rd2 : ∀ {H2 : Hp}, H2 a = some (.dK kvs) → DGet H2 a (.str nd) (some (.ref l)) := fun h => by
      have q := DGet.k (k := .inr nd) h
      rw [op.kv.2.1] at q; exact q
    cases is with
    | nil =>
      have hp0 : H p = none := (opn_off pa pl).symm.trans hp
      have sm : Same H (upd H p (.lst [])) := same_new hp0
      refine ⟨a, l, kvs, [], ⟨ha1, hl1, op.kv⟩, ?_⟩
      have ec : cls X.prog X.w nd ks (upd (opn H a l kvs []) p (.lst [])) a l = upd H p (.lst []) := cls_opn (H := upd H p (.lst [])) (by rw [upd_ne (Ne.symm pa)]; exact ha) (by rw [upd_ne (Ne.symm pl)]; exact hl) fun b h1 h2 => by
        by_cases hb : b = p
        · subst hb; rw [upd_same, upd_same]
        · rw [upd_ne hb, upd_ne hb]; exact opn_off h1 h2
      rw [ec]
      exact n1 _ _ _ (keep_of_same sm) (r.go sm) qx
    | cons y is =>
      have hne : (y :: is).map V.int ≠ [] := by simp
      refine ⟨.ref a, e2, ?_⟩
      refine ⟨a, .ref l, rfl, rd2 ha1, own_ty (pins := []) hl1, l, _, 0, 0, .int y, rfl, rfl, hl1, by decide, by decide, by simp [seqIndex?], by simp, ?_⟩
      have ei : (σ.set iw (some (V.int y)))[i]? = some (some (.ref a)) := by
        rw [List.getElem?_set_ne hi]; exact e2
      have ew : (σ.set iw (some (V.int y)))[iw]? = some (some (V.int y)) := List.getElem?_set_self (by rw [r.len]; exact hlen)
      have emm : (σ.set iw (some (V.int y)))[im]? = some (some (.int m)) := by
        rw [List.getElem?_set_ne hm]; exact em2
      have dl : ((y :: is).map V.int).eraseIdx 0 = is.map V.int := rfl
      have hl2 : (upd (upd (opn H a l kvs (y :: is)) p (.lst [])) l (.lst (((y :: is).map V.int).eraseIdx 0))) l = some (.lst (is.map V.int)) := by rw [upd_same, dl]
      have ha2 : (upd (upd (opn H a l kvs (y :: is)) p (.lst [])) l (.lst (((y :: is).map V.int).eraseIdx 0))) a = some (.dK kvs) := by rw [upd_ne (Ne.symm op.ne)]; exact ha1
      refine ⟨_, ew, _, emm, _, m, rfl, rfl, _, rfl, ite2 (fun _ => ?_) fun _ => ?_⟩
      · refine ⟨.ref a, ei, a, .ref l, rfl, rd2 ha2, own_ty (pins := []) hl2, _, ew, _, emm, _, m, rfl, rfl, ⟨m0, m1⟩, l, _, 0, _, rfl, rfl, hl2, ?_, by decide, by decide, ?_⟩
        · rw [List.length_map]
          have : (y :: is).length ≤ sizeLine := z
          simp at this; omega
        · refine jpop_end (js := (y / m) :: is) r ha hl op hp ?_ (qn _) n2 n3 n4 _
          rw [upd_upd]; rfl
      · exact jpop_end (js := is) r ha hl op hp (by rw [dl]) (qn _) n2 n3 n4 _
end
end GB

namespace GB
open PySem PySem.Spec PyProof.Rows L2

theorem BrA.put {K : PySem.W.Frag} {H : Hp} : ∀ {vs : List V} {ds : List PyData} (j : Nat) {v : V} {x : PyData}, BrA K H vs ds → Br K H v x → BrA K H (vs.set j v) (ds.set j x)
  | _, _, _, _, _, .nil, _ => .nil
  | _, _, 0, _, _, .cons _ h2, b => .cons b h2
  | _, _, j + 1, _, _, .cons h1 h2, b => .cons h1 (BrA.put j h2 b)
/-- an item of a list of one's own put in another's place -/
def dPutAt (i : Nat) (ti tv : TEd) : TSd := fun D ρ => tv ρ fun s ρ1 => ∃ x ys, s = .d x ∧ ρ1[i]? = some (.own ys) ∧ ti ρ1 fun s2 ρ2 => ∃ k j xs, s2 = .d (.int k) ∧ ρ2[i]? = some (.own xs) ∧ ixN xs.length k = some j ∧ D.nx (ρ2.set i (.own (xs.set j x)))
section
variable {X : Cx} {L : Lay} {o ix v : Expr} {pos p1 : Pos} {i : Nat} {ti tv : TEd}
theorem ds_putAt (ho : PE X o (tVar i)) (hi : PE X ix (tE L ti)) (hv : PE X v (tE L tv)) (hw : swappedStores [.Subscript o ix p1] v X.env = pure none := by rfl) (hs : swapsWithSole [.Subscript o ix p1] v pos.line X.env = pure false := by rfl)
    (h1 : (assignEach [.Subscript o ix p1] X.env).map (·.2) = [assign (.Subscript o ix p1) X.env] := by rfl)
    (ha : ∀ v, assign (.Subscript o ix p1) X.env v = (do
      let ov ← holding [v] (eval o X.env)
      let iv ← holding [v, ov] (eval ix X.env)
      standAt p1
      holding [v, ov, iv] (setItem ov iv v)
      release [v, ov, iv] []) := by intro _; rfl) :
    PS X (.Assign [.Subscript o ix p1] v pos) (tS L (dPutAt i ti tv)) :=
  (ps_asg hv (pg_sub ho hi set_list ha) hs hw h1).less fun D σ H q => by
    obtain ⟨ρ, De, r, q, n1, _⟩ := q
    refine ⟨ρ, _, r, q, fun v H1 s ρ1 go r1 hv q1 => ?_⟩
    obtain ⟨x, ys, rfl, ey, q2⟩ := q1
    obtain ⟨l, us, hi, hl, _⟩ := r1.getO ey
    refine ⟨.ref l, hi, ρ1, _, r1, q2, fun u H2 s2 ρ2 go2 r2 hu q3 => ?_⟩
    obtain ⟨k, j, xs, rfl, ex, hj, q4⟩ := q3
    have hu : Br L.K H2 u (.int k) := hu
    cases hu
    obtain ⟨l', ws, hi', hl', hb, _⟩ := r2.getO ex
    rw [hi] at hi'; cases hi'
    have hv2 : Br L.K H2 v x := Br.keep (go2.keep r1) _ _ hv
    obtain ⟨r3, k3⟩ := r2.put ex hi hl' (hb.put j hv2)
    exact ⟨l, ws, k, j, rfl, rfl, hl', by rw [hb.len]; exact hj, n1 _ _ _ (((go.keep r).tr (go2.keep r1)).tr k3) r3 q4⟩
end
end GB

namespace GB
open PySem PySem.Spec PyProof.Rows L2

/-! what is given by name -/
def pick {α : Type} (is : List Nat) (l : List α) : List α := is.filterMap fun i => l[i]?
theorem pick_vals {is : List Nat} {zs : List V} {ws : List Value} (h : Vals zs ws) : Vals (pick is zs) (pick is ws) := by
  induction is with
  | nil => exact .nil
  | cons i is ih =>
    unfold pick at ih ⊢
    rw [List.filterMap_cons, List.filterMap_cons]
    cases e : zs[i]? with
    | none =>
      have : ws[i]? = none := by
        rw [List.getElem?_eq_none_iff] at e ⊢
        rw [← h.length]; exact e
      rw [this]; exact ih
    | some v =>
      obtain ⟨u, hu, r⟩ := h.get e
      rw [hu]; exact .cons r ih
theorem fr_get {L : Lay} {H : Hp} {vs : List V} {ss : List S} (h : FRs L H vs ss) : ∀ (i : Nat) (v : V), vs[i]? = some v → ∃ s, ss[i]? = some s ∧ FR L H v s := by
  induction h with
  | nil => intro i v e; simp at e
  | @cons v vs s ss h1 h2 ih =>
    intro i w e
    cases i with
    | zero => simp at e; subst e; exact ⟨s, rfl, h1⟩
    | succ i => simp at e ⊢; exact ih i w e
theorem pick_frs {L : Lay} {H : Hp} {is : List Nat} {vs : List V} {ss : List S} (h : FRs L H vs ss) : FRs L H (pick is vs) (pick is ss) := by
  induction is with
  | nil => exact .nil
  | cons i is ih =>
    unfold pick at ih ⊢
    rw [List.filterMap_cons, List.filterMap_cons]
    cases e : vs[i]? with
    | none =>
      have : ss[i]? = none := by
        rw [List.getElem?_eq_none_iff] at e ⊢
        rw [← h.len]; exact e
      rw [this]; exact ih
    | some v =>
      obtain ⟨u, hu, r⟩ := fr_get h i v e
      rw [hu]; exact .cons r ih
theorem perm_mk {K : PySem.W.Frag} {fd : FuncData} {ps ks : List Str} {is : List Nat} (h : ∀ (s : Shared) (us : List Value), (pick is us).length = ps.length → BindsTo s fd ⟨[], ks.zip us⟩ (ps.zip (pick is us))) :
    Perm K fd ps ks (pick is) (pick is) (pick is) := ⟨h, pick_vals, pick_frs⟩
end GB

namespace GB
open PySem PySem.Spec PyProof.Rows L2

/-! kinds -/
def kTuple : PyData → Bool
  | .tuple _ => true
  | _ => false
def kBool : PyData → Bool
  | .bool _ => true
  | _ => false
def kInt : PyData → Bool
  | .int _ => true
  | _ => false
def kStr : PyData → Bool
  | .str _ => true
  | _ => false
theorem isK_tuple (x : PyData) : isK "tuple" x = kTuple x := by
  cases x with
  | none => exact (by decide +kernel : (kitB "NoneType" "tuple").getD false = false)
  | bool _ => exact (by decide +kernel : (kitB "bool" "tuple").getD false = false)
  | int _ => exact (by decide +kernel : (kitB "int" "tuple").getD false = false)
  | str _ => exact (by decide +kernel : (kitB "str" "tuple").getD false = false)
  | list _ => exact (by decide +kernel : (kitB "list" "tuple").getD false = false)
  | tuple _ => exact (by decide +kernel : (kitB "tuple" "tuple").getD false = true)
  | dict _ => exact (by decide +kernel : (kitB "dict" "tuple").getD false = false)
theorem isK_bool (x : PyData) : isK "bool" x = kBool x := by
  cases x with
  | none => exact (by decide +kernel : (kitB "NoneType" "bool").getD false = false)
  | bool _ => exact (by decide +kernel : (kitB "bool" "bool").getD false = true)
  | int _ => exact (by decide +kernel : (kitB "int" "bool").getD false = false)
  | str _ => exact (by decide +kernel : (kitB "str" "bool").getD false = false)
  | list _ => exact (by decide +kernel : (kitB "list" "bool").getD false = false)
  | tuple _ => exact (by decide +kernel : (kitB "tuple" "bool").getD false = false)
  | dict _ => exact (by decide +kernel : (kitB "dict" "bool").getD false = false)
theorem isK_str (x : PyData) : isK "str" x = kStr x := by
  cases x with
  | none => exact (by decide +kernel : (kitB "NoneType" "str").getD false = false)
  | bool _ => exact (by decide +kernel : (kitB "bool" "str").getD false = false)
  | int _ => exact (by decide +kernel : (kitB "int" "str").getD false = false)
  | str _ => exact (by decide +kernel : (kitB "str" "str").getD false = true)
  | list _ => exact (by decide +kernel : (kitB "list" "str").getD false = false)
  | tuple _ => exact (by decide +kernel : (kitB "tuple" "str").getD false = false)
  | dict _ => exact (by decide +kernel : (kitB "dict" "str").getD false = false)
theorem isK_int (x : PyData) : isK "int" x = (kInt x || kBool x) := by
  cases x with
  | none => exact (by decide +kernel : (kitB "NoneType" "int").getD false = false)
  | bool _ => exact (by decide +kernel : (kitB "bool" "int").getD false = true)
  | int _ => exact (by decide +kernel : (kitB "int" "int").getD false = true)
  | str _ => exact (by decide +kernel : (kitB "str" "int").getD false = false)
  | list _ => exact (by decide +kernel : (kitB "list" "int").getD false = false)
  | tuple _ => exact (by decide +kernel : (kitB "tuple" "int").getD false = false)
  | dict _ => exact (by decide +kernel : (kitB "dict" "int").getD false = false)
theorem ex_nil {P : List PyData → Prop} : (∃ xs, ([] : List S) = xs.map S.d ∧ P xs) ↔ P [] := by
  constructor
  · intro ⟨xs, e, p⟩
    cases xs with
    | nil => exact p
    | cons _ _ => cases e
  · intro p; exact ⟨[], rfl, p⟩
theorem ex_cons {P : List PyData → Prop} {a : PyData} {ss : List S} : (∃ xs, (S.d a :: ss) = xs.map S.d ∧ P xs) ↔ ∃ xs, ss = xs.map S.d ∧ P (a :: xs) := by
  constructor
  · intro ⟨xs, e, p⟩
    cases xs with
    | nil => cases e
    | cons b xs =>
      simp only [List.map_cons, List.cons.injEq, S.d.injEq] at e
      obtain ⟨rfl, e⟩ := e
      exact ⟨xs, e, p⟩
  · intro ⟨xs, e, p⟩; exact ⟨a :: xs, by simp [e], p⟩
/-! rows that are walked -/
def pairsFrom (k : Int) : List PyData → List PyData
  | [] => []
  | x :: xs => .tuple [.int k, x] :: pairsFrom (k + 1) xs
theorem pairsFrom_get : ∀ (xs : List PyData) (k : Int) (i : Nat), (pairsFrom k xs)[i]? = xs[i]?.map fun x => .tuple [.int (k + i), x]
  | [], k, i => by simp [pairsFrom]
  | x :: xs, k, 0 => by simp [pairsFrom]
  | x :: xs, k, i + 1 => by
    simp only [pairsFrom, List.getElem?_cons_succ, pairsFrom_get xs (k + 1) i]
    congr 1; funext y; congr 3; omega
theorem pairsOf_eq (xs : List PyData) : GB.pairsOf xs = pairsFrom 0 xs := by
  apply List.ext_getElem?
  intro i
  rw [pairsFrom_get]
  unfold GB.pairsOf
  rw [List.getElem?_map]
  by_cases h : i < xs.length
  · rw [List.getElem?_range h]; simp [h]
  · rw [List.getElem?_eq_none (by simpa using h), List.getElem?_eq_none (by omega)]; rfl
theorem irow_zero (lo : Int) : irow lo 0 = [] := rfl
theorem irow_succ (lo : Int) (n : Nat) : irow lo (n + 1) = .int lo :: irow (lo + 1) n := by
  unfold irow
  rw [List.range_succ_eq_map, List.map_cons, List.map_map]
  rw [List.cons.injEq]
  refine ⟨by simp, List.map_congr_left fun i _ => ?_⟩
  simp; omega
theorem irow_mem {lo : Int} {n : Nat} {x : PyData} (h : x ∈ irow lo n) : ∃ i : Int, x = .int i ∧ lo ≤ i ∧ i < lo + n := by
  simp only [irow, List.mem_map, List.mem_range] at h
  obtain ⟨i, hi, rfl⟩ := h
  exact ⟨_, rfl, by omega, by omega⟩
theorem atI_mem {xs : List PyData} {r : Int} (h0 : 0 ≤ r) (h1 : r < xs.length) : ∃ v, atI xs r = some v ∧ v ∈ xs := by
  have hn : r.toNat < xs.length := by omega
  refine ⟨xs[r.toNat], ?_, List.getElem_mem hn⟩
  unfold atI ixN
  rw [if_pos h0, if_pos (by omega)]
  simp [hn]
theorem dgCons_cons {g : DTG} {gs : DTGs} {d : PyData} {r : List PyData} {ρ : En} {Q : En → Prop} : dgCons g gs (d :: r) ρ Q ↔ g d ρ fun ρ1 => gs r ρ1 Q := by
  constructor
  · intro ⟨d', r', e, q⟩; cases e; exact q
  · intro q; exact ⟨d, r, rfl, q⟩
theorem dgNil_nil {ρ : En} {Q : En → Prop} : dgNil [] ρ Q ↔ Q ρ := ⟨fun q => q.2, fun q => ⟨rfl, q⟩⟩
theorem dgTup_tup {n : Nat} {gs : DTGs} {ds : List PyData} {ρ : En} {Q : En → Prop} : dgTup n gs (.tuple ds) ρ Q ↔ ds.length = n ∧ gs ds ρ Q := by
  constructor
  · intro ⟨d', e, q⟩; cases e; exact q
  · intro q; exact ⟨ds, rfl, q⟩
theorem rb {R : S → Prop} {a b : Bool} (h : R (.d (.bool a))) (e : a = b) : R (.d (.bool b)) := e ▸ h
theorem ri {R : S → Prop} {a b : Int} (h : R (.d (.int a))) (e : a = b) : R (.d (.int b)) := e ▸ h
theorem eqOk_str (a b : Str) : eqOk (.str a) (.str b) = true := rfl
theorem eqOk_int (a b : Int) : eqOk (.int a) (.int b) = true := rfl
theorem eqOk_bool (a b : Bool) : eqOk (.bool a) (.bool b) = true := rfl
theorem str_eqv (s : Str) : PyData.eqv (.str s) (.str s) = true := by simp [PyData.eqv]
theorem int_eqv (a b : Int) : PyData.eqv (.int a) (.int b) = decide (a = b) := by
  by_cases h : a = b
  · subst h; simp [PyData.eqv]
  · simp [PyData.eqv, h]
theorem tup_nil_eqv (xs : List PyData) : PyData.eqv (.tuple xs) (.tuple []) = xs.isEmpty := by cases xs <;> rfl
theorem lst_nil_eqv (xs : List PyData) : PyData.eqv (.list xs) (.list []) = xs.isEmpty := by cases xs <;> rfl
theorem cutD_mem {α : Type} {xs : List α} {lo hi : Option Int} {x : α} (h : x ∈ cutD xs lo hi) : x ∈ xs := List.mem_of_mem_drop (List.mem_of_mem_take h)
theorem cutD_len {α : Type} (xs : List α) (lo hi : Option Int) : (cutD xs lo hi).length ≤ xs.length := by
  unfold cutD
  rw [List.length_take, List.length_drop]; omega
theorem cutD_to {α : Type} (xs : List α) (n : Nat) : cutD xs none (some (n : Int)) = xs.take n := by
  unfold cutD
  rw [HT.sIx_none, HT.sIx_nat, List.drop_zero, Nat.sub_zero]
  exact (List.take_eq_take_min).symm
theorem rep_flat {α : Type} (n : Nat) (x : α) : (List.replicate n [x]).flatten = List.replicate n x := by
  induction n with
  | zero => rfl
  | succ n ih => rw [List.replicate_succ, List.flatten_cons, ih]; rfl
theorem cmul_r {i j : Int} (h1 : -(2 ^ 64) < j) (h2 : j < 2 ^ 64) : CMul i j ∨ CMulW i j := .inl (.inr ⟨h1, h2⟩)
theorem cmul_l {i j : Int} (h1 : -(2 ^ 64) < i) (h2 : i < 2 ^ 64) : CMul i j ∨ CMulW i j := .inl (.inl ⟨h1, h2⟩)
theorem pow2000 {k : Int} (h : k < 2 ^ 64) : k < 2 ^ 2000 := Int.lt_of_lt_of_le h (by decide +kernel)
end GB

namespace GB
open PySem PySem.Spec PyProof.Rows L2

/-! readings, step by step from without: what is looked at stands first -/
def atK (ρ : En) (i : Nat) (k : S → Prop) : Prop := ∃ s, ρ[i]? = some s ∧ k s
def setK (f : En → Prop) (ρ : En) (i : Nat) (s : S) : Prop := f (ρ.set i s)
def fzK (s : S) (k : S → Prop) : Prop := k s.fz
def oneK (s : S) (k : PyData → Prop) : Prop := ∃ x, s = .d x ∧ k x
def intK (s : S) (k : Int → Prop) : Prop := ∃ i, s = .d (.int i) ∧ k i
def boolK (s : S) (k : Bool → Prop) : Prop := ∃ b, s = .d (.bool b) ∧ k b
def dsK (ss : List S) (k : List PyData → Prop) : Prop := ∃ xs, ss = xs.map S.d ∧ k xs
def seqK (s : S) (k : List PyData → Prop) : Prop := ∃ ds, (s = .d (.list ds) ∨ s = .d (.tuple ds)) ∧ k ds
def ownK (s : S) (k : List PyData → Prop) : Prop := ∃ xs, s = .own xs ∧ k xs
def iteK (b : Bool) (p q : Prop) : Prop := if b = true then p else q
section
variable {ρ : En} {Q : S → En → Prop} {QB : Bool → En → Prop} {QA : List S → En → Prop} {D : EndsD} {k : S → Prop} {i j : Nat} {t ta tb : TEd} {tt tu : TTd} {as : TAd} {g : DTG} {gs : DTGs}
theorem ex1 {α : Type} {a : α} {p : α → Prop} : (∃ x, a = x ∧ p x) ↔ p a := ⟨fun ⟨x, e, h⟩ => e ▸ h, fun h => ⟨a, rfl, h⟩⟩

theorem at0 {a0 : S} {r : En} {k : S → Prop} : atK (a0 :: r) 0 k ↔ k a0 := ⟨fun ⟨s, e, h⟩ => by cases e; exact h, fun h => ⟨_, rfl, h⟩⟩
theorem set0 {a0 : S} {r : En} {s : S} {f : En → Prop} : setK f (a0 :: r) 0 s ↔ f (s :: r) := Iff.rfl
theorem at1 {a0 a1 : S} {r : En} {k : S → Prop} : atK (a0 :: a1 :: r) 1 k ↔ k a1 := ⟨fun ⟨s, e, h⟩ => by cases e; exact h, fun h => ⟨_, rfl, h⟩⟩
theorem set1 {a0 a1 : S} {r : En} {s : S} {f : En → Prop} : setK f (a0 :: a1 :: r) 1 s ↔ f (a0 :: s :: r) := Iff.rfl
theorem at2 {a0 a1 a2 : S} {r : En} {k : S → Prop} : atK (a0 :: a1 :: a2 :: r) 2 k ↔ k a2 := ⟨fun ⟨s, e, h⟩ => by cases e; exact h, fun h => ⟨_, rfl, h⟩⟩
theorem set2 {a0 a1 a2 : S} {r : En} {s : S} {f : En → Prop} : setK f (a0 :: a1 :: a2 :: r) 2 s ↔ f (a0 :: a1 :: s :: r) := Iff.rfl
theorem at3 {a0 a1 a2 a3 : S} {r : En} {k : S → Prop} : atK (a0 :: a1 :: a2 :: a3 :: r) 3 k ↔ k a3 := ⟨fun ⟨s, e, h⟩ => by cases e; exact h, fun h => ⟨_, rfl, h⟩⟩
theorem set3 {a0 a1 a2 a3 : S} {r : En} {s : S} {f : En → Prop} : setK f (a0 :: a1 :: a2 :: a3 :: r) 3 s ↔ f (a0 :: a1 :: a2 :: s :: r) := Iff.rfl
theorem at4 {a0 a1 a2 a3 a4 : S} {r : En} {k : S → Prop} : atK (a0 :: a1 :: a2 :: a3 :: a4 :: r) 4 k ↔ k a4 := ⟨fun ⟨s, e, h⟩ => by cases e; exact h, fun h => ⟨_, rfl, h⟩⟩
theorem set4 {a0 a1 a2 a3 a4 : S} {r : En} {s : S} {f : En → Prop} : setK f (a0 :: a1 :: a2 :: a3 :: a4 :: r) 4 s ↔ f (a0 :: a1 :: a2 :: a3 :: s :: r) := Iff.rfl
theorem at5 {a0 a1 a2 a3 a4 a5 : S} {r : En} {k : S → Prop} : atK (a0 :: a1 :: a2 :: a3 :: a4 :: a5 :: r) 5 k ↔ k a5 := ⟨fun ⟨s, e, h⟩ => by cases e; exact h, fun h => ⟨_, rfl, h⟩⟩
theorem set5 {a0 a1 a2 a3 a4 a5 : S} {r : En} {s : S} {f : En → Prop} : setK f (a0 :: a1 :: a2 :: a3 :: a4 :: a5 :: r) 5 s ↔ f (a0 :: a1 :: a2 :: a3 :: a4 :: s :: r) := Iff.rfl
theorem at6 {a0 a1 a2 a3 a4 a5 a6 : S} {r : En} {k : S → Prop} : atK (a0 :: a1 :: a2 :: a3 :: a4 :: a5 :: a6 :: r) 6 k ↔ k a6 := ⟨fun ⟨s, e, h⟩ => by cases e; exact h, fun h => ⟨_, rfl, h⟩⟩
theorem set6 {a0 a1 a2 a3 a4 a5 a6 : S} {r : En} {s : S} {f : En → Prop} : setK f (a0 :: a1 :: a2 :: a3 :: a4 :: a5 :: a6 :: r) 6 s ↔ f (a0 :: a1 :: a2 :: a3 :: a4 :: a5 :: s :: r) := Iff.rfl
theorem at7 {a0 a1 a2 a3 a4 a5 a6 a7 : S} {r : En} {k : S → Prop} : atK (a0 :: a1 :: a2 :: a3 :: a4 :: a5 :: a6 :: a7 :: r) 7 k ↔ k a7 := ⟨fun ⟨s, e, h⟩ => by cases e; exact h, fun h => ⟨_, rfl, h⟩⟩
theorem set7 {a0 a1 a2 a3 a4 a5 a6 a7 : S} {r : En} {s : S} {f : En → Prop} : setK f (a0 :: a1 :: a2 :: a3 :: a4 :: a5 :: a6 :: a7 :: r) 7 s ↔ f (a0 :: a1 :: a2 :: a3 :: a4 :: a5 :: a6 :: s :: r) := Iff.rfl
theorem at8 {a0 a1 a2 a3 a4 a5 a6 a7 a8 : S} {r : En} {k : S → Prop} : atK (a0 :: a1 :: a2 :: a3 :: a4 :: a5 :: a6 :: a7 :: a8 :: r) 8 k ↔ k a8 := ⟨fun ⟨s, e, h⟩ => by cases e; exact h, fun h => ⟨_, rfl, h⟩⟩
theorem set8 {a0 a1 a2 a3 a4 a5 a6 a7 a8 : S} {r : En} {s : S} {f : En → Prop} : setK f (a0 :: a1 :: a2 :: a3 :: a4 :: a5 :: a6 :: a7 :: a8 :: r) 8 s ↔ f (a0 :: a1 :: a2 :: a3 :: a4 :: a5 :: a6 :: a7 :: s :: r) := Iff.rfl
theorem at9 {a0 a1 a2 a3 a4 a5 a6 a7 a8 a9 : S} {r : En} {k : S → Prop} : atK (a0 :: a1 :: a2 :: a3 :: a4 :: a5 :: a6 :: a7 :: a8 :: a9 :: r) 9 k ↔ k a9 := ⟨fun ⟨s, e, h⟩ => by cases e; exact h, fun h => ⟨_, rfl, h⟩⟩
theorem set9 {a0 a1 a2 a3 a4 a5 a6 a7 a8 a9 : S} {r : En} {s : S} {f : En → Prop} : setK f (a0 :: a1 :: a2 :: a3 :: a4 :: a5 :: a6 :: a7 :: a8 :: a9 :: r) 9 s ↔ f (a0 :: a1 :: a2 :: a3 :: a4 :: a5 :: a6 :: a7 :: a8 :: s :: r) := Iff.rfl
theorem at10 {a0 a1 a2 a3 a4 a5 a6 a7 a8 a9 a10 : S} {r : En} {k : S → Prop} : atK (a0 :: a1 :: a2 :: a3 :: a4 :: a5 :: a6 :: a7 :: a8 :: a9 :: a10 :: r) 10 k ↔ k a10 := ⟨fun ⟨s, e, h⟩ => by cases e; exact h, fun h => ⟨_, rfl, h⟩⟩
theorem set10 {a0 a1 a2 a3 a4 a5 a6 a7 a8 a9 a10 : S} {r : En} {s : S} {f : En → Prop} : setK f (a0 :: a1 :: a2 :: a3 :: a4 :: a5 :: a6 :: a7 :: a8 :: a9 :: a10 :: r) 10 s ↔ f (a0 :: a1 :: a2 :: a3 :: a4 :: a5 :: a6 :: a7 :: a8 :: a9 :: s :: r) := Iff.rfl
theorem at11 {a0 a1 a2 a3 a4 a5 a6 a7 a8 a9 a10 a11 : S} {r : En} {k : S → Prop} : atK (a0 :: a1 :: a2 :: a3 :: a4 :: a5 :: a6 :: a7 :: a8 :: a9 :: a10 :: a11 :: r) 11 k ↔ k a11 := ⟨fun ⟨s, e, h⟩ => by cases e; exact h, fun h => ⟨_, rfl, h⟩⟩
theorem set11 {a0 a1 a2 a3 a4 a5 a6 a7 a8 a9 a10 a11 : S} {r : En} {s : S} {f : En → Prop} : setK f (a0 :: a1 :: a2 :: a3 :: a4 :: a5 :: a6 :: a7 :: a8 :: a9 :: a10 :: a11 :: r) 11 s ↔ f (a0 :: a1 :: a2 :: a3 :: a4 :: a5 :: a6 :: a7 :: a8 :: a9 :: a10 :: s :: r) := Iff.rfl
theorem at12 {a0 a1 a2 a3 a4 a5 a6 a7 a8 a9 a10 a11 a12 : S} {r : En} {k : S → Prop} : atK (a0 :: a1 :: a2 :: a3 :: a4 :: a5 :: a6 :: a7 :: a8 :: a9 :: a10 :: a11 :: a12 :: r) 12 k ↔ k a12 := ⟨fun ⟨s, e, h⟩ => by cases e; exact h, fun h => ⟨_, rfl, h⟩⟩
theorem set12 {a0 a1 a2 a3 a4 a5 a6 a7 a8 a9 a10 a11 a12 : S} {r : En} {s : S} {f : En → Prop} : setK f (a0 :: a1 :: a2 :: a3 :: a4 :: a5 :: a6 :: a7 :: a8 :: a9 :: a10 :: a11 :: a12 :: r) 12 s ↔ f (a0 :: a1 :: a2 :: a3 :: a4 :: a5 :: a6 :: a7 :: a8 :: a9 :: a10 :: a11 :: s :: r) := Iff.rfl
theorem at13 {a0 a1 a2 a3 a4 a5 a6 a7 a8 a9 a10 a11 a12 a13 : S} {r : En} {k : S → Prop} : atK (a0 :: a1 :: a2 :: a3 :: a4 :: a5 :: a6 :: a7 :: a8 :: a9 :: a10 :: a11 :: a12 :: a13 :: r) 13 k ↔ k a13 := ⟨fun ⟨s, e, h⟩ => by cases e; exact h, fun h => ⟨_, rfl, h⟩⟩
theorem set13 {a0 a1 a2 a3 a4 a5 a6 a7 a8 a9 a10 a11 a12 a13 : S} {r : En} {s : S} {f : En → Prop} : setK f (a0 :: a1 :: a2 :: a3 :: a4 :: a5 :: a6 :: a7 :: a8 :: a9 :: a10 :: a11 :: a12 :: a13 :: r) 13 s ↔ f (a0 :: a1 :: a2 :: a3 :: a4 :: a5 :: a6 :: a7 :: a8 :: a9 :: a10 :: a11 :: a12 :: s :: r) := Iff.rfl
theorem at14 {a0 a1 a2 a3 a4 a5 a6 a7 a8 a9 a10 a11 a12 a13 a14 : S} {r : En} {k : S → Prop} : atK (a0 :: a1 :: a2 :: a3 :: a4 :: a5 :: a6 :: a7 :: a8 :: a9 :: a10 :: a11 :: a12 :: a13 :: a14 :: r) 14 k ↔ k a14 := ⟨fun ⟨s, e, h⟩ => by cases e; exact h, fun h => ⟨_, rfl, h⟩⟩
theorem set14 {a0 a1 a2 a3 a4 a5 a6 a7 a8 a9 a10 a11 a12 a13 a14 : S} {r : En} {s : S} {f : En → Prop} : setK f (a0 :: a1 :: a2 :: a3 :: a4 :: a5 :: a6 :: a7 :: a8 :: a9 :: a10 :: a11 :: a12 :: a13 :: a14 :: r) 14 s ↔ f (a0 :: a1 :: a2 :: a3 :: a4 :: a5 :: a6 :: a7 :: a8 :: a9 :: a10 :: a11 :: a12 :: a13 :: s :: r) := Iff.rfl
theorem at15 {a0 a1 a2 a3 a4 a5 a6 a7 a8 a9 a10 a11 a12 a13 a14 a15 : S} {r : En} {k : S → Prop} : atK (a0 :: a1 :: a2 :: a3 :: a4 :: a5 :: a6 :: a7 :: a8 :: a9 :: a10 :: a11 :: a12 :: a13 :: a14 :: a15 :: r) 15 k ↔ k a15 := ⟨fun ⟨s, e, h⟩ => by cases e; exact h, fun h => ⟨_, rfl, h⟩⟩
theorem set15 {a0 a1 a2 a3 a4 a5 a6 a7 a8 a9 a10 a11 a12 a13 a14 a15 : S} {r : En} {s : S} {f : En → Prop} : setK f (a0 :: a1 :: a2 :: a3 :: a4 :: a5 :: a6 :: a7 :: a8 :: a9 :: a10 :: a11 :: a12 :: a13 :: a14 :: a15 :: r) 15 s ↔ f (a0 :: a1 :: a2 :: a3 :: a4 :: a5 :: a6 :: a7 :: a8 :: a9 :: a10 :: a11 :: a12 :: a13 :: a14 :: s :: r) := Iff.rfl

theorem fz_d {x : PyData} : fzK (.d x) k ↔ k (.d x) := Iff.rfl
theorem fz_own {xs : List PyData} : fzK (.own xs) k ↔ k (.d (.list xs)) := Iff.rfl
theorem fz_ob {t : Tk} : fzK (.ob t) k ↔ k (.ob t) := Iff.rfl
theorem one_d {x : PyData} {k : PyData → Prop} : oneK (.d x) k ↔ k x := ⟨fun ⟨y, e, h⟩ => by cases e; exact h, fun h => ⟨_, rfl, h⟩⟩
theorem int_d {x : Int} {k : Int → Prop} : intK (.d (.int x)) k ↔ k x := ⟨fun ⟨y, e, h⟩ => by cases e; exact h, fun h => ⟨_, rfl, h⟩⟩
theorem bool_d {x : Bool} {k : Bool → Prop} : boolK (.d (.bool x)) k ↔ k x := ⟨fun ⟨y, e, h⟩ => by cases e; exact h, fun h => ⟨_, rfl, h⟩⟩
theorem own_o {xs : List PyData} {k : List PyData → Prop} : ownK (.own xs) k ↔ k xs := ⟨fun ⟨y, e, h⟩ => by cases e; exact h, fun h => ⟨_, rfl, h⟩⟩
theorem ds_nil {k : List PyData → Prop} : dsK [] k ↔ k [] := ex_nil
theorem ds_cons {a : PyData} {r : List S} {k : List PyData → Prop} : dsK (.d a :: r) k ↔ dsK r fun xs => k (a :: xs) := ex_cons
theorem seq_l {xs : List PyData} {k : List PyData → Prop} : seqK (.d (.list xs)) k ↔ k xs := ⟨fun ⟨y, e, h⟩ => by rcases e with e | e <;> cases e; exact h, fun h => ⟨_, .inl rfl, h⟩⟩
theorem seq_t {xs : List PyData} {k : List PyData → Prop} : seqK (.d (.tuple xs)) k ↔ k xs := ⟨fun ⟨y, e, h⟩ => by rcases e with e | e <;> cases e; exact h, fun h => ⟨_, .inr rfl, h⟩⟩
theorem ite_t {p q : Prop} : iteK true p q ↔ p := Iff.rfl
theorem ite_f {p q : Prop} : iteK false p q ↔ q := by simp [iteK]
theorem ite_dec {c : Prop} [Decidable c] {p q : Prop} : iteK (decide c) p q ↔ ((c → p) ∧ (¬ c → q)) := by
  unfold iteK
  by_cases h : c <;> simp [h]
theorem ite_ndec {c : Prop} [Decidable c] {p q : Prop} : iteK (!decide c) p q ↔ ((¬ c → p) ∧ (c → q)) := by
  unfold iteK
  by_cases h : c <;> simp [h]
theorem itK_not {b : Bool} {p q : Prop} : iteK (!b) p q ↔ iteK b q p := by cases b <;> simp [iteK]
theorem ite_bool {b : Bool} {p q : Prop} : iteK b p q ↔ ((b = true → p) ∧ (b = false → q)) := by cases b <;> simp [iteK]
theorem iteI {c : Prop} [Decidable c] {p q : Prop} (h1 : c → p) (h2 : ¬ c → q) : iteK (decide c) p q := ite_dec.mpr ⟨h1, h2⟩
theorem iteB {b : Bool} {p q : Prop} (h1 : b = true → p) (h2 : b = false → q) : iteK b p q := ite_bool.mpr ⟨h1, h2⟩
/-! statements -/
theorem e_next : dNext D ρ ↔ D.nx ρ := Iff.rfl
theorem e_seq {a b : TSd} : dSeq a b D ρ ↔ a { D with nx := b D } ρ := Iff.rfl
theorem e_set : dSet i t D ρ ↔ t ρ fun s ρ1 => setK D.nx ρ1 i s := Iff.rfl
theorem e_drop : dDrop t D ρ ↔ t ρ fun _ ρ1 => D.nx ρ1 := Iff.rfl
theorem e_ret : dRet t D ρ ↔ t ρ fun s _ => D.rt s := Iff.rfl
theorem e_ifs {a b : TSd} : dIfS tt a b D ρ ↔ tt ρ fun c ρ1 => iteK c (a D ρ1) (b D ρ1) := Iff.rfl
theorem e_brk : dBrk D ρ ↔ D.bk ρ := Iff.rfl
theorem e_cnt : dCnt D ρ ↔ D.ct ρ := Iff.rfl
theorem e_fixs {a : TSd} : dFixS i a D ρ ↔ atK ρ i fun s => ownK s fun xs => setK (a D) ρ i (.d (.list xs)) := by
  constructor
  · intro ⟨xs, e, q⟩; exact ⟨_, e, xs, rfl, q⟩
  · intro ⟨_, e, xs, z, q⟩; exact ⟨xs, z ▸ e, q⟩
theorem e_par : dPar i j ta tb D ρ ↔ ta ρ fun s1 ρ1 => tb ρ1 fun s2 ρ2 => setK (fun ρ3 => setK D.nx ρ3 j s2) ρ2 i s1 := Iff.rfl
theorem e_par3 {l : Nat} {tc : TEd} : dPar3 i j l ta tb tc D ρ ↔ ta ρ fun s1 ρ1 => tb ρ1 fun s2 ρ2 => tc ρ2 fun s3 ρ3 => setK (fun ρ4 => setK (fun ρ5 => setK D.nx ρ5 l s3) ρ4 j s2) ρ3 i s1 := Iff.rfl
theorem e_asg : dAsg t g D ρ ↔ t ρ fun s ρ1 => oneK s fun x => g x ρ1 D.nx := Iff.rfl
theorem e_for {ti : TId} {b : TSd} : dFor ti g b D ρ ↔ ti ρ fun ds ρ1 => dLoop g b D ds ρ1 := Iff.rfl
theorem e_putAt : dPutAt i ta tb D ρ ↔ tb ρ fun s ρ1 => oneK s fun x => atK ρ1 i fun o => ownK o fun _ => ta ρ1 fun s2 ρ2 => intK s2 fun n => atK ρ2 i fun o => ownK o fun xs => ∃ j, ixN xs.length n = some j ∧ setK D.nx ρ2 i (.own (xs.set j x)) := by
  have e : ∀ (s2 : S) (ρ2 : En) (x : PyData), (∃ k j xs, s2 = .d (.int k) ∧ ρ2[i]? = some (.own xs) ∧ ixN xs.length k = some j ∧ D.nx (ρ2.set i (.own (xs.set j x)))) ↔ (intK s2 fun n => atK ρ2 i fun o => ownK o fun xs => ∃ j, ixN xs.length n = some j ∧ setK D.nx ρ2 i (.own (xs.set j x))) := by
    intro s2 ρ2 x
    constructor
    · intro ⟨k, j, xs, e1, e2, e3, q⟩; exact ⟨k, e1, _, e2, xs, rfl, j, e3, q⟩
    · intro ⟨k, e1, _, e2, xs, z, j, e3, q⟩; exact ⟨k, j, xs, e1, z ▸ e2, e3, q⟩
  have e2 : ∀ (s : S) (ρ1 : En), (∃ x ys, s = .d x ∧ ρ1[i]? = some (.own ys) ∧ ta ρ1 fun s2 ρ2 => ∃ k j xs, s2 = .d (.int k) ∧ ρ2[i]? = some (.own xs) ∧ ixN xs.length k = some j ∧ D.nx (ρ2.set i (.own (xs.set j x)))) ↔
      (oneK s fun x => atK ρ1 i fun o => ownK o fun _ => ta ρ1 fun s2 ρ2 => intK s2 fun n => atK ρ2 i fun o => ownK o fun xs => ∃ j, ixN xs.length n = some j ∧ setK D.nx ρ2 i (.own (xs.set j x))) := by
    intro s ρ1
    simp only [e]
    constructor
    · intro ⟨x, ys, e1, e2, q⟩; exact ⟨x, e1, _, e2, ys, rfl, q⟩
    · intro ⟨x, e1, _, e2, ys, z, q⟩; exact ⟨x, ys, e1, z ▸ e2, q⟩
  unfold dPutAt
  simp only [e2]
theorem e_jput : dJPut i t D ρ ↔ t ρ fun s ρ1 => intK s fun _ => ρ1[i]? = some (.ob .jar) ∧ D.nx ρ1 := Iff.rfl
/-! expressions -/
theorem e_var : dVar i ρ Q ↔ atK ρ i fun s => s.firm ∧ Q s ρ := Iff.rfl
theorem e_k {x : PyData} : dK x ρ Q ↔ Q (.d x) ρ := Iff.rfl
theorem e_fz : dFz t ρ Q ↔ t ρ fun s ρ1 => fzK s fun s => Q s ρ1 := Iff.rfl
theorem e_op {f : F2} : dOp f ta tb ρ Q ↔ ta ρ fun s1 ρ1 => tb ρ1 fun s2 ρ2 => oneK s1 fun x => oneK s2 fun y => f x y fun s => Q s ρ2 := by
  have e : ∀ (s1 s2 : S) (ρ2 : En), (∃ x y, s1 = .d x ∧ s2 = .d y ∧ f x y fun s => Q s ρ2) ↔ (oneK s1 fun x => oneK s2 fun y => f x y fun s => Q s ρ2) := fun s1 s2 ρ2 => ⟨fun ⟨x, y, a, b, h⟩ => ⟨x, a, y, b, h⟩, fun ⟨x, a, y, b, h⟩ => ⟨x, y, a, b, h⟩⟩
  unfold dOp
  simp only [e]
theorem e_opL {f : F2} : dOpL i f tb ρ Q ↔ (atK ρ i fun o => ownK o fun _ => tb ρ fun s2 ρ2 => oneK s2 fun y => atK ρ2 i fun o => ownK o fun xs => f (.list xs) y fun s => Q s ρ2) := by
  have e : ∀ (s2 : S) (ρ2 : En), (∃ xs y, ρ2[i]? = some (.own xs) ∧ s2 = .d y ∧ f (.list xs) y fun s => Q s ρ2) ↔ (oneK s2 fun y => atK ρ2 i fun o => ownK o fun xs => f (.list xs) y fun s => Q s ρ2) := fun s2 ρ2 => ⟨fun ⟨x, y, a, b, h⟩ => ⟨y, b, .own x, a, x, rfl, h⟩, fun ⟨y, b, _, a, x, e, h⟩ => ⟨x, y, e ▸ a, b, h⟩⟩
  unfold dOpL
  simp only [e]
  exact ⟨fun ⟨⟨ys, a⟩, h⟩ => ⟨.own ys, a, ys, rfl, h⟩, fun ⟨_, a, ys, e, h⟩ => ⟨⟨ys, e ▸ a⟩, h⟩⟩
theorem e_opR {f : F2} : dOpR f ta i ρ Q ↔ ta ρ fun s1 ρ1 => oneK s1 fun x => atK ρ1 i fun o => ownK o fun ys => f x (.list ys) fun s => Q s ρ1 := by
  have e : ∀ (s1 : S) (ρ1 : En), (∃ x ys, s1 = .d x ∧ ρ1[i]? = some (.own ys) ∧ f x (.list ys) fun s => Q s ρ1) ↔ (oneK s1 fun x => atK ρ1 i fun o => ownK o fun ys => f x (.list ys) fun s => Q s ρ1) := fun s1 ρ1 => ⟨fun ⟨x, y, a, b, h⟩ => ⟨x, a, .own y, b, y, rfl, h⟩, fun ⟨x, a, _, b, y, e, h⟩ => ⟨x, y, a, e ▸ b, h⟩⟩
  unfold dOpR
  simp only [e]
theorem e_n {f : FN} : dN f as ρ Q ↔ as ρ fun ss ρ1 => dsK ss fun xs => f xs fun s => Q s ρ1 := Iff.rfl
theorem e_n1 {f : FN} : dN1 f i ρ Q ↔ atK ρ i fun o => ownK o fun xs => f [.list xs] fun s => Q s ρ := ⟨fun ⟨xs, a, h⟩ => ⟨.own xs, a, xs, rfl, h⟩, fun ⟨_, a, xs, e, h⟩ => ⟨xs, e ▸ a, h⟩⟩
theorem e_nil : dNil ρ QA ↔ QA [] ρ := Iff.rfl
theorem e_cons : dCons t as ρ QA ↔ t ρ fun s ρ1 => s.firm ∧ as ρ1 fun ss ρ2 => QA (s :: ss) ρ2 := Iff.rfl
theorem e_tup : dTup as ρ Q ↔ as ρ fun ss ρ1 => dsK ss fun xs => xs.length ≤ sizeLine ∧ Q (.d (.tuple xs)) ρ1 := Iff.rfl
theorem e_lst : dLst as ρ Q ↔ as ρ fun ss ρ1 => dsK ss fun xs => xs.length ≤ sizeLine ∧ Q (.own xs) ρ1 := Iff.rfl
theorem e_b : dB t ρ QB ↔ t ρ fun s ρ1 => boolK s fun b => QB b ρ1 := Iff.rfl
theorem e_not : dNot tt ρ QB ↔ tt ρ fun b ρ1 => QB (!b) ρ1 := Iff.rfl
theorem e_and : dAnd tt tu ρ QB ↔ tt ρ fun b ρ1 => iteK b (tu ρ1 QB) (QB false ρ1) := Iff.rfl
theorem e_or : dOr tt tu ρ QB ↔ tt ρ fun b ρ1 => iteK b (QB true ρ1) (tu ρ1 QB) := Iff.rfl
theorem e_andV : dAndV ta tb ρ Q ↔ ta ρ fun s ρ1 => boolK s fun b => iteK b (tb ρ1 Q) (Q (.d (.bool false)) ρ1) := Iff.rfl
theorem e_orV : dOrV ta tb ρ Q ↔ ta ρ fun s ρ1 => boolK s fun b => iteK b (Q (.d (.bool true)) ρ1) (tb ρ1 Q) := Iff.rfl
theorem e_notV : dNotV ta ρ Q ↔ ta ρ fun s ρ1 => boolK s fun b => Q (.d (.bool (!b))) ρ1 := Iff.rfl
theorem e_if : dIf tt ta tb ρ Q ↔ tt ρ fun b ρ1 => iteK b (ta ρ1 Q) (tb ρ1 Q) := Iff.rfl
theorem e_isi {T : String} : dIsi T t ρ Q ↔ t ρ fun s ρ1 => oneK s fun x => Q (.d (.bool (isK T x))) ρ1 := Iff.rfl
theorem e_neg : dNeg t ρ Q ↔ t ρ fun s ρ1 => intK s fun i => Q (.d (.int (-i))) ρ1 := Iff.rfl
theorem e_chain {f f' : F2} {tc : TEd} : dChain f f' ta tb tc ρ Q ↔ ta ρ fun s1 ρ1 => tb ρ1 fun s2 ρ2 => oneK s1 fun x => oneK s2 fun y => f x y fun s => boolK s fun b => iteK b (tc ρ2 fun s3 ρ3 => oneK s3 fun z => f' y z fun s => Q s ρ3) (Q (.d (.bool false)) ρ2) := by
  have e : ∀ (s1 s2 : S) (ρ2 : En) (P : PyData → PyData → Prop), (∃ x y, s1 = .d x ∧ s2 = .d y ∧ P x y) ↔ (oneK s1 fun x => oneK s2 fun y => P x y) := fun s1 s2 ρ2 P => ⟨fun ⟨x, y, a, b, h⟩ => ⟨x, a, y, b, h⟩, fun ⟨x, a, y, b, h⟩ => ⟨x, y, a, b, h⟩⟩
  unfold dChain
  simp only [e _ _ ρ]
  exact Iff.rfl
theorem e_call {F : FnD} {n : Nat} : dCall F n as ρ Q ↔ as ρ fun ss ρ1 => ss.length = n ∧ F ss fun s => Q s ρ1 := Iff.rfl
theorem e_callK {F : FnD} {n : Nat} {gS : List S → List S} : dCallK F n gS as ρ Q ↔ as ρ fun ss ρ1 => (gS ss).length = n ∧ F (gS ss) fun s => Q s ρ1 := Iff.rfl
theorem e_jint : dJInt i ρ Q ↔ (atK ρ i fun s => s = .ob .jar ∧ ∀ n : Int, Q (.d (.int n)) ρ) := ⟨fun ⟨e, h⟩ => ⟨_, e, rfl, h⟩, fun ⟨_, e, z, h⟩ => ⟨z ▸ e, h⟩⟩
theorem e_dict0 : dDict0 ρ Q ↔ Q (.d (.dict [])) ρ := Iff.rfl
theorem e_dict1 {z : Str} : dDict1 z t ρ Q ↔ t ρ fun s ρ1 => oneK s fun x => Q (.d (.dict [(.str z, x)])) ρ1 := Iff.rfl
theorem e_listRng : dListRng t ρ Q ↔ t ρ fun s ρ1 => intK s fun n => 0 ≤ n ∧ n ≤ 16777216 ∧ Q (.own (irow 0 n.toNat)) ρ1 := Iff.rfl
theorem e_append : dAppend i t ρ Q ↔ (atK ρ i fun o => ownK o fun _ => t ρ fun s ρ1 => oneK s fun x => atK ρ1 i fun o => ownK o fun xs => xs.length < sizeLine ∧ setK (Q (.d .none)) ρ1 i (.own (xs ++ [x]))) := by
  have e : ∀ (s : S) (ρ1 : En), (∃ x xs, s = .d x ∧ ρ1[i]? = some (.own xs) ∧ xs.length < sizeLine ∧ Q (.d .none) (ρ1.set i (.own (xs ++ [x])))) ↔ (oneK s fun x => atK ρ1 i fun o => ownK o fun xs => xs.length < sizeLine ∧ setK (Q (.d .none)) ρ1 i (.own (xs ++ [x]))) := fun s ρ1 => ⟨fun ⟨x, y, a, b, h⟩ => ⟨x, a, .own y, b, y, rfl, h⟩, fun ⟨x, a, _, b, y, e, h⟩ => ⟨x, y, a, e ▸ b, h⟩⟩
  unfold dAppend
  simp only [e]
  exact ⟨fun ⟨⟨ys, a⟩, h⟩ => ⟨.own ys, a, ys, rfl, h⟩, fun ⟨_, a, ys, e, h⟩ => ⟨⟨ys, e ▸ a⟩, h⟩⟩
theorem e_cut {l u : TOd} : dCut t l u ρ Q ↔ t ρ fun s ρ1 => l ρ1 fun lo ρ2 => u ρ2 fun hi ρ3 => oneK s fun x => fCut x lo hi fun s => Q s ρ3 := Iff.rfl
theorem e_cutO {l u : TOd} : dCutO i l u ρ Q ↔ (atK ρ i fun o => ownK o fun _ => l ρ fun lo ρ2 => u ρ2 fun hi ρ3 => atK ρ3 i fun o => ownK o fun xs => Q (.own (cutD xs lo hi)) ρ3) := by
  have e : ∀ (lo hi : Option Int) (ρ3 : En), (∃ xs, ρ3[i]? = some (.own xs) ∧ Q (.own (cutD xs lo hi)) ρ3) ↔ (atK ρ3 i fun o => ownK o fun xs => Q (.own (cutD xs lo hi)) ρ3) := fun lo hi ρ3 => ⟨fun ⟨x, a, h⟩ => ⟨.own x, a, x, rfl, h⟩, fun ⟨_, a, x, e, h⟩ => ⟨x, e ▸ a, h⟩⟩
  unfold dCutO
  simp only [e]
  exact ⟨fun ⟨⟨ys, a⟩, h⟩ => ⟨.own ys, a, ys, rfl, h⟩, fun ⟨_, a, ys, e, h⟩ => ⟨⟨ys, e ▸ a⟩, h⟩⟩
theorem e_onone {QO : Option Int → En → Prop} : dONone ρ QO ↔ QO none ρ := Iff.rfl
theorem e_osome {QO : Option Int → En → Prop} : dOSome t ρ QO ↔ t ρ fun s ρ1 => intK s fun i => QO (some i) ρ1 := Iff.rfl
theorem e_iseq {QI : List PyData → En → Prop} : dISeq t ρ QI ↔ t ρ fun s ρ1 => seqK s fun ds => QI ds ρ1 := Iff.rfl
theorem e_ienum {QI : List PyData → En → Prop} : dIEnum t ρ QI ↔ t ρ fun s ρ1 => seqK s fun ds => QI (pairsFrom 0 ds) ρ1 := by
  unfold dIEnum
  simp only [pairsOf_eq]
  exact Iff.rfl
theorem e_irng {QI : List PyData → En → Prop} : dIRng t ρ QI ↔ t ρ fun s ρ1 => intK s fun j => j < 2 ^ 60 ∧ -(2 ^ 60) < j ∧ QI (irow 0 j.toNat) ρ1 := Iff.rfl
theorem e_gname {d : PyData} {f : En → Prop} : dgName i d ρ f ↔ setK f ρ i (.d d) := Iff.rfl
theorem e_lnil {b : TSd} : dLoop g b D [] ρ ↔ D.nx ρ := Iff.rfl
theorem e_lcons {b : TSd} {d : PyData} {ds : List PyData} : dLoop g b D (d :: ds) ρ ↔ g d ρ fun ρ1 => b { nx := dLoop g b D ds, ct := dLoop g b D ds, bk := D.nx, rt := D.rt } ρ1 := Iff.rfl
theorem e_lc {ti : TId} {vs : List Nat} : dLc ti vs g tt t ρ Q ↔ ti ρ fun ds ρ1 => ds.length ≤ sizeLine ∧ dLcGo vs g tt t (wipeD ρ1 vs) (fun acc => Q (.own acc) (wipeD ρ1 vs)) ds [] := Iff.rfl
theorem e_yes : dYes ρ QB ↔ QB true ρ := Iff.rfl
/-! what is worked out -/
theorem f_addI {a b : Int} : fAdd (.int a) (.int b) k ↔ k (.d (.int (a + b))) := Iff.rfl
theorem f_addS {a b : Str} : fAdd (.str a) (.str b) k ↔ a.length + b.length ≤ sizeLine ∧ k (.d (.str (a ++ b))) := Iff.rfl
theorem f_addT {a b : List PyData} : fAdd (.tuple a) (.tuple b) k ↔ a.length + b.length ≤ sizeLine ∧ k (.d (.tuple (a ++ b))) := Iff.rfl
theorem f_addL {a b : List PyData} : fAdd (.list a) (.list b) k ↔ a.length + b.length ≤ sizeLine ∧ k (.own (a ++ b)) := Iff.rfl
theorem f_i2 {g : Int → Int → PyData} {c : Int → Int → Prop} {a b : Int} : fI2 g c (.int a) (.int b) k ↔ c a b ∧ k (.d (g a b)) := ⟨fun ⟨_, _, e1, e2, h⟩ => by cases e1; cases e2; exact h, fun h => ⟨_, _, rfl, rfl, h⟩⟩
theorem f_mulI {a b : Int} : fMul (.int a) (.int b) k ↔ (CMul a b ∨ CMulW a b) ∧ k (.d (.int (a * b))) := Iff.rfl
theorem f_mulT {a : List PyData} {n : Int} : fMul (.tuple a) (.int n) k ↔ -(2 ^ 62) < n ∧ n < 2 ^ 62 ∧ a.length * n.toNat ≤ sizeLine ∧ k (.d (.tuple (List.replicate n.toNat a).flatten)) := Iff.rfl
theorem f_mulL {a : List PyData} {n : Int} : fMul (.list a) (.int n) k ↔ -(2 ^ 62) < n ∧ n < 2 ^ 62 ∧ a.length * n.toNat ≤ sizeLine ∧ k (.own (List.replicate n.toNat a).flatten) := Iff.rfl
theorem f_eq {x y : PyData} : fEq x y k ↔ eqOk x y = true ∧ k (.d (.bool (PyData.eqv x y))) := Iff.rfl
theorem f_ne {x y : PyData} : fNe x y k ↔ eqOk x y = true ∧ k (.d (.bool (!PyData.eqv x y))) := Iff.rfl
theorem f_is {x : PyData} : fIs x .none k ↔ k (.d (.bool (isNon x))) := ⟨fun h => h.2, fun h => ⟨rfl, h⟩⟩
theorem f_isnot {x : PyData} : fIsNot x .none k ↔ k (.d (.bool (!isNon x))) := ⟨fun h => h.2, fun h => ⟨rfl, h⟩⟩
theorem f_in {x c : PyData} : fIn x c k ↔ ∃ b, inD x c = some b ∧ k (.d (.bool b)) := Iff.rfl
theorem f_notin {x c : PyData} : fNotIn x c k ↔ ∃ b, inD x c = some b ∧ k (.d (.bool (!b))) := Iff.rfl
theorem f_ixL {xs : List PyData} {n : Int} : fIx (.list xs) (.int n) k ↔ ∃ v, atI xs n = some v ∧ k (.d v) := ⟨fun ⟨_, e, h⟩ => by cases e; exact h, fun h => ⟨_, rfl, h⟩⟩
theorem f_ixT {xs : List PyData} {n : Int} : fIx (.tuple xs) (.int n) k ↔ ∃ v, atI xs n = some v ∧ k (.d v) := ⟨fun ⟨_, e, h⟩ => by cases e; exact h, fun h => ⟨_, rfl, h⟩⟩
theorem f_lenL {xs : List PyData} : fLen [.list xs] k ↔ k (.d (.int xs.length)) := Iff.rfl
theorem f_lenT {xs : List PyData} : fLen [.tuple xs] k ↔ k (.d (.int xs.length)) := Iff.rfl
theorem f_lenS {z : Str} : fLen [.str z] k ↔ z.length ≤ sizeLine ∧ k (.d (.int z.length)) := Iff.rfl
theorem f_abs {n : Int} : fAbs [.int n] k ↔ k (.d (.int n.natAbs)) := ⟨fun ⟨_, e, h⟩ => by cases e; exact h, fun h => ⟨_, rfl, h⟩⟩
theorem f_intI {n : Int} : fInt [.int n] k ↔ k (.d (.int n)) := Iff.rfl
theorem f_intB {b : Bool} : fInt [.bool b] k ↔ k (.d (.int (if b then 1 else 0))) := Iff.rfl
theorem f_tupL {xs : List PyData} : fTuple [.list xs] k ↔ k (.d (.tuple xs)) := Iff.rfl
theorem f_tupT {xs : List PyData} : fTuple [.tuple xs] k ↔ k (.d (.tuple xs)) := Iff.rfl
theorem f_lstL {xs : List PyData} : fList [.list xs] k ↔ k (.own xs) := Iff.rfl
theorem f_lstT {xs : List PyData} : fList [.tuple xs] k ↔ k (.own xs) := Iff.rfl
theorem f_repr {x : PyData} : fRepr [x] k ↔ x.showable = true ∧ x.shown.length ≤ sizeLine ∧ x.depth ≤ 60 ∧ k (.d (.str x.shown)) := ⟨fun ⟨_, e, h⟩ => by cases e; exact h, fun h => ⟨_, rfl, h⟩⟩
theorem f_cutL {xs : List PyData} {lo hi : Option Int} : fCut (.list xs) lo hi k ↔ k (.own (cutD xs lo hi)) := Iff.rfl
theorem f_cutT {xs : List PyData} {lo hi : Option Int} : fCut (.tuple xs) lo hi k ↔ k (.d (.tuple (cutD xs lo hi))) := Iff.rfl
theorem firm_d {x : PyData} : S.firm (.d x) ↔ True := Iff.rfl
theorem firm_ob {t : Tk} : S.firm (.ob t) ↔ True := Iff.rfl
end
end GB

namespace GB
open PySem PySem.Spec PyProof.Rows L2

/-! comprehensions of two clauses -/
theorem walk_it {J : It} {n : Nat} {G : Hp → Prop} {Y : Nat → Hp → V → Hp → Prop} (w : Walk J n G Y) {Body : (Hp → Prop) → V → Hp → Prop} {Qd : Hp → Prop} {H0 : Hp} (Pv : Nat → Hp → Prop) (h0 : Pv 0 H0) (hG : ∀ i H, i ≤ n → Pv i H → G H)
    (hs : ∀ i x H H', i < n → Pv i H → Y i H x H' → Body (Pv (i + 1)) x H') (hd : ∀ H, Pv n H → Qd H) :
    ∃ W : Nat → Nat → Hp → Prop, (∃ m, W 0 m H0) ∧ ∀ i m H, W i m H → (J.stop i H ∧ Qd H) ∨ (J.go i H ∧ ∃ Nx : Hp → Prop, (∀ H', Nx H' → ∃ m', m' < m ∧ W (i + 1) m' H') ∧ ∀ x H', J.yld i H x H' → Body Nx x H') := by
  refine ⟨fun i m H => m = n - i ∧ i ≤ n ∧ Pv i H, ⟨n, by simp, Nat.zero_le _, h0⟩, ?_⟩
  rintro i m H ⟨rfl, hi, p⟩
  have q := hG i H hi p
  by_cases hlt : i < n
  · exact .inr ⟨w.goes i H hlt q, Pv (i + 1), fun H' p' => ⟨n - (i + 1), by omega, rfl, hlt, p'⟩, fun x H' y => hs i x H H' hlt p (w.yields i H x H' hlt q y)⟩
  · have e : i = n := by omega
    subst e
    exact .inl ⟨w.stops H q, hd H p⟩
def dInGo (vs : List Nat) (g : DTG) (tt : TTd) (te : TEd) (ρw : En) (K : List PyData → Prop) : List PyData → List PyData → Prop
  | [], acc => K acc
  | d :: ds, acc => g d ρw fun ρ2 => wipeD ρ2 vs = ρw ∧ tt ρ2 fun b ρ3 => ρ3 = ρ2 ∧ if b = true then te ρ2 fun s ρ4 => ρ4 = ρ2 ∧ ∃ y, s = .d y ∧ acc.length < sizeLine ∧ dInGo vs g tt te ρw K ds (acc ++ [y]) else dInGo vs g tt te ρw K ds acc
def dLc2Go (vs vs1 : List Nat) (g : DTG) (tt : TTd) (ti1 : TId) (g1 : DTG) (tt1 : TTd) (te : TEd) (ρw : En) (Q : List PyData → Prop) : List PyData → List PyData → Prop
  | [], acc => Q acc
  | d :: ds, acc => g d ρw fun ρ2 => wipeD ρ2 vs = ρw ∧ tt ρ2 fun b ρ3 => ρ3 = ρ2 ∧ if b = true then ti1 ρ2 fun ds1 ρ4 => ρ4 = ρ2 ∧ dInGo vs1 g1 tt1 te (wipeD ρ2 vs1) (fun acc => dLc2Go vs vs1 g tt ti1 g1 tt1 te ρw Q ds acc) ds1 acc else dLc2Go vs vs1 g tt ti1 g1 tt1 te ρw Q ds acc
def dLc2 (ti : TId) (vs vs1 : List Nat) (g : DTG) (tt : TTd) (ti1 : TId) (g1 : DTG) (tt1 : TTd) (te : TEd) : TEd := fun ρ Q => ti ρ fun ds ρ1 => dLc2Go vs vs1 g tt ti1 g1 tt1 te (wipeD ρ1 vs) (fun acc => Q (.own acc) (wipeD ρ1 vs)) ds []
section
variable {L : Lay}
theorem wipe_wipe {σ : L2.St} {vs : List Nat} : wipe (wipe σ vs) vs = wipe σ vs := by
  apply List.ext_getElem?
  intro j
  rw [wipe_get, wipe_length, wipe_get]
  split <;> rfl
theorem back {σ2 σw : L2.St} {ρw ρ2 : En} {vs : List Nat} {H1 H3 H4 : Hp} {D : Addr} {o : HO} (e2 : wipeD ρ2 vs = ρw) (no2 : NoOwn vs ρ2) (ew : wipe σ2 vs = σw) (dS : ∀ (i : Nat) (ys : List PyData), ρw[i]? = some (.own ys) → σw[i]? ≠ some (some (.ref D)))
    (goi : Go σw ρw ρw H1 H3) (hD : H3 D = some o) (g4 : Go σ2 ρ2 ρ2 H3 H4) (r4 : Rel L H4 σ2 ρ2) : Go σw ρw ρw H1 H4 ∧ Rel L H4 σw ρw ∧ H4 D = some o := by
  subst ew
  have outw : ∀ j, j ∉ vs → (wipe σ2 vs)[j]? = σ2[j]? := fun j hj => GB.wipe_out σ2 vs j hj
  have own2 : ∀ (j : Nat) (xs : List PyData), ρ2[j]? = some (.own xs) → j ∉ vs ∧ ρw[j]? = some (.own xs) := fun j xs ej => by
    have nj : j ∉ vs := fun m => no2 j m xs ej
    exact ⟨nj, by rw [← e2, wipeD_get, if_neg nj]; exact ej⟩
  refine ⟨⟨fun a o h n => ?_, fun j xs ej => ⟨xs, ej⟩, fun a h => goi.dom a (g4.dom a h)⟩, ?_, ?_⟩
  · refine g4.stay a o (goi.stay a o h n) fun j xs ej z => ?_
    obtain ⟨nj, ej'⟩ := own2 j xs ej
    exact n j xs ej' (by rw [outw j nj]; exact z)
  · have := (r4.wiped (vs := vs)).move (σ' := wipe σ2 vs) (wipe_length σ2 vs) outw
    rw [e2] at this; exact this
  · refine g4.stay D _ hD fun j xs ej z => ?_
    obtain ⟨nj, ej'⟩ := own2 j xs ej
    exact dS j xs ej' (by rw [outw j nj]; exact z)
theorem wipeD_in {ρ : En} {vs vs1 : List Nat} (hv : ∀ i ∈ vs1, i ∈ vs) : wipeD (wipeD ρ vs1) vs = wipeD ρ vs := by
  apply List.ext_getElem?
  intro j
  rw [wipeD_get, wipeD_get, wipeD_len, wipeD_get]
  by_cases h : j ∈ vs
  · rw [if_pos h, if_pos h]
  · rw [if_neg h, if_neg h, if_neg fun m => h (hv j m)]
theorem Go.shift {σ σ' : L2.St} {ρ ρ' : En} {H H' : Hp} (go : Go σ ρ ρ H H') (h : ∀ (i : Nat) (xs : List PyData), ρ[i]? = some (.own xs) → ρ'[i]? = some (.own xs) ∧ σ'[i]? = σ[i]?) : Go σ' ρ' ρ' H H' :=
  ⟨fun a o e n => go.stay a o e fun i xs q z => n i xs (h i xs q).1 ((h i xs q).2.trans z), fun i xs e => ⟨xs, e⟩, go.dom⟩
theorem app_go {σw : L2.St} {ρw : En} {H1 H : Hp} {D : Addr} {ws : List V} (go : Go σw ρw ρw H1 H) (hD : H1 D = none) : Go σw ρw ρw H1 (upd H D (.lst ws)) := by
  refine ⟨fun a o h n => ?_, fun j xs ej => ⟨xs, ej⟩, fun a h => ?_⟩
  · rw [upd_ne (fun z => by rw [z, hD] at h; cases h)]; exact go.stay a o h n
  · by_cases z : a = D
    · rw [z]; exact hD
    · rw [upd_ne z] at h; exact go.dom a h
variable {ti ti1 : TId} {vs vs1 : List Nat} {g g1 : DTG} {tt tt1 : TTd} {te : TEd}
theorem lc2_read {gt gt1 : TG} (hv : ∀ i ∈ vs1, i ∈ vs) (hg : GOwn L vs gt g) (hg1 : GOwn L vs1 gt1 g1) : ∀ σ H Q', tE L (dLc2 ti vs vs1 g tt ti1 g1 tt1 te) σ H Q' → tLc2 (tI L ti) gt (tT L tt) (tI L ti1) gt1 (tT L tt1) (tE L te) vs vs1 σ H Q' := by
  intro σ H Q' q
  obtain ⟨ρ, Q, r, q, fin⟩ := q
  refine ⟨ρ, _, r, q, fun J H1 ds ρ1 go r1 q1 it D hD => ?_⟩
  obtain ⟨G, Y, wk, g0, gk, step⟩ := it
  have rw1 : Rel L H1 (wipe σ vs) (wipeD ρ1 vs) := r1.wiped.move (wipe_length σ vs) (GB.wipe_out σ vs)
  have sD := same_new (o := .lst []) hD
  have d0 : L.H0 D = none := r1.same.free hD
  have dSlot : ∀ (i : Nat) (ys : List PyData), (wipeD ρ1 vs)[i]? = some (.own ys) → (wipe σ vs)[i]? ≠ some (some (.ref D)) := fun i ys e z => by
    obtain ⟨l', us', q1, q2, _⟩ := rw1.getO e
    rw [z] at q1; cases q1
    rw [hD] at q2; cases q2
  refine walk_it wk (fun i H2 => Keep H1 H2 ∧ Go (wipe σ vs) (wipeD ρ1 vs) (wipeD ρ1 vs) H1 H2 ∧ Rel L H2 (wipe σ vs) (wipeD ρ1 vs) ∧ ∃ acc us, H2 D = some (.lst us) ∧ BrA L.K H2 us acc ∧ dLc2Go vs vs1 g tt ti1 g1 tt1 te (wipeD ρ1 vs) (fun acc => Q (.own acc) (wipeD ρ1 vs)) (ds.drop i) acc)
    ⟨keep_of_same sD, Go.sm sD, rw1.go sD, [], [], upd_same, .nil, q1⟩ (fun i H2 _ ⟨k, _⟩ => gk _ _ k g0) (fun i x H2 H3 hi ⟨k, goi, r2, acc, us, hDl, hb, ql⟩ hy => ?_) fun H2 ⟨k, goi, r2, acc, us, hDl, hb, ql⟩ => ?_
  · obtain ⟨sm, d, hd, bd⟩ := step i H2 x H3 hi k (gk _ _ k g0) hy
    have e : ds.drop i = d :: ds.drop (i + 1) := by
      obtain ⟨hi', e⟩ := List.getElem?_eq_some_iff.mp hd
      rw [List.drop_eq_getElem_cons hi', e]
    rw [e] at ql
    have go3 : Go (wipe σ vs) (wipeD ρ1 vs) (wipeD ρ1 vs) H1 H3 := goi.tr (Go.sm sm)
    have hD3 : H3 D = some (.lst us) := sm D _ hDl
    refine hg (r2.go sm) (noOwn_wiped ρ1) bd ql fun σ2 ρ2 r3 no2 q3 ew => ⟨?_, ?_⟩
    · rw [ew, wipe_wipe]
    · obtain ⟨e2, q3⟩ := q3
      have ew2 : wipe σ2 vs = wipe σ vs := by rw [ew, wipe_wipe]
      refine ⟨ρ2, _, r3, q3, fun b H4 ρ3 go4 r4 q4 => ?_⟩
      obtain ⟨e3, q4⟩ := q4
      subst e3
      obtain ⟨goA, rA, dA⟩ := back e2 no2 ew2 dSlot go3 hD3 go4 r4
      have k4 : Keep H2 H4 := (keep_of_same sm).tr (go4.keep r3)
      cases b with
      | false => exact iteF ⟨k.tr k4, goA, rA, acc, us, dA, BrA.keep k4 _ _ hb, by simpa using q4⟩
      | true =>
        refine iteT ⟨ρ3, _, r4, by simpa using q4, fun J1 H5 ds1 ρ4 go5 r5 q5 it1 => ?_⟩
        obtain ⟨e4, q5⟩ := q5
        subst e4
        obtain ⟨goB, rB, dB⟩ := back e2 no2 ew2 dSlot go3 hD3 (go4.tr go5) r5
        have k5 : Keep H2 H5 := k4.tr (go5.keep r4)
        obtain ⟨G1, Y1, wk1, g01, gk1, step1⟩ := it1
        have rin : Rel L H5 (wipe σ2 vs1) (wipeD ρ4 vs1) := r5.wiped.move (wipe_length σ2 vs1) (GB.wipe_out σ2 vs1)
        have dSl2 : ∀ (i : Nat) (ys : List PyData), ρ4[i]? = some (.own ys) → σ2[i]? ≠ some (some (.ref D)) := fun j ys ej z => by
          have nj : j ∉ vs := fun m => no2 j m ys ej
          have ej' : (wipeD ρ1 vs)[j]? = some (.own ys) := by rw [← e2, wipeD_get, if_neg nj]; exact ej
          exact dSlot j ys ej' (by rw [← ew2, GB.wipe_out σ2 vs j nj]; exact z)
        have dSin : ∀ (i : Nat) (ys : List PyData), (wipeD ρ4 vs1)[i]? = some (.own ys) → (wipe σ2 vs1)[i]? ≠ some (some (.ref D)) := fun j ys ej z => by
          have nj : j ∉ vs1 := fun m => noOwn_wiped (vs := vs1) ρ4 j m ys ej
          rw [wipeD_get, if_neg nj] at ej
          rw [GB.wipe_out σ2 vs1 j nj] at z
          exact dSl2 j ys ej z
        have out2 : ∀ (i : Nat) (xs : List PyData), (wipeD ρ1 vs)[i]? = some (.own xs) → (wipeD ρ4 vs1)[i]? = some (.own xs) ∧ (wipe σ2 vs1)[i]? = (wipe σ vs)[i]? := fun j xs ej => by
          have nj : j ∉ vs := fun m => noOwn_wiped (vs := vs) ρ1 j m xs ej
          have nj1 : j ∉ vs1 := fun m => nj (hv j m)
          rw [← e2, wipeD_get, if_neg nj] at ej
          refine ⟨by rw [wipeD_get, if_neg nj1]; exact ej, by rw [GB.wipe_out σ2 vs1 j nj1, ← GB.wipe_out σ2 vs j nj, ew2]⟩
        have in2 : ∀ (i : Nat) (xs : List PyData), (wipeD ρ4 vs1)[i]? = some (.own xs) → (wipeD ρ1 vs)[i]? = some (.own xs) ∧ (wipe σ vs)[i]? = (wipe σ2 vs1)[i]? := fun j xs ej => by
          have nj1 : j ∉ vs1 := fun m => noOwn_wiped (vs := vs1) ρ4 j m xs ej
          rw [wipeD_get, if_neg nj1] at ej
          have nj : j ∉ vs := fun m => no2 j m xs ej
          refine ⟨by rw [← e2, wipeD_get, if_neg nj]; exact ej, by rw [GB.wipe_out σ2 vs1 j nj1, ← GB.wipe_out σ2 vs j nj, ew2]⟩
        refine walk_it wk1 (fun j H6 => Keep H5 H6 ∧ Go (wipe σ2 vs1) (wipeD ρ4 vs1) (wipeD ρ4 vs1) H1 H6 ∧ Rel L H6 (wipe σ2 vs1) (wipeD ρ4 vs1) ∧ ∃ acc us, H6 D = some (.lst us) ∧ BrA L.K H6 us acc ∧
            dInGo vs1 g1 tt1 te (wipeD ρ4 vs1) (fun acc => dLc2Go vs vs1 g tt ti1 g1 tt1 te (wipeD ρ1 vs) (fun acc => Q (.own acc) (wipeD ρ1 vs)) (ds.drop (i + 1)) acc) (ds1.drop j) acc)
          ⟨Keep.rfl' H5, goB.shift out2, rin, acc, us, dB, BrA.keep k5 _ _ hb, q5⟩ (fun j H6 _ ⟨k6, _⟩ => gk1 _ _ k6 g01) (fun j x1 H6 H7 hj ⟨k6, goD, rD, acc6, us6, hD6, hb6, ql6⟩ hy1 => ?_) fun H6 ⟨k6, goD, rD, acc6, us6, hD6, hb6, ql6⟩ => ?_
        · obtain ⟨sm1, d1, hd1, bd1⟩ := step1 j H6 x1 H7 hj k6 (gk1 _ _ k6 g01) hy1
          have e1 : ds1.drop j = d1 :: ds1.drop (j + 1) := by
            obtain ⟨hj', e⟩ := List.getElem?_eq_some_iff.mp hd1
            rw [List.drop_eq_getElem_cons hj', e]
          rw [e1] at ql6
          have go7 : Go (wipe σ2 vs1) (wipeD ρ4 vs1) (wipeD ρ4 vs1) H1 H7 := goD.tr (Go.sm sm1)
          have hD7 : H7 D = some (.lst us6) := sm1 D _ hD6
          refine hg1 (rD.go sm1) (noOwn_wiped ρ4) bd1 ql6 fun σ3 ρ5 r7 no3 q7 ew3 => ⟨?_, ?_⟩
          · rw [ew3, wipe_wipe]
          · obtain ⟨e5, q7⟩ := q7
            have ew4 : wipe σ3 vs1 = wipe σ2 vs1 := by rw [ew3, wipe_wipe]
            refine ⟨ρ5, _, r7, q7, fun b H8 ρ6 go8 r8 q8 => ?_⟩
            obtain ⟨e6, q8⟩ := q8
            subst e6
            obtain ⟨goE, rE, dE⟩ := back e5 no3 ew4 dSin go7 hD7 go8 r8
            have k8 : Keep H6 H8 := (keep_of_same sm1).tr (go8.keep r7)
            cases b with
            | false => exact iteF ⟨k6.tr k8, goE, rE, acc6, us6, dE, BrA.keep k8 _ _ hb6, by simpa using q8⟩
            | true =>
              refine iteT ⟨ρ6, _, r8, by simpa using q8, fun y H9 s ρ7 go9 r9 hvv q9 => ?_⟩
              obtain ⟨e7, y', rfl, hz, q10⟩ := q9
              subst e7
              obtain ⟨goG, rG, dG⟩ := back e5 no3 ew4 dSin go7 hD7 (go8.tr go9) r9
              have k9 : Keep H6 H9 := k8.tr (go9.keep r8)
              have kD : Keep H9 (upd H9 D (.lst (us6 ++ [y]))) := keep_put dG trivial
              have lu := hb6.len
              exact ⟨us6, dG, by omega, (k6.tr k9).tr kD, app_go goG hD, rG.other dG d0 dSin, acc6 ++ [y'], us6 ++ [y], upd_same, ((BrA.keep (k9.tr kD) _ _ hb6).app (BrA.one (Br.keep kD _ _ hvv))), q10⟩
        · rw [List.drop_length] at ql6
          refine ⟨(k.tr k5).tr k6, goD.shift in2, ?_, acc6, us6, hD6, hb6, ql6⟩
          have h := (rD.wiped (vs := vs)).move (σ' := wipe σ vs) (by rw [wipe_length, wipe_length, ← wipe_length σ vs, ← ew2, wipe_length]) fun j hj => by
            rw [GB.wipe_out σ2 vs1 j (fun m => hj (hv j m)), ← GB.wipe_out σ2 vs j hj, ew2]
          rw [wipeD_in hv, e2] at h; exact h
  · rw [List.drop_length] at ql
    have goF : Go σ ρ1 (wipeD ρ1 vs) H1 H2 := ⟨fun a o h n => goi.stay a o h fun j xs ej z => by
        by_cases nj : j ∈ vs
        · exact noOwn_wiped ρ1 j nj xs ej
        · rw [wipeD_get, if_neg nj] at ej
          rw [GB.wipe_out σ vs j nj] at z
          exact n j xs ej z, fun j xs ej => by
        by_cases nj : j ∈ vs
        · exact absurd ej (noOwn_wiped ρ1 j nj xs)
        · rw [wipeD_get, if_neg nj] at ej; exact ⟨xs, ej⟩, goi.dom⟩
    exact fin (.ref D) H2 (.own acc) _ (go.tr goF) (r2.move (wipe_length σ vs).symm fun j hj => (GB.wipe_out σ vs j hj).symm) ⟨⟨D, us, rfl, hDl, hb, d0⟩, fun l e => by cases e; exact go.dom _ hD⟩ ql
end
section
variable {X : Cx} {L : Lay} {elt tg iter tg1 iter1 : Expr} {ifs ifs1 : List Expr} {scope : Scope} {own : List (Str × Nat)} {vs1 : List Nat} {pos : Pos} {ti ti1 : TId} {g g1 : DTG} {gt gt1 : TG} {tt tt1 : TTd} {te : TEd}
theorem de_lc2 (gd : Good X) (hi : PI X tg iter (tI L ti)) (ok : BlkOk X.N X.env.scope scope own) (hv : ∀ i ∈ vs1, i ∈ own.map (·.2))
    (hg : ∀ (s : Shared) (H : Hp) (C : Addr) (cl : List (Str × Addr)) (fp : List Addr), PG (X.blk s H scope (compEnvC scope cl C X.env) fp) tg gt) (ho : GOwn L (own.map (·.2)) gt g) (ht : ∀ (s : Shared) (H : Hp) (C : Addr) (cl : List (Str × Addr)) (fp : List Addr), Good (X.blk s H scope (compEnvC scope cl C X.env) fp) → PTs (X.blk s H scope (compEnvC scope cl C X.env) fp) ifs (tT L tt))
    (hi1 : ∀ (s : Shared) (H : Hp) (C : Addr) (cl : List (Str × Addr)) (fp : List Addr), Good (X.blk s H scope (compEnvC scope cl C X.env) fp) → PI (X.blk s H scope (compEnvC scope cl C X.env) fp) tg1 iter1 (tI L ti1)) (hg1 : ∀ (s : Shared) (H : Hp) (C : Addr) (cl : List (Str × Addr)) (fp : List Addr), PG (X.blk s H scope (compEnvC scope cl C X.env) fp) tg1 gt1) (ho1 : GOwn L vs1 gt1 g1) (ht1 : ∀ (s : Shared) (H : Hp) (C : Addr) (cl : List (Str × Addr)) (fp : List Addr), Good (X.blk s H scope (compEnvC scope cl C X.env) fp) → PTs (X.blk s H scope (compEnvC scope cl C X.env) fp) ifs1 (tT L tt1))
    (he : ∀ (s : Shared) (H : Hp) (C : Addr) (cl : List (Str × Addr)) (fp : List Addr), Good (X.blk s H scope (compEnvC scope cl C X.env) fp) → PE (X.blk s H scope (compEnvC scope cl C X.env) fp) elt (tE L te)) (hs : ∀ x, foldedSetIterable iter X.env x = pure x := by intro _; rfl) (hs1 : ∀ env x, foldedSetIterable iter1 env x = pure x := by intro _ _; rfl) : PE X (.ListComp elt [⟨tg, iter, ifs, 0⟩, ⟨tg1, iter1, ifs1, 0⟩] scope pos) (tE L (dLc2 ti (own.map (·.2)) vs1 g tt ti1 g1 tt1 te)) :=
  (pe_lc2 gd.calm gd.nd hi ok hv hg (fun s H C cl fp => ht s H C cl fp ⟨gd.calm, gd.gd, gd.sys, gd.un, gd.nd⟩) (fun s H C cl fp => hi1 s H C cl fp ⟨gd.calm, gd.gd, gd.sys, gd.un, gd.nd⟩) hg1 (fun s H C cl fp => ht1 s H C cl fp ⟨gd.calm, gd.gd, gd.sys, gd.un, gd.nd⟩) (fun s H C cl fp => he s H C cl fp ⟨gd.calm, gd.gd, gd.sys, gd.un, gd.nd⟩) hs hs1).less (lc2_read hv ho ho1)
theorem ds_setLc2 {i : Nat} {y : Str} {py spos : Pos} (gd : Good X) (hy : X.N[i]? = some y) (hyl : X.env.scope.names.lookup y = some .local) (hsw : swapsWith (.ListComp elt [⟨tg, iter, ifs, 0⟩, ⟨tg1, iter1, ifs1, 0⟩] scope pos) (some (.Name y py)) spos.line X.env = pure true) (hi : PI X tg iter (tI L ti)) (ok : BlkOk X.N X.env.scope scope own) (hv : ∀ i ∈ vs1, i ∈ own.map (·.2))
    (hg : ∀ (s : Shared) (H : Hp) (C : Addr) (cl : List (Str × Addr)) (fp : List Addr), PG (X.blk s H scope (compEnvC scope cl C X.env) fp) tg gt) (ho : GOwn L (own.map (·.2)) gt g) (ht : ∀ (s : Shared) (H : Hp) (C : Addr) (cl : List (Str × Addr)) (fp : List Addr), Good (X.blk s H scope (compEnvC scope cl C X.env) fp) → PTs (X.blk s H scope (compEnvC scope cl C X.env) fp) ifs (tT L tt))
    (hi1 : ∀ (s : Shared) (H : Hp) (C : Addr) (cl : List (Str × Addr)) (fp : List Addr), Good (X.blk s H scope (compEnvC scope cl C X.env) fp) → PI (X.blk s H scope (compEnvC scope cl C X.env) fp) tg1 iter1 (tI L ti1)) (hg1 : ∀ (s : Shared) (H : Hp) (C : Addr) (cl : List (Str × Addr)) (fp : List Addr), PG (X.blk s H scope (compEnvC scope cl C X.env) fp) tg1 gt1) (ho1 : GOwn L vs1 gt1 g1) (ht1 : ∀ (s : Shared) (H : Hp) (C : Addr) (cl : List (Str × Addr)) (fp : List Addr), Good (X.blk s H scope (compEnvC scope cl C X.env) fp) → PTs (X.blk s H scope (compEnvC scope cl C X.env) fp) ifs1 (tT L tt1))
    (he : ∀ (s : Shared) (H : Hp) (C : Addr) (cl : List (Str × Addr)) (fp : List Addr), Good (X.blk s H scope (compEnvC scope cl C X.env) fp) → PE (X.blk s H scope (compEnvC scope cl C X.env) fp) elt (tE L te)) (hs : ∀ x, foldedSetIterable iter X.env x = pure x := by intro _; rfl) (hs1 : ∀ env x, foldedSetIterable iter1 env x = pure x := by intro _ _; rfl) :
    PS X (.Assign [.Name y py] (.ListComp elt [⟨tg, iter, ifs, 0⟩, ⟨tg1, iter1, ifs1, 0⟩] scope pos) spos) (tS L (dSet i (dLc2 ti (own.map (·.2)) vs1 g tt ti1 g1 tt1 te))) :=
  (ps_setLc2 gd.calm gd.nd hy hyl hsw hi ok hv hg (fun s H C cl fp => ht s H C cl fp ⟨gd.calm, gd.gd, gd.sys, gd.un, gd.nd⟩) (fun s H C cl fp => hi1 s H C cl fp ⟨gd.calm, gd.gd, gd.sys, gd.un, gd.nd⟩) hg1 (fun s H C cl fp => ht1 s H C cl fp ⟨gd.calm, gd.gd, gd.sys, gd.un, gd.nd⟩) (fun s H C cl fp => he s H C cl fp ⟨gd.calm, gd.gd, gd.sys, gd.un, gd.nd⟩) hs hs1).less fun D σ H q => by
    obtain ⟨ρ, De, r, q, n1, _⟩ := q
    exact lc2_read hv ho ho1 _ _ _ ⟨ρ, _, r, q, fun v H' s ρ' go r' hv n => n1 _ _ _ (go.keep r) (r.set r' go hv) n⟩
theorem e_lc2 {ρ : En} {Q : S → En → Prop} {vs : List Nat} : dLc2 ti vs vs1 g tt ti1 g1 tt1 te ρ Q ↔ ti ρ fun ds ρ1 => dLc2Go vs vs1 g tt ti1 g1 tt1 te (wipeD ρ1 vs) (fun acc => Q (.own acc) (wipeD ρ1 vs)) ds [] := Iff.rfl
end
end GB

namespace GB
open PySem PySem.Spec PyProof.Rows L2

/-! x, y = a, b with names that a block captures: the pair is built and taken apart -/
section
variable {X : Cx} {L : Lay} {a b : Expr} {t1 t2 : TEd} {pos : Pos}
theorem ds_parT {i j : Nat} {x y : Str} {px py pt : Pos} {kt k2 pt2} (g : Good X) (hK : L.K = X.K) (hi : X.N[i]? = some x) (hj : X.N[j]? = some y) (hij : i ≠ j) (hx : Loc X.env.scope x) (hy : Loc X.env.scope y)
    (ha : PE X a (tE L t1)) (hb : PE X b (tE L t2))
    (hfx : X.fn x = true ∨ X.env.scope.names.lookup x = some .local := by first | exact .inl rfl | exact .inr rfl) (hfy : X.fn y = true ∨ X.env.scope.names.lookup y = some .local := by first | exact .inl rfl | exact .inr rfl)
    (hw : swappedStores [.Tuple [.Name x px, .Name y py] kt pt] (.Tuple [a, b] k2 pt2) X.env = pure none := by rfl)
    (h1 : starEach [a, b] X.env = (false, eval a X.env) :: starEach [b] X.env := by rfl) (h2 : starEach [b] X.env = (false, eval b X.env) :: starEach [] X.env := by rfl)
    (e1 : (assignEach [.Name x px, .Name y py] X.env).map (·.2) = assign (.Name x px) X.env :: (assignEach [.Name y py] X.env).map (·.2) := by rfl) (e2 : (assignEach [.Name y py] X.env).map (·.2) = assign (.Name y py) X.env :: (assignEach [] X.env).map (·.2) := by rfl)
    (e3 : (assignEach [.Name x px, .Name y py] X.env).length = 2 := by rfl) (e4 : (assignEach [.Name x px, .Name y py] X.env).findIdx? (·.1) = none := by rfl)
    (e5 : (assignEach [.Tuple [.Name x px, .Name y py] kt pt] X.env).map (·.2) = [assign (.Tuple [.Name x px, .Name y py] kt pt) X.env] := by rfl)
    (hs : swapsWithSole [.Tuple [.Name x px, .Name y py] kt pt] (.Tuple [a, b] k2 pt2) pos.line X.env = pure false := by rfl) :
    PS X (.Assign [.Tuple [.Name x px, .Name y py] kt pt] (.Tuple [a, b] k2 pt2) pos) (tS L (dPar i j t1 t2)) :=
  (ps_asg (pe_tup (pa_cons ha (pa_cons hb pa_nil h2) h1)) (pg_tup g.calm (pgs_cons (pg_name g.nd hi hx hfx) (pgs_cons (pg_name g.nd hj hy hfy) pgs_nil e2) e1) e3 e4) hs hw e5).less fun D σ H q => by
    obtain ⟨ρ, De, r, q, n1, _⟩ := q
    refine ⟨ρ, _, r, q, fun v H1 s ρ1 go r1 hv q1 => ⟨ρ1, _, r1, q1, fun w H2 s2 ρ2 go2 r2 hw q2 => ⟨(show (2 : Nat) ≤ sizeLine by decide), fun p hp => ?_⟩⟩⟩
    have sm : Same H2 (upd H2 p (.tup [v, w])) := same_new hp
    have r3 := r2.go sm
    have g3 : Go σ ρ2 ρ2 H2 (upd H2 p (.tup [v, w])) := Go.sm sm
    have hv3 := (hv.later r go r1 go2).later r (go.tr go2) r2 g3
    have hw3 := hw.later r1 go2 r2 g3
    have ra := r3.put1 (j := i) (r.old (go.tr go2)) hv3
    have rb := ra.put1 (j := j) ((r.old (go.tr go2)).set (Hm := H1) (go.dom) hv.there) hw3
    exact ⟨p, [v, w], rfl, .inl (.inl upd_same), rfl, v, [w], rfl, w, [], rfl, rfl, n1 _ _ _ (((go.tr go2).keep r).tr (keep_of_same sm)) rb q2⟩
end
end GB

namespace GB
open PySem PySem.Spec PyProof.Rows L2 HT

/-! a row backwards: t[::-1] -/
section
variable {prog : Program} {w : World} {A : Around} {E : Value → Shared → Prop} {s : Shared}
theorem rev_places (n : Nat) : Builtin.Slice.slicePlaces ((n : Int) - 1) (-1) (-1) = n := by
  unfold Builtin.Slice.slicePlaces
  have h1 : ¬ ((-1 : Int) > 0) := by decide
  simp only [h1, if_false]
  by_cases h : (n : Int) - 1 > -1
  · rw [if_pos h, show (- -1 : Int) = 1 by decide, Int.ediv_one]; omega
  · rw [if_neg h]; omega
theorem fm_congr {α β : Type} {f g : α → Option β} : ∀ {xs : List α}, (∀ x ∈ xs, f x = g x) → xs.filterMap f = xs.filterMap g
  | [], _ => rfl
  | x :: xs, h => by
    rw [List.filterMap_cons, List.filterMap_cons, h x (by simp), fm_congr fun y hy => h y (by simp [hy])]
theorem rev_pick (xs : Array Value) : ((List.range xs.size).filterMap fun (m : Nat) => xs[((xs.size : Int) - 1 + (m : Int) * (-1)).toNat]?).toArray = xs.toList.reverse.toArray := by
  have e : (List.range xs.size).filterMap (fun (m : Nat) => xs[((xs.size : Int) - 1 + (m : Int) * (-1)).toNat]?) = ((List.range xs.size).map fun k => xs.size - 1 - k).filterMap (xs[·]?) := by
    rw [List.filterMap_map]
    refine fm_congr fun m hm => ?_
    have := List.mem_range.mp hm
    have q : ((xs.size : Int) - 1 + (m : Int) * (-1)).toNat = xs.size - 1 - m := by omega
    rw [q]; rfl
  rw [e, PySem.W.krv_range, List.filterMap_reverse, PySem.W.krv_all]
theorem applied_rev {sl : Addr} {vs : Value} {n : Nat} {Q : Int × Int × Nat → Shared → Prop} (hs : s.heap.IsSliceOf sl .none .none vs) (ps : IsPart vs (some (-1)))
    (h : Q ((n : Int) - 1, -1, n) s) : wpAny (model prog w) A (Builtin.Slice.sliceApplied (.ref sl) (pure (n : Int))) Q E s := by
  obtain ⟨os, hos, hcs, hds⟩ := id hs
  unfold Builtin.Slice.sliceApplied Builtin.Slice.sliceFields
  refine wpAny_bind (wpAny_bind (wpAny_field hos hds (x := .none) rfl (wpAny_bind (wpAny_field hos hds (x := .none) rfl (wpAny_bind (wpAny_field hos hds (x := vs) rfl (wpAny_pure ?_)))))))
  refine wpAny_bind (slicePart_ ps ?_)
  show wpAny _ _ (if ((-1 : Int) == 0) = true then _ else _) _ _ s
  rw [if_neg (by decide)]
  refine wpAny_bind (slicePart_none (wpAny_bind (slicePart_none (wpAny_bind (wpAny_pure ?_)))))
  show wpAny _ _ (pure ((n : Int) - 1, (-1 : Int), Builtin.Slice.slicePlaces ((n : Int) - 1) (-1) (-1))) _ _ s
  rw [rev_places]
  exact wpAny_pure h
theorem get_tup_rev {t sl : Addr} {items : Array Value} {vs : Value} {Q : Value → Shared → Prop} (ht : IsTup s.heap t items) (hs : s.heap.IsSliceOf sl .none .none vs) (ps : IsPart vs (some (-1)))
    (h : Q (.ref s.heap.objs.size) { s with heap := s.heap.push { cls := .type "tuple", data := .seq items.toList.reverse.toArray } }) (hsz : items.size ≤ sizeLine) : wpAny (model prog w) A (getItem (.ref t) (.ref sl)) Q E s := by
  have hmade : sizeOk (.seq items.toList.reverse.toArray) := by
    show items.toList.reverse.toArray.size ≤ sizeLine
    rw [List.size_toArray, List.length_reverse, Array.length_toList]; exact hsz
  obtain ⟨os, hos, hcs, hds⟩ := id hs
  have hTs : s.TypeIs (.ref sl) "slice" := ⟨os, hos, hcs⟩
  unfold getItem
  try with_reducible refine wpAny_holding ?_
  first | refine wpAny_bind (wpAny_pure ?_) | skip
  refine wpAny_bind (wpAny_sequenceKey ht.typeIs (by decide) ?_)
  refine wpAny_bind (wpAny_callSpecial?_slot (name := Str.ofString "__getitem__") ht.typeIs PyProof.Rows.slot_tuple_getitem
    (wpAny_call_entry PyProof.Rows.slot_tuple_getitem ht.typeIs PyProof.Rows.entry_tuple_getitem ?_ (PyProof.Rows.args_tuple_getitem _ _)))
  show wpAny _ _ (Builtin.Tuple.tupleItemsOf (.ref t) >>= _) _ _ s
  refine wpAny_bind (tupleItemsOf_ ht ?_)
  refine wpAny_bind (wpAny_typeOf hTs ?_)
  rw [if_pos (by decide)]
  refine wpAny_bind (applied_rev hs ps ?_)
  have hno : ¬ (((((items.size : Nat) : Int) - 1) == 0 && (-1 : Int) == 1 && items.size == items.size) = true) := by simp
  show wpAny _ _ (if ((((items.size : Nat) : Int) - 1) == 0 && (-1 : Int) == 1 && items.size == items.size) = true then _ else _) _ _ s
  rw [if_neg hno, rev_pick]
  first
    | exact wpAny_bind (m := Builtin.Tuple.tupleExact _) (wpAny_newObj_type (wpAny_pure ⟨_, rfl, wpAny_pure h⟩) hmade)
    | exact wpAny_bind (m := Builtin.Tuple.tupleExact _) (wpAny_newObj_type (wpAny_bind (wpAny_pure (wpAny_pure ⟨_, rfl, wpAny_pure h⟩))) hmade)
    | exact wpAny_bind (wpAny_bind (m := Builtin.Tuple.tupleExact _) (wpAny_newObj_type (wpAny_pure (wpAny_pure ⟨_, rfl, wpAny_pure h⟩)) hmade))
    | exact wpAny_bind (wpAny_bind (m := Builtin.Tuple.tupleExact _) (wpAny_newObj_type (wpAny_pure ⟨_, rfl, wpAny_pure h⟩) hmade))
end
def tRevT (K : PySem.W.Frag) (te : TE) : TE := fun σ H Q => te σ H fun x H1 => ∃ a xs, x = .ref a ∧ SqT K H1 a xs ∧ ∀ p, H1 p = none → Q (.ref p) (upd H1 p (.tup xs.reverse))
theorem pe_revT {X : Cx} {e : Expr} {te : TE} {k : Nat} {p1 p2 p3 pos : Pos} (he : PE X e te) : PE X (.Subscript e (.Slice none none (some (.UnaryOp .USub (.Constant (.int 1) k p1) p2)) p3) pos) (tRevT X.K te) := by
  refine ⟨fun pins s σ H Q I h => ?_⟩
  refine Subscript_ (thn (he.run pins s σ H _ I h) fun v s1 ⟨x, H1, I1, r1, q1⟩ => ?_)
  obtain ⟨a, xs, ex, hx, q⟩ := q1
  subst ex
  cases r1
  have hst : PO X (some (.UnaryOp .USub (.Constant (.int 1) k p1) p2)) (tPart (tUn (rU fun i => .int (-i)) (tC (.int 1)))) := po_some (pe_un un_neg pe_int)
  refine wpAny_Slice (thn (po_none.run pins s1 σ H1 (fun o H2 => o = none ∧ H2 = H1) I1 ⟨rfl, rfl⟩) fun vl s2 ⟨l, H2, I2, pl, el, e2⟩ => ?_)
  subst el e2
  refine thn (po_none.run pins s2 σ H2 (fun o H3 => o = none ∧ H3 = H2) I2 ⟨rfl, rfl⟩) fun vu s3 ⟨u, H3, I3, pu, eu, e3⟩ => ?_
  subst eu e3
  refine thn (hst.run pins s3 σ H3 (fun o H4 => o = some (-1) ∧ H4 = H3) I3 ⟨1, rfl, -1, rfl, rfl, rfl⟩) fun vs s4 ⟨o, H4, I4, ps, eo, e4⟩ => ?_
  subst eo e4
  cases pl
  cases pu
  have I5 : Inv X pins σ H4 { s4 with heap := s4.heap.push { cls := .type "slice", data := .fields #[.none, .none, vs] } } := I4.kept (t' := s4.toks) fun b ob q => Heap.get?_push_of_some _ q
  obtain ⟨its, r, ht, hz⟩ := I5.tuple hx
  have hlen := r.length
  show wpAny (model X.prog X.w) X.A (subscriptTail e (.Slice none none (some (.UnaryOp .USub (.Constant (.int 1) k p1) p2)) p3) (.ref a) (.ref s4.heap.objs.size)) (EP X pins σ Q) X.xe { s4 with heap := s4.heap.push { cls := .type "slice", data := .fields #[.none, .none, vs] } }
  refine tail_any (ops := [.ref a, .ref s4.heap.objs.size]) ht.typeIs (PyProof.Rows.slot_tuple_getitem.lookup) ?_ (by with_unfolding_all rfl)
  refine get_tup_rev ht (Heap.IsSliceOf.new _ .none .none vs) ps ?_ (by rw [List.size_toArray]; omega)
  refine ⟨.ref _, _, I5.laid (t' := s4.toks) (o := .tup xs.reverse) (fun b ob q => Heap.get?_push_of_some _ q) (Nat.le_refl _) ?_, rfl, q _ (I5.hok.fresh (Nat.le_refl _))⟩
  exact ⟨by rw [List.length_reverse]; exact hz, _, r.reverse, IsTup.new _ _⟩
/-- backwards, of data -/
def dRev (t : TEd) : TEd := fun ρ Q => t ρ fun s ρ1 => ∃ xs, s = .d (.tuple xs) ∧ Q (.d (.tuple xs.reverse)) ρ1
theorem BrA.rev {K : PySem.W.Frag} {H : Hp} {vs : List V} {ds : List PyData} (h : BrA K H vs ds) : BrA K H vs.reverse ds.reverse := by
  induction ds generalizing vs with
  | nil => cases h; exact .nil
  | cons d ds ih =>
    cases h with
    | cons h1 h2 =>
      rw [List.reverse_cons, List.reverse_cons]
      exact (ih h2).app (.cons h1 .nil)
theorem de_rev {X : Cx} {L : Lay} {e : Expr} {t : TEd} {k : Nat} {p1 p2 p3 pos : Pos} (hK : L.K = X.K) (he : PE X e (tE L t)) : PE X (.Subscript e (.Slice none none (some (.UnaryOp .USub (.Constant (.int 1) k p1) p2)) p3) pos) (tE L (dRev t)) :=
  (pe_revT he).less fun σ H Q' q => by
    obtain ⟨ρ, Q, r, q, fin⟩ := q
    refine ⟨ρ, _, r, q, fun v H1 s ρ1 go r1 hv q1 => ?_⟩
    obtain ⟨xs, rfl, q2⟩ := q1
    have hv : Br L.K H1 v (.tuple xs) := hv
    cases hv with
    | @tup a ws _ h1 h3 =>
      refine ⟨_, _, rfl, by rw [← hK]; exact h1, fun p hp => ?_⟩
      have sm := same_new (o := .tup ws.reverse) hp
      exact fin (.ref p) _ (.d (.tuple xs.reverse)) ρ1 (go.tr (Go.sm sm)) (r1.go sm) (.tup (.inl (.inl upd_same)) (BrA.keep (keep_of_same sm) _ _ h3.rev)) q2
theorem e_rev {t : TEd} {ρ : En} {Q : S → En → Prop} : dRev t ρ Q ↔ t ρ fun s ρ1 => oneK s fun x => ∃ xs, x = .tuple xs ∧ Q (.d (.tuple xs.reverse)) ρ1 := by
  have e : ∀ (s : S) (ρ1 : En), (∃ xs, s = .d (.tuple xs) ∧ Q (.d (.tuple xs.reverse)) ρ1) ↔ (oneK s fun x => ∃ xs, x = .tuple xs ∧ Q (.d (.tuple xs.reverse)) ρ1) := fun s ρ1 => ⟨fun ⟨xs, a, h⟩ => ⟨_, a, xs, rfl, h⟩, fun ⟨x, a, xs, e, h⟩ => ⟨xs, e ▸ a, h⟩⟩
  unfold dRev
  simp only [e]
end GB

namespace GB
open PySem PySem.Spec PyProof.Rows L2

/-! sorted rows of ints -/
def fSorted : FN := fun xs Q => ∃ ns : List Int, xs = [.list (ns.map .int)] ∧ ∀ ns' : List Int, ns'.Perm ns → ns'.Pairwise (· ≤ ·) → Q (.own (ns'.map .int))
theorem br_ints {K : PySem.W.Frag} {H : Hp} : ∀ {ns : List Int} {vs : List V}, BrA K H vs (ns.map PyData.int) → vs = ns.map V.int
  | [], _, h => by cases h; rfl
  | n :: ns, _, h => by
    cases h with
    | cons h1 h2 => cases h1; rw [br_ints h2]; rfl
theorem ints_br {K : PySem.W.Frag} {H : Hp} : ∀ ns : List Int, BrA K H (ns.map V.int) (ns.map PyData.int)
  | [] => .nil
  | _ :: ns => .cons (.int _) (ints_br ns)
theorem c_sorted {X : Cx} {L : Lay} (hK : L.K = X.K) : CallR X (.builtin "sorted") (rN L fSorted) := by
  intro pins s σ H vs us Q' I r q
  obtain ⟨xs, Q, b, ⟨ns, rfl, q⟩, fin⟩ := q
  obtain ⟨v, rfl, b1⟩ := brA1 hK b
  obtain ⟨a, ws, rfl, h1, h3⟩ := list_sq hK b1
  obtain rfl := br_ints h3
  refine cr_sortedI pins s σ H _ us Q' I r ⟨a, ns, rfl, h1, fun ns' p hp hs hl => ?_⟩
  exact fin _ _ (.own _) (same_new hl) ⟨_, _, rfl, hl, upd_same, ints_br ns'⟩ (q ns' hp hs)
end GB

namespace GB
open PySem PySem.Spec PyProof.Rows L2 RZ

/-! two rows side by side -/
def zipOf (ds es : List PyData) : List PyData := (ds.zip es).map fun p => .tuple [p.1, p.2]
def dIZip (t u : TEd) : TId := fun ρ Q => t ρ fun s ρ1 => u ρ1 fun s2 ρ2 => ∃ ds es, ((s = .d (.list ds) ∧ s2 = .d (.list es)) ∨ (s = .d (.tuple ds) ∧ s2 = .d (.tuple es))) ∧ Q (zipOf ds es) ρ2
section
variable {L : Lay} {H : Hp} {a b : Addr} {vs ws : List V} {ds es : List PyData}
theorem zip_len (hb : BrA L.K H vs ds) (hc : BrA L.K H ws es) : (zipOf ds es).length = min vs.length ws.length := by simp [zipOf, hb.len, hc.len]
theorem yp_zip {i : Nat} {H1 H2 : Hp} {x : V} (hb : BrA L.K H vs ds) (hc : BrA L.K H ws es) (k : Keep H H1) (y : YPair (fun i => vs[i]?) (fun i => ws[i]?) i H1 x H2) : Same H1 H2 ∧ ∃ d, (zipOf ds es)[i]? = some d ∧ Br L.K H2 x d := by
  obtain ⟨T, z, u, rfl, hT, rfl, hz, hu⟩ := y
  obtain ⟨d, e1, bd⟩ := hb.getV hz
  obtain ⟨e, e2, be⟩ := hc.getV hu
  have sm := same_new (o := .tup [z, u]) hT
  refine ⟨sm, .tuple [d, e], ?_, .tup (.of upd_same) (.cons (Br.keep (k.tr (keep_of_same sm)) _ _ bd) (.cons (Br.keep (k.tr (keep_of_same sm)) _ _ be) .nil))⟩
  unfold zipOf
  rw [List.getElem?_map, (List.getElem?_zip_eq_some (z := (d, e))).mpr ⟨e1, e2⟩]; rfl
theorem walk_zT {K : PySem.W.Frag} : Walk (ItzT K a b) (min vs.length ws.length) (fun H => SqT K H a vs ∧ SqT K H b ws) (YPair (fun i => vs[i]?) (fun i => ws[i]?)) := by
  refine ⟨fun i _ hi q => ⟨vs, ws, vs[i]'(by omega), ws[i]'(by omega), q.1, q.2, by simp [show i < vs.length by omega], by simp [show i < ws.length by omega]⟩, fun _ q => ⟨vs, ws, q.1, q.2, by omega⟩, fun i H v H' _ q y => ?_⟩
  obtain ⟨T, x, z, h1, h2, h3, h4, h5⟩ := y
  exact ⟨T, x, z, h1, h2, h3, h4 vs q.1, h5 ws q.2⟩
theorem it_zT (h1 : SqT L.K H a vs) (h2 : SqT L.K H b ws) (hb : BrA L.K H vs ds) (hc : BrA L.K H ws es) : ItD L (ItzT L.K a b) H (zipOf ds es) := by
  refine ⟨fun H1 => SqT L.K H1 a vs ∧ SqT L.K H1 b ws, _, ?_, ⟨h1, h2⟩, fun H1 H2 k q => ⟨sqT_keep k q.1, sqT_keep k q.2⟩, fun i H1 x H2 hi k q y => yp_zip hb hc k y⟩
  rw [zip_len hb hc]; exact walk_zT
theorem it_zF {o o2 : Obj} (h1 : H a = some (.frz o (.lst vs))) (h2 : H b = some (.frz o2 (.lst ws))) (hb : BrA L.K H vs ds) (hc : BrA L.K H ws es) : ItD L (Itz L.K a b) H (zipOf ds es) := by
  refine ⟨fun H1 => H1 a = some (.frz o (.lst vs)) ∧ H1 b = some (.frz o2 (.lst ws)), _, ?_, ⟨h1, h2⟩, fun H1 H2 k q => ⟨k _ _ q.1 trivial, k _ _ q.2 trivial⟩, fun i H1 x H2 hi k q y => yp_zip hb hc k y⟩
  rw [zip_len hb hc]
  exact (walk_zip (K := L.K) (a := a) (b := b) (xs := vs) (ys := ws) rfl).mono (fun H q => ⟨.inl (.inr ⟨o, q.1⟩), .inl (.inr ⟨o2, q.2⟩)⟩) fun i H x H' _ _ y => y
end
section
variable {X : Cx} {L : Lay} {e e2 : Expr} {t u : TEd} {p pos tpos : Pos} {elts : List Expr} {kk : Nat}
theorem di_zip (hK : L.K = X.K) (hg : Gl X "zip") (hm : X.mg "zip" = none) (h1 : PE X e (tE L t)) (h2 : PE X e2 (tE L u)) (n2 : starEach [e2] X.env = (false, eval e2 X.env) :: starEach [] X.env := by rfl)
    (hs : starEach [e, e2] X.env = (false, eval e X.env) :: starEach [e2] X.env := by rfl) (hpl : (backTo pos (starEach [e2] X.env)).any (·.1) = false := by rfl) :
    PI X (.Tuple elts kk tpos) (.Call (.Name "zip" p) [e, e2] [] pos) (tI L (dIZip t u)) :=
  (pi_zipA hg hm (pa_cons h1 (pa_cons h2 pa_nil n2) hs) hs hpl).less fun σ H R q => by
    obtain ⟨ρ, Q, r, q, fin⟩ := q
    refine ⟨ρ, _, r, q, fun v H1 s ρ1 go r1 hv q1 => ⟨ρ1, _, r1, q1, fun w H2 s2 ρ2 go2 r2 hw q2 => ?_⟩⟩
    obtain ⟨ds, es, hd, q3⟩ := q2
    rcases hd with ⟨rfl, rfl⟩ | ⟨rfl, rfl⟩
    · have hv : Br L.K H2 v (.list ds) := Br.keep (go2.keep r1) _ _ hv
      have hw : Br L.K H2 w (.list es) := hw
      cases hv with
      | lst a1 a2 a3 =>
        cases hw with
        | lst b1 b2 b3 =>
          have it := fin _ H2 _ ρ2 (go.tr go2) r2 q3 (it_zF a1 b1 a3 b3)
          rw [hK] at it
          exact ⟨_, _, _, _, rfl, .inl ⟨.inl (.inr ⟨_, a1⟩), .inl (.inr ⟨_, b1⟩), it⟩⟩
    · have hv : Br L.K H2 v (.tuple ds) := Br.keep (go2.keep r1) _ _ hv
      have hw : Br L.K H2 w (.tuple es) := hw
      cases hv with
      | tup a1 a3 =>
        cases hw with
        | tup b1 b3 =>
          have it := fin _ H2 _ ρ2 (go.tr go2) r2 q3 (it_zT a1 b1 a3 b3)
          rw [hK] at it a1 b1
          exact ⟨_, _, _, _, rfl, .inr ⟨a1, b1, it⟩⟩
end
end GB

namespace GB
open PySem PySem.Spec PyProof.Rows L2

/-! more steps from without -/
def zipK (s s2 : S) (k : List PyData → List PyData → Prop) : Prop := ∃ ds es, ((s = .d (.list ds) ∧ s2 = .d (.list es)) ∨ (s = .d (.tuple ds) ∧ s2 = .d (.tuple es))) ∧ k ds es
section
variable {ρ : En} {Q : S → En → Prop} {k : S → Prop} {t u : TEd} {tt tt1 : TTd} {g g1 : DTG} {ti1 : TId}
theorem zip_l {a b : List PyData} {k : List PyData → List PyData → Prop} : zipK (.d (.list a)) (.d (.list b)) k ↔ k a b := by
  constructor
  · intro ⟨_, _, e, h⟩
    rcases e with ⟨e1, e2⟩ | ⟨e1, e2⟩
    · cases e1; cases e2; exact h
    · cases e1
  · intro h; exact ⟨_, _, .inl ⟨rfl, rfl⟩, h⟩
theorem zip_t {a b : List PyData} {k : List PyData → List PyData → Prop} : zipK (.d (.tuple a)) (.d (.tuple b)) k ↔ k a b := by
  constructor
  · intro ⟨_, _, e, h⟩
    rcases e with ⟨e1, e2⟩ | ⟨e1, e2⟩
    · cases e1
    · cases e1; cases e2; exact h
  · intro h; exact ⟨_, _, .inr ⟨rfl, rfl⟩, h⟩
theorem e_izip {QI : List PyData → En → Prop} : dIZip t u ρ QI ↔ t ρ fun s ρ1 => u ρ1 fun s2 ρ2 => zipK s s2 fun ds es => QI (zipOf ds es) ρ2 := Iff.rfl
theorem zip_cons {d e : PyData} {ds es : List PyData} : zipOf (d :: ds) (e :: es) = .tuple [d, e] :: zipOf ds es := rfl
theorem zip_nil1 {es : List PyData} : zipOf [] es = [] := rfl
theorem zip_nil2 {ds : List PyData} : zipOf ds [] = [] := by simp [zipOf]
theorem ints_inj : ∀ {a b : List Int}, a.map PyData.int = b.map PyData.int → a = b
  | [], [], _ => rfl
  | [], _ :: _, h => by cases h
  | _ :: _, [], h => by cases h
  | x :: a, y :: b, h => by
    simp only [List.map_cons, List.cons.injEq, PyData.int.injEq] at h
    rw [h.1, ints_inj h.2]
theorem f_sorted {ns : List Int} : fSorted [.list (ns.map .int)] k ↔ ∀ ns' : List Int, ns'.Perm ns → ns'.Pairwise (· ≤ ·) → k (.own (ns'.map .int)) := by
  constructor
  · intro ⟨ms, e, h⟩
    simp only [List.cons.injEq, PyData.list.injEq, and_true] at e
    rw [ints_inj e]; exact h
  · intro h; exact ⟨ns, rfl, h⟩
theorem e_lcn {vs : List Nat} {R : List PyData → Prop} {acc : List PyData} : dLcGo vs g tt t ρ R [] acc ↔ R acc := Iff.rfl
theorem e_lcc {vs : List Nat} {R : List PyData → Prop} {acc ds : List PyData} {d : PyData} : dLcGo vs g tt t ρ R (d :: ds) acc ↔ g d ρ fun ρ2 => wipeD ρ2 vs = ρ ∧ tt ρ2 fun b ρ3 => ρ3 = ρ2 ∧ iteK b (t ρ2 fun s ρ4 => ρ4 = ρ2 ∧ oneK s fun y => dLcGo vs g tt t ρ R ds (acc ++ [y])) (dLcGo vs g tt t ρ R ds acc) := Iff.rfl
theorem e_inn {vs : List Nat} {R : List PyData → Prop} {acc : List PyData} : dInGo vs g tt t ρ R [] acc ↔ R acc := Iff.rfl
theorem e_inc {vs : List Nat} {R : List PyData → Prop} {acc ds : List PyData} {d : PyData} : dInGo vs g tt t ρ R (d :: ds) acc ↔ g d ρ fun ρ2 => wipeD ρ2 vs = ρ ∧ tt ρ2 fun b ρ3 => ρ3 = ρ2 ∧ iteK b (t ρ2 fun s ρ4 => ρ4 = ρ2 ∧ oneK s fun y => acc.length < sizeLine ∧ dInGo vs g tt t ρ R ds (acc ++ [y])) (dInGo vs g tt t ρ R ds acc) := by
  have e : ∀ (s : S), (∃ y, s = .d y ∧ acc.length < sizeLine ∧ dInGo vs g tt t ρ R ds (acc ++ [y])) ↔ (oneK s fun y => acc.length < sizeLine ∧ dInGo vs g tt t ρ R ds (acc ++ [y])) := fun s => Iff.rfl
  exact Iff.rfl
theorem e_l2n {vs vs1 : List Nat} {R : List PyData → Prop} {acc : List PyData} : dLc2Go vs vs1 g tt ti1 g1 tt1 t ρ R [] acc ↔ R acc := Iff.rfl
theorem e_l2c {vs vs1 : List Nat} {R : List PyData → Prop} {acc ds : List PyData} {d : PyData} : dLc2Go vs vs1 g tt ti1 g1 tt1 t ρ R (d :: ds) acc ↔ g d ρ fun ρ2 => wipeD ρ2 vs = ρ ∧ tt ρ2 fun b ρ3 => ρ3 = ρ2 ∧
    iteK b (ti1 ρ2 fun ds1 ρ4 => ρ4 = ρ2 ∧ dInGo vs1 g1 tt1 t (wipeD ρ2 vs1) (fun acc => dLc2Go vs vs1 g tt ti1 g1 tt1 t ρ R ds acc) ds1 acc) (dLc2Go vs vs1 g tt ti1 g1 tt1 t ρ R ds acc) := Iff.rfl
theorem e_pop {i : Nat} : dPop i ρ Q ↔ (atK ρ i fun o => ownK o fun xs => ∃ x, xs[xs.length - 1]? = some x ∧ setK (Q (.d x)) ρ i (.own xs.dropLast)) := by
  constructor
  · intro ⟨xs, x, e, h1, h2⟩; exact ⟨.own xs, e, xs, rfl, x, h1, h2⟩
  · intro ⟨_, e, xs, z, x, h1, h2⟩; exact ⟨xs, x, z ▸ e, h1, h2⟩
theorem e_popAt {i : Nat} : dPopAt i t ρ Q ↔ (atK ρ i fun o => ownK o fun _ => t ρ fun s ρ1 => intK s fun j => atK ρ1 i fun o => ownK o fun xs => -(2 ^ 62) < j ∧ j < 2 ^ 62 ∧ ∃ n x, seqIndex? j xs.length = some n ∧ xs[n]? = some x ∧ setK (Q (.d x)) ρ1 i (.own (xs.eraseIdx n))) := by
  have e : ∀ (s : S) (ρ1 : En), (∃ j n x xs, s = .d (.int j) ∧ ρ1[i]? = some (.own xs) ∧ -(2 ^ 62) < j ∧ j < 2 ^ 62 ∧ seqIndex? j xs.length = some n ∧ xs[n]? = some x ∧ Q (.d x) (ρ1.set i (.own (xs.eraseIdx n)))) ↔
      (intK s fun j => atK ρ1 i fun o => ownK o fun xs => -(2 ^ 62) < j ∧ j < 2 ^ 62 ∧ ∃ n x, seqIndex? j xs.length = some n ∧ xs[n]? = some x ∧ setK (Q (.d x)) ρ1 i (.own (xs.eraseIdx n))) := fun s ρ1 =>
    ⟨fun ⟨j, n, x, xs, a, b, c, d, h1, h2, h3⟩ => ⟨j, a, .own xs, b, xs, rfl, c, d, n, x, h1, h2, h3⟩, fun ⟨j, a, _, b, xs, z, c, d, n, x, h1, h2, h3⟩ => ⟨j, n, x, xs, a, z ▸ b, c, d, h1, h2, h3⟩⟩
  unfold dPopAt
  simp only [e]
  exact ⟨fun ⟨⟨ys, a⟩, h⟩ => ⟨.own ys, a, ys, rfl, h⟩, fun ⟨_, a, ys, z, h⟩ => ⟨⟨ys, z ▸ a⟩, h⟩⟩
theorem e_extend {i : Nat} : dExtend i t ρ Q ↔ (atK ρ i fun o => ownK o fun _ => t ρ fun s ρ1 => oneK s fun z => ∃ zs, z = .list zs ∧ atK ρ1 i fun o => ownK o fun xs => xs.length + zs.length ≤ sizeLine ∧ setK (Q (.d .none)) ρ1 i (.own (xs ++ zs))) := by
  have e : ∀ (s : S) (ρ1 : En), (∃ zs xs, s = .d (.list zs) ∧ ρ1[i]? = some (.own xs) ∧ xs.length + zs.length ≤ sizeLine ∧ Q (.d .none) (ρ1.set i (.own (xs ++ zs)))) ↔
      (oneK s fun z => ∃ zs, z = .list zs ∧ atK ρ1 i fun o => ownK o fun xs => xs.length + zs.length ≤ sizeLine ∧ setK (Q (.d .none)) ρ1 i (.own (xs ++ zs))) := fun s ρ1 =>
    ⟨fun ⟨zs, xs, a, b, c, h⟩ => ⟨_, a, zs, rfl, .own xs, b, xs, rfl, c, h⟩, fun ⟨_, a, zs, y, _, b, xs, z, c, h⟩ => ⟨zs, xs, y ▸ a, z ▸ b, c, h⟩⟩
  unfold dExtend
  simp only [e]
  exact ⟨fun ⟨⟨ys, a⟩, h⟩ => ⟨.own ys, a, ys, rfl, h⟩, fun ⟨_, a, ys, z, h⟩ => ⟨⟨ys, z ▸ a⟩, h⟩⟩
end
end GB

namespace GB
open PySem PySem.Spec PyProof.Rows L2

/-! loops and comprehensions by what holds at their turns -/
section
variable {g : DTG} {b : TSd} {D : EndsD}
theorem loopI (I : List PyData → En → Prop) (hn : ∀ ρ, I [] ρ → D.nx ρ) (hc : ∀ d ds ρ (K : En → Prop), (∀ ρ', I ds ρ' → K ρ') → I (d :: ds) ρ → g d ρ fun ρ1 => b { nx := K, ct := K, bk := D.nx, rt := D.rt } ρ1) : ∀ ds ρ, I ds ρ → dLoop g b D ds ρ
  | [], ρ, h => hn ρ h
  | d :: ds, ρ, h => e_lcons.mpr (hc d ds ρ _ (fun ρ' h' => loopI I hn hc ds ρ' h') h)
theorem loopP (I : Int → List PyData → En → Prop) (hn : ∀ k ρ, I k [] ρ → D.nx ρ) (hc : ∀ k y ys ρ (K : En → Prop), (∀ ρ', I (k + 1) ys ρ' → K ρ') → I k (y :: ys) ρ → g (.tuple [.int k, y]) ρ fun ρ1 => b { nx := K, ct := K, bk := D.nx, rt := D.rt } ρ1) : ∀ ys k ρ, I k ys ρ → dLoop g b D (pairsFrom k ys) ρ
  | [], k, ρ, h => hn k ρ h
  | y :: ys, k, ρ, h => e_lcons.mpr (hc k y ys ρ _ (fun ρ' h' => loopP I hn hc ys (k + 1) ρ' h') h)
theorem loopR (I : Int → Nat → En → Prop) (hn : ∀ k ρ, I k 0 ρ → D.nx ρ) (hc : ∀ k n ρ (K : En → Prop), (∀ ρ', I (k + 1) n ρ' → K ρ') → I k (n + 1) ρ → g (.int k) ρ fun ρ1 => b { nx := K, ct := K, bk := D.nx, rt := D.rt } ρ1) : ∀ n k ρ, I k n ρ → dLoop g b D (irow k n) ρ
  | 0, k, ρ, h => hn k ρ h
  | n + 1, k, ρ, h => by
    rw [irow_succ]
    exact e_lcons.mpr (hc k n ρ _ (fun ρ' h' => loopR I hn hc n (k + 1) ρ' h') h)
variable {vs : List Nat} {tt : TTd} {te : TEd} {ρw : En} {R : List PyData → Prop}
theorem lcI (I : List PyData → List PyData → Prop) (hn : ∀ acc, I [] acc → R acc) (hc : ∀ d ds acc (K : List PyData → Prop), (∀ acc', I ds acc' → K acc') → I (d :: ds) acc → g d ρw fun ρ2 => wipeD ρ2 vs = ρw ∧ tt ρ2 fun b ρ3 => ρ3 = ρ2 ∧ iteK b (te ρ2 fun s ρ4 => ρ4 = ρ2 ∧ oneK s fun y => K (acc ++ [y])) (K acc)) :
    ∀ ds acc, I ds acc → dLcGo vs g tt te ρw R ds acc
  | [], acc, h => hn acc h
  | d :: ds, acc, h => e_lcc.mpr (hc d ds acc _ (fun acc' h' => lcI I hn hc ds acc' h') h)
theorem lcR (I : Int → Nat → List PyData → Prop) (hn : ∀ k acc, I k 0 acc → R acc) (hc : ∀ k n acc (K : List PyData → Prop), (∀ acc', I (k + 1) n acc' → K acc') → I k (n + 1) acc → g (.int k) ρw fun ρ2 => wipeD ρ2 vs = ρw ∧ tt ρ2 fun b ρ3 => ρ3 = ρ2 ∧ iteK b (te ρ2 fun s ρ4 => ρ4 = ρ2 ∧ oneK s fun y => K (acc ++ [y])) (K acc)) :
    ∀ n k acc, I k n acc → dLcGo vs g tt te ρw R (irow k n) acc
  | 0, k, acc, h => hn k acc h
  | n + 1, k, acc, h => by
    rw [irow_succ]
    exact e_lcc.mpr (hc k n acc _ (fun acc' h' => lcR I hn hc n (k + 1) acc' h') h)
end
end GB

namespace GB
open PySem PySem.Spec PyProof.Rows L2

/-! comprehensions of three clauses: one turn of one clause -/
abbrev noE : Value → Shared → Prop := fun _ _ => False
def tests (fs : List Expr) (en : Env) : Sem Bool := forIn fs true fun cc z => if z = true then do let y ← isTrue cc en (eval cc en); pure (ForInStep.yield y) else pure (ForInStep.yield z)
def midRun (t i' : Expr) (p : Pos) (fs : List Expr) (it : Value) (en : Env) (nxt : Value → Code) (more : Code) : Sem Fin := do
  standAt p
  match ← pyNext it with
  | none => pure (.done .next)
  | some v =>
    letOwnedTupleGo t it v
    assign t en v
    let mut good := true
    for cc in fs do
      if good then good ← isTrue cc en (eval cc en)
    if good then
      let y ← eval i' en
      standAt i'.pos
      let y ← foldedSetIterable i' en y
      let _ ← runOwn (nxt (← holding [y] (pyIter y))) en
    again more
def inRun (t el : Expr) (p : Pos) (fs : List Expr) (it li : Value) (en : Env) (more : Code) : Sem Fin := do
  standAt p
  match ← pyNext it with
  | none => pure (.done .next)
  | some v =>
    letOwnedTupleGo t it v
    assign t en v
    let mut good := true
    for cc in fs do
      if good then good ← isTrue cc en (eval cc en)
    if good then
      (do let _ ← call (.builtin "list.append") [li, ← eval el en])
    again more
section
variable (el t0 i0 t1 i1 t2 i2 : Expr) (f0 f1 f2 : List Expr) (sc : Scope) (p : Pos) (it li : Value) (en : Env)
theorem turn3_0 : compTurn (.ListComp el [⟨t0, i0, f0, 0⟩, ⟨t1, i1, f1, 0⟩, ⟨t2, i2, f2, 0⟩] sc p) 0 it li en = midRun t0 i1 i0.pos f0 it en (fun v => .compStart (.ListComp el [⟨t0, i0, f0, 0⟩, ⟨t1, i1, f1, 0⟩, ⟨t2, i2, f2, 0⟩] sc p) 1 v li en) (.compLoop (.ListComp el [⟨t0, i0, f0, 0⟩, ⟨t1, i1, f1, 0⟩, ⟨t2, i2, f2, 0⟩] sc p) 0 it li en) := by rfl
theorem turn3_1 : compTurn (.ListComp el [⟨t0, i0, f0, 0⟩, ⟨t1, i1, f1, 0⟩, ⟨t2, i2, f2, 0⟩] sc p) 1 it li en = midRun t1 i2 i1.pos f1 it en (fun v => .compStart (.ListComp el [⟨t0, i0, f0, 0⟩, ⟨t1, i1, f1, 0⟩, ⟨t2, i2, f2, 0⟩] sc p) 2 v li en) (.compLoop (.ListComp el [⟨t0, i0, f0, 0⟩, ⟨t1, i1, f1, 0⟩, ⟨t2, i2, f2, 0⟩] sc p) 1 it li en) := by rfl
theorem turn3_2 : compTurn (.ListComp el [⟨t0, i0, f0, 0⟩, ⟨t1, i1, f1, 0⟩, ⟨t2, i2, f2, 0⟩] sc p) 2 it li en = inRun t2 el i2.pos f2 it li en (.compLoop (.ListComp el [⟨t0, i0, f0, 0⟩, ⟨t1, i1, f1, 0⟩, ⟨t2, i2, f2, 0⟩] sc p) 2 it li en) := by rfl
end
section
variable (prog : Program) (w : World) (A : Around)
/-- the source is asked, what comes is stored and tested; body is what a good one leads to -/
def Turn1 (t : Expr) (fs : List Expr) (it : Value) (en : Env) (body : (Shared → Prop) → Shared → Prop) (done back : Shared → Prop) (s : Shared) : Prop :=
  wpAny (model prog w) A (pyNext it) (fun r s1 => match r with
    | none => done s1
    | some v => wpAny (model prog w) A (letOwnedTupleGo t it v) (fun _ s2 => wpAny (model prog w) A (assign t en v) (fun _ s3 => wpAny (model prog w) A (tests fs en) (fun z s4 => if z = true then body back s4 else back s4) noE s3) noE s2) noE s1) noE s
def bodyMid (i' : Expr) (en : Env) (nxt : Value → Code) : (Shared → Prop) → Shared → Prop := fun back s =>
  wpAny (model prog w) A (eval i' en) (fun x s1 => wpAny (model prog w) A (pyIter x) (fun it1 s2 => codeAny (model prog w) A (nxt it1) (fun r s' => match r with
    | .ok _ => back s'
    | .error _ => False) s2) noE s1) noE s
def bodyIn (el : Expr) (en : Env) (li : Value) : (Shared → Prop) → Shared → Prop := fun back s =>
  wpAny (model prog w) A (eval el en) (fun x s1 => wpAny (model prog w) A (call (.builtin "list.append") [li, x]) (fun _ s2 => back s2) noE s1) noE s
/-- a clause's loop, by an invariant -/
def LoopOk (e : Expr) (k : Nat) (li : Value) (t : Expr) (fs : List Expr) (en : Env) (body : (Shared → Prop) → Shared → Prop) : Prop :=
  ∀ (it : Value) (R : Result → Shared → Prop) (I : Nat → Shared → Prop), (∀ n s, I n s → Turn1 prog w A t fs it en body (R (.ok .next)) (fun s' => ∃ m, m < n ∧ I m s') s) → ∀ n s, I n s → codeAny (model prog w) A (.compLoop e k it li en) R s
def StartOk (e : Expr) (k : Nat) (li : Value) (en : Env) : Prop :=
  ∀ (it : Value) (R : Result → Shared → Prop) (s : Shared), codeAny (model prog w) A (.compLoop e k it li en) R s → wpAny (model prog w) A (pyIter it) (fun it' s' => codeAny (model prog w) A (.compLoop e k it' li en) R s') noE s → codeAny (model prog w) A (.compStart e k it li en) R s
end
section
variable {prog : Program} {w : World} {A : Around}
theorem wk {α : Type} {m : Sem α} {Q Q' : α → Shared → Prop} {E : Value → Shared → Prop} {s : Shared} (h : wpAny (model prog w) A m Q noE s) (q : ∀ a s', Q a s' → Q' a s') : wpAny (model prog w) A m Q' E s := wpAny_mono h q fun _ _ z => z.elim
theorem mid_loop {el t i' : Expr} {cs : List Comprehension} {sc : Scope} {pp : Pos} {k : Nat} {p : Pos} {fs : List Expr} {li : Value} {en : Env} {nxt : Value → Code} (hE : ∀ it, compTurn (.ListComp el cs sc pp) k it li en = midRun t i' p fs it en nxt (.compLoop (.ListComp el cs sc pp) k it li en)) (hs : ∀ x, foldedSetIterable i' en x = pure x) : LoopOk prog w A (.ListComp el cs sc pp) k li t fs en (bodyMid prog w A i' en nxt) := by
  intro it R I turn n s h
  refine codeAny_loop rfl I (fun n s hI => ?_) n h
  show wpAny (model prog w) A ((compTurn (.ListComp el cs sc pp) k it li en).onRaise fun x => do noteFrame x en; theTreesLotGoes x) _ _ s
  refine wpAny_noted ?_
  rw [hE it]
  unfold midRun
  refine wpAny_bind (wpAny_standAt (wpAny_bind (wk (turn n s hI) fun r s1 h1 => ?_)))
  cases r with
  | none => exact wpAny_pure h1
  | some v =>
    refine wpAny_bind (wk h1 fun _ s2 h2 => wpAny_bind (wk h2 fun _ s3 h3 => wpAny_bind (wk h3 fun z s4 h4 => ?_)))
    cases z with
    | false => exact wpAny_pure ⟨rfl, h4⟩
    | true =>
      refine wpAny_bind (wk h4 fun x s5 h5 => wpAny_bind (wpAny_standAt (wpAny_bind (wpAny_of_eq (hs x) (wpAny_bind (wpAny_holding (wk h5 fun it1 s6 h6 => ?_)))))))
      refine wpAny_bind (wpAny_runOwn ?_)
      rw [Around.mark_none]
      refine codeAny_mono h6 fun r s' hr => ?_
      cases r with
      | ok f => first | exact wpAny_pure ⟨rfl, hr⟩ | exact wpAny_bind (wpAny_pure (wpAny_pure ⟨rfl, hr⟩))
      | error x => exact hr.elim
theorem in_loop {el t : Expr} {cs : List Comprehension} {sc : Scope} {pp : Pos} {k : Nat} {p : Pos} {fs : List Expr} {li : Value} {en : Env} (hE : ∀ it, compTurn (.ListComp el cs sc pp) k it li en = inRun t el p fs it li en (.compLoop (.ListComp el cs sc pp) k it li en)) : LoopOk prog w A (.ListComp el cs sc pp) k li t fs en (bodyIn prog w A el en li) := by
  intro it R I turn n s h
  refine codeAny_loop rfl I (fun n s hI => ?_) n h
  show wpAny (model prog w) A ((compTurn (.ListComp el cs sc pp) k it li en).onRaise fun x => do noteFrame x en; theTreesLotGoes x) _ _ s
  refine wpAny_noted ?_
  rw [hE it]
  unfold inRun
  refine wpAny_bind (wpAny_standAt (wpAny_bind (wk (turn n s hI) fun r s1 h1 => ?_)))
  cases r with
  | none => exact wpAny_pure h1
  | some v =>
    refine wpAny_bind (wk h1 fun _ s2 h2 => wpAny_bind (wk h2 fun _ s3 h3 => wpAny_bind (wk h3 fun z s4 h4 => ?_)))
    cases z with
    | false => exact wpAny_pure ⟨rfl, h4⟩
    | true => exact wpAny_bind (wpAny_bind (wk h4 fun x s5 h5 => wpAny_bind (wk h5 fun _ s6 h6 => wpAny_pure (wpAny_pure ⟨rfl, h6⟩))))
theorem start_any {el : Expr} {cs : List Comprehension} {sc : Scope} {pp : Pos} {k : Nat} {li : Value} {en : Env} {c : Comprehension} (hc : cs[k]? = some c) (ha : (c.is_async != 0) = false) : StartOk prog w A (.ListComp el cs sc pp) k li en := by
  intro it R s h0 h
  refine codeAny_of_tree (show wpAny _ _ ((compStart (.ListComp el cs sc pp) k it li en).onRaise fun x => do noteFrame x en; standAt theWindowsPlace) _ _ s from wpAny_notedAt ?_)
  unfold compStart
  show wpAny _ _ (if (cs[k]?).elim false (·.is_async != 0) = true then _ else _) _ _ s
  rw [hc]
  have e : ((some c).elim false fun x => x.is_async != 0) = false := ha
  rw [if_neg (by rw [e]; decide)]
  refine wpAny_bind (wpAny_askSetting (wpAny_ite ?_)) (A := A)
  split
  · first | exact wpAny_pure ⟨rfl, h0⟩ | exact wpAny_bind (wpAny_pure (wpAny_pure ⟨rfl, h0⟩))
  · refine wpAny_bind (wpAny_rule ?_)
    have e2 : (clausesOf (el.ListComp cs sc pp))[k]? = some c := hc
    rw [e2]
    exact wpAny_bind (wpAny_standAt (wpAny_bind (wk h fun it' s' h' => wpAny_pure ⟨rfl, h'⟩)))
end
end GB

namespace GB
open PySem PySem.Spec PyProof.Rows L2

/-! comprehensions of three clauses: the levels -/
def Kn (σ' σ : L2.St) : Prop := σ'.length = σ.length ∧ ∀ (i : Nat) (v : V), σ'[i]? = some (some v) → σ[i]? = some (some v)
theorem kn_wipe {σ : L2.St} {vs : List Nat} : Kn (wipe σ vs) σ := ⟨wipe_length σ vs, fun i v e => (wipe_some e).1⟩
theorem kn_in {σ : L2.St} {vs vb : List Nat} (hv : ∀ i ∈ vb, i ∈ vs) : Kn (wipe σ vs) (wipe σ vb) :=
  ⟨by rw [wipe_length, wipe_length], fun i v e => by
    obtain ⟨e1, e2⟩ := wipe_some e
    rw [GB.wipe_out σ vb i fun z => e2 (hv i z)]; exact e1⟩
theorem Kn.tr {a b c : L2.St} (h : Kn a b) (k : Kn b c) : Kn a c := ⟨h.1.trans k.1, fun i v e => k.2 i v (h.2 i v e)⟩
abbrev TB := L2.St → Hp → (Hp → Prop) → Prop
def BodyOk (Y : Cx) (vb : List Nat) (tb : TB) (body : (Shared → Prop) → Shared → Prop) : Prop :=
  ∀ (pins : List (Addr × Obj)) (σ : L2.St) (H : Hp) (s : Shared) (Nx : Hp → Prop) (Φ : Shared → Prop), L2.Inv Y pins σ H s → tb σ H Nx → (∀ σ' H' s', L2.Inv Y pins σ' H' s' → Kn (wipe σ vb) σ' → Nx H' → Φ s') → body Φ s
def tWalk (J : It) (g : TG) (tt : TT) (tb : TB) (vs : List Nat) (σw : L2.St) (W : Nat → Nat → Hp → Prop) (Stop : Hp → Prop) : Prop :=
  ∀ i m H, W i m H → (J.stop i H ∧ Stop H) ∨ (J.go i H ∧ ∃ Nx : Hp → Prop, (∀ H', Nx H' → ∃ m', m' < m ∧ W (i + 1) m' H') ∧ ∀ x H', J.yld i H x H' → g x σw H' fun σ2 H2 => wipe σ2 vs = σw ∧ tt σ2 H2 fun b H3 => if b = true then tb σ2 H3 Nx else Nx H3)
def tMid (wi : TI) (g : TG) (tt : TT) (tb : TB) (vs : List Nat) : TB := fun σ H Nx => wi σ H fun J H1 => ∃ W : Nat → Nat → Hp → Prop, (∃ m, W 0 m H1) ∧ tWalk J g tt tb vs (wipe σ vs) W Nx
def tIn (te : TE) (D : Addr) : TB := fun σ H Nx => te σ H fun y H' => ∃ acc, H' D = some (.lst acc) ∧ acc.length < sizeLine ∧ Nx (upd H' D (.lst (acc ++ [y])))
def tLc3 (wi : TI) (g : TG) (tt : TT) (wi1 : TI) (g1 : TG) (tt1 : TT) (wi2 : TI) (g2 : TG) (tt2 : TT) (te : TE) (vs vs1 vs2 : List Nat) : TE := fun σ H Q => wi σ H fun J H1 => ∀ D, H1 D = none →
  ∃ W : Nat → Nat → Hp → Prop, (∃ m, W 0 m (upd H1 D (.lst []))) ∧ tWalk J g tt (tMid wi1 g1 tt1 (tMid wi2 g2 tt2 (tIn te D) vs2) vs1) vs (wipe σ vs) W (Q (.ref D))
section
variable {Y : Cx} {pins : List (Addr × Obj)} {t : Expr} {fs : List Expr} {g : TG} {tt : TT} {tb : TB} {vs vb : List Nat} {body : (Shared → Prop) → Shared → Prop}
theorem turn_done {prog : Program} {w : World} {A : Around} {it : Value} {en : Env} {d d' b : Shared → Prop} {s : Shared} (h : Turn1 prog w A t fs it en body d b s) (q : ∀ s, d s → d' s) : Turn1 prog w A t fs it en body d' b s := by
  refine wk h fun r s1 h1 => ?_
  cases r with
  | none => exact q _ h1
  | some v => exact h1
theorem level (hc : Y.calm = true) (hx : Y.xe = noE) {σw : L2.St} {J : It} {fp : List Addr} {it : Addr} {tn : Nat → Heap → Prop} {W : Nat → Nat → Hp → Prop} {Stop : Hp → Prop}
    (T : Turn Y.prog Y.w Y.K t J fp it tn) (pg : PG Y t g) (pt : PTs Y fs tt) (hb : BodyOk Y vb tb body) (hv : ∀ i ∈ vb, i ∈ vs)
    (stat : ∀ {σ' : L2.St} {H' : Hp} {s' : Shared}, L2.Inv Y pins σ' H' s' → (∀ b ∈ fp, H' b = none) → ∀ b ∈ fp, FpOk Y pins H' b) (wl : tWalk J g tt tb vs σw W Stop) (n : Nat) (s : Shared)
    (h : ∃ i H, L2.Inv Y pins σw H s ∧ tn i s.heap ∧ (∀ b ∈ fp, H b = none) ∧ W i n H) :
    Turn1 Y.prog Y.w Y.A t fs (.ref it) Y.env body (fun s' => ∃ H', L2.Inv Y pins σw H' s' ∧ Stop H') (fun s' => ∃ m, m < n ∧ ∃ i H, L2.Inv Y pins σw H s' ∧ tn i s'.heap ∧ (∀ b ∈ fp, H b = none) ∧ W i m H) s := by
  obtain ⟨i, H, I, st, nf, w0⟩ := h
  rcases wl i n H w0 with ⟨stop, qq⟩ | ⟨go, Nx, hN, step⟩
  · refine wk (T.done Y rfl rfl rfl hc i pins s σw H noE I (stat I nf) st stop) fun r s' hr => ?_
    obtain ⟨hr, I'⟩ := hr
    cases hr
    exact ⟨H, I', qq⟩
  · refine wk (T.item Y rfl rfl rfl hc i pins s σw H noE I (stat I nf) st go) fun r s1 h1 => ?_
    obtain ⟨u, hr, h1⟩ := h1
    cases hr
    refine wk h1 fun _ s2 h2 => ?_
    obtain ⟨x, H2, I2, r2, y2, st2, n2⟩ := h2
    have e1 := pg.run _ s2 _ H2 x u _ (I2.pinned (stat I2 n2) (T.obj _ _ st2)) r2 (step x H2 y2)
    rw [hx] at e1
    refine wk e1 fun _ s3 h3 => ?_
    obtain ⟨σ3, H3, I3, hw3, q3⟩ := h3
    have e2 := pt.run _ s3 σ3 H3 _ I3 q3
    rw [hx] at e2
    refine wk e2 fun b s4 h4 => ?_
    obtain ⟨H4, I4, q4⟩ := h4
    have fin : ∀ {σ' : L2.St} {H' : Hp} {s' : Shared}, L2.Inv Y (pins ++ pinsAt fp s2.heap) σ' H' s' → Kn σw σ' → Nx H' → ∃ m, m < n ∧ ∃ i H, L2.Inv Y pins σw H s' ∧ tn i s'.heap ∧ (∀ b ∈ fp, H b = none) ∧ W i m H := fun {σ' H' s'} I' kn nx => by
      obtain ⟨m', hm, w'⟩ := hN H' nx
      have held : ∀ b ∈ fp, ∀ o, s2.heap.get? b = some o → s'.heap.get? b = some o ∧ H' b = none := fun b hb o e => by
        have z := I'.pin (b, o) (List.mem_append_right _ (List.mem_append_right _ (mem_pinsAt hb e)))
        exact ⟨z.1, z.2.1⟩
      refine ⟨m', hm, i + 1, H', I'.unpinned.weak kn.1 kn.2, T.keep _ _ _ st2 fun b hb o e => (held b hb o e).1, fun b hb => ?_, w'⟩
      obtain ⟨o, e, _⟩ := T.obj _ _ st2 b hb
      exact (held b hb o e).2
    cases b with
    | false => exact fin I4 (hw3 ▸ kn_wipe) (by simpa using q4)
    | true => exact hb _ _ _ _ Nx _ I4 (by simpa using q4) fun σ' H' s' I' kn nx => fin I' (Kn.tr (hw3 ▸ kn_in hv) kn) nx
theorem body_in {el : Expr} {te : TE} {D : Addr} (hx : Y.xe = noE) (pe : PE Y el te) : BodyOk Y [] (tIn te D) (bodyIn Y.prog Y.w Y.A el Y.env (.ref D)) := by
  intro pins σ H s Nx Φ I h k
  have e := pe.run pins s σ H _ I h
  rw [hx] at e
  refine wk e fun z s1 h1 => ?_
  obtain ⟨y, H1, I1, r1, acc, hD, hz, nx⟩ := h1
  exact app_ok I1 hD hz r1 fun s2 I2 => k σ _ s2 I2 ⟨rfl, fun _ _ e => e⟩ nx
theorem body_mid {e i' : Expr} {k : Nat} {li : Value} {wi : TI} (hc : Y.calm = true) (hx : Y.xe = noE) (pi : PI Y t i' wi) (hl : LoopOk Y.prog Y.w Y.A e k li t fs Y.env body) (hst : StartOk Y.prog Y.w Y.A e k li Y.env)
    (pg : PG Y t g) (pt : PTs Y fs tt) (hb : BodyOk Y vb tb body) (hv : ∀ i ∈ vb, i ∈ vs) : BodyOk Y vs (tMid wi g tt tb vs) (bodyMid Y.prog Y.w Y.A i' Y.env fun v => .compStart e k v li Y.env) := by
  intro pins σ H s Nx Φ I h kk
  have e0 := pi.run pins s σ H _ I h
  simp only [hx] at e0
  refine wk e0 fun xv s1 h1 => wk h1 fun itv s2 h2 => ?_
  obtain ⟨it, fp, tn, J, H2, ei, I2, T, st2, f2, W, ⟨m0, w0⟩, wl⟩ := h2
  subst ei
  have loop : codeAny (model Y.prog Y.w) Y.A (.compLoop e k (.ref it) li Y.env) (fun r s' => match r with
      | .ok _ => Φ s'
      | .error _ => False) s2 := hl (.ref it) _ (fun n s' => ∃ i H', L2.Inv Y pins (wipe σ vs) H' s' ∧ tn i s'.heap ∧ (∀ b ∈ fp, H' b = none) ∧ W i n H')
    (fun n s' hI => turn_done (level hc hx T pg pt hb hv (fun I' nf b hb => ⟨nf b hb, (f2 b hb).2⟩) wl n s' hI) fun s'' hd => by
      obtain ⟨H', I', nx⟩ := hd
      exact kk _ _ _ I' ⟨rfl, fun _ _ e => e⟩ nx) m0 s2 ⟨0, H2, I2.weak kn_wipe.1 kn_wipe.2, st2, fun b hb => (f2 b hb).1, w0⟩
  exact hst (.ref it) _ s2 loop (T.self Y.A 0 _ _ _ st2 loop)
end
end GB

namespace GB
open PySem PySem.Spec PyProof.Rows L2

/-! comprehensions of three clauses: the block -/
/-- of every context of the block -/
def OfBlk (X : Cx) (scope : Scope) (F : Cx → Prop) : Prop := ∀ (s : Shared) (H : Hp) (C : Addr) (cl : List (Str × Addr)) (fp : List Addr), F (X.blk s H scope (compEnvC scope cl C X.env) fp)
section
variable {X : Cx} {el tg it0 tg1 it1 tg2 it2 : Expr} {f0 f1 f2 : List Expr} {scope : Scope} {own : List (Str × Nat)} {vs1 vs2 : List Nat} {pos : Pos} {wi wi1 wi2 : TI} {g g1 g2 : TG} {tt tt1 tt2 : TT} {te : TE}
set_option maxHeartbeats 4000000 in
theorem lc3_core {pins : List (Addr × Obj)} {s : Shared} {σ : L2.St} {H : Hp} {Q : VK} {pos' : Pos} {use : Option (Value → Sem Unit)} {Qf : Value → Shared → Prop} (cal : X.calm = true) (nd : X.N.Nodup) (I : L2.Inv X pins σ H s) (src : PI X tg it0 wi) (ok : BlkOk X.N X.env.scope scope own)
    (v1 : ∀ i ∈ vs1, i ∈ own.map (·.2)) (v2 : ∀ i ∈ vs2, i ∈ vs1) (b0 : OfBlk X scope fun Y => PG Y tg g) (c0 : OfBlk X scope fun Y => PTs Y f0 tt) (a1 : OfBlk X scope fun Y => PI Y tg1 it1 wi1) (b1 : OfBlk X scope fun Y => PG Y tg1 g1) (c1 : OfBlk X scope fun Y => PTs Y f1 tt1)
    (a2 : OfBlk X scope fun Y => PI Y tg2 it2 wi2) (b2 : OfBlk X scope fun Y => PG Y tg2 g2) (c2 : OfBlk X scope fun Y => PTs Y f2 tt2) (lst : OfBlk X scope fun Y => PE Y el te)
    (n0 : ∀ x, foldedSetIterable it0 X.env x = pure x) (n1 : ∀ env x, foldedSetIterable it1 env x = pure x) (n2 : ∀ env x, foldedSetIterable it2 env x = pure x)
    (h : tLc3 wi g tt wi1 g1 tt1 wi2 g2 tt2 te (own.map (·.2)) vs1 vs2 σ H Q)
    (out : ∀ D C s' m H', L2.Inv X pins σ H' s' → Q (.ref D) H' → s'.heap.Ns C m → FpOk X pins H' C → compPost (model X.prog X.w) X.A X.xe use Qf (.ref D) C (.ok .next) s') :
    wpAny (model X.prog X.w) X.A (comprehension (.ListComp el [⟨tg, it0, f0, 0⟩, ⟨tg1, it1, f1, 0⟩, ⟨tg2, it2, f2, 0⟩] scope pos) scope X.env pos' (newList []) false (eval it0 X.env) use) Qf X.xe s := by
  have fr : ∀ y ∈ scope.names, y.2 = .free → ∃ c, X.env.cells.lookup y.1 = some c := fun y hy e => (ok.free y hy e).elim (fun k => I.ok.has _ (.inl k)) fun k => I.ok.has _ (.inr k)
  refine wpAny_comprehension_free (use := use) rfl n0 (closure_ok fr) ok.kind (fun y hy e => by rw [ok.uniq y hy, e]) (thn (src.run pins s σ H _ I h) fun xv s1 hx => thn hx fun itv s2 h2 => ?_)
  obtain ⟨it, fp, tn, J, H2, ei, I2, T, st2, fp2, q⟩ := h2
  subst ei
  refine wpAny_newObj_type (newEnv_comp ?_) (by show 0 ≤ sizeLine; decide)
  generalize eD : s2.heap.objs.size = D0
  have un : H2 D0 = none := I2.hok.fresh (Nat.le_of_eq eD)
  obtain ⟨W, ⟨m0, w0⟩, wl⟩ := q D0 un
  generalize e3 : ({ s2 with heap := s2.heap.push { cls := .type "list", data := .seq ([] : List Value).toArray } } : Shared) = s3
  have I3 : L2.Inv X pins σ (upd H2 D0 (.lst [])) s3 := by
    rw [← e3]
    refine I2.laid (t' := s2.toks) (fun b o e => Heap.get?_push_of_some _ e) (Nat.le_of_eq eD) ⟨Nat.zero_le _, [], 0, .nil, by rw [← eD]; exact Heap.get?_push_size _ rfl⟩
  have hp3 : s3.heap = s2.heap.push { cls := .type "list", data := .seq ([] : List Value).toArray } := by rw [← e3]
  have old : ∀ b ∈ fp, b < s2.heap.objs.size := fun b hb => by
    obtain ⟨o, e, _⟩ := T.obj _ _ st2 b hb
    exact Heap.lt_size e
  have fp3 : ∀ b ∈ fp, FpOk X pins (upd H2 D0 (.lst [])) b ∧ b < s3.heap.objs.size := fun b hb => by
    have lt := old b hb
    refine ⟨⟨?_, (fp2 b hb).2⟩, by rw [hp3, Heap.size_push]; exact Nat.lt_succ_of_lt lt⟩
    rw [upd_ne (by rw [← eD]; exact Nat.ne_of_lt lt)]; exact (fp2 b hb).1
  have st3 : tn 0 s3.heap := T.keep _ _ _ st2 fun b _ o e => by rw [hp3]; exact Heap.get?_push_of_some _ e
  have I4 := block_start I3 ok nd fp3
  generalize eH : upd H2 D0 (.lst []) = H3 at I3 I4 w0 fp3
  have k0 := b0 s3 H3 s3.heap.objs.size (cellsFrom (s3.heap.objs.size + 1) scope.names (cloFrom X.env.cells scope.names [])) fp
  have k1 := c0 s3 H3 s3.heap.objs.size (cellsFrom (s3.heap.objs.size + 1) scope.names (cloFrom X.env.cells scope.names [])) fp
  have k2 := a1 s3 H3 s3.heap.objs.size (cellsFrom (s3.heap.objs.size + 1) scope.names (cloFrom X.env.cells scope.names [])) fp
  have k3 := b1 s3 H3 s3.heap.objs.size (cellsFrom (s3.heap.objs.size + 1) scope.names (cloFrom X.env.cells scope.names [])) fp
  have k4 := c1 s3 H3 s3.heap.objs.size (cellsFrom (s3.heap.objs.size + 1) scope.names (cloFrom X.env.cells scope.names [])) fp
  have k5 := a2 s3 H3 s3.heap.objs.size (cellsFrom (s3.heap.objs.size + 1) scope.names (cloFrom X.env.cells scope.names [])) fp
  have k6 := b2 s3 H3 s3.heap.objs.size (cellsFrom (s3.heap.objs.size + 1) scope.names (cloFrom X.env.cells scope.names [])) fp
  have k7 := c2 s3 H3 s3.heap.objs.size (cellsFrom (s3.heap.objs.size + 1) scope.names (cloFrom X.env.cells scope.names [])) fp
  have k8 := lst s3 H3 s3.heap.objs.size (cellsFrom (s3.heap.objs.size + 1) scope.names (cloFrom X.env.cells scope.names [])) fp
  show codeAny _ _ (.compStart (.ListComp el [⟨tg, it0, f0, 0⟩, ⟨tg1, it1, f1, 0⟩, ⟨tg2, it2, f2, 0⟩] scope pos) 0 (.ref it) (.ref D0) (compEnvC scope (cellsFrom (s3.heap.objs.size + 1) scope.names (cloFrom X.env.cells scope.names [])) s3.heap.objs.size X.env)) (compPost (model X.prog X.w) X.A X.xe use Qf (.ref D0) s3.heap.objs.size) _
  generalize ec : compEnvC scope (cellsFrom (s3.heap.objs.size + 1) scope.names (cloFrom X.env.cells scope.names [])) s3.heap.objs.size X.env = ce at I4 k0 k1 k2 k3 k4 k5 k6 k7 k8 ⊢
  have cl : ce.locals = s3.heap.objs.size := by subst ec; rfl
  generalize e4 : ({ s3 with heap := pushCells (s3.heap.push { cls := .type "dict", data := .dict #[] }) scope.names } : Shared) = s4 at I4 ⊢
  have st4 : tn 0 s4.heap := T.keep _ _ _ st3 fun b _ o e => by rw [← e4]; exact pushCells_keeps _ _ _ _ (Heap.get?_push_of_some _ e)
  have nfp : ∀ b ∈ fp, H3 b = none := fun b hb => (fp3 b hb).1.1
  let Y : Cx := X.blk s3 H3 scope ce fp
  have stat : ∀ {σ' : L2.St} {H' : Hp} {s' : Shared}, L2.Inv Y [] σ' H' s' → (∀ b ∈ fp, H' b = none) → ∀ b ∈ fp, FpOk Y [] H' b := fun {σ' H' s'} I' hn b hb =>
    ⟨hn b hb, (I'.ok.exf b hb).1, I'.ok.exfs b hb, .inl hb, fun x c e => (I'.ok.exf b hb).2 x c e, fun p hp => absurd (show p ∈ ([] : List (Addr × Obj)) ++ [] from hp) (by simp)⟩
  have l2 : LoopOk X.prog X.w X.A (.ListComp el [⟨tg, it0, f0, 0⟩, ⟨tg1, it1, f1, 0⟩, ⟨tg2, it2, f2, 0⟩] scope pos) 2 (.ref D0) tg2 f2 ce (bodyIn X.prog X.w X.A el ce (.ref D0)) := in_loop fun it => turn3_2 ..
  have m2 : BodyOk Y vs2 (tMid wi2 g2 tt2 (tIn te D0) vs2) (bodyMid X.prog X.w X.A it2 ce fun v => .compStart (.ListComp el [⟨tg, it0, f0, 0⟩, ⟨tg1, it1, f1, 0⟩, ⟨tg2, it2, f2, 0⟩] scope pos) 2 v (.ref D0) ce) :=
    body_mid (Y := Y) cal rfl k5 l2 (start_any (c := ⟨tg2, it2, f2, 0⟩) rfl rfl) k6 k7 (body_in (Y := Y) rfl k8) (fun i hi => (nomatch hi))
  have l1 : LoopOk X.prog X.w X.A (.ListComp el [⟨tg, it0, f0, 0⟩, ⟨tg1, it1, f1, 0⟩, ⟨tg2, it2, f2, 0⟩] scope pos) 1 (.ref D0) tg1 f1 ce (bodyMid X.prog X.w X.A it2 ce fun v => .compStart (.ListComp el [⟨tg, it0, f0, 0⟩, ⟨tg1, it1, f1, 0⟩, ⟨tg2, it2, f2, 0⟩] scope pos) 2 v (.ref D0) ce) := mid_loop (fun it => turn3_1 ..) (n2 ce)
  have m1 : BodyOk Y vs1 (tMid wi1 g1 tt1 (tMid wi2 g2 tt2 (tIn te D0) vs2) vs1) (bodyMid X.prog X.w X.A it1 ce fun v => .compStart (.ListComp el [⟨tg, it0, f0, 0⟩, ⟨tg1, it1, f1, 0⟩, ⟨tg2, it2, f2, 0⟩] scope pos) 1 v (.ref D0) ce) :=
    body_mid (Y := Y) cal rfl k2 l1 (start_any (c := ⟨tg1, it1, f1, 0⟩) rfl rfl) k3 k4 m2 v2
  have l0 : LoopOk X.prog X.w X.A (.ListComp el [⟨tg, it0, f0, 0⟩, ⟨tg1, it1, f1, 0⟩, ⟨tg2, it2, f2, 0⟩] scope pos) 0 (.ref D0) tg f0 ce (bodyMid X.prog X.w X.A it1 ce fun v => .compStart (.ListComp el [⟨tg, it0, f0, 0⟩, ⟨tg1, it1, f1, 0⟩, ⟨tg2, it2, f2, 0⟩] scope pos) 1 v (.ref D0) ce) := mid_loop (fun it => turn3_0 ..) (n1 ce)
  have lv := level (Y := Y) (pins := []) (vb := vs1) cal rfl T k0 k1 m1 v1 stat wl
  have loop : codeAny (model X.prog X.w) X.A (.compLoop (.ListComp el [⟨tg, it0, f0, 0⟩, ⟨tg1, it1, f1, 0⟩, ⟨tg2, it2, f2, 0⟩] scope pos) 0 (.ref it) (.ref D0) ce) (compPost (model X.prog X.w) X.A X.xe use Qf (.ref D0) s3.heap.objs.size) s4 := by
    refine l0 (.ref it) _ (fun n s' => ∃ i H', L2.Inv Y [] (wipe σ (own.map (·.2))) H' s' ∧ tn i s'.heap ∧ (∀ b ∈ fp, H' b = none) ∧ W i n H') (fun n s' hI => turn_done (lv n s' hI) fun s'' hd => ?_) m0 s4 ⟨0, H3, I4, st4, nfp, w0⟩
    obtain ⟨H5, I6, qq⟩ := hd
    have I7 : L2.Inv X pins σ H5 s'' := I3.call' (ch := fp) I6.os I6.base I6.hok I6.bare fun b hb => ⟨(fp3 b hb).1.2.2.2.1, (fp3 b hb).1.2.1, (fp3 b hb).1.2.2.2.2.1, (fp3 b hb).1.2.2.2.2.2⟩
    have z : H5 ce.locals = none := I6.free
    obtain ⟨m, hn, _⟩ := I6.loc
    have hn : s''.heap.Ns ce.locals m := hn
    rw [cl] at z hn
    exact out D0 s3.heap.objs.size s'' m H5 I7 qq hn (I3.fpOk (Nat.le_refl _) z)
  exact codeAny_compStart_list loop (T.self X.A 0 _ _ _ st4 loop)
theorem ps_setLc3 {i : Nat} {y : Str} {py spos : Pos} (cal : X.calm = true) (nd : X.N.Nodup) (hy : X.N[i]? = some y) (hyl : X.env.scope.names.lookup y = some .local)
    (sw : swapsWith (.ListComp el [⟨tg, it0, f0, 0⟩, ⟨tg1, it1, f1, 0⟩, ⟨tg2, it2, f2, 0⟩] scope pos) (some (.Name y py)) spos.line X.env = pure true) (src : PI X tg it0 wi) (ok : BlkOk X.N X.env.scope scope own)
    (v1 : ∀ i ∈ vs1, i ∈ own.map (·.2)) (v2 : ∀ i ∈ vs2, i ∈ vs1) (b0 : OfBlk X scope fun Y => PG Y tg g) (c0 : OfBlk X scope fun Y => PTs Y f0 tt) (a1 : OfBlk X scope fun Y => PI Y tg1 it1 wi1) (b1 : OfBlk X scope fun Y => PG Y tg1 g1) (c1 : OfBlk X scope fun Y => PTs Y f1 tt1)
    (a2 : OfBlk X scope fun Y => PI Y tg2 it2 wi2) (b2 : OfBlk X scope fun Y => PG Y tg2 g2) (c2 : OfBlk X scope fun Y => PTs Y f2 tt2) (lst : OfBlk X scope fun Y => PE Y el te)
    (n0 : ∀ x, foldedSetIterable it0 X.env x = pure x) (n1 : ∀ env x, foldedSetIterable it1 env x = pure x) (n2 : ∀ env x, foldedSetIterable it2 env x = pure x) :
    PS X (.Assign [.Name y py] (.ListComp el [⟨tg, it0, f0, 0⟩, ⟨tg1, it1, f1, 0⟩, ⟨tg2, it2, f2, 0⟩] scope pos) spos) (tAsg (tLc3 wi g tt wi1 g1 tt1 wi2 g2 tt2 te (own.map (·.2)) vs1 vs2) (gName i)) := by
  refine ⟨fun pins s σ H D I h => ?_⟩
  rw [exec_Assign_Name_used _ _ _ _ sw]
  refine wpAny_bind (wpAny_standAt (wpAny_bind ?_))
  show wpAny _ X.A (do let _ ← comprehension (.ListComp el [⟨tg, it0, f0, 0⟩, ⟨tg1, it1, f1, 0⟩, ⟨tg2, it2, f2, 0⟩] scope pos) scope X.env (firstIterPos [⟨tg, it0, f0, 0⟩, ⟨tg1, it1, f1, 0⟩, ⟨tg2, it2, f2, 0⟩] pos) (newList []) false (eval it0 X.env) (some (assign (.Name y py) X.env))) _ _ s
  have h : tLc3 wi g tt wi1 g1 tt1 wi2 g2 tt2 te (own.map (·.2)) vs1 vs2 σ H (fun x H1 => gName i x σ H1 D.nx) := h
  refine wpAny_bind (thn (lc3_core (Qf := fun _ s' => SP X pins D .next s') cal nd I src ok v1 v2 b0 c0 a1 b1 c1 a2 b2 c2 lst n0 n1 n2 h fun L C s' m H' I' q hn f => ?_) fun _ s' hq => wpAny_pure (wpAny_pure hq))
  show wpAny _ _ (assign (.Name y py) X.env (.ref L)) _ _ _
  obtain ⟨q0, q1, q2, q3, q4, q5⟩ := f
  refine wpAny_assign_Name (store_ok2 (v := V.ref L) I' nd hy (.inl hyl) rfl (fun s2 I2 hs2 => ?_) (.inr hyl))
  obtain ⟨a, sb, ha⟩ := hs2
  have far : C ≠ a := ha.elim (fun z => by rw [z]; exact q1) fun z e => q4 y a z e.symm
  exact ⟨m, hn.sameBut sb far, fun h3 sb3 => ⟨_, H', I2.turned (t' := s2.toks) (fun b o hb e => (sb3.2 b hb).trans e) q0 q1 q3 q4 q5, q⟩⟩
end
end GB

namespace GB
open PySem PySem.Spec PyProof.Rows L2

/-! comprehensions of three clauses: data -/
abbrev DB := En → (List PyData → Prop) → List PyData → Prop
def dGo (vs : List Nat) (g : DTG) (tt : TTd) (db : DB) (ρw : En) (K : List PyData → Prop) : List PyData → List PyData → Prop
  | [], acc => K acc
  | d :: ds, acc => g d ρw fun ρ2 => wipeD ρ2 vs = ρw ∧ tt ρ2 fun b ρ3 => ρ3 = ρ2 ∧ if b = true then db ρ2 (fun acc => dGo vs g tt db ρw K ds acc) acc else dGo vs g tt db ρw K ds acc
def dbIn (te : TEd) : DB := fun ρ K acc => te ρ fun s ρ4 => ρ4 = ρ ∧ ∃ y, s = .d y ∧ acc.length < sizeLine ∧ K (acc ++ [y])
def dbMid (ti : TId) (vs : List Nat) (g : DTG) (tt : TTd) (db : DB) : DB := fun ρ K acc => ti ρ fun ds ρ4 => ρ4 = ρ ∧ dGo vs g tt db (wipeD ρ vs) K ds acc
def dLc3 (ti : TId) (vs vs1 vs2 : List Nat) (g : DTG) (tt : TTd) (ti1 : TId) (g1 : DTG) (tt1 : TTd) (ti2 : TId) (g2 : DTG) (tt2 : TTd) (te : TEd) : TEd :=
  fun ρ Q => ti ρ fun ds ρ1 => dGo vs g tt (dbMid ti1 vs1 g1 tt1 (dbMid ti2 vs2 g2 tt2 (dbIn te))) (wipeD ρ1 vs) (fun acc => Q (.own acc) (wipeD ρ1 vs)) ds []
section
variable {L : Lay} {H1 : Hp} {D : Addr}
/-- no own slot holds D -/
def Apart (D : Addr) (σ : L2.St) (ρ : En) : Prop := ∀ (i : Nat) (ys : List PyData), ρ[i]? = some (.own ys) → σ[i]? ≠ some (some (.ref D))
def LsAt (L : Lay) (D : Addr) (H : Hp) (acc : List PyData) : Prop := ∃ us, H D = some (.lst us) ∧ BrA L.K H us acc
def DbOk (L : Lay) (H1 : Hp) (D : Addr) (vb : List Nat) (db : DB) (tb : TB) : Prop :=
  ∀ (σ : L2.St) (ρ : En) (H : Hp) (acc : List PyData) (K : List PyData → Prop) (Nx : Hp → Prop), NoOwn vb ρ → Go σ ρ ρ H1 H → Rel L H σ ρ → Apart D σ ρ → LsAt L D H acc → db ρ K acc →
    (∀ H' acc', Keep H H' → Go (wipe σ vb) (wipeD ρ vb) (wipeD ρ vb) H1 H' → Rel L H' (wipe σ vb) (wipeD ρ vb) → LsAt L D H' acc' → K acc' → Nx H') → tb σ H Nx
theorem own_in {vs : List Nat} {ρ : En} {j : Nat} {ys : List PyData} (e : (wipeD ρ vs)[j]? = some (.own ys)) : j ∉ vs ∧ ρ[j]? = some (.own ys) := by
  have nj : j ∉ vs := fun m => noOwn_wiped (vs := vs) ρ j m ys e
  rw [wipeD_get, if_neg nj] at e
  exact ⟨nj, e⟩
theorem own_out {vs : List Nat} {ρ : En} {j : Nat} {ys : List PyData} (no : NoOwn vs ρ) (e : ρ[j]? = some (.own ys)) : j ∉ vs ∧ (wipeD ρ vs)[j]? = some (.own ys) := by
  have nj : j ∉ vs := fun m => no j m ys e
  exact ⟨nj, by rw [wipeD_get, if_neg nj]; exact e⟩
theorem apart_wipe {σ : L2.St} {ρ : En} {vs : List Nat} (h : Apart D σ ρ) : Apart D (wipe σ vs) (wipeD ρ vs) := fun j ys e z => by
  obtain ⟨nj, e'⟩ := own_in e
  exact h j ys e' (by rw [← GB.wipe_out σ vs j nj]; exact z)
theorem walk_lv {vs vb : List Nat} {gt : TG} {g : DTG} {tt : TTd} {db : DB} {tb : TB} {J : It} {ds : List PyData} {G : Hp → Prop} {Yy : Nat → Hp → V → Hp → Prop} {σw : L2.St} {ρw : En} {Hs : Hp} {acc : List PyData} {K : List PyData → Prop} {Stop : Hp → Prop}
    (hg : GOwn L vs gt g) (bok : DbOk L H1 D vb db tb) (hv : ∀ i ∈ vb, i ∈ vs) (d1 : H1 D = none)
    (wk : Walk J ds.length G Yy) (g0 : G Hs) (gk : ∀ H H', Keep H H' → G H → G H') (step : ∀ i H x H', i < ds.length → Keep Hs H → G H → Yy i H x H' → Same H H' ∧ ∃ d, ds[i]? = some d ∧ Br L.K H' x d)
    (nw : NoOwn vs ρw) (ew : wipe σw vs = σw) (go : Go σw ρw ρw H1 Hs) (r : Rel L Hs σw ρw) (ap : Apart D σw ρw) (ls : LsAt L D Hs acc) (q : dGo vs g tt db ρw K ds acc)
    (fin : ∀ H' acc', Keep Hs H' → Go σw ρw ρw H1 H' → Rel L H' σw ρw → LsAt L D H' acc' → K acc' → Stop H') :
    ∃ W : Nat → Nat → Hp → Prop, (∃ m, W 0 m Hs) ∧ tWalk J gt (tT L tt) tb vs σw W Stop := by
  refine walk_it (Body := fun Nx x H' => gt x σw H' fun σ2 H2 => wipe σ2 vs = σw ∧ tT L tt σ2 H2 fun b H3 => if b = true then tb σ2 H3 Nx else Nx H3) wk
    (fun i H2 => Keep Hs H2 ∧ Go σw ρw ρw H1 H2 ∧ Rel L H2 σw ρw ∧ ∃ acc, LsAt L D H2 acc ∧ dGo vs g tt db ρw K (ds.drop i) acc) ⟨Keep.rfl' Hs, go, r, acc, ls, q⟩ (fun i H2 _ h => gk _ _ h.1 g0) (fun i x H2 H3 hi hP hy => ?_) fun H2 hP => ?_
  · obtain ⟨k, go2, r2, acc2, ⟨us, hD2, hb2⟩, ql⟩ := hP
    obtain ⟨sm, d, hd, bd⟩ := step i H2 x H3 hi k (gk _ _ k g0) hy
    have e : ds.drop i = d :: ds.drop (i + 1) := by
      obtain ⟨hi', e⟩ := List.getElem?_eq_some_iff.mp hd
      rw [List.drop_eq_getElem_cons hi', e]
    rw [e] at ql
    have go3 : Go σw ρw ρw H1 H3 := go2.tr (Go.sm sm)
    have hD3 : H3 D = some (.lst us) := sm D _ hD2
    refine hg (r2.go sm) nw bd ql fun σ2 ρ2 r3 no2 q3 e2w => ⟨by rw [e2w, ew], ?_⟩
    obtain ⟨e2, q3⟩ := q3
    have ew2 : wipe σ2 vs = σw := by rw [e2w, ew]
    refine ⟨ρ2, _, r3, q3, fun b H4 ρ3 go4 r4 q4 => ?_⟩
    obtain ⟨e3, q4⟩ := q4
    subst e3
    have k4 : Keep H2 H4 := (keep_of_same sm).tr (go4.keep r3)
    obtain ⟨goA, rA, dA⟩ := back e2 no2 ew2 ap go3 hD3 go4 r4
    cases b with
    | false =>
      rw [if_neg (by decide)] at q4 ⊢
      exact ⟨k.tr k4, goA, rA, acc2, ⟨us, dA, BrA.keep k4 _ _ hb2⟩, q4⟩
    | true =>
      rw [if_pos rfl] at q4 ⊢
      have outw : ∀ (i : Nat) (xs : List PyData), ρw[i]? = some (.own xs) → ρ3[i]? = some (.own xs) ∧ σ2[i]? = σw[i]? := fun j xs ej => by
        rw [← e2] at ej
        obtain ⟨nj, ej'⟩ := own_in ej
        exact ⟨ej', by rw [← ew2, GB.wipe_out σ2 vs j nj]⟩
      have ap2 : Apart D σ2 ρ3 := fun j ys ej z => by
        obtain ⟨nj, ej'⟩ := own_out no2 ej
        rw [e2] at ej'
        exact ap j ys ej' (by rw [← ew2, GB.wipe_out σ2 vs j nj]; exact z)
      refine bok σ2 ρ3 H4 acc2 _ _ (fun j m xs ej => no2 j (hv j m) xs ej) ((go3.shift outw).tr go4) r4 ap2 ⟨us, dA, BrA.keep k4 _ _ hb2⟩ q4 fun H' acc' kk go' r' hl' qk => ⟨(k.tr k4).tr kk, go'.shift fun j xs ej => ?_, ?_, acc', hl', qk⟩
      · obtain ⟨nj1, ej1⟩ := own_in ej
        obtain ⟨nj, ej2⟩ := own_out no2 ej1
        rw [e2] at ej2
        exact ⟨ej2, by rw [GB.wipe_out σ2 vb j nj1, ← ew2, GB.wipe_out σ2 vs j nj]⟩
      · have h := (r'.wiped (vs := vs)).move (σ' := σw) (by rw [wipe_length, ← ew2, wipe_length]) fun j hj => by
          rw [GB.wipe_out σ2 vb j (fun m => hj (hv j m)), ← ew2, GB.wipe_out σ2 vs j hj]
        rw [wipeD_in hv, e2] at h
        exact h
  · obtain ⟨k, go2, r2, acc2, hl2, ql⟩ := hP
    rw [List.drop_length] at ql
    exact fin H2 acc2 k go2 r2 hl2 ql
theorem db_in {te : TEd} (d1 : H1 D = none) (d0 : L.H0 D = none) : DbOk L H1 D [] (dbIn te) (tIn (tE L te) D) := by
  intro σ ρ H acc K Nx _ go r ap hl q fin
  obtain ⟨us, hD, hb⟩ := hl
  refine ⟨ρ, _, r, q, fun y H9 s ρ7 go9 r9 hvv q9 => ?_⟩
  obtain ⟨e7, y', rfl, hz, q10⟩ := q9
  subst e7
  have dG : H9 D = some (.lst us) := go9.stay D _ hD fun j xs ej z => ap j xs ej z
  have k9 : Keep H H9 := go9.keep r
  have kD : Keep H9 (upd H9 D (.lst (us ++ [y]))) := keep_put dG trivial
  have lu := hb.len
  exact ⟨us, dG, by omega, fin _ (acc ++ [y']) (k9.tr kD) (app_go (go.tr go9) d1) (r9.other dG d0 ap) ⟨us ++ [y], upd_same, (BrA.keep (k9.tr kD) _ _ hb).app (BrA.one (Br.keep kD _ _ hvv))⟩ q10⟩
theorem db_mid {vs vb : List Nat} {ti : TId} {gt : TG} {g : DTG} {tt : TTd} {db : DB} {tb : TB} (hg : GOwn L vs gt g) (bok : DbOk L H1 D vb db tb) (hv : ∀ i ∈ vb, i ∈ vs) (d1 : H1 D = none) :
    DbOk L H1 D vs (dbMid ti vs g tt db) (tMid (tI L ti) gt (tT L tt) tb vs) := by
  intro σ ρ H acc K Nx no go r ap hl q fin
  obtain ⟨us, hD, hb⟩ := hl
  refine ⟨ρ, _, r, q, fun J H5 ds ρ4 go5 r5 q5 it => ?_⟩
  obtain ⟨e4, q5⟩ := q5
  subst e4
  obtain ⟨G, Yy, wk, g0, gk, step⟩ := it
  have k5 : Keep H H5 := go5.keep r
  have d5 : H5 D = some (.lst us) := go5.stay D _ hD fun j xs ej z => ap j xs ej z
  refine walk_lv hg bok hv d1 wk g0 gk step (noOwn_wiped ρ4) wipe_wipe ((go.tr go5).shift fun j xs ej => ?_) (r5.wiped.move (wipe_length σ vs) (GB.wipe_out σ vs)) (apart_wipe ap) ⟨us, d5, BrA.keep k5 _ _ hb⟩ q5 fun H' acc' kk go' r' hl' qk => fin H' acc' (k5.tr kk) go' r' hl' qk
  obtain ⟨nj, ej'⟩ := own_out no ej
  exact ⟨ej', GB.wipe_out σ vs j nj⟩
theorem lc3_read {ti ti1 ti2 : TId} {vs vs1 vs2 : List Nat} {gt gt1 gt2 : TG} {g g1 g2 : DTG} {tt tt1 tt2 : TTd} {te : TEd} (h1 : ∀ i ∈ vs1, i ∈ vs) (h2 : ∀ i ∈ vs2, i ∈ vs1) (hg : GOwn L vs gt g) (hg1 : GOwn L vs1 gt1 g1) (hg2 : GOwn L vs2 gt2 g2) :
    ∀ σ H Q', tE L (dLc3 ti vs vs1 vs2 g tt ti1 g1 tt1 ti2 g2 tt2 te) σ H Q' → tLc3 (tI L ti) gt (tT L tt) (tI L ti1) gt1 (tT L tt1) (tI L ti2) gt2 (tT L tt2) (tE L te) vs vs1 vs2 σ H Q' := by
  intro σ H Q' q
  obtain ⟨ρ, Q, r, q, fin⟩ := q
  refine ⟨ρ, _, r, q, fun J H1 ds ρ1 go r1 q1 it D hD => ?_⟩
  obtain ⟨G, Yy, wk, g0, gk, step⟩ := it
  have sD := same_new (o := .lst []) hD
  have d0 : L.H0 D = none := r1.same.free hD
  have rw1 : Rel L H1 (wipe σ vs) (wipeD ρ1 vs) := r1.wiped.move (wipe_length σ vs) (GB.wipe_out σ vs)
  have ap : Apart D (wipe σ vs) (wipeD ρ1 vs) := fun i ys e z => by
    obtain ⟨l', us', q1, q2, _⟩ := rw1.getO e
    rw [z] at q1; cases q1
    rw [hD] at q2; cases q2
  refine walk_lv (H1 := H1) (D := D) hg (db_mid hg1 (db_mid hg2 (db_in hD d0) (fun _ m => (nomatch m)) hD) h2 hD) h1 hD wk (gk _ _ (keep_of_same sD) g0) gk (fun i H2 x H3 hi k gg hy => step i H2 x H3 hi ((keep_of_same sD).tr k) gg hy) (noOwn_wiped ρ1) wipe_wipe (Go.sm sD) (rw1.go sD) ap ⟨[], upd_same, .nil⟩ q1 fun H2 acc k goi r2 hl ql => ?_
  obtain ⟨us, hDl, hb⟩ := hl
  have goF : Go σ ρ1 (wipeD ρ1 vs) H1 H2 := ⟨fun a o h n => goi.stay a o h fun j xs ej z => by
      obtain ⟨nj, ej'⟩ := own_in ej
      rw [GB.wipe_out σ vs j nj] at z
      exact n j xs ej' z, fun j xs ej => ⟨xs, (own_in ej).2⟩, goi.dom⟩
  exact fin (.ref D) H2 (.own acc) _ (go.tr goF) (r2.move (wipe_length σ vs).symm fun j hj => (GB.wipe_out σ vs j hj).symm) ⟨⟨D, us, rfl, hDl, hb, d0⟩, fun l e => by cases e; exact go.dom _ hD⟩ ql
end
end GB

namespace GB
open PySem PySem.Spec PyProof.Rows L2

/-! comprehensions of three clauses: as a row of a def; steps from without -/
section
variable {X : Cx} {L : Lay} {el tg it0 tg1 it1 tg2 it2 : Expr} {f0 f1 f2 : List Expr} {scope : Scope} {own : List (Str × Nat)} {vs1 vs2 : List Nat} {pos : Pos} {ti ti1 ti2 : TId} {g g1 g2 : DTG} {gt gt1 gt2 : TG} {tt tt1 tt2 : TTd} {te : TEd}
theorem ds_setLc3 {i : Nat} {y : Str} {py spos : Pos} (gd : Good X) (hy : X.N[i]? = some y) (hyl : X.env.scope.names.lookup y = some .local)
    (sw : swapsWith (.ListComp el [⟨tg, it0, f0, 0⟩, ⟨tg1, it1, f1, 0⟩, ⟨tg2, it2, f2, 0⟩] scope pos) (some (.Name y py)) spos.line X.env = pure true) (src : PI X tg it0 (tI L ti)) (ok : BlkOk X.N X.env.scope scope own)
    (v1 : ∀ i ∈ vs1, i ∈ own.map (·.2)) (v2 : ∀ i ∈ vs2, i ∈ vs1) (b0 : OfBlk X scope fun Y => PG Y tg gt) (o0 : GOwn L (own.map (·.2)) gt g) (c0 : OfBlk X scope fun Y => Good Y → PTs Y f0 (tT L tt))
    (a1 : OfBlk X scope fun Y => Good Y → PI Y tg1 it1 (tI L ti1)) (b1 : OfBlk X scope fun Y => PG Y tg1 gt1) (o1 : GOwn L vs1 gt1 g1) (c1 : OfBlk X scope fun Y => Good Y → PTs Y f1 (tT L tt1))
    (a2 : OfBlk X scope fun Y => Good Y → PI Y tg2 it2 (tI L ti2)) (b2 : OfBlk X scope fun Y => PG Y tg2 gt2) (o2 : GOwn L vs2 gt2 g2) (c2 : OfBlk X scope fun Y => Good Y → PTs Y f2 (tT L tt2))
    (lst : OfBlk X scope fun Y => Good Y → PE Y el (tE L te)) (n0 : ∀ x, foldedSetIterable it0 X.env x = pure x := by intro _; rfl) (n1 : ∀ env x, foldedSetIterable it1 env x = pure x := by intro _ _; rfl) (n2 : ∀ env x, foldedSetIterable it2 env x = pure x := by intro _ _; rfl) :
    PS X (.Assign [.Name y py] (.ListComp el [⟨tg, it0, f0, 0⟩, ⟨tg1, it1, f1, 0⟩, ⟨tg2, it2, f2, 0⟩] scope pos) spos) (tS L (dSet i (dLc3 ti (own.map (·.2)) vs1 vs2 g tt ti1 g1 tt1 ti2 g2 tt2 te))) := by
  have good : ∀ {s : Shared} {H : Hp} {C : Addr} {cl : List (Str × Addr)} {fp : List Addr}, Good (X.blk s H scope (compEnvC scope cl C X.env) fp) := ⟨gd.calm, gd.gd, gd.sys, gd.un, gd.nd⟩
  refine (ps_setLc3 gd.calm gd.nd hy hyl sw src ok v1 v2 b0 (fun s H C cl fp => c0 s H C cl fp good) (fun s H C cl fp => a1 s H C cl fp good) b1 (fun s H C cl fp => c1 s H C cl fp good) (fun s H C cl fp => a2 s H C cl fp good) b2 (fun s H C cl fp => c2 s H C cl fp good)
    (fun s H C cl fp => lst s H C cl fp good) n0 n1 n2).less fun D σ H q => ?_
  obtain ⟨ρ, De, r, q, m1, _⟩ := q
  exact lc3_read v1 v2 o0 o1 o2 _ _ _ ⟨ρ, _, r, q, fun v H' s ρ' go r' hv n => m1 _ _ _ (go.keep r) (r.set r' go hv) n⟩
end
section
variable {ti ti1 ti2 : TId} {vs vs1 vs2 : List Nat} {g g1 g2 : DTG} {tt tt1 tt2 : TTd} {te : TEd} {ρ : En} {db : DB} {K : List PyData → Prop} {acc ds : List PyData} {d : PyData}
theorem e_lc3 {Q : S → En → Prop} : dLc3 ti vs vs1 vs2 g tt ti1 g1 tt1 ti2 g2 tt2 te ρ Q ↔ ti ρ fun ds ρ1 => dGo vs g tt (dbMid ti1 vs1 g1 tt1 (dbMid ti2 vs2 g2 tt2 (dbIn te))) (wipeD ρ1 vs) (fun acc => Q (.own acc) (wipeD ρ1 vs)) ds [] := Iff.rfl
theorem e_gon : dGo vs g tt db ρ K [] acc ↔ K acc := Iff.rfl
theorem e_goc : dGo vs g tt db ρ K (d :: ds) acc ↔ g d ρ fun ρ2 => wipeD ρ2 vs = ρ ∧ tt ρ2 fun b ρ3 => ρ3 = ρ2 ∧ iteK b (db ρ2 (fun acc => dGo vs g tt db ρ K ds acc) acc) (dGo vs g tt db ρ K ds acc) := Iff.rfl
theorem e_dbMid : dbMid ti vs g tt db ρ K acc ↔ ti ρ fun ds ρ4 => ρ4 = ρ ∧ dGo vs g tt db (wipeD ρ vs) K ds acc := Iff.rfl
theorem e_dbIn : dbIn te ρ K acc ↔ te ρ fun s ρ4 => ρ4 = ρ ∧ oneK s fun y => acc.length < sizeLine ∧ K (acc ++ [y]) := Iff.rfl
end
end GB

namespace GB
open PySem PySem.Spec PyProof.Rows L2 SeqAt

/-! a tuple of anything beside the empty one -/
def fNeU : F2 := fun x y Q => ∃ xs, x = .tuple xs ∧ y = .tuple [] ∧ Q (.d (.bool (!xs.isEmpty)))
theorem f_neu {xs : List PyData} {k : S → Prop} : fNeU (.tuple xs) (.tuple []) k ↔ k (.d (.bool (!xs.isEmpty))) :=
  ⟨fun ⟨_, e, _, h⟩ => by cases e; exact h, fun h => ⟨xs, rfl, rfl, h⟩⟩
section
variable {X : Cx} {L : Lay}
theorem o_neu (hK : L.K = X.K) (g : Good X) : OpR X (compareOp .NotEq) (rD L fNeU) := by
  intro pins s σ H x y v u Q' I rx ry q
  obtain ⟨dx, dy, Q, bx, by_, ⟨xs, rfl, rfl, q⟩, fin⟩ := q
  obtain ⟨as, r1⟩ := Bk.reads hK I bx rx
  obtain ⟨bs, r2⟩ := Bk.reads hK I by_ ry
  cases r1 with
  | @tuple l o vs n _ as1 h1 h2 h3 h4 =>
    cases r2 with
    | @tuple l' o' vs' n' _ bs1 k1 k2 k3 k4 =>
      have n1 : vs.size = xs.length := by simpa using ReadsAll.length _ _ _ h4
      have n2 : vs'.size = 0 := by simpa using ReadsAll.length _ _ _ k4
      have e : (!((List.range (min vs.size vs'.size)).all (fun _ => true) && vs.size == vs'.size)) = !xs.isEmpty := by
        rw [n2, n1]
        cases xs <;> simp
      refine RcNeAt.tuples (e := fun _ => true) ⟨_, h1, h2, _, h3⟩ ⟨_, k1, k2, _, k3⟩ (by have := g.un; omega) (fun j j1 j2 => absurd j2 (by omega)) X.prog X.w _ _ ?_
      rw [e]
      exact ⟨.bl _, H, I, rfl, fin _ H _ (Same.refl H) (nr_d (.bl _)) q⟩
end
end GB

namespace GB
open PySem PySem.Spec PyProof.Rows L2 SeqAt

/-! texts and tuples beside tables: never equal -/
theorem tup_no_dict (l b : Addr) (vs : Array Value) (n m : Nat) (es : Array DictEntry) (d1 d2 : Option Addr) (z1 z2 : Array (Option Value)) :
    Meets (Builtin.«tuple.__eq__» ⟨[.ref l, .ref b], []⟩) (fun _ R s => s.heap.get? l = some { cls := .type "tuple", dict := d1, data := .seq vs n, slots := z1 } ∧ s.heap.get? b = some { cls := .type "dict", dict := d2, data := .dict es m, slots := z2 } ∧ R (.ok (.ret .notImplemented)) s) :=
  .of_wp fun prog w A R s h => by obtain ⟨hp, g, d, tk, os⟩ := s; obtain ⟨hl, hb, h⟩ := h; have f1 := F.sub_dict_tuple; wp_walk using wpAny_loadPart' hl, wpAny_loadPart' hb; exact ⟨_, rfl, h⟩
theorem dict_no_tup (l b : Addr) (vs : Array Value) (n m : Nat) (es : Array DictEntry) (d1 d2 : Option Addr) (z1 z2 : Array (Option Value)) :
    Meets (Builtin.«dict.__eq__» ⟨[.ref b, .ref l], []⟩) (fun _ R s => s.heap.get? l = some { cls := .type "tuple", dict := d1, data := .seq vs n, slots := z1 } ∧ s.heap.get? b = some { cls := .type "dict", dict := d2, data := .dict es m, slots := z2 } ∧ R (.ok (.ret .notImplemented)) s) :=
  .of_wp fun prog w A R s h => by obtain ⟨hp, g, d, tk, os⟩ := s; obtain ⟨hl, hb, h⟩ := h; have f1 := F.sub_tuple_dict; wp_walk using wpAny_loadPart' hl, wpAny_loadPart' hb; exact ⟨_, rfl, h⟩
theorem str_no_dict (x : Str) (t : Tok) (b : Addr) (m : Nat) (es : Array DictEntry) (d2 : Option Addr) (z2 : Array (Option Value)) :
    Meets (Builtin.«str.__eq__» ⟨[.str x t, .ref b], []⟩) (fun _ R s => s.heap.get? b = some { cls := .type "dict", dict := d2, data := .dict es m, slots := z2 } ∧ R (.ok (.ret .notImplemented)) s) :=
  .of_wp fun prog w A R s h => by obtain ⟨hp, g, d, tk, os⟩ := s; obtain ⟨hb, h⟩ := h; wp_walk using wpAny_loadPart' hb, wpAny_load hb; exact ⟨_, rfl, h⟩
theorem dict_no_str (x : Str) (t : Tok) (b : Addr) (m : Nat) (es : Array DictEntry) (d2 : Option Addr) (z2 : Array (Option Value)) :
    Meets (Builtin.«dict.__eq__» ⟨[.ref b, .str x t], []⟩) (fun _ R s => s.heap.get? b = some { cls := .type "dict", dict := d2, data := .dict es m, slots := z2 } ∧ R (.ok (.ret .notImplemented)) s) :=
  .of_wp fun prog w A R s h => by obtain ⟨hp, g, d, tk, os⟩ := s; obtain ⟨hb, h⟩ := h; have f1 := F.sub_str_dict; wp_walk using wpAny_loadPart' hb, wpAny_load hb; exact ⟨_, rfl, h⟩
end GB

namespace GB
open PySem PySem.Spec PyProof.Rows L2 SeqAt

/-! plain things beside anything -/
def IsTab (h : Heap) (b : Addr) : Prop := ∃ o es n, h.get? b = some o ∧ o.cls = .type "dict" ∧ o.data = .dict es n
section
variable {A : Around} {s : Shared}
theorem ne_tab {l b : Addr} {vs : Array Value} (hl : s.heap.IsTuple l vs) (hb : IsTab s.heap b) : l ≠ b := fun e => by
  subst e
  obtain ⟨o, ho, hc, _⟩ := hl
  obtain ⟨o2, _, _, ho2, hc2, _⟩ := hb
  rw [ho] at ho2; cases ho2
  rw [hc] at hc2; exact absurd hc2 (by simp)
theorem rc_tup_tab {l b : Addr} {vs : Array Value} (hl : s.heap.IsTuple l vs) (hb : IsTab s.heap b) (hu : A.units < cLine) : RcAt A s (.ref l) (.ref b) false := fun prog w E Q h => by
  have hne := ne_tab hl hb
  obtain ⟨⟨cls, dd, data, sl⟩, ho, hc, n, hd⟩ := id hl
  obtain ⟨⟨cls2, dd2, data2, sl2⟩, es, m, ho2, hc2, hd2⟩ := id hb
  simp only at hc hd hc2 hd2
  subst hc hd hc2 hd2
  exact (rc_eq_decline_or (k := false) ⟨_, ho, rfl⟩ ⟨_, ho2, rfl⟩ (by decide) F.sub_dict_tuple F.slot_tuple_eq F.slot_dict_eq_refl
    (fun _ hq => call_meets F.slot_tuple_eq ⟨_, ho, rfl⟩ F.entry_tuple_eq (F.args_tuple_eq_2 _ _) (tup_no_dict l b vs n m es dd dd2 sl sl2) ⟨ho, ho2, hq⟩)
    (fun _ hq => call_meets F.slot_dict_eq_refl ⟨_, ho2, rfl⟩ F.entry_dict_eq (F.args_dict_eq_2 _ _) (dict_no_tup l b vs n m es dd dd2 sl sl2) ⟨ho, ho2, hq⟩)
    (fun _ hq => wpAny_isSame_ref_other' hne ho ho2 (by simp) hq) (.inr hu) h)
theorem rc_str_tab {x : Str} {t : Tok} {b : Addr} (hb : IsTab s.heap b) (hu : A.units < cLine) : RcAt A s (.str x t) (.ref b) false := fun prog w E Q h => by
  obtain ⟨⟨cls2, dd2, data2, sl2⟩, es, m, ho2, hc2, hd2⟩ := id hb
  simp only at hc2 hd2
  subst hc2 hd2
  exact (rc_eq_decline_or (k := false) (typeIs_str s x t) ⟨_, ho2, rfl⟩ (by decide) F.sub_dict_str F.slot_str_eq F.slot_dict_eq_refl
    (fun _ hq => call_meets F.slot_str_eq (typeIs_str s x t) F.entry_str_eq (F.args_str_eq_2 _ _) (str_no_dict x t b m es dd2 sl2) ⟨ho2, hq⟩)
    (fun _ hq => call_meets F.slot_dict_eq_refl ⟨_, ho2, rfl⟩ F.entry_dict_eq (F.args_dict_eq_2 _ _) (dict_no_str x t b m es dd2 sl2) ⟨ho2, hq⟩)
    (fun _ hq => wpAny_of_eq (rfl : isSame (.str x t) (.ref b) = pure false) hq) (.inr hu) h)
theorem eq_str_tab {x : Str} {t : Tok} {b : Addr} (hb : IsTab s.heap b) (hu : A.units < cLine) : EqAt A s (.str x t) (.ref b) false := fun prog w E Q h => by
  unfold eqBool
  refine wpAny_holding (wpAny_ite_split (fun hab => absurd (eq_of_beq hab) nofun) fun _ => ?_)
  exact wpAny_bind (rc_str_tab hb hu prog w E _ (wpAny_truthy_bool h))
def strB : PyData → Bool
  | .str _ => true
  | _ => false
def plainB : PyData → Bool
  | .str _ => true
  | .tuple zs => zs.all strB
  | _ => false
theorem eq_str_any {x : Str} {t : Tok} {u : Value} {d : PyData} {as : List Addr} (r : Reads s.heap u d as) (hu : A.units < cLine) : EqAt A s (.str x t) u (PyData.eqv (.str x) d) := by
  cases r with
  | none => exact EqAt.str_none x t
  | bool y => exact EqAt.str_bool x t y
  | int y u => exact EqAt.str_int x t y u
  | str y u => exact EqAt.str_str x t y u
  | list k1 k2 k3 k4 => exact EqAt.str_list x t ⟨_, k1, k2, _, k3⟩ hu
  | tuple k1 k2 k3 k4 => exact EqAt.str_tuple x t ⟨_, k1, k2, _, k3⟩ hu
  | dict k1 k2 k3 k4 k5 => exact eq_str_tab ⟨_, _, _, k1, k2, k3⟩ hu
theorem strs_any : ∀ (xs ys : List PyData) (vs ws : List Value) (as bs : List Addr), xs.all strB = true → ReadsAll s.heap vs xs as → ReadsAll s.heap ws ys bs → A.units < cLine → ∀ j (h1 : j < vs.length) (h2 : j < ws.length), EqAt A s vs[j] ws[j] (pairEq xs ys j)
  | [], _, _, _, _, _, _, ra, _, _, j, h1, _ => by cases ra; exact absurd h1 (Nat.not_lt_zero _)
  | _ :: _, [], _, _, _, _, _, _, rb, _, j, _, h2 => by cases rb; exact absurd h2 (Nat.not_lt_zero _)
  | x :: xs, y :: ys, _, _, _, _, h, ra, rb, hu, j, h1, h2 => by
    rw [List.all_cons, Bool.and_eq_true] at h
    cases ra with
    | cons r rs =>
      cases rb with
      | cons r' rs' =>
        cases j with
        | zero =>
          cases x with
          | str z =>
            cases r with
            | str _ t => exact eq_str_any r' hu
          | _ => exact absurd h.1 (by simp [strB])
        | succ j => exact strs_any xs ys _ _ _ _ h.2 rs rs' hu j (by simpa using h1) (by simpa using h2)
theorem strs_lay : ∀ {xs : List PyData}, xs.all strB = true → (xs.all fun z => z.canLay0) = true → PyData.canLayAll0 xs = true
  | [], _, _ => rfl
  | x :: xs, h, h' => by
    rw [List.all_cons, Bool.and_eq_true] at h h'
    simp [PyData.canLayAll0, h'.1, strs_lay h.2 h'.2]
theorem eq_plain_any {z d : PyData} {v u : Value} {as bs : List Addr} (hp : plainB z = true) (hl : z.canLay0 = true) (ra : Reads s.heap v z as) (rb : Reads s.heap u d bs) (hu : A.in1.units < cLine) (hu0 : A.units < cLine) : EqAt A s v u (PyData.eqv z d) := by
  cases ra with
  | str x t => exact eq_str_any rb hu0
  | @tuple l o vs n xs as1 h1 h2 h3 h4 =>
    have ht : s.heap.IsTuple l vs := ⟨_, h1, h2, _, h3⟩
    cases rb with
    | none => exact EqAt.tuple_none ht hu0
    | bool y => exact EqAt.tuple_bool y ht hu0
    | int y u => exact EqAt.tuple_int y u ht hu0
    | str y u => exact EqAt.tuple_str y u ht hu0
    | list k1 k2 k3 k4 => exact EqAt.tuple_list ht ⟨_, k1, k2, _, k3⟩ hu0
    | dict k1 k2 k3 k4 k5 => exact EqAt.of_refs (ne_tab ht ⟨_, _, _, k1, k2, k3⟩) (rc_tup_tab ht ⟨_, _, _, k1, k2, k3⟩ hu0)
    | @tuple l' o' vs' n' ys bs1 k1 k2 k3 k4 =>
      have ht' : s.heap.IsTuple l' vs' := ⟨_, k1, k2, _, k3⟩
      have n1 : vs.size = xs.length := by simpa using ReadsAll.length _ _ _ h4
      have n2 : vs'.size = ys.length := by simpa using ReadsAll.length _ _ _ k4
      show EqAt A s (.ref l) (.ref l') (PyData.eqvAll xs ys)
      by_cases hll : l = l'
      · subst hll
        have e : PyData.tuple xs = PyData.tuple ys := Reads.unique (.tuple xs) (.tuple ys) _ _ _ hl (.tuple h1 h2 h3 h4) (.tuple k1 k2 k3 k4)
        injection e with e
        subst e
        rw [eqvAll_refl xs hl]
        exact EqAt.same _
      · rw [← eqvAll_eq xs ys, ← n1, ← n2]
        refine EqAt.of_refs hll (RcAt.tuples ht ht' hu0 fun j j1 j2 => ?_)
        have := strs_any (A := A.in1) xs ys vs.toList vs'.toList _ _ hp h4 k4 hu j (by simpa using j1) (by simpa using j2)
        simpa using this
  | _ => exact absurd hp (by simp [plainB])
end
/-- x in c, c a tuple of plain things, x anything -/
def plains (zs : List PyData) : Bool := zs.all fun z => plainB z && z.canLay0
def fInP : F2 := fun x c Q => ∃ zs, c = .tuple zs ∧ plains zs = true ∧ Q (.d (.bool (zs.any fun z => PyData.eqv z x)))
def fNotInP : F2 := fun x c Q => ∃ zs, c = .tuple zs ∧ plains zs = true ∧ Q (.d (.bool (!zs.any fun z => PyData.eqv z x)))
def fGeS : F2 := fun x y Q => ∃ a b, x = .str a ∧ y = .str b ∧ Q (.d (.bool (!PySem.W.dataLt (.str a) (.str b))))
theorem f_inP {x : PyData} {zs : List PyData} {k : S → Prop} : fInP x (.tuple zs) k ↔ plains zs = true ∧ k (.d (.bool (zs.any fun z => PyData.eqv z x))) :=
  ⟨fun ⟨_, e, h⟩ => by cases e; exact h, fun h => ⟨_, rfl, h⟩⟩
theorem f_notInP {x : PyData} {zs : List PyData} {k : S → Prop} : fNotInP x (.tuple zs) k ↔ plains zs = true ∧ k (.d (.bool (!zs.any fun z => PyData.eqv z x))) :=
  ⟨fun ⟨_, e, h⟩ => by cases e; exact h, fun h => ⟨_, rfl, h⟩⟩
theorem f_geS {a b : Str} {k : S → Prop} : fGeS (.str a) (.str b) k ↔ k (.d (.bool (!PySem.W.dataLt (.str a) (.str b)))) :=
  ⟨fun ⟨_, _, e1, e2, h⟩ => by cases e1; cases e2; exact h, fun h => ⟨_, _, rfl, rfl, h⟩⟩
theorem plains_lay : ∀ {zs : List PyData}, plains zs = true → PyData.canLayAll0 zs = true
  | [], _ => rfl
  | z :: zs, h => by
    unfold plains at h
    rw [List.all_cons, Bool.and_eq_true, Bool.and_eq_true] at h
    simp [PyData.canLayAll0, h.1.2, plains_lay (zs := zs) h.2]
theorem plains_mem {h : Heap} : ∀ {zs : List PyData} {vs : List Value} {as : List Addr}, plains zs = true → ReadsAll h vs zs as → ∀ y ∈ vs, ∃ z bs, Reads h y z bs ∧ plainB z = true ∧ z.canLay0 = true
  | [], _, _, _, r, y, hy => by cases r; cases hy
  | z :: zs, _, _, h, r, y, hy => by
    unfold plains at h
    rw [List.all_cons, Bool.and_eq_true, Bool.and_eq_true] at h
    cases r with
    | cons r rs =>
      rcases List.mem_cons.mp hy with rfl | hy
      · exact ⟨z, _, r, h.1.1, h.1.2⟩
      · exact plains_mem h.2 rs y hy
section
variable {X : Cx} {L : Lay}
theorem in_plain (hK : L.K = X.K) (g : Good X) {pins : List (Addr × Obj)} {s : Shared} {σ : L2.St} {H : Hp} {x y : V} {v u : Value} {dx : PyData} {zs : List PyData} (I : L2.Inv X pins σ H s) (rx : L2.RelV x v) (ry : L2.RelV y u) (bx : Bk L H x dx) (by_ : Bk L H y (.tuple zs)) (hz : plains zs = true)
    {E Q : Value → Shared → Prop} : (Q (.bool (zs.any fun z => PyData.eqv z dx)) s → wpAny (model X.prog X.w) X.A (compareOp .In v u) Q E s) ∧ (Q (.bool (!zs.any fun z => PyData.eqv z dx)) s → wpAny (model X.prog X.w) X.A (compareOp .NotIn v u) Q E s) := by
  obtain ⟨as, r1⟩ := Bk.reads hK I bx rx
  obtain ⟨bs, r2⟩ := Bk.reads hK I by_ ry
  have un := g.un
  cases r2 with
  | @tuple l o vs n _ as1 h1 h2 h3 h4 =>
    have each : ∀ y, y ∈ vs → EqAt X.A.in1 s y v (PyData.eqv (readOf s.heap y) dx) := fun y hy => by
      obtain ⟨z, cs, rz, p1, p2⟩ := plains_mem hz h4 y (by simpa using hy)
      rw [readOf_eq p2 rz]
      exact eq_plain_any p1 p2 rz r1 (by show X.A.units + 1 + 1 < cLine; omega) (by show X.A.units + 1 < cLine; omega)
    have e := any_by_data (vs := vs) (d := dx) h4 (plains_lay hz)
    exact ⟨fun h => in_tupleAt _ ⟨_, h1, h2, _, h3⟩ each (by rw [e]; exact h), fun h => notIn_tupleAt _ ⟨_, h1, h2, _, h3⟩ each (by rw [e]; exact h)⟩
theorem o_inP (hK : L.K = X.K) (g : Good X) : OpR X (compareOp .In) (rD L fInP) := by
  intro pins s σ H x y v u Q' I rx ry q
  obtain ⟨dx, dy, Q, bx, by_, ⟨zs, rfl, hz, q⟩, fin⟩ := q
  exact (in_plain hK g I rx ry bx by_ hz).1 ⟨.bl _, H, I, rfl, fin _ H _ (Same.refl H) (nr_d (.bl _)) q⟩
theorem o_notInP (hK : L.K = X.K) (g : Good X) : OpR X (compareOp .NotIn) (rD L fNotInP) := by
  intro pins s σ H x y v u Q' I rx ry q
  obtain ⟨dx, dy, Q, bx, by_, ⟨zs, rfl, hz, q⟩, fin⟩ := q
  exact (in_plain hK g I rx ry bx by_ hz).2 ⟨.bl _, H, I, rfl, fin _ H _ (Same.refl H) (nr_d (.bl _)) q⟩
theorem o_geS (hK : L.K = X.K) (g : Good X) : OpR X (compareOp .GtE) (rD L fGeS) := by
  intro pins s σ H x y v u Q' I rx ry q
  obtain ⟨dx, dy, Q, bx, by_, ⟨a, b, rfl, rfl, q⟩, fin⟩ := q
  obtain ⟨as, r1⟩ := Bk.reads hK I bx rx
  obtain ⟨bs, r2⟩ := Bk.reads hK I by_ ry
  exact PySem.W.ge_data r1 r2 rfl (by simp) (by have := g.un; simp only [PyData.depth]; omega) ⟨.bl _, H, I, rfl, fin _ H _ (Same.refl H) (nr_d (.bl _)) q⟩
end
end GB

set_option maxRecDepth 100000
namespace GB
open PySem PySem.Spec PyProof.Rows L2
/-! a dict of the top, texts to ints -/
def dDct (d : List (Str × Int)) (t : TEd) : TEd := fun ρ Q => t ρ fun s ρ1 => ∃ z n, s = .d (.str z) ∧ d.lookup z = some n ∧ Q (.d (.int n)) ρ1
def DctOk (K : PySem.W.Frag) (w : World) (a : Addr) (d : List (Str × Int)) : Prop := ∀ z n, d.lookup z = some n → KDct K w a z (.int n)
theorem de_dct {X : Cx} {L : Lay} {x : Str} {a : Addr} {d : List (Str × Int)} {t : TEd} {b : Expr} {p pos : Pos} (hg : Gl X x) (hm : X.mg x = some (.ref a)) (T : DctOk X.K X.w a d) (hb : PE X b (tE L t)) (hs : PlainIx b)
    (hd : (x == ("__debug__" : Str)) = false := by decide) : PE X (.Subscript (.Name x p) b pos) (tE L (dDct d t)) :=
  (pe_ix ix_kdict (pe_glob (v := .ref a) hg hm rfl hd) hb hs).less fun σ H Q' h => by
    obtain ⟨ρ, Q, r, q, fin⟩ := h
    refine (show tE L t σ H _ from ⟨ρ, _, r, q, fun u H2 s2 ρ2 k2 r2 hu q2 => ?_⟩)
    obtain ⟨z, n, rfl, e, q3⟩ := q2
    have hu : Br L.K H2 u (.str z) := hu
    cases hu
    exact ⟨a, z, .int n, rfl, rfl, T z n e, fin _ H2 (.d (.int n)) ρ2 k2 r2 (.int n) q3⟩
theorem dctOk_nil {K : PySem.W.Frag} {w : World} {a : Addr} : DctOk K w a [] := fun _ _ h => by cases h
theorem dctOk_cons {K : PySem.W.Frag} {w : World} {a : Addr} {k : Str} {i : Int} {d : List (Str × Int)} (h : KDct K w a k (.int i)) (r : DctOk K w a d) : DctOk K w a ((k, i) :: d) := fun z n e => by
  rw [List.lookup_cons] at e
  split at e
  · rename_i q
    cases e
    rw [eq_of_beq q]; exact h
  · exact r z n e
end GB

set_option maxRecDepth 100000
set_option maxHeartbeats 1000000
namespace GB
open PySem PySem.Spec PyProof.Rows L2 SrtO Srt
/-! sorted of texts, of a tuple or a list -/
section
variable {prog : Program} {w : World} {A : Around} {E : Value → Shared → Prop} {s : Shared}
def ltSv (v u : Value) : Bool := decide ((strOf v).cps.toList < (strOf u).cps.toList)
theorem swo_str : Swo ltSv := by
  refine ⟨fun x y h => ?_, fun x y z h1 h2 => ?_⟩
  · exact decide_eq_false (List.lt_asymm (of_decide_eq_true h))
  · have a := of_decide_eq_false h1
    have b := of_decide_eq_false h2
    exact decide_eq_false (fun c => (List.le_trans (List.not_lt.mp a) (List.not_lt.mp b)) c)
theorem str_cmp {vs : List Value} {ss : List Str} (hS : StrsAre vs ss) : Cmp prog w A s oneType' (fun p => p.1 ∈ vs) (lt2 ltSv) := by
  intro p q hm hm'
  obtain ⟨a, t, e⟩ := hS.all _ hm
  obtain ⟨b, u, e'⟩ := hS.all _ hm'
  show wpAny (model prog w) A (keyLt' oneType' p.1 q.1) (fun r s' => s' = s ∧ r = ltSv p.1 q.1) (fun _ _ => False) s
  rw [e, e', keyLt'_oneType]
  exact oneLt_str ⟨rfl, rfl⟩
theorem strs_sortable {a : Addr} {vs : List Value} {ss : List Str} (hS : StrsAre vs ss) (h2 : 2 ≤ vs.length) : SortableO prog w A s a vs ltSv := by
  intro h' _
  refine ⟨oneType', fun Q E hq => ?_, str_cmp hS⟩
  match vs, hS, h2 with
  | v1 :: v2 :: rest, hS, _ =>
    rw [keyKind_strs hS]
    exact wpAny_pure hq
  | [], _, h => exact absurd h (by decide)
  | [v], _, h => exact absurd h (by simp)
theorem collect_sq {l : Addr} {T : String} {o : Obj} {n : Nat} {vs : List Value} {Q : List Value → Shared → Prop} (hT : T = "list" ∨ T = "tuple") (ho : s.heap.get? l = some o) (hc : o.cls = .type T) (hd : o.data = .seq vs.toArray n)
    (h : Q vs { s with heap := (s.heap.push (seqObj "list" #[] 0)).update s.heap.objs.size (Obj.mapSeq (· ++ vs.toArray)) }) (hsz : vs.length ≤ sizeLine) :
    wpAny (model prog w) A (collect (.ref l)) Q E s := by
  unfold collect
  refine wpAny_bind (wpAny_runValue (codeAny_builtin entry_proto_collect' ?_))
  show wpAny _ _ (do again (.builtin "list.__iadd__" ⟨[← newList [], .ref l], []⟩)) _ _ s
  refine wpAny_bind (wpAny_newList (wpAny_pure ⟨Code.quiet_builtin _ (by decide +kernel), codeAny_builtin entry_list_iadd' ?_⟩))
  show wpAny _ _ (Builtin.List.listExtendWith (.ref s.heap.objs.size) (.ref l) (.ref s.heap.objs.size)) _ _ { s with heap := s.heap.push (seqObj "list" #[] 0) }
  unfold Builtin.List.listExtendWith
  have ho' : (s.heap.push (seqObj "list" #[] 0)).get? l = some o := Heap.get?_push_of_some _ ho
  refine wpAny_bind (wpAny_typeOf (T := T) ⟨o, ho', hc⟩ ?_)
  have ht1 : (Value.type "list" == Value.type "list") = true := by rfl
  have ht2 : (Value.type "tuple" == Value.type "tuple") = true := by rfl
  rw [if_pos (by rcases hT with rfl | rfl <;> simp [ht1, ht2])]
  refine wpAny_bind (listItems_at ho' hd ?_)
  refine wpAny_bind (listItems_at (xs := #[]) (n := 0) (Heap.get?_push_size _ rfl) rfl ?_)
  rw [if_neg (by simp)]
  refine wpAny_bind (listUpdate_at (xs := #[]) (n := 0) (Heap.get?_push_size _ rfl) rfl ?_ (Nat.zero_le _) (by show (#[] ++ vs.toArray).size ≤ sizeLine + 1; simp only [Array.size_append, List.size_toArray, List.length_nil]; omega))
  refine wpAny_pure ?_
  show wpAny (model prog w) A (do
      let o ← load s.heap.objs.size
      match o.data with
      | .seq xs _ => pure xs.toList
      | _ => unsupported "internal:collect") Q E { s with heap := (s.heap.push (seqObj "list" #[] 0)).update s.heap.objs.size (Obj.mapSeq (· ++ vs.toArray)) }
  refine wpAny_bind (wpAny_load (get?_update_seq (Heap.get?_push_size _ rfl) _) ?_)
  show wpAny _ _ (pure ((#[] : Array Value) ++ vs.toArray).toList) Q E _
  rw [show ((#[] : Array Value) ++ vs.toArray).toList = vs by simp]
  exact wpAny_pure h
theorem sorted_sq {l : Addr} {T : String} {o : Obj} {n : Nat} {vs : List Value} {ltv : Value → Value → Bool} {Q : Value → Shared → Prop} (O : Swo ltv) (hT : T = "list" ∨ T = "tuple") (ho : s.heap.get? l = some o) (hc : o.cls = .type T) (hd : o.data = .seq vs.toArray n) (hz : vs.length ≤ sizeLine)
    (hS : 2 ≤ vs.length → ∀ (h₁ : Heap) (a : Addr), SortableO prog w A.in1.in1 { s with heap := h₁ } a vs ltv)
    (h : ∀ out : List Value, Srtd ltv out → Stb ltv out vs → Q (.ref (s.heap.objs.size + 1)) { s with heap := sortedAll s.heap vs out.toArray }) :
    wpAny (model prog w) A (call (.builtin "sorted") [.ref l]) Q E s := by
  refine Calls.call_function_entry kind_sorted plain_sorted entry_sorted (args_sorted1 _) ?_
  unfold Builtin.«sorted»
  refine wpAny_bind (m := checkCount "sorted" 1 1 _) (wpAny_pure ?_)
  refine wpAny_bind (collect_sq hT ho hc hd ?_ hz)
  refine wpAny_bind (wpAny_newList ?_ hz)
  have hsz : ((s.heap.push (seqObj "list" #[] 0)).update s.heap.objs.size (Obj.mapSeq (· ++ vs.toArray))).objs.size = s.heap.objs.size + 1 := by
    rw [Heap.size_update, size_push']
  have hoL : (((s.heap.push (seqObj "list" #[] 0)).update s.heap.objs.size (Obj.mapSeq (· ++ vs.toArray))).push (seqObj "list" vs.toArray 0)).get? (s.heap.objs.size + 1) = some (seqObj "list" vs.toArray 0) := by
    rw [← hsz]; exact Heap.get?_push_size _ rfl
  show wpAny _ _ _ _ _ { s with heap := ((s.heap.push (seqObj "list" #[] 0)).update s.heap.objs.size (Obj.mapSeq (· ++ vs.toArray))).push (seqObj "list" vs.toArray 0) }
  rw [hsz]
  refine wpAny_bind (wpAny_holding (wpAny_call_entry slot_list_sort ⟨_, hoL, rfl⟩ entry_list_sort (list_sort_ord O hoL hz (fun h2 => hS h2 _ _) fun out hs hb => ⟨_, rfl, ?_⟩) (args_list_sort _)))
  exact wpAny_pure ⟨_, rfl, h out hs hb⟩
end
def strLe (x y : Str) : Prop := ¬ (y.cps.toList < x.cps.toList)
instance (x y : Str) : Decidable (strLe x y) := by unfold strLe; infer_instance
theorem strLe_anti {x y : Str} (h1 : strLe x y) (h2 : strLe y x) : x = y := by
  have e : x.cps.toList = y.cps.toList := List.le_antisymm (List.not_lt.mp h1) (List.not_lt.mp h2)
  cases x; cases y; simp at e; simp [e]
theorem sorted_one {l m n : List Str} (h1 : l.Perm n) (h2 : m.Perm n) (p1 : l.Pairwise strLe) (p2 : m.Pairwise strLe) : l = m :=
  List.Perm.eq_of_pairwise (fun _ _ _ _ a b => strLe_anti a b) p1 p2 (h1.trans h2.symm)
def fSortS : FN := fun xs Q => ∃ ss tt : List Str, (xs = [.tuple (ss.map .str)] ∨ xs = [.list (ss.map .str)]) ∧ tt.Perm ss ∧ tt.Pairwise strLe ∧ Q (.own (tt.map .str))
theorem br_strs {K : PySem.W.Frag} {H : Hp} : ∀ {ns : List Str} {vs : List V}, BrA K H vs (ns.map PyData.str) → vs = ns.map V.str
  | [], _, h => by cases h; rfl
  | n :: ns, _, h => by
    cases h with
    | cons h1 h2 => cases h1; rw [br_strs h2]; rfl
theorem strs_br {K : PySem.W.Frag} {H : Hp} : ∀ ns : List Str, BrA K H (ns.map V.str) (ns.map PyData.str)
  | [] => .nil
  | _ :: ns => .cons (.str _) (strs_br ns)
theorem vals_strsAre : ∀ {ss : List Str} {vs : List Value}, Vals (ss.map V.str) vs → StrsAre vs ss
  | [], _, h => by cases h; exact .nil
  | _ :: _, _, h => by
    cases h with
    | cons r h2 => obtain ⟨t, rfl⟩ := r; exact .cons _ t (vals_strsAre h2)
theorem strsAre_vals : ∀ {ss : List Str} {vs : List Value}, StrsAre vs ss → Vals (ss.map V.str) vs
  | _, _, .nil => .nil
  | _, _, .cons x t h => .cons ⟨t, rfl⟩ (strsAre_vals h)
theorem c_sortedS {X : Cx} {L : Lay} (hK : L.K = X.K) : CallR X (.builtin "sorted") (rN L fSortS) := by
  intro pins s σ H vs us Q' I r q
  obtain ⟨xs, Q, b, ⟨ss, tt, hx, hp, ho, q⟩, fin⟩ := q
  have go : ∀ (a : Addr) (T : String) (its : List Value) (o : Obj) (n : Nat), T = "list" ∨ T = "tuple" → s.heap.get? a = some o → o.cls = .type T → o.data = .seq its.toArray n → Vals (ss.map V.str) its → (ss.map V.str).length ≤ sizeLine →
      wpAny (model X.prog X.w) X.A (call (.builtin "sorted") [.ref a]) (EP X pins σ Q') X.xe s := by
    intro a T its o n hT h1 h2 h3 rv hz
    have hS := vals_strsAre rv
    refine sorted_sq swo_str hT h1 h2 h3 (by rw [← rv.length]; exact hz) (fun h2 h₁ a' => strs_sortable hS h2) fun out k1 k2 => ?_
    have hO : StrsAre out (out.map strOf) := strsAre_map out fun v hv => hS.all v (k2.perm.mem_iff.mp hv)
    have hP : (out.map strOf).Perm ss := by
      have q := k2.perm.map strOf
      rw [hS.strs] at q; exact q
    have hW : (out.map strOf).Pairwise strLe := List.pairwise_map.mpr (k1.imp fun {x y} h => of_decide_eq_false h)
    have e := sorted_one hP hp hW ho
    rw [e] at hO
    obtain ⟨ep, he'⟩ := PyProof.Rows.sortedAll_at s.heap its out.toArray
    have hlen : (tt.map V.str).length ≤ sizeLine := by
      rw [List.length_map, hp.length_eq]
      rw [List.length_map] at hz
      exact hz
    refine ⟨.ref _, upd H (s.heap.objs.size + 1) (.lst (tt.map V.str)), I.laid (t' := s.toks) (fun _ _ => PyProof.Rows.sortedAll_old) (Nat.le_succ _) ⟨hlen, out, ep, strsAre_vals hO, he'⟩, rfl, ?_⟩
    have hl := I.hok.fresh (Nat.le_succ s.heap.objs.size)
    exact fin _ _ (.own _) (same_new hl) ⟨_, _, rfl, hl, upd_same, strs_br tt⟩ q
  rcases hx with rfl | rfl
  · obtain ⟨v, rfl, b1⟩ := brA1 hK b
    have b1 : Br X.K H v (.tuple (ss.map .str)) := hK ▸ b1
    cases b1 with
    | tup h1 h3 =>
      obtain rfl := br_strs h3
      obtain ⟨its, rv, ⟨o, e1, e2, n, e3⟩, hz⟩ := I.tuple h1
      rw [Vals.ref1 r]
      exact go _ _ its o n (.inr rfl) e1 e2 e3 rv hz
  · obtain ⟨v, rfl, b1⟩ := brA1 hK b
    obtain ⟨a, ws, rfl, h1, h3⟩ := list_sq hK b1
    obtain rfl := br_strs h3
    obtain ⟨its, rv, ⟨o, n, e1, e2, _, e3⟩, hz⟩ := I.list h1
    rw [Vals.ref1 r]
    exact go _ _ its o n (.inl rfl) e1 e2 e3 rv hz
end GB

set_option maxRecDepth 100000
namespace GB
open PySem PySem.Spec PyProof.Rows L2
/-! the truth of a tuple -/
def dTu (t : TEd) : TTd := fun ρ Q => t ρ fun s ρ1 => ∃ xs, s = .d (.tuple xs) ∧ Q (!xs.isEmpty) ρ1
theorem dt_tu {X : Cx} {L : Lay} {e : Expr} {t : TEd} (hK : L.K = X.K) (h : PE X e (tE L t)) (he : ∀ whole, isTrue e X.env whole = (do let v ← whole; standAt e.pos; holding [v] (truthy v)) := by intro _; rfl) : PT X e (tT L (dTu t)) :=
  (pt_truth h he).less fun σ H Q' h => by
    obtain ⟨ρ, Q, r0, q, fin⟩ := h
    refine (show tE L t σ H _ from ⟨ρ, _, r0, q, fun v H1 s ρ1 k1 r1 hv q1 => ?_⟩)
    obtain ⟨xs, rfl, q2⟩ := q1
    have hv : Br L.K H1 v (.tuple xs) := hv
    cases hv with
    | @tup a vs _ h1 h3 =>
      have e : vs.isEmpty = xs.isEmpty := by
        have := h3.len
        cases vs <;> cases xs <;> first | rfl | simp at this
      refine ⟨!vs.isEmpty, .inr (.inl ⟨vs, hK ▸ h1, rfl⟩), ?_⟩
      rw [e]
      exact fin _ H1 ρ1 k1 r1 q2
end GB

set_option maxRecDepth 100000
namespace GB
open PySem PySem.Spec PyProof.Rows L2
/-! any, of a list of bools -/
def fAny : FN := fun xs Q => ∃ bs : List Bool, xs = [.list (bs.map .bool)] ∧ Q (.d (.bool (bs.any id)))
theorem br_bls {K : PySem.W.Frag} {H : Hp} : ∀ {bs : List Bool} {vs : List V}, BrA K H vs (bs.map PyData.bool) → vs = bs.map V.bl
  | [], _, h => by cases h; rfl
  | n :: ns, _, h => by
    cases h with
    | cons h1 h2 => cases h1; rw [br_bls h2]; rfl
theorem c_any {X : Cx} {L : Lay} (hK : L.K = X.K) (gd : Good X) : CallR X (.builtin "any") (rN L fAny) := by
  intro pins s σ H vs us Q' I r q
  obtain ⟨xs, Q, b, ⟨bs, rfl, q⟩, fin⟩ := q
  obtain ⟨v, rfl, b1⟩ := brA1 hK b
  obtain ⟨a, ws, rfl, h1, h3⟩ := list_sq hK b1
  obtain rfl := br_bls h3
  exact cr_any gd.calm pins s σ H _ us Q' I r ⟨a, bs, rfl, h1, fin _ H (.d (.bool (bs.any id))) (Same.refl H) (.bl _) q⟩
end GB

set_option maxRecDepth 100000
namespace GB
open PySem PySem.Spec PyProof.Rows L2
/-! the truth of a list -/
def dLu (t : TEd) : TTd := fun ρ Q => t ρ fun s ρ1 => ∃ xs, s = .d (.list xs) ∧ Q (!xs.isEmpty) ρ1
theorem dt_lu {X : Cx} {L : Lay} {e : Expr} {t : TEd} (hK : L.K = X.K) (h : PE X e (tE L t)) (he : ∀ whole, isTrue e X.env whole = (do let v ← whole; standAt e.pos; holding [v] (truthy v)) := by intro _; rfl) : PT X e (tT L (dLu t)) :=
  (pt_truth h he).less fun σ H Q' h => by
    obtain ⟨ρ, Q, r0, q, fin⟩ := h
    refine (show tE L t σ H _ from ⟨ρ, _, r0, q, fun v H1 s ρ1 k1 r1 hv q1 => ?_⟩)
    obtain ⟨xs, rfl, q2⟩ := q1
    have hv : Br L.K H1 v (.list xs) := hv
    cases hv with
    | @lst a o vs _ h1 h2 h3 =>
      have e : vs.isEmpty = xs.isEmpty := by
        have := h3.len
        cases vs <;> cases xs <;> first | rfl | simp at this
      refine ⟨!vs.isEmpty, .inl ⟨vs, .inl (.inr ⟨o, h1⟩), rfl⟩, ?_⟩
      rw [e]
      exact fin _ H1 ρ1 k1 r1 q2
end GB

set_option maxRecDepth 100000
namespace GB
open PySem PySem.Spec PyProof.Rows L2
/-! sum of ints -/
def fSum : FN := fun xs Q => ∃ ns : List Int, xs = [.list (ns.map .int)] ∧ Q (.d (.int ns.sum))
theorem c_sum {X : Cx} {L : Lay} (hK : L.K = X.K) (gd : Good X) : CallR X (.builtin "sum") (rN L fSum) := by
  intro pins s σ H vs us Q' I r q
  obtain ⟨xs, Q, b, ⟨ns, rfl, q⟩, fin⟩ := q
  obtain ⟨v, rfl, b1⟩ := brA1 hK b
  obtain ⟨a, ws, rfl, h1, h3⟩ := list_sq hK b1
  obtain rfl := br_ints h3
  exact cr_sum gd.calm pins s σ H _ us Q' I r ⟨a, ns, rfl, h1, fin _ H (.d (.int ns.sum)) (Same.refl H) (.int _) q⟩
/-! the draws' store as a list: a list of ints (closed), a list of ints (for good), two ints -/
def vsS (l0 l1 : Addr) (s t : Int) : List V := [.ref l0, .ref l1, .int s, .int t]
def hoS (a l0 l1 : Addr) : HO := .ext fun h => ∃ s t : Int, ∃ (its : List Value) (n : Nat), Vals (vsS l0 l1 s t) its ∧ h.get? a = some { cls := .type "list", data := .seq its.toArray n }
theorem hoS_ok {P : Program} {w : World} {H : Hp} {h : Heap} {a l0 l1 : Addr} {s t : Int} (q : ObjOk P w H h a (.lst (vsS l0 l1 s t))) : ObjOk P w H h a (hoS a l0 l1) := by
  obtain ⟨z, its, n, r, e⟩ := q
  exact ⟨⟨s, t, its, n, r, e⟩, ⟨_, e⟩, fun h1 h2 ⟨s', t', its', n', r', e'⟩ k => ⟨s', t', its', n', r', k _ e'⟩⟩
def StoS (a : Addr) (H : Hp) : Prop := ∃ l0 l1 o is, H a = some (hoS a l0 l1) ∧ H l0 = some (hoL l0) ∧ l0 ≠ a ∧ H l1 = some (.frz o (.lst (is.map V.int))) ∧ is ≠ []
theorem stoS_keep : ∀ a H H', Keep H H' → StoS a H → StoS a H' := fun a H H' k ⟨l0, l1, o, is, h1, h2, h3, h4, h5⟩ => ⟨l0, l1, o, is, k _ _ h1 trivial, k _ _ h2 trivial, h3, k _ _ h4 trivial, h5⟩
def opnS (H : Hp) (a l0 l1 : Addr) (s t : Int) (js : List Int) : Hp := upd (upd H a (.lst (vsS l0 l1 s t))) l0 (.lst (js.map V.int))
def clsS (H : Hp) (a l0 l1 : Addr) : Hp := upd (upd H a (hoS a l0 l1)) l0 (hoL l0)
structure OpnS (H : Hp) (a l0 l1 : Addr) (s t : Int) (js : List Int) : Prop where
  ha : H a = some (.lst (vsS l0 l1 s t))
  hl : H l0 = some (.lst (js.map V.int))
  ne : l0 ≠ a
theorem clsS_opn {H H1 : Hp} {a l0 l1 : Addr} (ha : H a = some (hoS a l0 l1)) (hl : H l0 = some (hoL l0)) (h : ∀ b, b ≠ a → b ≠ l0 → H1 b = H b) : clsS H1 a l0 l1 = H := by
  funext b
  unfold clsS
  by_cases h1 : b = l0
  · subst h1; rw [upd_same, hl]
  · rw [upd_ne h1]
    by_cases h2 : b = a
    · subst h2; rw [upd_same, ha]
    · rw [upd_ne h2]; exact h b h2 h1
theorem opnS_off {H : Hp} {a l0 l1 : Addr} {s t : Int} {js : List Int} {b : Addr} (h1 : b ≠ a) (h2 : b ≠ l0) : opnS H a l0 l1 s t js b = H b := by unfold opnS; rw [upd_ne h2, upd_ne h1]
section
variable {X : Cx} {e : Expr} {st : Stmt} {sts : List Stmt} {t : TE} {tt : TT} {ts : TS}
theorem closeS_of {pins : List (Addr × Obj)} {σ : L2.St} {H : Hp} {s : Shared} (I : Inv X pins σ H s) {a l0 l1 : Addr} {x y : Int} {js : List Int} (o : OpnS H a l0 l1 x y js) : Inv X pins σ (clsS H a l0 l1) s := by
  have h1 := o.ha
  have h2 := o.hl
  have ne := o.ne
  have I1 := swap_inv I (v := hoS a l0 l1) h1 trivial (hoS_ok (s := x) (t := y) ((I.hok a _ h1).stay (fun _ _ _ z => z) (fun c q => by rw [upd_ne (fun z => by rw [z, h1] at q; cases q)]; exact q) fun c xs q => by rw [upd_ne (fun z => by rw [z, h1] at q; cases q)]; exact q))
  have e2 : (upd H a (hoS a l0 l1)) l0 = some (.lst (js.map V.int)) := by rw [upd_ne ne]; exact h2
  exact swap_inv I1 (v := hoL l0) e2 trivial (hoL_ok (is := js) ((I1.hok l0 _ e2).stay (fun _ _ _ z => z) (fun c q => by rw [upd_ne (fun z => by rw [z, e2] at q; cases q)]; exact q) fun c xs q => by rw [upd_ne (fun z => by rw [z, e2] at q; cases q)]; exact q))
theorem openS_of {pins : List (Addr × Obj)} {σ : L2.St} {H : Hp} {s : Shared} (I : Inv X pins σ H s) {a l0 l1 : Addr} (ha : H a = some (hoS a l0 l1)) (hl : H l0 = some (hoL l0)) (ne : l0 ≠ a) :
    ∃ x y js, js.length ≤ sizeLine ∧ Inv X pins σ (opnS H a l0 l1 x y js) s := by
  obtain ⟨⟨x, y, its, n, z1, z2⟩, _⟩ := I.hok a _ ha
  have I1 := swap_inv I (v := .lst (vsS l0 l1 x y)) ha trivial ⟨(show (4 : Nat) ≤ sizeLine by decide), its, n, z1, z2⟩
  have e2 : (upd H a (.lst (vsS l0 l1 x y))) l0 = some (hoL l0) := by rw [upd_ne ne]; exact hl
  obtain ⟨⟨js, y1, its2, n2, y2, y3⟩, _⟩ := I1.hok l0 _ e2
  have I2 := swap_inv I1 (v := .lst (js.map V.int)) e2 trivial ⟨by rw [List.length_map]; exact y1, its2, n2, y2, y3⟩
  exact ⟨x, y, js, y1, I2⟩
def OpensS (H : Hp) (go : Hp → Addr → Addr → Addr → Int → Int → List Int → Prop) : Prop :=
  ∃ a l0 l1, H a = some (hoS a l0 l1) ∧ H l0 = some (hoL l0) ∧ l0 ≠ a ∧ ∀ x y js, js.length ≤ sizeLine → OpnS (opnS H a l0 l1 x y js) a l0 l1 x y js → go (opnS H a l0 l1 x y js) a l0 l1 x y js
theorem opensS_inv {pins : List (Addr × Obj)} {σ : L2.St} {H : Hp} {s : Shared} (I : Inv X pins σ H s) {go : Hp → Addr → Addr → Addr → Int → Int → List Int → Prop} (h : OpensS H go) :
    ∃ a l0 l1 x y js, Inv X pins σ (opnS H a l0 l1 x y js) s ∧ go (opnS H a l0 l1 x y js) a l0 l1 x y js := by
  obtain ⟨a, l0, l1, ha, hl, ne, q⟩ := h
  obtain ⟨x, y, js, z, I2⟩ := openS_of I ha hl ne
  exact ⟨a, l0, l1, x, y, js, I2, q x y js z ⟨by unfold opnS; rw [upd_ne (Ne.symm ne), upd_same], by unfold opnS; exact upd_same, ne⟩⟩
theorem pe_openS (h : PE X e t) : PE X e (fun σ H Q => OpensS H fun H1 _ _ _ _ _ _ => t σ H1 Q) := ⟨fun pins s σ H Q I q => by
  obtain ⟨a, l0, l1, x, y, js, I2, q⟩ := opensS_inv I q
  exact h.run pins s σ _ Q I2 q⟩
theorem pe_openedS (h : PE X e t) : PE X e (fun σ H Q => t σ H fun v H1 => OpensS H1 fun H2 _ _ _ _ _ _ => Q v H2) := ⟨fun pins s σ H Q I q => by
  refine thn (h.run pins s σ H _ I q) fun u s1 z => ?_
  obtain ⟨v, H1, I1, rv, q1⟩ := z
  obtain ⟨a, l0, l1, x, y, js, I2, q2⟩ := opensS_inv I1 q1
  exact ⟨v, _, I2, rv, q2⟩⟩
theorem pe_closedS (h : PE X e t) : PE X e (fun σ H Q => t σ H fun v H1 => ∃ a l0 l1 x y js, OpnS H1 a l0 l1 x y js ∧ Q v (clsS H1 a l0 l1)) := ⟨fun pins s σ H Q I q => by
  refine thn (h.run pins s σ H _ I q) fun u s1 z => ?_
  obtain ⟨v, H1, I1, rv, a, l0, l1, x, y, js, o, q2⟩ := z
  exact ⟨v, _, closeS_of I1 o, rv, q2⟩⟩
theorem pss_closingS (h : PSs X sts ts) : PSs X sts (fun D σ H => ∃ a l0 l1 x y js, OpnS H a l0 l1 x y js ∧ ts D σ (clsS H a l0 l1)) := ⟨fun pins s σ H D I q => by
  obtain ⟨a, l0, l1, x, y, js, o, q⟩ := q
  exact h.run pins s σ _ D (closeS_of I o) q⟩
theorem ps_openS (h : PS X st ts) : PS X st (fun D σ H => OpensS H fun H1 _ _ _ _ _ _ => ts D σ H1) := ⟨fun pins s σ H D I q => by
  obtain ⟨a, l0, l1, x, y, js, I2, q⟩ := opensS_inv I q
  exact h.run pins s σ _ D I2 q⟩
theorem ps_closedS (h : PS X st ts) : PS X st (fun D σ H => ts { D with nx := fun σ1 H1 => ∃ a l0 l1 x y js, OpnS H1 a l0 l1 x y js ∧ D.nx σ1 (clsS H1 a l0 l1) } σ H) := ⟨fun pins s σ H D I q => by
  refine thn (h.run pins s σ H _ I q) fun f s1 z => ?_
  match f, z with
  | .next, ⟨σ1, H1, I1, a, l0, l1, x, y, js, o, q2⟩ => exact ⟨σ1, _, closeS_of I1 o, q2⟩
  | .brk, z => exact z
  | .cont, z => exact z
  | .ret u, z => exact z⟩
end
section
variable {X : Cx} {L : Lay} {o o1 o2 o3 w1 w2 m1 m2 : Expr} {pos p1 p2 p3 p4 p5 p6 p7 p8 p9 p10 p11 p12 p13 p14 p15 p16 p17 p18 : Pos} {i j j1 j2 j3 it iw im : Nat} {t : TEd} {tb : TSd} {rest : List Stmt} {x : Str}
theorem at_S {l0 l1 : Addr} {a b : Int} : atI (vsS l0 l1 a b) 0 = some (.ref l0) ∧ atI (vsS l0 l1 a b) 1 = some (.ref l1) ∧ atI (vsS l0 l1 a b) 2 = some (.int a) ∧ atI (vsS l0 l1 a b) 3 = some (.int b) :=
  ⟨atI_nat (j := 0) rfl, atI_nat (j := 1) rfl, atI_nat (j := 2) rfl, atI_nat (j := 3) rfl⟩
/-- a number of the store: its places 2 and 3 -/
theorem de_sint {k : Int} (hJ : ∀ a H, L.J.ok .jar a H → StoS a H) (hk : k = 2 ∨ k = 3) (ho : PE X o (tVar i)) : PE X (.Subscript o (.Constant (.int k) j p1) pos) (tE L (dJInt i)) :=
  (pe_openS (pe_closedS (pe_ix ix_list ho pe_int fun _ _ => rfl))).less fun σ H Q' q => by
    obtain ⟨ρ, Q, r, ⟨ej, q⟩, fin⟩ := q
    obtain ⟨o, e2, a, rfl, ja⟩ := r.get ej
    obtain ⟨l0, l1, o', is, ha, hl, ne, hl1, _⟩ := hJ a H ja
    refine ⟨a, l0, l1, ha, hl, ne, fun x y js z op => ?_⟩
    have fin' : ∀ n : Int, Q' (.int n) (clsS (opnS H a l0 l1 x y js) a l0 l1) := fun n => by
      rw [clsS_opn ha hl fun b h1 h2 => opnS_off h1 h2]
      exact fin _ _ (.d (.int n)) ρ Go.rf r (.int n) (q n)
    refine ⟨.ref a, e2, ?_⟩
    rcases hk with rfl | rfl
    · exact ⟨a, _, _, _, rfl, rfl, .inl (.inl op.ha), at_S.2.2.1, a, l0, l1, x, y, js, op, fin' _⟩
    · exact ⟨a, _, _, _, rfl, rfl, .inl (.inl op.ha), at_S.2.2.2, a, l0, l1, x, y, js, op, fin' _⟩
/-- a number put into the store, at its place 3 -/
theorem ds_sput {v : Expr} (hJ : ∀ a H, L.J.ok .jar a H → StoS a H) (ho : PE X o (tVar i)) (hv : PE X v (tE L t))
    (hw : swappedStores [.Subscript o (.Constant (.int 3) j p1) p2] v X.env = pure none := by rfl) (hs : swapsWithSole [.Subscript o (.Constant (.int 3) j p1) p2] v pos.line X.env = pure false := by rfl)
    (h1 : (assignEach [.Subscript o (.Constant (.int 3) j p1) p2] X.env).map (·.2) = [assign (.Subscript o (.Constant (.int 3) j p1) p2) X.env] := by rfl)
    (ha : ∀ v, assign (.Subscript o (.Constant (.int 3) j p1) p2) X.env v = (do
      let ov ← holding [v] (eval o X.env)
      let iv ← holding [v, ov] (eval (.Constant (.int 3) j p1) X.env)
      standAt p2
      holding [v, ov, iv] (setItem ov iv v)
      release [v, ov, iv] []) := by intro _; rfl) :
    PS X (.Assign [.Subscript o (.Constant (.int 3) j p1) p2] v pos) (tS L (dJPut i t)) :=
  (ps_closedS (ps_asg (pe_openedS hv) (pg_sub ho pe_int set_list ha) hs hw h1)).less fun D σ H q => by
    obtain ⟨ρ, De, r, q, n1, _⟩ := q
    refine ⟨ρ, _, r, q, fun v H1 s ρ1 go r1 hv q1 => ?_⟩
    obtain ⟨n, rfl, ej, q2⟩ := q1
    have hv : Br L.K H1 v (.int n) := hv
    cases hv
    obtain ⟨o, e2, a, rfl, ja⟩ := r1.get ej
    obtain ⟨l0, l1, o', is, ha, hl, ne, hl1, _⟩ := hJ a H1 ja
    refine ⟨a, l0, l1, ha, hl, ne, fun x y js z op => ⟨.ref a, e2, a, _, 3, 3, rfl, rfl, op.ha, rfl, a, l0, l1, x, n, js, ⟨upd_same, by rw [upd_ne op.ne]; exact op.hl, op.ne⟩, ?_⟩⟩
    rw [clsS_opn ha hl fun b h1 h2 => by rw [upd_ne h1]; exact opnS_off h1 h2]
    exact n1 _ _ _ (go.keep r) r1 q2
/-- a number of the list that stays -/
def dJMix (i it : Nat) : TEd := fun ρ Q => ρ[i]? = some (.ob .jar) ∧ (∃ m : Int, ρ[it]? = some (.d (.int m))) ∧ ∀ n : Int, Q (.d (.int n)) ρ
theorem de_smix (hJ : ∀ a H, L.J.ok .jar a H → StoS a H) (ho1 : PE X o1 (tVar i)) (ho2 : PE X o2 (tVar i)) (hw1 : PE X w1 (tVar it))
    (gi : Gl X "int") (mi : X.mg "int" = none) (gl : Gl X "len") (ml : X.mg "len" = none)
    (s1 : starEach [w1] X.env = (false, eval w1 X.env) :: starEach [] X.env := by rfl) (s2 : starEach [.Subscript o2 (.Constant (.int 1) j2 p3) p4] X.env = (false, eval (.Subscript o2 (.Constant (.int 1) j2 p3) p4) X.env) :: starEach [] X.env := by rfl)
    (b1 : (backTo p6 (starEach [] X.env)).any (·.1) = false := by rfl) (b2 : (backTo p8 (starEach [] X.env)).any (·.1) = false := by rfl)
    (hp : PlainIx (.BinOp (.Call (.Name "int" p5) [w1] [] p6) .Mod (.Call (.Name "len" p7) [.Subscript o2 (.Constant (.int 1) j2 p3) p4] [] p8) p9) := by exact fun _ _ => rfl) :
    PE X (.Subscript (.Subscript o1 (.Constant (.int 1) j1 p1) p2) (.BinOp (.Call (.Name "int" p5) [w1] [] p6) .Mod (.Call (.Name "len" p7) [.Subscript o2 (.Constant (.int 1) j2 p3) p4] [] p8) p9) pos) (tE L (dJMix i it)) :=
  (pe_openS (pe_closedS (pe_ix ix_list (pe_ix ix_list ho1 pe_int fun _ _ => rfl) (pe_op op_mod (pe_callTy call_int1 gi mi (by decide +kernel) (pa_cons hw1 pa_nil s1) (by decide) (by decide) s1 b1) (pe_callB call_len_seq gl ml (by decide +kernel) (pa_cons (pe_ix ix_list ho2 pe_int fun _ _ => rfl) pa_nil s2) (by decide) (by decide) s2 b2)) hp))).less fun σ H Q' q => by
    obtain ⟨ρ, Q, r, ⟨ej, ⟨m, em⟩, q⟩, fin⟩ := q
    obtain ⟨o, e2, a, rfl, ja⟩ := r.get ej
    obtain ⟨vm, em2, bm⟩ := r.getD em
    cases bm
    obtain ⟨l0, l1, o', is, ha, hl, ne, hl1, hne⟩ := hJ a H ja
    refine ⟨a, l0, l1, ha, hl, ne, fun x y js z op => ?_⟩
    have n1a : l1 ≠ a := fun z => by rw [z, ha] at hl1; cases hl1
    have n10 : l1 ≠ l0 := fun z => by rw [z, hl] at hl1; cases hl1
    have q1 : SqL X.K (opnS H a l0 l1 x y js) l1 (is.map V.int) := .inl (.inr ⟨o', by rw [opnS_off n1a n10]; exact hl1⟩)
    have hpos : 0 < is.length := List.length_pos_iff.mpr hne
    have hp2 : (0 : Int) < ((is.map V.int).length : Nat) := by rw [List.length_map]; omega
    have c0 := Int.emod_nonneg m (show (((is.map V.int).length : Nat) : Int) ≠ 0 by omega)
    have c1 := Int.emod_lt_of_pos m hp2
    have c2 : (m % (((is.map V.int).length : Nat) : Int)).toNat < (is.map V.int).length := by omega
    have c3 : (m % (((is.map V.int).length : Nat) : Int)).toNat < is.length := by rw [List.length_map] at c2; rw [List.length_map]; exact c2
    have g1 : atI (is.map V.int) (m % (((is.map V.int).length : Nat) : Int)) = some (.int is[(m % (((is.map V.int).length : Nat) : Int)).toNat]) := by
      have h := atI_nat (xs := is.map V.int) (j := (m % (((is.map V.int).length : Nat) : Int)).toNat) (v := .int is[(m % (((is.map V.int).length : Nat) : Int)).toNat]) (by rw [List.getElem?_map, List.getElem?_eq_getElem c3]; rfl)
      rw [show (((m % (((is.map V.int).length : Nat) : Int)).toNat : Nat) : Int) = m % (((is.map V.int).length : Nat) : Int) by omega] at h
      exact h
    refine ⟨.ref a, e2, a, _, _, _, rfl, rfl, .inl (.inl op.ha), at_S.2.1, _, em2, .inl ⟨m, rfl, .ref a, e2, a, _, _, _, rfl, rfl, .inl (.inl op.ha), at_S.2.1, l1, _, rfl, .inl q1, _, _, rfl, rfl, hp2, l1, _, _, _, rfl, rfl, q1, g1, a, l0, l1, x, y, js, op, ?_⟩⟩
    rw [clsS_opn ha hl fun b h1 h2 => opnS_off h1 h2]
    exact fin _ _ (.d (.int _)) ρ Go.rf r (.int _) (q _)
/-- what comes behind the digit -/
theorem spop_end {H : Hp} {σ : L2.St} {ρ : En} (r : Rel L H σ ρ) {a l0 l1 p : Addr} {x y : Int} {js ks : List Int} {iw : Nat} {n : Int} {H3 : Hp} {tb : TSd} {D : Ends} {De : EndsD} (ha : H a = some (hoS a l0 l1)) (hl : H l0 = some (hoL l0)) (op : OpnS (opnS H a l0 l1 x y js) a l0 l1 x y js) (hp : opnS H a l0 l1 x y js p = none)
    (h3 : H3 = upd (upd (opnS H a l0 l1 x y js) p (.lst [])) l0 (.lst (ks.map V.int))) (qn : tb { De with nx := fun _ => False } (ρ.set iw (.d (.int n))))
    (n2 : ∀ v H' s, Keep H H' → Same L.H0 H' → RR L H' v s → De.rt s → D.rt v H') (n3 : ∀ σ' H' ρ', Keep H H' → Rel L H' σ' ρ' → De.bk ρ' → D.bk σ' H') (n4 : ∀ σ' H' ρ', Keep H H' → Rel L H' σ' ρ' → De.ct ρ' → D.ct σ' H') (nx : L2.St → Hp → Prop) :
    ∃ a l0 l1 x y js, OpnS H3 a l0 l1 x y js ∧ tS L tb { D with nx := nx } (σ.set iw (some (.int n))) (clsS H3 a l0 l1) := by
  have pa : p ≠ a := fun z => by rw [z, op.ha] at hp; cases hp
  have pl : p ≠ l0 := fun z => by rw [z, op.hl] at hp; cases hp
  have hp0 : H p = none := (opnS_off pa pl).symm.trans hp
  refine ⟨a, l0, l1, x, y, ks, ⟨?_, ?_, op.ne⟩, ?_⟩
  · rw [h3, upd_ne (Ne.symm op.ne), upd_ne (Ne.symm pa)]; exact op.ha
  · rw [h3, upd_same]
  · have ec : clsS H3 a l0 l1 = upd H p (.lst []) := clsS_opn (H := upd H p (.lst [])) (by rw [upd_ne (Ne.symm pa)]; exact ha) (by rw [upd_ne (Ne.symm pl)]; exact hl) fun b h1 h2 => by
      rw [h3, upd_ne h2]
      by_cases hb : b = p
      · subst hb; rw [upd_same, upd_same]
      · rw [upd_ne hb, upd_ne hb]; exact opnS_off h1 h2
    have sm : Same H (upd H p (.lst [])) := same_new hp0
    have kp : Keep H (upd H p (.lst [])) := keep_of_same sm
    rw [ec]
    exact ⟨_, _, (r.go sm).setF (s := .d (.int n)) (.int n), qn, fun _ _ _ _ _ n => n.elim, fun v H' s k => n2 v H' s (kp.tr k), fun σ' H' ρ' k => n3 σ' H' ρ' (kp.tr k), fun σ' H' ρ' k => n4 σ' H' ρ' (kp.tr k)⟩
/-- while there is a great number, a digit of the last one -/
theorem ds_spop (gd : Good X) (hJ : ∀ a H, L.J.ok .jar a H → StoS a H) (hx : X.N[iw]? = some x) (hxl : X.env.scope.names.lookup x = some .local)
    (ho1 : PE X o1 (tVar i)) (ho2 : PE X o2 (tVar i)) (ho3 : PE X o3 (tVar i)) (hw1 : PE X w1 (tVar iw)) (hm1 : PE X m1 (tVar im)) (hw2 : PE X w2 (tVar iw)) (hm2 : PE X m2 (tVar im)) (hr : PSs X rest (tS L tb))
    (hb1 : attributeBase (.Subscript o2 (.Constant (.int 0) j2 p6) p7) "pop" X.env (eval (.Subscript o2 (.Constant (.int 0) j2 p6) p7) X.env) = eval (.Subscript o2 (.Constant (.int 0) j2 p6) p7) X.env := by rfl) (li1 : (p8.endLine == p9.line) = true := by rfl)
    (hb2 : attributeBase (.Subscript o3 (.Constant (.int 0) j3 p12) p13) "append" X.env (eval (.Subscript o3 (.Constant (.int 0) j3 p12) p13) X.env) = eval (.Subscript o3 (.Constant (.int 0) j3 p12) p13) X.env := by rfl)
    (fw2 : ((backTo p16 (starEach [.BinOp w2 .FloorDiv m2 p15] X.env)).all (fun x => !x.1) && (backToKw p16 (keywordEach [] X.env)).all (fun x => x.1.isSome) && decide (([.BinOp w2 .FloorDiv m2 p15] : List Expr).length + ([] : List Keyword).length + (if ([] : List Keyword).isEmpty then 0 else 1) < 30)) = true := by rfl)
    (li2 : (p14.endLine == p16.line) = true := by rfl) (st2 : starEach [.BinOp w2 .FloorDiv m2 p15] X.env = (false, eval (.BinOp w2 .FloorDiv m2 p15) X.env) :: starEach [] X.env := by rfl) (pl2 : (backTo p16 (starEach [] X.env)).any (·.1) = false := by rfl)
    (sw1 : swapsWith (.Call (.Attribute (.Subscript o2 (.Constant (.int 0) j2 p6) p7) "pop" p8) [] [] p9) (some (.Name x p5)) p10.line X.env = pure false := by rfl)
    (sw2 : swapsWith (.Call (.Attribute (.Subscript o3 (.Constant (.int 0) j3 p12) p13) "append" p14) [.BinOp w2 .FloorDiv m2 p15] [] p16) none p17.line X.env = pure false := by rfl) :
    PS X (.If (.Compare (.Subscript o1 (.Constant (.int 0) j1 p1) p2) [.NotEq] [.List [] p3] p4)
      (.Assign [.Name x p5] (.Call (.Attribute (.Subscript o2 (.Constant (.int 0) j2 p6) p7) "pop" p8) [] [] p9) p10 ::
        .If (.Compare w1 [.GtE] [m1] p11) [.Expr (.Call (.Attribute (.Subscript o3 (.Constant (.int 0) j3 p12) p13) "append" p14) [.BinOp w2 .FloorDiv m2 p15] [] p16) p17] [] p18 :: rest) [] pos)
      (tS L (dJPop i iw im tb)) :=
  (ps_openS (ps_closedS (ps_if (pt_cmpR (op_neD (by have := gd.un; omega)) (pe_ix ix_list ho1 pe_int fun _ _ => rfl) (pe_lst pa_nil) (nomark _))
    (pss_cons (ps_set (i := iw) gd.nd hx (.inl hxl) (pe_bm0 PySem.F.plainAttrs_list PySem.F.slot_list_pop PySem.F.type_list_pop mt_pop (pe_ix ix_list ho2 pe_int fun _ _ => rfl) hb1 li1) sw1 (.inr hxl))
      (pss_cons (ps_if (pt_cmpR op_ge hw1 hm1 (nomark _)) (pss_one (ps_expr (pe_bm PySem.F.plainAttrs_list PySem.F.slot_list_append PySem.F.type_list_append mt_append (pe_ix ix_list ho3 pe_int fun _ _ => rfl) (pa_cons (pe_op op_fdiv hw2 hm2) pa_nil st2) hb2 fw2 li2 st2 pl2) sw2)) pss_nil) (pss_closingS hr))) pss_nil))).less fun D σ H q => by
    obtain ⟨ρ, De, r, ⟨ej, ⟨m, em, m0, m1⟩, hlen, hi, hm, qn, qx⟩, n1, n2, n3, n4⟩ := q
    obtain ⟨ov, e2, a, rfl, ja⟩ := r.get ej
    obtain ⟨vm, em2, bm⟩ := r.getD em
    cases bm
    obtain ⟨l0, l1, o', ks, ha, hl, ne, hl1', _⟩ := hJ a H ja
    refine ⟨a, l0, l1, ha, hl, ne, fun x y is z op => ?_⟩
    refine ⟨.ref a, e2, a, _, _, _, rfl, rfl, .inl (.inl op.ha), at_S.1, Nat.zero_le _, fun p hp => ?_⟩
    have pa : p ≠ a := fun z => by rw [z, op.ha] at hp; cases hp
    have pl : p ≠ l0 := fun z => by rw [z, op.hl] at hp; cases hp
    refine ⟨.list (is.map .int), .list [], .lst (.inl (.inl (by rw [upd_ne (Ne.symm pl)]; exact op.hl))) (ints_dp is), .lst (.inl (.inl upd_same)) .nil, ints_shaped is, rfl, _, rfl, ?_⟩
    rw [ints_empty]
    have hl1 : (upd (opnS H a l0 l1 x y is) p (.lst [])) l0 = some (.lst (is.map V.int)) := by rw [upd_ne (Ne.symm pl)]; exact op.hl
    have ha1 : (upd (opnS H a l0 l1 x y is) p (.lst [])) a = some (.lst (vsS l0 l1 x y)) := by rw [upd_ne (Ne.symm pa)]; exact op.ha
    cases is with
    | nil =>
      have hp0 : H p = none := (opnS_off pa pl).symm.trans hp
      have sm : Same H (upd H p (.lst [])) := same_new hp0
      refine ⟨a, l0, l1, x, y, [], ⟨ha1, hl1, op.ne⟩, ?_⟩
      have ec : clsS (upd (opnS H a l0 l1 x y []) p (.lst [])) a l0 l1 = upd H p (.lst []) := clsS_opn (H := upd H p (.lst [])) (by rw [upd_ne (Ne.symm pa)]; exact ha) (by rw [upd_ne (Ne.symm pl)]; exact hl) fun b h1 h2 => by
        by_cases hb : b = p
        · subst hb; rw [upd_same, upd_same]
        · rw [upd_ne hb, upd_ne hb]; exact opnS_off h1 h2
      rw [ec]
      exact n1 _ _ _ (keep_of_same sm) (r.go sm) qx
    | cons y0 is =>
      have hlast : ((y0 :: is).map V.int)[((y0 :: is).map V.int).length - 1]? = some (.int ((y0 :: is).getLast (by simp))) := by
        rw [List.length_map, List.getElem?_map, ← List.getLast?_eq_getElem?, List.getLast?_eq_getLast (by simp)]; rfl
      refine ⟨.ref a, e2, ?_⟩
      refine ⟨a, _, _, .ref l0, rfl, rfl, .inl (.inl ha1), at_S.1, own_ty (pins := []) hl1, l0, _, _, rfl, rfl, hl1, hlast, ?_⟩
      have ei : (σ.set iw (some (V.int ((y0 :: is).getLast (by simp)))))[i]? = some (some (.ref a)) := by
        rw [List.getElem?_set_ne hi]; exact e2
      have ew : (σ.set iw (some (V.int ((y0 :: is).getLast (by simp)))))[iw]? = some (some (V.int ((y0 :: is).getLast (by simp)))) := List.getElem?_set_self (by rw [r.len]; exact hlen)
      have emm : (σ.set iw (some (V.int ((y0 :: is).getLast (by simp)))))[im]? = some (some (.int m)) := by
        rw [List.getElem?_set_ne hm]; exact em2
      have dl : ((y0 :: is).map V.int).dropLast = ((y0 :: is).dropLast).map V.int := by rw [List.map_dropLast]
      have hl2 : (upd (upd (opnS H a l0 l1 x y (y0 :: is)) p (.lst [])) l0 (.lst ((y0 :: is).map V.int).dropLast)) l0 = some (.lst (((y0 :: is).dropLast).map V.int)) := by rw [upd_same, dl]
      have ha2 : (upd (upd (opnS H a l0 l1 x y (y0 :: is)) p (.lst [])) l0 (.lst ((y0 :: is).map V.int).dropLast)) a = some (.lst (vsS l0 l1 x y)) := by rw [upd_ne (Ne.symm op.ne)]; exact ha1
      refine ⟨_, ew, _, emm, _, m, rfl, rfl, _, rfl, ite2 (fun _ => ?_) fun _ => ?_⟩
      · refine ⟨.ref a, ei, a, _, _, .ref l0, rfl, rfl, .inl (.inl ha2), at_S.1, own_ty (pins := []) hl2, _, ew, _, emm, _, m, rfl, rfl, ⟨m0, m1⟩, l0, _, _, rfl, rfl, hl2, ?_, ?_⟩
        · rw [List.length_map, List.length_dropLast]
          have : (y0 :: is).length ≤ sizeLine := z
          have : 0 < (y0 :: is).length := by simp
          omega
        · refine spop_end (ks := (y0 :: is).dropLast ++ [(y0 :: is).getLast (by simp) / m]) r ha hl op hp ?_ (qn _) n2 n3 n4 _
          rw [upd_upd, List.map_append]; rfl
      · exact spop_end (ks := (y0 :: is).dropLast) r ha hl op hp (by rw [dl]) (qn _) n2 n3 n4 _
/-- the store is made and handed out -/
def dStock (t0 t1 t2 : TEd) : TSd := fun D ρ => t0 ρ fun s0 ρ1 => t1 ρ1 fun s1 ρ2 => t2 ρ2 fun s2 _ => ∃ (is0 is1 : List Int) (n : Int), s0 = .own (is0.map .int) ∧ s1 = .own (is1.map .int) ∧ is1 ≠ [] ∧ s2 = .d (.int n) ∧ D.rt (.ob .jar)
theorem pe_madeS {e : Expr} {t : TE} (h : PE X e t) : PE X e (fun σ H Q => t σ H fun v H1 => ∃ a l0 l1 x y js, ∃ ks : List Int, v = .ref a ∧ OpnS H1 a l0 l1 x y js ∧ H1 l1 = some (.lst (ks.map V.int)) ∧ l1 ≠ l0 ∧ ∀ o, Q v (clsS (upd H1 l1 (.frz o (.lst (ks.map V.int)))) a l0 l1)) := ⟨fun pins s σ H Q I q => by
  refine thn (h.run pins s σ H _ I q) fun u s1 z => ?_
  obtain ⟨v, H1, I1, rv, a, l0, l1, x, y, js, ks, ev, o, h1, n10, q2⟩ := z
  obtain ⟨ob, I2⟩ := fix_inv I1 h1 trivial
  have n1a : l1 ≠ a := fun z => by
    have h := o.ha
    rw [← z, h1] at h
    cases ks with
    | nil => cases h
    | cons k ks => cases h
  exact ⟨v, _, closeS_of I2 (x := x) (y := y) (js := js) ⟨by rw [upd_ne (Ne.symm n1a)]; exact o.ha, by rw [upd_ne (Ne.symm n10)]; exact o.hl, o.ne⟩, rv, q2 ob⟩⟩
theorem ds_stock {e0 e1 e2 : Expr} {t0 t1 t2 : TEd} (hJ : ∀ a H, StoS a H → L.J.ok .jar a H) (h0 : PE X e0 (tE L t0)) (h1 : PE X e1 (tE L t1)) (h2 : PE X e2 (tE L t2))
    (s0 : starEach [e0, e1, e2, .Constant (.int 0) j p1] X.env = (false, eval e0 X.env) :: starEach [e1, e2, .Constant (.int 0) j p1] X.env := by rfl) (s1 : starEach [e1, e2, .Constant (.int 0) j p1] X.env = (false, eval e1 X.env) :: starEach [e2, .Constant (.int 0) j p1] X.env := by rfl)
    (s2 : starEach [e2, .Constant (.int 0) j p1] X.env = (false, eval e2 X.env) :: starEach [.Constant (.int 0) j p1] X.env := by rfl) (s3 : starEach [.Constant (.int 0) j p1] X.env = (false, eval (.Constant (.int 0) j p1) X.env) :: starEach [] X.env := by rfl) :
    PS X (.Return (some (.List [e0, e1, e2, .Constant (.int 0) j p1] p2)) pos) (tS L (dStock t0 t1 t2)) :=
  (ps_ret (pe_madeS (pe_lst (pa_cons h0 (pa_cons h1 (pa_cons h2 (pa_cons pe_int pa_nil s3) s2) s1) s0)))).less fun D σ H q => by
    obtain ⟨ρ, De, r, q, n1, n2, n3, n4⟩ := q
    refine ⟨ρ, _, r, q, fun v0 H1 x0 ρ1 g1 r1 hv0 q1 => ⟨ρ1, _, r1, q1, fun v1 H2 x1 ρ2 g2 r2 hv1 q2 => ⟨ρ2, _, r2, q2, fun v2 H3 x2 ρ3 g3 r3 hv2 q3 => ?_⟩⟩⟩
    obtain ⟨is0, is1, n, rfl, rfl, hne, rfl, q4⟩ := q3
    have hv2 : Br L.K H3 v2 (.int n) := hv2
    cases hv2
    have a0 := hv0.later r g1 r1 (g2.tr g3)
    have a1 := hv1.later r1 g2 r2 g3
    obtain ⟨⟨l0, vs0, rfl, b0, b1, b2⟩, b3⟩ := a0
    obtain ⟨⟨l1, vs1, rfl, c0, c1, c2⟩, c3⟩ := a1
    obtain rfl := br_ints b1
    obtain rfl := br_ints c1
    have n10 : l1 ≠ l0 := fun z => by
      have h := c3 l1 rfl
      have h' := hv0.there l0 rfl _ rfl
      rw [z] at h; exact h' h
    refine ⟨(show (4 : Nat) ≤ sizeLine by decide), fun a na => ?_⟩
    have na0 : l0 ≠ a := ne_of_none b0 na
    have na1 : l1 ≠ a := ne_of_none c0 na
    refine ⟨a, l0, l1, n, 0, is0, is1, rfl, ⟨upd_same, by rw [upd_ne na0]; exact b0, na0⟩, by rw [upd_ne na1]; exact c0, n10, fun ob => ?_⟩
    have hs : StoS a (clsS (upd (upd H3 a (.lst (vsS l0 l1 n 0))) l1 (.frz ob (.lst (is1.map V.int)))) a l0 l1) := by
      refine ⟨l0, l1, ob, is1, ?_, ?_, na0, ?_, hne⟩
      · unfold clsS; rw [upd_ne (Ne.symm na0), upd_same]
      · unfold clsS; rw [upd_same]
      · unfold clsS; rw [upd_ne n10, upd_ne na1, upd_same]
    refine n2 (.ref a) _ (.ob .jar) (fun b o hb f => ?_) (fun b o hb => ?_) ⟨a, rfl, hJ _ _ hs⟩ q4
    · have h3 := ((g1.tr g2).tr g3).keep r b o hb f
      unfold clsS
      have e0 : b ≠ l0 := fun z => by rw [z, b0] at h3; cases h3; exact f
      have e1 : b ≠ l1 := fun z => by rw [z, c0] at h3; cases h3; exact f
      rw [upd_ne e0, upd_ne (ne_of_none h3 na), upd_ne e1, upd_ne (ne_of_none h3 na)]; exact h3
    · have h3 := r3.same b o hb
      unfold clsS
      rw [upd_ne (ne_of_none hb b2), upd_ne (ne_of_none h3 na), upd_ne (ne_of_none hb c2), upd_ne (ne_of_none h3 na)]; exact h3
theorem cutV_map (ns : List Int) (lo hi : Option Int) : cutV (ns.map V.int) lo hi = (cutD ns lo hi).map V.int := by
  unfold cutV cutD
  rw [List.map_take, List.map_drop, List.length_map]
/-- the script's first items -/
def dScr (i : Nat) (k : Int) : TEd := fun ρ Q => ∃ ns, ρ[i]? = some (.ob (.scr ns)) ∧ Q (.own ((cutD ns none (some k)).map .int)) ρ
theorem de_scr {k : Int} {j2 : Nat} (hK : L.K = X.K) (hS : ∀ a ns H, L.J.ok (.scr ns) a H → ScrOk L.K a ns H) (ho : PE X o (tVar i)) : PE X (.Subscript o (.Slice none (some (.Constant (.int k) j2 p1)) none p2) pos) (tE L (dScr i k)) :=
  (pe_slice sl_list ho po_none (po_some pe_int)).less fun σ H Q' q => by
    obtain ⟨ρ, Q, r, ⟨ns, ej, q⟩, fin⟩ := q
    obtain ⟨o, e2, a, rfl, ja⟩ := r.get ej
    have sq := sq_scr (hS a ns H ja)
    rw [hK] at sq
    refine ⟨.ref a, e2, k, rfl, a, ns.map V.int, rfl, sq, fun c nc => ?_⟩
    rw [cutV_map]
    have sm := same_new (o := .lst ((cutD ns none (some k)).map V.int)) nc
    exact fin _ _ (.own _) ρ (Go.sm sm) (r.go sm) ⟨⟨c, _, rfl, upd_same, ints_br _, r.same.free nc⟩, fun l e => by cases e; exact nc⟩ q
end
end GB

set_option maxRecDepth 100000
namespace GB
open PySem PySem.Spec PyProof.Rows L2
/-! is, is not, of bools -/
def fIsB : F2 := fun x y Q => ∃ a b : Bool, x = .bool a ∧ y = .bool b ∧ Q (.d (.bool (a == b)))
def fIsNotB : F2 := fun x y Q => ∃ a b : Bool, x = .bool a ∧ y = .bool b ∧ Q (.d (.bool (!(a == b))))
theorem f_isB {a b : Bool} {k : S → Prop} : fIsB (.bool a) (.bool b) k ↔ k (.d (.bool (a == b))) := ⟨fun ⟨_, _, e, e', h⟩ => by cases e; cases e'; exact h, fun h => ⟨_, _, rfl, rfl, h⟩⟩
theorem f_isNotB {a b : Bool} {k : S → Prop} : fIsNotB (.bool a) (.bool b) k ↔ k (.d (.bool (!(a == b)))) := ⟨fun ⟨_, _, e, e', h⟩ => by cases e; cases e'; exact h, fun h => ⟨_, _, rfl, rfl, h⟩⟩
theorem o_isB {X : Cx} {L : Lay} : OpR X (compareOp .Is) (rD L fIsB) := by
  intro pins s σ H x y v u Q' I rx ry q
  obtain ⟨dx, dy, Q, bx, by_, ⟨a, b, rfl, rfl, q⟩, fin⟩ := q
  have bx : Br L.K H x (.bool a) := bx
  have by_ : Br L.K H y (.bool b) := by_
  cases bx; cases by_; cases rx; cases ry
  exact is_bool (fin_bl I (fin _ H (.d (.bool (a == b))) (Same.refl H) (.bl _) q) rfl)
theorem o_isNotB {X : Cx} {L : Lay} : OpR X (compareOp .IsNot) (rD L fIsNotB) := by
  intro pins s σ H x y v u Q' I rx ry q
  obtain ⟨dx, dy, Q, bx, by_, ⟨a, b, rfl, rfl, q⟩, fin⟩ := q
  have bx : Br L.K H x (.bool a) := bx
  have by_ : Br L.K H y (.bool b) := by_
  cases bx; cases by_; cases rx; cases ry
  exact isnot_bool (fin_bl I (fin _ H (.d (.bool (!(a == b)))) (Same.refl H) (.bl _) q) rfl)
end GB

set_option maxRecDepth 100000
namespace GB
open PySem PySem.Spec PyProof.Rows L2
/-! an own exception class without own __init__, called without arguments -/
section
variable {X : Cx} {C : Addr} {bmB : List Value} {B newId initId : String}
theorem pmk_own0 {x : Str} {p pos : Pos} (F : ExcBaseFacts B newId initId bmB) (q : PySem.W.excIn X.K C bmB newId = true) (gC : X.mg x = some (.ref C)) (kC : PySem.W.keepIn X.K (.ref C) = true) (r : Raises X (.ref C)) (hg : Gl X x)
    (hdb : (x == ("__debug__" : Str)) = false := by decide) : PMk X (.Call (.Name x p) [] [] pos) (fun _ H Q => Q (.ref C) none H) := by
  intro pins s σ H Q I h
  refine wpAny_Call_Name_kw (ld_glob I hg gC ?_ hdb)
  refine PySem.W.callWith_K0 I.kIn kC ?_
  obtain ⟨bm, N, nm, qn, bs, hdct, sn, sub, ab, col, dd, k0, k1, k2, k3, k5, mN, hC, hN, hni, T⟩ := exc_obj I.kIn q
  refine wpAny_call_exc_subT F T hC hN hni (fun h' e hm => ?_) (Nat.zero_le _)
  exact mk_of I hm r h (I.hok.gone hm.new)
end
/-- a class of the program that is raised -/
structure ExC (K : PySem.W.Frag) (mg : Str → Option Value) (x : Str) (C : Addr) : Prop where
  gC : mg x = some (.ref C)
  kC : PySem.W.keepIn K (.ref C) = true
  xC : ∃ bm, ExcBaseFacts "ValueError" "ValueError.__new__" "ValueError.__init__" bm ∧ PySem.W.excIn K C bm "ValueError.__new__" = true
  bC : PySem.W.subIn K (.ref C) (.type "BaseException") = some true
  tC : PySem.W.typeIn K (.ref C) = some (.type "type")
  eC : PySem.W.exmOne K (.ref C) (.ref C) = some true
/-! a raise -/
def dRaise (Z : Prop) : TSd := fun _ _ => Z
section
variable {X : Cx} {L : Lay} {C : Addr} {W : WX} {x : Str} {p pos pos2 : Pos} {Z : Prop}
theorem ds_raise (g : Good X) (tk : Takes X W) (hK : L.K = X.K) (c : ExC X.K X.mg x C) (hg : Gl X x) (hz : ∀ σ H, Same L.H0 H → Z → W (.ref C) none σ H) (hdb : (x == ("__debug__" : Str)) = false := by decide) :
    PS X (.Raise (some (.Call (.Name x p) [] [] pos)) none pos2) (tS L (dRaise Z)) := by
  obtain ⟨bm, F, q⟩ := c.xC
  refine (ps_raise g.calm tk (pmk_own0 F q c.gC c.kC (raises_own c.bC c.tC) hg hdb)).less fun D σ H h => ?_
  obtain ⟨ρ, De, r, z, _⟩ := h
  exact hz σ H r.same z
end
/-! defs that raise an error of one class, without payload -/
abbrev FnE := List S → (S → Prop) → Prop → Prop
def spX (K : PySem.W.Frag) (J : Jar) (n : Nat) (C : Addr) (F : FnE) : Sp := fun vs H Q E => ∃ ss R Z, FRs ⟨K, J, H⟩ H vs ss ∧ ss.length = n ∧ F ss R Z ∧ (∀ v H' s, Same H H' → RR ⟨K, J, H⟩ H' v s → R s → Q v H') ∧ (Z → ∀ H', Same H H' → E (.ref C) none H')
section
variable {P : Program} {w : World} {K : PySem.W.Frag} {mg : Str → Option Value} {base : Heap} {J : Jar}
theorem good_of' {CX : CXT} {N : List Str} {qual : Str} {scope : Scope} {f : Addr} {cdv : Value} {A : Around} {outer : List Env} {s : Shared} {H : Hp} {E : XK} {k : Nat} (hs : ∃ o, base.get? sysModules = some o) (nd : N.Nodup) (hg : A.guards = some [])
    (hr : Room k (A.deeper (envOfC qual scope s.heap.objs.size f cdv))) : Good (cxOf CX P w K mg base N qual scope f cdv A outer s H E) := ⟨rfl, hg, hs, by have := hr.un; show (A.deeper (envOfC qual scope s.heap.objs.size f cdv)).units + 200 < cLine; omega, nd⟩
theorem fnx_ok {f C : Addr} {fd : FuncData} {x qual : Str} {st : Stmt} {N ps : List Str} {k : Nat} {F : FnE} {t : Prop → TSd} (Fn : Fun K x qual st f fd) (S0 : FnScope N ps (defScope st)) (hs : ∃ o, base.get? sysModules = some o)
    (body : ∀ (cdv : Value) (A : Around) (outer : List Env) (s : Shared) (H : Hp) (E : XK) (Z : Prop), A.guards = some [] → Room k (A.deeper (envOfC qual (defScope st) s.heap.objs.size f cdv)) → Good (cxOf (L2.CX P w) P w K mg base N qual (defScope st) f cdv A outer s H E) →
      PassesOwn (model P w) (cxOf (L2.CX P w) P w K mg base N qual (defScope st) f cdv A outer s H E).A (cxOf (L2.CX P w) P w K mg base N qual (defScope st) f cdv A outer s H E).env (cxOf (L2.CX P w) P w K mg base N qual (defScope st) f cdv A outer s H E).xe →
      Takes (cxOf (L2.CX P w) P w K mg base N qual (defScope st) f cdv A outer s H E) (fun cls d _ H' => E cls d H') → (∀ H', Same H H' → Z → E (.ref C) none H') →
      PSs (cxOf (L2.CX P w) P w K mg base N qual (defScope st) f cdv A outer s H E) (defBody st) (tS ⟨K, J, H⟩ (t Z)))
    (math : ∀ ss R Z, ss.length = ps.length → F ss R Z → t Z { nx := fun _ => R (.d .none), rt := R } (ss ++ List.replicate (N.length - ps.length) .un)) :
    FnG P w K mg base (L2.CX P w) (k + 1) f fd ps (spX K J ps.length C F) := by
  refine fng_of Fn S0 (fun vs H Q E h => ?_) fun cdv A outer s H vs Q E hg hr h => ?_
  · obtain ⟨ss, R, Z, fr, hl, _⟩ := h
    rw [fr.len, hl]
  · obtain ⟨ss, R, Z, fr, hl, hF, fin, hz⟩ := h
    refine ⟨_, body cdv A outer s H E Z hg hr (good_of' hs S0.nd hg hr) (passes_of rfl) (takes_of rfl rfl rfl rfl) (fun H' sm z => hz z H' sm), ss ++ List.replicate (N.length - ps.length) .un, { nx := fun _ => R (.d .none), rt := R }, ?_, math ss R Z hl hF, fun σ' H' ρ' k r n => ?_, fun v H' s k sm rr n => fin v H' s sm rr n, fun _ _ _ _ _ n => n, fun _ _ _ _ _ n => n⟩
    · have hv := fr.len
      unfold L2.start
      rw [hv, hl]
      exact brA_start fr rfl
    · exact fin .non H' (.d .none) r.same .non n
end
/-! calls of such defs, in the body of a try -/
def tEX (L : Lay) (C : Addr) (W : WX) (t : (En → Prop) → TEd) : TE := fun σ H Q' => ∃ ρ Q Z, Rel L H σ ρ ∧ t Z ρ Q ∧ (∀ v H' s ρ', Go σ ρ ρ' H H' → Rel L H' σ ρ' → VR L H H' v s → Q s ρ' → Q' v H') ∧ (∀ H' ρ', Go σ ρ ρ' H H' → Rel L H' σ ρ' → Z ρ' → W (.ref C) none σ H')
def tSX (L : Lay) (C : Addr) (W : WX) (t : (En → Prop) → TSd) : TS := fun D σ H => ∃ ρ De Z, Rel L H σ ρ ∧ t Z De ρ ∧ (∀ σ' H' ρ', Keep H H' → Rel L H' σ' ρ' → De.nx ρ' → D.nx σ' H') ∧ (∀ v H' s, Keep H H' → Same L.H0 H' → RR L H' v s → De.rt s → D.rt v H') ∧
  (∀ σ' H' ρ', Keep H H' → Rel L H' σ' ρ' → De.bk ρ' → D.bk σ' H') ∧ (∀ σ' H' ρ', Keep H H' → Rel L H' σ' ρ' → De.ct ρ' → D.ct σ' H') ∧ (∀ σ' H' ρ', Keep H H' → Rel L H' σ' ρ' → Z ρ' → W (.ref C) none σ' H')
def dCallX (F : FnE) (n : Nat) (Z : En → Prop) (ta : TAd) : TEd := fun ρ Q => ta ρ fun ss ρ1 => ss.length = n ∧ F ss (fun s => Q s ρ1) (Z ρ1)
def dCallKX (F : FnE) (n : Nat) (gS : List S → List S) (Z : En → Prop) (ta : TAd) : TEd := fun ρ Q => ta ρ fun ss ρ1 => (gS ss).length = n ∧ F (gS ss) (fun s => Q s ρ1) (Z ρ1)
section
variable {X : Cx} {L : Lay} {C : Addr} {W : WX} {pos p : Pos} {e c a b : Expr} {es : List Expr} {tas tks : TAd} {F : FnE} {x : Str} {f : Addr} {fd : FuncData} {ps ks : List Str} {k : Nat} {kws : List Keyword} {te : TEd} {tq : TTd} {ta tb : (En → Prop) → TEd}
theorem g_callS {sp : Sp} {E : L2.St → XK} {t : TA} (Fn : FnG X.prog X.w X.K X.mg X.base (L2.CX X.prog X.w) k f fd ps sp) (hr : Room k X.A) (gd : X.A.guards = some []) (hg : Gl X x) (hm : X.mg x = some (.ref f)) (hk : PySem.W.keepIn X.K (.ref f) = true) (hb : Binds X.K fd ps []) (hx : ∀ σ, PassesAt (L2.CX X.prog X.w) X σ (E σ))
    (ha : PA X (e :: es) t) (hdb : (x == ("__debug__" : Str)) = false := by decide) (he : starEach (e :: es) X.env = (false, eval e X.env) :: starEach es X.env := by rfl)
    (hpl : (backTo pos (starEach es X.env)).any (·.1) = false := by rfl) : PE X (.Call (.Name x p) (e :: es) [] pos) (fun σ H Q => t σ H fun vs H1 => sp vs H1 Q (E σ)) := by
  constructor
  intro pins s σ H Q I h
  refine wpAny_Call_Name_kw (ld_glob I hg hm ?_ hdb)
  refine PySem.W.callWith_K (h₀ := X.base) I.ok.mod.kin hk (thn (ha.run pos pins s σ H _ I h) fun us s1 z => ?_) he hpl
  obtain ⟨vs, H1, I1, r, q⟩ := z
  refine ⟨I1.kIn, ?_⟩
  have hl : us.length = ps.length := by rw [← r.length]; exact Fn.arity _ _ _ _ q
  have bb := hb s1 us I1.kIn (by simpa using hl)
  rw [List.append_nil] at bb
  refine wpAny_call (codeAny_mono (Fn.go X.A X.stack s1 H1 ⟨us, []⟩ us vs Q (E σ) gd hr I1.env0 bb r q) fun r2 s' hq => ?_)
  match r2, hq with
  | .error e, hq => exact hx σ pins H1 s1 e s' I1 hq
  | .ok (.ret u), hq => exact I1.after hq
  | .ok .next, hq => exact False.elim hq
  | .ok .brk, hq => exact False.elim hq
  | .ok .cont, hq => exact False.elim hq
theorem g_kwS {gV : List V → List V} {g : List Value → List Value} {sp : Sp} {E : L2.St → XK} {tk : TA} (Fn : FnG X.prog X.w X.K X.mg X.base (L2.CX X.prog X.w) k f fd ps sp) (hr : Room k X.A) (gd : X.A.guards = some []) (hg : Gl X x) (hm : X.mg x = some (.ref f)) (hk : PySem.W.keepIn X.K (.ref f) = true)
    (hto : ∀ (s : Shared) (ws : List Value), (g ws).length = ps.length → BindsTo s fd ⟨[], ks.zip ws⟩ (ps.zip (g ws))) (hrel : ∀ {zs : List V} {ws : List Value}, Vals zs ws → Vals (gV zs) (g ws)) (hx : ∀ σ, PassesAt (L2.CX X.prog X.w) X σ (E σ)) (hkw : PK X kws tk) (hall : (backToKw pos (keywordEach kws X.env)).all (·.1.isSome) = true := by rfl)
    (hks : (backToKw pos (keywordEach kws X.env)).filterMap (·.1) = ks := by rfl) (hdb : (x == ("__debug__" : Str)) = false := by decide)
    (hpl : ((backTo pos (starEach [] X.env)).any (·.1) || (backToKw pos (keywordEach kws X.env)).any (·.1.isNone)) = false := by rfl) :
    PE X (.Call (.Name x p) [] kws pos) fun σ H Q => tk σ H fun zs H2 => sp (gV zs) H2 Q (E σ) := by
  constructor
  intro pins s σ H Q I h
  refine wpAny_Call_Name_kw (ld_glob I hg hm ?_ hdb)
  refine PySem.W.callWith_KW0 (h₀ := X.base) I.ok.mod.kin hk hall (thn (hkw.run pos pins s σ H _ I h) fun ws s2 z => ?_) hpl
  obtain ⟨zs, H2, I2, rz, q⟩ := z
  refine ⟨I2.kIn, ?_⟩
  rw [hks]
  have r2 := hrel rz
  have hl : (g ws).length = ps.length := by rw [← r2.length]; exact Fn.arity _ _ _ _ q
  refine wpAny_call (codeAny_mono (Fn.go X.A X.stack s2 H2 ⟨[], ks.zip ws⟩ (g ws) (gV zs) Q (E σ) gd hr I2.env0 (hto s2 ws hl) r2 q) fun r3 s' hq => ?_)
  match r3, hq with
  | .error e, hq => exact hx σ pins H2 s2 e s' I2 hq
  | .ok (.ret u), hq => exact I2.after hq
  | .ok .next, hq => exact False.elim hq
  | .ok .brk, hq => exact False.elim hq
  | .ok .cont, hq => exact False.elim hq
theorem de_liftX (h : PE X e (tE L te)) : PE X e (tEX L C W fun _ => te) := h.less fun σ H Q' q => by
  obtain ⟨ρ, Q, Z, r, q, fin, _⟩ := q
  exact ⟨ρ, Q, r, q, fin⟩
theorem de_callX (hK : L.K = X.K) (Fn : FnG X.prog X.w X.K X.mg X.base (L2.CX X.prog X.w) k f fd ps (spX X.K L.J ps.length C F)) (hr : Room k X.A) (g : Good X) (hg : Gl X x) (hm : X.mg x = some (.ref f)) (hk : PySem.W.keepIn X.K (.ref f) = true) (hb : Binds X.K fd ps [])
    (tk : Takes X W) (ha : PA X (e :: es) (tA L tas)) (hdb : (x == ("__debug__" : Str)) = false := by decide) (he : starEach (e :: es) X.env = (false, eval e X.env) :: starEach es X.env := by rfl)
    (hpl : (backTo pos (starEach es X.env)).any (·.1) = false := by rfl) : PE X (.Call (.Name x p) (e :: es) [] pos) (tEX L C W fun Z => dCallX F ps.length Z tas) :=
  (g_callS (E := WE W) Fn hr g.gd hg hm hk hb (fun σ => passAt tk σ) ha hdb he hpl).less fun σ H Q' h => by
    obtain ⟨ρ, Q, Z, r, q, fin, hz⟩ := h
    refine ⟨ρ, _, r, q, fun vs H1 ss ρ1 go r1 hv q1 => ?_⟩
    refine ⟨ss, _, _, ?_, q1.1, q1.2, fun v H2 s sm rr q2 => fin v H2 s ρ1 (go.tr (Go.sm sm)) (r1.go sm) (rr_vr r1 go (by rw [hK]; exact rr)) q2, fun z H2 sm => hz H2 ρ1 (go.tr (Go.sm sm)) (r1.go sm) z⟩
    rw [← hK]; exact hv.lay
theorem de_callKX {gV : List V → List V} {g : List Value → List Value} {gS : List S → List S} (hK : L.K = X.K) (Fn : FnG X.prog X.w X.K X.mg X.base (L2.CX X.prog X.w) k f fd ps (spX X.K L.J ps.length C F)) (hr : Room k X.A) (gd : Good X) (hg : Gl X x) (hm : X.mg x = some (.ref f)) (hk : PySem.W.keepIn X.K (.ref f) = true)
    (hb : Perm X.K fd ps ks g gV gS) (tk : Takes X W) (hkw : PK X kws (tA L tks)) (hall : (backToKw pos (keywordEach kws X.env)).all (·.1.isSome) = true := by rfl)
    (hks : (backToKw pos (keywordEach kws X.env)).filterMap (·.1) = ks := by rfl) (hdb : (x == ("__debug__" : Str)) = false := by decide)
    (hpl : ((backTo pos (starEach [] X.env)).any (·.1) || (backToKw pos (keywordEach kws X.env)).any (·.1.isNone)) = false := by rfl) :
    PE X (.Call (.Name x p) [] kws pos) (tEX L C W fun Z => dCallKX F ps.length gS Z tks) :=
  (g_kwS (E := WE W) Fn hr gd.gd hg hm hk hb.to hb.rel (fun σ => passAt tk σ) hkw hall hks hdb hpl).less fun σ H Q' h => by
    obtain ⟨ρ, Q, Z, r, q, fin, hz⟩ := h
    refine ⟨ρ, _, r, q, fun vs H1 ss ρ1 go r1 hv q1 => ?_⟩
    refine ⟨gS ss, _, _, ?_, q1.1, q1.2, fun v H2 s sm rr q2 => fin v H2 s ρ1 (go.tr (Go.sm sm)) (r1.go sm) (rr_vr r1 go (by rw [hK]; exact rr)) q2, fun z H2 sm => hz H2 ρ1 (go.tr (Go.sm sm)) (r1.go sm) z⟩
    rw [← hK]; exact hb.fr hv.lay
theorem de_ifX (h : PT X c (tT L tq)) (ha : PE X a (tEX L C W ta)) (hb : PE X b (tEX L C W tb)) : PE X (.IfExp c a b pos) (tEX L C W fun Z => dIf tq (ta Z) (tb Z)) := by
  refine (pe_ifExp h ha hb).less fun σ H Q' h => ?_
  obtain ⟨ρ, Q, Z, r0, q, fin, hz⟩ := h
  refine ⟨ρ, _, r0, q, fun b H1 ρ1 k1 r1 q1 => ?_⟩
  cases b with
  | true => exact ⟨ρ1, _, Z, r1, by simpa using q1, fun v H2 s ρ2 k2 r2 hv q2 => fin v H2 s ρ2 (k1.tr k2) r2 (hv.back k1) q2, fun H2 ρ2 k2 r2 z => hz H2 ρ2 (k1.tr k2) r2 z⟩
  | false => exact ⟨ρ1, _, Z, r1, by simpa using q1, fun v H2 s ρ2 k2 r2 hv q2 => fin v H2 s ρ2 (k1.tr k2) r2 (hv.back k1) q2, fun H2 ρ2 k2 r2 z => hz H2 ρ2 (k1.tr k2) r2 z⟩
theorem ds_retX (he : PE X e (tEX L C W ta)) : PS X (.Return (some e) pos) (tSX L C W fun Z => dRet (ta Z)) := (ps_ret he).less fun D σ H q => by
  obtain ⟨ρ, De, Z, r, q, h1, h2, h3, h4, hz⟩ := q
  exact ⟨ρ, _, Z, r, q, fun v H' s ρ' go r' hv n => h2 _ _ _ (go.keep r) r'.same hv.rr n, fun H' ρ' go r' z => hz σ H' ρ' (go.keep r) r' z⟩
theorem ds_setX {i : Nat} {x : Str} {pos' : Pos} (g : Good X) (hi : X.N[i]? = some x) (hx : Loc X.env.scope x) (he : PE X e (tEX L C W ta)) (hs : swapsWith e (some (.Name x pos')) pos.line X.env = pure false := by rfl)
    (hf : X.fn x = true ∨ X.env.scope.names.lookup x = some .local := by first | exact .inl rfl | exact .inr rfl | assumption) : PS X (.Assign [.Name x pos'] e pos) (tSX L C W fun Z => dSet i (ta Z)) :=
  (ps_set g.nd hi hx he hs hf).less fun D σ H q => by
    obtain ⟨ρ, De, Z, r, q, h1, h2, h3, h4, hz⟩ := q
    exact ⟨ρ, _, Z, r, q, fun v H' s ρ' go r' hv n => h1 _ _ _ (go.keep r) (r.set r' go hv) n, fun H' ρ' go r' z => hz σ H' ρ' (go.keep r) r' z⟩
end
/-! try: body, except C as n: suite -/
def dTry (t : (En → Prop) → TSd) (i : Nat) (u : TSd) : TSd := fun D ρ => t (fun ρ1 => i < ρ1.length ∧ u { nx := fun ρ2 => D.nx (ρ2.set i .un), rt := D.rt, bk := fun ρ2 => D.bk (ρ2.set i .un), ct := fun ρ2 => D.ct (ρ2.set i .un) } (ρ1.set i .un)) D ρ
theorem Rel.setU {L : Lay} {H : Hp} {σ : L2.St} {ρ : En} (r : Rel L H σ ρ) (i : Nat) (v : Option V) : Rel L H (σ.set i v) (ρ.set i .un) := by
  have sub : ∀ (j : Nat) (s : S), (ρ.set i .un)[j]? = some s → s = .un ∨ (j ≠ i ∧ ρ[j]? = some s) := fun j s e => by
    by_cases h : i = j
    · subst h
      by_cases hl : i < ρ.length
      · rw [List.getElem?_set_self hl] at e; cases e; exact .inl rfl
      · rw [List.getElem?_eq_none (by simpa using hl)] at e; cases e
    · rw [List.getElem?_set_ne h] at e
      exact .inr ⟨Ne.symm h, e⟩
  refine ⟨by simp [r.len], fun j s e => ?_, fun j k xs ys e1 e2 e3 => ?_, r.same⟩
  · rcases sub j s e with rfl | ⟨n, e⟩
    · trivial
    · rw [List.getElem?_set_ne (Ne.symm n)]
      exact r.at' j s e
  · rcases sub j _ e1 with q | ⟨n1, q1⟩
    · cases q
    · rcases sub k _ e2 with q | ⟨n2, q2⟩
      · cases q
      · rw [List.getElem?_set_ne (Ne.symm n1), List.getElem?_set_ne (Ne.symm n2)] at e3
        exact r.sep j k xs ys q1 q2 e3
/-- what a suite knows of its error -/
def sG (i : Nat) (a C : Addr) (cls : Value) (d : Option Addr) (σ : L2.St) : Prop := σ[i]? = some (some (.ref a)) ∧ cls = .ref C ∧ d = none
section
variable {X : Cx} {L : Lay} {C : Addr} {x n : Str} {i : Nat} {body suite : List Stmt} {b₀ : Stmt} {np pos pos' : Pos} {t : (En → Prop) → TSd} {u : TSd}
theorem ds_try (g : Good X) (hs : X.stack = X.env :: X.outer) (hf : X.env.frame = some X.env.locals) (hi : X.N[i]? = some n) (hln : X.env.kindOf n = some .local) (c : ExC X.K X.mg x C) (hg : Gl X x) 
    (hb : ∀ (W : WX) (pn : List (Addr × Obj)) (xe : Value → Shared → Prop), Good (X.tr pn xe) → Takes (X.tr pn xe) W → PassesOwn (model X.prog X.w) X.A X.env xe → PSs (X.tr pn xe) body (tSX L C W t))
    (hsu : ∀ (a : Addr) (oe : Obj) (cls : Value) (d : Option Addr) (pn : List (Addr × Obj)), Zc cls d oe → (∃ vs, oe.data = .fields vs) → PSs (X.suite a ((a, oe) :: pn)) (b₀ :: suite) (fun D σ H => sG i a C cls d σ ∧ tS L u D σ H)) (hdb : (x == ("__debug__" : Str)) = false := by decide) :
    PS X (.Try body [.ExceptHandler (some (.Name x np)) (some n) (b₀ :: suite) pos'] [] [] pos) (tS L (dTry t i u)) :=
  (ps_try_as (i := i) (tb := fun W => tSX L C W t) (ts := fun a cls d D σ H => sG i a C cls d σ ∧ tS L u D σ H) (Wout := fun _ _ _ _ => False) hs hf g.nd hi hln ⟨hg, hdb, .inl c.gC⟩ takes0
    (fun W pn xe tk po => hb W pn xe ⟨g.calm, g.gd, g.sys, g.un, g.nd⟩ tk po) hsu).less fun D σ H q => by
    obtain ⟨ρ, De, r, q, h1, h2, h3, h4⟩ := q
    refine ⟨ρ, De, _, r, q, h1, h2, h3, h4, fun σ' H' ρ' k r' z => ⟨true, c.eC, fun _ a ha => ?_, fun z => nomatch z⟩⟩
    obtain ⟨hl, z⟩ := z
    refine ⟨⟨by rw [List.getElem?_set_self (by rw [r'.len]; exact hl)], rfl, rfl⟩, ρ'.set i .un, _, r'.setU i _, z, fun σ2 H2 ρ2 k2 r2 n => h1 _ _ _ (k.tr k2) (r2.setU i none) n, fun v H2 s k2 sm rr n => h2 v H2 s (k.tr k2) sm rr n, fun σ2 H2 ρ2 k2 r2 n => h3 _ _ _ (k.tr k2) (r2.setU i none) n, fun σ2 H2 ρ2 k2 r2 n => h4 _ _ _ (k.tr k2) (r2.setU i none) n⟩
end
/-! the suite's expressions -/
structure ExI (K : PySem.W.Frag) (C G : Addr) : Prop where
  hcl : (PySem.W.clsIn K C).isSome = true
  ga : PySem.W.findIn K (.ref C) "__getattribute__" = some (some (.builtin "BaseException.__getattribute__"))
  gg : ∃ gt, PySem.W.findIn K (.ref C) "__getattr__" = some gt
  ha : PySem.W.findIn K (.ref C) "__class__" = some (some (.builtin "object.__class__"))
  hn : PySem.W.specialIn K (.builtin "object.__class__") "__get__" = some (some (.builtin "getset_descriptor.__get__"))
  htk : PySem.W.takesIn K (.builtin "object.__class__") = some true
  hm : PySem.W.mroIn K C (.type "object") = some true
  bC : PySem.W.subIn K (.ref C) (.type "BaseException") = some true
  one : PySem.W.kitOne K (.ref C) (.ref G) = some true
def tGu (g : L2.St → Prop) (t : TE) : TE := fun σ H Q => g σ ∧ t σ H Q
def tGuT (g : L2.St → Prop) (t : TT) : TT := fun σ H Q => g σ ∧ t σ H Q
def tGuA (g : L2.St → Prop) (t : TA) : TA := fun σ H Q => g σ ∧ t σ H Q
section
variable {X : Cx} {L : Lay} {g : L2.St → Prop} {pos p : Pos} {e a b c : Expr} {es : List Expr} {tas : TAd} {te ta tb : TEd} {tq : TTd}
theorem di_lift {t : TE} (h : PE X e t) : PE X e (tGu g t) := h.less fun _ _ _ q => q.2
theorem dit_lift {t : TT} (h : PT X e t) : PT X e (tGuT g t) := h.less fun _ _ _ q => q.2
theorem dit_val (h : PE X e (tGu g (tE L te))) (he : ∀ whole, isTrue e X.env whole = (do let v ← whole; standAt e.pos; holding [v] (truthy v)) := by intro _; rfl) : PT X e (tGuT g (tT L (dB te))) :=
  (pt_val h he).less fun σ H Q' q => by
    obtain ⟨hg, ρ, Q, r, q, fin⟩ := q
    refine ⟨hg, ρ, _, r, q, fun v H1 s ρ1 k1 r1 hv q1 => ?_⟩
    obtain ⟨b, rfl, q2⟩ := q1
    have hv : Br L.K H1 v (.bool b) := hv
    cases hv
    exact ⟨b, rfl, fin b H1 ρ1 k1 r1 q2⟩
theorem dit_if (h : PT X c (tGuT g (tT L tq))) (ha : PE X a (tGu g (tE L ta))) (hb : PE X b (tGu g (tE L tb))) : PE X (.IfExp c a b pos) (tGu g (tE L (dIf tq ta tb))) := by
  refine (pe_ifExp h ha hb).less fun σ H Q' h => ?_
  obtain ⟨hg, ρ, Q, r0, q, fin⟩ := h
  refine ⟨hg, ρ, _, r0, q, fun b H1 ρ1 k1 r1 q1 => ?_⟩
  cases b with
  | true => exact ⟨hg, ρ1, _, r1, by simpa using q1, fun v H2 s ρ2 k2 r2 hv q2 => fin v H2 s ρ2 (k1.tr k2) r2 (hv.back k1) q2⟩
  | false => exact ⟨hg, ρ1, _, r1, by simpa using q1, fun v H2 s ρ2 k2 r2 hv q2 => fin v H2 s ρ2 (k1.tr k2) r2 (hv.back k1) q2⟩
theorem dia_nil : PA X [] (tGuA g (tA L dNil)) := (da_nil (L := L)).less fun _ _ _ q => q.2
theorem dia_cons (h : PE X e (tGu g (tE L te))) (hr : PA X es (tGuA g (tA L tas))) (hs : starEach (e :: es) X.env = (false, eval e X.env) :: starEach es X.env := by rfl) : PA X (e :: es) (tGuA g (tA L (dCons te tas))) := by
  refine (pa_cons h hr hs).less fun σ H Q' h => ?_
  obtain ⟨hg, ρ, Q, r0, q, fin⟩ := h
  refine ⟨hg, ρ, _, r0, q, fun v H1 s ρ1 k1 r1 hv q1 => ?_⟩
  obtain ⟨f, q2⟩ := q1
  refine ⟨hg, ρ1, _, r1, q2, fun vs H2 ss ρ2 k2 r2 hvs q3 => ?_⟩
  exact fin (v :: vs) H2 (s :: ss) ρ2 (k1.tr k2) r2 (.cons ((fr_of f hv).keep (k2.keep r1)) hvs) q3
theorem dia_lst (h : PA X es (tGuA g (tA L tas))) : PE X (.List es pos) (tGu g (tE L (dLst tas))) := by
  refine (pe_lst h).less fun σ H Q' h => ?_
  obtain ⟨hg, ρ, Q, r0, q, fin⟩ := h
  refine ⟨hg, ρ, _, r0, q, fun vs H1 ss ρ1 k1 r1 hv q1 => ?_⟩
  obtain ⟨xs, rfl, hz, q2⟩ := q1
  have hb := frs_brA hv
  refine ⟨by rw [hb.len]; exact hz, fun p hp => ?_⟩
  have sm := same_new (o := .lst vs) hp
  exact fin _ _ (.own xs) ρ1 (k1.tr (Go.sm sm)) (r1.go sm) (NR.vr (s := .own xs) r1 sm k1 ⟨p, vs, rfl, hp, upd_same, BrA.keep (keep_of_same sm) _ _ hb⟩) q2
theorem dis_ret (h : PE X e (tGu g (tE L te))) : PSs X [.Return (some e) pos] (fun D σ H => g σ ∧ tS L (dRet te) D σ H) := (pss_one (ps_ret h)).less fun D σ H q => by
  obtain ⟨hg, ρ, De, r, q, h1, h2, h3, h4⟩ := q
  exact ⟨hg, ρ, _, r, q, fun v H' s ρ' go r' hv n => h2 _ _ _ (go.keep r) r'.same hv.rr n⟩
end
section
variable {X : Cx} {L : Lay} {i : Nat} {a C G : Addr} {oe : Obj} {cls : Value} {d : Option Addr} {pn : List (Addr × Obj)} {n x : Str} {p p1 p2 pos : Pos}
theorem call_isx (hz : Zc cls d oe) (hf : ∃ vs, oe.data = .fields vs) (c : ExI X.K C G) : CallR (X.suite a ((a, oe) :: pn)) (.builtin "isinstance") (fun xs H Q => xs = [.ref a, .ref G] ∧ cls = .ref C ∧ d = none ∧ Q (.bl true) H) := by
  intro pins s σ H xs us Q I r h
  obtain ⟨rfl, ec, ed, q⟩ := h
  obtain ⟨u1, u2, rfl, r1, r2⟩ := vals2 r
  cases (show u1 = Value.ref a from r1)
  cases (show u2 = Value.ref G from r2)
  subst ec
  subst ed
  obtain ⟨ha, _⟩ := I.pin (a, oe) (List.mem_append_left _ List.mem_cons_self)
  obtain ⟨vs, hd⟩ := hf
  have J : PySem.W.InstAt s.heap a oe C none := ⟨ha, hz.1, by unfold PySem.W.notCls; rw [hd] <;> rfl, by rw [hz.2]; trivial⟩
  obtain ⟨gt, gg⟩ := c.gg
  exact PySem.W.kia_one (PySem.W.kitx_exc (x := a) (ox := oe) (od := none) c.hcl c.ga gg c.bC c.ha c.hn c.htk c.hm) I.kIn J c.one (fun z => nomatch z) fun tk => ⟨.bl true, H, I.tok tk, rfl, q⟩
theorem dis_isx (hz : Zc cls d oe) (hf : ∃ vs, oe.data = .fields vs) (c : ExI X.K C G) (hN : X.N[i]? = some n) (hv : Vis X.env.scope n) (hg : Gl (X.suite a ((a, oe) :: pn)) "isinstance") (hm : X.mg "isinstance" = none) (hgG : Gl (X.suite a ((a, oe) :: pn)) x) (hmG : X.mg x = some (.ref G))
    (hdn : (n == ("__debug__" : Str)) = false := by decide) (hcd : (n == ("__classdict__" : Str)) = false := by decide) (hdx : (x == ("__debug__" : Str)) = false := by decide) (hb : bootBuiltins "isinstance" = some (.builtin "isinstance") := by decide +kernel)
    (h1 : starEach ((.Name n p1) :: [.Name x p2]) X.env = (false, eval (.Name n p1) X.env) :: starEach [.Name x p2] X.env := by rfl) (h2 : starEach ([.Name x p2]) X.env = (false, eval (.Name x p2) X.env) :: starEach [] X.env := by rfl)
    (hpl : (backTo pos (starEach [.Name x p2] X.env)).any (·.1) = false := by rfl) :
    PE (X.suite a ((a, oe) :: pn)) (.Call (.Name "isinstance" p) [.Name n p1, .Name x p2] [] pos) (tGu (sG i a C cls d) (tE L (dK (.bool true)))) :=
  (pe_callB (X := X.suite a ((a, oe) :: pn)) (call_isx (X := X) (pn := pn) hz hf c) hg hm hb (pa_cons (pe_var (X := X.suite a ((a, oe) :: pn)) hN hv hdn hcd) (pa_cons (pe_glob (X := X.suite a ((a, oe) :: pn)) (v := .ref G) hgG hmG rfl hdx) pa_nil h2) h1) (by decide) (by decide) h1 hpl).less fun σ H Q' q => by
    obtain ⟨⟨e, ec, ed⟩, ρ, Q, r, q, fin⟩ := q
    exact ⟨.ref a, e, rfl, ec, ed, fin _ H (.d (.bool true)) ρ Go.rf r (.bl _) q⟩
end
/-! a def that raises, where it doesn't -/
theorem FnG.calm {P : Program} {w : World} {K : PySem.W.Frag} {mg : Str → Option Value} {base : Heap} {J : Jar} {k n : Nat} {f C : Addr} {fd : FuncData} {ps : List Str} {F : FnE} (Fn : FnG P w K mg base (L2.CX P w) k f fd ps (spX K J n C F)) :
    FnG P w K mg base CX0 k f fd ps (spD K J n fun ss R => F ss R False) := by
  have up : ∀ vs H Q E, spD K J n (fun ss R => F ss R False) vs H Q E → spX K J n C F vs H Q (fun _ _ _ => False) := fun vs H Q E h => by
    obtain ⟨ss, R, fr, hl, hF, fin⟩ := h
    exact ⟨ss, R, False, fr, hl, hF, fin, fun z => z.elim⟩
  refine ⟨fun vs H Q E h => Fn.arity vs H Q _ (up vs H Q E h), fun A outer s H args us vs Q E hg hr he hb hv h => codeAny_mono (Fn.go A outer s H args us vs Q _ hg hr he hb hv (up vs H Q E h)) fun r s' hq => ?_⟩
  cases r with
  | error e =>
    obtain ⟨_, _, _, _, _, _, _, _, _, _, _, _, z⟩ := (show L2.CX P w outer H s (fun _ _ _ => False) e s' from hq)
    exact z.elim
  | ok fl => cases fl <;> exact hq
theorem exm_own {K : PySem.W.Frag} {C : Addr} (h1 : PySem.W.subIn K (.ref C) (.type "BaseException") = some true) (h2 : PySem.W.isClsIn K C = true) (h3 : PySem.W.typeIn K (.ref C) = some (.type "type")) (h4 : PySem.W.subIn K (.ref C) (.ref C) = some true) :
    PySem.W.exmOne K (.ref C) (.ref C) = some true := by
  have e1 : (PySem.W.subIn K (.ref C) (.type "BaseException") == some true) = true := by rw [h1] <;> rfl
  have e2 : ((PySem.W.clsIn K C).isSome && PySem.W.typeIn K (.ref C) == some (.type "type")) = true := by
    have h2' : (PySem.W.clsIn K C).isSome = true := h2
    rw [h2', h3] <;> rfl
  show (if (PySem.W.subIn K (.ref C) (.type "BaseException") == some true) = true then (if ((PySem.W.clsIn K C).isSome && PySem.W.typeIn K (.ref C) == some (.type "type")) = true then PySem.W.subIn K (.ref C) (.ref C) else none) else none) = some true
  rw [if_pos e1, if_pos e2]
  exact h4
theorem exC_mk {K : PySem.W.Frag} {mg : Str → Option Value} {x : Str} {C : Addr} (gC : mg x = some (.ref C)) (kC : PySem.W.keepIn K (.ref C) = true) (xC : PySem.W.excIn K C [.type "ValueError", .type "Exception", .type "BaseException", .type "object"] "ValueError.__new__" = true)
    (bC : PySem.W.subIn K (.ref C) (.type "BaseException") = some true) (tC : PySem.W.typeIn K (.ref C) = some (.type "type")) (iC : PySem.W.isClsIn K C = true) (sC : PySem.W.subIn K (.ref C) (.ref C) = some true) : ExC K mg x C :=
  ⟨gC, kC, ⟨_, PySem.F.excBase_ValueError, xC⟩, bC, tC, exm_own bC iC tC sC⟩
/-! not of a tuple -/
def dNotTu (t : TEd) : TEd := fun ρ Q => t ρ fun s ρ1 => ∃ xs, s = .d (.tuple xs) ∧ Q (.d (.bool xs.isEmpty)) ρ1
theorem de_notTu {X : Cx} {L : Lay} {e : Expr} {t : TEd} {pos : Pos} (hK : L.K = X.K) (h : PE X e (tE L t)) : PE X (.UnaryOp .Not e pos) (tE L (dNotTu t)) :=
  (pe_notT h).less fun σ H Q' h => by
    obtain ⟨ρ, Q, r0, q, fin⟩ := h
    refine (show tE L t σ H _ from ⟨ρ, _, r0, q, fun v H1 s ρ1 k1 r1 hv q1 => ?_⟩)
    obtain ⟨xs, rfl, q2⟩ := q1
    have hv : Br L.K H1 v (.tuple xs) := hv
    cases hv with
    | @tup a vs _ h1 h3 =>
      have e : vs.isEmpty = xs.isEmpty := by
        have := h3.len
        cases vs <;> cases xs <;> first | rfl | simp at this
      refine ⟨!vs.isEmpty, .inr (.inl ⟨vs, hK ▸ h1, rfl⟩), ?_⟩
      rw [Bool.not_not, e]
      exact fin _ H1 (.d (.bool xs.isEmpty)) ρ1 k1 r1 (.bl _) q2
section
variable {t : TEd} {as : TAd} {ρ : En} {D : EndsD} {Q : S → En → Prop}
theorem e_raise {Z : Prop} : dRaise Z D ρ ↔ Z := Iff.rfl
theorem e_try {u : (En → Prop) → TSd} {i : Nat} {v : TSd} : dTry u i v D ρ ↔ u (fun ρ1 => i < ρ1.length ∧ v { nx := fun ρ2 => D.nx (ρ2.set i .un), rt := D.rt, bk := fun ρ2 => D.bk (ρ2.set i .un), ct := fun ρ2 => D.ct (ρ2.set i .un) } (ρ1.set i .un)) D ρ := Iff.rfl
theorem e_callX {F : FnE} {n : Nat} {Z : En → Prop} : dCallX F n Z as ρ Q ↔ as ρ fun ss ρ1 => ss.length = n ∧ F ss (fun s => Q s ρ1) (Z ρ1) := Iff.rfl
theorem e_callKX {F : FnE} {n : Nat} {gS : List S → List S} {Z : En → Prop} : dCallKX F n gS Z as ρ Q ↔ as ρ fun ss ρ1 => (gS ss).length = n ∧ F (gS ss) (fun s => Q s ρ1) (Z ρ1) := Iff.rfl
theorem e_notTu {Q : S → En → Prop} : dNotTu t ρ Q ↔ t ρ fun s ρ1 => ∃ xs, s = .d (.tuple xs) ∧ Q (.d (.bool xs.isEmpty)) ρ1 := Iff.rfl
end
end GB

namespace GK
open PySem PySem.Spec PyProof.Rows L2 GB

/-! small data -/
structure Sm (D W : Nat) (x : PyData) : Prop where
  sh : x.showable = true
  ls : x.leavesShort 40 = true
  dp : x.depth ≤ D
  bk : x.bulk ≤ W
theorem Sm.mono {D W D' W' : Nat} {x : PyData} (h : Sm D W x) (h1 : D ≤ D') (h2 : W ≤ W') : Sm D' W' x := ⟨h.sh, h.ls, Nat.le_trans h.dp h1, Nat.le_trans h.bk h2⟩
theorem Sm.fits {D W : Nat} {x : PyData} (h : Sm D W x) (hw : W ≤ 300000) : x.shown.length ≤ sizeLine := by
  have q := PyData.shown_le_bulk 40 (by decide) x h.ls
  have := h.bk
  have e : sizeLine = 16777216 := by decide
  rw [e]; omega
theorem sm_all {D W : Nat} : ∀ {xs : List PyData}, (∀ x ∈ xs, Sm D W x) → PyData.showableAll xs = true ∧ PyData.leavesShortAll 40 xs = true ∧ PyData.depthAll xs ≤ D ∧ PyData.bulkAll xs ≤ xs.length * (W + 1)
  | [], _ => ⟨rfl, rfl, by simp [PyData.depthAll], by simp [PyData.bulkAll]⟩
  | x :: xs, h => by
    have h0 := h x (by simp)
    obtain ⟨h1, h2, h3, h4⟩ := sm_all (xs := xs) fun y hy => h y (by simp [hy])
    refine ⟨by simp [PyData.showableAll, h0.sh, h1], by simp [PyData.leavesShortAll, h0.ls, h2], ?_, ?_⟩
    · have := h0.dp; simp only [PyData.depthAll]; omega
    · have := h0.bk
      simp only [PyData.bulkAll, List.length_cons]
      have e : (xs.length + 1) * (W + 1) = xs.length * (W + 1) + (W + 1) := by rw [Nat.add_mul, Nat.one_mul]
      rw [e]; omega
theorem sm_tup {D W n : Nat} {xs : List PyData} (h : ∀ x ∈ xs, Sm D W x) (hn : xs.length ≤ n) : Sm (D + 1) (n * (W + 1)) (.tuple xs) := by
  obtain ⟨h1, h2, h3, h4⟩ := sm_all h
  refine ⟨by simpa [PyData.showable] using h1, by simpa [PyData.leavesShort] using h2, by simp only [PyData.depth]; omega, ?_⟩
  simp only [PyData.bulk]
  exact Nat.le_trans h4 (Nat.mul_le_mul_right _ hn)
theorem sm_lst {D W n : Nat} {xs : List PyData} (h : ∀ x ∈ xs, Sm D W x) (hn : xs.length ≤ n) : Sm (D + 1) (n * (W + 1)) (.list xs) := by
  obtain ⟨h1, h2, h3, h4⟩ := sm_all h
  refine ⟨by simpa [PyData.showable] using h1, by simpa [PyData.leavesShort] using h2, by simp only [PyData.depth]; omega, ?_⟩
  simp only [PyData.bulk]
  exact Nat.le_trans h4 (Nat.mul_le_mul_right _ hn)
def smB (D W : Nat) (x : PyData) : Bool := x.showable && x.leavesShort 40 && decide (x.depth ≤ D) && decide (x.bulk ≤ W)
theorem sm_of {D W : Nat} {x : PyData} (h : smB D W x = true) : Sm D W x := by
  simp only [smB, Bool.and_eq_true, decide_eq_true_eq] at h
  exact ⟨h.1.1.1, h.1.1.2, h.1.2, h.2⟩
/-- rows, counted together -/
structure SmL (D W : Nat) (xs : List PyData) : Prop where
  sh : PyData.showableAll xs = true
  ls : PyData.leavesShortAll 40 xs = true
  dp : PyData.depthAll xs ≤ D
  bk : PyData.bulkAll xs ≤ W
theorem sml_tup {D W : Nat} {xs : List PyData} (h : SmL D W xs) : Sm (D + 1) W (.tuple xs) :=
  ⟨by simpa [PyData.showable] using h.sh, by simpa [PyData.leavesShort] using h.ls, by have := h.dp; simp only [PyData.depth]; omega, by simpa only [PyData.bulk] using h.bk⟩
theorem sml_lst {D W : Nat} {xs : List PyData} (h : SmL D W xs) : Sm (D + 1) W (.list xs) :=
  ⟨by simpa [PyData.showable] using h.sh, by simpa [PyData.leavesShort] using h.ls, by have := h.dp; simp only [PyData.depth]; omega, by simpa only [PyData.bulk] using h.bk⟩
theorem tup_sml {D W : Nat} {xs : List PyData} (h : Sm D W (.tuple xs)) : SmL D W xs :=
  ⟨by simpa [PyData.showable] using h.sh, by simpa [PyData.leavesShort] using h.ls, by have := h.dp; simp only [PyData.depth] at this; omega, by simpa only [PyData.bulk] using h.bk⟩
theorem sml_nil {D W : Nat} : SmL D W [] := ⟨rfl, rfl, by simp [PyData.depthAll], by simp [PyData.bulkAll]⟩
theorem sml_cons {D W1 W2 W : Nat} {x : PyData} {xs : List PyData} (h : Sm D W1 x) (k : SmL D W2 xs) (hw : W1 + 1 + W2 ≤ W) : SmL D W (x :: xs) :=
  ⟨by simp [PyData.showableAll, h.sh, k.sh], by simp [PyData.leavesShortAll, h.ls, k.ls], by have := h.dp; have := k.dp; simp only [PyData.depthAll]; omega, by have := h.bk; have := k.bk; simp only [PyData.bulkAll]; omega⟩
theorem sml_un {D W : Nat} {x : PyData} {xs : List PyData} (h : SmL D W (x :: xs)) : Sm D W x ∧ SmL D W xs := by
  obtain ⟨h1, h2, h3, h4⟩ := h
  simp only [PyData.showableAll, PyData.leavesShortAll, PyData.depthAll, PyData.bulkAll, Bool.and_eq_true] at h1 h2 h3 h4
  exact ⟨⟨h1.1, h2.1, by omega, by omega⟩, ⟨h1.2, h2.2, by omega, by omega⟩⟩
theorem sml_mem {D W : Nat} : ∀ {xs : List PyData}, SmL D W xs → ∀ x ∈ xs, Sm D W x
  | [], _, _, hx => nomatch hx
  | y :: ys, h, x, hx => by
    obtain ⟨h1, h2⟩ := sml_un h
    rcases List.mem_cons.mp hx with rfl | hx
    · exact h1
    · exact sml_mem h2 x hx
theorem SmL.mono {D W D' W' : Nat} {xs : List PyData} (h : SmL D W xs) (h1 : D ≤ D') (h2 : W ≤ W') : SmL D' W' xs := ⟨h.sh, h.ls, Nat.le_trans h.dp h1, Nat.le_trans h.bk h2⟩
theorem bulk_app : ∀ (xs ys : List PyData), PyData.bulkAll (xs ++ ys) = PyData.bulkAll xs + PyData.bulkAll ys
  | [], ys => by simp [PyData.bulkAll]
  | x :: xs, ys => by simp only [List.cons_append, PyData.bulkAll, bulk_app xs ys]; omega
theorem sml_app {D W1 W2 W : Nat} {xs ys : List PyData} (h : SmL D W1 xs) (k : SmL D W2 ys) (hw : W1 + W2 ≤ W) : SmL D W (xs ++ ys) := by
  refine ⟨?_, ?_, ?_, by rw [bulk_app]; have := h.bk; have := k.bk; omega⟩
  · have h1 := h.sh
    have h2 := k.sh
    clear h k
    induction xs with
    | nil => exact h2
    | cons x xs ih =>
      simp only [PyData.showableAll, Bool.and_eq_true] at h1
      simp [PyData.showableAll, h1.1, ih h1.2]
  · have h1 := h.ls
    have h2 := k.ls
    clear h k
    induction xs with
    | nil => exact h2
    | cons x xs ih =>
      simp only [PyData.leavesShortAll, Bool.and_eq_true] at h1
      simp [PyData.leavesShortAll, h1.1, ih h1.2]
  · have h1 := h.dp
    have h2 := k.dp
    clear h k
    induction xs with
    | nil => exact h2
    | cons x xs ih =>
      simp only [List.cons_append, PyData.depthAll] at h1 ⊢
      have := ih (by omega)
      omega
theorem sml_drop {D W : Nat} : ∀ {xs : List PyData} (n : Nat), SmL D W xs → SmL D W (xs.drop n)
  | xs, 0, h => h
  | [], _ + 1, h => h
  | x :: xs, n + 1, h => sml_drop n (sml_un h).2
theorem sml_take {D W : Nat} : ∀ {xs : List PyData} (n : Nat), SmL D W xs → SmL D W (xs.take n)
  | xs, 0, h => sml_nil
  | [], _ + 1, h => h
  | x :: xs, n + 1, h => by
    obtain ⟨h1, h2⟩ := sml_un h
    have hb := h.bk
    simp only [PyData.bulkAll] at hb
    have h3 : SmL D (PyData.bulkAll xs) xs := ⟨h2.sh, h2.ls, h2.dp, Nat.le_refl _⟩
    exact sml_cons (W1 := x.bulk) ⟨h1.sh, h1.ls, h1.dp, Nat.le_refl _⟩ (sml_take n h3) (by omega)
theorem sml_cut {D W : Nat} {xs : List PyData} {a b : Option Int} (h : SmL D W xs) : SmL D W (GB.cutD xs a b) := sml_take _ (sml_drop _ h)
/-! books -/
def isTup (l m : Int) : PyData → Bool
  | .tuple xs => decide (l ≤ xs.length ∧ (xs.length : Int) ≤ m)
  | _ => false
def tripB : PyData → Bool
  | .tuple [.tuple [_, _, _], .tuple [_, _, _]] => true
  | _ => false
def formB : PyData → Bool
  | .tuple [w, r, m, _, _] => tripB w && (tripB r && isTup 2 2 m)
  | _ => false
def GRD : List PyData := [.tuple [], .tuple [.str "again"], .tuple [.str "again", .str "new"], .tuple [.str "again", .str "new", .str "old"], .tuple [.str "again", .str "old"], .tuple [.str "new"], .tuple [.str "new", .str "old"], .tuple [.str "old"]]
def MDE : List PyData := [.str "white", .str "grey", .str "black"]
def grdB (x : PyData) : Bool := GRD.any fun z => PyData.eqv z x
def mdB (x : PyData) : Bool := MDE.any fun z => PyData.eqv z x
def firstBad : List (Bool × PyData) → PyData
  | [] => .none
  | (b, e) :: r => if b = true then firstBad r else e
def eW (p c : Int) : PyData := .tuple [.str "write", .int p, .int c]
def eR (p c : Int) : PyData := .tuple [.str "read", .int p, .int c]
def eM (p : Int) : PyData := .tuple [.str "make", .int p]
def checks (a b c d e f g h i j k l m n la pi : PyData) : List (Bool × PyData) :=
  [(grdB a, eW 0 0), (grdB b, eW 0 1), (grdB c, eW 0 2), (grdB d, eW 1 0), (grdB e, eW 1 1), (grdB f, eW 1 2),
   (kBool g, eR 0 0), (kBool h, eR 0 1), (kBool i, eR 0 2), (kBool j, eR 1 0), (kBool k, eR 1 1), (kBool l, eR 1 2), (mdB m, eM 0), (mdB n, eM 1), (kBool la, .str "last"), (kBool pi, .str "pieces")]
def bf : PyData → PyData
  | .tuple [.tuple [.tuple [a, b, c], .tuple [d, e, f]], .tuple [.tuple [g, h, i], .tuple [j, k, l]], .tuple [m, n], la, pi] => firstBad (checks a b c d e f g h i j k l m n la pi)
  | _ => .str "form"
/-! entries -/
inductive En where
  | last
  | make (p : Nat)
  | read (p c : Nat)
  | write (p c : Nat) (w : Str)
  deriving DecidableEq
def En.d : En → PyData
  | .last => .tuple [.str "last"]
  | .make p => .tuple [.str "make", .int p]
  | .read p c => .tuple [.str "read", .int p, .int c]
  | .write p c w => .tuple [.str "write", .int p, .int c, .str w]
def En.pl : En → List Nat
  | .last => [3]
  | .make p => [2, p]
  | .read p c => [1, p, c]
  | .write p c _ => [0, p, c]
def ENS : List En := [.last, .make 0, .make 1, .read 0 0, .read 0 1, .read 0 2, .read 1 0, .read 1 1, .read 1 2, .write 0 0 "again", .write 0 0 "new", .write 0 0 "old", .write 0 1 "again", .write 0 1 "new", .write 0 1 "old", .write 0 2 "again", .write 0 2 "new", .write 0 2 "old", .write 1 0 "again", .write 1 0 "new", .write 1 0 "old", .write 1 1 "again", .write 1 1 "new", .write 1 1 "old", .write 1 2 "again", .write 1 2 "new", .write 1 2 "old"]
def nD (n : Nat) : PyData := .int n
def itemAt : PyData → List Nat → Option PyData
  | x, [] => some x
  | .tuple xs, n :: ns => match xs[n]? with
    | some y => itemAt y ns
    | none => none
  | _, _ :: _ => none
def hasV : En → PyData → Option Bool
  | .write _ _ w, .tuple gs => inD (.str w) (.tuple gs)
  | .make _, .str z => if eqOk (.str z) (.str "white") = true then some (!PyData.eqv (.str z) (.str "white")) else none
  | .read _ _, .bool b => some b
  | .last, .bool b => some b
  | _, _ => none
def hasE (b : PyData) (e : En) : Option Bool := match itemAt b e.pl with
  | some x => hasV e x
  | none => none
def rep : PyData → List Nat → PyData → Option PyData
  | _, [], it => some it
  | .tuple xs, n :: ns, it => match xs[n]? with
    | some y => match rep y ns it with
      | some z => if xs.length ≤ 1000 then some (.tuple (xs.take n ++ [z] ++ xs.drop (n + 1))) else none
      | none => none
    | none => none
  | _, _ :: _, _ => none
def WE (b : PyData) (e : En) (y : PyData) : Prop := (hasE b e = some true ∧ y = b) ∨ (hasE b e = some false ∧ match e with
  | .write p c w => ∃ ss tt : List Str, itemAt b [0, p, c] = some (.tuple (ss.map .str)) ∧ ss.length ≤ 1000 ∧ tt.Perm (ss ++ [w]) ∧ tt.Pairwise strLe ∧ rep b [0, p, c] (.tuple (tt.map .str)) = some y
  | .make p => rep b [2, p] (.str "black") = some y
  | .read p c => rep b [1, p, c] (.bool true) = some y
  | .last => rep b [3] (.bool true) = some y)
def WO (b : PyData) (e : En) (y : PyData) : Prop := match e with
  | .write p c w => ∃ ss : List Str, itemAt b [0, p, c] = some (.tuple (ss.map .str)) ∧ ss.length ≤ 1000 ∧ rep b [0, p, c] (.tuple ((ss.filter fun z => !PyData.eqv (.str z) (.str w)).map .str)) = some y ∧ (∀ z ∈ ss, eqOk (.str z) (.str w) = true)
  | .make p => rep b [2, p] (.str "white") = some y
  | .read p c => rep b [1, p, c] (.bool false) = some y
  | .last => rep b [3] (.bool false) = some y
def entD (b : PyData) : List PyData := (ENS.filter fun e => hasE b e == some true).map En.d
/-! books -/
structure Bo where
  g : Nat → Nat → Str → Bool
  r : Nat → Nat → Bool
  m : Nat → Str
  l : Bool
  p : Bool
def Bo.has (b : Bo) : En → Bool
  | .last => b.l
  | .make q => !(b.m q == "white")
  | .read p c => b.r p c
  | .write p c w => b.g p c w
def gL (f : Str → Bool) : List Str := (["again", "new", "old"] : List Str).filter f
def gdD (f : Str → Bool) : PyData := .tuple ((gL f).map .str)
def Bo.d (b : Bo) : PyData :=
  .tuple [.tuple [.tuple [gdD (b.g 0 0), gdD (b.g 0 1), gdD (b.g 0 2)], .tuple [gdD (b.g 1 0), gdD (b.g 1 1), gdD (b.g 1 2)]], .tuple [.tuple [.bool (b.r 0 0), .bool (b.r 0 1), .bool (b.r 0 2)], .tuple [.bool (b.r 1 0), .bool (b.r 1 1), .bool (b.r 1 2)]], .tuple [.str (b.m 0), .str (b.m 1)], .bool b.l, .bool b.p]
def Bo.tu (b : Bo) (e : En) (v : Bool) : Bo := match e with
  | .last => { b with l := v }
  | .make q => { b with m := fun q' => if q' = q then (if v = true then (if b.m q = "white" then "black" else b.m q) else "white") else b.m q' }
  | .read p c => { b with r := fun p' c' => if p' = p ∧ c' = c then v else b.r p' c' }
  | .write p c w => { b with g := fun p' c' w' => if p' = p ∧ c' = c ∧ w' = w then v else b.g p' c' w' }
def OkB (b : Bo) : Prop := ∀ q, b.m q = "white" ∨ b.m q = "grey" ∨ b.m q = "black"
end GK

set_option maxRecDepth 20000
namespace GK
open PySem PySem.Spec PyProof.Rows L2 GB
theorem line_ge {n : Nat} (h : n ≤ 1000000) : n ≤ sizeLine := Nat.le_trans h (by decide)
theorem all_of {p : PyData → Bool} {xs : List PyData} (h : xs.all p = true) : ∀ x ∈ xs, p x = true := List.all_eq_true.mp h
theorem rows_lay : ∀ {xs : List PyData}, (∀ x ∈ xs, x.canLay0 = true ∧ x.depth ≤ 20) → PyData.canLayAll0 xs = true ∧ PyData.depthAll xs ≤ 20
  | [], _ => ⟨rfl, by simp [PyData.depthAll]⟩
  | x :: xs, h => by
    obtain ⟨a, b⟩ := h x (by simp)
    obtain ⟨c, d⟩ := rows_lay (xs := xs) fun y hy => h y (by simp [hy])
    refine ⟨by simp [PyData.canLayAll0, a, c], by simp only [PyData.depthAll]; omega⟩
theorem shp_list {xs : List PyData} (h : ∀ x ∈ xs, x.canLay0 = true ∧ x.depth ≤ 20) : SeqAt.shaped (.list xs) = true := by
  obtain ⟨a, b⟩ := rows_lay h
  simp [SeqAt.shaped, PyData.canLay0, PyData.depth, a]; omega
theorem shp_tup {xs : List PyData} (h : ∀ x ∈ xs, x.canLay0 = true ∧ x.depth ≤ 20) : SeqAt.shaped (.tuple xs) = true := by
  obtain ⟨a, b⟩ := rows_lay h
  simp [SeqAt.shaped, PyData.canLay0, PyData.depth, a]; omega
theorem list_eqOk {xs ys : List PyData} (h : ∀ x ∈ xs, x.canLay0 = true ∧ x.depth ≤ 20) (h' : ∀ x ∈ ys, x.canLay0 = true ∧ x.depth ≤ 20) : eqOk (.list xs) (.list ys) = true := by
  show (SeqAt.shaped (.list xs) && SeqAt.shaped (.list ys)) = true
  rw [shp_list h, shp_list h']; rfl
theorem irow2 : irow 0 (Int.toNat 2) = [.int 0, .int 1] := rfl
theorem irow3 : irow 0 (Int.toNat 3) = [.int 0, .int 1, .int 2] := rfl
theorem at_n {xs : List PyData} {n : Nat} {v : PyData} (h : xs[n]? = some v) : atI xs (n : Int) = some v := by
  have hl : n < xs.length := (List.getElem?_eq_some_iff.mp h).1
  unfold atI ixN
  rw [if_pos (by omega), if_pos (by omega)]
  simpa using h
theorem ixn {xs : List PyData} {m : Int} {v : PyData} {p : PyData → Prop} (e : atI xs m = some v) : (∃ v, atI xs m = some v ∧ p v) ↔ p v := ⟨fun ⟨_, e', h⟩ => by rw [e] at e'; cases e'; exact h, fun h => ⟨_, e, h⟩⟩
theorem ix0 {a : PyData} {r : List PyData} {p : PyData → Prop} : (∃ v, atI (a :: r) 0 = some v ∧ p v) ↔ p a := ixn (at_n (n := 0) rfl)
theorem ix1 {a b : PyData} {r : List PyData} {p : PyData → Prop} : (∃ v, atI (a :: b :: r) 1 = some v ∧ p v) ↔ p b := ixn (at_n (n := 1) rfl)
theorem ix2 {a b c : PyData} {r : List PyData} {p : PyData → Prop} : (∃ v, atI (a :: b :: c :: r) 2 = some v ∧ p v) ↔ p c := ixn (at_n (n := 2) rfl)
theorem ix3 {a b c d : PyData} {r : List PyData} {p : PyData → Prop} : (∃ v, atI (a :: b :: c :: d :: r) 3 = some v ∧ p v) ↔ p d := ixn (at_n (n := 3) rfl)
theorem ix4 {a b c d f : PyData} {r : List PyData} {p : PyData → Prop} : (∃ v, atI (a :: b :: c :: d :: f :: r) 4 = some v ∧ p v) ↔ p f := ixn (at_n (n := 4) rfl)
theorem t2 : ((2 : Int) < 2 ^ 60) = True := eq_true (by decide)
theorem t2' : (-2 ^ 60 < (2 : Int)) = True := eq_true (by decide)
theorem t3 : ((3 : Int) < 2 ^ 60) = True := eq_true (by decide)
theorem t3' : (-2 ^ 60 < (3 : Int)) = True := eq_true (by decide)
theorem z2 : (2 ≤ sizeLine) = True := eq_true (by decide)
theorem z3 : (3 ≤ sizeLine) = True := eq_true (by decide)
theorem pick_perm {α : Type} : ∀ (l : List α) (i : Nat) (h : i < l.length), (l[i] :: l.eraseIdx i).Perm l
  | [], _, h => nomatch h
  | a :: r, 0, _ => List.Perm.refl _
  | a :: r, i + 1, h => (List.Perm.swap a (r[i]'(by simpa using h)) (r.eraseIdx i)).trans ((pick_perm r i (by simpa using h)).cons a)
theorem exl {α : Type} {a : List PyData} {p : List PyData → Prop} : (∃ zs, PyData.list a = PyData.list zs ∧ p zs) ↔ p a := ⟨fun ⟨_, e, h⟩ => by cases e; exact h, fun h => ⟨_, rfl, h⟩⟩
theorem at_nd {xs : List PyData} {n : Nat} {v : PyData} (h : xs[n]? = some v) : ∃ i, nD n = .int i ∧ atI xs i = some v := ⟨n, rfl, at_n h⟩
theorem item_cons {x y : PyData} {n : Nat} {ns : List Nat} (h : itemAt x (n :: ns) = some y) : ∃ xs v, x = .tuple xs ∧ xs[n]? = some v ∧ itemAt v ns = some y := by
  cases x with
  | tuple xs =>
    unfold itemAt at h
    split at h
    · rename_i v e; exact ⟨xs, v, rfl, e, h⟩
    · cases h
  | _ => cases h
theorem rep_cons {x y it : PyData} {n : Nat} {ns : List Nat} (h : rep x (n :: ns) it = some y) : ∃ xs v z, x = .tuple xs ∧ xs[n]? = some v ∧ rep v ns it = some z ∧ xs.length ≤ 1000 ∧ y = .tuple (xs.take n ++ [z] ++ xs.drop (n + 1)) := by
  cases x with
  | tuple xs =>
    unfold rep at h
    split at h
    · rename_i v e
      split at h
      · rename_i z e2
        split at h
        · rename_i hl; cases h; exact ⟨xs, v, z, rfl, e, e2, hl, rfl⟩
        · cases h
      · cases h
    · cases h
  | _ => cases h
theorem cut_w {a b c d : PyData} : GB.cutD [a, b, c, d] (some 1) (some 3) = [b, c] := rfl
theorem cut_r {a b c : PyData} : GB.cutD [a, b, c] (some 1) (some 3) = [b, c] := rfl
theorem cut_m {a b : PyData} : GB.cutD [a, b] (some 1) (some 3) = [b] := rfl
theorem cut_l {a : PyData} : GB.cutD [a] (some 1) (some 3) = [] := rfl
theorem en_inj {e e' : En} (h : e.d = e'.d) : e = e' := by
  cases e <;> cases e' <;> simp only [En.d, PyData.tuple.injEq, List.cons.injEq, PyData.str.injEq, PyData.int.injEq, and_true, true_and, reduceCtorEq, and_false, false_and] at h
  all_goals first
    | rfl
    | exact absurd h (by decide +kernel)
    | exact absurd h.1 (by decide +kernel)
    | (have : ∀ a b : Nat, (a : Int) = (b : Int) → a = b := fun a b => by omega
       first
         | (obtain ⟨h1, h2, h3⟩ := h; rw [this _ _ h1, this _ _ h2, h3])
         | (obtain ⟨h1, h2⟩ := h; rw [this _ _ h1, this _ _ h2])
         | rw [this _ _ h])
theorem has_of {b : PyData} {e : En} {v : Bool} (h : hasE b e = some v) : ∃ it, itemAt b e.pl = some it ∧ hasV e it = some v := by
  unfold hasE at h
  split at h
  · rename_i x h1; exact ⟨x, h1, h⟩
  · cases h
theorem ev1 : PyData.eqv (.str "write") (.str "write") = true := by decide +kernel
theorem ev2 : PyData.eqv (.str "make") (.str "write") = false := by decide +kernel
theorem ev3 : PyData.eqv (.str "read") (.str "write") = false := by decide +kernel
theorem ev4 : PyData.eqv (.str "last") (.str "write") = false := by decide +kernel
theorem ev5 : PyData.eqv (.str "make") (.str "make") = true := by decide +kernel
theorem ev6 : PyData.eqv (.str "read") (.str "make") = false := by decide +kernel
theorem ev7 : PyData.eqv (.str "last") (.str "make") = false := by decide +kernel
theorem ev8 : PyData.eqv (.str "read") (.str "read") = true := by decide +kernel
theorem ev9 : PyData.eqv (.str "last") (.str "read") = false := by decide +kernel
theorem ev10 : PyData.eqv (.str "make") (.str "read") = false := by decide +kernel
theorem hv_w {p c : Nat} {w : Str} {it : PyData} {v : Bool} (h : hasV (.write p c w) it = some v) : ∃ gs, it = .tuple gs ∧ inD (.str w) (.tuple gs) = some v := by
  cases it with
  | tuple gs => exact ⟨gs, rfl, h⟩
  | _ => exact absurd h (by simp [hasV])
theorem hv_m {p : Nat} {it : PyData} {v : Bool} (h : hasV (.make p) it = some v) : ∃ z, it = .str z ∧ eqOk (.str z) (.str "white") = true ∧ v = !PyData.eqv (.str z) (.str "white") := by
  cases it with
  | str z =>
    have h : (if eqOk (.str z) (.str "white") = true then some (!PyData.eqv (.str z) (.str "white")) else none) = some v := h
    split at h
    · rename_i h1; cases h; exact ⟨z, rfl, h1, rfl⟩
    · cases h
  | _ => cases h
theorem hv_r {p c : Nat} {it : PyData} {v : Bool} (h : hasV (.read p c) it = some v) : it = .bool v := by
  cases it with
  | bool b => cases h; rfl
  | _ => cases h
theorem hv_l {it : PyData} {v : Bool} (h : hasV .last it = some v) : it = .bool v := by
  cases it with
  | bool b => cases h; rfl
  | _ => cases h
theorem o1 {x : PyData} {f : PyData → Prop} (h : f x) : oneK (.d x) f := by
  first
    | exact h
    | exact ⟨_, rfl, h⟩
theorem fx {xs : List PyData} {n : Nat} {v : PyData} {k : S → Prop} (e : xs[n]? = some v) (h : k (.d v)) : fIx (.tuple xs) (.int n) k := ⟨_, rfl, v, at_n e, h⟩
theorem nd_inj : ∀ {a b : List Nat}, a.map nD = b.map nD → a = b
  | [], [], _ => rfl
  | [], _ :: _, h => by cases h
  | _ :: _, [], h => by cases h
  | u :: us, v :: vs, h => by
    simp only [List.map_cons, List.cons.injEq, nD, PyData.int.injEq] at h
    have e1 : u = v := by omega
    have e2 : us = vs := nd_inj h.2
    rw [e1, e2]
theorem nD_app {n : Nat} : nD n = .int n := rfl
theorem cutD_from {α : Type} (xs : List α) (n : Nat) : GB.cutD xs (some (n : Int)) none = xs.drop n := by
  unfold GB.cutD
  rw [HT.sIx_nat]
  show (xs.drop (min n xs.length)).take (xs.length - min n xs.length) = _
  have e : xs.drop (min n xs.length) = xs.drop n := by
    by_cases h : n ≤ xs.length
    · rw [Nat.min_eq_left h]
    · rw [Nat.min_eq_right (by omega), List.drop_length, List.drop_eq_nil_of_le (by omega)]
  rw [e, List.take_of_length_le (by rw [List.length_drop]; omega)]
theorem cut_tail {x : PyData} {xs : List PyData} : GB.cutD (x :: xs) (some 1) none = xs := by
  have := cutD_from (x :: xs) 1
  exact this
theorem tuE {ys : List PyData} {p : List PyData → Prop} : (∃ xs, S.d (.tuple ys) = S.d (.tuple xs) ∧ p xs) ↔ p ys := ⟨fun ⟨_, e, h⟩ => by cases e; exact h, fun h => ⟨_, rfl, h⟩⟩
theorem dcE {d : List (Str × Int)} {a : Str} {p : Int → Prop} : (∃ z n, S.d (.str a) = S.d (.str z) ∧ d.lookup z = some n ∧ p n) ↔ ∃ n, d.lookup a = some n ∧ p n := ⟨fun ⟨_, n, e, h⟩ => by cases e; exact ⟨n, h⟩, fun ⟨n, h⟩ => ⟨_, n, rfl, h⟩⟩
theorem ent_step {b : PyData} {e : En} {es : List En} {acc : List PyData} {T : List PyData} {v : Bool} (h : acc ++ ((e :: es).filter fun e => hasE b e == some true).map En.d = T) (hv : hasE b e = some v) :
    (v = true → (acc ++ [e.d]) ++ (es.filter fun e => hasE b e == some true).map En.d = T) ∧ (v = false → acc ++ (es.filter fun e => hasE b e == some true).map En.d = T) := by
  constructor
  · rintro rfl
    rw [List.filter_cons, hv] at h
    rw [← h]
    simp
  · rintro rfl
    rw [List.filter_cons, hv] at h
    rw [← h]
    simp
/-! guards -/
theorem eqv_s {z w : Str} : PyData.eqv (.str z) (.str w) = (z == w) := by
  simp [PyData.eqv]
theorem gL_sub (f : Str → Bool) : (gL f).Pairwise strLe := List.Pairwise.sublist List.filter_sublist (by decide +kernel)
theorem gL_len (f : Str → Bool) : (gL f).length ≤ 3 := Nat.le_trans (List.length_filter_le _ _) (by decide)
theorem gL_off (f : Str → Bool) (w : Str) : (gL f).filter (fun z => !PyData.eqv (.str z) (.str w)) = gL fun z => if z = w then false else f z := by
  unfold gL
  rw [List.filter_filter]
  refine List.filter_congr fun z _ => ?_
  rw [eqv_s]
  by_cases h : z = w
  · simp [h]
  · simp [h]
def WD3 (w : Str) : Prop := w = "again" ∨ w = "new" ∨ w = "old"
theorem gL_bits (f : Str → Bool) : gL f = (if f "again" = true then ([("again" : Str)] : List Str) else []) ++ ((if f "new" = true then ([("new" : Str)] : List Str) else []) ++ (if f "old" = true then ([("old" : Str)] : List Str) else [])) := by
  unfold gL
  simp only [List.filter_cons, List.filter_nil]
  cases f "again" <;> cases f "new" <;> cases f "old" <;> rfl
theorem nan : ("new" : Str) = "again" ↔ False := iff_of_false (by decide +kernel) id
theorem noan : ("old" : Str) = "again" ↔ False := iff_of_false (by decide +kernel) id
theorem nna : ("again" : Str) = "new" ↔ False := iff_of_false (by decide +kernel) id
theorem noo : ("again" : Str) = "old" ↔ False := iff_of_false (by decide +kernel) id
theorem nno : ("new" : Str) = "old" ↔ False := iff_of_false (by decide +kernel) id
theorem non' : ("old" : Str) = "new" ↔ False := iff_of_false (by decide +kernel) id
theorem gL_put (f : Str → Bool) {w : Str} (hw : WD3 w) (h : f w = false) : (gL fun z => if z = w then true else f z).Perm (gL f ++ [w]) := by
  rw [gL_bits, gL_bits f]
  rcases hw with rfl | rfl | rfl
  · simp only [nan, noan, if_true, if_false, h]
    cases f "new" <;> cases f "old" <;> decide +kernel
  · simp only [nna, non', if_true, if_false, h]
    cases f "again" <;> cases f "old" <;> decide +kernel
  · simp only [noo, nno, if_true, if_false, h]
    cases f "again" <;> cases f "new" <;> decide +kernel
theorem gL_has (f : Str → Bool) {w : Str} (hw : WD3 w) : inD (.str w) (gdD f) = some (f w) := by
  unfold gdD
  rw [gL_bits]
  rcases hw with rfl | rfl | rfl <;> cases f "again" <;> cases f "new" <;> cases f "old" <;> decide +kernel
theorem gL_lay (f : Str → Bool) {w : Str} (hw : WD3 w) : ∀ z ∈ gL f, eqOk (.str z) (.str w) = true := by
  intro z hz
  have hz : z ∈ (["again", "new", "old"] : List Str) := (List.mem_filter.mp hz).1
  simp only [List.mem_cons, List.not_mem_nil, or_false] at hz
  rcases hz with rfl | rfl | rfl <;> rcases hw with rfl | rfl | rfl <;> decide +kernel
/-! entries of a book -/
theorem m_ok {z : Str} (h : z = "white" ∨ z = "grey" ∨ z = "black") : hasV (.make 0) (.str z) = some (!(z == "white")) := by
  rcases h with rfl | rfl | rfl <;> decide +kernel
theorem ens_cases {P : En → Prop} (h1 : P .last) (h2 : ∀ q, q < 2 → P (.make q)) (h3 : ∀ p c, p < 2 → c < 3 → P (.read p c)) (h4 : ∀ p c w, p < 2 → c < 3 → WD3 w → P (.write p c w)) : ∀ e ∈ ENS, P e := by
  intro e he
  simp only [ENS, List.mem_cons, List.not_mem_nil, or_false] at he
  rcases he with rfl | rfl | rfl | rfl | rfl | rfl | rfl | rfl | rfl | rfl | rfl | rfl | rfl | rfl | rfl | rfl | rfl | rfl | rfl | rfl | rfl | rfl | rfl | rfl | rfl | rfl | rfl
  · exact h1
  · exact h2 0 (by decide)
  · exact h2 1 (by decide)
  · exact h3 0 0 (by decide) (by decide)
  · exact h3 0 1 (by decide) (by decide)
  · exact h3 0 2 (by decide) (by decide)
  · exact h3 1 0 (by decide) (by decide)
  · exact h3 1 1 (by decide) (by decide)
  · exact h3 1 2 (by decide) (by decide)
  · exact h4 0 0 _ (by decide) (by decide) (.inl rfl)
  · exact h4 0 0 _ (by decide) (by decide) (.inr (.inl rfl))
  · exact h4 0 0 _ (by decide) (by decide) (.inr (.inr rfl))
  · exact h4 0 1 _ (by decide) (by decide) (.inl rfl)
  · exact h4 0 1 _ (by decide) (by decide) (.inr (.inl rfl))
  · exact h4 0 1 _ (by decide) (by decide) (.inr (.inr rfl))
  · exact h4 0 2 _ (by decide) (by decide) (.inl rfl)
  · exact h4 0 2 _ (by decide) (by decide) (.inr (.inl rfl))
  · exact h4 0 2 _ (by decide) (by decide) (.inr (.inr rfl))
  · exact h4 1 0 _ (by decide) (by decide) (.inl rfl)
  · exact h4 1 0 _ (by decide) (by decide) (.inr (.inl rfl))
  · exact h4 1 0 _ (by decide) (by decide) (.inr (.inr rfl))
  · exact h4 1 1 _ (by decide) (by decide) (.inl rfl)
  · exact h4 1 1 _ (by decide) (by decide) (.inr (.inl rfl))
  · exact h4 1 1 _ (by decide) (by decide) (.inr (.inr rfl))
  · exact h4 1 2 _ (by decide) (by decide) (.inl rfl)
  · exact h4 1 2 _ (by decide) (by decide) (.inr (.inl rfl))
  · exact h4 1 2 _ (by decide) (by decide) (.inr (.inr rfl))
theorem two (q : Nat) (h : q < 2) : q = 0 ∨ q = 1 := by omega
theorem three (q : Nat) (h : q < 3) : q = 0 ∨ q = 1 ∨ q = 2 := by omega
theorem has_d (b : Bo) (ok : OkB b) : ∀ e ∈ ENS, hasE b.d e = some (b.has e) := by
  refine ens_cases rfl ?_ ?_ ?_
  · intro q hq
    rcases two q hq with rfl | rfl
    · exact m_ok (ok 0)
    · exact m_ok (ok 1)
  · intro p c hp hc
    rcases two p hp with rfl | rfl <;> rcases three c hc with rfl | rfl | rfl <;> rfl
  · intro p c w hp hc hw
    rcases two p hp with rfl | rfl <;> rcases three c hc with rfl | rfl | rfl <;> exact gL_has _ hw
theorem tu_same (b : Bo) (e : En) (v : Bool) (h : b.has e = v) : b.tu e v = b := by
  obtain ⟨g, r, m, l, p⟩ := b
  cases e with
  | last => simp only [Bo.has] at h; simp [Bo.tu, h]
  | make q =>
    simp only [Bo.has] at h
    simp only [Bo.tu, Bo.mk.injEq, true_and, and_true]
    funext q'
    by_cases e : q' = q
    · subst e
      rw [if_pos rfl]
      cases v with
      | true =>
        have : ¬ m q' = "white" := fun z => by rw [z] at h; exact absurd h (by decide +kernel)
        simp [this]
      | false =>
        have : m q' = "white" := by simpa using h
        simp [this]
    · rw [if_neg e]
  | read p' c =>
    simp only [Bo.has] at h
    simp only [Bo.tu, Bo.mk.injEq, true_and, and_true]
    funext a d
    by_cases e : a = p' ∧ d = c
    · rw [if_pos e, e.1, e.2, h]
    · rw [if_neg e]
  | write p' c w =>
    simp only [Bo.has] at h
    simp only [Bo.tu, Bo.mk.injEq, true_and, and_true]
    funext a d x
    by_cases e : a = p' ∧ d = c ∧ x = w
    · rw [if_pos e, e.1, e.2.1, e.2.2, h]
    · rw [if_neg e]
theorem ok_tu {b : Bo} (ok : OkB b) (e : En) (v : Bool) : OkB (b.tu e v) := by
  intro q
  cases e with
  | make q0 =>
    have key : (b.tu (.make q0) v).m q = "white" ∨ (b.tu (.make q0) v).m q = "black" ∨ (b.tu (.make q0) v).m q = b.m q0 ∨ (b.tu (.make q0) v).m q = b.m q := by
      by_cases h : q = q0 <;> by_cases hv : v = true <;> by_cases hw : b.m q0 = "white" <;> simp [Bo.tu, h, hv, hw]
    rcases key with e | e | e | e <;> rw [e]
    · exact .inl rfl
    · exact .inr (.inr rfl)
    · exact ok q0
    · exact ok q
  | _ => exact ok q
theorem we_b {b : Bo} (ok : OkB b) {e : En} (he : e ∈ ENS) : WE b.d e (b.tu e true).d := by
  have hd := has_d b ok e he
  cases hv : b.has e with
  | true => exact .inl ⟨by rw [hd, hv], by rw [tu_same b e true hv]⟩
  | false =>
    rw [hv] at hd
    refine ens_cases (P := fun e => b.has e = false → hasE b.d e = some false → WE b.d e (b.tu e true).d) ?_ ?_ ?_ ?_ e he hv hd
    · intro _ hd; exact .inr ⟨hd, rfl⟩
    · intro q hq h hd
      have hm : b.m q = "white" := by simpa [Bo.has] using h
      refine .inr ⟨hd, ?_⟩
      rcases two q hq with rfl | rfl
      · show some _ = some (Bo.d _)
        simp [Bo.tu, Bo.d, hm]
      · show some _ = some (Bo.d _)
        simp [Bo.tu, Bo.d, hm]
    · intro p c hp hc _ hd
      refine .inr ⟨hd, ?_⟩
      rcases two p hp with rfl | rfl <;> rcases three c hc with rfl | rfl | rfl <;> rfl
    · intro p c w hp hc hw h hd
      have e1 : (fun z => if p = p ∧ c = c ∧ z = w then true else b.g p c z) = fun z => if z = w then true else b.g p c z := by funext z; simp
      refine .inr ⟨hd, gL (b.g p c), gL fun z => if p = p ∧ c = c ∧ z = w then true else b.g p c z, ?_, Nat.le_trans (gL_len _) (by decide), by rw [e1]; exact gL_put _ hw h, gL_sub _, ?_⟩
      · rcases two p hp with rfl | rfl <;> rcases three c hc with rfl | rfl | rfl <;> rfl
      · rcases two p hp with rfl | rfl <;> rcases three c hc with rfl | rfl | rfl <;> rfl
theorem wo_b {b : Bo} {e : En} (he : e ∈ ENS) : WO b.d e (b.tu e false).d := by
  refine ens_cases (P := fun e => WO b.d e (b.tu e false).d) ?_ ?_ ?_ ?_ e he
  · rfl
  · intro q hq
    rcases two q hq with rfl | rfl <;> rfl
  · intro p c hp hc
    rcases two p hp with rfl | rfl <;> rcases three c hc with rfl | rfl | rfl <;> rfl
  · intro p c w hp hc hw
    have e1 : (fun z => if p = p ∧ c = c ∧ z = w then false else b.g p c z) = fun z => if z = w then false else b.g p c z := by funext z; simp
    refine ⟨gL (b.g p c), ?_, Nat.le_trans (gL_len _) (by decide), ?_, gL_lay _ hw⟩
    · rcases two p hp with rfl | rfl <;> rcases three c hc with rfl | rfl | rfl <;> rfl
    · rw [gL_off, ← e1]
      rcases two p hp with rfl | rfl <;> rcases three c hc with rfl | rfl | rfl <;> rfl
theorem strs_step {w z : Str} {zs : List Str} {acc T : List PyData} (h : acc ++ ((z :: zs).filter fun x => !PyData.eqv (.str x) (.str w)).map .str = T) :
    (PyData.eqv (.str z) (.str w) = true → acc ++ (zs.filter fun x => !PyData.eqv (.str x) (.str w)).map .str = T) ∧ (PyData.eqv (.str z) (.str w) = false → (acc ++ [PyData.str z]) ++ (zs.filter fun x => !PyData.eqv (.str x) (.str w)).map .str = T) := by
  constructor
  · intro e
    rw [List.filter_cons, e] at h
    rw [← h]; simp
  · intro e
    rw [List.filter_cons, e] at h
    rw [← h]; simp
theorem ev11 : PyData.eqv (.str "last") (.str "last") = true := by decide +kernel
theorem ev12 : PyData.eqv (.str "make") (.str "last") = false := by decide +kernel
theorem ev13 : PyData.eqv (.str "read") (.str "last") = false := by decide +kernel
theorem ev14 : PyData.eqv (.str "write") (.str "last") = false := by decide +kernel
theorem ev15 : PyData.eqv (.str "write") (.str "make") = false := by decide +kernel
theorem ev16 : PyData.eqv (.str "write") (.str "read") = false := by decide +kernel
theorem m_eqok {z : Str} (h : z = "white" ∨ z = "grey" ∨ z = "black") : eqOk (.str z) (.str "white") = true := by
  rcases h with rfl | rfl | rfl <;> decide +kernel
theorem m_eq {z : Str} (h : PyData.eqv (.str z) (.str "white") = true) : z = "white" := by
  rw [eqv_s] at h; exact eq_of_beq h
theorem m_ne {z : Str} (h : PyData.eqv (.str z) (.str "white") = false) : ¬ z = "white" := by
  rw [eqv_s] at h; intro e; rw [e] at h; exact absurd h (by decide +kernel)
theorem gL_on (f : Str → Bool) {w : Str} (hw : WD3 w) : (gL fun z => if z = w then true else f z).Perm ((gL f).filter (fun z => !PyData.eqv (.str z) (.str w)) ++ [w]) := by
  rw [gL_off]
  have h := gL_put (fun z => if z = w then false else f z) hw (by simp)
  have e : (fun z => if z = w then true else (if z = w then false else f z)) = fun z => if z = w then true else f z := by
    funext z
    by_cases h : z = w <;> simp [h]
  rw [e] at h
  exact h
theorem fil_run {w : Str} {ss : List Str} {R : List PyData → Prop} {g : DTG} {tt : TTd} {te : TEd} {ρ : GB.En} {vs : List Nat}
    (hn : R ((ss.filter fun x => !PyData.eqv (.str x) (.str w)).map .str))
    (hc : ∀ z ∈ ss, ∀ (acc : List PyData) (K : List PyData → Prop), (PyData.eqv (.str z) (.str w) = true → K acc) → (PyData.eqv (.str z) (.str w) = false → K (acc ++ [.str z])) → g (.str z) ρ fun ρ2 => wipeD ρ2 vs = ρ ∧ tt ρ2 fun b ρ3 => ρ3 = ρ2 ∧ iteK b (te ρ2 fun s ρ4 => ρ4 = ρ2 ∧ oneK s fun y => K (acc ++ [y])) (K acc)) :
    dLcGo vs g tt te ρ R (ss.map .str) [] := by
  refine lcI (fun ds acc => ∃ zs : List Str, ds = zs.map .str ∧ (∀ z ∈ zs, z ∈ ss) ∧ acc ++ (zs.filter fun x => !PyData.eqv (.str x) (.str w)).map .str = (ss.filter fun x => !PyData.eqv (.str x) (.str w)).map .str) ?_ ?_ _ [] ⟨ss, rfl, fun _ h => h, rfl⟩
  · rintro acc ⟨zs, e, _, h5⟩
    cases zs with
    | nil =>
      have h5 : acc = (ss.filter fun x => !PyData.eqv (.str x) (.str w)).map .str := by rw [← h5]; simp
      subst h5
      exact hn
    | cons a r => cases e
  · rintro d ds acc K hK ⟨zs, e, h9, h5⟩
    cases zs with
    | nil => cases e
    | cons z zs =>
      cases e
      obtain ⟨k1, k2⟩ := strs_step h5
      exact hc z (h9 z (by simp)) acc K (fun a => hK _ ⟨zs, rfl, fun x hx => h9 x (by simp [hx]), k1 a⟩) fun a => hK _ ⟨zs, rfl, fun x hx => h9 x (by simp [hx]), k2 a⟩
theorem ens_or {e : En} (he : e ∈ ENS) : e = .last ∨ (∃ q, q < 2 ∧ e = .make q) ∨ (∃ p c, p < 2 ∧ c < 3 ∧ e = .read p c) ∨ ∃ p c w, p < 2 ∧ c < 3 ∧ WD3 w ∧ e = .write p c w :=
  ens_cases (P := fun e => e = .last ∨ (∃ q, q < 2 ∧ e = .make q) ∨ (∃ p c, p < 2 ∧ c < 3 ∧ e = .read p c) ∨ ∃ p c w, p < 2 ∧ c < 3 ∧ WD3 w ∧ e = .write p c w) (.inl rfl) (fun q hq => .inr (.inl ⟨q, hq, rfl⟩)) (fun p c hp hc => .inr (.inr (.inl ⟨p, c, hp, hc, rfl⟩))) (fun p c w hp hc hw => .inr (.inr (.inr ⟨p, c, w, hp, hc, hw, rfl⟩))) e he
/-! sizes -/
theorem gd_sm (f : Str → Bool) : Sm 1 40 (gdD f) := by
  unfold gdD
  rw [gL_bits]
  cases f "again" <;> cases f "new" <;> cases f "old" <;> exact sm_of (by decide +kernel)
theorem bl_sm (v : Bool) : Sm 0 12 (.bool v) := by cases v <;> exact sm_of (by decide +kernel)
theorem st_sm {z : Str} (h : z = "white" ∨ z = "grey" ∨ z = "black") : Sm 0 12 (.str z) := by rcases h with rfl | rfl | rfl <;> exact sm_of (by decide +kernel)
theorem t3_sm {D W : Nat} {x y z : PyData} (h1 : Sm D W x) (h2 : Sm D W y) (h3 : Sm D W z) : Sm (D + 1) (3 * (W + 1)) (.tuple [x, y, z]) :=
  sm_tup (fun u hu => by simp only [List.mem_cons, List.not_mem_nil, or_false] at hu; rcases hu with rfl | rfl | rfl <;> assumption) (by simp)
theorem t2_sm {D W : Nat} {x y : PyData} (h1 : Sm D W x) (h2 : Sm D W y) : Sm (D + 1) (2 * (W + 1)) (.tuple [x, y]) :=
  sm_tup (fun u hu => by simp only [List.mem_cons, List.not_mem_nil, or_false] at hu; rcases hu with rfl | rfl <;> assumption) (by simp)
theorem l2_sm {D W : Nat} {x y : PyData} (h1 : Sm D W x) (h2 : Sm D W y) : Sm (D + 1) (2 * (W + 1)) (.list [x, y]) :=
  sm_lst (fun u hu => by simp only [List.mem_cons, List.not_mem_nil, or_false] at hu; rcases hu with rfl | rfl <;> assumption) (by simp)
theorem bo_sm {b : Bo} (ok : OkB b) : Sm 5 2000 b.d := by
  have a : ∀ p, Sm 3 300 (.tuple [.tuple [gdD (b.g p 0), gdD (b.g p 1), gdD (b.g p 2)], .tuple [gdD (b.g p 0), gdD (b.g p 1), gdD (b.g p 2)]]) := fun p => (t2_sm (t3_sm (gd_sm _) (gd_sm _) (gd_sm _)) (t3_sm (gd_sm _) (gd_sm _) (gd_sm _))).mono (by decide) (by decide)
  have h1 : Sm 4 399 (.tuple [.tuple [gdD (b.g 0 0), gdD (b.g 0 1), gdD (b.g 0 2)], .tuple [gdD (b.g 1 0), gdD (b.g 1 1), gdD (b.g 1 2)]]) := (t2_sm (t3_sm (gd_sm _) (gd_sm _) (gd_sm _)) (t3_sm (gd_sm _) (gd_sm _) (gd_sm _))).mono (by decide) (by decide)
  have h2 : Sm 4 399 (.tuple [.tuple [.bool (b.r 0 0), .bool (b.r 0 1), .bool (b.r 0 2)], .tuple [.bool (b.r 1 0), .bool (b.r 1 1), .bool (b.r 1 2)]]) := (t2_sm (t3_sm (bl_sm _) (bl_sm _) (bl_sm _)) (t3_sm (bl_sm _) (bl_sm _) (bl_sm _))).mono (by decide) (by decide)
  have h3 : Sm 4 399 (.tuple [.str (b.m 0), .str (b.m 1)]) := (t2_sm (st_sm (ok 0)) (st_sm (ok 1))).mono (by decide) (by decide)
  have h4 : Sm 4 399 (.bool b.l) := (bl_sm _).mono (by decide) (by decide)
  have h5 : Sm 4 399 (.bool b.p) := (bl_sm _).mono (by decide) (by decide)
  exact (sm_tup (n := 5) (fun u hu => by simp only [List.mem_cons, List.not_mem_nil, or_false] at hu; rcases hu with rfl | rfl | rfl | rfl | rfl <;> assumption) (by simp)).mono (by decide) (by decide)
theorem en_sm {e : En} (he : e ∈ ENS) : Sm 1 60 e.d := sm_of (all_of' he)
where all_of' {e : En} (he : e ∈ ENS) : smB 1 60 e.d = true := List.all_eq_true.mp (show ENS.all (fun e => smB 1 60 e.d) = true by decide +kernel) e he
theorem ens_sm (P : En → Bool) : Sm 2 2000 (.tuple ((ENS.filter P).map En.d)) :=
  (sm_tup (n := 27) (fun u hu => by
    obtain ⟨e, h1, rfl⟩ := List.mem_map.mp hu
    exact en_sm (List.mem_filter.mp h1).1) (by rw [List.length_map]; exact List.length_filter_le _ _)).mono (by decide) (by decide)
/-! entries, turned -/
theorem tu_has (b : Bo) (e e' : En) (v : Bool) : (b.tu e v).has e' = if e' = e then v else b.has e' := by
  by_cases h : e' = e
  · subst h
    rw [if_pos rfl]
    cases e' with
    | make q =>
      simp only [Bo.tu, Bo.has, if_true]
      cases v with
      | false => simp
      | true =>
        by_cases hw : b.m q = "white"
        · simp only [hw, if_true]; decide +kernel
        · simp [hw]
    | _ => simp [Bo.tu, Bo.has]
  · rw [if_neg h]
    cases e <;> cases e' <;> simp_all [Bo.tu, Bo.has]
theorem ent_b {b : Bo} (ok : OkB b) : entD b.d = (ENS.filter b.has).map En.d := by
  unfold entD
  congr 1
  refine List.filter_congr fun e he => ?_
  rw [has_d b ok e he]
  cases b.has e <;> rfl
theorem ens_eq {e e' : En} (h : e ∈ ENS) (h' : e' ∈ ENS) : eqOk e.d e'.d = true ∧ PyData.eqv e.d e'.d = decide (e = e') := by
  have k := List.all_eq_true.mp (List.all_eq_true.mp (show ENS.all (fun e => ENS.all fun e' => eqOk e.d e'.d && (PyData.eqv e.d e'.d == decide (e = e'))) = true by decide +kernel) e h) e' h'
  simp only [Bool.and_eq_true, beq_iff_eq] at k
  exact k
theorem ent_run {P : En → Bool} {R : List PyData → Prop} {g : DTG} {tt : TTd} {te : TEd} {ρ : GB.En} {vs : List Nat}
    (hn : R ((ENS.filter P).map En.d))
    (hc : ∀ e ∈ ENS, ∀ (acc : List PyData) (K : List PyData → Prop), (P e = true → K (acc ++ [e.d])) → (P e = false → K acc) → g e.d ρ fun ρ2 => wipeD ρ2 vs = ρ ∧ tt ρ2 fun b ρ3 => ρ3 = ρ2 ∧ iteK b (te ρ2 fun s ρ4 => ρ4 = ρ2 ∧ oneK s fun y => K (acc ++ [y])) (K acc)) :
    dLcGo vs g tt te ρ R (ENS.map En.d) [] := by
  refine lcI (fun ds acc => ∃ es : List En, ds = es.map En.d ∧ (∀ z ∈ es, z ∈ ENS) ∧ acc ++ (es.filter P).map En.d = (ENS.filter P).map En.d) ?_ ?_ _ [] ⟨ENS, rfl, fun _ h => h, rfl⟩
  · rintro acc ⟨es, e, _, h5⟩
    cases es with
    | nil =>
      have h5 : acc = (ENS.filter P).map En.d := by rw [← h5]; simp
      subst h5
      exact hn
    | cons a r => cases e
  · rintro d ds acc K hK ⟨es, e, h9, h5⟩
    cases es with
    | nil => cases e
    | cons z zs =>
      cases e
      refine hc z (h9 z (by simp)) acc K (fun a => hK _ ⟨zs, rfl, fun x hx => h9 x (by simp [hx]), ?_⟩) fun a => hK _ ⟨zs, rfl, fun x hx => h9 x (by simp [hx]), ?_⟩
      · rw [← h5, List.filter_cons, a]; simp
      · rw [← h5, List.filter_cons, a]; simp
theorem eqv_self {z : Str} : PyData.eqv (.str z) (.str z) = true := by rw [eqv_s]; simp
theorem tu_tu (b : Bo) (e : En) (h : b.has e = false) : (b.tu e true).tu e false = b := by
  have e1 : (b.tu e true).tu e false = b.tu e false := by
    cases e with
    | last => rfl
    | make q =>
      simp only [Bo.tu, Bo.mk.injEq, true_and, and_true]
      funext q'
      by_cases h : q' = q <;> simp [h]
    | read p c =>
      simp only [Bo.tu, Bo.mk.injEq, true_and, and_true]
      funext a d
      by_cases h : a = p ∧ d = c <;> simp [h]
    | write p c w =>
      simp only [Bo.tu, Bo.mk.injEq, true_and, and_true]
      funext a d x
      by_cases h : a = p ∧ d = c ∧ x = w <;> simp [h]
  rw [e1, tu_same b e false h]
theorem isS {b : Bo} (ok : OkB b) : ∀ e ∈ ENS, (hasE b.d e).isSome = true := fun e he => by rw [has_d b ok e he]; rfl
/-- lists of guards -/
def GdL (xs : List PyData) : Prop := ∀ x ∈ xs, ∃ f, x = gdD f
theorem six {P : PyData → Prop} {xs : List PyData} (h : xs.length = 6) (hx : ∀ x ∈ xs, P x) : ∃ a b c d e f, xs = [a, b, c, d, e, f] ∧ P a ∧ P b ∧ P c ∧ P d ∧ P e ∧ P f := by
  match xs, h with
  | [a, b, c, d, e, f], _ => exact ⟨a, b, c, d, e, f, rfl, hx a (by simp), hx b (by simp), hx c (by simp), hx d (by simp), hx e (by simp), hx f (by simp)⟩
def pk {α : Type} (a b c d e f : α) (p q : Nat) : α := if p = 0 then (if q = 0 then a else if q = 1 then b else c) else (if q = 0 then d else if q = 1 then e else f)
theorem gd_abc (a n o : Bool) : ∃ f, gdD f = .tuple (((if a = true then ([("again" : Str)] : List Str) else []) ++ ((if n = true then ([("new" : Str)] : List Str) else []) ++ (if o = true then ([("old" : Str)] : List Str) else []))).map .str) := by
  refine ⟨fun z => if z = "again" then a else if z = "new" then n else o, ?_⟩
  unfold gdD
  rw [gL_bits]
  simp only [nan, noan, non', if_true, if_false]
theorem d_ext {b b' : Bo} (h : ∀ e ∈ ENS, b.has e = b'.has e) (h0 : b.m 0 = b'.m 0) (h1 : b.m 1 = b'.m 1) (hp : b.p = b'.p) : b.d = b'.d := by
  have g : ∀ p c, p < 2 → c < 3 → gdD (b.g p c) = gdD (b'.g p c) := fun p c hp hc => by
    have k : ∀ w, WD3 w → b.g p c w = b'.g p c w := fun w hw => by
      refine h (.write p c w) ?_
      rcases two p hp with rfl | rfl <;> rcases three c hc with rfl | rfl | rfl <;> rcases hw with rfl | rfl | rfl <;> simp [ENS]
    unfold gdD
    rw [gL_bits, gL_bits (b'.g p c), k "again" (.inl rfl), k "new" (.inr (.inl rfl)), k "old" (.inr (.inr rfl))]
  have r : ∀ p c, p < 2 → c < 3 → b.r p c = b'.r p c := fun p c hp hc => by
    refine h (.read p c) ?_
    rcases two p hp with rfl | rfl <;> rcases three c hc with rfl | rfl | rfl <;> simp [ENS]
  have l : b.l = b'.l := h .last (by simp [ENS])
  unfold Bo.d
  rw [g 0 0 (by decide) (by decide), g 0 1 (by decide) (by decide), g 0 2 (by decide) (by decide), g 1 0 (by decide) (by decide), g 1 1 (by decide) (by decide), g 1 2 (by decide) (by decide),
    r 0 0 (by decide) (by decide), r 0 1 (by decide) (by decide), r 0 2 (by decide) (by decide), r 1 0 (by decide) (by decide), r 1 1 (by decide) (by decide), r 1 2 (by decide) (by decide), l, h0, h1, hp]
def bare (p : Bool) : Bo := ⟨fun _ _ _ => false, fun _ _ => false, fun _ => "white", false, p⟩
theorem bare_has (p : Bool) (e : En) : (bare p).has e = false := by
  cases e with
  | make q => show (!(("white" : Str) == "white")) = false; decide +kernel
  | _ => rfl
theorem fx4 {b : Bo} {k : S → Prop} (h : k (.d (.bool b.p))) : fIx b.d (.int 4) k := ⟨4, rfl, .bool b.p, rfl, h⟩
theorem m_tu {b : Bo} (h : ∀ q, b.m q = "white" ∨ b.m q = "black") (e : En) : ∀ q, (b.tu e true).m q = "white" ∨ (b.tu e true).m q = "black" := by
  intro q
  cases e with
  | make q0 =>
    have key : (b.tu (.make q0) true).m q = "black" ∨ (b.tu (.make q0) true).m q = b.m q0 ∨ (b.tu (.make q0) true).m q = b.m q := by
      by_cases h : q = q0 <;> by_cases hw : b.m q0 = "white" <;> simp [Bo.tu, h, hw]
    rcases key with e | e | e <;> rw [e]
    · exact .inr rfl
    · exact h q0
    · exact h q
  | _ => exact h q
theorem tu_p (b : Bo) (e : En) (v : Bool) : (b.tu e v).p = b.p := by cases e <;> rfl
def bl (b : Bo) : Bo := { b with m := fun q => if b.m q = "white" then "white" else "black" }
theorem cut5a {a b c d e : PyData} : GB.cutD [a, b, c, d, e] none (some 2) = [a, b] := rfl
theorem cut5b {a b c d e : PyData} : GB.cutD [a, b, c, d, e] (some 3) none = [d, e] := rfl
end GK

namespace GK
open PySem PySem.Spec PyProof.Rows L2 GB
/-! ways, by entries -/
def insH (h : En → Bool) (p : Nat) (pc : Bool) : Bool := (h (.write p 2 "new") || h (.write p 2 "again")) && (!pc || (h (.write p 1 "new") || h (.write p 1 "again")))
def earlyH (h : En → Bool) : Bool := h (.write 0 0 "new") || (h (.write 0 0 "old") || (h (.read 0 0) || h (.make 0)))
def oldH (h : En → Bool) (c : Nat) (n : Int) : Bool := h (.write 1 c "old") && (decide (n = 1) || h (.write 0 c "old"))
def closedH (h : En → Bool) (pc : Bool) (n : Int) : Bool := insH h 0 pc || (decide (n = 1) && !earlyH h)
def opt (b : Bool) (z : Str) : List Str := if b = true then [z] else []
def waysH (h : En → Bool) (pc : Bool) (n : Int) : List Str :=
  if closedH h pc n = true then
    opt (h (.make 1) && oldH h 1 n && h (.read 1 0)) "child" ++ (opt (h .last && insH h 1 pc) "last" ++ (opt (h (.make 1) && oldH h 1 n && oldH h 0 n) "old" ++ opt (h (.make 1) && h (.read 1 1)) "read"))
  else []
def strsD (zs : List Str) : PyData := .tuple (zs.map .str)
def esD (es : List En) : PyData := .list (es.map En.d)
def SubE (es : List En) : Prop := ∀ e ∈ es, e ∈ ENS
def inL (es : List En) (e : En) : Bool := decide (e ∈ es)
def bk (es : List En) (a b : Str) (p : Bool) : Bo := ⟨fun p c w => inL es (.write p c w), fun p c => inL es (.read p c), fun q => if inL es (.make q) = true then (if q = 0 then a else b) else "white", inL es .last, p⟩
/-- entries that make a book safe in a way -/
inductive Wy where
  | child | last | old | read
  deriving DecidableEq
def Wy.z : Wy → Str
  | .child => "child"
  | .last => "last"
  | .old => "old"
  | .read => "read"
def wantE (w : Wy) (pc : Bool) (many : Bool) (ch : Nat → Nat → Bool) : List En :=
  [if w = Wy.last then En.last else En.make 1] ++
  (((if many = true then [0] else []) ++ (if w = Wy.last then [1] else [])).flatMap fun p => (if pc = true then [1, 2] else [2]).map fun c => En.write p c (if ch p c = true then "again" else "new")) ++
  ((if w = Wy.child ∨ w = Wy.old then ((if many = true then [0] else []) ++ [1]) else []).flatMap fun p => En.write p 1 "old" :: (if w = Wy.old then [En.write p 0 "old"] else [])) ++
  (if w = Wy.child then [En.read 1 0] else if w = Wy.read then [En.read 1 1] else [])
/-! the program's -/
def F_starts_early : FnD := fun ss R => ∃ b, ss = [.d (Bo.d b)] ∧ OkB b ∧ R (.d (.bool (earlyH b.has)))
def F_p_heeds_new : FnD := fun ss R => ∃ f, ss = [.d (gdD f)] ∧ R (.d (.bool (f "new" || f "again")))
def F_p_heeds_old : FnD := fun ss R => ∃ (b : Bo) (c n : Int), ss = [.d (Bo.d b), .d (.int c), .d (.int n)] ∧ OkB b ∧ (0 ≤ c ∧ c < 2) ∧ R (.d (.bool (oldH b.has c.toNat n)))
def F_inserts : FnD := fun ss R => ∃ (b : Bo) (p : Int), ss = [.d (Bo.d b), .d (.int p)] ∧ OkB b ∧ (0 ≤ p ∧ p < 2) ∧ R (.d (.bool (insH b.has p.toNat b.p)))
def F_is_closed : FnD := fun ss R => ∃ b n, ss = [.d (Bo.d b), .d (.int n)] ∧ OkB b ∧ R (.d (.bool (closedH b.has b.p n)))
def F_ways : FnD := fun ss R => ∃ b n, ss = [.d (Bo.d b), .d (.int n)] ∧ OkB b ∧ R (.d (strsD (waysH b.has b.p n)))
def F_is_safe : FnD := fun ss R => ∃ b n, ss = [.d (Bo.d b), .d (.int n)] ∧ OkB b ∧ R (.d (.bool (!(waysH b.has b.p n).isEmpty)))
/-! entries put in, taken out -/
def F_p_item_at : FnD := fun ss R => ∃ x ps y, ss = [.d x, .d (.tuple (ps.map nD))] ∧ itemAt x ps = some y ∧ R (.d y)
def F_p_places_of : FnD := fun ss R => ∃ e : En, ss = [.d e.d] ∧ R (.d (.tuple (e.pl.map nD)))
def F_has_entry : FnD := fun ss R => ∃ b e v, ss = [.d b, .d (En.d e)] ∧ hasE b e = some v ∧ R (.d (.bool v))
def G_replaced : Nat → FnD
  | 0 => fun _ _ => False
  | n + 1 => fun ss R => ∃ x ps it y, ss = [.d x, .d (.tuple (ps.map nD)), .d it] ∧ ps.length ≤ n ∧ rep x ps it = some y ∧ R (.d y)
def F_replaced : FnD := G_replaced 5
def F_with_made : FnD := fun ss R => ∃ b p z y, ss = [.d b, .d (nD p), .d (.str z)] ∧ rep b [2, p] (.str z) = some y ∧ R (.d y)
def F_with_entry : FnD := fun ss R => ∃ b e y, ss = [.d b, .d (En.d e)] ∧ WE b e y ∧ R (.d y)
def F_without : FnD := fun ss R => ∃ b e y, ss = [.d b, .d (En.d e)] ∧ WO b e y ∧ R (.d y)
def Pn (a : Str) : Prop := a = "black" ∨ a = "grey"
end GK

set_option maxRecDepth 20000
namespace GK
open PySem PySem.Spec PyProof.Rows L2 GB
/-! one value, one book -/
theorem d_has {b b' : Bo} (ok : OkB b) (ok' : OkB b') (h : b.d = b'.d) : ∀ e ∈ ENS, b.has e = b'.has e := fun e he => by
  have h1 := has_d b ok e he
  have h2 := has_d b' ok' e he
  rw [h, h2] at h1
  exact (Option.some.inj h1).symm
theorem d_p {b b' : Bo} (h : b.d = b'.d) : b.p = b'.p := by
  simp only [Bo.d, PyData.tuple.injEq, List.cons.injEq, PyData.bool.injEq, and_true] at h
  exact h.2.2.2.2
theorem gd_inj {f f' : Str → Bool} (h : gdD f = gdD f') : ∀ w, WD3 w → f w = f' w := fun w hw => by
  have h1 := gL_has f hw
  rw [h, gL_has f' hw] at h1
  exact (Option.some.inj h1).symm
theorem es_inj : ∀ {es es' : List En}, es.map En.d = es'.map En.d → es = es'
  | [], [], _ => rfl
  | [], _ :: _, h => by cases h
  | _ :: _, [], h => by cases h
  | u :: us, v :: vs, h => by
    simp only [List.map_cons, List.cons.injEq] at h
    rw [en_inj h.1, es_inj h.2]
theorem esD_inj {es es' : List En} (h : esD es = esD es') : es = es' := es_inj (PyData.list.inj h)
section
variable {f g : En → Bool} (h : ∀ e ∈ ENS, f e = g e)
include h
theorem early_c : earlyH f = earlyH g := by
  simp only [earlyH, h (.write 0 0 "new") (by decide +kernel), h (.write 0 0 "old") (by decide +kernel), h (.read 0 0) (by decide +kernel), h (.make 0) (by decide +kernel)]
theorem ins_c {p : Nat} (hp : p < 2) (pc : Bool) : insH f p pc = insH g p pc := by
  rcases two p hp with rfl | rfl
  · simp only [insH, h (.write 0 2 "new") (by decide +kernel), h (.write 0 2 "again") (by decide +kernel), h (.write 0 1 "new") (by decide +kernel), h (.write 0 1 "again") (by decide +kernel)]
  · simp only [insH, h (.write 1 2 "new") (by decide +kernel), h (.write 1 2 "again") (by decide +kernel), h (.write 1 1 "new") (by decide +kernel), h (.write 1 1 "again") (by decide +kernel)]
theorem old_c {c : Nat} (hc : c < 2) (n : Int) : oldH f c n = oldH g c n := by
  rcases two c hc with rfl | rfl
  · simp only [oldH, h (.write 1 0 "old") (by decide +kernel), h (.write 0 0 "old") (by decide +kernel)]
  · simp only [oldH, h (.write 1 1 "old") (by decide +kernel), h (.write 0 1 "old") (by decide +kernel)]
theorem closed_c (pc : Bool) (n : Int) : closedH f pc n = closedH g pc n := by
  simp only [closedH, ins_c h (show 0 < 2 by decide), early_c h]
theorem ways_c (pc : Bool) (n : Int) : waysH f pc n = waysH g pc n := by
  simp only [waysH, closed_c h, ins_c h (show 1 < 2 by decide), old_c h (show 0 < 2 by decide), old_c h (show 1 < 2 by decide), h (.make 1) (by decide +kernel), h (.read 1 0) (by decide +kernel), h (.read 1 1) (by decide +kernel), h .last (by decide +kernel)]
end
theorem s_hnew {k : S → Prop} {f : Str → Bool} : F_p_heeds_new [.d (gdD f)] k ↔ k (.d (.bool (f "new" || f "again"))) := by
  constructor
  · rintro ⟨f', e, q⟩
    have e : gdD f = gdD f' := by simpa using e
    rw [gd_inj e "new" (.inr (.inl rfl)), gd_inj e "again" (.inl rfl)]; exact q
  · intro q; exact ⟨f, rfl, q⟩
theorem s_hold {k : S → Prop} {b : Bo} {c n : Int} (ok : OkB b) : F_p_heeds_old [.d b.d, .d (.int c), .d (.int n)] k ↔ (0 ≤ c ∧ c < 2) ∧ k (.d (.bool (oldH b.has c.toNat n))) := by
  constructor
  · rintro ⟨b', c', n', e, ok', hc, q⟩
    simp only [List.cons.injEq, S.d.injEq, PyData.int.injEq, and_true] at e
    obtain ⟨e, rfl, rfl⟩ := e
    rw [old_c (d_has ok ok' e) (by omega)]; exact ⟨hc, q⟩
  · intro ⟨hc, q⟩; exact ⟨b, c, n, rfl, ok, hc, q⟩
theorem s_ins {k : S → Prop} {b : Bo} {p : Int} (ok : OkB b) : F_inserts [.d b.d, .d (.int p)] k ↔ (0 ≤ p ∧ p < 2) ∧ k (.d (.bool (insH b.has p.toNat b.p))) := by
  constructor
  · rintro ⟨b', p', e, ok', hp, q⟩
    simp only [List.cons.injEq, S.d.injEq, PyData.int.injEq, and_true] at e
    obtain ⟨e, rfl⟩ := e
    rw [ins_c (d_has ok ok' e) (by omega), d_p e]; exact ⟨hp, q⟩
  · intro ⟨hp, q⟩; exact ⟨b, p, rfl, ok, hp, q⟩
theorem s_early {k : S → Prop} {b : Bo} (ok : OkB b) : F_starts_early [.d b.d] k ↔ k (.d (.bool (earlyH b.has))) := by
  constructor
  · rintro ⟨b', e, ok', q⟩
    have e : b.d = b'.d := by simpa using e
    rw [early_c (d_has ok ok' e)]; exact q
  · intro q; exact ⟨b, rfl, ok, q⟩
theorem s_closed {k : S → Prop} {b : Bo} {n : Int} (ok : OkB b) : F_is_closed [.d b.d, .d (.int n)] k ↔ k (.d (.bool (closedH b.has b.p n))) := by
  constructor
  · rintro ⟨b', n', e, ok', q⟩
    simp only [List.cons.injEq, S.d.injEq, PyData.int.injEq, and_true] at e
    obtain ⟨e, rfl⟩ := e
    rw [closed_c (d_has ok ok' e), d_p e]; exact q
  · intro q; exact ⟨b, n, rfl, ok, q⟩
theorem s_ways {k : S → Prop} {b : Bo} {n : Int} (ok : OkB b) : F_ways [.d b.d, .d (.int n)] k ↔ k (.d (strsD (waysH b.has b.p n))) := by
  constructor
  · rintro ⟨b', n', e, ok', q⟩
    simp only [List.cons.injEq, S.d.injEq, PyData.int.injEq, and_true] at e
    obtain ⟨e, rfl⟩ := e
    rw [ways_c (d_has ok ok' e), d_p e]; exact q
  · intro q; exact ⟨b, n, rfl, ok, q⟩
theorem s_safe {k : S → Prop} {b : Bo} {n : Int} (ok : OkB b) : F_is_safe [.d b.d, .d (.int n)] k ↔ k (.d (.bool (!(waysH b.has b.p n).isEmpty))) := by
  constructor
  · rintro ⟨b', n', e, ok', q⟩
    simp only [List.cons.injEq, S.d.injEq, PyData.int.injEq, and_true] at e
    obtain ⟨e, rfl⟩ := e
    rw [ways_c (d_has ok ok' e), d_p e]; exact q
  · intro q; exact ⟨b, n, rfl, ok, q⟩
/-! the book of some entries -/
theorem bk_has (es : List En) {a b : Str} (p : Bool) (ha : a ≠ "white") (hb : b ≠ "white") : ∀ e ∈ ENS, (bk es a b p).has e = inL es e := by
  refine ens_cases rfl ?_ (fun _ _ _ _ => rfl) (fun _ _ _ _ _ _ => rfl)
  intro q hq
  show (!((if inL es (.make q) = true then (if q = 0 then a else b) else "white") == "white")) = inL es (.make q)
  cases h : inL es (.make q) with
  | false => simp
  | true =>
    rw [if_pos rfl]
    by_cases hz : q = 0
    · rw [if_pos hz]; simpa using ha
    · rw [if_neg hz]; simpa using hb
theorem pn_ne {a : Str} (h : Pn a) : a ≠ "white" := by rcases h with rfl | rfl <;> decide +kernel
theorem pn_ok {a : Str} (h : Pn a) : a = "white" ∨ a = "grey" ∨ a = "black" := by
  rcases h with rfl | rfl
  · exact .inr (.inr rfl)
  · exact .inr (.inl rfl)
theorem bk_ok (es : List En) {a b : Str} (p : Bool) (ha : a = "white" ∨ a = "grey" ∨ a = "black") (hb : b = "white" ∨ b = "grey" ∨ b = "black") : OkB (bk es a b p) := fun q => by
  show (if inL es (.make q) = true then (if q = 0 then a else b) else "white") = "white" ∨ (if inL es (.make q) = true then (if q = 0 then a else b) else "white") = "grey" ∨ (if inL es (.make q) = true then (if q = 0 then a else b) else "white") = "black"
  by_cases h : inL es (.make q) = true
  · rw [if_pos h]
    by_cases hz : q = 0
    · rw [if_pos hz]; exact ha
    · rw [if_neg hz]; exact hb
  · rw [if_neg h]; exact .inl rfl
theorem inw_new (f : Str → Bool) : inD (.str "new") (gdD f) = some (f "new") := gL_has f (.inr (.inl rfl))
theorem inw_again (f : Str → Bool) : inD (.str "again") (gdD f) = some (f "again") := gL_has f (.inl rfl)
theorem inw_old (f : Str → Bool) : inD (.str "old") (gdD f) = some (f "old") := gL_has f (.inr (.inr rfl))
theorem inE {x c : PyData} {v : Bool} {p : Bool → Prop} (e : inD x c = some v) : (∃ b, inD x c = some b ∧ p b) ↔ p v := ⟨fun ⟨_, h, q⟩ => by rw [e] at h; cases h; exact q, fun q => ⟨_, e, q⟩⟩
theorem nd0 : nD 0 = .int 0 := rfl
theorem nd1 : nD 1 = .int 1 := rfl
theorem nd2 : nD 2 = .int 2 := rfl
theorem es_shp {es : List En} (hs : SubE es) : SeqAt.shaped (.list (es.map En.d)) = true := shp_list fun x hx => by
  obtain ⟨e, he, rfl⟩ := List.mem_map.mp hx
  have h := List.all_eq_true.mp (show ENS.all (fun e => e.d.canLay0 && decide (e.d.depth ≤ 20)) = true by decide +kernel) e (hs e he)
  simpa using h
/-- an entry among entries -/
theorem en_shp {e : En} (he : e ∈ ENS) : SeqAt.shaped e.d = true := List.all_eq_true.mp (show ENS.all (fun e => SeqAt.shaped e.d) = true by decide +kernel) e he
theorem es_any {e : En} (he : e ∈ ENS) : ∀ {es : List En}, SubE es → ((es.map En.d).any fun z => PyData.eqv z e.d) = inL es e
  | [], _ => rfl
  | x :: es, hs => by
    rw [List.map_cons, List.any_cons, (ens_eq (hs x (by simp)) he).2, es_any he fun y hy => hs y (by simp [hy])]
    by_cases h : x = e
    · subst h; simp [inL]
    · have h' : ¬ e = x := fun z => h z.symm
      simp [inL, h, h']
theorem es_in {es : List En} (hs : SubE es) {e : En} (he : e ∈ ENS) : inD e.d (esD es) = some (inL es e) := by
  show (if SeqAt.shaped e.d = true ∧ SeqAt.shaped (.list (es.map En.d)) = true then some ((es.map En.d).any fun z => PyData.eqv z e.d) else none) = _
  rw [if_pos ⟨en_shp he, es_shp hs⟩, es_any he hs]
theorem es_sm {es : List En} (hs : SubE es) (hl : es.length ≤ 100) : Sm 2 7000 (esD es) :=
  (sm_lst (n := 100) (fun u hu => by
    obtain ⟨e, h1, rfl⟩ := List.mem_map.mp hu
    exact en_sm (hs e h1)) (by rw [List.length_map]; exact hl)).mono (by decide) (by decide)
theorem ways_sm (f : En → Bool) (pc : Bool) (n : Int) : Sm 1 100 (strsD (waysH f pc n)) := by
  unfold waysH
  cases closedH f pc n
  · rw [if_neg (by decide)]; exact sm_of (by decide +kernel)
  · rw [if_pos rfl]
    cases (f (.make 1) && oldH f 1 n && f (.read 1 0)) <;> cases (f .last && insH f 1 pc) <;> cases (f (.make 1) && oldH f 1 n && oldH f 0 n) <;> cases (f (.make 1) && f (.read 1 1)) <;> exact sm_of (by decide +kernel)
theorem pk10 {a b : S} : pick [1, 0] [a, b] = [b, a] := rfl
theorem pk0 {a : S} : pick [0] [a] = [a] := rfl
theorem z0 : (0 ≤ sizeLine) = True := eq_true (by decide)
theorem z1 : (1 ≤ sizeLine) = True := eq_true (by decide)
theorem z4 : ((0 : Int) < 4) = True := eq_true (by decide)
theorem neu_strs {zs : List Str} {k : S → Prop} : fNeU (strsD zs) (.tuple []) k ↔ k (.d (.bool (!zs.isEmpty))) := by
  unfold strsD
  rw [f_neu]
  cases zs <;> rfl
def WN : List Str := ["child", "last", "old", "read"]
theorem opt_mem {b : Bool} {z x : Str} (h : x ∈ opt b z) : b = true ∧ x = z := by
  unfold opt at h
  cases b
  · simp at h
  · exact ⟨rfl, by simpa using h⟩
theorem ways_wn (f : En → Bool) (pc : Bool) (n : Int) : ∀ x ∈ waysH f pc n, x ∈ WN := by
  intro x hx
  unfold waysH at hx
  split at hx
  · rcases List.mem_append.mp hx with h | h
    · rw [(opt_mem h).2]; simp [WN]
    · rcases List.mem_append.mp h with h | h
      · rw [(opt_mem h).2]; simp [WN]
      · rcases List.mem_append.mp h with h | h
        · rw [(opt_mem h).2]; simp [WN]
        · rw [(opt_mem h).2]; simp [WN]
  · cases hx
theorem opt_len {b : Bool} {z : Str} : (opt b z).length ≤ 1 := by cases b <;> simp [opt]
theorem ways_len (f : En → Bool) (pc : Bool) (n : Int) : (waysH f pc n).length ≤ 4 := by
  unfold waysH
  split
  · have h1 := opt_len (b := f (.make 1) && oldH f 1 n && f (.read 1 0)) (z := "child")
    have h2 := opt_len (b := f .last && insH f 1 pc) (z := "last")
    have h3 := opt_len (b := f (.make 1) && oldH f 1 n && oldH f 0 n) (z := "old")
    have h4 := opt_len (b := f (.make 1) && f (.read 1 1)) (z := "read")
    simp only [List.length_append]; omega
  · simp
theorem wn_lay {zs : List Str} (h : ∀ x ∈ zs, x ∈ WN) : SeqAt.shaped (strsD zs) = true := shp_tup fun x hx => by
  obtain ⟨z, hz, rfl⟩ := List.mem_map.mp hx
  exact of_decide_eq_true (List.all_eq_true.mp (show WN.all (fun z => decide ((PyData.str z).canLay0 = true ∧ (PyData.str z).depth ≤ 20)) = true by decide +kernel) z (h z hz))
theorem wn_shp {z : Str} (h : z ∈ WN) : SeqAt.shaped (.str z) = true := List.all_eq_true.mp (show WN.all (fun z => SeqAt.shaped (.str z)) = true by decide +kernel) z h
theorem wn_in {z : Str} {zs : List Str} (hz : z ∈ WN) (h : ∀ x ∈ zs, x ∈ WN) : inD (.str z) (strsD zs) = some (decide (z ∈ zs)) := by
  show (if SeqAt.shaped (.str z) = true ∧ SeqAt.shaped (.tuple (zs.map .str)) = true then some ((zs.map PyData.str).any fun y => PyData.eqv y (.str z)) else none) = _
  rw [if_pos ⟨wn_shp hz, wn_lay h⟩]
  congr 1
  clear h
  induction zs with
  | nil => rfl
  | cons y ys ih =>
    rw [List.map_cons, List.any_cons, ih, eqv_s]
    by_cases e : z = y
    · subst e; simp
    · have : ¬ y = z := fun h => e h.symm
      simp [e, this]
theorem seq_strs {zs : List Str} {f : List PyData → Prop} : seqK (.d (strsD zs)) f ↔ f (zs.map .str) := seq_t
theorem ways_2 {f : En → Bool} {pc : Bool} {m : Int} (h : m ≠ 1) : waysH f pc m = waysH f pc 2 := by
  unfold waysH closedH oldH
  rw [decide_eq_false h, show decide ((2 : Int) = 1) = false from rfl]
theorem ways_sub (f : En → Bool) (pc : Bool) : ∀ x ∈ waysH f pc 2, x ∈ waysH f pc 1 := by
  unfold waysH closedH oldH
  rw [show decide ((2 : Int) = 1) = false from rfl, show decide ((1 : Int) = 1) = true from rfl]
  simp only [Bool.false_and, Bool.or_false, Bool.true_and, Bool.false_or, Bool.true_or, Bool.and_true]
  generalize insH f 0 pc = i0
  generalize insH f 1 pc = i1
  generalize earlyH f = ea
  generalize f (.make 1) = m
  generalize f (.read 1 0) = r0
  generalize f (.read 1 1) = r1
  generalize f .last = l
  generalize f (.write 1 1 "old") = a
  generalize f (.write 0 1 "old") = b
  generalize f (.write 1 0 "old") = c
  generalize f (.write 0 0 "old") = d
  cases i0
  · intro x hx; rw [if_neg (by decide)] at hx; cases hx
  · simp only [Bool.true_or, if_true]
    intro x hx
    rcases List.mem_append.mp hx with h | h
    · obtain ⟨h1, rfl⟩ := opt_mem h
      simp only [Bool.and_eq_true] at h1
      refine List.mem_append.mpr (.inl ?_)
      simp [opt, h1.1.1, h1.1.2.1, h1.2]
    · rcases List.mem_append.mp h with h | h
      · exact List.mem_append.mpr (.inr (List.mem_append.mpr (.inl h)))
      · rcases List.mem_append.mp h with h | h
        · obtain ⟨h1, rfl⟩ := opt_mem h
          simp only [Bool.and_eq_true] at h1
          refine List.mem_append.mpr (.inr (List.mem_append.mpr (.inr (List.mem_append.mpr (.inl ?_)))))
          simp [opt, h1.1.1, h1.1.2.1, h1.2.1]
        · exact List.mem_append.mpr (.inr (List.mem_append.mpr (.inr (List.mem_append.mpr (.inr h)))))
section
variable {f g : En → Bool} (h : ∀ e ∈ ENS, f e = true → g e = true)
include h
theorem ins_m {p : Nat} (hp : p < 2) {pc : Bool} (z : insH f p pc = true) : insH g p pc = true := by
  unfold insH at z ⊢
  simp only [Bool.and_eq_true, Bool.or_eq_true] at z ⊢
  have m : ∀ c w, c < 3 → WD3 w → En.write p c w ∈ ENS := fun c w hc hw => by
    rcases two p hp with rfl | rfl <;> rcases three c hc with rfl | rfl | rfl <;> rcases hw with rfl | rfl | rfl <;> decide +kernel
  obtain ⟨z1, z2⟩ := z
  refine ⟨z1.imp (h _ (m 2 _ (by decide) (.inr (.inl rfl)))) (h _ (m 2 _ (by decide) (.inl rfl))), z2.imp id fun z => z.imp (h _ (m 1 _ (by decide) (.inr (.inl rfl)))) (h _ (m 1 _ (by decide) (.inl rfl)))⟩
theorem old_m {c : Nat} (hc : c < 2) {n : Int} (z : oldH f c n = true) : oldH g c n = true := by
  unfold oldH at z ⊢
  simp only [Bool.and_eq_true, Bool.or_eq_true] at z ⊢
  have m : ∀ p, p < 2 → En.write p c "old" ∈ ENS := fun p hp => by
    rcases two p hp with rfl | rfl <;> rcases two c hc with rfl | rfl <;> decide +kernel
  exact ⟨h _ (m 1 (by decide)) z.1, z.2.imp id (h _ (m 0 (by decide)))⟩
theorem closed_m {pc : Bool} {n : Int} (he : n ≠ 1 ∨ earlyH g = earlyH f) (z : closedH f pc n = true) : closedH g pc n = true := by
  unfold closedH at z ⊢
  simp only [Bool.and_eq_true, Bool.or_eq_true] at z ⊢
  rcases z with z | ⟨z1, z2⟩
  · exact .inl (ins_m h (by decide) z)
  · rcases he with he | he
    · exact absurd (of_decide_eq_true z1) he
    · exact .inr ⟨z1, by rw [he]; exact z2⟩
theorem ways_m {pc : Bool} {n : Int} (he : n ≠ 1 ∨ earlyH g = earlyH f) : ∀ z ∈ waysH f pc n, z ∈ waysH g pc n := by
  intro z hz
  unfold waysH at hz ⊢
  split at hz
  · rename_i hc
    rw [if_pos (closed_m h he hc)]
    have om : ∀ {a b : Bool} {y x : Str}, (a = true → b = true) → x ∈ opt a y → x ∈ opt b y := fun {a b y x} hab hx => by
      obtain ⟨h1, rfl⟩ := opt_mem hx
      rw [hab h1]; simp [opt]
    rcases List.mem_append.mp hz with hz | hz
    · refine List.mem_append.mpr (.inl (om (fun q => ?_) hz))
      simp only [Bool.and_eq_true] at q ⊢
      exact ⟨⟨h _ (by decide +kernel) q.1.1, old_m h (by decide) q.1.2⟩, h _ (by decide +kernel) q.2⟩
    · refine List.mem_append.mpr (.inr ?_)
      rcases List.mem_append.mp hz with hz | hz
      · refine List.mem_append.mpr (.inl (om (fun q => ?_) hz))
        simp only [Bool.and_eq_true] at q ⊢
        exact ⟨h _ (by decide +kernel) q.1, ins_m h (by decide) q.2⟩
      · refine List.mem_append.mpr (.inr ?_)
        rcases List.mem_append.mp hz with hz | hz
        · refine List.mem_append.mpr (.inl (om (fun q => ?_) hz))
          simp only [Bool.and_eq_true] at q ⊢
          exact ⟨⟨h _ (by decide +kernel) q.1.1, old_m h (by decide) q.1.2⟩, old_m h (by decide) q.2⟩
        · refine List.mem_append.mpr (.inr (om (fun q => ?_) hz))
          simp only [Bool.and_eq_true] at q ⊢
          exact ⟨h _ (by decide +kernel) q.1, h _ (by decide +kernel) q.2⟩
  · cases hz
end
theorem ne_mono {α : Type} {l m : List α} (h : ∀ z ∈ l, z ∈ m) (hl : (!l.isEmpty) = true) : (!m.isEmpty) = true := by
  cases l with
  | nil => simp at hl
  | cons z l =>
    have := h z (by simp)
    cases m with
    | nil => cases this
    | cons _ _ => rfl
def chs (a b c d : Bool) (p q : Nat) : Bool := if p = 0 then (if q = 1 then a else b) else (if q = 1 then c else d)
/-! comprehensions over entries -/
theorem es_run {es : List En} {P : En → Bool} {R : List PyData → Prop} {g : DTG} {tt : TTd} {te : TEd} {ρ : GB.En} {vs : List Nat}
    (hn : R ((es.filter P).map En.d))
    (hc : ∀ e ∈ es, ∀ (acc : List PyData) (K : List PyData → Prop), (P e = true → K (acc ++ [e.d])) → (P e = false → K acc) → g e.d ρ fun ρ2 => wipeD ρ2 vs = ρ ∧ tt ρ2 fun b ρ3 => ρ3 = ρ2 ∧ iteK b (te ρ2 fun s ρ4 => ρ4 = ρ2 ∧ oneK s fun y => K (acc ++ [y])) (K acc)) :
    dLcGo vs g tt te ρ R (es.map En.d) [] := by
  refine lcI (fun ds acc => ∃ es' : List En, ds = es'.map En.d ∧ (∀ z ∈ es', z ∈ es) ∧ acc ++ (es'.filter P).map En.d = (es.filter P).map En.d) ?_ ?_ _ [] ⟨es, rfl, fun _ h => h, rfl⟩
  · rintro acc ⟨es', e, _, h5⟩
    cases es' with
    | nil =>
      have h5 : acc = (es.filter P).map En.d := by rw [← h5]; simp
      subst h5
      exact hn
    | cons a r => cases e
  · rintro d ds acc K hK ⟨es', e, h9, h5⟩
    cases es' with
    | nil => cases e
    | cons z zs =>
      cases e
      refine hc z (h9 z (by simp)) acc K (fun a => hK _ ⟨zs, rfl, fun x hx => h9 x (by simp [hx]), ?_⟩) fun a => hK _ ⟨zs, rfl, fun x hx => h9 x (by simp [hx]), ?_⟩
      · rw [← h5, List.filter_cons, a]; simp
      · rw [← h5, List.filter_cons, a]; simp
theorem sub_run {es : List En} {R : List PyData → Prop} {g : DTG} {tt : TTd} {te : TEd} {ρ : GB.En} {vs : List Nat}
    (hn : ∀ fs : List En, (∀ e ∈ fs, e ∈ es) → fs.length ≤ es.length → R (fs.map En.d))
    (hc : ∀ e ∈ es, ∀ (acc : List PyData) (K : List PyData → Prop), K (acc ++ [e.d]) → K acc → g e.d ρ fun ρ2 => wipeD ρ2 vs = ρ ∧ tt ρ2 fun b ρ3 => ρ3 = ρ2 ∧ iteK b (te ρ2 fun s ρ4 => ρ4 = ρ2 ∧ oneK s fun y => K (acc ++ [y])) (K acc)) :
    dLcGo vs g tt te ρ R (es.map En.d) [] := by
  refine lcI (fun ds acc => ∃ es' fs : List En, ds = es'.map En.d ∧ acc = fs.map En.d ∧ (∀ z ∈ es', z ∈ es) ∧ (∀ z ∈ fs, z ∈ es) ∧ fs.length + es'.length ≤ es.length) ?_ ?_ _ [] ⟨es, [], rfl, rfl, fun _ h => h, (fun _ h => nomatch h), by simp⟩
  · rintro acc ⟨es', fs, e, rfl, _, h4, h5⟩
    exact hn fs h4 (by omega)
  · rintro d ds acc K hK ⟨es', fs, e, rfl, h3, h4, h5⟩
    cases es' with
    | nil => cases e
    | cons z zs =>
      cases e
      have h5 : fs.length + (zs.length + 1) ≤ es.length := h5
      refine hc z (h3 z (by simp)) _ K (hK _ ⟨zs, fs ++ [z], rfl, by rw [List.map_append]; rfl, fun x hx => h3 x (by simp [hx]), fun x hx => ?_, by rw [List.length_append]; simp; omega⟩) (hK _ ⟨zs, fs, rfl, rfl, fun x hx => h3 x (by simp [hx]), h4, by omega⟩)
      rcases List.mem_append.mp hx with hx | hx
      · exact h4 x hx
      · rw [List.mem_singleton.mp hx]; exact h3 z (by simp)
theorem wantE_ch (w : Wy) (pc many : Bool) (ch : Nat → Nat → Bool) : wantE w pc many ch = wantE w pc many (chs (ch 0 1) (ch 0 2) (ch 1 1) (ch 1 2)) := by
  cases w <;> cases pc <;> cases many <;> simp [wantE, chs]
def wantOk (w : Wy) (pc many a b c d : Bool) : Bool := (wantE w pc many (chs a b c d)).all (fun e => decide (e ∈ ENS)) && decide ((wantE w pc many (chs a b c d)).length ≤ 12) && decide ((wantE w pc many (chs a b c d)).head? ≠ (wantE w pc many (chs a b c d)).getLast?) && decide ((wantE w pc many (chs a b c d)).length ≥ 2)
theorem wantOk_all (w : Wy) : ∀ pc many a b c d, wantOk w pc many a b c d = true := by cases w <;> decide +kernel
def Two (es : List En) : Prop := ∃ e ∈ es, ∃ f ∈ es, e ≠ f
theorem want_ok (w : Wy) (pc many : Bool) (ch : Nat → Nat → Bool) : SubE (wantE w pc many ch) ∧ (wantE w pc many ch).length ≤ 12 ∧ Two (wantE w pc many ch) := by
  rw [wantE_ch]
  have h := wantOk_all w pc many (ch 0 1) (ch 0 2) (ch 1 1) (ch 1 2)
  unfold wantOk at h
  generalize wantE w pc many (chs (ch 0 1) (ch 0 2) (ch 1 1) (ch 1 2)) = es at h ⊢
  simp only [Bool.and_eq_true, decide_eq_true_eq, List.all_eq_true] at h
  obtain ⟨⟨⟨h1, h2⟩, h3⟩, h4⟩ := h
  refine ⟨h1, h2, ?_⟩
  cases es with
  | nil => simp at h4
  | cons x xs =>
    refine ⟨x, by simp, (x :: xs).getLast (by simp), List.getLast_mem _, fun z => h3 ?_⟩
    rw [List.getLast?_eq_getLast (by simp), ← z]; rfl
theorem two_ne {es : List En} (h : Two es) : es ≠ [] := by obtain ⟨e, he, _⟩ := h; intro z; rw [z] at he; cases he
theorem two_off {es : List En} (h : Two es) (g : En) : es.filter (fun e => !decide (e = g)) ≠ [] := by
  obtain ⟨e, he, f, hf, hn⟩ := h
  intro z
  by_cases h1 : e = g
  · have : f ∈ es.filter (fun e => !decide (e = g)) := List.mem_filter.mpr ⟨hf, by rw [← h1]; simp; exact fun x => hn x.symm⟩
    rw [z] at this; cases this
  · have : e ∈ es.filter (fun e => !decide (e = g)) := List.mem_filter.mpr ⟨he, by simpa using h1⟩
    rw [z] at this; cases this
theorem seq_es {es : List En} {f : List PyData → Prop} : seqK (.d (esD es)) f ↔ f (es.map En.d) := seq_l
theorem one_es {es : List En} {f : PyData → Prop} : oneK (.d (esD es)) f ↔ f (esD es) := one_d
theorem add_es {es fs : List En} {k : S → Prop} : fAdd (esD es) (.list (fs.map En.d)) k ↔ (es.map En.d).length + (fs.map En.d).length ≤ sizeLine ∧ k (.own ((es ++ fs).map En.d)) := by
  rw [List.map_append]; exact f_addL
theorem ENS_len : ENS.length = 27 := rfl
end GK

namespace GK
open PySem PySem.Spec PyProof.Rows L2 GB
/-! contracts: the store -/
def F_l_stock : FnD := fun ss R => ∃ ns, ss = [.ob (.scr ns)] ∧ ns.length ≤ 63 ∧ R (.ob .jar)
def F_l_draw : FnD := fun ss R => ∃ m : Int, ss = [.ob .jar, .d (.int m)] ∧ 0 < m ∧ m < 1073741824 ∧ ∀ r : Int, 0 ≤ r → r < m → R (.d (.int r))
def F_l_pick : FnD := fun ss R => ∃ xs : List PyData, ss = [.ob .jar, .d (.list xs)] ∧ xs ≠ [] ∧ xs.length < 1000 ∧ ∀ x ∈ xs, R (.d x)
def F_l_shuffled : FnD := fun ss R => ∃ xs : List PyData, ss = [.ob .jar, .d (.list xs)] ∧ xs.length < 1000 ∧ ∀ ys : List PyData, ys.Perm xs → R (.d (.list ys))
/-! the law's -/
def F_l_all_entries : FnD := fun ss R => ss = [] ∧ R (.d (esD ENS))
def F_l_guard : FnD := fun ss R => ∃ es, ∃ p c : Int, ss = [.d (esD es), .d (.int p), .d (.int c)] ∧ SubE es ∧ (0 ≤ p ∧ p < 2) ∧ (0 ≤ c ∧ c < 3) ∧ R (.d (gdD fun w => inL es (.write p.toNat c.toNat w)))
def F_l_book : FnD := fun ss R => ∃ es a b p, ss = [.d (esD es), .d (.list [.str a, .str b]), .d (.bool p)] ∧ SubE es ∧ R (.d (bk es a b p).d)
def F_l_inserts : FnD := fun ss R => ∃ es, ∃ p : Int, ∃ pc, ss = [.d (esD es), .d (.int p), .d (.bool pc)] ∧ SubE es ∧ (0 ≤ p ∧ p < 2) ∧ R (.d (.bool (insH (inL es) p.toNat pc)))
def F_l_is_early : FnD := fun ss R => ∃ es, ss = [.d (esD es)] ∧ SubE es ∧ R (.d (.bool (earlyH (inL es))))
def F_l_ways : FnD := fun ss R => ∃ es pc n, ss = [.d (esD es), .d (.bool pc), .d (.int n)] ∧ SubE es ∧ 1 ≤ n ∧ R (.d (strsD (waysH (inL es) pc n)))
def F_l_wanted : FnD := fun ss R => ∃ (w : Wy) (pc : Bool) (n : Int), ss = [.ob .jar, .d (.str w.z), .d (.bool pc), .d (.int n)] ∧ 1 ≤ n ∧ ∀ ch, R (.d (esD (wantE w pc (decide (1 < n)) ch)))
def F_l_some : FnD := fun ss R => ∃ (pc : Bool) (n : Int), ss = [.ob .jar, .d (.bool pc), .d (.int n)] ∧ 1 ≤ n ∧ ∀ es, SubE es → es.length ≤ 60 → R (.d (esD es))
def F_l_paint : FnD := fun ss R => ss = [.ob .jar] ∧ ∀ a b, Pn a → Pn b → R (.d (.list [.str a, .str b]))
def F_l_drawn : FnD := fun ss R => ∃ n : Int, ss = [.ob .jar, .d (.int n)] ∧ 1 ≤ n ∧ ∀ b : Bo, OkB b → R (.d b.d)
def F_l_is_had : FnD := fun ss R => ∃ (b : Bo) (e : En), ss = [.d b.d, .d e.d] ∧ OkB b ∧ e ∈ ENS ∧ R (.d (.bool (b.has e)))
def F_l_has : FnD := fun ss R => ∃ (b : Bo), ss = [.d b.d] ∧ OkB b ∧ R (.d (esD (ENS.filter b.has)))
def F_l_turned : FnD := fun ss R => ∃ (b : Bo) (e : En) (v : Bool), ss = [.d b.d, .d e.d, .d (.bool v)] ∧ OkB b ∧ e ∈ ENS ∧ R (.d (b.tu e v).d)
def F_law : FnD := fun ss R => ∃ ns, ss = [.ob (.scr ns)] ∧ ns.length ≤ 63 ∧ R (.d (.bool true))
theorem go_law (ns : List Int) (h : ns.length ≤ 63) : F_law [.ob (.scr ns)] fun s => s = .d (.bool true) := ⟨ns, rfl, h, rfl⟩
end GK

set_option maxRecDepth 20000
namespace GK
open PySem PySem.Spec PyProof.Rows L2 GB
theorem s_stock {k : S → Prop} {ns : List Int} : F_l_stock [.ob (.scr ns)] k ↔ ns.length ≤ 63 ∧ k (.ob .jar) := by
  constructor
  · intro ⟨_, e, h⟩; cases e; exact h
  · intro h; exact ⟨_, rfl, h⟩
theorem s_draw {k : S → Prop} {m : Int} : F_l_draw [.ob .jar, .d (.int m)] k ↔ 0 < m ∧ m < 1073741824 ∧ ∀ r : Int, 0 ≤ r → r < m → k (.d (.int r)) := by simp [F_l_draw]
theorem s_pick {k : S → Prop} {xs : List PyData} : F_l_pick [.ob .jar, .d (.list xs)] k ↔ xs ≠ [] ∧ xs.length < 1000 ∧ ∀ x ∈ xs, k (.d x) := by simp [F_l_pick]
theorem s_shuf {k : S → Prop} {xs : List PyData} : F_l_shuffled [.ob .jar, .d (.list xs)] k ↔ xs.length < 1000 ∧ ∀ ys : List PyData, ys.Perm xs → k (.d (.list ys)) := by simp [F_l_shuffled]
theorem s_allE {k : S → Prop} : F_l_all_entries [] k ↔ k (.d (esD ENS)) := by simp [F_l_all_entries]
theorem s_guard {k : S → Prop} {es : List En} {p c : Int} (hs : SubE es) : F_l_guard [.d (esD es), .d (.int p), .d (.int c)] k ↔ (0 ≤ p ∧ p < 2) ∧ (0 ≤ c ∧ c < 3) ∧ k (.d (gdD fun w => inL es (.write p.toNat c.toNat w))) := by
  constructor
  · rintro ⟨es', p', c', e, _, h1, h2, q⟩
    simp only [List.cons.injEq, S.d.injEq, PyData.int.injEq, and_true] at e
    obtain ⟨e, rfl, rfl⟩ := e
    rw [esD_inj e]; exact ⟨h1, h2, q⟩
  · intro ⟨h1, h2, q⟩; exact ⟨es, p, c, rfl, hs, h1, h2, q⟩
theorem s_lins {k : S → Prop} {es : List En} {p : Int} {pc : Bool} (hs : SubE es) : F_l_inserts [.d (esD es), .d (.int p), .d (.bool pc)] k ↔ (0 ≤ p ∧ p < 2) ∧ k (.d (.bool (insH (inL es) p.toNat pc))) := by
  constructor
  · rintro ⟨es', p', pc', e, _, h1, q⟩
    simp only [List.cons.injEq, S.d.injEq, PyData.int.injEq, PyData.bool.injEq, and_true] at e
    obtain ⟨e, rfl, rfl⟩ := e
    rw [esD_inj e]; exact ⟨h1, q⟩
  · intro ⟨h1, q⟩; exact ⟨es, p, pc, rfl, hs, h1, q⟩
theorem s_learly {k : S → Prop} {es : List En} (hs : SubE es) : F_l_is_early [.d (esD es)] k ↔ k (.d (.bool (earlyH (inL es)))) := by
  constructor
  · rintro ⟨es', e, _, q⟩
    have e : esD es = esD es' := by simpa using e
    rw [esD_inj e]; exact q
  · intro q; exact ⟨es, rfl, hs, q⟩
theorem s_lways {k : S → Prop} {es : List En} {pc : Bool} {n : Int} (hs : SubE es) : F_l_ways [.d (esD es), .d (.bool pc), .d (.int n)] k ↔ 1 ≤ n ∧ k (.d (strsD (waysH (inL es) pc n))) := by
  constructor
  · rintro ⟨es', pc', n', e, _, h, q⟩
    simp only [List.cons.injEq, S.d.injEq, PyData.int.injEq, PyData.bool.injEq, and_true] at e
    obtain ⟨e, rfl, rfl⟩ := e
    rw [esD_inj e]; exact ⟨h, q⟩
  · intro ⟨h, q⟩; exact ⟨es, pc, n, rfl, hs, h, q⟩
theorem s_lbook {k : S → Prop} {es : List En} {a b : Str} {p : Bool} (hs : SubE es) : F_l_book [.d (esD es), .d (.list [.str a, .str b]), .d (.bool p)] k ↔ k (.d (bk es a b p).d) := by
  constructor
  · rintro ⟨es', a', b', p', e, _, q⟩
    simp only [List.cons.injEq, S.d.injEq, PyData.list.injEq, PyData.str.injEq, PyData.bool.injEq, and_true] at e
    obtain ⟨e, ⟨rfl, rfl⟩, rfl⟩ := e
    rw [esD_inj e]; exact q
  · intro q; exact ⟨es, a, b, p, rfl, hs, q⟩
theorem s_paint {k : S → Prop} : F_l_paint [.ob .jar] k ↔ ∀ a b, Pn a → Pn b → k (.d (.list [.str a, .str b])) := by simp [F_l_paint]
theorem s_lsome {k : S → Prop} {pc : Bool} {n : Int} : F_l_some [.ob .jar, .d (.bool pc), .d (.int n)] k ↔ 1 ≤ n ∧ ∀ es, SubE es → es.length ≤ 60 → k (.d (esD es)) := by
  constructor
  · rintro ⟨pc', n', e, h⟩; cases e; exact h
  · intro h; exact ⟨pc, n, rfl, h⟩
theorem s_drawn {k : S → Prop} {n : Int} : F_l_drawn [.ob .jar, .d (.int n)] k ↔ 1 ≤ n ∧ ∀ b : Bo, OkB b → k (.d b.d) := by simp [F_l_drawn]
theorem s_lwant {k : S → Prop} {w : Wy} {pc : Bool} {n : Int} : F_l_wanted [.ob .jar, .d (.str w.z), .d (.bool pc), .d (.int n)] k ↔ 1 ≤ n ∧ ∀ ch, k (.d (esD (wantE w pc (decide (1 < n)) ch))) := by
  constructor
  · rintro ⟨w', pc', n', e, h⟩
    simp only [List.cons.injEq, S.d.injEq, PyData.int.injEq, PyData.bool.injEq, PyData.str.injEq, and_true] at e
    obtain ⟨_, e, rfl, rfl⟩ := e
    have : w = w' := by
      revert e
      cases w <;> cases w' <;> first | (intro _; rfl) | (intro e; exact absurd e (by decide +kernel))
    rw [this]; exact h
  · intro h; exact ⟨w, pc, n, rfl, h⟩
theorem s_ishad {k : S → Prop} {b : Bo} {e : En} (ok : OkB b) (he : e ∈ ENS) : F_l_is_had [.d b.d, .d e.d] k ↔ k (.d (.bool (b.has e))) := by
  constructor
  · rintro ⟨b', e', h, ok', he', q⟩
    simp only [List.cons.injEq, S.d.injEq, and_true] at h
    cases en_inj h.2
    rw [d_has ok ok' h.1 e he]; exact q
  · intro q; exact ⟨b, e, rfl, ok, he, q⟩
theorem s_lhas {k : S → Prop} {b : Bo} (ok : OkB b) : F_l_has [.d b.d] k ↔ k (.d (esD (ENS.filter b.has))) := by
  constructor
  · rintro ⟨b', h, ok', q⟩
    have h : b.d = b'.d := by simpa using h
    rw [show ENS.filter b.has = ENS.filter b'.has from List.filter_congr fun e he => d_has ok ok' h e he]; exact q
  · intro q; exact ⟨b, rfl, ok, q⟩
theorem s_turned {k : S → Prop} {b : Bo} {e : En} {v : Bool} (ok : OkB b) (he : e ∈ ENS) (h : k (.d (b.tu e v).d)) : F_l_turned [.d b.d, .d e.d, .d (.bool v)] k := ⟨b, e, v, rfl, ok, he, h⟩
end GK

namespace GK
open PySem PySem.Spec PyProof.Rows L2 GB
def F_entries : FnD := fun ss R => ∃ b : Bo, ss = [.d b.d] ∧ OkB b ∧ R (.d (.tuple (entD b.d)))
def nlE (es : List En) (pc : Bool) (n : Int) : List En := es.filter fun o => !(waysH (inL (es.filter fun e => !decide (e = o))) pc n).isEmpty
def nbE (b : Bo) (n : Int) : List En := ENS.filter fun e => b.has e && !(waysH (b.tu e false).has b.p n).isEmpty
def F_needless : FnE := fun ss R Z => ∃ b n, ss = [.d (Bo.d b), .d (.int n)] ∧ OkB b ∧ if (waysH b.has b.p n).isEmpty = true then Z else R (.d (.tuple ((nbE b n).map En.d)))
def F_is_least : FnD := fun ss R => ∃ b n, ss = [.d (Bo.d b), .d (.int n)] ∧ OkB b ∧ R (.d (.bool (!(waysH b.has b.p n).isEmpty && (nbE b n).isEmpty)))
def sf (b : Bo) (n : Int) : Bool := !(waysH b.has b.p n).isEmpty
def stp (n : Int) (p : Bo) (e : En) : Bo := if sf (p.tu e false) n = true then p.tu e false else p
def lpart (b : Bo) (n : Int) : Bo := (ENS.filter b.has).foldl (stp n) b
def F_least_part : FnE := fun ss R Z => ∃ b n, ss = [.d (Bo.d b), .d (.int n)] ∧ OkB b ∧ if sf b n = true then R (.d (lpart b n).d) else Z
def saidD (b : Bo) (n : Int) : PyData := if sf b n = true then (lpart b n).d else .str "unfit"
def F_l_said : FnD := fun ss R => ∃ b n v, ss = [.d (Bo.d b), .d (.int n), .d (.bool v)] ∧ OkB b ∧ R (.d (saidD b n))
def F_l_is_least : FnD := fun ss R => ∃ es pc n, ss = [.d (esD es), .d (.bool pc), .d (.int n)] ∧ SubE es ∧ es.length ≤ 100 ∧ 1 ≤ n ∧ R (.d (.bool (!(waysH (inL es) pc n).isEmpty && (nlE es pc n).isEmpty)))
def F_l_chosen : FnD := fun ss R => ∃ b t : Bo, ss = [.d b.d, .d t.d] ∧ OkB b ∧ OkB t ∧ R (.d (.list [esD ((ENS.filter b.has).filter t.has)]))
def F_l_is_part : FnD := fun ss R => ∃ b n, ss = [.d (Bo.d b), .d (.int n), .d (lpart b n).d] ∧ OkB b ∧ 1 ≤ n ∧ sf b n = true ∧ R (.d (.bool true))
end GK

set_option maxRecDepth 100000
namespace GK
open PySem PySem.Spec PyProof.Rows L2 GB
/-! the text -/
def topS (i : Nat) : Stmt := PySem.Challenge.pw_guardbooks_k46_whole_least_parts.main.body.getD i (.Pass ⟨0, 0, 0, 0⟩)
abbrev st_l_stock : Stmt := topS 25
abbrev nm_l_stock : List Str := ["script", "flat", "cell"]
theorem sc_l_stock : FnScope nm_l_stock ["script"] (defScope st_l_stock) := ⟨rfl, rfl, rfl, by decide +kernel, rfl, by decide +kernel, by decide +kernel⟩
abbrev st_l_draw : Stmt := topS 26
abbrev nm_l_draw : List Str := ["stock", "size", "great", "turn", "cell", "blend"]
theorem sc_l_draw : FnScope nm_l_draw ["stock", "size"] (defScope st_l_draw) := ⟨rfl, rfl, rfl, by decide +kernel, rfl, by decide +kernel, by decide +kernel⟩
abbrev st_l_pick : Stmt := topS 27
abbrev nm_l_pick : List Str := ["stock", "row"]
theorem sc_l_pick : FnScope nm_l_pick ["stock", "row"] (defScope st_l_pick) := ⟨rfl, rfl, rfl, by decide +kernel, rfl, by decide +kernel, by decide +kernel⟩
abbrev st_l_wanted : Stmt := topS 38
abbrev nm_l_wanted : List Str := ["stock", "way", "pieces", "hands", "found", "phase", "colour"]
theorem sc_l_wanted : FnScope nm_l_wanted ["stock", "way", "pieces", "hands"] (defScope st_l_wanted) := ⟨rfl, rfl, rfl, by decide +kernel, rfl, by decide +kernel, by decide +kernel⟩
abbrev st_l_all_entries : Stmt := topS 29
abbrev nm_l_all_entries : List Str := ["found", "phase", "colour", "word"]
theorem sc_l_all_entries : FnScope nm_l_all_entries [] (defScope st_l_all_entries) := ⟨rfl, rfl, rfl, by decide +kernel, rfl, by decide +kernel, by decide +kernel⟩
abbrev st_l_some : Stmt := topS 39
abbrev nm_l_some : List Str := ["stock", "pieces", "hands", "way", "every", "share", "some", "turn", "gone", "entry"]
theorem sc_l_some : FnScope nm_l_some ["stock", "pieces", "hands"] (defScope st_l_some) := ⟨rfl, rfl, rfl, by decide +kernel, rfl, by decide +kernel, by decide +kernel⟩
abbrev st_l_guard : Stmt := topS 30
abbrev nm_l_guard : List Str := ["some", "phase", "colour", "word"]
theorem sc_l_guard : FnScope nm_l_guard ["some", "phase", "colour"] (defScope st_l_guard) := ⟨rfl, rfl, rfl, by decide +kernel, rfl, by decide +kernel, by decide +kernel⟩
abbrev st_l_book : Stmt := topS 31
abbrev nm_l_book : List Str := ["some", "paint", "pieces", "writes", "reads", "makes", "phase", "colour"]
theorem sc_l_book : FnScope nm_l_book ["some", "paint", "pieces"] (defScope st_l_book) := ⟨rfl, rfl, rfl, by decide +kernel, rfl, by decide +kernel, by decide +kernel⟩
abbrev st_l_paint : Stmt := topS 40
abbrev nm_l_paint : List Str := ["stock"]
theorem sc_l_paint : FnScope nm_l_paint ["stock"] (defScope st_l_paint) := ⟨rfl, rfl, rfl, by decide +kernel, rfl, by decide +kernel, by decide +kernel⟩
abbrev st_entries : Stmt := topS 4
abbrev nm_entries : List Str := ["book", "writes", "reads", "makes", "last", "_", "told", "phase", "colour", "word"]
theorem sc_entries : FnScope nm_entries ["book"] (defScope st_entries) := ⟨rfl, rfl, rfl, by decide +kernel, rfl, by decide +kernel, by decide +kernel⟩
abbrev st_p_heeds_new : Stmt := topS 18
abbrev nm_p_heeds_new : List Str := ["guard"]
theorem sc_p_heeds_new : FnScope nm_p_heeds_new ["guard"] (defScope st_p_heeds_new) := ⟨rfl, rfl, rfl, by decide +kernel, rfl, by decide +kernel, by decide +kernel⟩
abbrev st_inserts : Stmt := topS 17
abbrev nm_inserts : List Str := ["book", "phase", "_", "grey", "black"]
theorem sc_inserts : FnScope nm_inserts ["book", "phase"] (defScope st_inserts) := ⟨rfl, rfl, rfl, by decide +kernel, rfl, by decide +kernel, by decide +kernel⟩
abbrev st_starts_early : Stmt := topS 13
abbrev nm_starts_early : List Str := ["book", "writes", "reads", "makes", "_"]
theorem sc_starts_early : FnScope nm_starts_early ["book"] (defScope st_starts_early) := ⟨rfl, rfl, rfl, by decide +kernel, rfl, by decide +kernel, by decide +kernel⟩
abbrev st_is_closed : Stmt := topS 16
abbrev nm_is_closed : List Str := ["book", "hands"]
theorem sc_is_closed : FnScope nm_is_closed ["book", "hands"] (defScope st_is_closed) := ⟨rfl, rfl, rfl, by decide +kernel, rfl, by decide +kernel, by decide +kernel⟩
abbrev st_p_heeds_old : Stmt := topS 19
abbrev nm_p_heeds_old : List Str := ["book", "colour", "hands", "ahead", "behind"]
theorem sc_p_heeds_old : FnScope nm_p_heeds_old ["book", "colour", "hands"] (defScope st_p_heeds_old) := ⟨rfl, rfl, rfl, by decide +kernel, rfl, by decide +kernel, by decide +kernel⟩
abbrev st_ways : Stmt := topS 14
abbrev nm_ways : List Str := ["book", "hands", "_", "reads", "makes", "last", "found", "made", "greys"]
theorem sc_ways : FnScope nm_ways ["book", "hands"] (defScope st_ways) := ⟨rfl, rfl, rfl, by decide +kernel, rfl, by decide +kernel, by decide +kernel⟩
abbrev st_is_safe : Stmt := topS 15
abbrev nm_is_safe : List Str := ["book", "hands"]
theorem sc_is_safe : FnScope nm_is_safe ["book", "hands"] (defScope st_is_safe) := ⟨rfl, rfl, rfl, by decide +kernel, rfl, by decide +kernel, by decide +kernel⟩
abbrev st_replaced : Stmt := topS 1
abbrev nm_replaced : List Str := ["row", "places", "item", "place"]
theorem sc_replaced : FnScope nm_replaced ["row", "places", "item"] (defScope st_replaced) := ⟨rfl, rfl, rfl, by decide +kernel, rfl, by decide +kernel, by decide +kernel⟩
abbrev st_p_item_at : Stmt := topS 8
abbrev nm_p_item_at : List Str := ["row", "places", "item", "place"]
theorem sc_p_item_at : FnScope nm_p_item_at ["row", "places"] (defScope st_p_item_at) := ⟨rfl, rfl, rfl, by decide +kernel, rfl, by decide +kernel, by decide +kernel⟩
abbrev st_with_made : Stmt := topS 6
abbrev nm_with_made : List Str := ["book", "phase", "colour"]
theorem sc_with_made : FnScope nm_with_made ["book", "phase", "colour"] (defScope st_with_made) := ⟨rfl, rfl, rfl, by decide +kernel, rfl, by decide +kernel, by decide +kernel⟩
abbrev st_p_places_of : Stmt := topS 7
abbrev nm_p_places_of : List Str := ["entry"]
theorem sc_p_places_of : FnScope nm_p_places_of ["entry"] (defScope st_p_places_of) := ⟨rfl, rfl, rfl, by decide +kernel, rfl, by decide +kernel, by decide +kernel⟩
abbrev st_without : Stmt := topS 5
abbrev nm_without : List Str := ["book", "entry", "guard", "word"]
theorem sc_without : FnScope nm_without ["book", "entry"] (defScope st_without) := ⟨rfl, rfl, rfl, by decide +kernel, rfl, by decide +kernel, by decide +kernel⟩
abbrev st_least_part : Stmt := topS 23
abbrev nm_least_part : List Str := ["book", "hands", "part", "entry", "fewer"]
theorem sc_least_part : FnScope nm_least_part ["book", "hands"] (defScope st_least_part) := ⟨rfl, rfl, rfl, by decide +kernel, rfl, by decide +kernel, by decide +kernel⟩
abbrev st_l_said : Stmt := topS 42
abbrev nm_l_said : List Str := ["book", "hands", "is_named", "error"]
theorem sc_l_said : FnScope nm_l_said ["book", "hands", "is_named"] (defScope st_l_said) := ⟨rfl, rfl, rfl, by decide +kernel, rfl, by decide +kernel, by decide +kernel⟩
abbrev st_l_inserts : Stmt := topS 35
abbrev nm_l_inserts : List Str := ["some", "phase", "pieces", "colour"]
theorem sc_l_inserts : FnScope nm_l_inserts ["some", "phase", "pieces"] (defScope st_l_inserts) := ⟨rfl, rfl, rfl, by decide +kernel, rfl, by decide +kernel, by decide +kernel⟩
abbrev st_l_is_early : Stmt := topS 36
abbrev nm_l_is_early : List Str := ["some", "early", "entry"]
theorem sc_l_is_early : FnScope nm_l_is_early ["some"] (defScope st_l_is_early) := ⟨rfl, rfl, rfl, by decide +kernel, rfl, by decide +kernel, by decide +kernel⟩
abbrev st_l_ways : Stmt := topS 37
abbrev nm_l_ways : List Str := ["some", "pieces", "hands", "phases", "found", "is_made", "is_grey", "phase"]
theorem sc_l_ways : FnScope nm_l_ways ["some", "pieces", "hands"] (defScope st_l_ways) := ⟨rfl, rfl, rfl, by decide +kernel, rfl, by decide +kernel, by decide +kernel⟩
abbrev st_l_is_least : Stmt := topS 43
abbrev nm_l_is_least : List Str := ["some", "pieces", "hands", "less", "own", "entry"]
theorem sc_l_is_least : FnScope nm_l_is_least ["some", "pieces", "hands"] (defScope st_l_is_least) := ⟨rfl, rfl, rfl, by decide +kernel, rfl, by decide +kernel, by decide +kernel⟩
abbrev st_l_is_had : Stmt := topS 32
abbrev nm_l_is_had : List Str := ["book", "entry"]
theorem sc_l_is_had : FnScope nm_l_is_had ["book", "entry"] (defScope st_l_is_had) := ⟨rfl, rfl, rfl, by decide +kernel, rfl, by decide +kernel, by decide +kernel⟩
abbrev st_l_has : Stmt := topS 33
abbrev nm_l_has : List Str := ["book", "entry"]
theorem sc_l_has : FnScope nm_l_has ["book"] (defScope st_l_has) := ⟨rfl, rfl, rfl, by decide +kernel, rfl, by decide +kernel, by decide +kernel⟩
abbrev st_l_chosen : Stmt := topS 45
abbrev nm_l_chosen : List Str := ["book", "told", "spot", "phase", "entry", "own"]
theorem sc_l_chosen : FnScope nm_l_chosen ["book", "told"] (defScope st_l_chosen) := ⟨rfl, rfl, rfl, by decide +kernel, rfl, by decide +kernel, by decide +kernel⟩
abbrev st_l_is_part : Stmt := topS 44
abbrev nm_l_is_part : List Str := ["book", "hands", "told", "kept_in", "paint", "colour"]
theorem sc_l_is_part : FnScope nm_l_is_part ["book", "hands", "told"] (defScope st_l_is_part) := ⟨rfl, rfl, rfl, by decide +kernel, rfl, by decide +kernel, by decide +kernel⟩
abbrev st_needless : Stmt := topS 21
abbrev nm_needless : List Str := ["book", "hands", "entry"]
theorem sc_needless : FnScope nm_needless ["book", "hands"] (defScope st_needless) := ⟨rfl, rfl, rfl, by decide +kernel, rfl, by decide +kernel, by decide +kernel⟩
abbrev st_is_least : Stmt := topS 22
abbrev nm_is_least : List Str := ["book", "hands"]
theorem sc_is_least : FnScope nm_is_least ["book", "hands"] (defScope st_is_least) := ⟨rfl, rfl, rfl, by decide +kernel, rfl, by decide +kernel, by decide +kernel⟩
abbrev st_law : Stmt := topS 46
abbrev nm_law : List Str := ["script", "stock", "turn", "hands", "pieces", "some", "book", "known", "told"]
theorem sc_law : FnScope nm_law ["script"] (defScope st_law) := ⟨rfl, rfl, rfl, by decide +kernel, rfl, by decide +kernel, by decide +kernel⟩
abbrev c_PARTS : List (Str × Int) := [("write", 0), ("read", 1), ("make", 2), ("last", 3)]
/-! what the top has written -/
structure Tx (K : PySem.W.Frag) (w : World) (mg : Str → Option Value) where
  a_l_stock : Addr
  d_l_stock : FuncData
  F_l_stock : Fun K "_law_stock" "_law_stock" st_l_stock a_l_stock d_l_stock
  m_l_stock : mg "_law_stock" = some (.ref a_l_stock)
  B_l_stock : Binds K d_l_stock ["script"] []
  a_l_draw : Addr
  d_l_draw : FuncData
  F_l_draw : Fun K "_law_draw" "_law_draw" st_l_draw a_l_draw d_l_draw
  m_l_draw : mg "_law_draw" = some (.ref a_l_draw)
  B_l_draw : Binds K d_l_draw ["stock", "size"] []
  a_l_pick : Addr
  d_l_pick : FuncData
  F_l_pick : Fun K "_law_pick" "_law_pick" st_l_pick a_l_pick d_l_pick
  m_l_pick : mg "_law_pick" = some (.ref a_l_pick)
  B_l_pick : Binds K d_l_pick ["stock", "row"] []
  a_l_wanted : Addr
  d_l_wanted : FuncData
  F_l_wanted : Fun K "_law_wanted" "_law_wanted" st_l_wanted a_l_wanted d_l_wanted
  m_l_wanted : mg "_law_wanted" = some (.ref a_l_wanted)
  B_l_wanted : Binds K d_l_wanted ["stock", "way", "pieces", "hands"] []
  a_l_all_entries : Addr
  d_l_all_entries : FuncData
  F_l_all_entries : Fun K "_law_all_entries" "_law_all_entries" st_l_all_entries a_l_all_entries d_l_all_entries
  m_l_all_entries : mg "_law_all_entries" = some (.ref a_l_all_entries)
  B_l_all_entries : Binds K d_l_all_entries [] []
  a_l_some : Addr
  d_l_some : FuncData
  F_l_some : Fun K "_law_some" "_law_some" st_l_some a_l_some d_l_some
  m_l_some : mg "_law_some" = some (.ref a_l_some)
  B_l_some : Binds K d_l_some ["stock", "pieces", "hands"] []
  a_l_guard : Addr
  d_l_guard : FuncData
  F_l_guard : Fun K "_law_guard" "_law_guard" st_l_guard a_l_guard d_l_guard
  m_l_guard : mg "_law_guard" = some (.ref a_l_guard)
  B_l_guard : Binds K d_l_guard ["some", "phase", "colour"] []
  a_l_book : Addr
  d_l_book : FuncData
  F_l_book : Fun K "_law_book" "_law_book" st_l_book a_l_book d_l_book
  m_l_book : mg "_law_book" = some (.ref a_l_book)
  B_l_book : Binds K d_l_book ["some", "paint", "pieces"] []
  a_l_paint : Addr
  d_l_paint : FuncData
  F_l_paint : Fun K "_law_paint" "_law_paint" st_l_paint a_l_paint d_l_paint
  m_l_paint : mg "_law_paint" = some (.ref a_l_paint)
  B_l_paint : Binds K d_l_paint ["stock"] []
  a_entries : Addr
  d_entries : FuncData
  F_entries : Fun K "entries" "entries" st_entries a_entries d_entries
  m_entries : mg "entries" = some (.ref a_entries)
  B_entries : Binds K d_entries ["book"] []
  a_p_heeds_new : Addr
  d_p_heeds_new : FuncData
  F_p_heeds_new : Fun K "_heeds_new" "_heeds_new" st_p_heeds_new a_p_heeds_new d_p_heeds_new
  m_p_heeds_new : mg "_heeds_new" = some (.ref a_p_heeds_new)
  B_p_heeds_new : Binds K d_p_heeds_new ["guard"] []
  a_inserts : Addr
  d_inserts : FuncData
  F_inserts : Fun K "inserts" "inserts" st_inserts a_inserts d_inserts
  m_inserts : mg "inserts" = some (.ref a_inserts)
  B_inserts : Binds K d_inserts ["book", "phase"] []
  a_starts_early : Addr
  d_starts_early : FuncData
  F_starts_early : Fun K "starts_early" "starts_early" st_starts_early a_starts_early d_starts_early
  m_starts_early : mg "starts_early" = some (.ref a_starts_early)
  B_starts_early : Binds K d_starts_early ["book"] []
  a_is_closed : Addr
  d_is_closed : FuncData
  F_is_closed : Fun K "is_closed" "is_closed" st_is_closed a_is_closed d_is_closed
  m_is_closed : mg "is_closed" = some (.ref a_is_closed)
  B_is_closed : Binds K d_is_closed ["book", "hands"] []
  a_p_heeds_old : Addr
  d_p_heeds_old : FuncData
  F_p_heeds_old : Fun K "_heeds_old" "_heeds_old" st_p_heeds_old a_p_heeds_old d_p_heeds_old
  m_p_heeds_old : mg "_heeds_old" = some (.ref a_p_heeds_old)
  B_p_heeds_old : Binds K d_p_heeds_old ["book", "colour", "hands"] []
  a_ways : Addr
  d_ways : FuncData
  F_ways : Fun K "ways" "ways" st_ways a_ways d_ways
  m_ways : mg "ways" = some (.ref a_ways)
  B_ways : Binds K d_ways ["book", "hands"] []
  a_is_safe : Addr
  d_is_safe : FuncData
  F_is_safe : Fun K "is_safe" "is_safe" st_is_safe a_is_safe d_is_safe
  m_is_safe : mg "is_safe" = some (.ref a_is_safe)
  B_is_safe : Binds K d_is_safe ["book", "hands"] []
  a_replaced : Addr
  d_replaced : FuncData
  F_replaced : Fun K "replaced" "replaced" st_replaced a_replaced d_replaced
  m_replaced : mg "replaced" = some (.ref a_replaced)
  B_replaced : Binds K d_replaced ["row", "places", "item"] []
  a_p_item_at : Addr
  d_p_item_at : FuncData
  F_p_item_at : Fun K "_item_at" "_item_at" st_p_item_at a_p_item_at d_p_item_at
  m_p_item_at : mg "_item_at" = some (.ref a_p_item_at)
  B_p_item_at : Binds K d_p_item_at ["row", "places"] []
  a_with_made : Addr
  d_with_made : FuncData
  F_with_made : Fun K "with_made" "with_made" st_with_made a_with_made d_with_made
  m_with_made : mg "with_made" = some (.ref a_with_made)
  B_with_made : Binds K d_with_made ["book", "phase", "colour"] []
  a_p_places_of : Addr
  d_p_places_of : FuncData
  F_p_places_of : Fun K "_places_of" "_places_of" st_p_places_of a_p_places_of d_p_places_of
  m_p_places_of : mg "_places_of" = some (.ref a_p_places_of)
  B_p_places_of : Binds K d_p_places_of ["entry"] []
  a_without : Addr
  d_without : FuncData
  F_without : Fun K "without" "without" st_without a_without d_without
  m_without : mg "without" = some (.ref a_without)
  B_without : Binds K d_without ["book", "entry"] []
  a_least_part : Addr
  d_least_part : FuncData
  F_least_part : Fun K "least_part" "least_part" st_least_part a_least_part d_least_part
  m_least_part : mg "least_part" = some (.ref a_least_part)
  B_least_part : Binds K d_least_part ["book", "hands"] []
  a_l_said : Addr
  d_l_said : FuncData
  F_l_said : Fun K "_law_said" "_law_said" st_l_said a_l_said d_l_said
  m_l_said : mg "_law_said" = some (.ref a_l_said)
  B_l_said : Binds K d_l_said ["book", "hands", "is_named"] []
  a_l_inserts : Addr
  d_l_inserts : FuncData
  F_l_inserts : Fun K "_law_inserts" "_law_inserts" st_l_inserts a_l_inserts d_l_inserts
  m_l_inserts : mg "_law_inserts" = some (.ref a_l_inserts)
  B_l_inserts : Binds K d_l_inserts ["some", "phase", "pieces"] []
  a_l_is_early : Addr
  d_l_is_early : FuncData
  F_l_is_early : Fun K "_law_is_early" "_law_is_early" st_l_is_early a_l_is_early d_l_is_early
  m_l_is_early : mg "_law_is_early" = some (.ref a_l_is_early)
  B_l_is_early : Binds K d_l_is_early ["some"] []
  a_l_ways : Addr
  d_l_ways : FuncData
  F_l_ways : Fun K "_law_ways" "_law_ways" st_l_ways a_l_ways d_l_ways
  m_l_ways : mg "_law_ways" = some (.ref a_l_ways)
  B_l_ways : Binds K d_l_ways ["some", "pieces", "hands"] []
  a_l_is_least : Addr
  d_l_is_least : FuncData
  F_l_is_least : Fun K "_law_is_least" "_law_is_least" st_l_is_least a_l_is_least d_l_is_least
  m_l_is_least : mg "_law_is_least" = some (.ref a_l_is_least)
  B_l_is_least : Binds K d_l_is_least ["some", "pieces", "hands"] []
  a_l_is_had : Addr
  d_l_is_had : FuncData
  F_l_is_had : Fun K "_law_is_had" "_law_is_had" st_l_is_had a_l_is_had d_l_is_had
  m_l_is_had : mg "_law_is_had" = some (.ref a_l_is_had)
  B_l_is_had : Binds K d_l_is_had ["book", "entry"] []
  a_l_has : Addr
  d_l_has : FuncData
  F_l_has : Fun K "_law_has" "_law_has" st_l_has a_l_has d_l_has
  m_l_has : mg "_law_has" = some (.ref a_l_has)
  B_l_has : Binds K d_l_has ["book"] []
  a_l_chosen : Addr
  d_l_chosen : FuncData
  F_l_chosen : Fun K "_law_chosen" "_law_chosen" st_l_chosen a_l_chosen d_l_chosen
  m_l_chosen : mg "_law_chosen" = some (.ref a_l_chosen)
  B_l_chosen : Binds K d_l_chosen ["book", "told"] []
  a_l_is_part : Addr
  d_l_is_part : FuncData
  F_l_is_part : Fun K "_law_is_part" "_law_is_part" st_l_is_part a_l_is_part d_l_is_part
  m_l_is_part : mg "_law_is_part" = some (.ref a_l_is_part)
  B_l_is_part : Binds K d_l_is_part ["book", "hands", "told"] []
  a_needless : Addr
  d_needless : FuncData
  F_needless : Fun K "needless" "needless" st_needless a_needless d_needless
  m_needless : mg "needless" = some (.ref a_needless)
  B_needless : Binds K d_needless ["book", "hands"] []
  a_is_least : Addr
  d_is_least : FuncData
  F_is_least : Fun K "is_least" "is_least" st_is_least a_is_least d_is_least
  m_is_least : mg "is_least" = some (.ref a_is_least)
  B_is_least : Binds K d_is_least ["book", "hands"] []
  a_law : Addr
  d_law : FuncData
  F_law : Fun K "law" "law" st_law a_law d_law
  m_law : mg "law" = some (.ref a_law)
  B_law : Binds K d_law ["script"] []
  P_least_part_1_0 : Perm K d_least_part ["book", "hands"] ["hands", "book"] (pick [1, 0]) (pick [1, 0]) (pick [1, 0])
  q_PARTS : Addr
  m_PARTS : mg "PARTS" = some (.ref q_PARTS)
  x_PARTS : DctOk K w q_PARTS c_PARTS
  a_GuardError : Addr
  m_GuardError : mg "GuardError" = some (.ref a_GuardError)
  a_Unfit : Addr
  m_Unfit : mg "Unfit" = some (.ref a_Unfit)
  x_Unfit : ExC K mg "Unfit" a_Unfit
  i_Unfit_GuardError : ExI K a_Unfit a_GuardError
  b_bool : mg "bool" = none
  b_int : mg "int" = none
  b_isinstance : mg "isinstance" = none
  b_len : mg "len" = none
  b_range : mg "range" = none
  b_repr : mg "repr" = none
  b_sum : mg "sum" = none
  b_tuple : mg "tuple" = none
/-! the readings -/
def rd_l_stock : TSd := (dSeq (dSet 1 (dLc (dISeq (dFz (dScr 0 63))) [2] (dgName 2) dYes (dFz (dIf (dB (dOp fGe (dVar 2) (dK (.int 0)))) (dOp fMul (dK (.int 2)) (dVar 2)) (dOp fSub (dFz (dOp fMul (dNeg (dK (.int 2))) (dVar 2))) (dK (.int 1))))))) (dFixS 1 (dStock (dLc (dISeq (dVar 1)) [2] (dgName 2) (dB (dOp fGe (dVar 2) (dOp fPow (dK (.int 10)) (dK (.int 15))))) (dVar 2)) (dOp fAdd (dVar 1) (dFz (dLst (dCons (dFz (dOp fAdd (dN fLen (dCons (dVar 1) dNil)) (dK (.int 2846)))) dNil)))) (dN fSum (dCons (dVar 1) dNil)))))
def rd_l_draw : TSd := (dSeq (dJPop 0 2 1 (dRet (dOp fMod (dN fInt (dCons (dVar 2) dNil)) (dVar 1)))) (dSeq (dJPut 0 (dOp fAdd (dJInt 0) (dK (.int 1)))) (dSeq (dSet 3 (dJInt 0)) (dSeq (dSet 4 (dOp fMod (dN fInt (dCons (dJMix 0 3) dNil)) (dK (.int 1000000007)))) (dSeq (dSet 5 (dOp fMod (dN fInt (dCons (dFz (dOp fAdd (dFz (dOp fAdd (dFz (dOp fMul (dVar 4) (dK (.int 48271)))) (dFz (dOp fMul (dOp fMod (dN fInt (dCons (dJInt 0) dNil)) (dK (.int 998244353))) (dK (.int 69621)))))) (dFz (dOp fMul (dVar 3) (dK (.int 2654435761)))))) dNil)) (dK (.int 4294967291)))) (dSeq (dSet 5 (dOp fMod (dN fInt (dCons (dFz (dOp fAdd (dFz (dOp fAdd (dFz (dOp fMul (dVar 5) (dVar 5))) (dFz (dOp fMul (dVar 3) (dK (.int 362437)))))) (dVar 4))) dNil)) (dK (.int 4294967279)))) (dRet (dOp fMod (dOp fDiv (dOp fMod (dN fInt (dCons (dFz (dOp fAdd (dFz (dOp fMul (dVar 5) (dK (.int 40692)))) (dFz (dOp fMul (dVar 3) (dK (.int 65537)))))) dNil)) (dK (.int 4294967231))) (dK (.int 4096))) (dVar 1)))))))))
def rd_l_pick : TSd := (dRet (dOp fIx (dVar 1) (dCall F_l_draw 2 (dCons (dVar 0) (dCons (dN fLen (dCons (dVar 1) dNil)) dNil)))))
def rd_l_wanted : TSd := (dSeq (dSet 4 (dLst (dCons (dIf (dB (dOp fEq (dVar 1) (dK (.str "last")))) (dTup (dCons (dK (.str "last")) dNil)) (dTup (dCons (dK (.str "make")) (dCons (dK (.int 1)) dNil)))) dNil))) (dSeq (dFor (dISeq (dFz (dOp fAdd (dFz (dOp fMul (dFz (dLst (dCons (dK (.int 0)) dNil))) (dN fInt (dCons (dOp fGt (dVar 3) (dK (.int 1))) dNil)))) (dFz (dOp fMul (dFz (dLst (dCons (dK (.int 1)) dNil))) (dN fInt (dCons (dOp fEq (dVar 1) (dK (.str "last"))) dNil))))))) (dgName 5) (dFor (dISeq (dIf (dB (dVar 2)) (dTup (dCons (dK (.int 1)) (dCons (dK (.int 2)) dNil))) (dTup (dCons (dK (.int 2)) dNil)))) (dgName 6) (dDrop (dAppend 4 (dTup (dCons (dK (.str "write")) (dCons (dVar 5) (dCons (dVar 6) (dCons (dCall F_l_pick 2 (dCons (dVar 0) (dCons (dFz (dLst (dCons (dK (.str "again")) (dCons (dK (.str "new")) dNil)))) dNil))) dNil))))))))) (dSeq (dFor (dISeq (dFz (dIf (dB (dOp fInP (dVar 1) (dTup (dCons (dK (.str "child")) (dCons (dK (.str "old")) dNil))))) (dOp fAdd (dFz (dOp fMul (dFz (dLst (dCons (dK (.int 0)) dNil))) (dN fInt (dCons (dOp fGt (dVar 3) (dK (.int 1))) dNil)))) (dFz (dLst (dCons (dK (.int 1)) dNil)))) (dLst dNil)))) (dgName 5) (dSeq (dDrop (dAppend 4 (dTup (dCons (dK (.str "write")) (dCons (dVar 5) (dCons (dK (.int 1)) (dCons (dK (.str "old")) dNil))))))) (dDrop (dExtend 4 (dFz (dOp fMul (dFz (dLst (dCons (dTup (dCons (dK (.str "write")) (dCons (dVar 5) (dCons (dK (.int 0)) (dCons (dK (.str "old")) dNil))))) dNil))) (dN fInt (dCons (dOp fEq (dVar 1) (dK (.str "old"))) dNil)))))))) (dSeq (dIfS (dB (dOp fInP (dVar 1) (dTup (dCons (dK (.str "child")) (dCons (dK (.str "read")) dNil))))) (dDrop (dAppend 4 (dIf (dB (dOp fEq (dVar 1) (dK (.str "child")))) (dTup (dCons (dK (.str "read")) (dCons (dK (.int 1)) (dCons (dK (.int 0)) dNil)))) (dTup (dCons (dK (.str "read")) (dCons (dK (.int 1)) (dCons (dK (.int 1)) dNil))))))) dNext) (dFixS 4 (dRet (dVar 4)))))))
def rd_l_all_entries : TSd := (dSeq (dSet 0 (dLst (dCons (dTup (dCons (dK (.str "last")) dNil)) (dCons (dTup (dCons (dK (.str "make")) (dCons (dK (.int 0)) dNil))) (dCons (dTup (dCons (dK (.str "make")) (dCons (dK (.int 1)) dNil))) dNil))))) (dSeq (dFor (dISeq (dTup (dCons (dK (.int 0)) (dCons (dK (.int 1)) dNil)))) (dgName 1) (dDrop (dExtend 0 (dFz (dLc (dIRng (dK (.int 3))) [2] (dgName 2) dYes (dTup (dCons (dK (.str "read")) (dCons (dVar 1) (dCons (dVar 2) dNil))))))))) (dSeq (dFor (dISeq (dTup (dCons (dK (.int 0)) (dCons (dK (.int 1)) dNil)))) (dgName 1) (dFor (dIRng (dK (.int 3))) (dgName 2) (dDrop (dExtend 0 (dFz (dLc (dISeq (dTup (dCons (dK (.str "again")) (dCons (dK (.str "new")) (dCons (dK (.str "old")) dNil))))) [3] (dgName 3) dYes (dTup (dCons (dK (.str "write")) (dCons (dVar 1) (dCons (dVar 2) (dCons (dVar 3) dNil))))))))))) (dFixS 0 (dRet (dVar 0))))))
def rd_l_some : TSd := (dSeq (dPar 3 4 (dCall F_l_draw 2 (dCons (dVar 0) (dCons (dK (.int 7)) dNil))) (dCall F_l_all_entries 0 dNil)) (dSeq (dIfS (dB (dOp fLt (dVar 3) (dK (.int 2)))) (dSeq (dSet 5 (dCall F_l_pick 2 (dCons (dVar 0) (dCons (dFz (dLst (dCons (dK (.int 1)) (dCons (dK (.int 2)) (dCons (dK (.int 3)) (dCons (dK (.int 5)) dNil)))))) dNil)))) (dRet (dFz (dLc (dISeq (dVar 4)) [9] (dgName 9) (dB (dOp fLt (dCall F_l_draw 2 (dCons (dVar 0) (dCons (dK (.int 6)) dNil))) (dVar 5))) (dVar 9))))) dNext) (dSeq (dSet 6 (dCall F_l_wanted 4 (dCons (dVar 0) (dCons (dCall F_l_pick 2 (dCons (dVar 0) (dCons (dFz (dLst (dCons (dK (.str "child")) (dCons (dK (.str "last")) (dCons (dK (.str "old")) (dCons (dK (.str "read")) dNil)))))) dNil))) (dCons (dVar 1) (dCons (dVar 2) dNil)))))) (dSeq (dSet 5 (dCall F_l_pick 2 (dCons (dVar 0) (dCons (dFz (dLst (dCons (dK (.int 1)) (dCons (dK (.int 2)) (dCons (dK (.int 6)) dNil))))) dNil)))) (dSeq (dSet 6 (dFz (dOp fAdd (dVar 6) (dFz (dLc (dISeq (dVar 4)) [9] (dgName 9) (dAnd (dB (dOp fNotIn (dVar 9) (dVar 6))) (dB (dOp fLt (dCall F_l_draw 2 (dCons (dVar 0) (dCons (dK (.int 12)) dNil))) (dVar 5)))) (dVar 9)))))) (dSeq (dFor (dIRng (dOp fIx (dFz (dLst (dCons (dK (.int 0)) (dCons (dK (.int 0)) (dCons (dK (.int 0)) (dCons (dK (.int 0)) (dCons (dK (.int 1)) (dCons (dK (.int 1)) (dCons (dK (.int 2)) dNil))))))))) (dVar 3))) (dgName 7) (dSeq (dSet 8 (dCall F_l_pick 2 (dCons (dVar 0) (dCons (dVar 6) dNil)))) (dSet 6 (dFz (dLc (dISeq (dVar 6)) [9] (dgName 9) (dB (dOp fNe (dVar 9) (dVar 8))) (dVar 9)))))) (dRet (dVar 6))))))))
def rd_l_guard : TSd := (dRet (dN fTuple (dCons (dFz (dLc (dISeq (dTup (dCons (dK (.str "again")) (dCons (dK (.str "new")) (dCons (dK (.str "old")) dNil))))) [3] (dgName 3) (dB (dOp fIn (dTup (dCons (dK (.str "write")) (dCons (dVar 1) (dCons (dVar 2) (dCons (dVar 3) dNil))))) (dVar 0))) (dVar 3))) dNil)))
def rd_l_book : TSd := (dSeq (dPar3 3 4 5 (dLst dNil) (dLst dNil) (dLst dNil)) (dSeq (dFor (dISeq (dTup (dCons (dK (.int 0)) (dCons (dK (.int 1)) dNil)))) (dgName 6) (dSeq (dDrop (dAppend 3 (dN fTuple (dCons (dFz (dLc (dIRng (dK (.int 3))) [7] (dgName 7) dYes (dCall F_l_guard 3 (dCons (dVar 0) (dCons (dVar 6) (dCons (dVar 7) dNil)))))) dNil)))) (dSeq (dDrop (dAppend 4 (dN fTuple (dCons (dFz (dLc (dIRng (dK (.int 3))) [7] (dgName 7) dYes (dOp fIn (dTup (dCons (dK (.str "read")) (dCons (dVar 6) (dCons (dVar 7) dNil)))) (dVar 0)))) dNil)))) (dDrop (dAppend 5 (dIf (dB (dOp fIn (dTup (dCons (dK (.str "make")) (dCons (dVar 6) dNil))) (dVar 0))) (dOp fIx (dVar 1) (dVar 6)) (dK (.str "white")))))))) (dRet (dTup (dCons (dN1 fTuple 3) (dCons (dN1 fTuple 4) (dCons (dN1 fTuple 5) (dCons (dOp fIn (dTup (dCons (dK (.str "last")) dNil)) (dVar 0)) (dCons (dVar 2) dNil)))))))))
def rd_l_paint : TSd := (dRet (dFz (dLst (dCons (dCall F_l_pick 2 (dCons (dVar 0) (dCons (dFz (dLst (dCons (dK (.str "black")) (dCons (dK (.str "black")) (dCons (dK (.str "grey")) dNil))))) dNil))) (dCons (dCall F_l_pick 2 (dCons (dVar 0) (dCons (dFz (dLst (dCons (dK (.str "black")) (dCons (dK (.str "black")) (dCons (dK (.str "grey")) dNil))))) dNil))) dNil)))))
def rd_entries : TSd := (dSeq (dAsg (dVar 0) (dgTup 5 (dgCons (dgName 1) (dgCons (dgName 2) (dgCons (dgName 3) (dgCons (dgName 4) (dgCons (dgName 5) dgNil))))))) (dSeq (dSet 6 (dIf (dB (dVar 4)) (dLst (dCons (dTup (dCons (dK (.str "last")) dNil)) dNil)) (dLst dNil))) (dSeq (dFor (dIRng (dK (.int 2))) (dgName 7) (dIfS (dB (dOp fNe (dOp fIx (dVar 3) (dVar 7)) (dK (.str "white")))) (dDrop (dAppend 6 (dTup (dCons (dK (.str "make")) (dCons (dVar 7) dNil))))) dNext)) (dSeq (dFor (dIRng (dK (.int 2))) (dgName 7) (dFor (dIRng (dK (.int 3))) (dgName 8) (dIfS (dB (dOp fIx (dOp fIx (dVar 2) (dVar 7)) (dVar 8))) (dDrop (dAppend 6 (dTup (dCons (dK (.str "read")) (dCons (dVar 7) (dCons (dVar 8) dNil)))))) dNext))) (dSeq (dFor (dIRng (dK (.int 2))) (dgName 7) (dFor (dIRng (dK (.int 3))) (dgName 8) (dFor (dISeq (dOp fIx (dOp fIx (dVar 1) (dVar 7)) (dVar 8))) (dgName 9) (dDrop (dAppend 6 (dTup (dCons (dK (.str "write")) (dCons (dVar 7) (dCons (dVar 8) (dCons (dVar 9) dNil)))))))))) (dRet (dN1 fTuple 6)))))))
def rd_p_heeds_new : TSd := (dRet (dOrV (dOp fIn (dK (.str "new")) (dVar 0)) (dOp fIn (dK (.str "again")) (dVar 0))))
def rd_inserts : TSd := (dSeq (dAsg (dOp fIx (dOp fIx (dVar 0) (dK (.int 0))) (dVar 1)) (dgTup 3 (dgCons (dgName 2) (dgCons (dgName 3) (dgCons (dgName 4) dgNil))))) (dRet (dAndV (dCall F_p_heeds_new 1 (dCons (dVar 4) dNil)) (dOrV (dNotV (dOp fIx (dVar 0) (dK (.int 4)))) (dCall F_p_heeds_new 1 (dCons (dVar 3) dNil))))))
def rd_starts_early : TSd := (dSeq (dAsg (dVar 0) (dgTup 5 (dgCons (dgName 1) (dgCons (dgName 2) (dgCons (dgName 3) (dgCons (dgName 4) (dgCons (dgName 4) dgNil))))))) (dRet (dOrV (dOp fIn (dK (.str "new")) (dOp fIx (dOp fIx (dVar 1) (dK (.int 0))) (dK (.int 0)))) (dOrV (dOp fIn (dK (.str "old")) (dOp fIx (dOp fIx (dVar 1) (dK (.int 0))) (dK (.int 0)))) (dOrV (dOp fIx (dOp fIx (dVar 2) (dK (.int 0))) (dK (.int 0))) (dOp fNe (dOp fIx (dVar 3) (dK (.int 0))) (dK (.str "white"))))))))
def rd_is_closed : TSd := (dRet (dOrV (dCall F_inserts 2 (dCons (dVar 0) (dCons (dK (.int 0)) dNil))) (dAndV (dOp fEq (dVar 1) (dK (.int 1))) (dNotV (dCall F_starts_early 1 (dCons (dVar 0) dNil))))))
def rd_p_heeds_old : TSd := (dSeq (dAsg (dOp fIx (dVar 0) (dK (.int 0))) (dgTup 2 (dgCons (dgName 3) (dgCons (dgName 4) dgNil)))) (dRet (dAndV (dOp fIn (dK (.str "old")) (dOp fIx (dVar 4) (dVar 1))) (dOrV (dOp fEq (dVar 2) (dK (.int 1))) (dOp fIn (dK (.str "old")) (dOp fIx (dVar 3) (dVar 1)))))))
def rd_ways : TSd := (dSeq (dIfS (dNot (dB (dCall F_is_closed 2 (dCons (dVar 0) (dCons (dVar 1) dNil))))) (dRet (dTup dNil)) dNext) (dSeq (dAsg (dVar 0) (dgTup 5 (dgCons (dgName 2) (dgCons (dgName 3) (dgCons (dgName 4) (dgCons (dgName 5) (dgCons (dgName 2) dgNil))))))) (dSeq (dSet 6 (dLst dNil)) (dSeq (dSet 7 (dOp fNe (dOp fIx (dVar 4) (dK (.int 1))) (dK (.str "white")))) (dSeq (dSet 8 (dAndV (dVar 7) (dCall F_p_heeds_old 3 (dCons (dVar 0) (dCons (dK (.int 1)) (dCons (dVar 1) dNil)))))) (dSeq (dIfS (dAnd (dB (dVar 8)) (dB (dOp fIx (dOp fIx (dVar 3) (dK (.int 1))) (dK (.int 0))))) (dDrop (dAppend 6 (dK (.str "child")))) dNext) (dSeq (dIfS (dAnd (dB (dVar 5)) (dB (dCall F_inserts 2 (dCons (dVar 0) (dCons (dK (.int 1)) dNil))))) (dDrop (dAppend 6 (dK (.str "last")))) dNext) (dSeq (dIfS (dAnd (dB (dVar 8)) (dB (dCall F_p_heeds_old 3 (dCons (dVar 0) (dCons (dK (.int 0)) (dCons (dVar 1) dNil)))))) (dDrop (dAppend 6 (dK (.str "old")))) dNext) (dSeq (dIfS (dAnd (dB (dVar 7)) (dB (dOp fIx (dOp fIx (dVar 3) (dK (.int 1))) (dK (.int 1))))) (dDrop (dAppend 6 (dK (.str "read")))) dNext) (dRet (dN1 fTuple 6)))))))))))
def rd_is_safe : TSd := (dRet (dOp fGt (dN fLen (dCons (dCall F_ways 2 (dCons (dVar 0) (dCons (dVar 1) dNil))) dNil)) (dK (.int 0))))
def rd_replaced (n : Nat) : TSd := (dSeq (dIfS (dNot (dTu (dVar 1))) (dRet (dVar 2)) dNext) (dSeq (dSet 3 (dOp fIx (dVar 1) (dK (.int 0)))) (dRet (dFz (dOp fAdd (dFz (dOp fAdd (dFz (dCut (dVar 0) dONone (dOSome (dVar 3)))) (dTup (dCons (dCall (G_replaced n) 3 (dCons (dOp fIx (dVar 0) (dVar 3)) (dCons (dFz (dCut (dVar 1) (dOSome (dK (.int 1))) dONone)) (dCons (dVar 2) dNil)))) dNil)))) (dFz (dCut (dVar 0) (dOSome (dOp fAdd (dVar 3) (dK (.int 1)))) dONone)))))))
def rd_p_item_at : TSd := (dSeq (dSet 2 (dVar 0)) (dSeq (dFor (dISeq (dVar 1)) (dgName 3) (dSet 2 (dOp fIx (dVar 2) (dVar 3)))) (dRet (dVar 2))))
def rd_with_made : TSd := (dRet (dCall F_replaced 3 (dCons (dVar 0) (dCons (dTup (dCons (dDct c_PARTS (dK (.str "make"))) (dCons (dVar 1) dNil))) (dCons (dVar 2) dNil)))))
def rd_p_places_of : TSd := (dRet (dFz (dOp fAdd (dTup (dCons (dDct c_PARTS (dOp fIx (dVar 0) (dK (.int 0)))) dNil)) (dFz (dCut (dVar 0) (dOSome (dK (.int 1))) (dOSome (dK (.int 3))))))))
def rd_without : TSd := (dSeq (dIfS (dB (dOp fEq (dOp fIx (dVar 1) (dK (.int 0))) (dK (.str "write")))) (dSeq (dSet 2 (dCall F_p_item_at 2 (dCons (dVar 0) (dCons (dCall F_p_places_of 1 (dCons (dVar 1) dNil)) dNil)))) (dRet (dCall F_replaced 3 (dCons (dVar 0) (dCons (dCall F_p_places_of 1 (dCons (dVar 1) dNil)) (dCons (dN fTuple (dCons (dFz (dLc (dISeq (dVar 2)) [3] (dgName 3) (dB (dOp fNe (dVar 3) (dOp fIx (dVar 1) (dK (.int 3))))) (dVar 3))) dNil)) dNil)))))) dNext) (dSeq (dIfS (dB (dOp fEq (dOp fIx (dVar 1) (dK (.int 0))) (dK (.str "make")))) (dRet (dCall F_with_made 3 (dCons (dVar 0) (dCons (dOp fIx (dVar 1) (dK (.int 1))) (dCons (dK (.str "white")) dNil))))) dNext) (dRet (dCall F_replaced 3 (dCons (dVar 0) (dCons (dCall F_p_places_of 1 (dCons (dVar 1) dNil)) (dCons (dK (.bool false)) dNil)))))))
def rd_least_part (Z : Prop) : TSd := (dSeq (dIfS (dNot (dB (dCall F_is_safe 2 (dCons (dVar 0) (dCons (dVar 1) dNil))))) (dRaise Z) dNext) (dSeq (dSet 2 (dVar 0)) (dSeq (dFor (dISeq (dCall F_entries 1 (dCons (dVar 0) dNil))) (dgName 3) (dSeq (dSet 4 (dCall F_without 2 (dCons (dVar 2) (dCons (dVar 3) dNil)))) (dIfS (dB (dCall F_is_safe 2 (dCons (dVar 4) (dCons (dVar 1) dNil)))) (dSet 2 (dVar 4)) dNext))) (dRet (dVar 2)))))
def rd_l_said : TSd := (dTry (fun Z => (dRet (dIf (dB (dVar 2)) (dCallKX F_least_part 2 (fun ss => pick [1, 0] ss) Z (dCons (dVar 1) (dCons (dVar 0) dNil))) (dCallX F_least_part 2 Z (dCons (dVar 0) (dCons (dVar 1) dNil)))))) 3 (dRet (dIf (dB (dK (.bool true))) (dK (.str "unfit")) (dK (.str "other")))))
def rd_l_inserts : TSd := (dSeq (dFor (dISeq (dIf (dB (dVar 2)) (dTup (dCons (dK (.int 1)) (dCons (dK (.int 2)) dNil))) (dTup (dCons (dK (.int 2)) dNil)))) (dgName 3) (dIfS (dAnd (dB (dOp fNotIn (dTup (dCons (dK (.str "write")) (dCons (dVar 1) (dCons (dVar 3) (dCons (dK (.str "new")) dNil))))) (dVar 0))) (dB (dOp fNotIn (dTup (dCons (dK (.str "write")) (dCons (dVar 1) (dCons (dVar 3) (dCons (dK (.str "again")) dNil))))) (dVar 0)))) (dRet (dK (.bool false))) dNext)) (dRet (dK (.bool true))))
def rd_l_is_early : TSd := (dSeq (dSet 1 (dFz (dLst (dCons (dTup (dCons (dK (.str "make")) (dCons (dK (.int 0)) dNil))) (dCons (dTup (dCons (dK (.str "read")) (dCons (dK (.int 0)) (dCons (dK (.int 0)) dNil)))) (dCons (dTup (dCons (dK (.str "write")) (dCons (dK (.int 0)) (dCons (dK (.int 0)) (dCons (dK (.str "new")) dNil))))) (dCons (dTup (dCons (dK (.str "write")) (dCons (dK (.int 0)) (dCons (dK (.int 0)) (dCons (dK (.str "old")) dNil))))) dNil))))))) (dRet (dOp fNe (dFz (dLc (dISeq (dVar 1)) [2] (dgName 2) (dB (dOp fIn (dVar 2) (dVar 0))) (dVar 2))) (dFz (dLst dNil)))))
def rd_l_ways : TSd := (dSeq (dIfS (dAnd (dNot (dB (dCall F_l_inserts 3 (dCons (dVar 0) (dCons (dK (.int 0)) (dCons (dVar 1) dNil)))))) (dOr (dB (dOp fGt (dVar 2) (dK (.int 1)))) (dB (dCall F_l_is_early 1 (dCons (dVar 0) dNil))))) (dRet (dTup dNil)) dNext) (dSeq (dPar3 3 4 5 (dIf (dB (dOp fGt (dVar 2) (dK (.int 1)))) (dTup (dCons (dK (.int 0)) (dCons (dK (.int 1)) dNil))) (dTup (dCons (dK (.int 1)) dNil))) (dLst dNil) (dOp fIn (dTup (dCons (dK (.str "make")) (dCons (dK (.int 1)) dNil))) (dVar 0))) (dSeq (dSet 6 (dOp fEq (dFz (dLc (dISeq (dVar 3)) [7] (dgName 7) (dB (dOp fNotIn (dTup (dCons (dK (.str "write")) (dCons (dVar 7) (dCons (dK (.int 1)) (dCons (dK (.str "old")) dNil))))) (dVar 0))) (dVar 7))) (dFz (dLst dNil)))) (dSeq (dIfS (dAnd (dB (dVar 5)) (dAnd (dB (dVar 6)) (dB (dOp fIn (dTup (dCons (dK (.str "read")) (dCons (dK (.int 1)) (dCons (dK (.int 0)) dNil)))) (dVar 0))))) (dDrop (dAppend 4 (dK (.str "child")))) dNext) (dSeq (dIfS (dAnd (dB (dOp fIn (dTup (dCons (dK (.str "last")) dNil)) (dVar 0))) (dB (dCall F_l_inserts 3 (dCons (dVar 0) (dCons (dK (.int 1)) (dCons (dVar 1) dNil)))))) (dDrop (dAppend 4 (dK (.str "last")))) dNext) (dSeq (dIfS (dAnd (dB (dVar 5)) (dAnd (dB (dVar 6)) (dB (dOp fEq (dFz (dLc (dISeq (dVar 3)) [7] (dgName 7) (dB (dOp fNotIn (dTup (dCons (dK (.str "write")) (dCons (dVar 7) (dCons (dK (.int 0)) (dCons (dK (.str "old")) dNil))))) (dVar 0))) (dVar 7))) (dFz (dLst dNil)))))) (dDrop (dAppend 4 (dK (.str "old")))) dNext) (dSeq (dIfS (dAnd (dB (dVar 5)) (dB (dOp fIn (dTup (dCons (dK (.str "read")) (dCons (dK (.int 1)) (dCons (dK (.int 1)) dNil)))) (dVar 0)))) (dDrop (dAppend 4 (dK (.str "read")))) dNext) (dRet (dN1 fTuple 4)))))))))
def rd_l_is_least : TSd := (dSeq (dSet 3 (dLc (dISeq (dVar 0)) [4] (dgName 4) (dB (dOp fNeU (dCall F_l_ways 3 (dCons (dFz (dLc (dISeq (dVar 0)) [5] (dgName 5) (dB (dOp fNe (dVar 5) (dVar 4))) (dVar 5))) (dCons (dVar 1) (dCons (dVar 2) dNil)))) (dTup dNil))) (dVar 4))) (dFixS 3 (dRet (dAndV (dOp fNeU (dCall F_l_ways 3 (dCons (dVar 0) (dCons (dVar 1) (dCons (dVar 2) dNil)))) (dTup dNil)) (dOp fEq (dVar 3) (dFz (dLst dNil)))))))
def rd_l_is_had : TSd := (dSeq (dIfS (dB (dOp fEq (dOp fIx (dVar 1) (dK (.int 0))) (dK (.str "last")))) (dRet (dOp fIx (dVar 0) (dK (.int 3)))) dNext) (dSeq (dIfS (dB (dOp fEq (dOp fIx (dVar 1) (dK (.int 0))) (dK (.str "make")))) (dRet (dOp fNe (dOp fIx (dOp fIx (dVar 0) (dK (.int 2))) (dOp fIx (dVar 1) (dK (.int 1)))) (dK (.str "white")))) dNext) (dRet (dIf (dB (dOp fEq (dOp fIx (dVar 1) (dK (.int 0))) (dK (.str "read")))) (dOp fIx (dOp fIx (dOp fIx (dVar 0) (dK (.int 1))) (dOp fIx (dVar 1) (dK (.int 1)))) (dOp fIx (dVar 1) (dK (.int 2)))) (dOp fIn (dOp fIx (dVar 1) (dK (.int 3))) (dOp fIx (dOp fIx (dOp fIx (dVar 0) (dK (.int 0))) (dOp fIx (dVar 1) (dK (.int 1)))) (dOp fIx (dVar 1) (dK (.int 2)))))))))
def rd_l_has : TSd := (dRet (dFz (dLc (dISeq (dCall F_l_all_entries 0 dNil)) [1] (dgName 1) (dB (dCall F_l_is_had 2 (dCons (dVar 0) (dCons (dVar 1) dNil)))) (dVar 1))))
def rd_l_chosen : TSd := (dSeq (dIfS (dOr (dNot (dB (dIsi "tuple" (dVar 1)))) (dOr (dB (dOp fNe (dN fLen (dCons (dVar 1) dNil)) (dK (.int 5)))) (dNot (dB (dIsi "bool" (dOp fIx (dVar 1) (dK (.int 3)))))))) (dRet (dFz (dLst dNil))) dNext) (dSeq (dFor (dIRng (dK (.int 3))) (dgName 2) (dIfS (dOr (dNot (dB (dIsi "tuple" (dOp fIx (dVar 1) (dVar 2))))) (dB (dOp fNe (dN fLen (dCons (dOp fIx (dVar 1) (dVar 2)) dNil)) (dK (.int 2))))) (dRet (dFz (dLst dNil))) dNext)) (dSeq (dFor (dISeq (dTup (dCons (dK (.int 0)) (dCons (dK (.int 1)) dNil)))) (dgName 3) (dIfS (dB (dOp fNe (dFz (dLc (dISeq (dTup (dCons (dK (.int 0)) (dCons (dK (.int 1)) dNil)))) [2] (dgName 2) (dOr (dNot (dB (dIsi "tuple" (dOp fIx (dOp fIx (dVar 1) (dVar 2)) (dVar 3))))) (dB (dOp fNe (dN fLen (dCons (dOp fIx (dOp fIx (dVar 1) (dVar 2)) (dVar 3)) dNil)) (dK (.int 3))))) (dK (.int 1)))) (dFz (dLst dNil)))) (dRet (dFz (dLst dNil))) dNext)) (dSeq (dIfS (dB (dOp fNe (dFz (dLc (dISeq (dTup (dCons (dK (.int 0)) (dCons (dK (.int 1)) dNil)))) [3] (dgName 3) (dB (dOp fNe (dFz (dLc (dISeq (dOp fIx (dOp fIx (dVar 1) (dK (.int 0))) (dVar 3))) [5] (dgName 5) (dNot (dB (dIsi "tuple" (dVar 5)))) (dVar 5))) (dFz (dLst dNil)))) (dK (.int 1)))) (dFz (dLst dNil)))) (dRet (dFz (dLst dNil))) dNext) (dRet (dFz (dLst (dCons (dFz (dLc (dISeq (dCall F_l_has 1 (dCons (dVar 0) dNil))) [4] (dgName 4) (dB (dCall F_l_is_had 2 (dCons (dVar 1) (dCons (dVar 4) dNil)))) (dVar 4))) dNil))))))))
def rd_l_is_part : TSd := (dSeq (dFor (dISeq (dCall F_l_chosen 2 (dCons (dVar 0) (dCons (dVar 2) dNil)))) (dgName 3) (dSeq (dSet 4 (dLc (dISeq (dOp fIx (dVar 0) (dK (.int 2)))) [5] (dgName 5) dYes (dIf (dB (dOp fNe (dVar 5) (dK (.str "white")))) (dVar 5) (dK (.str "black"))))) (dFixS 4 (dRet (dAndV (dOp fEq (dN fRepr (dCons (dVar 2) dNil)) (dN fRepr (dCons (dCall F_l_book 3 (dCons (dVar 3) (dCons (dVar 4) (dCons (dOp fIx (dVar 0) (dK (.int 4))) dNil)))) dNil))) (dCall F_l_is_least 3 (dCons (dVar 3) (dCons (dOp fIx (dVar 0) (dK (.int 4))) (dCons (dVar 1) dNil))))))))) (dRet (dK (.bool false))))
def rd_needless (Z : Prop) : TSd := (dSeq (dIfS (dNot (dB (dCall F_is_safe 2 (dCons (dVar 0) (dCons (dVar 1) dNil))))) (dRaise Z) dNext) (dRet (dN fTuple (dCons (dFz (dLc (dISeq (dCall F_entries 1 (dCons (dVar 0) dNil))) [2] (dgName 2) (dB (dCall F_is_safe 2 (dCons (dCall F_without 2 (dCons (dVar 0) (dCons (dVar 2) dNil))) (dCons (dVar 1) dNil)))) (dVar 2))) dNil))))
def rd_is_least : TSd := (dRet (dAndV (dCall F_is_safe 2 (dCons (dVar 0) (dCons (dVar 1) dNil))) (dNotTu (dCall (fun ss R => F_needless ss R False) 2 (dCons (dVar 0) (dCons (dVar 1) dNil))))))
def rd_law : TSd := (dSeq (dSet 1 (dCall F_l_stock 1 (dCons (dVar 0) dNil))) (dSeq (dFor (dIRng (dK (.int 4))) (dgName 2) (dSeq (dPar 3 4 (dFz (dOp fAdd (dK (.int 1)) (dCall F_l_draw 2 (dCons (dVar 1) (dCons (dK (.int 4)) dNil))))) (dOp fEq (dCall F_l_draw 2 (dCons (dVar 1) (dCons (dK (.int 2)) dNil))) (dK (.int 0)))) (dSeq (dSet 5 (dCall F_l_some 3 (dCons (dVar 1) (dCons (dVar 4) (dCons (dVar 3) dNil))))) (dSeq (dIfS (dB (dOp fEq (dOp fMod (dVar 2) (dK (.int 3))) (dK (.int 0)))) (dSet 5 (dFz (dOp fAdd (dVar 5) (dCall F_l_wanted 4 (dCons (dVar 1) (dCons (dCall F_l_pick 2 (dCons (dVar 1) (dCons (dFz (dLst (dCons (dK (.str "child")) (dCons (dK (.str "last")) (dCons (dK (.str "old")) (dCons (dK (.str "read")) dNil)))))) dNil))) (dCons (dVar 4) (dCons (dVar 3) dNil)))))))) dNext) (dSeq (dSet 6 (dCall F_l_book 3 (dCons (dVar 5) (dCons (dCall F_l_paint 1 (dCons (dVar 1) dNil)) (dCons (dVar 4) dNil))))) (dSeq (dPar 7 8 (dN fRepr (dCons (dVar 6) dNil)) (dCall F_l_said 3 (dCons (dVar 6) (dCons (dVar 3) (dCons (dOp fEq (dVar 2) (dK (.int 1))) dNil))))) (dSeq (dIfS (dOr (dAnd (dB (dOp fEq (dVar 2) (dK (.int 1)))) (dB (dOp fNe (dN fRepr (dCons (dCall F_l_said 3 (dCons (dVar 6) (dCons (dVar 3) (dCons (dK (.bool false)) dNil)))) dNil)) (dN fRepr (dCons (dVar 8) dNil))))) (dB (dOp fNe (dN fRepr (dCons (dVar 6) dNil)) (dVar 7)))) (dRet (dK (.bool false))) dNext) (dSeq (dIfS (dB (dOp fEq (dCall F_l_ways 3 (dCons (dCall F_l_has 1 (dCons (dVar 6) dNil)) (dCons (dVar 4) (dCons (dVar 3) dNil)))) (dTup dNil))) (dSeq (dIfS (dB (dOp fNe (dVar 8) (dK (.str "unfit")))) (dRet (dK (.bool false))) dNext) dCnt) dNext) (dSeq (dIfS (dOr (dNot (dB (dCall F_l_is_part 3 (dCons (dVar 6) (dCons (dVar 3) (dCons (dVar 8) dNil)))))) (dB (dOp fIsNotB (dCall F_is_least 2 (dCons (dVar 8) (dCons (dVar 3) dNil))) (dK (.bool true))))) (dRet (dK (.bool false))) dNext) (dSeq (dIfS (dAnd (dB (dCall F_l_is_least 3 (dCons (dCall F_l_has 1 (dCons (dVar 6) dNil)) (dCons (dVar 4) (dCons (dVar 3) dNil))))) (dB (dOp fNe (dN fRepr (dCons (dVar 8) dNil)) (dVar 7)))) (dRet (dK (.bool false))) dNext) (dIfS (dAnd (dB (dOp fEq (dVar 2) (dK (.int 2)))) (dB (dOp fNe (dN fRepr (dCons (dCall (fun ss R => F_least_part ss R False) 2 (dCons (dVar 8) (dCons (dVar 3) dNil))) dNil)) (dN fRepr (dCons (dVar 8) dNil))))) (dRet (dK (.bool false))) dNext))))))))))) (dRet (dK (.bool true)))))
abbrev Jr (P : Program) (w : World) (K : PySem.W.Frag) : Jar := mkJar K StoS stoS_keep
end GK

set_option maxRecDepth 20000
namespace GK
open PySem PySem.Spec PyProof.Rows L2 GB
theorem ints_i : ∀ (xs : List PyData), (∀ x ∈ xs, ∃ n : Int, x = .int n) → ∃ is : List Int, xs = is.map PyData.int
  | [], _ => ⟨[], rfl⟩
  | x :: xs, h => by
    obtain ⟨n, rfl⟩ := h x (by simp)
    obtain ⟨is, rfl⟩ := ints_i xs fun y hy => h y (by simp [hy])
    exact ⟨n :: is, rfl⟩
theorem e_scr {k : Int} {r : GB.En} {ns : List Int} {Q : S → GB.En → Prop} : dScr 0 k (S.ob (.scr ns) :: r) Q ↔ Q (.own ((GB.cutD ns none (some k)).map .int)) (S.ob (.scr ns) :: r) :=
  ⟨fun ⟨ns', e, q⟩ => by cases e; exact q, fun q => ⟨ns, rfl, q⟩⟩
theorem cmod_l {x m j : Int} (h : 0 < m) (h2 : m < 2 ^ 64) : CMul (x % m) j ∨ CMulW (x % m) j := by
  have a := Int.emod_nonneg x (show m ≠ 0 by omega)
  have b := Int.emod_lt_of_pos x h
  exact cmul_l (by omega) (by omega)
theorem own_app (is : List Int) (z : Int) : S.own (is.map PyData.int ++ [.int z]) = S.own ((is ++ [z]).map PyData.int) := by rw [List.map_append]; rfl
theorem ma_l_stock : ∀ ss R, ss.length = 1 → F_l_stock ss R → rd_l_stock { nx := fun _ => R (.d .none), rt := R } (ss ++ List.replicate 2 .un) := by
  rintro _ R - ⟨ns, rfl, hn, q⟩
  unfold rd_l_stock
  simp only [↓at0, ↓set0, ↓at1, ↓set1, ↓at2, ↓set2, ↓at3, ↓set3, ↓at4, ↓set4, ↓at5, ↓set5, ↓at6, ↓set6, ↓at7, ↓set7, ↓at8, ↓set8, ↓at9, ↓set9, ↓at10, ↓set10, ↓at11, ↓set11, ↓at12, ↓set12, ↓at13, ↓set13, ↓at14, ↓set14, ↓at15, ↓set15, ↓fz_d, ↓fz_own, ↓fz_ob, ↓one_d, ↓int_d, ↓bool_d, ↓own_o, ↓ds_nil, ↓ds_cons, ↓seq_l, ↓seq_t, ↓ite_t, ↓ite_f, ↓e_next, ↓e_seq, ↓e_set, ↓e_drop, ↓e_ret, ↓e_ifs, ↓e_brk, ↓e_cnt, ↓e_fixs, ↓e_par, ↓e_par3, ↓e_asg, ↓e_for, ↓e_putAt, ↓e_jput, ↓e_var, ↓e_k, ↓e_fz, ↓e_op, ↓e_opL, ↓e_opR, ↓e_n, ↓e_n1, ↓e_nil, ↓e_cons, ↓e_tup, ↓e_lst, ↓e_b, ↓e_not, ↓e_and, ↓e_or, ↓e_andV, ↓e_orV, ↓e_notV, ↓e_if, ↓e_isi, ↓e_neg, ↓e_chain, ↓e_call, ↓e_callK, ↓e_jint, ↓e_dict0, ↓e_dict1, ↓e_listRng, ↓e_append, ↓e_cut, ↓e_cutO, ↓e_onone, ↓e_osome, ↓e_iseq, ↓e_ienum, ↓e_irng, ↓e_gname, ↓e_lnil, ↓e_lcons, ↓e_lc, ↓e_yes, ↓f_addI, ↓f_addS, ↓f_addT, ↓f_addL, ↓f_i2, ↓f_mulI, ↓f_mulT, ↓f_mulL, ↓f_eq, ↓f_ne, ↓f_is, ↓f_isnot, ↓f_in, ↓f_notin, ↓f_ixL, ↓f_ixT, ↓f_lenL, ↓f_lenT, ↓f_lenS, ↓f_abs, ↓f_intI, ↓f_intB, ↓f_tupL, ↓f_tupT, ↓f_lstL, ↓f_lstT, ↓f_repr, ↓f_cutL, ↓f_cutT, ↓firm_d, ↓firm_ob, ↓zip_l, ↓zip_t, ↓e_izip, ↓zip_cons, ↓zip_nil1, ↓zip_nil2, ↓f_sorted, ↓e_inn, ↓e_inc, ↓e_l2n, ↓e_l2c, ↓e_lc2, ↓e_rev, ↓e_pop, ↓e_popAt, ↓e_extend, ↓e_lc3, ↓e_gon, ↓e_goc, ↓e_dbMid, ↓e_dbIn, ↓f_neu, ↓dgTup_tup, ↓dgCons_cons, ↓dgNil_nil, ite_t, ite_f, itK_not, List.cons_append, List.nil_append, List.append_nil, List.replicate, List.flatten_cons, List.flatten_nil, List.append_eq, List.length_cons, List.length_nil, Nat.zero_add, Nat.reduceAdd, true_and, and_true, eqOk_str, eqOk_int, eqOk_bool, str_eqv, int_eqv, tup_nil_eqv, lst_nil_eqv, rep_flat, isK_int, isK_bool, isK_tuple, isK_str, kInt, kBool, kTuple, kStr, GB.isNon, Bool.not_true, Bool.not_false, Bool.or_false, Bool.or_true, Bool.false_or, Bool.true_or, reduceCtorEq, ↓e_scr, wipeD, List.set]
  have hcs := cutD_len ns none (some 63)
  generalize GB.cutD ns none (some 63) = cs at hcs ⊢
  refine ⟨line_ge (by rw [List.length_map]; omega), ?_⟩
  refine lcI (fun ds acc => (∀ x ∈ ds, ∃ n : Int, x = .int n) ∧ (∀ x ∈ acc, ∃ n : Int, x = .int n) ∧ acc.length + ds.length ≤ 63) ?_ ?_ _ [] ⟨fun x hx => (by obtain ⟨n, _, rfl⟩ := List.mem_map.mp hx; exact ⟨n, rfl⟩), (fun _ h => nomatch h), by rw [List.length_map]; simp; omega⟩
  · rintro acc ⟨_, h2, h3⟩
    obtain ⟨is, rfl⟩ := ints_i acc h2
    simp only [↓at0, ↓set0, ↓at1, ↓set1, ↓at2, ↓set2, ↓at3, ↓set3, ↓at4, ↓set4, ↓at5, ↓set5, ↓at6, ↓set6, ↓at7, ↓set7, ↓at8, ↓set8, ↓at9, ↓set9, ↓at10, ↓set10, ↓at11, ↓set11, ↓at12, ↓set12, ↓at13, ↓set13, ↓at14, ↓set14, ↓at15, ↓set15, ↓fz_d, ↓fz_own, ↓fz_ob, ↓one_d, ↓int_d, ↓bool_d, ↓own_o, ↓ds_nil, ↓ds_cons, ↓seq_l, ↓seq_t, ↓ite_t, ↓ite_f, ↓e_next, ↓e_seq, ↓e_set, ↓e_drop, ↓e_ret, ↓e_ifs, ↓e_brk, ↓e_cnt, ↓e_fixs, ↓e_par, ↓e_par3, ↓e_asg, ↓e_for, ↓e_putAt, ↓e_jput, ↓e_var, ↓e_k, ↓e_fz, ↓e_op, ↓e_opL, ↓e_opR, ↓e_n, ↓e_n1, ↓e_nil, ↓e_cons, ↓e_tup, ↓e_lst, ↓e_b, ↓e_not, ↓e_and, ↓e_or, ↓e_andV, ↓e_orV, ↓e_notV, ↓e_if, ↓e_isi, ↓e_neg, ↓e_chain, ↓e_call, ↓e_callK, ↓e_jint, ↓e_dict0, ↓e_dict1, ↓e_listRng, ↓e_append, ↓e_cut, ↓e_cutO, ↓e_onone, ↓e_osome, ↓e_iseq, ↓e_ienum, ↓e_irng, ↓e_gname, ↓e_lnil, ↓e_lcons, ↓e_lc, ↓e_yes, ↓f_addI, ↓f_addS, ↓f_addT, ↓f_addL, ↓f_i2, ↓f_mulI, ↓f_mulT, ↓f_mulL, ↓f_eq, ↓f_ne, ↓f_is, ↓f_isnot, ↓f_in, ↓f_notin, ↓f_ixL, ↓f_ixT, ↓f_lenL, ↓f_lenT, ↓f_lenS, ↓f_abs, ↓f_intI, ↓f_intB, ↓f_tupL, ↓f_tupT, ↓f_lstL, ↓f_lstT, ↓f_repr, ↓f_cutL, ↓f_cutT, ↓firm_d, ↓firm_ob, ↓zip_l, ↓zip_t, ↓e_izip, ↓zip_cons, ↓zip_nil1, ↓zip_nil2, ↓f_sorted, ↓e_inn, ↓e_inc, ↓e_l2n, ↓e_l2c, ↓e_lc2, ↓e_rev, ↓e_pop, ↓e_popAt, ↓e_extend, ↓e_lc3, ↓e_gon, ↓e_goc, ↓e_dbMid, ↓e_dbIn, ↓f_neu, ↓dgTup_tup, ↓dgCons_cons, ↓dgNil_nil, ite_t, ite_f, itK_not, List.cons_append, List.nil_append, List.append_nil, List.replicate, List.flatten_cons, List.flatten_nil, List.append_eq, List.length_cons, List.length_nil, Nat.zero_add, Nat.reduceAdd, true_and, and_true, eqOk_str, eqOk_int, eqOk_bool, str_eqv, int_eqv, tup_nil_eqv, lst_nil_eqv, rep_flat, isK_int, isK_bool, isK_tuple, isK_str, kInt, kBool, kTuple, kStr, GB.isNon, Bool.not_true, Bool.not_false, Bool.or_false, Bool.or_true, Bool.false_or, Bool.true_or, reduceCtorEq, wipeD, List.set, dStock]
    have hl : (List.map PyData.int is).length ≤ 63 := by simpa using h3
    refine ⟨line_ge (by omega), ?_⟩
    refine lcI (fun ds acc => (∀ x ∈ ds, ∃ n : Int, x = .int n) ∧ (∀ x ∈ acc, ∃ n : Int, x = .int n)) ?_ ?_ _ [] ⟨h2, (fun _ h => nomatch h)⟩
    · rintro acc ⟨_, h4⟩
      obtain ⟨js, rfl⟩ := ints_i acc h4
      refine ⟨by decide, line_ge (by omega), is, rfl, js, _, _, rfl, own_app is _, by simp, rfl, q⟩
    · rintro d ds acc K hK ⟨h4, h5⟩
      obtain ⟨n, rfl⟩ := h4 d (by simp)
      simp only [↓at0, ↓set0, ↓at1, ↓set1, ↓at2, ↓set2, ↓at3, ↓set3, ↓at4, ↓set4, ↓at5, ↓set5, ↓at6, ↓set6, ↓at7, ↓set7, ↓at8, ↓set8, ↓at9, ↓set9, ↓at10, ↓set10, ↓at11, ↓set11, ↓at12, ↓set12, ↓at13, ↓set13, ↓at14, ↓set14, ↓at15, ↓set15, ↓fz_d, ↓fz_own, ↓fz_ob, ↓one_d, ↓int_d, ↓bool_d, ↓own_o, ↓ds_nil, ↓ds_cons, ↓seq_l, ↓seq_t, ↓ite_t, ↓ite_f, ↓e_next, ↓e_seq, ↓e_set, ↓e_drop, ↓e_ret, ↓e_ifs, ↓e_brk, ↓e_cnt, ↓e_fixs, ↓e_par, ↓e_par3, ↓e_asg, ↓e_for, ↓e_putAt, ↓e_jput, ↓e_var, ↓e_k, ↓e_fz, ↓e_op, ↓e_opL, ↓e_opR, ↓e_n, ↓e_n1, ↓e_nil, ↓e_cons, ↓e_tup, ↓e_lst, ↓e_b, ↓e_not, ↓e_and, ↓e_or, ↓e_andV, ↓e_orV, ↓e_notV, ↓e_if, ↓e_isi, ↓e_neg, ↓e_chain, ↓e_call, ↓e_callK, ↓e_jint, ↓e_dict0, ↓e_dict1, ↓e_listRng, ↓e_append, ↓e_cut, ↓e_cutO, ↓e_onone, ↓e_osome, ↓e_iseq, ↓e_ienum, ↓e_irng, ↓e_gname, ↓e_lnil, ↓e_lcons, ↓e_lc, ↓e_yes, ↓f_addI, ↓f_addS, ↓f_addT, ↓f_addL, ↓f_i2, ↓f_mulI, ↓f_mulT, ↓f_mulL, ↓f_eq, ↓f_ne, ↓f_is, ↓f_isnot, ↓f_in, ↓f_notin, ↓f_ixL, ↓f_ixT, ↓f_lenL, ↓f_lenT, ↓f_lenS, ↓f_abs, ↓f_intI, ↓f_intB, ↓f_tupL, ↓f_tupT, ↓f_lstL, ↓f_lstT, ↓f_repr, ↓f_cutL, ↓f_cutT, ↓firm_d, ↓firm_ob, ↓zip_l, ↓zip_t, ↓e_izip, ↓zip_cons, ↓zip_nil1, ↓zip_nil2, ↓f_sorted, ↓e_inn, ↓e_inc, ↓e_l2n, ↓e_l2c, ↓e_lc2, ↓e_rev, ↓e_pop, ↓e_popAt, ↓e_extend, ↓e_lc3, ↓e_gon, ↓e_goc, ↓e_dbMid, ↓e_dbIn, ↓f_neu, ↓dgTup_tup, ↓dgCons_cons, ↓dgNil_nil, ite_t, ite_f, itK_not, List.cons_append, List.nil_append, List.append_nil, List.replicate, List.flatten_cons, List.flatten_nil, List.append_eq, List.length_cons, List.length_nil, Nat.zero_add, Nat.reduceAdd, true_and, and_true, eqOk_str, eqOk_int, eqOk_bool, str_eqv, int_eqv, tup_nil_eqv, lst_nil_eqv, rep_flat, isK_int, isK_bool, isK_tuple, isK_str, kInt, kBool, kTuple, kStr, GB.isNon, Bool.not_true, Bool.not_false, Bool.or_false, Bool.or_true, Bool.false_or, Bool.true_or, reduceCtorEq, wipeD, List.set]
      refine ⟨by unfold CPow; decide, iteB (fun _ => hK _ ⟨fun x hx => h4 x (by simp [hx]), fun x hx => ?_⟩) fun _ => hK _ ⟨fun x hx => h4 x (by simp [hx]), h5⟩⟩
      rcases List.mem_append.mp hx with hx | hx
      · exact h5 x hx
      · exact ⟨n, by simpa using hx⟩
  · rintro d ds acc K hK ⟨h1, h2, h3⟩
    obtain ⟨n, rfl⟩ := h1 d (by simp)
    simp only [↓at0, ↓set0, ↓at1, ↓set1, ↓at2, ↓set2, ↓at3, ↓set3, ↓at4, ↓set4, ↓at5, ↓set5, ↓at6, ↓set6, ↓at7, ↓set7, ↓at8, ↓set8, ↓at9, ↓set9, ↓at10, ↓set10, ↓at11, ↓set11, ↓at12, ↓set12, ↓at13, ↓set13, ↓at14, ↓set14, ↓at15, ↓set15, ↓fz_d, ↓fz_own, ↓fz_ob, ↓one_d, ↓int_d, ↓bool_d, ↓own_o, ↓ds_nil, ↓ds_cons, ↓seq_l, ↓seq_t, ↓ite_t, ↓ite_f, ↓e_next, ↓e_seq, ↓e_set, ↓e_drop, ↓e_ret, ↓e_ifs, ↓e_brk, ↓e_cnt, ↓e_fixs, ↓e_par, ↓e_par3, ↓e_asg, ↓e_for, ↓e_putAt, ↓e_jput, ↓e_var, ↓e_k, ↓e_fz, ↓e_op, ↓e_opL, ↓e_opR, ↓e_n, ↓e_n1, ↓e_nil, ↓e_cons, ↓e_tup, ↓e_lst, ↓e_b, ↓e_not, ↓e_and, ↓e_or, ↓e_andV, ↓e_orV, ↓e_notV, ↓e_if, ↓e_isi, ↓e_neg, ↓e_chain, ↓e_call, ↓e_callK, ↓e_jint, ↓e_dict0, ↓e_dict1, ↓e_listRng, ↓e_append, ↓e_cut, ↓e_cutO, ↓e_onone, ↓e_osome, ↓e_iseq, ↓e_ienum, ↓e_irng, ↓e_gname, ↓e_lnil, ↓e_lcons, ↓e_lc, ↓e_yes, ↓f_addI, ↓f_addS, ↓f_addT, ↓f_addL, ↓f_i2, ↓f_mulI, ↓f_mulT, ↓f_mulL, ↓f_eq, ↓f_ne, ↓f_is, ↓f_isnot, ↓f_in, ↓f_notin, ↓f_ixL, ↓f_ixT, ↓f_lenL, ↓f_lenT, ↓f_lenS, ↓f_abs, ↓f_intI, ↓f_intB, ↓f_tupL, ↓f_tupT, ↓f_lstL, ↓f_lstT, ↓f_repr, ↓f_cutL, ↓f_cutT, ↓firm_d, ↓firm_ob, ↓zip_l, ↓zip_t, ↓e_izip, ↓zip_cons, ↓zip_nil1, ↓zip_nil2, ↓f_sorted, ↓e_inn, ↓e_inc, ↓e_l2n, ↓e_l2c, ↓e_lc2, ↓e_rev, ↓e_pop, ↓e_popAt, ↓e_extend, ↓e_lc3, ↓e_gon, ↓e_goc, ↓e_dbMid, ↓e_dbIn, ↓f_neu, ↓dgTup_tup, ↓dgCons_cons, ↓dgNil_nil, ite_t, ite_f, itK_not, List.cons_append, List.nil_append, List.append_nil, List.replicate, List.flatten_cons, List.flatten_nil, List.append_eq, List.length_cons, List.length_nil, Nat.zero_add, Nat.reduceAdd, true_and, and_true, eqOk_str, eqOk_int, eqOk_bool, str_eqv, int_eqv, tup_nil_eqv, lst_nil_eqv, rep_flat, isK_int, isK_bool, isK_tuple, isK_str, kInt, kBool, kTuple, kStr, GB.isNon, Bool.not_true, Bool.not_false, Bool.or_false, Bool.or_true, Bool.false_or, Bool.true_or, reduceCtorEq, wipeD, List.set]
    have go : ∀ z : Int, K (acc ++ [.int z]) := fun z => hK _ ⟨fun x hx => h1 x (by simp [hx]), fun x hx => by
      rcases List.mem_append.mp hx with hx | hx
      · exact h2 x hx
      · exact ⟨z, by simpa using hx⟩, by simp at h3 ⊢; omega⟩
    exact iteB (fun _ => ⟨cmul_l (by decide) (by decide), go _⟩) fun _ => ⟨cmul_l (by decide) (by decide), go _⟩
theorem ma_l_draw : ∀ ss R, ss.length = 2 → F_l_draw ss R → rd_l_draw { nx := fun _ => R (.d .none), rt := R } (ss ++ List.replicate 4 .un) := by
  rintro _ R - ⟨m, rfl, m0, m1, q⟩
  unfold rd_l_draw
  simp only [dRet, dSeq, dNext, dSet, dDrop, dIfS, dPar, dOp, dN, dN1, dB, dNot, dAnd, dOr, dAndV, dOrV, dNotV, dIsi, dVar, dK, dFz, dFixS, dTup, dLst, dCons, dNil, dCall, dCallK, dChain, dIf, dNeg, dFor, dIEnum, dIRng, dISeq, dgName, dgTup_tup, dgCons_cons, dgNil_nil, and_assoc, eqOk_str, eqOk_int, eqOk_bool, str_eqv, int_eqv, tup_nil_eqv, lst_nil_eqv, fEq, fNe, fRepr, pick, fMul, fPow, dCut, fCut, rep_flat, dLc, dLcGo, dYes, dJInt, dJPut, dJPop, dDict0, dDict1, dListRng, dOpL, dOpR, dAppend, dPutAt, dOSome, dONone, fI2, fAdd, fLen, fTuple, fList, fInt, fIx, fIs, fIsNot, S.firm, S.fz, List.length_cons, List.length_nil, ex_nil, ex_cons, Option.some.injEq, S.d.injEq, S.own.injEq, PyData.int.injEq, PyData.bool.injEq, PyData.tuple.injEq, PyData.list.injEq, PyData.str.injEq, exists_eq_left', exists_eq_left, exists_eq_right, exists_and_left, exists_eq, true_and, and_true, List.append_eq, List.cons_append, List.nil_append, List.append_nil, List.replicate, List.getElem?_cons_zero, List.getElem?_cons_succ, List.set_cons_zero, List.set_cons_succ, Nat.zero_add, Nat.reduceAdd, List.cons.injEq, Bool.not_true, Bool.not_false, if_true, if_false, Bool.false_eq_true, ↓reduceIte, reduceCtorEq, false_or, or_false, false_and, and_false, exists_false, dJMix]
  have ok : ∀ n : Int, R (.d (.int (n % m))) := fun n => q _ (Int.emod_nonneg _ (by omega)) (Int.emod_lt_of_pos _ m0)
  exact ⟨m0, m1, by decide, by decide, by decide, fun n => ⟨m0, ok _⟩, fun n n' => ⟨⟨_, rfl⟩, fun n1 => ⟨by decide, cmul_r (by decide) (by decide), fun n2 => ⟨by decide, cmul_r (by decide) (by decide), cmul_r (by decide) (by decide), by decide, cmod_l (by decide) (by decide), cmul_r (by decide) (by decide), by decide, cmul_r (by decide) (by decide), cmul_r (by decide) (by decide), by decide, by decide, pow2000 (by decide), m0, ok _⟩⟩⟩⟩
theorem ma_l_pick : ∀ ss R, ss.length = 2 → F_l_pick ss R → rd_l_pick { nx := fun _ => R (.d .none), rt := R } (ss ++ List.replicate 0 .un) := by
  rintro _ R - ⟨xs, rfl, h0, h1, q⟩
  have hl : 0 < xs.length := List.length_pos_iff.mpr h0
  unfold rd_l_pick
  simp only [↓at0, ↓set0, ↓at1, ↓set1, ↓at2, ↓set2, ↓at3, ↓set3, ↓at4, ↓set4, ↓at5, ↓set5, ↓at6, ↓set6, ↓at7, ↓set7, ↓at8, ↓set8, ↓at9, ↓set9, ↓at10, ↓set10, ↓at11, ↓set11, ↓at12, ↓set12, ↓at13, ↓set13, ↓at14, ↓set14, ↓at15, ↓set15, ↓fz_d, ↓fz_own, ↓fz_ob, ↓one_d, ↓int_d, ↓bool_d, ↓own_o, ↓ds_nil, ↓ds_cons, ↓seq_l, ↓seq_t, ↓ite_t, ↓ite_f, ↓e_next, ↓e_seq, ↓e_set, ↓e_drop, ↓e_ret, ↓e_ifs, ↓e_brk, ↓e_cnt, ↓e_fixs, ↓e_par, ↓e_par3, ↓e_asg, ↓e_for, ↓e_putAt, ↓e_jput, ↓e_var, ↓e_k, ↓e_fz, ↓e_op, ↓e_opL, ↓e_opR, ↓e_n, ↓e_n1, ↓e_nil, ↓e_cons, ↓e_tup, ↓e_lst, ↓e_b, ↓e_not, ↓e_and, ↓e_or, ↓e_andV, ↓e_orV, ↓e_notV, ↓e_if, ↓e_isi, ↓e_neg, ↓e_chain, ↓e_call, ↓e_callK, ↓e_jint, ↓e_dict0, ↓e_dict1, ↓e_listRng, ↓e_append, ↓e_cut, ↓e_cutO, ↓e_onone, ↓e_osome, ↓e_iseq, ↓e_ienum, ↓e_irng, ↓e_gname, ↓e_lnil, ↓e_lcons, ↓e_lc, ↓e_yes, ↓f_addI, ↓f_addS, ↓f_addT, ↓f_addL, ↓f_i2, ↓f_mulI, ↓f_mulT, ↓f_mulL, ↓f_eq, ↓f_ne, ↓f_is, ↓f_isnot, ↓f_in, ↓f_notin, ↓f_ixL, ↓f_ixT, ↓f_lenL, ↓f_lenT, ↓f_lenS, ↓f_abs, ↓f_intI, ↓f_intB, ↓f_tupL, ↓f_tupT, ↓f_lstL, ↓f_lstT, ↓f_repr, ↓f_cutL, ↓f_cutT, ↓firm_d, ↓firm_ob, ↓zip_l, ↓zip_t, ↓e_izip, ↓zip_cons, ↓zip_nil1, ↓zip_nil2, ↓f_sorted, ↓e_lcn, ↓e_lcc, ↓e_inn, ↓e_inc, ↓e_l2n, ↓e_l2c, ↓e_lc2, ↓e_rev, ↓e_pop, ↓e_popAt, ↓e_extend, ↓e_lc3, ↓e_gon, ↓e_goc, ↓e_dbMid, ↓e_dbIn, ↓f_neu, ↓dgTup_tup, ↓dgCons_cons, ↓dgNil_nil, ite_t, ite_f, itK_not, List.cons_append, List.nil_append, List.append_nil, List.replicate, List.flatten_cons, List.flatten_nil, List.append_eq, List.length_cons, List.length_nil, Nat.zero_add, Nat.reduceAdd, true_and, and_true, eqOk_str, eqOk_int, eqOk_bool, str_eqv, int_eqv, tup_nil_eqv, lst_nil_eqv, rep_flat, isK_int, isK_bool, isK_tuple, isK_str, kInt, kBool, kTuple, kStr, GB.isNon, Bool.not_true, Bool.not_false, Bool.or_false, Bool.or_true, Bool.false_or, Bool.true_or, reduceCtorEq, ↓s_draw]
  refine ⟨by omega, by omega, fun r h2 h3 => ?_⟩
  obtain ⟨v, e, hv⟩ := atI_mem (xs := xs) h2 (by omega)
  exact ⟨v, e, q v hv⟩
theorem ma_l_all_entries : ∀ ss R, ss.length = 0 → F_l_all_entries ss R → rd_l_all_entries { nx := fun _ => R (.d .none), rt := R } (ss ++ List.replicate 4 .un) := by
  rintro _ R - ⟨rfl, q⟩
  unfold rd_l_all_entries
  simp only [↓at0, ↓set0, ↓at1, ↓set1, ↓at2, ↓set2, ↓at3, ↓set3, ↓at4, ↓set4, ↓at5, ↓set5, ↓at6, ↓set6, ↓at7, ↓set7, ↓at8, ↓set8, ↓at9, ↓set9, ↓at10, ↓set10, ↓at11, ↓set11, ↓at12, ↓set12, ↓at13, ↓set13, ↓at14, ↓set14, ↓at15, ↓set15, ↓fz_d, ↓fz_own, ↓fz_ob, ↓one_d, ↓int_d, ↓bool_d, ↓own_o, ↓ds_nil, ↓ds_cons, ↓seq_l, ↓seq_t, ↓ite_t, ↓ite_f, ↓e_next, ↓e_seq, ↓e_set, ↓e_drop, ↓e_ret, ↓e_ifs, ↓e_brk, ↓e_cnt, ↓e_fixs, ↓e_par, ↓e_par3, ↓e_asg, ↓e_for, ↓e_putAt, ↓e_jput, ↓e_var, ↓e_k, ↓e_fz, ↓e_op, ↓e_opL, ↓e_opR, ↓e_n, ↓e_n1, ↓e_nil, ↓e_cons, ↓e_tup, ↓e_lst, ↓e_b, ↓e_not, ↓e_and, ↓e_or, ↓e_andV, ↓e_orV, ↓e_notV, ↓e_if, ↓e_isi, ↓e_neg, ↓e_chain, ↓e_call, ↓e_callK, ↓e_jint, ↓e_dict0, ↓e_dict1, ↓e_listRng, ↓e_append, ↓e_cut, ↓e_cutO, ↓e_onone, ↓e_osome, ↓e_iseq, ↓e_ienum, ↓e_irng, ↓e_gname, ↓e_lnil, ↓e_lcons, ↓e_lc, ↓e_yes, ↓f_addI, ↓f_addS, ↓f_addT, ↓f_addL, ↓f_i2, ↓f_mulI, ↓f_mulT, ↓f_mulL, ↓f_eq, ↓f_ne, ↓f_is, ↓f_isnot, ↓f_in, ↓f_notin, ↓f_ixL, ↓f_ixT, ↓f_lenL, ↓f_lenT, ↓f_lenS, ↓f_abs, ↓f_intI, ↓f_intB, ↓f_tupL, ↓f_tupT, ↓f_lstL, ↓f_lstT, ↓f_repr, ↓f_cutL, ↓f_cutT, ↓firm_d, ↓firm_ob, ↓zip_l, ↓zip_t, ↓e_izip, ↓zip_cons, ↓zip_nil1, ↓zip_nil2, ↓f_sorted, ↓e_lcn, ↓e_lcc, ↓e_inn, ↓e_inc, ↓e_l2n, ↓e_l2c, ↓e_lc2, ↓e_rev, ↓e_pop, ↓e_popAt, ↓e_extend, ↓e_lc3, ↓e_gon, ↓e_goc, ↓e_dbMid, ↓e_dbIn, ↓f_neu, ↓dgTup_tup, ↓dgCons_cons, ↓dgNil_nil, ite_t, ite_f, itK_not, List.cons_append, List.nil_append, List.append_nil, List.replicate, List.flatten_cons, List.flatten_nil, List.append_eq, List.length_cons, List.length_nil, Nat.zero_add, Nat.reduceAdd, true_and, and_true, eqOk_str, eqOk_int, eqOk_bool, str_eqv, int_eqv, tup_nil_eqv, lst_nil_eqv, rep_flat, isK_int, isK_bool, isK_tuple, isK_str, kInt, kBool, kTuple, kStr, GB.isNon, Bool.not_true, Bool.not_false, Bool.or_false, Bool.or_true, Bool.false_or, Bool.true_or, reduceCtorEq, wipeD, List.set, ↓irow2, ↓irow3, exl (α := Unit), e_yes, eq_self]
  repeat (refine ⟨(show (_ : Prop) from by first | decide | omega | exact List.cons_ne_nil _ _ | (unfold CPow; decide) | (refine line_ge ?_; (try simp only [List.length_append, List.length_replicate, List.length_map, irow_len, Int.reduceToNat, List.length_cons, List.length_nil]); omega) | ((try simp only [List.length_append, List.length_replicate, List.length_map, irow_len, Int.reduceToNat, List.length_cons, List.length_nil]); omega)), ?_⟩)
  exact q
end GK

set_option maxRecDepth 20000
namespace GK
open PySem PySem.Spec PyProof.Rows L2 GB
/-! the program's ways -/
theorem ma_p_heeds_new : ∀ ss R, ss.length = 1 → F_p_heeds_new ss R → rd_p_heeds_new { nx := fun _ => R (.d .none), rt := R } (ss ++ List.replicate 0 .un) := by
  rintro _ R - ⟨f, rfl, q⟩
  unfold rd_p_heeds_new
  simp only [↓at0, ↓set0, ↓at1, ↓set1, ↓at2, ↓set2, ↓at3, ↓set3, ↓at4, ↓set4, ↓at5, ↓set5, ↓at6, ↓set6, ↓at7, ↓set7, ↓at8, ↓set8, ↓at9, ↓set9, ↓at10, ↓set10, ↓at11, ↓set11, ↓at12, ↓set12, ↓at13, ↓set13, ↓at14, ↓set14, ↓at15, ↓set15, ↓fz_d, ↓fz_own, ↓fz_ob, ↓one_d, ↓int_d, ↓bool_d, ↓own_o, ↓ds_nil, ↓ds_cons, ↓seq_l, ↓seq_t, ↓ite_t, ↓ite_f, ↓e_next, ↓e_seq, ↓e_set, ↓e_drop, ↓e_ret, ↓e_ifs, ↓e_brk, ↓e_cnt, ↓e_fixs, ↓e_par, ↓e_par3, ↓e_asg, ↓e_for, ↓e_putAt, ↓e_jput, ↓e_var, ↓e_k, ↓e_fz, ↓e_op, ↓e_opL, ↓e_opR, ↓e_n, ↓e_n1, ↓e_nil, ↓e_cons, ↓e_tup, ↓e_lst, ↓e_b, ↓e_not, ↓e_and, ↓e_or, ↓e_andV, ↓e_orV, ↓e_notV, ↓e_if, ↓e_isi, ↓e_neg, ↓e_chain, ↓e_call, ↓e_callK, ↓e_jint, ↓e_dict0, ↓e_dict1, ↓e_listRng, ↓e_append, ↓e_cut, ↓e_cutO, ↓e_onone, ↓e_osome, ↓e_iseq, ↓e_ienum, ↓e_irng, ↓e_gname, ↓e_lnil, ↓e_lcons, ↓e_lc, ↓e_yes, ↓f_addI, ↓f_addS, ↓f_addT, ↓f_addL, ↓f_i2, ↓f_mulI, ↓f_mulT, ↓f_mulL, ↓f_eq, ↓f_ne, ↓f_is, ↓f_isnot, ↓f_in, ↓f_notin, ↓f_ixL, ↓f_ixT, ↓f_lenL, ↓f_lenT, ↓f_lenS, ↓f_abs, ↓f_intI, ↓f_intB, ↓f_tupL, ↓f_tupT, ↓f_lstL, ↓f_lstT, ↓f_repr, ↓f_cutL, ↓f_cutT, ↓firm_d, ↓firm_ob, ↓zip_l, ↓zip_t, ↓e_izip, ↓zip_cons, ↓zip_nil1, ↓zip_nil2, ↓f_sorted, ↓e_inn, ↓e_inc, ↓e_l2n, ↓e_l2c, ↓e_lc2, ↓e_rev, ↓e_pop, ↓e_popAt, ↓e_extend, ↓e_lc3, ↓e_gon, ↓e_goc, ↓e_dbMid, ↓e_dbIn, ↓f_neu, ↓dgTup_tup, ↓dgCons_cons, ↓dgNil_nil, ite_t, ite_f, itK_not, List.cons_append, List.nil_append, List.append_nil, List.replicate, List.flatten_cons, List.flatten_nil, List.append_eq, List.length_cons, List.length_nil, Nat.zero_add, Nat.reduceAdd, true_and, and_true, eqOk_str, eqOk_int, eqOk_bool, str_eqv, int_eqv, tup_nil_eqv, lst_nil_eqv, rep_flat, isK_int, isK_bool, isK_tuple, isK_str, kInt, kBool, kTuple, kStr, GB.isNon, Bool.not_true, Bool.not_false, Bool.or_false, Bool.or_true, Bool.false_or, Bool.true_or, reduceCtorEq, inE (inw_new _), inE (inw_again _)]
  (revert q; cases (f "new") <;> (intro q; simp only [ite_t, ite_f, Bool.true_or, Bool.false_or, Bool.true_and, Bool.false_and, Bool.or_true, Bool.or_false, Bool.and_true, Bool.and_false, Bool.not_true, Bool.not_false] at q ⊢; first | exact q | (repeat (refine ⟨(show (_ : Prop) from by first | decide | decide +kernel), ?_⟩)); exact q))
theorem ma_starts_early : ∀ ss R, ss.length = 1 → F_starts_early ss R → rd_starts_early { nx := fun _ => R (.d .none), rt := R } (ss ++ List.replicate 4 .un) := by
  rintro _ R - ⟨b, rfl, ok, q⟩
  unfold rd_starts_early Bo.d
  simp only [↓at0, ↓set0, ↓at1, ↓set1, ↓at2, ↓set2, ↓at3, ↓set3, ↓at4, ↓set4, ↓at5, ↓set5, ↓at6, ↓set6, ↓at7, ↓set7, ↓at8, ↓set8, ↓at9, ↓set9, ↓at10, ↓set10, ↓at11, ↓set11, ↓at12, ↓set12, ↓at13, ↓set13, ↓at14, ↓set14, ↓at15, ↓set15, ↓fz_d, ↓fz_own, ↓fz_ob, ↓one_d, ↓int_d, ↓bool_d, ↓own_o, ↓ds_nil, ↓ds_cons, ↓seq_l, ↓seq_t, ↓ite_t, ↓ite_f, ↓e_next, ↓e_seq, ↓e_set, ↓e_drop, ↓e_ret, ↓e_ifs, ↓e_brk, ↓e_cnt, ↓e_fixs, ↓e_par, ↓e_par3, ↓e_asg, ↓e_for, ↓e_putAt, ↓e_jput, ↓e_var, ↓e_k, ↓e_fz, ↓e_op, ↓e_opL, ↓e_opR, ↓e_n, ↓e_n1, ↓e_nil, ↓e_cons, ↓e_tup, ↓e_lst, ↓e_b, ↓e_not, ↓e_and, ↓e_or, ↓e_andV, ↓e_orV, ↓e_notV, ↓e_if, ↓e_isi, ↓e_neg, ↓e_chain, ↓e_call, ↓e_callK, ↓e_jint, ↓e_dict0, ↓e_dict1, ↓e_listRng, ↓e_append, ↓e_cut, ↓e_cutO, ↓e_onone, ↓e_osome, ↓e_iseq, ↓e_ienum, ↓e_irng, ↓e_gname, ↓e_lnil, ↓e_lcons, ↓e_lc, ↓e_yes, ↓f_addI, ↓f_addS, ↓f_addT, ↓f_addL, ↓f_i2, ↓f_mulI, ↓f_mulT, ↓f_mulL, ↓f_eq, ↓f_ne, ↓f_is, ↓f_isnot, ↓f_in, ↓f_notin, ↓f_ixL, ↓f_ixT, ↓f_lenL, ↓f_lenT, ↓f_lenS, ↓f_abs, ↓f_intI, ↓f_intB, ↓f_tupL, ↓f_tupT, ↓f_lstL, ↓f_lstT, ↓f_repr, ↓f_cutL, ↓f_cutT, ↓firm_d, ↓firm_ob, ↓zip_l, ↓zip_t, ↓e_izip, ↓zip_cons, ↓zip_nil1, ↓zip_nil2, ↓f_sorted, ↓e_inn, ↓e_inc, ↓e_l2n, ↓e_l2c, ↓e_lc2, ↓e_rev, ↓e_pop, ↓e_popAt, ↓e_extend, ↓e_lc3, ↓e_gon, ↓e_goc, ↓e_dbMid, ↓e_dbIn, ↓f_neu, ↓dgTup_tup, ↓dgCons_cons, ↓dgNil_nil, ite_t, ite_f, itK_not, List.cons_append, List.nil_append, List.append_nil, List.replicate, List.flatten_cons, List.flatten_nil, List.append_eq, List.length_cons, List.length_nil, Nat.zero_add, Nat.reduceAdd, true_and, and_true, eqOk_str, eqOk_int, eqOk_bool, str_eqv, int_eqv, tup_nil_eqv, lst_nil_eqv, rep_flat, isK_int, isK_bool, isK_tuple, isK_str, kInt, kBool, kTuple, kStr, GB.isNon, Bool.not_true, Bool.not_false, Bool.or_false, Bool.or_true, Bool.false_or, Bool.true_or, reduceCtorEq, ↓ix0, inE (inw_new _), inE (inw_old _)]
  have e : (!(PyData.str (b.m 0)).eqv (PyData.str (Str.ofString "white"))) = b.has (.make 0) := by rw [eqv_s]; rfl
  rw [e]
  simp only [earlyH, Bo.has] at q ⊢
  (revert q; cases (b.g 0 0 "new") <;> cases (b.g 0 0 "old") <;> cases (b.r 0 0) <;> (intro q; simp only [ite_t, ite_f, Bool.true_or, Bool.false_or, Bool.true_and, Bool.false_and, Bool.or_true, Bool.or_false, Bool.and_true, Bool.and_false, Bool.not_true, Bool.not_false] at q ⊢; first | exact q | (repeat (refine ⟨(show (_ : Prop) from by first | decide | decide +kernel), ?_⟩)); exact q))
theorem ma_inserts : ∀ ss R, ss.length = 2 → F_inserts ss R → rd_inserts { nx := fun _ => R (.d .none), rt := R } (ss ++ List.replicate 3 .un) := by
  rintro _ R - ⟨b, p, rfl, ok, hp, q⟩
  unfold rd_inserts Bo.d
  have hp : p = 0 ∨ p = 1 := by omega
  rcases hp with rfl | rfl
  · simp only [↓at0, ↓set0, ↓at1, ↓set1, ↓at2, ↓set2, ↓at3, ↓set3, ↓at4, ↓set4, ↓at5, ↓set5, ↓at6, ↓set6, ↓at7, ↓set7, ↓at8, ↓set8, ↓at9, ↓set9, ↓at10, ↓set10, ↓at11, ↓set11, ↓at12, ↓set12, ↓at13, ↓set13, ↓at14, ↓set14, ↓at15, ↓set15, ↓fz_d, ↓fz_own, ↓fz_ob, ↓one_d, ↓int_d, ↓bool_d, ↓own_o, ↓ds_nil, ↓ds_cons, ↓seq_l, ↓seq_t, ↓ite_t, ↓ite_f, ↓e_next, ↓e_seq, ↓e_set, ↓e_drop, ↓e_ret, ↓e_ifs, ↓e_brk, ↓e_cnt, ↓e_fixs, ↓e_par, ↓e_par3, ↓e_asg, ↓e_for, ↓e_putAt, ↓e_jput, ↓e_var, ↓e_k, ↓e_fz, ↓e_op, ↓e_opL, ↓e_opR, ↓e_n, ↓e_n1, ↓e_nil, ↓e_cons, ↓e_tup, ↓e_lst, ↓e_b, ↓e_not, ↓e_and, ↓e_or, ↓e_andV, ↓e_orV, ↓e_notV, ↓e_if, ↓e_isi, ↓e_neg, ↓e_chain, ↓e_call, ↓e_callK, ↓e_jint, ↓e_dict0, ↓e_dict1, ↓e_listRng, ↓e_append, ↓e_cut, ↓e_cutO, ↓e_onone, ↓e_osome, ↓e_iseq, ↓e_ienum, ↓e_irng, ↓e_gname, ↓e_lnil, ↓e_lcons, ↓e_lc, ↓e_yes, ↓f_addI, ↓f_addS, ↓f_addT, ↓f_addL, ↓f_i2, ↓f_mulI, ↓f_mulT, ↓f_mulL, ↓f_eq, ↓f_ne, ↓f_is, ↓f_isnot, ↓f_in, ↓f_notin, ↓f_ixL, ↓f_ixT, ↓f_lenL, ↓f_lenT, ↓f_lenS, ↓f_abs, ↓f_intI, ↓f_intB, ↓f_tupL, ↓f_tupT, ↓f_lstL, ↓f_lstT, ↓f_repr, ↓f_cutL, ↓f_cutT, ↓firm_d, ↓firm_ob, ↓zip_l, ↓zip_t, ↓e_izip, ↓zip_cons, ↓zip_nil1, ↓zip_nil2, ↓f_sorted, ↓e_inn, ↓e_inc, ↓e_l2n, ↓e_l2c, ↓e_lc2, ↓e_rev, ↓e_pop, ↓e_popAt, ↓e_extend, ↓e_lc3, ↓e_gon, ↓e_goc, ↓e_dbMid, ↓e_dbIn, ↓f_neu, ↓dgTup_tup, ↓dgCons_cons, ↓dgNil_nil, ite_t, ite_f, itK_not, List.cons_append, List.nil_append, List.append_nil, List.replicate, List.flatten_cons, List.flatten_nil, List.append_eq, List.length_cons, List.length_nil, Nat.zero_add, Nat.reduceAdd, true_and, and_true, eqOk_str, eqOk_int, eqOk_bool, str_eqv, int_eqv, tup_nil_eqv, lst_nil_eqv, rep_flat, isK_int, isK_bool, isK_tuple, isK_str, kInt, kBool, kTuple, kStr, GB.isNon, Bool.not_true, Bool.not_false, Bool.or_false, Bool.or_true, Bool.false_or, Bool.true_or, reduceCtorEq, ↓ix0, ↓ix1, ↓ix2, ↓ix3, ↓ix4, ↓s_hnew]
    simp only [insH, Bo.has, Int.reduceToNat] at q
    (revert q; cases (b.g 0 2 "new") <;> cases (b.g 0 2 "again") <;> cases (b.p) <;> (intro q; simp only [ite_t, ite_f, Bool.true_or, Bool.false_or, Bool.true_and, Bool.false_and, Bool.or_true, Bool.or_false, Bool.and_true, Bool.and_false, Bool.not_true, Bool.not_false] at q ⊢; first | exact q | (repeat (refine ⟨(show (_ : Prop) from by first | decide | decide +kernel), ?_⟩)); exact q))
  · simp only [↓at0, ↓set0, ↓at1, ↓set1, ↓at2, ↓set2, ↓at3, ↓set3, ↓at4, ↓set4, ↓at5, ↓set5, ↓at6, ↓set6, ↓at7, ↓set7, ↓at8, ↓set8, ↓at9, ↓set9, ↓at10, ↓set10, ↓at11, ↓set11, ↓at12, ↓set12, ↓at13, ↓set13, ↓at14, ↓set14, ↓at15, ↓set15, ↓fz_d, ↓fz_own, ↓fz_ob, ↓one_d, ↓int_d, ↓bool_d, ↓own_o, ↓ds_nil, ↓ds_cons, ↓seq_l, ↓seq_t, ↓ite_t, ↓ite_f, ↓e_next, ↓e_seq, ↓e_set, ↓e_drop, ↓e_ret, ↓e_ifs, ↓e_brk, ↓e_cnt, ↓e_fixs, ↓e_par, ↓e_par3, ↓e_asg, ↓e_for, ↓e_putAt, ↓e_jput, ↓e_var, ↓e_k, ↓e_fz, ↓e_op, ↓e_opL, ↓e_opR, ↓e_n, ↓e_n1, ↓e_nil, ↓e_cons, ↓e_tup, ↓e_lst, ↓e_b, ↓e_not, ↓e_and, ↓e_or, ↓e_andV, ↓e_orV, ↓e_notV, ↓e_if, ↓e_isi, ↓e_neg, ↓e_chain, ↓e_call, ↓e_callK, ↓e_jint, ↓e_dict0, ↓e_dict1, ↓e_listRng, ↓e_append, ↓e_cut, ↓e_cutO, ↓e_onone, ↓e_osome, ↓e_iseq, ↓e_ienum, ↓e_irng, ↓e_gname, ↓e_lnil, ↓e_lcons, ↓e_lc, ↓e_yes, ↓f_addI, ↓f_addS, ↓f_addT, ↓f_addL, ↓f_i2, ↓f_mulI, ↓f_mulT, ↓f_mulL, ↓f_eq, ↓f_ne, ↓f_is, ↓f_isnot, ↓f_in, ↓f_notin, ↓f_ixL, ↓f_ixT, ↓f_lenL, ↓f_lenT, ↓f_lenS, ↓f_abs, ↓f_intI, ↓f_intB, ↓f_tupL, ↓f_tupT, ↓f_lstL, ↓f_lstT, ↓f_repr, ↓f_cutL, ↓f_cutT, ↓firm_d, ↓firm_ob, ↓zip_l, ↓zip_t, ↓e_izip, ↓zip_cons, ↓zip_nil1, ↓zip_nil2, ↓f_sorted, ↓e_inn, ↓e_inc, ↓e_l2n, ↓e_l2c, ↓e_lc2, ↓e_rev, ↓e_pop, ↓e_popAt, ↓e_extend, ↓e_lc3, ↓e_gon, ↓e_goc, ↓e_dbMid, ↓e_dbIn, ↓f_neu, ↓dgTup_tup, ↓dgCons_cons, ↓dgNil_nil, ite_t, ite_f, itK_not, List.cons_append, List.nil_append, List.append_nil, List.replicate, List.flatten_cons, List.flatten_nil, List.append_eq, List.length_cons, List.length_nil, Nat.zero_add, Nat.reduceAdd, true_and, and_true, eqOk_str, eqOk_int, eqOk_bool, str_eqv, int_eqv, tup_nil_eqv, lst_nil_eqv, rep_flat, isK_int, isK_bool, isK_tuple, isK_str, kInt, kBool, kTuple, kStr, GB.isNon, Bool.not_true, Bool.not_false, Bool.or_false, Bool.or_true, Bool.false_or, Bool.true_or, reduceCtorEq, ↓ix0, ↓ix1, ↓ix2, ↓ix3, ↓ix4, ↓s_hnew]
    simp only [insH, Bo.has, Int.reduceToNat] at q
    (revert q; cases (b.g 1 2 "new") <;> cases (b.g 1 2 "again") <;> cases (b.p) <;> (intro q; simp only [ite_t, ite_f, Bool.true_or, Bool.false_or, Bool.true_and, Bool.false_and, Bool.or_true, Bool.or_false, Bool.and_true, Bool.and_false, Bool.not_true, Bool.not_false] at q ⊢; first | exact q | (repeat (refine ⟨(show (_ : Prop) from by first | decide | decide +kernel), ?_⟩)); exact q))
theorem ma_p_heeds_old : ∀ ss R, ss.length = 3 → F_p_heeds_old ss R → rd_p_heeds_old { nx := fun _ => R (.d .none), rt := R } (ss ++ List.replicate 2 .un) := by
  rintro _ R - ⟨b, c, n, rfl, ok, hc, q⟩
  unfold rd_p_heeds_old Bo.d
  have hc : c = 0 ∨ c = 1 := by omega
  rcases hc with rfl | rfl
  · simp only [↓at0, ↓set0, ↓at1, ↓set1, ↓at2, ↓set2, ↓at3, ↓set3, ↓at4, ↓set4, ↓at5, ↓set5, ↓at6, ↓set6, ↓at7, ↓set7, ↓at8, ↓set8, ↓at9, ↓set9, ↓at10, ↓set10, ↓at11, ↓set11, ↓at12, ↓set12, ↓at13, ↓set13, ↓at14, ↓set14, ↓at15, ↓set15, ↓fz_d, ↓fz_own, ↓fz_ob, ↓one_d, ↓int_d, ↓bool_d, ↓own_o, ↓ds_nil, ↓ds_cons, ↓seq_l, ↓seq_t, ↓ite_t, ↓ite_f, ↓e_next, ↓e_seq, ↓e_set, ↓e_drop, ↓e_ret, ↓e_ifs, ↓e_brk, ↓e_cnt, ↓e_fixs, ↓e_par, ↓e_par3, ↓e_asg, ↓e_for, ↓e_putAt, ↓e_jput, ↓e_var, ↓e_k, ↓e_fz, ↓e_op, ↓e_opL, ↓e_opR, ↓e_n, ↓e_n1, ↓e_nil, ↓e_cons, ↓e_tup, ↓e_lst, ↓e_b, ↓e_not, ↓e_and, ↓e_or, ↓e_andV, ↓e_orV, ↓e_notV, ↓e_if, ↓e_isi, ↓e_neg, ↓e_chain, ↓e_call, ↓e_callK, ↓e_jint, ↓e_dict0, ↓e_dict1, ↓e_listRng, ↓e_append, ↓e_cut, ↓e_cutO, ↓e_onone, ↓e_osome, ↓e_iseq, ↓e_ienum, ↓e_irng, ↓e_gname, ↓e_lnil, ↓e_lcons, ↓e_lc, ↓e_yes, ↓f_addI, ↓f_addS, ↓f_addT, ↓f_addL, ↓f_i2, ↓f_mulI, ↓f_mulT, ↓f_mulL, ↓f_eq, ↓f_ne, ↓f_is, ↓f_isnot, ↓f_in, ↓f_notin, ↓f_ixL, ↓f_ixT, ↓f_lenL, ↓f_lenT, ↓f_lenS, ↓f_abs, ↓f_intI, ↓f_intB, ↓f_tupL, ↓f_tupT, ↓f_lstL, ↓f_lstT, ↓f_repr, ↓f_cutL, ↓f_cutT, ↓firm_d, ↓firm_ob, ↓zip_l, ↓zip_t, ↓e_izip, ↓zip_cons, ↓zip_nil1, ↓zip_nil2, ↓f_sorted, ↓e_inn, ↓e_inc, ↓e_l2n, ↓e_l2c, ↓e_lc2, ↓e_rev, ↓e_pop, ↓e_popAt, ↓e_extend, ↓e_lc3, ↓e_gon, ↓e_goc, ↓e_dbMid, ↓e_dbIn, ↓f_neu, ↓dgTup_tup, ↓dgCons_cons, ↓dgNil_nil, ite_t, ite_f, itK_not, List.cons_append, List.nil_append, List.append_nil, List.replicate, List.flatten_cons, List.flatten_nil, List.append_eq, List.length_cons, List.length_nil, Nat.zero_add, Nat.reduceAdd, true_and, and_true, eqOk_str, eqOk_int, eqOk_bool, str_eqv, int_eqv, tup_nil_eqv, lst_nil_eqv, rep_flat, isK_int, isK_bool, isK_tuple, isK_str, kInt, kBool, kTuple, kStr, GB.isNon, Bool.not_true, Bool.not_false, Bool.or_false, Bool.or_true, Bool.false_or, Bool.true_or, reduceCtorEq, ↓ix0, ↓ix1, ↓ix2, ↓ix3, ↓ix4, inE (inw_old _)]
    simp only [oldH, Bo.has, Int.reduceToNat] at q
    (revert q; cases (b.g 1 0 "old") <;> cases (decide (n = 1)) <;> (intro q; simp only [ite_t, ite_f, Bool.true_or, Bool.false_or, Bool.true_and, Bool.false_and, Bool.or_true, Bool.or_false, Bool.and_true, Bool.and_false, Bool.not_true, Bool.not_false] at q ⊢; first | exact q | (repeat (refine ⟨(show (_ : Prop) from by first | decide | decide +kernel), ?_⟩)); exact q))
  · simp only [↓at0, ↓set0, ↓at1, ↓set1, ↓at2, ↓set2, ↓at3, ↓set3, ↓at4, ↓set4, ↓at5, ↓set5, ↓at6, ↓set6, ↓at7, ↓set7, ↓at8, ↓set8, ↓at9, ↓set9, ↓at10, ↓set10, ↓at11, ↓set11, ↓at12, ↓set12, ↓at13, ↓set13, ↓at14, ↓set14, ↓at15, ↓set15, ↓fz_d, ↓fz_own, ↓fz_ob, ↓one_d, ↓int_d, ↓bool_d, ↓own_o, ↓ds_nil, ↓ds_cons, ↓seq_l, ↓seq_t, ↓ite_t, ↓ite_f, ↓e_next, ↓e_seq, ↓e_set, ↓e_drop, ↓e_ret, ↓e_ifs, ↓e_brk, ↓e_cnt, ↓e_fixs, ↓e_par, ↓e_par3, ↓e_asg, ↓e_for, ↓e_putAt, ↓e_jput, ↓e_var, ↓e_k, ↓e_fz, ↓e_op, ↓e_opL, ↓e_opR, ↓e_n, ↓e_n1, ↓e_nil, ↓e_cons, ↓e_tup, ↓e_lst, ↓e_b, ↓e_not, ↓e_and, ↓e_or, ↓e_andV, ↓e_orV, ↓e_notV, ↓e_if, ↓e_isi, ↓e_neg, ↓e_chain, ↓e_call, ↓e_callK, ↓e_jint, ↓e_dict0, ↓e_dict1, ↓e_listRng, ↓e_append, ↓e_cut, ↓e_cutO, ↓e_onone, ↓e_osome, ↓e_iseq, ↓e_ienum, ↓e_irng, ↓e_gname, ↓e_lnil, ↓e_lcons, ↓e_lc, ↓e_yes, ↓f_addI, ↓f_addS, ↓f_addT, ↓f_addL, ↓f_i2, ↓f_mulI, ↓f_mulT, ↓f_mulL, ↓f_eq, ↓f_ne, ↓f_is, ↓f_isnot, ↓f_in, ↓f_notin, ↓f_ixL, ↓f_ixT, ↓f_lenL, ↓f_lenT, ↓f_lenS, ↓f_abs, ↓f_intI, ↓f_intB, ↓f_tupL, ↓f_tupT, ↓f_lstL, ↓f_lstT, ↓f_repr, ↓f_cutL, ↓f_cutT, ↓firm_d, ↓firm_ob, ↓zip_l, ↓zip_t, ↓e_izip, ↓zip_cons, ↓zip_nil1, ↓zip_nil2, ↓f_sorted, ↓e_inn, ↓e_inc, ↓e_l2n, ↓e_l2c, ↓e_lc2, ↓e_rev, ↓e_pop, ↓e_popAt, ↓e_extend, ↓e_lc3, ↓e_gon, ↓e_goc, ↓e_dbMid, ↓e_dbIn, ↓f_neu, ↓dgTup_tup, ↓dgCons_cons, ↓dgNil_nil, ite_t, ite_f, itK_not, List.cons_append, List.nil_append, List.append_nil, List.replicate, List.flatten_cons, List.flatten_nil, List.append_eq, List.length_cons, List.length_nil, Nat.zero_add, Nat.reduceAdd, true_and, and_true, eqOk_str, eqOk_int, eqOk_bool, str_eqv, int_eqv, tup_nil_eqv, lst_nil_eqv, rep_flat, isK_int, isK_bool, isK_tuple, isK_str, kInt, kBool, kTuple, kStr, GB.isNon, Bool.not_true, Bool.not_false, Bool.or_false, Bool.or_true, Bool.false_or, Bool.true_or, reduceCtorEq, ↓ix0, ↓ix1, ↓ix2, ↓ix3, ↓ix4, inE (inw_old _)]
    simp only [oldH, Bo.has, Int.reduceToNat] at q
    (revert q; cases (b.g 1 1 "old") <;> cases (decide (n = 1)) <;> (intro q; simp only [ite_t, ite_f, Bool.true_or, Bool.false_or, Bool.true_and, Bool.false_and, Bool.or_true, Bool.or_false, Bool.and_true, Bool.and_false, Bool.not_true, Bool.not_false] at q ⊢; first | exact q | (repeat (refine ⟨(show (_ : Prop) from by first | decide | decide +kernel), ?_⟩)); exact q))
theorem ma_is_closed : ∀ ss R, ss.length = 2 → F_is_closed ss R → rd_is_closed { nx := fun _ => R (.d .none), rt := R } (ss ++ List.replicate 0 .un) := by
  rintro _ R - ⟨b, n, rfl, ok, q⟩
  unfold rd_is_closed
  simp only [↓at0, ↓set0, ↓at1, ↓set1, ↓at2, ↓set2, ↓at3, ↓set3, ↓at4, ↓set4, ↓at5, ↓set5, ↓at6, ↓set6, ↓at7, ↓set7, ↓at8, ↓set8, ↓at9, ↓set9, ↓at10, ↓set10, ↓at11, ↓set11, ↓at12, ↓set12, ↓at13, ↓set13, ↓at14, ↓set14, ↓at15, ↓set15, ↓fz_d, ↓fz_own, ↓fz_ob, ↓one_d, ↓int_d, ↓bool_d, ↓own_o, ↓ds_nil, ↓ds_cons, ↓seq_l, ↓seq_t, ↓ite_t, ↓ite_f, ↓e_next, ↓e_seq, ↓e_set, ↓e_drop, ↓e_ret, ↓e_ifs, ↓e_brk, ↓e_cnt, ↓e_fixs, ↓e_par, ↓e_par3, ↓e_asg, ↓e_for, ↓e_putAt, ↓e_jput, ↓e_var, ↓e_k, ↓e_fz, ↓e_op, ↓e_opL, ↓e_opR, ↓e_n, ↓e_n1, ↓e_nil, ↓e_cons, ↓e_tup, ↓e_lst, ↓e_b, ↓e_not, ↓e_and, ↓e_or, ↓e_andV, ↓e_orV, ↓e_notV, ↓e_if, ↓e_isi, ↓e_neg, ↓e_chain, ↓e_call, ↓e_callK, ↓e_jint, ↓e_dict0, ↓e_dict1, ↓e_listRng, ↓e_append, ↓e_cut, ↓e_cutO, ↓e_onone, ↓e_osome, ↓e_iseq, ↓e_ienum, ↓e_irng, ↓e_gname, ↓e_lnil, ↓e_lcons, ↓e_lc, ↓e_yes, ↓f_addI, ↓f_addS, ↓f_addT, ↓f_addL, ↓f_i2, ↓f_mulI, ↓f_mulT, ↓f_mulL, ↓f_eq, ↓f_ne, ↓f_is, ↓f_isnot, ↓f_in, ↓f_notin, ↓f_ixL, ↓f_ixT, ↓f_lenL, ↓f_lenT, ↓f_lenS, ↓f_abs, ↓f_intI, ↓f_intB, ↓f_tupL, ↓f_tupT, ↓f_lstL, ↓f_lstT, ↓f_repr, ↓f_cutL, ↓f_cutT, ↓firm_d, ↓firm_ob, ↓zip_l, ↓zip_t, ↓e_izip, ↓zip_cons, ↓zip_nil1, ↓zip_nil2, ↓f_sorted, ↓e_inn, ↓e_inc, ↓e_l2n, ↓e_l2c, ↓e_lc2, ↓e_rev, ↓e_pop, ↓e_popAt, ↓e_extend, ↓e_lc3, ↓e_gon, ↓e_goc, ↓e_dbMid, ↓e_dbIn, ↓f_neu, ↓dgTup_tup, ↓dgCons_cons, ↓dgNil_nil, ite_t, ite_f, itK_not, List.cons_append, List.nil_append, List.append_nil, List.replicate, List.flatten_cons, List.flatten_nil, List.append_eq, List.length_cons, List.length_nil, Nat.zero_add, Nat.reduceAdd, true_and, and_true, eqOk_str, eqOk_int, eqOk_bool, str_eqv, int_eqv, tup_nil_eqv, lst_nil_eqv, rep_flat, isK_int, isK_bool, isK_tuple, isK_str, kInt, kBool, kTuple, kStr, GB.isNon, Bool.not_true, Bool.not_false, Bool.or_false, Bool.or_true, Bool.false_or, Bool.true_or, reduceCtorEq, ↓s_ins ok, ↓s_early ok]
  refine ⟨by decide, ?_⟩
  simp only [closedH, Int.reduceToNat] at q ⊢
  (revert q; cases (insH b.has 0 b.p) <;> cases (decide (n = 1)) <;> (intro q; simp only [ite_t, ite_f, Bool.true_or, Bool.false_or, Bool.true_and, Bool.false_and, Bool.or_true, Bool.or_false, Bool.and_true, Bool.and_false, Bool.not_true, Bool.not_false] at q ⊢; first | exact q | (repeat (refine ⟨(show (_ : Prop) from by first | decide | decide +kernel), ?_⟩)); exact q))
def wsD (b : Bo) : PyData := .tuple [.tuple [gdD (b.g 0 0), gdD (b.g 0 1), gdD (b.g 0 2)], .tuple [gdD (b.g 1 0), gdD (b.g 1 1), gdD (b.g 1 2)]]
theorem tg_bd {gs : DTGs} {ρ : GB.En} {Q : GB.En → Prop} {b : Bo} : dgTup 5 gs b.d ρ Q ↔ dgTup 5 gs (.tuple [wsD b, .tuple [.tuple [.bool (b.r 0 0), .bool (b.r 0 1), .bool (b.r 0 2)], .tuple [.bool (b.r 1 0), .bool (b.r 1 1), .bool (b.r 1 2)]], .tuple [.str (b.m 0), .str (b.m 1)], .bool b.l, .bool b.p]) ρ Q := Iff.rfl
theorem m_has {b : Bo} {q : Nat} : (!(PyData.str (b.m q)).eqv (PyData.str (Str.ofString "white"))) = b.has (.make q) := by rw [eqv_s]; rfl
theorem m_has' {b : Bo} {q : Nat} : (PyData.str (b.m q)).eqv (PyData.str (Str.ofString "white")) = !b.has (.make q) := by rw [← m_has, Bool.not_not]
theorem ma_ways : ∀ ss R, ss.length = 2 → F_ways ss R → rd_ways { nx := fun _ => R (.d .none), rt := R } (ss ++ List.replicate 7 .un) := by
  rintro _ R - ⟨b, n, rfl, ok, q⟩
  unfold rd_ways
  simp only [↓at0, ↓set0, ↓at1, ↓set1, ↓at2, ↓set2, ↓at3, ↓set3, ↓at4, ↓set4, ↓at5, ↓set5, ↓at6, ↓set6, ↓at7, ↓set7, ↓at8, ↓set8, ↓at9, ↓set9, ↓at10, ↓set10, ↓at11, ↓set11, ↓at12, ↓set12, ↓at13, ↓set13, ↓at14, ↓set14, ↓at15, ↓set15, ↓fz_d, ↓fz_own, ↓fz_ob, ↓one_d, ↓int_d, ↓bool_d, ↓own_o, ↓ds_nil, ↓ds_cons, ↓seq_l, ↓seq_t, ↓ite_t, ↓ite_f, ↓e_next, ↓e_seq, ↓e_set, ↓e_drop, ↓e_ret, ↓e_ifs, ↓e_brk, ↓e_cnt, ↓e_fixs, ↓e_par, ↓e_par3, ↓e_asg, ↓e_for, ↓e_putAt, ↓e_jput, ↓e_var, ↓e_k, ↓e_fz, ↓e_op, ↓e_opL, ↓e_opR, ↓e_n, ↓e_n1, ↓e_nil, ↓e_cons, ↓e_tup, ↓e_lst, ↓e_b, ↓e_not, ↓e_and, ↓e_or, ↓e_andV, ↓e_orV, ↓e_notV, ↓e_if, ↓e_isi, ↓e_neg, ↓e_chain, ↓e_call, ↓e_callK, ↓e_jint, ↓e_dict0, ↓e_dict1, ↓e_listRng, ↓e_append, ↓e_cut, ↓e_cutO, ↓e_onone, ↓e_osome, ↓e_iseq, ↓e_ienum, ↓e_irng, ↓e_gname, ↓e_lnil, ↓e_lcons, ↓e_lc, ↓e_yes, ↓f_addI, ↓f_addS, ↓f_addT, ↓f_addL, ↓f_i2, ↓f_mulI, ↓f_mulT, ↓f_mulL, ↓f_eq, ↓f_ne, ↓f_is, ↓f_isnot, ↓f_in, ↓f_notin, ↓f_ixL, ↓f_ixT, ↓f_lenL, ↓f_lenT, ↓f_lenS, ↓f_abs, ↓f_intI, ↓f_intB, ↓f_tupL, ↓f_tupT, ↓f_lstL, ↓f_lstT, ↓f_repr, ↓f_cutL, ↓f_cutT, ↓firm_d, ↓firm_ob, ↓zip_l, ↓zip_t, ↓e_izip, ↓zip_cons, ↓zip_nil1, ↓zip_nil2, ↓f_sorted, ↓e_inn, ↓e_inc, ↓e_l2n, ↓e_l2c, ↓e_lc2, ↓e_rev, ↓e_pop, ↓e_popAt, ↓e_extend, ↓e_lc3, ↓e_gon, ↓e_goc, ↓e_dbMid, ↓e_dbIn, ↓f_neu, ↓dgTup_tup, ↓dgCons_cons, ↓dgNil_nil, ite_t, ite_f, itK_not, List.cons_append, List.nil_append, List.append_nil, List.replicate, List.flatten_cons, List.flatten_nil, List.append_eq, List.length_cons, List.length_nil, Nat.zero_add, Nat.reduceAdd, true_and, and_true, eqOk_str, eqOk_int, eqOk_bool, str_eqv, int_eqv, tup_nil_eqv, lst_nil_eqv, rep_flat, isK_int, isK_bool, isK_tuple, isK_str, kInt, kBool, kTuple, kStr, GB.isNon, Bool.not_true, Bool.not_false, Bool.or_false, Bool.or_true, Bool.false_or, Bool.true_or, reduceCtorEq, ↓s_closed ok]
  unfold waysH strsD at q
  refine iteB (fun hc => ?_) fun hc => ?_
  · rw [if_pos hc] at q
    simp only [↓at0, ↓set0, ↓at1, ↓set1, ↓at2, ↓set2, ↓at3, ↓set3, ↓at4, ↓set4, ↓at5, ↓set5, ↓at6, ↓set6, ↓at7, ↓set7, ↓at8, ↓set8, ↓at9, ↓set9, ↓at10, ↓set10, ↓at11, ↓set11, ↓at12, ↓set12, ↓at13, ↓set13, ↓at14, ↓set14, ↓at15, ↓set15, ↓fz_d, ↓fz_own, ↓fz_ob, ↓one_d, ↓int_d, ↓bool_d, ↓own_o, ↓ds_nil, ↓ds_cons, ↓seq_l, ↓seq_t, ↓ite_t, ↓ite_f, ↓e_next, ↓e_seq, ↓e_set, ↓e_drop, ↓e_ret, ↓e_ifs, ↓e_brk, ↓e_cnt, ↓e_fixs, ↓e_par, ↓e_par3, ↓e_asg, ↓e_for, ↓e_putAt, ↓e_jput, ↓e_var, ↓e_k, ↓e_fz, ↓e_op, ↓e_opL, ↓e_opR, ↓e_n, ↓e_n1, ↓e_nil, ↓e_cons, ↓e_tup, ↓e_lst, ↓e_b, ↓e_not, ↓e_and, ↓e_or, ↓e_andV, ↓e_orV, ↓e_notV, ↓e_if, ↓e_isi, ↓e_neg, ↓e_chain, ↓e_call, ↓e_callK, ↓e_jint, ↓e_dict0, ↓e_dict1, ↓e_listRng, ↓e_append, ↓e_cut, ↓e_cutO, ↓e_onone, ↓e_osome, ↓e_iseq, ↓e_ienum, ↓e_irng, ↓e_gname, ↓e_lnil, ↓e_lcons, ↓e_lc, ↓e_yes, ↓f_addI, ↓f_addS, ↓f_addT, ↓f_addL, ↓f_i2, ↓f_mulI, ↓f_mulT, ↓f_mulL, ↓f_eq, ↓f_ne, ↓f_is, ↓f_isnot, ↓f_in, ↓f_notin, ↓f_ixL, ↓f_ixT, ↓f_lenL, ↓f_lenT, ↓f_lenS, ↓f_abs, ↓f_intI, ↓f_intB, ↓f_tupL, ↓f_tupT, ↓f_lstL, ↓f_lstT, ↓f_repr, ↓f_cutL, ↓f_cutT, ↓firm_d, ↓firm_ob, ↓zip_l, ↓zip_t, ↓e_izip, ↓zip_cons, ↓zip_nil1, ↓zip_nil2, ↓f_sorted, ↓e_inn, ↓e_inc, ↓e_l2n, ↓e_l2c, ↓e_lc2, ↓e_rev, ↓e_pop, ↓e_popAt, ↓e_extend, ↓e_lc3, ↓e_gon, ↓e_goc, ↓e_dbMid, ↓e_dbIn, ↓f_neu, ↓dgTup_tup, ↓dgCons_cons, ↓dgNil_nil, ite_t, ite_f, itK_not, List.cons_append, List.nil_append, List.append_nil, List.replicate, List.flatten_cons, List.flatten_nil, List.append_eq, List.length_cons, List.length_nil, Nat.zero_add, Nat.reduceAdd, true_and, and_true, eqOk_str, eqOk_int, eqOk_bool, str_eqv, int_eqv, tup_nil_eqv, lst_nil_eqv, rep_flat, isK_int, isK_bool, isK_tuple, isK_str, kInt, kBool, kTuple, kStr, GB.isNon, Bool.not_true, Bool.not_false, Bool.or_false, Bool.or_true, Bool.false_or, Bool.true_or, reduceCtorEq, ↓tg_bd, ↓ix0, ↓ix1, ↓s_hold ok, ↓s_ins ok, Int.reduceToNat, m_has']
    simp only [Bo.has] at q
    have z1 : ((0 : Int) ≤ 1 ∧ (1 : Int) < 2) = True := by decide
    have z2 : ((0 : Int) ≤ 0 ∧ (0 : Int) < 2) = True := by decide
    simp only [z1, z2, true_and, Bo.has]
    revert q
    cases (b.m 1 == "white") <;> cases oldH b.has 1 n <;> cases b.r 1 0 <;> cases b.l <;> cases insH b.has 1 b.p <;> cases oldH b.has 0 n <;> cases b.r 1 1 <;> (intro q; simp only [ite_t, ite_f, opt, Bool.true_or, Bool.false_or, Bool.true_and, Bool.false_and, Bool.or_true, Bool.or_false, Bool.and_true, Bool.and_false, Bool.not_true, Bool.not_false, if_true, if_false, List.nil_append, List.append_nil, List.cons_append, List.map_cons, List.map_nil, Bool.false_eq_true, ↓reduceIte] at q ⊢; first | exact q | (repeat (refine ⟨(show (_ : Prop) from by decide), ?_⟩)); exact q)
  · rw [if_neg (by rw [hc]; decide)] at q
    exact ⟨by decide, q⟩
theorem ma_is_safe : ∀ ss R, ss.length = 2 → F_is_safe ss R → rd_is_safe { nx := fun _ => R (.d .none), rt := R } (ss ++ List.replicate 0 .un) := by
  rintro _ R - ⟨b, n, rfl, ok, q⟩
  unfold rd_is_safe
  simp only [↓at0, ↓set0, ↓at1, ↓set1, ↓at2, ↓set2, ↓at3, ↓set3, ↓at4, ↓set4, ↓at5, ↓set5, ↓at6, ↓set6, ↓at7, ↓set7, ↓at8, ↓set8, ↓at9, ↓set9, ↓at10, ↓set10, ↓at11, ↓set11, ↓at12, ↓set12, ↓at13, ↓set13, ↓at14, ↓set14, ↓at15, ↓set15, ↓fz_d, ↓fz_own, ↓fz_ob, ↓one_d, ↓int_d, ↓bool_d, ↓own_o, ↓ds_nil, ↓ds_cons, ↓seq_l, ↓seq_t, ↓ite_t, ↓ite_f, ↓e_next, ↓e_seq, ↓e_set, ↓e_drop, ↓e_ret, ↓e_ifs, ↓e_brk, ↓e_cnt, ↓e_fixs, ↓e_par, ↓e_par3, ↓e_asg, ↓e_for, ↓e_putAt, ↓e_jput, ↓e_var, ↓e_k, ↓e_fz, ↓e_op, ↓e_opL, ↓e_opR, ↓e_n, ↓e_n1, ↓e_nil, ↓e_cons, ↓e_tup, ↓e_lst, ↓e_b, ↓e_not, ↓e_and, ↓e_or, ↓e_andV, ↓e_orV, ↓e_notV, ↓e_if, ↓e_isi, ↓e_neg, ↓e_chain, ↓e_call, ↓e_callK, ↓e_jint, ↓e_dict0, ↓e_dict1, ↓e_listRng, ↓e_append, ↓e_cut, ↓e_cutO, ↓e_onone, ↓e_osome, ↓e_iseq, ↓e_ienum, ↓e_irng, ↓e_gname, ↓e_lnil, ↓e_lcons, ↓e_lc, ↓e_yes, ↓f_addI, ↓f_addS, ↓f_addT, ↓f_addL, ↓f_i2, ↓f_mulI, ↓f_mulT, ↓f_mulL, ↓f_eq, ↓f_ne, ↓f_is, ↓f_isnot, ↓f_in, ↓f_notin, ↓f_ixL, ↓f_ixT, ↓f_lenL, ↓f_lenT, ↓f_lenS, ↓f_abs, ↓f_intI, ↓f_intB, ↓f_tupL, ↓f_tupT, ↓f_lstL, ↓f_lstT, ↓f_repr, ↓f_cutL, ↓f_cutT, ↓firm_d, ↓firm_ob, ↓zip_l, ↓zip_t, ↓e_izip, ↓zip_cons, ↓zip_nil1, ↓zip_nil2, ↓f_sorted, ↓e_inn, ↓e_inc, ↓e_l2n, ↓e_l2c, ↓e_lc2, ↓e_rev, ↓e_pop, ↓e_popAt, ↓e_extend, ↓e_lc3, ↓e_gon, ↓e_goc, ↓e_dbMid, ↓e_dbIn, ↓f_neu, ↓dgTup_tup, ↓dgCons_cons, ↓dgNil_nil, ite_t, ite_f, itK_not, List.cons_append, List.nil_append, List.append_nil, List.replicate, List.flatten_cons, List.flatten_nil, List.append_eq, List.length_cons, List.length_nil, Nat.zero_add, Nat.reduceAdd, true_and, and_true, eqOk_str, eqOk_int, eqOk_bool, str_eqv, int_eqv, tup_nil_eqv, lst_nil_eqv, rep_flat, isK_int, isK_bool, isK_tuple, isK_str, kInt, kBool, kTuple, kStr, GB.isNon, Bool.not_true, Bool.not_false, Bool.or_false, Bool.or_true, Bool.false_or, Bool.true_or, reduceCtorEq, ↓s_ways ok, strsD]
  generalize waysH b.has b.p n = zs at q ⊢
  have e : decide ((0 : Int) < (((zs.map PyData.str).length : Nat) : Int)) = !zs.isEmpty := by
    cases zs <;> simp
  rw [e]; exact q
end GK

set_option maxRecDepth 20000
namespace GK
open PySem PySem.Spec PyProof.Rows L2 GB
/-! the law's entries, books, ways -/
theorem in_w {es : List En} (hs : SubE es) {p c : Nat} {w : Str} (he : En.write p c w ∈ ENS) : inD (.tuple [.str "write", .int p, .int c, .str w]) (esD es) = some (inL es (.write p c w)) := es_in hs he
theorem i_l {es : List En} (hs : SubE es) {p : Bool → Prop} : (∃ b, inD (.tuple [.str "last"]) (esD es) = some b ∧ p b) ↔ p (inL es (.last)) := inE (es_in hs (e := .last) (by decide +kernel))
theorem i_m0 {es : List En} (hs : SubE es) {p : Bool → Prop} : (∃ b, inD (.tuple [.str "make", .int 0]) (esD es) = some b ∧ p b) ↔ p (inL es (.make 0)) := inE (es_in hs (e := .make 0) (by decide +kernel))
theorem i_m1 {es : List En} (hs : SubE es) {p : Bool → Prop} : (∃ b, inD (.tuple [.str "make", .int 1]) (esD es) = some b ∧ p b) ↔ p (inL es (.make 1)) := inE (es_in hs (e := .make 1) (by decide +kernel))
theorem i_r00 {es : List En} (hs : SubE es) {p : Bool → Prop} : (∃ b, inD (.tuple [.str "read", .int 0, .int 0]) (esD es) = some b ∧ p b) ↔ p (inL es (.read 0 0)) := inE (es_in hs (e := .read 0 0) (by decide +kernel))
theorem i_r01 {es : List En} (hs : SubE es) {p : Bool → Prop} : (∃ b, inD (.tuple [.str "read", .int 0, .int 1]) (esD es) = some b ∧ p b) ↔ p (inL es (.read 0 1)) := inE (es_in hs (e := .read 0 1) (by decide +kernel))
theorem i_r02 {es : List En} (hs : SubE es) {p : Bool → Prop} : (∃ b, inD (.tuple [.str "read", .int 0, .int 2]) (esD es) = some b ∧ p b) ↔ p (inL es (.read 0 2)) := inE (es_in hs (e := .read 0 2) (by decide +kernel))
theorem i_r10 {es : List En} (hs : SubE es) {p : Bool → Prop} : (∃ b, inD (.tuple [.str "read", .int 1, .int 0]) (esD es) = some b ∧ p b) ↔ p (inL es (.read 1 0)) := inE (es_in hs (e := .read 1 0) (by decide +kernel))
theorem i_r11 {es : List En} (hs : SubE es) {p : Bool → Prop} : (∃ b, inD (.tuple [.str "read", .int 1, .int 1]) (esD es) = some b ∧ p b) ↔ p (inL es (.read 1 1)) := inE (es_in hs (e := .read 1 1) (by decide +kernel))
theorem i_r12 {es : List En} (hs : SubE es) {p : Bool → Prop} : (∃ b, inD (.tuple [.str "read", .int 1, .int 2]) (esD es) = some b ∧ p b) ↔ p (inL es (.read 1 2)) := inE (es_in hs (e := .read 1 2) (by decide +kernel))
theorem i_w00a {es : List En} (hs : SubE es) {p : Bool → Prop} : (∃ b, inD (.tuple [.str "write", .int 0, .int 0, .str "again"]) (esD es) = some b ∧ p b) ↔ p (inL es (.write 0 0 "again")) := inE (es_in hs (e := .write 0 0 "again") (by decide +kernel))
theorem i_w00n {es : List En} (hs : SubE es) {p : Bool → Prop} : (∃ b, inD (.tuple [.str "write", .int 0, .int 0, .str "new"]) (esD es) = some b ∧ p b) ↔ p (inL es (.write 0 0 "new")) := inE (es_in hs (e := .write 0 0 "new") (by decide +kernel))
theorem i_w00o {es : List En} (hs : SubE es) {p : Bool → Prop} : (∃ b, inD (.tuple [.str "write", .int 0, .int 0, .str "old"]) (esD es) = some b ∧ p b) ↔ p (inL es (.write 0 0 "old")) := inE (es_in hs (e := .write 0 0 "old") (by decide +kernel))
theorem i_w01a {es : List En} (hs : SubE es) {p : Bool → Prop} : (∃ b, inD (.tuple [.str "write", .int 0, .int 1, .str "again"]) (esD es) = some b ∧ p b) ↔ p (inL es (.write 0 1 "again")) := inE (es_in hs (e := .write 0 1 "again") (by decide +kernel))
theorem i_w01n {es : List En} (hs : SubE es) {p : Bool → Prop} : (∃ b, inD (.tuple [.str "write", .int 0, .int 1, .str "new"]) (esD es) = some b ∧ p b) ↔ p (inL es (.write 0 1 "new")) := inE (es_in hs (e := .write 0 1 "new") (by decide +kernel))
theorem i_w01o {es : List En} (hs : SubE es) {p : Bool → Prop} : (∃ b, inD (.tuple [.str "write", .int 0, .int 1, .str "old"]) (esD es) = some b ∧ p b) ↔ p (inL es (.write 0 1 "old")) := inE (es_in hs (e := .write 0 1 "old") (by decide +kernel))
theorem i_w02a {es : List En} (hs : SubE es) {p : Bool → Prop} : (∃ b, inD (.tuple [.str "write", .int 0, .int 2, .str "again"]) (esD es) = some b ∧ p b) ↔ p (inL es (.write 0 2 "again")) := inE (es_in hs (e := .write 0 2 "again") (by decide +kernel))
theorem i_w02n {es : List En} (hs : SubE es) {p : Bool → Prop} : (∃ b, inD (.tuple [.str "write", .int 0, .int 2, .str "new"]) (esD es) = some b ∧ p b) ↔ p (inL es (.write 0 2 "new")) := inE (es_in hs (e := .write 0 2 "new") (by decide +kernel))
theorem i_w02o {es : List En} (hs : SubE es) {p : Bool → Prop} : (∃ b, inD (.tuple [.str "write", .int 0, .int 2, .str "old"]) (esD es) = some b ∧ p b) ↔ p (inL es (.write 0 2 "old")) := inE (es_in hs (e := .write 0 2 "old") (by decide +kernel))
theorem i_w10a {es : List En} (hs : SubE es) {p : Bool → Prop} : (∃ b, inD (.tuple [.str "write", .int 1, .int 0, .str "again"]) (esD es) = some b ∧ p b) ↔ p (inL es (.write 1 0 "again")) := inE (es_in hs (e := .write 1 0 "again") (by decide +kernel))
theorem i_w10n {es : List En} (hs : SubE es) {p : Bool → Prop} : (∃ b, inD (.tuple [.str "write", .int 1, .int 0, .str "new"]) (esD es) = some b ∧ p b) ↔ p (inL es (.write 1 0 "new")) := inE (es_in hs (e := .write 1 0 "new") (by decide +kernel))
theorem i_w10o {es : List En} (hs : SubE es) {p : Bool → Prop} : (∃ b, inD (.tuple [.str "write", .int 1, .int 0, .str "old"]) (esD es) = some b ∧ p b) ↔ p (inL es (.write 1 0 "old")) := inE (es_in hs (e := .write 1 0 "old") (by decide +kernel))
theorem i_w11a {es : List En} (hs : SubE es) {p : Bool → Prop} : (∃ b, inD (.tuple [.str "write", .int 1, .int 1, .str "again"]) (esD es) = some b ∧ p b) ↔ p (inL es (.write 1 1 "again")) := inE (es_in hs (e := .write 1 1 "again") (by decide +kernel))
theorem i_w11n {es : List En} (hs : SubE es) {p : Bool → Prop} : (∃ b, inD (.tuple [.str "write", .int 1, .int 1, .str "new"]) (esD es) = some b ∧ p b) ↔ p (inL es (.write 1 1 "new")) := inE (es_in hs (e := .write 1 1 "new") (by decide +kernel))
theorem i_w11o {es : List En} (hs : SubE es) {p : Bool → Prop} : (∃ b, inD (.tuple [.str "write", .int 1, .int 1, .str "old"]) (esD es) = some b ∧ p b) ↔ p (inL es (.write 1 1 "old")) := inE (es_in hs (e := .write 1 1 "old") (by decide +kernel))
theorem i_w12a {es : List En} (hs : SubE es) {p : Bool → Prop} : (∃ b, inD (.tuple [.str "write", .int 1, .int 2, .str "again"]) (esD es) = some b ∧ p b) ↔ p (inL es (.write 1 2 "again")) := inE (es_in hs (e := .write 1 2 "again") (by decide +kernel))
theorem i_w12n {es : List En} (hs : SubE es) {p : Bool → Prop} : (∃ b, inD (.tuple [.str "write", .int 1, .int 2, .str "new"]) (esD es) = some b ∧ p b) ↔ p (inL es (.write 1 2 "new")) := inE (es_in hs (e := .write 1 2 "new") (by decide +kernel))
theorem i_w12o {es : List En} (hs : SubE es) {p : Bool → Prop} : (∃ b, inD (.tuple [.str "write", .int 1, .int 2, .str "old"]) (esD es) = some b ∧ p b) ↔ p (inL es (.write 1 2 "old")) := inE (es_in hs (e := .write 1 2 "old") (by decide +kernel))
theorem gd_run {f : Str → Bool} : (opt (f "again") "again" ++ (opt (f "new") "new" ++ opt (f "old") "old")) = gL f := by
  rw [gL_bits]; rfl
theorem ma_l_guard : ∀ ss R, ss.length = 3 → F_l_guard ss R → rd_l_guard { nx := fun _ => R (.d .none), rt := R } (ss ++ List.replicate 1 .un) := by
  rintro _ R - ⟨es, p, c, rfl, hs, hp, hc, q⟩
  unfold rd_l_guard
  obtain ⟨p, rfl⟩ := Int.eq_ofNat_of_zero_le hp.1
  obtain ⟨c, rfl⟩ := Int.eq_ofNat_of_zero_le hc.1
  have hm : ∀ w, WD3 w → En.write p c w ∈ ENS := fun w hw => by
    rcases two p (by omega) with rfl | rfl <;> rcases three c (by omega) with rfl | rfl | rfl <;> rcases hw with rfl | rfl | rfl <;> decide +kernel
  simp only [Int.toNat_natCast] at q
  simp only [↓at0, ↓set0, ↓at1, ↓set1, ↓at2, ↓set2, ↓at3, ↓set3, ↓at4, ↓set4, ↓at5, ↓set5, ↓at6, ↓set6, ↓at7, ↓set7, ↓at8, ↓set8, ↓at9, ↓set9, ↓at10, ↓set10, ↓at11, ↓set11, ↓at12, ↓set12, ↓at13, ↓set13, ↓at14, ↓set14, ↓at15, ↓set15, ↓fz_d, ↓fz_own, ↓fz_ob, ↓one_d, ↓int_d, ↓bool_d, ↓own_o, ↓ds_nil, ↓ds_cons, ↓seq_l, ↓seq_t, ↓ite_t, ↓ite_f, ↓e_next, ↓e_seq, ↓e_set, ↓e_drop, ↓e_ret, ↓e_ifs, ↓e_brk, ↓e_cnt, ↓e_fixs, ↓e_par, ↓e_par3, ↓e_asg, ↓e_for, ↓e_putAt, ↓e_jput, ↓e_var, ↓e_k, ↓e_fz, ↓e_op, ↓e_opL, ↓e_opR, ↓e_n, ↓e_n1, ↓e_nil, ↓e_cons, ↓e_tup, ↓e_lst, ↓e_b, ↓e_not, ↓e_and, ↓e_or, ↓e_andV, ↓e_orV, ↓e_notV, ↓e_if, ↓e_isi, ↓e_neg, ↓e_chain, ↓e_call, ↓e_callK, ↓e_jint, ↓e_dict0, ↓e_dict1, ↓e_listRng, ↓e_append, ↓e_cut, ↓e_cutO, ↓e_onone, ↓e_osome, ↓e_iseq, ↓e_ienum, ↓e_irng, ↓e_gname, ↓e_lnil, ↓e_lcons, ↓e_lc, ↓e_yes, ↓f_addI, ↓f_addS, ↓f_addT, ↓f_addL, ↓f_i2, ↓f_mulI, ↓f_mulT, ↓f_mulL, ↓f_eq, ↓f_ne, ↓f_is, ↓f_isnot, ↓f_in, ↓f_notin, ↓f_ixL, ↓f_ixT, ↓f_lenL, ↓f_lenT, ↓f_lenS, ↓f_abs, ↓f_intI, ↓f_intB, ↓f_tupL, ↓f_tupT, ↓f_lstL, ↓f_lstT, ↓f_repr, ↓f_cutL, ↓f_cutT, ↓firm_d, ↓firm_ob, ↓zip_l, ↓zip_t, ↓e_izip, ↓zip_cons, ↓zip_nil1, ↓zip_nil2, ↓f_sorted, ↓e_lcn, ↓e_lcc, ↓e_inn, ↓e_inc, ↓e_l2n, ↓e_l2c, ↓e_lc2, ↓e_rev, ↓e_pop, ↓e_popAt, ↓e_extend, ↓e_lc3, ↓e_gon, ↓e_goc, ↓e_dbMid, ↓e_dbIn, ↓f_neu, ↓dgTup_tup, ↓dgCons_cons, ↓dgNil_nil, ite_t, ite_f, itK_not, List.cons_append, List.nil_append, List.append_nil, List.replicate, List.flatten_cons, List.flatten_nil, List.append_eq, List.length_cons, List.length_nil, Nat.zero_add, Nat.reduceAdd, true_and, and_true, eqOk_str, eqOk_int, eqOk_bool, str_eqv, int_eqv, tup_nil_eqv, lst_nil_eqv, rep_flat, isK_int, isK_bool, isK_tuple, isK_str, kInt, kBool, kTuple, kStr, GB.isNon, Bool.not_true, Bool.not_false, Bool.or_false, Bool.or_true, Bool.false_or, Bool.true_or, reduceCtorEq, wipeD, List.set, inE (in_w hs (hm "again" (.inl rfl))), inE (in_w hs (hm "new" (.inr (.inl rfl)))), inE (in_w hs (hm "old" (.inr (.inr rfl))))]
  unfold gdD at q
  rw [← gd_run] at q
  revert q
  cases inL es (.write p c "again") <;> cases inL es (.write p c "new") <;> cases inL es (.write p c "old") <;> (intro q; simp only [ite_t, ite_f, opt, Bool.false_eq_true, ↓reduceIte, List.nil_append, List.append_nil, List.cons_append, List.map_cons, List.map_nil] at q ⊢; first | exact q | (repeat (refine ⟨(show (_ : Prop) from by decide), ?_⟩)); exact q)
theorem ma_l_is_early : ∀ ss R, ss.length = 1 → F_l_is_early ss R → rd_l_is_early { nx := fun _ => R (.d .none), rt := R } (ss ++ List.replicate 2 .un) := by
  rintro _ R - ⟨es, rfl, hs, q⟩
  unfold rd_l_is_early
  simp only [↓at0, ↓set0, ↓at1, ↓set1, ↓at2, ↓set2, ↓at3, ↓set3, ↓at4, ↓set4, ↓at5, ↓set5, ↓at6, ↓set6, ↓at7, ↓set7, ↓at8, ↓set8, ↓at9, ↓set9, ↓at10, ↓set10, ↓at11, ↓set11, ↓at12, ↓set12, ↓at13, ↓set13, ↓at14, ↓set14, ↓at15, ↓set15, ↓fz_d, ↓fz_own, ↓fz_ob, ↓one_d, ↓int_d, ↓bool_d, ↓own_o, ↓ds_nil, ↓ds_cons, ↓seq_l, ↓seq_t, ↓ite_t, ↓ite_f, ↓e_next, ↓e_seq, ↓e_set, ↓e_drop, ↓e_ret, ↓e_ifs, ↓e_brk, ↓e_cnt, ↓e_fixs, ↓e_par, ↓e_par3, ↓e_asg, ↓e_for, ↓e_putAt, ↓e_jput, ↓e_var, ↓e_k, ↓e_fz, ↓e_op, ↓e_opL, ↓e_opR, ↓e_n, ↓e_n1, ↓e_nil, ↓e_cons, ↓e_tup, ↓e_lst, ↓e_b, ↓e_not, ↓e_and, ↓e_or, ↓e_andV, ↓e_orV, ↓e_notV, ↓e_if, ↓e_isi, ↓e_neg, ↓e_chain, ↓e_call, ↓e_callK, ↓e_jint, ↓e_dict0, ↓e_dict1, ↓e_listRng, ↓e_append, ↓e_cut, ↓e_cutO, ↓e_onone, ↓e_osome, ↓e_iseq, ↓e_ienum, ↓e_irng, ↓e_gname, ↓e_lnil, ↓e_lcons, ↓e_lc, ↓e_yes, ↓f_addI, ↓f_addS, ↓f_addT, ↓f_addL, ↓f_i2, ↓f_mulI, ↓f_mulT, ↓f_mulL, ↓f_eq, ↓f_ne, ↓f_is, ↓f_isnot, ↓f_in, ↓f_notin, ↓f_ixL, ↓f_ixT, ↓f_lenL, ↓f_lenT, ↓f_lenS, ↓f_abs, ↓f_intI, ↓f_intB, ↓f_tupL, ↓f_tupT, ↓f_lstL, ↓f_lstT, ↓f_repr, ↓f_cutL, ↓f_cutT, ↓firm_d, ↓firm_ob, ↓zip_l, ↓zip_t, ↓e_izip, ↓zip_cons, ↓zip_nil1, ↓zip_nil2, ↓f_sorted, ↓e_lcn, ↓e_lcc, ↓e_inn, ↓e_inc, ↓e_l2n, ↓e_l2c, ↓e_lc2, ↓e_rev, ↓e_pop, ↓e_popAt, ↓e_extend, ↓e_lc3, ↓e_gon, ↓e_goc, ↓e_dbMid, ↓e_dbIn, ↓f_neu, ↓dgTup_tup, ↓dgCons_cons, ↓dgNil_nil, ite_t, ite_f, itK_not, List.cons_append, List.nil_append, List.append_nil, List.replicate, List.flatten_cons, List.flatten_nil, List.append_eq, List.length_cons, List.length_nil, Nat.zero_add, Nat.reduceAdd, true_and, and_true, eqOk_str, eqOk_int, eqOk_bool, str_eqv, int_eqv, tup_nil_eqv, lst_nil_eqv, rep_flat, isK_int, isK_bool, isK_tuple, isK_str, kInt, kBool, kTuple, kStr, GB.isNon, Bool.not_true, Bool.not_false, Bool.or_false, Bool.or_true, Bool.false_or, Bool.true_or, reduceCtorEq, wipeD, List.set, i_m0 hs, i_r00 hs, i_w00n hs, i_w00o hs, List.isEmpty_cons, List.isEmpty_nil]
  unfold earlyH at q
  repeat (refine ⟨(show (_ : Prop) from by first | decide | omega | exact List.cons_ne_nil _ _ | (unfold CPow; decide) | (refine line_ge ?_; (try simp only [List.length_append, List.length_replicate, List.length_map, irow_len, Int.reduceToNat, List.length_cons, List.length_nil]); omega) | ((try simp only [List.length_append, List.length_replicate, List.length_map, irow_len, Int.reduceToNat, List.length_cons, List.length_nil]); omega)), ?_⟩)
  (revert q; cases (inL es (.make 0)) <;> cases (inL es (.read 0 0)) <;> cases (inL es (.write 0 0 "new")) <;> cases (inL es (.write 0 0 "old")) <;> (intro q; simp only [ite_t, ite_f, Bool.true_or, Bool.false_or, Bool.true_and, Bool.false_and, Bool.or_true, Bool.or_false, Bool.and_true, Bool.and_false, Bool.not_true, Bool.not_false] at q ⊢; first | exact q | (repeat (refine ⟨(show (_ : Prop) from by first | decide | decide +kernel), ?_⟩)); exact q))
theorem ma_l_inserts : ∀ ss R, ss.length = 3 → F_l_inserts ss R → rd_l_inserts { nx := fun _ => R (.d .none), rt := R } (ss ++ List.replicate 1 .un) := by
  rintro _ R - ⟨es, p, pc, rfl, hs, hp, q⟩
  unfold rd_l_inserts
  have hp : p = 0 ∨ p = 1 := by omega
  cases pc <;> rcases hp with rfl | rfl <;> simp only [insH, Int.reduceToNat] at q
  · simp only [↓at0, ↓set0, ↓at1, ↓set1, ↓at2, ↓set2, ↓at3, ↓set3, ↓at4, ↓set4, ↓at5, ↓set5, ↓at6, ↓set6, ↓at7, ↓set7, ↓at8, ↓set8, ↓at9, ↓set9, ↓at10, ↓set10, ↓at11, ↓set11, ↓at12, ↓set12, ↓at13, ↓set13, ↓at14, ↓set14, ↓at15, ↓set15, ↓fz_d, ↓fz_own, ↓fz_ob, ↓one_d, ↓int_d, ↓bool_d, ↓own_o, ↓ds_nil, ↓ds_cons, ↓seq_l, ↓seq_t, ↓ite_t, ↓ite_f, ↓e_next, ↓e_seq, ↓e_set, ↓e_drop, ↓e_ret, ↓e_ifs, ↓e_brk, ↓e_cnt, ↓e_fixs, ↓e_par, ↓e_par3, ↓e_asg, ↓e_for, ↓e_putAt, ↓e_jput, ↓e_var, ↓e_k, ↓e_fz, ↓e_op, ↓e_opL, ↓e_opR, ↓e_n, ↓e_n1, ↓e_nil, ↓e_cons, ↓e_tup, ↓e_lst, ↓e_b, ↓e_not, ↓e_and, ↓e_or, ↓e_andV, ↓e_orV, ↓e_notV, ↓e_if, ↓e_isi, ↓e_neg, ↓e_chain, ↓e_call, ↓e_callK, ↓e_jint, ↓e_dict0, ↓e_dict1, ↓e_listRng, ↓e_append, ↓e_cut, ↓e_cutO, ↓e_onone, ↓e_osome, ↓e_iseq, ↓e_ienum, ↓e_irng, ↓e_gname, ↓e_lnil, ↓e_lcons, ↓e_lc, ↓e_yes, ↓f_addI, ↓f_addS, ↓f_addT, ↓f_addL, ↓f_i2, ↓f_mulI, ↓f_mulT, ↓f_mulL, ↓f_eq, ↓f_ne, ↓f_is, ↓f_isnot, ↓f_in, ↓f_notin, ↓f_ixL, ↓f_ixT, ↓f_lenL, ↓f_lenT, ↓f_lenS, ↓f_abs, ↓f_intI, ↓f_intB, ↓f_tupL, ↓f_tupT, ↓f_lstL, ↓f_lstT, ↓f_repr, ↓f_cutL, ↓f_cutT, ↓firm_d, ↓firm_ob, ↓zip_l, ↓zip_t, ↓e_izip, ↓zip_cons, ↓zip_nil1, ↓zip_nil2, ↓f_sorted, ↓e_lcn, ↓e_lcc, ↓e_inn, ↓e_inc, ↓e_l2n, ↓e_l2c, ↓e_lc2, ↓e_rev, ↓e_pop, ↓e_popAt, ↓e_extend, ↓e_lc3, ↓e_gon, ↓e_goc, ↓e_dbMid, ↓e_dbIn, ↓f_neu, ↓dgTup_tup, ↓dgCons_cons, ↓dgNil_nil, ite_t, ite_f, itK_not, List.cons_append, List.nil_append, List.append_nil, List.replicate, List.flatten_cons, List.flatten_nil, List.append_eq, List.length_cons, List.length_nil, Nat.zero_add, Nat.reduceAdd, true_and, and_true, eqOk_str, eqOk_int, eqOk_bool, str_eqv, int_eqv, tup_nil_eqv, lst_nil_eqv, rep_flat, isK_int, isK_bool, isK_tuple, isK_str, kInt, kBool, kTuple, kStr, GB.isNon, Bool.not_true, Bool.not_false, Bool.or_false, Bool.or_true, Bool.false_or, Bool.true_or, reduceCtorEq, i_w02n hs, i_w02a hs]
    repeat (refine ⟨(show (_ : Prop) from by first | decide | omega | exact List.cons_ne_nil _ _ | (unfold CPow; decide) | (refine line_ge ?_; (try simp only [List.length_append, List.length_replicate, List.length_map, irow_len, Int.reduceToNat, List.length_cons, List.length_nil]); omega) | ((try simp only [List.length_append, List.length_replicate, List.length_map, irow_len, Int.reduceToNat, List.length_cons, List.length_nil]); omega)), ?_⟩)
    (revert q; cases (inL es (.write 0 2 "new")) <;> cases (inL es (.write 0 2 "again")) <;> (intro q; simp only [ite_t, ite_f, Bool.true_or, Bool.false_or, Bool.true_and, Bool.false_and, Bool.or_true, Bool.or_false, Bool.and_true, Bool.and_false, Bool.not_true, Bool.not_false] at q ⊢; first | exact q | (repeat (refine ⟨(show (_ : Prop) from by first | decide | decide +kernel), ?_⟩)); exact q))
  · simp only [↓at0, ↓set0, ↓at1, ↓set1, ↓at2, ↓set2, ↓at3, ↓set3, ↓at4, ↓set4, ↓at5, ↓set5, ↓at6, ↓set6, ↓at7, ↓set7, ↓at8, ↓set8, ↓at9, ↓set9, ↓at10, ↓set10, ↓at11, ↓set11, ↓at12, ↓set12, ↓at13, ↓set13, ↓at14, ↓set14, ↓at15, ↓set15, ↓fz_d, ↓fz_own, ↓fz_ob, ↓one_d, ↓int_d, ↓bool_d, ↓own_o, ↓ds_nil, ↓ds_cons, ↓seq_l, ↓seq_t, ↓ite_t, ↓ite_f, ↓e_next, ↓e_seq, ↓e_set, ↓e_drop, ↓e_ret, ↓e_ifs, ↓e_brk, ↓e_cnt, ↓e_fixs, ↓e_par, ↓e_par3, ↓e_asg, ↓e_for, ↓e_putAt, ↓e_jput, ↓e_var, ↓e_k, ↓e_fz, ↓e_op, ↓e_opL, ↓e_opR, ↓e_n, ↓e_n1, ↓e_nil, ↓e_cons, ↓e_tup, ↓e_lst, ↓e_b, ↓e_not, ↓e_and, ↓e_or, ↓e_andV, ↓e_orV, ↓e_notV, ↓e_if, ↓e_isi, ↓e_neg, ↓e_chain, ↓e_call, ↓e_callK, ↓e_jint, ↓e_dict0, ↓e_dict1, ↓e_listRng, ↓e_append, ↓e_cut, ↓e_cutO, ↓e_onone, ↓e_osome, ↓e_iseq, ↓e_ienum, ↓e_irng, ↓e_gname, ↓e_lnil, ↓e_lcons, ↓e_lc, ↓e_yes, ↓f_addI, ↓f_addS, ↓f_addT, ↓f_addL, ↓f_i2, ↓f_mulI, ↓f_mulT, ↓f_mulL, ↓f_eq, ↓f_ne, ↓f_is, ↓f_isnot, ↓f_in, ↓f_notin, ↓f_ixL, ↓f_ixT, ↓f_lenL, ↓f_lenT, ↓f_lenS, ↓f_abs, ↓f_intI, ↓f_intB, ↓f_tupL, ↓f_tupT, ↓f_lstL, ↓f_lstT, ↓f_repr, ↓f_cutL, ↓f_cutT, ↓firm_d, ↓firm_ob, ↓zip_l, ↓zip_t, ↓e_izip, ↓zip_cons, ↓zip_nil1, ↓zip_nil2, ↓f_sorted, ↓e_lcn, ↓e_lcc, ↓e_inn, ↓e_inc, ↓e_l2n, ↓e_l2c, ↓e_lc2, ↓e_rev, ↓e_pop, ↓e_popAt, ↓e_extend, ↓e_lc3, ↓e_gon, ↓e_goc, ↓e_dbMid, ↓e_dbIn, ↓f_neu, ↓dgTup_tup, ↓dgCons_cons, ↓dgNil_nil, ite_t, ite_f, itK_not, List.cons_append, List.nil_append, List.append_nil, List.replicate, List.flatten_cons, List.flatten_nil, List.append_eq, List.length_cons, List.length_nil, Nat.zero_add, Nat.reduceAdd, true_and, and_true, eqOk_str, eqOk_int, eqOk_bool, str_eqv, int_eqv, tup_nil_eqv, lst_nil_eqv, rep_flat, isK_int, isK_bool, isK_tuple, isK_str, kInt, kBool, kTuple, kStr, GB.isNon, Bool.not_true, Bool.not_false, Bool.or_false, Bool.or_true, Bool.false_or, Bool.true_or, reduceCtorEq, i_w12n hs, i_w12a hs]
    repeat (refine ⟨(show (_ : Prop) from by first | decide | omega | exact List.cons_ne_nil _ _ | (unfold CPow; decide) | (refine line_ge ?_; (try simp only [List.length_append, List.length_replicate, List.length_map, irow_len, Int.reduceToNat, List.length_cons, List.length_nil]); omega) | ((try simp only [List.length_append, List.length_replicate, List.length_map, irow_len, Int.reduceToNat, List.length_cons, List.length_nil]); omega)), ?_⟩)
    (revert q; cases (inL es (.write 1 2 "new")) <;> cases (inL es (.write 1 2 "again")) <;> (intro q; simp only [ite_t, ite_f, Bool.true_or, Bool.false_or, Bool.true_and, Bool.false_and, Bool.or_true, Bool.or_false, Bool.and_true, Bool.and_false, Bool.not_true, Bool.not_false] at q ⊢; first | exact q | (repeat (refine ⟨(show (_ : Prop) from by first | decide | decide +kernel), ?_⟩)); exact q))
  · simp only [↓at0, ↓set0, ↓at1, ↓set1, ↓at2, ↓set2, ↓at3, ↓set3, ↓at4, ↓set4, ↓at5, ↓set5, ↓at6, ↓set6, ↓at7, ↓set7, ↓at8, ↓set8, ↓at9, ↓set9, ↓at10, ↓set10, ↓at11, ↓set11, ↓at12, ↓set12, ↓at13, ↓set13, ↓at14, ↓set14, ↓at15, ↓set15, ↓fz_d, ↓fz_own, ↓fz_ob, ↓one_d, ↓int_d, ↓bool_d, ↓own_o, ↓ds_nil, ↓ds_cons, ↓seq_l, ↓seq_t, ↓ite_t, ↓ite_f, ↓e_next, ↓e_seq, ↓e_set, ↓e_drop, ↓e_ret, ↓e_ifs, ↓e_brk, ↓e_cnt, ↓e_fixs, ↓e_par, ↓e_par3, ↓e_asg, ↓e_for, ↓e_putAt, ↓e_jput, ↓e_var, ↓e_k, ↓e_fz, ↓e_op, ↓e_opL, ↓e_opR, ↓e_n, ↓e_n1, ↓e_nil, ↓e_cons, ↓e_tup, ↓e_lst, ↓e_b, ↓e_not, ↓e_and, ↓e_or, ↓e_andV, ↓e_orV, ↓e_notV, ↓e_if, ↓e_isi, ↓e_neg, ↓e_chain, ↓e_call, ↓e_callK, ↓e_jint, ↓e_dict0, ↓e_dict1, ↓e_listRng, ↓e_append, ↓e_cut, ↓e_cutO, ↓e_onone, ↓e_osome, ↓e_iseq, ↓e_ienum, ↓e_irng, ↓e_gname, ↓e_lnil, ↓e_lcons, ↓e_lc, ↓e_yes, ↓f_addI, ↓f_addS, ↓f_addT, ↓f_addL, ↓f_i2, ↓f_mulI, ↓f_mulT, ↓f_mulL, ↓f_eq, ↓f_ne, ↓f_is, ↓f_isnot, ↓f_in, ↓f_notin, ↓f_ixL, ↓f_ixT, ↓f_lenL, ↓f_lenT, ↓f_lenS, ↓f_abs, ↓f_intI, ↓f_intB, ↓f_tupL, ↓f_tupT, ↓f_lstL, ↓f_lstT, ↓f_repr, ↓f_cutL, ↓f_cutT, ↓firm_d, ↓firm_ob, ↓zip_l, ↓zip_t, ↓e_izip, ↓zip_cons, ↓zip_nil1, ↓zip_nil2, ↓f_sorted, ↓e_lcn, ↓e_lcc, ↓e_inn, ↓e_inc, ↓e_l2n, ↓e_l2c, ↓e_lc2, ↓e_rev, ↓e_pop, ↓e_popAt, ↓e_extend, ↓e_lc3, ↓e_gon, ↓e_goc, ↓e_dbMid, ↓e_dbIn, ↓f_neu, ↓dgTup_tup, ↓dgCons_cons, ↓dgNil_nil, ite_t, ite_f, itK_not, List.cons_append, List.nil_append, List.append_nil, List.replicate, List.flatten_cons, List.flatten_nil, List.append_eq, List.length_cons, List.length_nil, Nat.zero_add, Nat.reduceAdd, true_and, and_true, eqOk_str, eqOk_int, eqOk_bool, str_eqv, int_eqv, tup_nil_eqv, lst_nil_eqv, rep_flat, isK_int, isK_bool, isK_tuple, isK_str, kInt, kBool, kTuple, kStr, GB.isNon, Bool.not_true, Bool.not_false, Bool.or_false, Bool.or_true, Bool.false_or, Bool.true_or, reduceCtorEq, i_w02n hs, i_w02a hs, i_w01n hs, i_w01a hs]
    repeat (refine ⟨(show (_ : Prop) from by first | decide | omega | exact List.cons_ne_nil _ _ | (unfold CPow; decide) | (refine line_ge ?_; (try simp only [List.length_append, List.length_replicate, List.length_map, irow_len, Int.reduceToNat, List.length_cons, List.length_nil]); omega) | ((try simp only [List.length_append, List.length_replicate, List.length_map, irow_len, Int.reduceToNat, List.length_cons, List.length_nil]); omega)), ?_⟩)
    (revert q; cases (inL es (.write 0 2 "new")) <;> cases (inL es (.write 0 2 "again")) <;> cases (inL es (.write 0 1 "new")) <;> cases (inL es (.write 0 1 "again")) <;> (intro q; simp only [ite_t, ite_f, Bool.true_or, Bool.false_or, Bool.true_and, Bool.false_and, Bool.or_true, Bool.or_false, Bool.and_true, Bool.and_false, Bool.not_true, Bool.not_false] at q ⊢; first | exact q | (repeat (refine ⟨(show (_ : Prop) from by first | decide | decide +kernel), ?_⟩)); exact q))
  · simp only [↓at0, ↓set0, ↓at1, ↓set1, ↓at2, ↓set2, ↓at3, ↓set3, ↓at4, ↓set4, ↓at5, ↓set5, ↓at6, ↓set6, ↓at7, ↓set7, ↓at8, ↓set8, ↓at9, ↓set9, ↓at10, ↓set10, ↓at11, ↓set11, ↓at12, ↓set12, ↓at13, ↓set13, ↓at14, ↓set14, ↓at15, ↓set15, ↓fz_d, ↓fz_own, ↓fz_ob, ↓one_d, ↓int_d, ↓bool_d, ↓own_o, ↓ds_nil, ↓ds_cons, ↓seq_l, ↓seq_t, ↓ite_t, ↓ite_f, ↓e_next, ↓e_seq, ↓e_set, ↓e_drop, ↓e_ret, ↓e_ifs, ↓e_brk, ↓e_cnt, ↓e_fixs, ↓e_par, ↓e_par3, ↓e_asg, ↓e_for, ↓e_putAt, ↓e_jput, ↓e_var, ↓e_k, ↓e_fz, ↓e_op, ↓e_opL, ↓e_opR, ↓e_n, ↓e_n1, ↓e_nil, ↓e_cons, ↓e_tup, ↓e_lst, ↓e_b, ↓e_not, ↓e_and, ↓e_or, ↓e_andV, ↓e_orV, ↓e_notV, ↓e_if, ↓e_isi, ↓e_neg, ↓e_chain, ↓e_call, ↓e_callK, ↓e_jint, ↓e_dict0, ↓e_dict1, ↓e_listRng, ↓e_append, ↓e_cut, ↓e_cutO, ↓e_onone, ↓e_osome, ↓e_iseq, ↓e_ienum, ↓e_irng, ↓e_gname, ↓e_lnil, ↓e_lcons, ↓e_lc, ↓e_yes, ↓f_addI, ↓f_addS, ↓f_addT, ↓f_addL, ↓f_i2, ↓f_mulI, ↓f_mulT, ↓f_mulL, ↓f_eq, ↓f_ne, ↓f_is, ↓f_isnot, ↓f_in, ↓f_notin, ↓f_ixL, ↓f_ixT, ↓f_lenL, ↓f_lenT, ↓f_lenS, ↓f_abs, ↓f_intI, ↓f_intB, ↓f_tupL, ↓f_tupT, ↓f_lstL, ↓f_lstT, ↓f_repr, ↓f_cutL, ↓f_cutT, ↓firm_d, ↓firm_ob, ↓zip_l, ↓zip_t, ↓e_izip, ↓zip_cons, ↓zip_nil1, ↓zip_nil2, ↓f_sorted, ↓e_lcn, ↓e_lcc, ↓e_inn, ↓e_inc, ↓e_l2n, ↓e_l2c, ↓e_lc2, ↓e_rev, ↓e_pop, ↓e_popAt, ↓e_extend, ↓e_lc3, ↓e_gon, ↓e_goc, ↓e_dbMid, ↓e_dbIn, ↓f_neu, ↓dgTup_tup, ↓dgCons_cons, ↓dgNil_nil, ite_t, ite_f, itK_not, List.cons_append, List.nil_append, List.append_nil, List.replicate, List.flatten_cons, List.flatten_nil, List.append_eq, List.length_cons, List.length_nil, Nat.zero_add, Nat.reduceAdd, true_and, and_true, eqOk_str, eqOk_int, eqOk_bool, str_eqv, int_eqv, tup_nil_eqv, lst_nil_eqv, rep_flat, isK_int, isK_bool, isK_tuple, isK_str, kInt, kBool, kTuple, kStr, GB.isNon, Bool.not_true, Bool.not_false, Bool.or_false, Bool.or_true, Bool.false_or, Bool.true_or, reduceCtorEq, i_w12n hs, i_w12a hs, i_w11n hs, i_w11a hs]
    repeat (refine ⟨(show (_ : Prop) from by first | decide | omega | exact List.cons_ne_nil _ _ | (unfold CPow; decide) | (refine line_ge ?_; (try simp only [List.length_append, List.length_replicate, List.length_map, irow_len, Int.reduceToNat, List.length_cons, List.length_nil]); omega) | ((try simp only [List.length_append, List.length_replicate, List.length_map, irow_len, Int.reduceToNat, List.length_cons, List.length_nil]); omega)), ?_⟩)
    (revert q; cases (inL es (.write 1 2 "new")) <;> cases (inL es (.write 1 2 "again")) <;> cases (inL es (.write 1 1 "new")) <;> cases (inL es (.write 1 1 "again")) <;> (intro q; simp only [ite_t, ite_f, Bool.true_or, Bool.false_or, Bool.true_and, Bool.false_and, Bool.or_true, Bool.or_false, Bool.and_true, Bool.and_false, Bool.not_true, Bool.not_false] at q ⊢; first | exact q | (repeat (refine ⟨(show (_ : Prop) from by first | decide | decide +kernel), ?_⟩)); exact q))
theorem ma_l_paint : ∀ ss R, ss.length = 1 → F_l_paint ss R → rd_l_paint { nx := fun _ => R (.d .none), rt := R } (ss ++ List.replicate 0 .un) := by
  rintro _ R - ⟨rfl, q⟩
  unfold rd_l_paint
  simp only [↓at0, ↓set0, ↓at1, ↓set1, ↓at2, ↓set2, ↓at3, ↓set3, ↓at4, ↓set4, ↓at5, ↓set5, ↓at6, ↓set6, ↓at7, ↓set7, ↓at8, ↓set8, ↓at9, ↓set9, ↓at10, ↓set10, ↓at11, ↓set11, ↓at12, ↓set12, ↓at13, ↓set13, ↓at14, ↓set14, ↓at15, ↓set15, ↓fz_d, ↓fz_own, ↓fz_ob, ↓one_d, ↓int_d, ↓bool_d, ↓own_o, ↓ds_nil, ↓ds_cons, ↓seq_l, ↓seq_t, ↓ite_t, ↓ite_f, ↓e_next, ↓e_seq, ↓e_set, ↓e_drop, ↓e_ret, ↓e_ifs, ↓e_brk, ↓e_cnt, ↓e_fixs, ↓e_par, ↓e_par3, ↓e_asg, ↓e_for, ↓e_putAt, ↓e_jput, ↓e_var, ↓e_k, ↓e_fz, ↓e_op, ↓e_opL, ↓e_opR, ↓e_n, ↓e_n1, ↓e_nil, ↓e_cons, ↓e_tup, ↓e_lst, ↓e_b, ↓e_not, ↓e_and, ↓e_or, ↓e_andV, ↓e_orV, ↓e_notV, ↓e_if, ↓e_isi, ↓e_neg, ↓e_chain, ↓e_call, ↓e_callK, ↓e_jint, ↓e_dict0, ↓e_dict1, ↓e_listRng, ↓e_append, ↓e_cut, ↓e_cutO, ↓e_onone, ↓e_osome, ↓e_iseq, ↓e_ienum, ↓e_irng, ↓e_gname, ↓e_lnil, ↓e_lcons, ↓e_lc, ↓e_yes, ↓f_addI, ↓f_addS, ↓f_addT, ↓f_addL, ↓f_i2, ↓f_mulI, ↓f_mulT, ↓f_mulL, ↓f_eq, ↓f_ne, ↓f_is, ↓f_isnot, ↓f_in, ↓f_notin, ↓f_ixL, ↓f_ixT, ↓f_lenL, ↓f_lenT, ↓f_lenS, ↓f_abs, ↓f_intI, ↓f_intB, ↓f_tupL, ↓f_tupT, ↓f_lstL, ↓f_lstT, ↓f_repr, ↓f_cutL, ↓f_cutT, ↓firm_d, ↓firm_ob, ↓zip_l, ↓zip_t, ↓e_izip, ↓zip_cons, ↓zip_nil1, ↓zip_nil2, ↓f_sorted, ↓e_lcn, ↓e_lcc, ↓e_inn, ↓e_inc, ↓e_l2n, ↓e_l2c, ↓e_lc2, ↓e_rev, ↓e_pop, ↓e_popAt, ↓e_extend, ↓e_lc3, ↓e_gon, ↓e_goc, ↓e_dbMid, ↓e_dbIn, ↓f_neu, ↓dgTup_tup, ↓dgCons_cons, ↓dgNil_nil, ite_t, ite_f, itK_not, List.cons_append, List.nil_append, List.append_nil, List.replicate, List.flatten_cons, List.flatten_nil, List.append_eq, List.length_cons, List.length_nil, Nat.zero_add, Nat.reduceAdd, true_and, and_true, eqOk_str, eqOk_int, eqOk_bool, str_eqv, int_eqv, tup_nil_eqv, lst_nil_eqv, rep_flat, isK_int, isK_bool, isK_tuple, isK_str, kInt, kBool, kTuple, kStr, GB.isNon, Bool.not_true, Bool.not_false, Bool.or_false, Bool.or_true, Bool.false_or, Bool.true_or, reduceCtorEq, ↓s_pick]
  have ok : ∀ x ∈ [PyData.str (Str.ofString "black"), PyData.str (Str.ofString "black"), PyData.str (Str.ofString "grey")], ∃ a, x = .str a ∧ Pn a := fun x hx => by
    simp only [List.mem_cons, List.not_mem_nil, or_false] at hx
    rcases hx with rfl | rfl | rfl
    · exact ⟨_, rfl, .inl rfl⟩
    · exact ⟨_, rfl, .inl rfl⟩
    · exact ⟨_, rfl, .inr rfl⟩
  refine ⟨by decide, List.cons_ne_nil _ _, by decide, fun x hx => ⟨by decide, List.cons_ne_nil _ _, by decide, fun y hy => ⟨by decide, ?_⟩⟩⟩
  obtain ⟨a, rfl, ha⟩ := ok x hx
  obtain ⟨b, rfl, hb⟩ := ok y hy
  exact q a b ha hb
theorem ph_run {es : List En} (hs : SubE es) {c : Int} (hc : c = 0 ∨ c = 1) {s1 s2 s3 s4 s5 s6 : S} {n : Int} (hn : 1 ≤ n) {R : List PyData → Prop} {xs : List PyData} (hx : xs = if 1 < n then [.int 0, .int 1] else [.int 1])
    (hR : ∀ acc : List PyData, eqOk (.list acc) (.list []) = true → acc.isEmpty = oldH (inL es) c.toNat n → R acc) :
    dLcGo [7] (dgName 7) (dB (dOp fNotIn (dTup (dCons (dK (.str "write")) (dCons (dVar 7) (dCons (dK (.int c)) (dCons (dK (.str "old")) dNil))))) (dVar 0))) (dVar 7) [S.d (esD es), s1, s2, s3, s4, s5, s6, .un] R xs [] := by
  subst hx
  unfold oldH at hR
  rcases hc with rfl | rfl <;> by_cases h : 1 < n <;> simp only [h, if_true, if_false, Int.reduceToNat] at hR ⊢
  · have e : decide (n = 1) = false := by simp; omega
    rw [e] at hR
    simp only [↓at0, ↓set0, ↓at1, ↓set1, ↓at2, ↓set2, ↓at3, ↓set3, ↓at4, ↓set4, ↓at5, ↓set5, ↓at6, ↓set6, ↓at7, ↓set7, ↓at8, ↓set8, ↓at9, ↓set9, ↓at10, ↓set10, ↓at11, ↓set11, ↓at12, ↓set12, ↓at13, ↓set13, ↓at14, ↓set14, ↓at15, ↓set15, ↓fz_d, ↓fz_own, ↓fz_ob, ↓one_d, ↓int_d, ↓bool_d, ↓own_o, ↓ds_nil, ↓ds_cons, ↓seq_l, ↓seq_t, ↓ite_t, ↓ite_f, ↓e_next, ↓e_seq, ↓e_set, ↓e_drop, ↓e_ret, ↓e_ifs, ↓e_brk, ↓e_cnt, ↓e_fixs, ↓e_par, ↓e_par3, ↓e_asg, ↓e_for, ↓e_putAt, ↓e_jput, ↓e_var, ↓e_k, ↓e_fz, ↓e_op, ↓e_opL, ↓e_opR, ↓e_n, ↓e_n1, ↓e_nil, ↓e_cons, ↓e_tup, ↓e_lst, ↓e_b, ↓e_not, ↓e_and, ↓e_or, ↓e_andV, ↓e_orV, ↓e_notV, ↓e_if, ↓e_isi, ↓e_neg, ↓e_chain, ↓e_call, ↓e_callK, ↓e_jint, ↓e_dict0, ↓e_dict1, ↓e_listRng, ↓e_append, ↓e_cut, ↓e_cutO, ↓e_onone, ↓e_osome, ↓e_iseq, ↓e_ienum, ↓e_irng, ↓e_gname, ↓e_lnil, ↓e_lcons, ↓e_lc, ↓e_yes, ↓f_addI, ↓f_addS, ↓f_addT, ↓f_addL, ↓f_i2, ↓f_mulI, ↓f_mulT, ↓f_mulL, ↓f_eq, ↓f_ne, ↓f_is, ↓f_isnot, ↓f_in, ↓f_notin, ↓f_ixL, ↓f_ixT, ↓f_lenL, ↓f_lenT, ↓f_lenS, ↓f_abs, ↓f_intI, ↓f_intB, ↓f_tupL, ↓f_tupT, ↓f_lstL, ↓f_lstT, ↓f_repr, ↓f_cutL, ↓f_cutT, ↓firm_d, ↓firm_ob, ↓zip_l, ↓zip_t, ↓e_izip, ↓zip_cons, ↓zip_nil1, ↓zip_nil2, ↓f_sorted, ↓e_lcn, ↓e_lcc, ↓e_inn, ↓e_inc, ↓e_l2n, ↓e_l2c, ↓e_lc2, ↓e_rev, ↓e_pop, ↓e_popAt, ↓e_extend, ↓e_lc3, ↓e_gon, ↓e_goc, ↓e_dbMid, ↓e_dbIn, ↓f_neu, ↓dgTup_tup, ↓dgCons_cons, ↓dgNil_nil, ite_t, ite_f, itK_not, List.cons_append, List.nil_append, List.append_nil, List.replicate, List.flatten_cons, List.flatten_nil, List.append_eq, List.length_cons, List.length_nil, Nat.zero_add, Nat.reduceAdd, true_and, and_true, eqOk_str, eqOk_int, eqOk_bool, str_eqv, int_eqv, tup_nil_eqv, lst_nil_eqv, rep_flat, isK_int, isK_bool, isK_tuple, isK_str, kInt, kBool, kTuple, kStr, GB.isNon, Bool.not_true, Bool.not_false, Bool.or_false, Bool.or_true, Bool.false_or, Bool.true_or, reduceCtorEq, wipeD, List.set, i_w00o hs, i_w10o hs]
    repeat (refine ⟨(show (_ : Prop) from by first | decide | omega | exact List.cons_ne_nil _ _ | (unfold CPow; decide) | (refine line_ge ?_; (try simp only [List.length_append, List.length_replicate, List.length_map, irow_len, Int.reduceToNat, List.length_cons, List.length_nil]); omega) | ((try simp only [List.length_append, List.length_replicate, List.length_map, irow_len, Int.reduceToNat, List.length_cons, List.length_nil]); omega)), ?_⟩)
    revert hR
    cases inL es (.write 0 0 "old") <;> cases inL es (.write 1 0 "old") <;> intro hR <;> simp only [ite_t, ite_f, Bool.not_true, Bool.not_false] <;> (repeat (refine ⟨(show (_ : Prop) from by decide), ?_⟩)) <;> exact hR _ (by decide +kernel) rfl
  · have e : n = 1 := by omega
    subst e
    simp only [↓at0, ↓set0, ↓at1, ↓set1, ↓at2, ↓set2, ↓at3, ↓set3, ↓at4, ↓set4, ↓at5, ↓set5, ↓at6, ↓set6, ↓at7, ↓set7, ↓at8, ↓set8, ↓at9, ↓set9, ↓at10, ↓set10, ↓at11, ↓set11, ↓at12, ↓set12, ↓at13, ↓set13, ↓at14, ↓set14, ↓at15, ↓set15, ↓fz_d, ↓fz_own, ↓fz_ob, ↓one_d, ↓int_d, ↓bool_d, ↓own_o, ↓ds_nil, ↓ds_cons, ↓seq_l, ↓seq_t, ↓ite_t, ↓ite_f, ↓e_next, ↓e_seq, ↓e_set, ↓e_drop, ↓e_ret, ↓e_ifs, ↓e_brk, ↓e_cnt, ↓e_fixs, ↓e_par, ↓e_par3, ↓e_asg, ↓e_for, ↓e_putAt, ↓e_jput, ↓e_var, ↓e_k, ↓e_fz, ↓e_op, ↓e_opL, ↓e_opR, ↓e_n, ↓e_n1, ↓e_nil, ↓e_cons, ↓e_tup, ↓e_lst, ↓e_b, ↓e_not, ↓e_and, ↓e_or, ↓e_andV, ↓e_orV, ↓e_notV, ↓e_if, ↓e_isi, ↓e_neg, ↓e_chain, ↓e_call, ↓e_callK, ↓e_jint, ↓e_dict0, ↓e_dict1, ↓e_listRng, ↓e_append, ↓e_cut, ↓e_cutO, ↓e_onone, ↓e_osome, ↓e_iseq, ↓e_ienum, ↓e_irng, ↓e_gname, ↓e_lnil, ↓e_lcons, ↓e_lc, ↓e_yes, ↓f_addI, ↓f_addS, ↓f_addT, ↓f_addL, ↓f_i2, ↓f_mulI, ↓f_mulT, ↓f_mulL, ↓f_eq, ↓f_ne, ↓f_is, ↓f_isnot, ↓f_in, ↓f_notin, ↓f_ixL, ↓f_ixT, ↓f_lenL, ↓f_lenT, ↓f_lenS, ↓f_abs, ↓f_intI, ↓f_intB, ↓f_tupL, ↓f_tupT, ↓f_lstL, ↓f_lstT, ↓f_repr, ↓f_cutL, ↓f_cutT, ↓firm_d, ↓firm_ob, ↓zip_l, ↓zip_t, ↓e_izip, ↓zip_cons, ↓zip_nil1, ↓zip_nil2, ↓f_sorted, ↓e_lcn, ↓e_lcc, ↓e_inn, ↓e_inc, ↓e_l2n, ↓e_l2c, ↓e_lc2, ↓e_rev, ↓e_pop, ↓e_popAt, ↓e_extend, ↓e_lc3, ↓e_gon, ↓e_goc, ↓e_dbMid, ↓e_dbIn, ↓f_neu, ↓dgTup_tup, ↓dgCons_cons, ↓dgNil_nil, ite_t, ite_f, itK_not, List.cons_append, List.nil_append, List.append_nil, List.replicate, List.flatten_cons, List.flatten_nil, List.append_eq, List.length_cons, List.length_nil, Nat.zero_add, Nat.reduceAdd, true_and, and_true, eqOk_str, eqOk_int, eqOk_bool, str_eqv, int_eqv, tup_nil_eqv, lst_nil_eqv, rep_flat, isK_int, isK_bool, isK_tuple, isK_str, kInt, kBool, kTuple, kStr, GB.isNon, Bool.not_true, Bool.not_false, Bool.or_false, Bool.or_true, Bool.false_or, Bool.true_or, reduceCtorEq, wipeD, List.set, i_w00o hs, i_w10o hs]
    repeat (refine ⟨(show (_ : Prop) from by first | decide | omega | exact List.cons_ne_nil _ _ | (unfold CPow; decide) | (refine line_ge ?_; (try simp only [List.length_append, List.length_replicate, List.length_map, irow_len, Int.reduceToNat, List.length_cons, List.length_nil]); omega) | ((try simp only [List.length_append, List.length_replicate, List.length_map, irow_len, Int.reduceToNat, List.length_cons, List.length_nil]); omega)), ?_⟩)
    revert hR
    cases inL es (.write 1 0 "old") <;> intro hR <;> simp only [ite_t, ite_f, Bool.not_true, Bool.not_false] <;> exact hR _ (by decide +kernel) rfl
  · have e : decide (n = 1) = false := by simp; omega
    rw [e] at hR
    simp only [↓at0, ↓set0, ↓at1, ↓set1, ↓at2, ↓set2, ↓at3, ↓set3, ↓at4, ↓set4, ↓at5, ↓set5, ↓at6, ↓set6, ↓at7, ↓set7, ↓at8, ↓set8, ↓at9, ↓set9, ↓at10, ↓set10, ↓at11, ↓set11, ↓at12, ↓set12, ↓at13, ↓set13, ↓at14, ↓set14, ↓at15, ↓set15, ↓fz_d, ↓fz_own, ↓fz_ob, ↓one_d, ↓int_d, ↓bool_d, ↓own_o, ↓ds_nil, ↓ds_cons, ↓seq_l, ↓seq_t, ↓ite_t, ↓ite_f, ↓e_next, ↓e_seq, ↓e_set, ↓e_drop, ↓e_ret, ↓e_ifs, ↓e_brk, ↓e_cnt, ↓e_fixs, ↓e_par, ↓e_par3, ↓e_asg, ↓e_for, ↓e_putAt, ↓e_jput, ↓e_var, ↓e_k, ↓e_fz, ↓e_op, ↓e_opL, ↓e_opR, ↓e_n, ↓e_n1, ↓e_nil, ↓e_cons, ↓e_tup, ↓e_lst, ↓e_b, ↓e_not, ↓e_and, ↓e_or, ↓e_andV, ↓e_orV, ↓e_notV, ↓e_if, ↓e_isi, ↓e_neg, ↓e_chain, ↓e_call, ↓e_callK, ↓e_jint, ↓e_dict0, ↓e_dict1, ↓e_listRng, ↓e_append, ↓e_cut, ↓e_cutO, ↓e_onone, ↓e_osome, ↓e_iseq, ↓e_ienum, ↓e_irng, ↓e_gname, ↓e_lnil, ↓e_lcons, ↓e_lc, ↓e_yes, ↓f_addI, ↓f_addS, ↓f_addT, ↓f_addL, ↓f_i2, ↓f_mulI, ↓f_mulT, ↓f_mulL, ↓f_eq, ↓f_ne, ↓f_is, ↓f_isnot, ↓f_in, ↓f_notin, ↓f_ixL, ↓f_ixT, ↓f_lenL, ↓f_lenT, ↓f_lenS, ↓f_abs, ↓f_intI, ↓f_intB, ↓f_tupL, ↓f_tupT, ↓f_lstL, ↓f_lstT, ↓f_repr, ↓f_cutL, ↓f_cutT, ↓firm_d, ↓firm_ob, ↓zip_l, ↓zip_t, ↓e_izip, ↓zip_cons, ↓zip_nil1, ↓zip_nil2, ↓f_sorted, ↓e_lcn, ↓e_lcc, ↓e_inn, ↓e_inc, ↓e_l2n, ↓e_l2c, ↓e_lc2, ↓e_rev, ↓e_pop, ↓e_popAt, ↓e_extend, ↓e_lc3, ↓e_gon, ↓e_goc, ↓e_dbMid, ↓e_dbIn, ↓f_neu, ↓dgTup_tup, ↓dgCons_cons, ↓dgNil_nil, ite_t, ite_f, itK_not, List.cons_append, List.nil_append, List.append_nil, List.replicate, List.flatten_cons, List.flatten_nil, List.append_eq, List.length_cons, List.length_nil, Nat.zero_add, Nat.reduceAdd, true_and, and_true, eqOk_str, eqOk_int, eqOk_bool, str_eqv, int_eqv, tup_nil_eqv, lst_nil_eqv, rep_flat, isK_int, isK_bool, isK_tuple, isK_str, kInt, kBool, kTuple, kStr, GB.isNon, Bool.not_true, Bool.not_false, Bool.or_false, Bool.or_true, Bool.false_or, Bool.true_or, reduceCtorEq, wipeD, List.set, i_w01o hs, i_w11o hs]
    repeat (refine ⟨(show (_ : Prop) from by first | decide | omega | exact List.cons_ne_nil _ _ | (unfold CPow; decide) | (refine line_ge ?_; (try simp only [List.length_append, List.length_replicate, List.length_map, irow_len, Int.reduceToNat, List.length_cons, List.length_nil]); omega) | ((try simp only [List.length_append, List.length_replicate, List.length_map, irow_len, Int.reduceToNat, List.length_cons, List.length_nil]); omega)), ?_⟩)
    revert hR
    cases inL es (.write 0 1 "old") <;> cases inL es (.write 1 1 "old") <;> intro hR <;> simp only [ite_t, ite_f, Bool.not_true, Bool.not_false] <;> (repeat (refine ⟨(show (_ : Prop) from by decide), ?_⟩)) <;> exact hR _ (by decide +kernel) rfl
  · have e : n = 1 := by omega
    subst e
    simp only [↓at0, ↓set0, ↓at1, ↓set1, ↓at2, ↓set2, ↓at3, ↓set3, ↓at4, ↓set4, ↓at5, ↓set5, ↓at6, ↓set6, ↓at7, ↓set7, ↓at8, ↓set8, ↓at9, ↓set9, ↓at10, ↓set10, ↓at11, ↓set11, ↓at12, ↓set12, ↓at13, ↓set13, ↓at14, ↓set14, ↓at15, ↓set15, ↓fz_d, ↓fz_own, ↓fz_ob, ↓one_d, ↓int_d, ↓bool_d, ↓own_o, ↓ds_nil, ↓ds_cons, ↓seq_l, ↓seq_t, ↓ite_t, ↓ite_f, ↓e_next, ↓e_seq, ↓e_set, ↓e_drop, ↓e_ret, ↓e_ifs, ↓e_brk, ↓e_cnt, ↓e_fixs, ↓e_par, ↓e_par3, ↓e_asg, ↓e_for, ↓e_putAt, ↓e_jput, ↓e_var, ↓e_k, ↓e_fz, ↓e_op, ↓e_opL, ↓e_opR, ↓e_n, ↓e_n1, ↓e_nil, ↓e_cons, ↓e_tup, ↓e_lst, ↓e_b, ↓e_not, ↓e_and, ↓e_or, ↓e_andV, ↓e_orV, ↓e_notV, ↓e_if, ↓e_isi, ↓e_neg, ↓e_chain, ↓e_call, ↓e_callK, ↓e_jint, ↓e_dict0, ↓e_dict1, ↓e_listRng, ↓e_append, ↓e_cut, ↓e_cutO, ↓e_onone, ↓e_osome, ↓e_iseq, ↓e_ienum, ↓e_irng, ↓e_gname, ↓e_lnil, ↓e_lcons, ↓e_lc, ↓e_yes, ↓f_addI, ↓f_addS, ↓f_addT, ↓f_addL, ↓f_i2, ↓f_mulI, ↓f_mulT, ↓f_mulL, ↓f_eq, ↓f_ne, ↓f_is, ↓f_isnot, ↓f_in, ↓f_notin, ↓f_ixL, ↓f_ixT, ↓f_lenL, ↓f_lenT, ↓f_lenS, ↓f_abs, ↓f_intI, ↓f_intB, ↓f_tupL, ↓f_tupT, ↓f_lstL, ↓f_lstT, ↓f_repr, ↓f_cutL, ↓f_cutT, ↓firm_d, ↓firm_ob, ↓zip_l, ↓zip_t, ↓e_izip, ↓zip_cons, ↓zip_nil1, ↓zip_nil2, ↓f_sorted, ↓e_lcn, ↓e_lcc, ↓e_inn, ↓e_inc, ↓e_l2n, ↓e_l2c, ↓e_lc2, ↓e_rev, ↓e_pop, ↓e_popAt, ↓e_extend, ↓e_lc3, ↓e_gon, ↓e_goc, ↓e_dbMid, ↓e_dbIn, ↓f_neu, ↓dgTup_tup, ↓dgCons_cons, ↓dgNil_nil, ite_t, ite_f, itK_not, List.cons_append, List.nil_append, List.append_nil, List.replicate, List.flatten_cons, List.flatten_nil, List.append_eq, List.length_cons, List.length_nil, Nat.zero_add, Nat.reduceAdd, true_and, and_true, eqOk_str, eqOk_int, eqOk_bool, str_eqv, int_eqv, tup_nil_eqv, lst_nil_eqv, rep_flat, isK_int, isK_bool, isK_tuple, isK_str, kInt, kBool, kTuple, kStr, GB.isNon, Bool.not_true, Bool.not_false, Bool.or_false, Bool.or_true, Bool.false_or, Bool.true_or, reduceCtorEq, wipeD, List.set, i_w01o hs, i_w11o hs]
    repeat (refine ⟨(show (_ : Prop) from by first | decide | omega | exact List.cons_ne_nil _ _ | (unfold CPow; decide) | (refine line_ge ?_; (try simp only [List.length_append, List.length_replicate, List.length_map, irow_len, Int.reduceToNat, List.length_cons, List.length_nil]); omega) | ((try simp only [List.length_append, List.length_replicate, List.length_map, irow_len, Int.reduceToNat, List.length_cons, List.length_nil]); omega)), ?_⟩)
    revert hR
    cases inL es (.write 1 1 "old") <;> intro hR <;> simp only [ite_t, ite_f, Bool.not_true, Bool.not_false] <;> exact hR _ (by decide +kernel) rfl
def tl_ways : TSd := dSeq (dSet 6 (dOp fEq (dFz (dLc (dISeq (dVar 3)) [7] (dgName 7) (dB (dOp fNotIn (dTup (dCons (dK (.str "write")) (dCons (dVar 7) (dCons (dK (.int 1)) (dCons (dK (.str "old")) dNil))))) (dVar 0))) (dVar 7))) (dFz (dLst dNil)))) (dSeq (dIfS (dAnd (dB (dVar 5)) (dAnd (dB (dVar 6)) (dB (dOp fIn (dTup (dCons (dK (.str "read")) (dCons (dK (.int 1)) (dCons (dK (.int 0)) dNil)))) (dVar 0))))) (dDrop (dAppend 4 (dK (.str "child")))) dNext) (dSeq (dIfS (dAnd (dB (dOp fIn (dTup (dCons (dK (.str "last")) dNil)) (dVar 0))) (dB (dCall F_l_inserts 3 (dCons (dVar 0) (dCons (dK (.int 1)) (dCons (dVar 1) dNil)))))) (dDrop (dAppend 4 (dK (.str "last")))) dNext) (dSeq (dIfS (dAnd (dB (dVar 5)) (dAnd (dB (dVar 6)) (dB (dOp fEq (dFz (dLc (dISeq (dVar 3)) [7] (dgName 7) (dB (dOp fNotIn (dTup (dCons (dK (.str "write")) (dCons (dVar 7) (dCons (dK (.int 0)) (dCons (dK (.str "old")) dNil))))) (dVar 0))) (dVar 7))) (dFz (dLst dNil)))))) (dDrop (dAppend 4 (dK (.str "old")))) dNext) (dSeq (dIfS (dAnd (dB (dVar 5)) (dB (dOp fIn (dTup (dCons (dK (.str "read")) (dCons (dK (.int 1)) (dCons (dK (.int 1)) dNil)))) (dVar 0)))) (dDrop (dAppend 4 (dK (.str "read")))) dNext) (dRet (dN1 fTuple 4))))))
theorem ma_l_ways : ∀ ss R, ss.length = 3 → F_l_ways ss R → rd_l_ways { nx := fun _ => R (.d .none), rt := R } (ss ++ List.replicate 5 .un) := by
  rintro _ R - ⟨es, pc, n, rfl, hs, hn, q⟩
  have main : closedH (inL es) pc n = true → ∀ xs, (xs = if 1 < n then [PyData.int 0, PyData.int 1] else [PyData.int 1]) → tl_ways { nx := fun _ => R (.d .none), rt := R } [S.d (esD es), S.d (.bool pc), S.d (.int n), S.d (.tuple xs), S.own [], S.d (.bool (inL es (.make 1))), .un, .un] := by
    intro hc xs hx
    have hl : xs.length ≤ sizeLine := by rw [hx]; split <;> decide
    unfold waysH strsD at q
    rw [if_pos hc] at q
    unfold tl_ways
    simp only [↓at0, ↓set0, ↓at1, ↓set1, ↓at2, ↓set2, ↓at3, ↓set3, ↓at4, ↓set4, ↓at5, ↓set5, ↓at6, ↓set6, ↓at7, ↓set7, ↓at8, ↓set8, ↓at9, ↓set9, ↓at10, ↓set10, ↓at11, ↓set11, ↓at12, ↓set12, ↓at13, ↓set13, ↓at14, ↓set14, ↓at15, ↓set15, ↓fz_d, ↓fz_own, ↓fz_ob, ↓one_d, ↓int_d, ↓bool_d, ↓own_o, ↓ds_nil, ↓ds_cons, ↓seq_l, ↓seq_t, ↓ite_t, ↓ite_f, ↓e_next, ↓e_seq, ↓e_set, ↓e_drop, ↓e_ret, ↓e_ifs, ↓e_brk, ↓e_cnt, ↓e_fixs, ↓e_par, ↓e_par3, ↓e_asg, ↓e_for, ↓e_putAt, ↓e_jput, ↓e_var, ↓e_k, ↓e_fz, ↓e_op, ↓e_opL, ↓e_opR, ↓e_n, ↓e_n1, ↓e_nil, ↓e_cons, ↓e_tup, ↓e_lst, ↓e_b, ↓e_not, ↓e_and, ↓e_or, ↓e_andV, ↓e_orV, ↓e_notV, ↓e_if, ↓e_isi, ↓e_neg, ↓e_chain, ↓e_call, ↓e_callK, ↓e_jint, ↓e_dict0, ↓e_dict1, ↓e_listRng, ↓e_append, ↓e_cut, ↓e_cutO, ↓e_onone, ↓e_osome, ↓e_iseq, ↓e_ienum, ↓e_irng, ↓e_gname, ↓e_lnil, ↓e_lcons, ↓e_lc, ↓e_yes, ↓f_addI, ↓f_addS, ↓f_addT, ↓f_addL, ↓f_i2, ↓f_mulI, ↓f_mulT, ↓f_mulL, ↓f_eq, ↓f_ne, ↓f_is, ↓f_isnot, ↓f_in, ↓f_notin, ↓f_ixL, ↓f_ixT, ↓f_lenL, ↓f_lenT, ↓f_lenS, ↓f_abs, ↓f_intI, ↓f_intB, ↓f_tupL, ↓f_tupT, ↓f_lstL, ↓f_lstT, ↓f_repr, ↓f_cutL, ↓f_cutT, ↓firm_d, ↓firm_ob, ↓zip_l, ↓zip_t, ↓e_izip, ↓zip_cons, ↓zip_nil1, ↓zip_nil2, ↓f_sorted, ↓e_inn, ↓e_inc, ↓e_l2n, ↓e_l2c, ↓e_lc2, ↓e_rev, ↓e_pop, ↓e_popAt, ↓e_extend, ↓e_lc3, ↓e_gon, ↓e_goc, ↓e_dbMid, ↓e_dbIn, ↓f_neu, ↓dgTup_tup, ↓dgCons_cons, ↓dgNil_nil, ite_t, ite_f, itK_not, List.cons_append, List.nil_append, List.append_nil, List.replicate, List.flatten_cons, List.flatten_nil, List.append_eq, List.length_cons, List.length_nil, Nat.zero_add, Nat.reduceAdd, true_and, and_true, eqOk_str, eqOk_int, eqOk_bool, str_eqv, int_eqv, tup_nil_eqv, lst_nil_eqv, rep_flat, isK_int, isK_bool, isK_tuple, isK_str, kInt, kBool, kTuple, kStr, GB.isNon, Bool.not_true, Bool.not_false, Bool.or_false, Bool.or_true, Bool.false_or, Bool.true_or, reduceCtorEq, ↓s_lins hs, Int.reduceToNat, i_r10 hs, i_r11 hs, i_l hs, wipeD, List.set]
    refine ⟨hl, ph_run hs (.inr rfl) hn hx fun acc o1 e1 => ?_⟩
    refine ⟨by decide, o1, ?_⟩
    rw [e1]
    have z1 : ((0 : Int) ≤ 1 ∧ (1 : Int) < 2) = True := by decide
    simp only [z1, true_and, Int.reduceToNat]
    clear e1 o1 acc
    revert q
    cases inL es (.make 1) <;> cases oldH (inL es) 1 n <;> cases inL es (.read 1 0) <;> cases inL es .last <;> cases insH (inL es) 1 pc <;> cases inL es (.read 1 1) <;> (intro q; simp only [ite_t, ite_f, opt, Bool.true_or, Bool.false_or, Bool.true_and, Bool.false_and, Bool.or_true, Bool.or_false, Bool.and_true, Bool.and_false, Bool.not_true, Bool.not_false, if_true, if_false, List.nil_append, List.append_nil, List.cons_append, List.map_cons, List.map_nil, Bool.false_eq_true, ↓reduceIte] at q ⊢; (repeat (refine ⟨(show (_ : Prop) from by decide), ?_⟩)); first | exact q | (refine ⟨hl, ph_run hs (.inl rfl) hn hx fun acc o2 e2 => ?_⟩; refine ⟨(show (_ : Prop) from by decide), o2, ?_⟩; rw [e2]; simp only [Int.reduceToNat]; revert q; cases oldH (inL es) 0 n <;> (intro q; simp only [ite_t, ite_f, opt, Bool.true_or, Bool.false_or, Bool.true_and, Bool.false_and, Bool.or_true, Bool.or_false, Bool.and_true, Bool.and_false, Bool.not_true, Bool.not_false, if_true, if_false, List.nil_append, List.append_nil, List.cons_append, List.map_cons, List.map_nil, Bool.false_eq_true, ↓reduceIte] at q ⊢; (repeat (refine ⟨(show (_ : Prop) from by decide), ?_⟩)); exact q)))
  show (dSeq (dIfS (dAnd (dNot (dB (dCall F_l_inserts 3 (dCons (dVar 0) (dCons (dK (.int 0)) (dCons (dVar 1) dNil)))))) (dOr (dB (dOp fGt (dVar 2) (dK (.int 1)))) (dB (dCall F_l_is_early 1 (dCons (dVar 0) dNil))))) (dRet (dTup dNil)) dNext) (dSeq (dPar3 3 4 5 (dIf (dB (dOp fGt (dVar 2) (dK (.int 1)))) (dTup (dCons (dK (.int 0)) (dCons (dK (.int 1)) dNil))) (dTup (dCons (dK (.int 1)) dNil))) (dLst dNil) (dOp fIn (dTup (dCons (dK (.str "make")) (dCons (dK (.int 1)) dNil))) (dVar 0))) tl_ways)) { nx := fun _ => R (.d .none), rt := R } _
  simp only [↓at0, ↓set0, ↓at1, ↓set1, ↓at2, ↓set2, ↓at3, ↓set3, ↓at4, ↓set4, ↓at5, ↓set5, ↓at6, ↓set6, ↓at7, ↓set7, ↓at8, ↓set8, ↓at9, ↓set9, ↓at10, ↓set10, ↓at11, ↓set11, ↓at12, ↓set12, ↓at13, ↓set13, ↓at14, ↓set14, ↓at15, ↓set15, ↓fz_d, ↓fz_own, ↓fz_ob, ↓one_d, ↓int_d, ↓bool_d, ↓own_o, ↓ds_nil, ↓ds_cons, ↓seq_l, ↓seq_t, ↓ite_t, ↓ite_f, ↓e_next, ↓e_seq, ↓e_set, ↓e_drop, ↓e_ret, ↓e_ifs, ↓e_brk, ↓e_cnt, ↓e_fixs, ↓e_par, ↓e_par3, ↓e_asg, ↓e_for, ↓e_putAt, ↓e_jput, ↓e_var, ↓e_k, ↓e_fz, ↓e_op, ↓e_opL, ↓e_opR, ↓e_n, ↓e_n1, ↓e_nil, ↓e_cons, ↓e_tup, ↓e_lst, ↓e_b, ↓e_not, ↓e_and, ↓e_or, ↓e_andV, ↓e_orV, ↓e_notV, ↓e_if, ↓e_isi, ↓e_neg, ↓e_chain, ↓e_call, ↓e_callK, ↓e_jint, ↓e_dict0, ↓e_dict1, ↓e_listRng, ↓e_append, ↓e_cut, ↓e_cutO, ↓e_onone, ↓e_osome, ↓e_iseq, ↓e_ienum, ↓e_irng, ↓e_gname, ↓e_lnil, ↓e_lcons, ↓e_lc, ↓e_yes, ↓f_addI, ↓f_addS, ↓f_addT, ↓f_addL, ↓f_i2, ↓f_mulI, ↓f_mulT, ↓f_mulL, ↓f_eq, ↓f_ne, ↓f_is, ↓f_isnot, ↓f_in, ↓f_notin, ↓f_ixL, ↓f_ixT, ↓f_lenL, ↓f_lenT, ↓f_lenS, ↓f_abs, ↓f_intI, ↓f_intB, ↓f_tupL, ↓f_tupT, ↓f_lstL, ↓f_lstT, ↓f_repr, ↓f_cutL, ↓f_cutT, ↓firm_d, ↓firm_ob, ↓zip_l, ↓zip_t, ↓e_izip, ↓zip_cons, ↓zip_nil1, ↓zip_nil2, ↓f_sorted, ↓e_inn, ↓e_inc, ↓e_l2n, ↓e_l2c, ↓e_lc2, ↓e_rev, ↓e_pop, ↓e_popAt, ↓e_extend, ↓e_lc3, ↓e_gon, ↓e_goc, ↓e_dbMid, ↓e_dbIn, ↓f_neu, ↓dgTup_tup, ↓dgCons_cons, ↓dgNil_nil, ite_t, ite_f, itK_not, List.cons_append, List.nil_append, List.append_nil, List.replicate, List.flatten_cons, List.flatten_nil, List.append_eq, List.length_cons, List.length_nil, Nat.zero_add, Nat.reduceAdd, true_and, and_true, eqOk_str, eqOk_int, eqOk_bool, str_eqv, int_eqv, tup_nil_eqv, lst_nil_eqv, rep_flat, isK_int, isK_bool, isK_tuple, isK_str, kInt, kBool, kTuple, kStr, GB.isNon, Bool.not_true, Bool.not_false, Bool.or_false, Bool.or_true, Bool.false_or, Bool.true_or, reduceCtorEq, ↓s_lins hs, ↓s_learly hs, Int.reduceToNat, i_m1 hs]
  have nil : closedH (inL es) pc n = false → R (.d (.tuple [])) := fun h => by
    unfold waysH strsD at q
    rw [h, if_neg (by decide)] at q; exact q
  have go : ∀ {z1 z2 z3 : Prop}, z1 → z2 → z3 → closedH (inL es) pc n = true → iteK (decide (1 < n)) (2 ≤ sizeLine ∧ z1 ∧ z2 ∧ tl_ways { nx := fun _ => R (.d .none), rt := R } [S.d (esD es), S.d (.bool pc), S.d (.int n), S.d (.tuple [.int 0, .int 1]), S.own [], S.d (.bool (inL es (.make 1))), .un, .un]) (1 ≤ sizeLine ∧ z1 ∧ z2 ∧ tl_ways { nx := fun _ => R (.d .none), rt := R } [S.d (esD es), S.d (.bool pc), S.d (.int n), S.d (.tuple [.int 1]), S.own [], S.d (.bool (inL es (.make 1))), .un, .un]) := fun {z1 z2 z3} a1 a2 _ hc =>
    iteB (fun h => ⟨by decide, a1, a2, main hc _ (by rw [if_pos (of_decide_eq_true h)])⟩) fun h => ⟨by decide, a1, a2, main hc _ (by rw [if_neg (of_decide_eq_false h)])⟩
  refine ⟨by decide, iteB (fun h0 => go (z3 := True) (by decide) (by decide) trivial (by unfold closedH; rw [h0, Bool.true_or])) fun h0 => iteB (fun h1 => ⟨by decide, nil ?_⟩) fun h1 => iteB (fun h2 => ⟨by decide, nil ?_⟩) fun h2 => go (z3 := True) (by decide) (by decide) trivial ?_⟩
  · have e : decide (n = 1) = false := by have := of_decide_eq_true h1; simp; omega
    unfold closedH; rw [h0, e]; rfl
  · unfold closedH; rw [h0, h2]; simp
  · have e : decide (n = 1) = true := by have := of_decide_eq_false h1; simp; omega
    unfold closedH; rw [h0, h2, e]; rfl
end GK

set_option maxRecDepth 20000
namespace GK
open PySem PySem.Spec PyProof.Rows L2 GB
theorem lits : ((0 : Int) ≤ 0 ∧ (0 : Int) < 2) ∧ ((0 : Int) ≤ 1 ∧ (1 : Int) < 2) := by decide
theorem z02 : ((0 : Int) ≤ 0 ∧ (0 : Int) < 2) = True := by decide
theorem z12 : ((0 : Int) ≤ 1 ∧ (1 : Int) < 2) = True := by decide
theorem z03 : ((0 : Int) ≤ 0 ∧ (0 : Int) < 3) = True := by decide
theorem z13 : ((0 : Int) ≤ 1 ∧ (1 : Int) < 3) = True := by decide
theorem z23 : ((0 : Int) ≤ 2 ∧ (2 : Int) < 3) = True := by decide
theorem ma_l_book : ∀ ss R, ss.length = 3 → F_l_book ss R → rd_l_book { nx := fun _ => R (.d .none), rt := R } (ss ++ List.replicate 5 .un) := by
  rintro _ R - ⟨es, a, b, p, rfl, hs, q⟩
  unfold rd_l_book
  simp only [↓at0, ↓set0, ↓at1, ↓set1, ↓at2, ↓set2, ↓at3, ↓set3, ↓at4, ↓set4, ↓at5, ↓set5, ↓at6, ↓set6, ↓at7, ↓set7, ↓at8, ↓set8, ↓at9, ↓set9, ↓at10, ↓set10, ↓at11, ↓set11, ↓at12, ↓set12, ↓at13, ↓set13, ↓at14, ↓set14, ↓at15, ↓set15, ↓fz_d, ↓fz_own, ↓fz_ob, ↓one_d, ↓int_d, ↓bool_d, ↓own_o, ↓ds_nil, ↓ds_cons, ↓seq_l, ↓seq_t, ↓ite_t, ↓ite_f, ↓e_next, ↓e_seq, ↓e_set, ↓e_drop, ↓e_ret, ↓e_ifs, ↓e_brk, ↓e_cnt, ↓e_fixs, ↓e_par, ↓e_par3, ↓e_asg, ↓e_for, ↓e_putAt, ↓e_jput, ↓e_var, ↓e_k, ↓e_fz, ↓e_op, ↓e_opL, ↓e_opR, ↓e_n, ↓e_n1, ↓e_nil, ↓e_cons, ↓e_tup, ↓e_lst, ↓e_b, ↓e_not, ↓e_and, ↓e_or, ↓e_andV, ↓e_orV, ↓e_notV, ↓e_if, ↓e_isi, ↓e_neg, ↓e_chain, ↓e_call, ↓e_callK, ↓e_jint, ↓e_dict0, ↓e_dict1, ↓e_listRng, ↓e_append, ↓e_cut, ↓e_cutO, ↓e_onone, ↓e_osome, ↓e_iseq, ↓e_ienum, ↓e_irng, ↓e_gname, ↓e_lnil, ↓e_lcons, ↓e_lc, ↓e_yes, ↓f_addI, ↓f_addS, ↓f_addT, ↓f_addL, ↓f_i2, ↓f_mulI, ↓f_mulT, ↓f_mulL, ↓f_eq, ↓f_ne, ↓f_is, ↓f_isnot, ↓f_in, ↓f_notin, ↓f_ixL, ↓f_ixT, ↓f_lenL, ↓f_lenT, ↓f_lenS, ↓f_abs, ↓f_intI, ↓f_intB, ↓f_tupL, ↓f_tupT, ↓f_lstL, ↓f_lstT, ↓f_repr, ↓f_cutL, ↓f_cutT, ↓firm_d, ↓firm_ob, ↓zip_l, ↓zip_t, ↓e_izip, ↓zip_cons, ↓zip_nil1, ↓zip_nil2, ↓f_sorted, ↓e_lcn, ↓e_lcc, ↓e_inn, ↓e_inc, ↓e_l2n, ↓e_l2c, ↓e_lc2, ↓e_rev, ↓e_pop, ↓e_popAt, ↓e_extend, ↓e_lc3, ↓e_gon, ↓e_goc, ↓e_dbMid, ↓e_dbIn, ↓f_neu, ↓dgTup_tup, ↓dgCons_cons, ↓dgNil_nil, ite_t, ite_f, itK_not, List.cons_append, List.nil_append, List.append_nil, List.replicate, List.flatten_cons, List.flatten_nil, List.append_eq, List.length_cons, List.length_nil, Nat.zero_add, Nat.reduceAdd, true_and, and_true, eqOk_str, eqOk_int, eqOk_bool, str_eqv, int_eqv, tup_nil_eqv, lst_nil_eqv, rep_flat, isK_int, isK_bool, isK_tuple, isK_str, kInt, kBool, kTuple, kStr, GB.isNon, Bool.not_true, Bool.not_false, Bool.or_false, Bool.or_true, Bool.false_or, Bool.true_or, reduceCtorEq, wipeD, List.set, ↓irow2, ↓irow3, ↓s_guard hs, i_m0 hs, i_m1 hs, i_r00 hs, i_r01 hs, i_r02 hs, i_r10 hs, i_r11 hs, i_r12 hs, i_l hs, z02, z12, z03, z13, z23, Int.reduceToNat, ↓ix0, ↓ix1]
  repeat (refine ⟨(show (_ : Prop) from by first | decide | omega | exact List.cons_ne_nil _ _ | (unfold CPow; decide) | (refine line_ge ?_; (try simp only [List.length_append, List.length_replicate, List.length_map, irow_len, Int.reduceToNat, List.length_cons, List.length_nil]); omega) | ((try simp only [List.length_append, List.length_replicate, List.length_map, irow_len, Int.reduceToNat, List.length_cons, List.length_nil]); omega)), ?_⟩)
  simp only [bk, Bo.d] at q
  revert q
  cases inL es (.make 0) <;> cases inL es (.make 1) <;> (intro q; simp only [ite_t, ite_f, Bool.false_eq_true, if_true, if_false, ↓reduceIte, Nat.one_ne_zero] at q ⊢; repeat (refine ⟨(show (_ : Prop) from by decide), ?_⟩)) <;> exact q
theorem ew_cc : (PyData.str (Str.ofString "child")).eqv (PyData.str (Str.ofString "child")) = true := by decide +kernel
theorem ew_cl : (PyData.str (Str.ofString "child")).eqv (PyData.str (Str.ofString "last")) = false := by decide +kernel
theorem ew_co : (PyData.str (Str.ofString "child")).eqv (PyData.str (Str.ofString "old")) = false := by decide +kernel
theorem ew_cr : (PyData.str (Str.ofString "child")).eqv (PyData.str (Str.ofString "read")) = false := by decide +kernel
theorem ew_lc : (PyData.str (Str.ofString "last")).eqv (PyData.str (Str.ofString "child")) = false := by decide +kernel
theorem ew_ll : (PyData.str (Str.ofString "last")).eqv (PyData.str (Str.ofString "last")) = true := by decide +kernel
theorem ew_lo : (PyData.str (Str.ofString "last")).eqv (PyData.str (Str.ofString "old")) = false := by decide +kernel
theorem ew_lr : (PyData.str (Str.ofString "last")).eqv (PyData.str (Str.ofString "read")) = false := by decide +kernel
theorem ew_oc : (PyData.str (Str.ofString "old")).eqv (PyData.str (Str.ofString "child")) = false := by decide +kernel
theorem ew_ol : (PyData.str (Str.ofString "old")).eqv (PyData.str (Str.ofString "last")) = false := by decide +kernel
theorem ew_oo : (PyData.str (Str.ofString "old")).eqv (PyData.str (Str.ofString "old")) = true := by decide +kernel
theorem ew_or : (PyData.str (Str.ofString "old")).eqv (PyData.str (Str.ofString "read")) = false := by decide +kernel
theorem ew_rc : (PyData.str (Str.ofString "read")).eqv (PyData.str (Str.ofString "child")) = false := by decide +kernel
theorem ew_rl : (PyData.str (Str.ofString "read")).eqv (PyData.str (Str.ofString "last")) = false := by decide +kernel
theorem ew_ro : (PyData.str (Str.ofString "read")).eqv (PyData.str (Str.ofString "old")) = false := by decide +kernel
theorem ew_rr : (PyData.str (Str.ofString "read")).eqv (PyData.str (Str.ofString "read")) = true := by decide +kernel
theorem pl_co : plains [.str (Str.ofString "child"), .str (Str.ofString "old")] = true := by decide +kernel
theorem pl_cr : plains [.str (Str.ofString "child"), .str (Str.ofString "read")] = true := by decide +kernel
theorem ma_l_wanted : ∀ ss R, ss.length = 4 → F_l_wanted ss R → rd_l_wanted { nx := fun _ => R (.d .none), rt := R } (ss ++ List.replicate 3 .un) := by
  rintro _ R - ⟨w, pc, n, rfl, hn, q⟩
  unfold rd_l_wanted
  by_cases h : 1 < n
  · have hd : decide (1 < n) = true := decide_eq_true h
    rw [hd] at q
    cases w <;> cases pc <;> unfold Wy.z <;> simp only [↓at0, ↓set0, ↓at1, ↓set1, ↓at2, ↓set2, ↓at3, ↓set3, ↓at4, ↓set4, ↓at5, ↓set5, ↓at6, ↓set6, ↓at7, ↓set7, ↓at8, ↓set8, ↓at9, ↓set9, ↓at10, ↓set10, ↓at11, ↓set11, ↓at12, ↓set12, ↓at13, ↓set13, ↓at14, ↓set14, ↓at15, ↓set15, ↓fz_d, ↓fz_own, ↓fz_ob, ↓one_d, ↓int_d, ↓bool_d, ↓own_o, ↓ds_nil, ↓ds_cons, ↓seq_l, ↓seq_t, ↓ite_t, ↓ite_f, ↓e_next, ↓e_seq, ↓e_set, ↓e_drop, ↓e_ret, ↓e_ifs, ↓e_brk, ↓e_cnt, ↓e_fixs, ↓e_par, ↓e_par3, ↓e_asg, ↓e_for, ↓e_putAt, ↓e_jput, ↓e_var, ↓e_k, ↓e_fz, ↓e_op, ↓e_opL, ↓e_opR, ↓e_n, ↓e_n1, ↓e_nil, ↓e_cons, ↓e_tup, ↓e_lst, ↓e_b, ↓e_not, ↓e_and, ↓e_or, ↓e_andV, ↓e_orV, ↓e_notV, ↓e_if, ↓e_isi, ↓e_neg, ↓e_chain, ↓e_call, ↓e_callK, ↓e_jint, ↓e_dict0, ↓e_dict1, ↓e_listRng, ↓e_append, ↓e_cut, ↓e_cutO, ↓e_onone, ↓e_osome, ↓e_iseq, ↓e_ienum, ↓e_irng, ↓e_gname, ↓e_lnil, ↓e_lcons, ↓e_lc, ↓e_yes, ↓f_addI, ↓f_addS, ↓f_addT, ↓f_addL, ↓f_i2, ↓f_mulI, ↓f_mulT, ↓f_mulL, ↓f_eq, ↓f_ne, ↓f_is, ↓f_isnot, ↓f_in, ↓f_notin, ↓f_ixL, ↓f_ixT, ↓f_lenL, ↓f_lenT, ↓f_lenS, ↓f_abs, ↓f_intI, ↓f_intB, ↓f_tupL, ↓f_tupT, ↓f_lstL, ↓f_lstT, ↓f_repr, ↓f_cutL, ↓f_cutT, ↓firm_d, ↓firm_ob, ↓zip_l, ↓zip_t, ↓e_izip, ↓zip_cons, ↓zip_nil1, ↓zip_nil2, ↓f_sorted, ↓e_lcn, ↓e_lcc, ↓e_inn, ↓e_inc, ↓e_l2n, ↓e_l2c, ↓e_lc2, ↓e_rev, ↓e_pop, ↓e_popAt, ↓e_extend, ↓e_lc3, ↓e_gon, ↓e_goc, ↓e_dbMid, ↓e_dbIn, ↓f_neu, ↓dgTup_tup, ↓dgCons_cons, ↓dgNil_nil, ite_t, ite_f, itK_not, List.cons_append, List.nil_append, List.append_nil, List.replicate, List.flatten_cons, List.flatten_nil, List.append_eq, List.length_cons, List.length_nil, Nat.zero_add, Nat.reduceAdd, true_and, and_true, eqOk_str, eqOk_int, eqOk_bool, str_eqv, int_eqv, tup_nil_eqv, lst_nil_eqv, rep_flat, isK_int, isK_bool, isK_tuple, isK_str, kInt, kBool, kTuple, kStr, GB.isNon, Bool.not_true, Bool.not_false, Bool.or_false, Bool.or_true, Bool.false_or, Bool.true_or, reduceCtorEq, ↓s_pick, ↓f_inP, pl_co, pl_cr, exl (α := Unit), isK_int, rep_flat, hd, ew_cc, ew_cl, ew_co, ew_cr, ew_lc, ew_ll, ew_lo, ew_lr, ew_oc, ew_ol, ew_oo, ew_or, ew_rc, ew_rl, ew_ro, ew_rr, Int.reduceToNat, if_true, if_false, Bool.false_eq_true, ↓reduceIte, List.mem_cons, List.not_mem_nil, or_false, forall_eq_or_imp, forall_eq, List.any_cons, List.any_nil]
    all_goals ((repeat' apply And.intro) <;> first | decide | exact List.cons_ne_nil _ _ | exact q (chs false false false false) | exact q (chs true false false false) | exact q (chs false true false false) | exact q (chs true true false false) | exact q (chs false false true false) | exact q (chs true false true false) | exact q (chs false true true false) | exact q (chs true true true false) | exact q (chs false false false true) | exact q (chs true false false true) | exact q (chs false true false true) | exact q (chs true true false true) | exact q (chs false false true true) | exact q (chs true false true true) | exact q (chs false true true true) | exact q (chs true true true true))
  · have hd : decide (1 < n) = false := decide_eq_false h
    rw [hd] at q
    cases w <;> cases pc <;> unfold Wy.z <;> simp only [↓at0, ↓set0, ↓at1, ↓set1, ↓at2, ↓set2, ↓at3, ↓set3, ↓at4, ↓set4, ↓at5, ↓set5, ↓at6, ↓set6, ↓at7, ↓set7, ↓at8, ↓set8, ↓at9, ↓set9, ↓at10, ↓set10, ↓at11, ↓set11, ↓at12, ↓set12, ↓at13, ↓set13, ↓at14, ↓set14, ↓at15, ↓set15, ↓fz_d, ↓fz_own, ↓fz_ob, ↓one_d, ↓int_d, ↓bool_d, ↓own_o, ↓ds_nil, ↓ds_cons, ↓seq_l, ↓seq_t, ↓ite_t, ↓ite_f, ↓e_next, ↓e_seq, ↓e_set, ↓e_drop, ↓e_ret, ↓e_ifs, ↓e_brk, ↓e_cnt, ↓e_fixs, ↓e_par, ↓e_par3, ↓e_asg, ↓e_for, ↓e_putAt, ↓e_jput, ↓e_var, ↓e_k, ↓e_fz, ↓e_op, ↓e_opL, ↓e_opR, ↓e_n, ↓e_n1, ↓e_nil, ↓e_cons, ↓e_tup, ↓e_lst, ↓e_b, ↓e_not, ↓e_and, ↓e_or, ↓e_andV, ↓e_orV, ↓e_notV, ↓e_if, ↓e_isi, ↓e_neg, ↓e_chain, ↓e_call, ↓e_callK, ↓e_jint, ↓e_dict0, ↓e_dict1, ↓e_listRng, ↓e_append, ↓e_cut, ↓e_cutO, ↓e_onone, ↓e_osome, ↓e_iseq, ↓e_ienum, ↓e_irng, ↓e_gname, ↓e_lnil, ↓e_lcons, ↓e_lc, ↓e_yes, ↓f_addI, ↓f_addS, ↓f_addT, ↓f_addL, ↓f_i2, ↓f_mulI, ↓f_mulT, ↓f_mulL, ↓f_eq, ↓f_ne, ↓f_is, ↓f_isnot, ↓f_in, ↓f_notin, ↓f_ixL, ↓f_ixT, ↓f_lenL, ↓f_lenT, ↓f_lenS, ↓f_abs, ↓f_intI, ↓f_intB, ↓f_tupL, ↓f_tupT, ↓f_lstL, ↓f_lstT, ↓f_repr, ↓f_cutL, ↓f_cutT, ↓firm_d, ↓firm_ob, ↓zip_l, ↓zip_t, ↓e_izip, ↓zip_cons, ↓zip_nil1, ↓zip_nil2, ↓f_sorted, ↓e_lcn, ↓e_lcc, ↓e_inn, ↓e_inc, ↓e_l2n, ↓e_l2c, ↓e_lc2, ↓e_rev, ↓e_pop, ↓e_popAt, ↓e_extend, ↓e_lc3, ↓e_gon, ↓e_goc, ↓e_dbMid, ↓e_dbIn, ↓f_neu, ↓dgTup_tup, ↓dgCons_cons, ↓dgNil_nil, ite_t, ite_f, itK_not, List.cons_append, List.nil_append, List.append_nil, List.replicate, List.flatten_cons, List.flatten_nil, List.append_eq, List.length_cons, List.length_nil, Nat.zero_add, Nat.reduceAdd, true_and, and_true, eqOk_str, eqOk_int, eqOk_bool, str_eqv, int_eqv, tup_nil_eqv, lst_nil_eqv, rep_flat, isK_int, isK_bool, isK_tuple, isK_str, kInt, kBool, kTuple, kStr, GB.isNon, Bool.not_true, Bool.not_false, Bool.or_false, Bool.or_true, Bool.false_or, Bool.true_or, reduceCtorEq, ↓s_pick, ↓f_inP, pl_co, pl_cr, exl (α := Unit), isK_int, rep_flat, hd, ew_cc, ew_cl, ew_co, ew_cr, ew_lc, ew_ll, ew_lo, ew_lr, ew_oc, ew_ol, ew_oo, ew_or, ew_rc, ew_rl, ew_ro, ew_rr, Int.reduceToNat, if_true, if_false, Bool.false_eq_true, ↓reduceIte, List.mem_cons, List.not_mem_nil, or_false, forall_eq_or_imp, forall_eq, List.any_cons, List.any_nil]
    all_goals ((repeat' apply And.intro) <;> first | decide | exact List.cons_ne_nil _ _ | exact q (chs false false false false) | exact q (chs true false false false) | exact q (chs false true false false) | exact q (chs true true false false) | exact q (chs false false true false) | exact q (chs true false true false) | exact q (chs false true true false) | exact q (chs true true true false) | exact q (chs false false false true) | exact q (chs true false false true) | exact q (chs false true false true) | exact q (chs true true false true) | exact q (chs false false true true) | exact q (chs true false true true) | exact q (chs false true true true) | exact q (chs true true true true))
end GK

set_option maxRecDepth 20000
namespace GK
open PySem PySem.Spec PyProof.Rows L2 GB
theorem ma_l_some : ∀ ss R, ss.length = 3 → F_l_some ss R → rd_l_some { nx := fun _ => R (.d .none), rt := R } (ss ++ List.replicate 7 .un) := by
  rintro _ R - ⟨pc, n, rfl, hn, q⟩
  unfold rd_l_some
  simp only [↓at0, ↓set0, ↓at1, ↓set1, ↓at2, ↓set2, ↓at3, ↓set3, ↓at4, ↓set4, ↓at5, ↓set5, ↓at6, ↓set6, ↓at7, ↓set7, ↓at8, ↓set8, ↓at9, ↓set9, ↓at10, ↓set10, ↓at11, ↓set11, ↓at12, ↓set12, ↓at13, ↓set13, ↓at14, ↓set14, ↓at15, ↓set15, ↓fz_d, ↓fz_own, ↓fz_ob, ↓one_d, ↓int_d, ↓bool_d, ↓own_o, ↓ds_nil, ↓ds_cons, ↓seq_l, ↓seq_t, ↓ite_t, ↓ite_f, ↓e_next, ↓e_seq, ↓e_set, ↓e_drop, ↓e_ret, ↓e_ifs, ↓e_brk, ↓e_cnt, ↓e_fixs, ↓e_par, ↓e_par3, ↓e_asg, ↓e_for, ↓e_putAt, ↓e_jput, ↓e_var, ↓e_k, ↓e_fz, ↓e_op, ↓e_opL, ↓e_opR, ↓e_n, ↓e_n1, ↓e_nil, ↓e_cons, ↓e_tup, ↓e_lst, ↓e_b, ↓e_not, ↓e_and, ↓e_or, ↓e_andV, ↓e_orV, ↓e_notV, ↓e_if, ↓e_isi, ↓e_neg, ↓e_chain, ↓e_call, ↓e_callK, ↓e_jint, ↓e_dict0, ↓e_dict1, ↓e_listRng, ↓e_append, ↓e_cut, ↓e_cutO, ↓e_onone, ↓e_osome, ↓e_iseq, ↓e_ienum, ↓e_irng, ↓e_gname, ↓e_lnil, ↓e_lcons, ↓e_lc, ↓e_yes, ↓f_addI, ↓f_addS, ↓f_addT, ↓f_addL, ↓f_i2, ↓f_mulI, ↓f_mulT, ↓f_mulL, ↓f_eq, ↓f_ne, ↓f_is, ↓f_isnot, ↓f_in, ↓f_notin, ↓f_ixL, ↓f_ixT, ↓f_lenL, ↓f_lenT, ↓f_lenS, ↓f_abs, ↓f_intI, ↓f_intB, ↓f_tupL, ↓f_tupT, ↓f_lstL, ↓f_lstT, ↓f_repr, ↓f_cutL, ↓f_cutT, ↓firm_d, ↓firm_ob, ↓zip_l, ↓zip_t, ↓e_izip, ↓zip_cons, ↓zip_nil1, ↓zip_nil2, ↓f_sorted, ↓e_inn, ↓e_inc, ↓e_l2n, ↓e_l2c, ↓e_lc2, ↓e_rev, ↓e_pop, ↓e_popAt, ↓e_extend, ↓e_lc3, ↓e_gon, ↓e_goc, ↓e_dbMid, ↓e_dbIn, ↓f_neu, ↓dgTup_tup, ↓dgCons_cons, ↓dgNil_nil, ite_t, ite_f, itK_not, List.cons_append, List.nil_append, List.append_nil, List.replicate, List.flatten_cons, List.flatten_nil, List.append_eq, List.length_cons, List.length_nil, Nat.zero_add, Nat.reduceAdd, true_and, and_true, eqOk_str, eqOk_int, eqOk_bool, str_eqv, int_eqv, tup_nil_eqv, lst_nil_eqv, rep_flat, isK_int, isK_bool, isK_tuple, isK_str, kInt, kBool, kTuple, kStr, GB.isNon, Bool.not_true, Bool.not_false, Bool.or_false, Bool.or_true, Bool.false_or, Bool.true_or, reduceCtorEq, ↓s_draw, ↓s_allE]
  refine ⟨by decide, by decide, fun r r0 r1 => ?_⟩
  refine iteB (fun h => ?_) fun h => ?_
  · simp only [↓at0, ↓set0, ↓at1, ↓set1, ↓at2, ↓set2, ↓at3, ↓set3, ↓at4, ↓set4, ↓at5, ↓set5, ↓at6, ↓set6, ↓at7, ↓set7, ↓at8, ↓set8, ↓at9, ↓set9, ↓at10, ↓set10, ↓at11, ↓set11, ↓at12, ↓set12, ↓at13, ↓set13, ↓at14, ↓set14, ↓at15, ↓set15, ↓fz_d, ↓fz_own, ↓fz_ob, ↓one_d, ↓int_d, ↓bool_d, ↓own_o, ↓ds_nil, ↓ds_cons, ↓seq_l, ↓seq_t, ↓ite_t, ↓ite_f, ↓e_next, ↓e_seq, ↓e_set, ↓e_drop, ↓e_ret, ↓e_ifs, ↓e_brk, ↓e_cnt, ↓e_fixs, ↓e_par, ↓e_par3, ↓e_asg, ↓e_for, ↓e_putAt, ↓e_jput, ↓e_var, ↓e_k, ↓e_fz, ↓e_op, ↓e_opL, ↓e_opR, ↓e_n, ↓e_n1, ↓e_nil, ↓e_cons, ↓e_tup, ↓e_lst, ↓e_b, ↓e_not, ↓e_and, ↓e_or, ↓e_andV, ↓e_orV, ↓e_notV, ↓e_if, ↓e_isi, ↓e_neg, ↓e_chain, ↓e_call, ↓e_callK, ↓e_jint, ↓e_dict0, ↓e_dict1, ↓e_listRng, ↓e_append, ↓e_cut, ↓e_cutO, ↓e_onone, ↓e_osome, ↓e_iseq, ↓e_ienum, ↓e_irng, ↓e_gname, ↓e_lnil, ↓e_lcons, ↓e_lc, ↓e_yes, ↓f_addI, ↓f_addS, ↓f_addT, ↓f_addL, ↓f_i2, ↓f_mulI, ↓f_mulT, ↓f_mulL, ↓f_eq, ↓f_ne, ↓f_is, ↓f_isnot, ↓f_in, ↓f_notin, ↓f_ixL, ↓f_ixT, ↓f_lenL, ↓f_lenT, ↓f_lenS, ↓f_abs, ↓f_intI, ↓f_intB, ↓f_tupL, ↓f_tupT, ↓f_lstL, ↓f_lstT, ↓f_repr, ↓f_cutL, ↓f_cutT, ↓firm_d, ↓firm_ob, ↓zip_l, ↓zip_t, ↓e_izip, ↓zip_cons, ↓zip_nil1, ↓zip_nil2, ↓f_sorted, ↓e_inn, ↓e_inc, ↓e_l2n, ↓e_l2c, ↓e_lc2, ↓e_rev, ↓e_pop, ↓e_popAt, ↓e_extend, ↓e_lc3, ↓e_gon, ↓e_goc, ↓e_dbMid, ↓e_dbIn, ↓f_neu, ↓dgTup_tup, ↓dgCons_cons, ↓dgNil_nil, ite_t, ite_f, itK_not, List.cons_append, List.nil_append, List.append_nil, List.replicate, List.flatten_cons, List.flatten_nil, List.append_eq, List.length_cons, List.length_nil, Nat.zero_add, Nat.reduceAdd, true_and, and_true, eqOk_str, eqOk_int, eqOk_bool, str_eqv, int_eqv, tup_nil_eqv, lst_nil_eqv, rep_flat, isK_int, isK_bool, isK_tuple, isK_str, kInt, kBool, kTuple, kStr, GB.isNon, Bool.not_true, Bool.not_false, Bool.or_false, Bool.or_true, Bool.false_or, Bool.true_or, reduceCtorEq, ↓s_pick, ↓s_draw, wipeD, List.set, esD]
    repeat (refine ⟨(show (_ : Prop) from by first | decide | omega | exact List.cons_ne_nil _ _ | (unfold CPow; decide) | (refine line_ge ?_; (try simp only [List.length_append, List.length_replicate, List.length_map, irow_len, Int.reduceToNat, List.length_cons, List.length_nil]); omega) | ((try simp only [List.length_append, List.length_replicate, List.length_map, irow_len, Int.reduceToNat, List.length_cons, List.length_nil]); omega)), ?_⟩)
    intro x hx
    obtain ⟨k, rfl⟩ : ∃ k : Int, x = .int k := by
      simp only [List.mem_cons, List.not_mem_nil, or_false] at hx
      rcases hx with rfl | rfl | rfl | rfl <;> exact ⟨_, rfl⟩
    refine ⟨line_ge (by decide), sub_run (fun fs h1 h2 => q fs h1 (by rw [ENS_len] at h2; omega)) fun e he acc K y n => ?_⟩
    simp only [↓at0, ↓set0, ↓at1, ↓set1, ↓at2, ↓set2, ↓at3, ↓set3, ↓at4, ↓set4, ↓at5, ↓set5, ↓at6, ↓set6, ↓at7, ↓set7, ↓at8, ↓set8, ↓at9, ↓set9, ↓at10, ↓set10, ↓at11, ↓set11, ↓at12, ↓set12, ↓at13, ↓set13, ↓at14, ↓set14, ↓at15, ↓set15, ↓fz_d, ↓fz_own, ↓fz_ob, ↓one_d, ↓int_d, ↓bool_d, ↓own_o, ↓ds_nil, ↓ds_cons, ↓seq_l, ↓seq_t, ↓ite_t, ↓ite_f, ↓e_next, ↓e_seq, ↓e_set, ↓e_drop, ↓e_ret, ↓e_ifs, ↓e_brk, ↓e_cnt, ↓e_fixs, ↓e_par, ↓e_par3, ↓e_asg, ↓e_for, ↓e_putAt, ↓e_jput, ↓e_var, ↓e_k, ↓e_fz, ↓e_op, ↓e_opL, ↓e_opR, ↓e_n, ↓e_n1, ↓e_nil, ↓e_cons, ↓e_tup, ↓e_lst, ↓e_b, ↓e_not, ↓e_and, ↓e_or, ↓e_andV, ↓e_orV, ↓e_notV, ↓e_if, ↓e_isi, ↓e_neg, ↓e_chain, ↓e_call, ↓e_callK, ↓e_jint, ↓e_dict0, ↓e_dict1, ↓e_listRng, ↓e_append, ↓e_cut, ↓e_cutO, ↓e_onone, ↓e_osome, ↓e_iseq, ↓e_ienum, ↓e_irng, ↓e_gname, ↓e_lnil, ↓e_lcons, ↓e_lc, ↓e_yes, ↓f_addI, ↓f_addS, ↓f_addT, ↓f_addL, ↓f_i2, ↓f_mulI, ↓f_mulT, ↓f_mulL, ↓f_eq, ↓f_ne, ↓f_is, ↓f_isnot, ↓f_in, ↓f_notin, ↓f_ixL, ↓f_ixT, ↓f_lenL, ↓f_lenT, ↓f_lenS, ↓f_abs, ↓f_intI, ↓f_intB, ↓f_tupL, ↓f_tupT, ↓f_lstL, ↓f_lstT, ↓f_repr, ↓f_cutL, ↓f_cutT, ↓firm_d, ↓firm_ob, ↓zip_l, ↓zip_t, ↓e_izip, ↓zip_cons, ↓zip_nil1, ↓zip_nil2, ↓f_sorted, ↓e_inn, ↓e_inc, ↓e_l2n, ↓e_l2c, ↓e_lc2, ↓e_rev, ↓e_pop, ↓e_popAt, ↓e_extend, ↓e_lc3, ↓e_gon, ↓e_goc, ↓e_dbMid, ↓e_dbIn, ↓f_neu, ↓dgTup_tup, ↓dgCons_cons, ↓dgNil_nil, ite_t, ite_f, itK_not, List.cons_append, List.nil_append, List.append_nil, List.replicate, List.flatten_cons, List.flatten_nil, List.append_eq, List.length_cons, List.length_nil, Nat.zero_add, Nat.reduceAdd, true_and, and_true, eqOk_str, eqOk_int, eqOk_bool, str_eqv, int_eqv, tup_nil_eqv, lst_nil_eqv, rep_flat, isK_int, isK_bool, isK_tuple, isK_str, kInt, kBool, kTuple, kStr, GB.isNon, Bool.not_true, Bool.not_false, Bool.or_false, Bool.or_true, Bool.false_or, Bool.true_or, reduceCtorEq, ↓s_pick, ↓s_draw, wipeD, List.set]
    exact ⟨by decide, by decide, fun r _ _ => iteB (fun _ => y) fun _ => n⟩
  · simp only [↓at0, ↓set0, ↓at1, ↓set1, ↓at2, ↓set2, ↓at3, ↓set3, ↓at4, ↓set4, ↓at5, ↓set5, ↓at6, ↓set6, ↓at7, ↓set7, ↓at8, ↓set8, ↓at9, ↓set9, ↓at10, ↓set10, ↓at11, ↓set11, ↓at12, ↓set12, ↓at13, ↓set13, ↓at14, ↓set14, ↓at15, ↓set15, ↓fz_d, ↓fz_own, ↓fz_ob, ↓one_d, ↓int_d, ↓bool_d, ↓own_o, ↓ds_nil, ↓ds_cons, ↓seq_l, ↓seq_t, ↓ite_t, ↓ite_f, ↓e_next, ↓e_seq, ↓e_set, ↓e_drop, ↓e_ret, ↓e_ifs, ↓e_brk, ↓e_cnt, ↓e_fixs, ↓e_par, ↓e_par3, ↓e_asg, ↓e_for, ↓e_putAt, ↓e_jput, ↓e_var, ↓e_k, ↓e_fz, ↓e_op, ↓e_opL, ↓e_opR, ↓e_n, ↓e_n1, ↓e_nil, ↓e_cons, ↓e_tup, ↓e_lst, ↓e_b, ↓e_not, ↓e_and, ↓e_or, ↓e_andV, ↓e_orV, ↓e_notV, ↓e_if, ↓e_isi, ↓e_neg, ↓e_chain, ↓e_call, ↓e_callK, ↓e_jint, ↓e_dict0, ↓e_dict1, ↓e_listRng, ↓e_append, ↓e_cut, ↓e_cutO, ↓e_onone, ↓e_osome, ↓e_iseq, ↓e_ienum, ↓e_irng, ↓e_gname, ↓e_lnil, ↓e_lcons, ↓e_lc, ↓e_yes, ↓f_addI, ↓f_addS, ↓f_addT, ↓f_addL, ↓f_i2, ↓f_mulI, ↓f_mulT, ↓f_mulL, ↓f_eq, ↓f_ne, ↓f_is, ↓f_isnot, ↓f_in, ↓f_notin, ↓f_ixL, ↓f_ixT, ↓f_lenL, ↓f_lenT, ↓f_lenS, ↓f_abs, ↓f_intI, ↓f_intB, ↓f_tupL, ↓f_tupT, ↓f_lstL, ↓f_lstT, ↓f_repr, ↓f_cutL, ↓f_cutT, ↓firm_d, ↓firm_ob, ↓zip_l, ↓zip_t, ↓e_izip, ↓zip_cons, ↓zip_nil1, ↓zip_nil2, ↓f_sorted, ↓e_inn, ↓e_inc, ↓e_l2n, ↓e_l2c, ↓e_lc2, ↓e_rev, ↓e_pop, ↓e_popAt, ↓e_extend, ↓e_lc3, ↓e_gon, ↓e_goc, ↓e_dbMid, ↓e_dbIn, ↓f_neu, ↓dgTup_tup, ↓dgCons_cons, ↓dgNil_nil, ite_t, ite_f, itK_not, List.cons_append, List.nil_append, List.append_nil, List.replicate, List.flatten_cons, List.flatten_nil, List.append_eq, List.length_cons, List.length_nil, Nat.zero_add, Nat.reduceAdd, true_and, and_true, eqOk_str, eqOk_int, eqOk_bool, str_eqv, int_eqv, tup_nil_eqv, lst_nil_eqv, rep_flat, isK_int, isK_bool, isK_tuple, isK_str, kInt, kBool, kTuple, kStr, GB.isNon, Bool.not_true, Bool.not_false, Bool.or_false, Bool.or_true, Bool.false_or, Bool.true_or, reduceCtorEq, ↓s_pick, ↓s_draw, wipeD, List.set]
    refine ⟨by decide, List.cons_ne_nil _ _, by decide, fun x hx => ?_⟩
    obtain ⟨w, rfl⟩ : ∃ w : Wy, x = .str w.z := by
      simp only [List.mem_cons, List.not_mem_nil, or_false] at hx
      rcases hx with rfl | rfl | rfl | rfl
      · exact ⟨.child, rfl⟩
      · exact ⟨.last, rfl⟩
      · exact ⟨.old, rfl⟩
      · exact ⟨.read, rfl⟩
    refine s_lwant.mpr ⟨hn, fun ch => ?_⟩
    obtain ⟨w1, w2, w3⟩ := want_ok w pc (decide (1 < n)) ch
    generalize wantE w pc (decide (1 < n)) ch = es at w1 w2 w3 ⊢
    refine ⟨by decide, List.cons_ne_nil _ _, by decide, fun x hx => ?_⟩
    obtain ⟨k, rfl⟩ : ∃ k : Int, x = .int k := by
      simp only [List.mem_cons, List.not_mem_nil, or_false] at hx
      rcases hx with rfl | rfl | rfl <;> exact ⟨_, rfl⟩
    refine ⟨trivial, ?_⟩
    refine seq_es.mpr ?_
    refine ⟨line_ge (by decide), sub_run (fun fs h1 h2 => ?_) fun e he acc K y n => ?_⟩
    · rw [ENS_len] at h2
      refine one_es.mpr (add_es.mpr ⟨line_ge (by rw [List.length_map, List.length_map]; omega), ?_⟩)
      simp only [↓at0, ↓set0, ↓at1, ↓set1, ↓at2, ↓set2, ↓at3, ↓set3, ↓at4, ↓set4, ↓at5, ↓set5, ↓at6, ↓set6, ↓at7, ↓set7, ↓at8, ↓set8, ↓at9, ↓set9, ↓at10, ↓set10, ↓at11, ↓set11, ↓at12, ↓set12, ↓at13, ↓set13, ↓at14, ↓set14, ↓at15, ↓set15, ↓fz_d, ↓fz_own, ↓fz_ob, ↓one_d, ↓int_d, ↓bool_d, ↓own_o, ↓ds_nil, ↓ds_cons, ↓seq_l, ↓seq_t, ↓ite_t, ↓ite_f, ↓e_next, ↓e_seq, ↓e_set, ↓e_drop, ↓e_ret, ↓e_ifs, ↓e_brk, ↓e_cnt, ↓e_fixs, ↓e_par, ↓e_par3, ↓e_asg, ↓e_for, ↓e_putAt, ↓e_jput, ↓e_var, ↓e_k, ↓e_fz, ↓e_op, ↓e_opL, ↓e_opR, ↓e_n, ↓e_n1, ↓e_nil, ↓e_cons, ↓e_tup, ↓e_lst, ↓e_b, ↓e_not, ↓e_and, ↓e_or, ↓e_andV, ↓e_orV, ↓e_notV, ↓e_if, ↓e_isi, ↓e_neg, ↓e_chain, ↓e_call, ↓e_callK, ↓e_jint, ↓e_dict0, ↓e_dict1, ↓e_listRng, ↓e_append, ↓e_cut, ↓e_cutO, ↓e_onone, ↓e_osome, ↓e_iseq, ↓e_ienum, ↓e_irng, ↓e_gname, ↓e_lnil, ↓e_lcons, ↓e_lc, ↓e_yes, ↓f_addI, ↓f_addS, ↓f_addT, ↓f_addL, ↓f_i2, ↓f_mulI, ↓f_mulT, ↓f_mulL, ↓f_eq, ↓f_ne, ↓f_is, ↓f_isnot, ↓f_in, ↓f_notin, ↓f_ixL, ↓f_ixT, ↓f_lenL, ↓f_lenT, ↓f_lenS, ↓f_abs, ↓f_intI, ↓f_intB, ↓f_tupL, ↓f_tupT, ↓f_lstL, ↓f_lstT, ↓f_repr, ↓f_cutL, ↓f_cutT, ↓firm_d, ↓firm_ob, ↓zip_l, ↓zip_t, ↓e_izip, ↓zip_cons, ↓zip_nil1, ↓zip_nil2, ↓f_sorted, ↓e_inn, ↓e_inc, ↓e_l2n, ↓e_l2c, ↓e_lc2, ↓e_rev, ↓e_pop, ↓e_popAt, ↓e_extend, ↓e_lc3, ↓e_gon, ↓e_goc, ↓e_dbMid, ↓e_dbIn, ↓f_neu, ↓dgTup_tup, ↓dgCons_cons, ↓dgNil_nil, ite_t, ite_f, itK_not, List.cons_append, List.nil_append, List.append_nil, List.replicate, List.flatten_cons, List.flatten_nil, List.append_eq, List.length_cons, List.length_nil, Nat.zero_add, Nat.reduceAdd, true_and, and_true, eqOk_str, eqOk_int, eqOk_bool, str_eqv, int_eqv, tup_nil_eqv, lst_nil_eqv, rep_flat, isK_int, isK_bool, isK_tuple, isK_str, kInt, kBool, kTuple, kStr, GB.isNon, Bool.not_true, Bool.not_false, Bool.or_false, Bool.or_true, Bool.false_or, Bool.true_or, reduceCtorEq, ]
      refine ⟨by decide, ?_⟩
      obtain ⟨m, hm, ha⟩ : ∃ m : Int, (0 ≤ m ∧ m ≤ 2) ∧ atI [PyData.int 0, .int 0, .int 0, .int 0, .int 1, .int 1, .int 2] r = some (.int m) := by
        have hr : r = 2 ∨ r = 3 ∨ r = 4 ∨ r = 5 ∨ r = 6 := by have := of_decide_eq_false h; omega
        rcases hr with rfl | rfl | rfl | rfl | rfl
        · exact ⟨0, by decide, at_n (n := 2) rfl⟩
        · exact ⟨0, by decide, at_n (n := 3) rfl⟩
        · exact ⟨1, by decide, at_n (n := 4) rfl⟩
        · exact ⟨1, by decide, at_n (n := 5) rfl⟩
        · exact ⟨2, by decide, at_n (n := 6) rfl⟩
      refine ⟨_, ha, ?_⟩
      simp only [↓at0, ↓set0, ↓at1, ↓set1, ↓at2, ↓set2, ↓at3, ↓set3, ↓at4, ↓set4, ↓at5, ↓set5, ↓at6, ↓set6, ↓at7, ↓set7, ↓at8, ↓set8, ↓at9, ↓set9, ↓at10, ↓set10, ↓at11, ↓set11, ↓at12, ↓set12, ↓at13, ↓set13, ↓at14, ↓set14, ↓at15, ↓set15, ↓fz_d, ↓fz_own, ↓fz_ob, ↓one_d, ↓int_d, ↓bool_d, ↓own_o, ↓ds_nil, ↓ds_cons, ↓seq_l, ↓seq_t, ↓ite_t, ↓ite_f, ↓e_next, ↓e_seq, ↓e_set, ↓e_drop, ↓e_ret, ↓e_ifs, ↓e_brk, ↓e_cnt, ↓e_fixs, ↓e_par, ↓e_par3, ↓e_asg, ↓e_for, ↓e_putAt, ↓e_jput, ↓e_var, ↓e_k, ↓e_fz, ↓e_op, ↓e_opL, ↓e_opR, ↓e_n, ↓e_n1, ↓e_nil, ↓e_cons, ↓e_tup, ↓e_lst, ↓e_b, ↓e_not, ↓e_and, ↓e_or, ↓e_andV, ↓e_orV, ↓e_notV, ↓e_if, ↓e_isi, ↓e_neg, ↓e_chain, ↓e_call, ↓e_callK, ↓e_jint, ↓e_dict0, ↓e_dict1, ↓e_listRng, ↓e_append, ↓e_cut, ↓e_cutO, ↓e_onone, ↓e_osome, ↓e_iseq, ↓e_ienum, ↓e_irng, ↓e_gname, ↓e_lnil, ↓e_lcons, ↓e_lc, ↓e_yes, ↓f_addI, ↓f_addS, ↓f_addT, ↓f_addL, ↓f_i2, ↓f_mulI, ↓f_mulT, ↓f_mulL, ↓f_eq, ↓f_ne, ↓f_is, ↓f_isnot, ↓f_in, ↓f_notin, ↓f_ixL, ↓f_ixT, ↓f_lenL, ↓f_lenT, ↓f_lenS, ↓f_abs, ↓f_intI, ↓f_intB, ↓f_tupL, ↓f_tupT, ↓f_lstL, ↓f_lstT, ↓f_repr, ↓f_cutL, ↓f_cutT, ↓firm_d, ↓firm_ob, ↓zip_l, ↓zip_t, ↓e_izip, ↓zip_cons, ↓zip_nil1, ↓zip_nil2, ↓f_sorted, ↓e_inn, ↓e_inc, ↓e_l2n, ↓e_l2c, ↓e_lc2, ↓e_rev, ↓e_pop, ↓e_popAt, ↓e_extend, ↓e_lc3, ↓e_gon, ↓e_goc, ↓e_dbMid, ↓e_dbIn, ↓f_neu, ↓dgTup_tup, ↓dgCons_cons, ↓dgNil_nil, ite_t, ite_f, itK_not, List.cons_append, List.nil_append, List.append_nil, List.replicate, List.flatten_cons, List.flatten_nil, List.append_eq, List.length_cons, List.length_nil, Nat.zero_add, Nat.reduceAdd, true_and, and_true, eqOk_str, eqOk_int, eqOk_bool, str_eqv, int_eqv, tup_nil_eqv, lst_nil_eqv, rep_flat, isK_int, isK_bool, isK_tuple, isK_str, kInt, kBool, kTuple, kStr, GB.isNon, Bool.not_true, Bool.not_false, Bool.or_false, Bool.or_true, Bool.false_or, Bool.true_or, reduceCtorEq, ]
      refine ⟨by omega, by omega, ?_⟩
      refine loopR (fun _ n' ρ => ∃ (gs : List En) (s7 s8 : S), SubE gs ∧ gs.length ≤ 60 ∧ n' ≤ 2 ∧ (n' = 2 → Two gs) ∧ (n' = 1 → gs ≠ []) ∧ ρ = [S.ob Tk.jar, S.d (.bool pc), S.d (.int n), S.d (.int r), S.d (esD ENS), S.d (.int k), S.d (esD gs), s7, s8, .un]) ?_ ?_ _ 0 _ ⟨es ++ fs, .un, .un, ?_, ?_, by omega, fun _ => ?_, fun _ => ?_, ?_⟩
      · rintro k' _ ⟨gs, s7, s8, h1, h2, _, _, _, rfl⟩
        simp only [↓at0, ↓set0, ↓at1, ↓set1, ↓at2, ↓set2, ↓at3, ↓set3, ↓at4, ↓set4, ↓at5, ↓set5, ↓at6, ↓set6, ↓at7, ↓set7, ↓at8, ↓set8, ↓at9, ↓set9, ↓at10, ↓set10, ↓at11, ↓set11, ↓at12, ↓set12, ↓at13, ↓set13, ↓at14, ↓set14, ↓at15, ↓set15, ↓fz_d, ↓fz_own, ↓fz_ob, ↓one_d, ↓int_d, ↓bool_d, ↓own_o, ↓ds_nil, ↓ds_cons, ↓seq_l, ↓seq_t, ↓ite_t, ↓ite_f, ↓e_next, ↓e_seq, ↓e_set, ↓e_drop, ↓e_ret, ↓e_ifs, ↓e_brk, ↓e_cnt, ↓e_fixs, ↓e_par, ↓e_par3, ↓e_asg, ↓e_for, ↓e_putAt, ↓e_jput, ↓e_var, ↓e_k, ↓e_fz, ↓e_op, ↓e_opL, ↓e_opR, ↓e_n, ↓e_n1, ↓e_nil, ↓e_cons, ↓e_tup, ↓e_lst, ↓e_b, ↓e_not, ↓e_and, ↓e_or, ↓e_andV, ↓e_orV, ↓e_notV, ↓e_if, ↓e_isi, ↓e_neg, ↓e_chain, ↓e_call, ↓e_callK, ↓e_jint, ↓e_dict0, ↓e_dict1, ↓e_listRng, ↓e_append, ↓e_cut, ↓e_cutO, ↓e_onone, ↓e_osome, ↓e_iseq, ↓e_ienum, ↓e_irng, ↓e_gname, ↓e_lnil, ↓e_lcons, ↓e_lc, ↓e_yes, ↓f_addI, ↓f_addS, ↓f_addT, ↓f_addL, ↓f_i2, ↓f_mulI, ↓f_mulT, ↓f_mulL, ↓f_eq, ↓f_ne, ↓f_is, ↓f_isnot, ↓f_in, ↓f_notin, ↓f_ixL, ↓f_ixT, ↓f_lenL, ↓f_lenT, ↓f_lenS, ↓f_abs, ↓f_intI, ↓f_intB, ↓f_tupL, ↓f_tupT, ↓f_lstL, ↓f_lstT, ↓f_repr, ↓f_cutL, ↓f_cutT, ↓firm_d, ↓firm_ob, ↓zip_l, ↓zip_t, ↓e_izip, ↓zip_cons, ↓zip_nil1, ↓zip_nil2, ↓f_sorted, ↓e_inn, ↓e_inc, ↓e_l2n, ↓e_l2c, ↓e_lc2, ↓e_rev, ↓e_pop, ↓e_popAt, ↓e_extend, ↓e_lc3, ↓e_gon, ↓e_goc, ↓e_dbMid, ↓e_dbIn, ↓f_neu, ↓dgTup_tup, ↓dgCons_cons, ↓dgNil_nil, ite_t, ite_f, itK_not, List.cons_append, List.nil_append, List.append_nil, List.replicate, List.flatten_cons, List.flatten_nil, List.append_eq, List.length_cons, List.length_nil, Nat.zero_add, Nat.reduceAdd, true_and, and_true, eqOk_str, eqOk_int, eqOk_bool, str_eqv, int_eqv, tup_nil_eqv, lst_nil_eqv, rep_flat, isK_int, isK_bool, isK_tuple, isK_str, kInt, kBool, kTuple, kStr, GB.isNon, Bool.not_true, Bool.not_false, Bool.or_false, Bool.or_true, Bool.false_or, Bool.true_or, reduceCtorEq, ]
        exact q gs h1 h2
      · rintro k' n' _ K hK ⟨gs, s7, s8, h1, h2, h3, h4, h5, rfl⟩
        have hne : gs ≠ [] := by
          rcases (show n' = 0 ∨ n' = 1 by omega) with rfl | rfl
          · exact h5 rfl
          · exact two_ne (h4 rfl)
        simp only [↓at0, ↓set0, ↓at1, ↓set1, ↓at2, ↓set2, ↓at3, ↓set3, ↓at4, ↓set4, ↓at5, ↓set5, ↓at6, ↓set6, ↓at7, ↓set7, ↓at8, ↓set8, ↓at9, ↓set9, ↓at10, ↓set10, ↓at11, ↓set11, ↓at12, ↓set12, ↓at13, ↓set13, ↓at14, ↓set14, ↓at15, ↓set15, ↓fz_d, ↓fz_own, ↓fz_ob, ↓one_d, ↓int_d, ↓bool_d, ↓own_o, ↓ds_nil, ↓ds_cons, ↓seq_l, ↓seq_t, ↓ite_t, ↓ite_f, ↓e_next, ↓e_seq, ↓e_set, ↓e_drop, ↓e_ret, ↓e_ifs, ↓e_brk, ↓e_cnt, ↓e_fixs, ↓e_par, ↓e_par3, ↓e_asg, ↓e_for, ↓e_putAt, ↓e_jput, ↓e_var, ↓e_k, ↓e_fz, ↓e_op, ↓e_opL, ↓e_opR, ↓e_n, ↓e_n1, ↓e_nil, ↓e_cons, ↓e_tup, ↓e_lst, ↓e_b, ↓e_not, ↓e_and, ↓e_or, ↓e_andV, ↓e_orV, ↓e_notV, ↓e_if, ↓e_isi, ↓e_neg, ↓e_chain, ↓e_call, ↓e_callK, ↓e_jint, ↓e_dict0, ↓e_dict1, ↓e_listRng, ↓e_append, ↓e_cut, ↓e_cutO, ↓e_onone, ↓e_osome, ↓e_iseq, ↓e_ienum, ↓e_irng, ↓e_gname, ↓e_lnil, ↓e_lcons, ↓e_lc, ↓e_yes, ↓f_addI, ↓f_addS, ↓f_addT, ↓f_addL, ↓f_i2, ↓f_mulI, ↓f_mulT, ↓f_mulL, ↓f_eq, ↓f_ne, ↓f_is, ↓f_isnot, ↓f_in, ↓f_notin, ↓f_ixL, ↓f_ixT, ↓f_lenL, ↓f_lenT, ↓f_lenS, ↓f_abs, ↓f_intI, ↓f_intB, ↓f_tupL, ↓f_tupT, ↓f_lstL, ↓f_lstT, ↓f_repr, ↓f_cutL, ↓f_cutT, ↓firm_d, ↓firm_ob, ↓zip_l, ↓zip_t, ↓e_izip, ↓zip_cons, ↓zip_nil1, ↓zip_nil2, ↓f_sorted, ↓e_inn, ↓e_inc, ↓e_l2n, ↓e_l2c, ↓e_lc2, ↓e_rev, ↓e_pop, ↓e_popAt, ↓e_extend, ↓e_lc3, ↓e_gon, ↓e_goc, ↓e_dbMid, ↓e_dbIn, ↓f_neu, ↓dgTup_tup, ↓dgCons_cons, ↓dgNil_nil, ite_t, ite_f, itK_not, List.cons_append, List.nil_append, List.append_nil, List.replicate, List.flatten_cons, List.flatten_nil, List.append_eq, List.length_cons, List.length_nil, Nat.zero_add, Nat.reduceAdd, true_and, and_true, eqOk_str, eqOk_int, eqOk_bool, str_eqv, int_eqv, tup_nil_eqv, lst_nil_eqv, rep_flat, isK_int, isK_bool, isK_tuple, isK_str, kInt, kBool, kTuple, kStr, GB.isNon, Bool.not_true, Bool.not_false, Bool.or_false, Bool.or_true, Bool.false_or, Bool.true_or, reduceCtorEq, ]
        refine (s_pick (xs := gs.map En.d)).mpr ⟨by simpa using hne, by rw [List.length_map]; omega, fun x hx => ?_⟩
        obtain ⟨g, hg, rfl⟩ := List.mem_map.mp hx
        simp only [↓at0, ↓set0, ↓at1, ↓set1, ↓at2, ↓set2, ↓at3, ↓set3, ↓at4, ↓set4, ↓at5, ↓set5, ↓at6, ↓set6, ↓at7, ↓set7, ↓at8, ↓set8, ↓at9, ↓set9, ↓at10, ↓set10, ↓at11, ↓set11, ↓at12, ↓set12, ↓at13, ↓set13, ↓at14, ↓set14, ↓at15, ↓set15, ↓fz_d, ↓fz_own, ↓fz_ob, ↓one_d, ↓int_d, ↓bool_d, ↓own_o, ↓ds_nil, ↓ds_cons, ↓seq_l, ↓seq_t, ↓ite_t, ↓ite_f, ↓e_next, ↓e_seq, ↓e_set, ↓e_drop, ↓e_ret, ↓e_ifs, ↓e_brk, ↓e_cnt, ↓e_fixs, ↓e_par, ↓e_par3, ↓e_asg, ↓e_for, ↓e_putAt, ↓e_jput, ↓e_var, ↓e_k, ↓e_fz, ↓e_op, ↓e_opL, ↓e_opR, ↓e_n, ↓e_n1, ↓e_nil, ↓e_cons, ↓e_tup, ↓e_lst, ↓e_b, ↓e_not, ↓e_and, ↓e_or, ↓e_andV, ↓e_orV, ↓e_notV, ↓e_if, ↓e_isi, ↓e_neg, ↓e_chain, ↓e_call, ↓e_callK, ↓e_jint, ↓e_dict0, ↓e_dict1, ↓e_listRng, ↓e_append, ↓e_cut, ↓e_cutO, ↓e_onone, ↓e_osome, ↓e_iseq, ↓e_ienum, ↓e_irng, ↓e_gname, ↓e_lnil, ↓e_lcons, ↓e_lc, ↓e_yes, ↓f_addI, ↓f_addS, ↓f_addT, ↓f_addL, ↓f_i2, ↓f_mulI, ↓f_mulT, ↓f_mulL, ↓f_eq, ↓f_ne, ↓f_is, ↓f_isnot, ↓f_in, ↓f_notin, ↓f_ixL, ↓f_ixT, ↓f_lenL, ↓f_lenT, ↓f_lenS, ↓f_abs, ↓f_intI, ↓f_intB, ↓f_tupL, ↓f_tupT, ↓f_lstL, ↓f_lstT, ↓f_repr, ↓f_cutL, ↓f_cutT, ↓firm_d, ↓firm_ob, ↓zip_l, ↓zip_t, ↓e_izip, ↓zip_cons, ↓zip_nil1, ↓zip_nil2, ↓f_sorted, ↓e_inn, ↓e_inc, ↓e_l2n, ↓e_l2c, ↓e_lc2, ↓e_rev, ↓e_pop, ↓e_popAt, ↓e_extend, ↓e_lc3, ↓e_gon, ↓e_goc, ↓e_dbMid, ↓e_dbIn, ↓f_neu, ↓dgTup_tup, ↓dgCons_cons, ↓dgNil_nil, ite_t, ite_f, itK_not, List.cons_append, List.nil_append, List.append_nil, List.replicate, List.flatten_cons, List.flatten_nil, List.append_eq, List.length_cons, List.length_nil, Nat.zero_add, Nat.reduceAdd, true_and, and_true, eqOk_str, eqOk_int, eqOk_bool, str_eqv, int_eqv, tup_nil_eqv, lst_nil_eqv, rep_flat, isK_int, isK_bool, isK_tuple, isK_str, kInt, kBool, kTuple, kStr, GB.isNon, Bool.not_true, Bool.not_false, Bool.or_false, Bool.or_true, Bool.false_or, Bool.true_or, reduceCtorEq, wipeD, List.set]
        refine seq_es.mpr ⟨line_ge (by rw [List.length_map]; omega), es_run (P := fun e => !decide (e = g)) ?_ fun e he acc K y n => ?_⟩
        · refine hK _ ⟨gs.filter (fun e => !decide (e = g)), _, _, fun e he => h1 e (List.mem_filter.mp he).1, Nat.le_trans (List.length_filter_le _ _) h2, by omega, fun e => by omega, fun e => ?_, rfl⟩
          exact two_off (h4 (by omega)) g
        · simp only [↓at0, ↓set0, ↓at1, ↓set1, ↓at2, ↓set2, ↓at3, ↓set3, ↓at4, ↓set4, ↓at5, ↓set5, ↓at6, ↓set6, ↓at7, ↓set7, ↓at8, ↓set8, ↓at9, ↓set9, ↓at10, ↓set10, ↓at11, ↓set11, ↓at12, ↓set12, ↓at13, ↓set13, ↓at14, ↓set14, ↓at15, ↓set15, ↓fz_d, ↓fz_own, ↓fz_ob, ↓one_d, ↓int_d, ↓bool_d, ↓own_o, ↓ds_nil, ↓ds_cons, ↓seq_l, ↓seq_t, ↓ite_t, ↓ite_f, ↓e_next, ↓e_seq, ↓e_set, ↓e_drop, ↓e_ret, ↓e_ifs, ↓e_brk, ↓e_cnt, ↓e_fixs, ↓e_par, ↓e_par3, ↓e_asg, ↓e_for, ↓e_putAt, ↓e_jput, ↓e_var, ↓e_k, ↓e_fz, ↓e_op, ↓e_opL, ↓e_opR, ↓e_n, ↓e_n1, ↓e_nil, ↓e_cons, ↓e_tup, ↓e_lst, ↓e_b, ↓e_not, ↓e_and, ↓e_or, ↓e_andV, ↓e_orV, ↓e_notV, ↓e_if, ↓e_isi, ↓e_neg, ↓e_chain, ↓e_call, ↓e_callK, ↓e_jint, ↓e_dict0, ↓e_dict1, ↓e_listRng, ↓e_append, ↓e_cut, ↓e_cutO, ↓e_onone, ↓e_osome, ↓e_iseq, ↓e_ienum, ↓e_irng, ↓e_gname, ↓e_lnil, ↓e_lcons, ↓e_lc, ↓e_yes, ↓f_addI, ↓f_addS, ↓f_addT, ↓f_addL, ↓f_i2, ↓f_mulI, ↓f_mulT, ↓f_mulL, ↓f_eq, ↓f_ne, ↓f_is, ↓f_isnot, ↓f_in, ↓f_notin, ↓f_ixL, ↓f_ixT, ↓f_lenL, ↓f_lenT, ↓f_lenS, ↓f_abs, ↓f_intI, ↓f_intB, ↓f_tupL, ↓f_tupT, ↓f_lstL, ↓f_lstT, ↓f_repr, ↓f_cutL, ↓f_cutT, ↓firm_d, ↓firm_ob, ↓zip_l, ↓zip_t, ↓e_izip, ↓zip_cons, ↓zip_nil1, ↓zip_nil2, ↓f_sorted, ↓e_inn, ↓e_inc, ↓e_l2n, ↓e_l2c, ↓e_lc2, ↓e_rev, ↓e_pop, ↓e_popAt, ↓e_extend, ↓e_lc3, ↓e_gon, ↓e_goc, ↓e_dbMid, ↓e_dbIn, ↓f_neu, ↓dgTup_tup, ↓dgCons_cons, ↓dgNil_nil, ite_t, ite_f, itK_not, List.cons_append, List.nil_append, List.append_nil, List.replicate, List.flatten_cons, List.flatten_nil, List.append_eq, List.length_cons, List.length_nil, Nat.zero_add, Nat.reduceAdd, true_and, and_true, eqOk_str, eqOk_int, eqOk_bool, str_eqv, int_eqv, tup_nil_eqv, lst_nil_eqv, rep_flat, isK_int, isK_bool, isK_tuple, isK_str, kInt, kBool, kTuple, kStr, GB.isNon, Bool.not_true, Bool.not_false, Bool.or_false, Bool.or_true, Bool.false_or, Bool.true_or, reduceCtorEq, wipeD, List.set]
          obtain ⟨o, hh⟩ := ens_eq (h1 e he) (h1 g hg)
          refine ⟨o, ?_⟩
          rw [hh]
          exact iteB (fun a => n (by rw [a]; rfl)) fun a => y (by rw [a]; rfl)
      · intro e he
        rcases List.mem_append.mp he with he | he
        · exact w1 e he
        · exact h1 e he
      · rw [List.length_append]; omega
      · obtain ⟨e, he, f, hf, hn⟩ := w3
        exact ⟨e, List.mem_append.mpr (.inl he), f, List.mem_append.mpr (.inl hf), hn⟩
      · obtain ⟨e, he, _⟩ := w3
        intro z
        have : e ∈ es ++ fs := List.mem_append.mpr (.inl he)
        rw [z] at this; cases this
      · rfl
    · simp only [↓at0, ↓set0, ↓at1, ↓set1, ↓at2, ↓set2, ↓at3, ↓set3, ↓at4, ↓set4, ↓at5, ↓set5, ↓at6, ↓set6, ↓at7, ↓set7, ↓at8, ↓set8, ↓at9, ↓set9, ↓at10, ↓set10, ↓at11, ↓set11, ↓at12, ↓set12, ↓at13, ↓set13, ↓at14, ↓set14, ↓at15, ↓set15, ↓fz_d, ↓fz_own, ↓fz_ob, ↓one_d, ↓int_d, ↓bool_d, ↓own_o, ↓ds_nil, ↓ds_cons, ↓seq_l, ↓seq_t, ↓ite_t, ↓ite_f, ↓e_next, ↓e_seq, ↓e_set, ↓e_drop, ↓e_ret, ↓e_ifs, ↓e_brk, ↓e_cnt, ↓e_fixs, ↓e_par, ↓e_par3, ↓e_asg, ↓e_for, ↓e_putAt, ↓e_jput, ↓e_var, ↓e_k, ↓e_fz, ↓e_op, ↓e_opL, ↓e_opR, ↓e_n, ↓e_n1, ↓e_nil, ↓e_cons, ↓e_tup, ↓e_lst, ↓e_b, ↓e_not, ↓e_and, ↓e_or, ↓e_andV, ↓e_orV, ↓e_notV, ↓e_if, ↓e_isi, ↓e_neg, ↓e_chain, ↓e_call, ↓e_callK, ↓e_jint, ↓e_dict0, ↓e_dict1, ↓e_listRng, ↓e_append, ↓e_cut, ↓e_cutO, ↓e_onone, ↓e_osome, ↓e_iseq, ↓e_ienum, ↓e_irng, ↓e_gname, ↓e_lnil, ↓e_lcons, ↓e_lc, ↓e_yes, ↓f_addI, ↓f_addS, ↓f_addT, ↓f_addL, ↓f_i2, ↓f_mulI, ↓f_mulT, ↓f_mulL, ↓f_eq, ↓f_ne, ↓f_is, ↓f_isnot, ↓f_in, ↓f_notin, ↓f_ixL, ↓f_ixT, ↓f_lenL, ↓f_lenT, ↓f_lenS, ↓f_abs, ↓f_intI, ↓f_intB, ↓f_tupL, ↓f_tupT, ↓f_lstL, ↓f_lstT, ↓f_repr, ↓f_cutL, ↓f_cutT, ↓firm_d, ↓firm_ob, ↓zip_l, ↓zip_t, ↓e_izip, ↓zip_cons, ↓zip_nil1, ↓zip_nil2, ↓f_sorted, ↓e_inn, ↓e_inc, ↓e_l2n, ↓e_l2c, ↓e_lc2, ↓e_rev, ↓e_pop, ↓e_popAt, ↓e_extend, ↓e_lc3, ↓e_gon, ↓e_goc, ↓e_dbMid, ↓e_dbIn, ↓f_neu, ↓dgTup_tup, ↓dgCons_cons, ↓dgNil_nil, ite_t, ite_f, itK_not, List.cons_append, List.nil_append, List.append_nil, List.replicate, List.flatten_cons, List.flatten_nil, List.append_eq, List.length_cons, List.length_nil, Nat.zero_add, Nat.reduceAdd, true_and, and_true, eqOk_str, eqOk_int, eqOk_bool, str_eqv, int_eqv, tup_nil_eqv, lst_nil_eqv, rep_flat, isK_int, isK_bool, isK_tuple, isK_str, kInt, kBool, kTuple, kStr, GB.isNon, Bool.not_true, Bool.not_false, Bool.or_false, Bool.or_true, Bool.false_or, Bool.true_or, reduceCtorEq, ↓s_pick, ↓s_draw, wipeD, List.set]
      exact ⟨_, es_in w1 he, iteB (fun _ => n) fun _ => ⟨by decide, by decide, fun r _ _ => iteB (fun _ => y) fun _ => n⟩⟩
end GK

set_option maxRecDepth 20000
namespace GK
open PySem PySem.Spec PyProof.Rows L2 GB
/-! entries put in and taken out -/
theorem s_item {k : S → Prop} {x : PyData} {ps : List Nat} : F_p_item_at [.d x, .d (.tuple (ps.map nD))] k ↔ ∃ y, itemAt x ps = some y ∧ k (.d y) := by
  constructor
  · rintro ⟨x', ps', y, e, h⟩
    simp only [List.cons.injEq, S.d.injEq, PyData.tuple.injEq, and_true] at e
    obtain ⟨rfl, e⟩ := e
    have : ps = ps' := by
      have inj : ∀ {a b : List Nat}, a.map nD = b.map nD → a = b := fun {a} => by
        induction a with
        | nil => intro b h; cases b <;> simp at h; rfl
        | cons u us ih => intro b h; cases b with
          | nil => simp at h
          | cons v vs =>
            simp only [List.map_cons, List.cons.injEq, nD, PyData.int.injEq] at h
            have e1 : u = v := by omega
            have e2 : us = vs := ih h.2
            rw [e1, e2]
      exact inj e
    subst this
    exact ⟨y, h⟩
  · rintro ⟨y, h⟩; exact ⟨_, _, y, rfl, h⟩
theorem ma_p_item_at : ∀ ss R, ss.length = 2 → F_p_item_at ss R → rd_p_item_at { nx := fun _ => R (.d .none), rt := R } (ss ++ List.replicate 2 .un) := by
  rintro _ R - ⟨x, ps, y, rfl, h, q⟩
  unfold rd_p_item_at
  simp only [↓at0, ↓set0, ↓at1, ↓set1, ↓at2, ↓set2, ↓at3, ↓set3, ↓at4, ↓set4, ↓at5, ↓set5, ↓at6, ↓set6, ↓at7, ↓set7, ↓at8, ↓set8, ↓at9, ↓set9, ↓at10, ↓set10, ↓at11, ↓set11, ↓at12, ↓set12, ↓at13, ↓set13, ↓at14, ↓set14, ↓at15, ↓set15, ↓fz_d, ↓fz_own, ↓fz_ob, ↓one_d, ↓int_d, ↓bool_d, ↓own_o, ↓ds_nil, ↓ds_cons, ↓seq_l, ↓seq_t, ↓ite_t, ↓ite_f, ↓e_next, ↓e_seq, ↓e_set, ↓e_drop, ↓e_ret, ↓e_ifs, ↓e_brk, ↓e_cnt, ↓e_fixs, ↓e_par, ↓e_par3, ↓e_asg, ↓e_for, ↓e_putAt, ↓e_jput, ↓e_var, ↓e_k, ↓e_fz, ↓e_op, ↓e_opL, ↓e_opR, ↓e_n, ↓e_n1, ↓e_nil, ↓e_cons, ↓e_tup, ↓e_lst, ↓e_b, ↓e_not, ↓e_and, ↓e_or, ↓e_andV, ↓e_orV, ↓e_notV, ↓e_if, ↓e_isi, ↓e_neg, ↓e_chain, ↓e_call, ↓e_callK, ↓e_jint, ↓e_dict0, ↓e_dict1, ↓e_listRng, ↓e_append, ↓e_cut, ↓e_cutO, ↓e_onone, ↓e_osome, ↓e_iseq, ↓e_ienum, ↓e_irng, ↓e_gname, ↓e_lnil, ↓e_lcons, ↓e_lc, ↓e_yes, ↓f_addI, ↓f_addS, ↓f_addT, ↓f_addL, ↓f_i2, ↓f_mulI, ↓f_mulT, ↓f_mulL, ↓f_eq, ↓f_ne, ↓f_is, ↓f_isnot, ↓f_in, ↓f_notin, ↓f_ixL, ↓f_ixT, ↓f_lenL, ↓f_lenT, ↓f_lenS, ↓f_abs, ↓f_intI, ↓f_intB, ↓f_tupL, ↓f_tupT, ↓f_lstL, ↓f_lstT, ↓f_repr, ↓f_cutL, ↓f_cutT, ↓firm_d, ↓firm_ob, ↓zip_l, ↓zip_t, ↓e_izip, ↓zip_cons, ↓zip_nil1, ↓zip_nil2, ↓f_sorted, ↓e_lcn, ↓e_lcc, ↓e_inn, ↓e_inc, ↓e_l2n, ↓e_l2c, ↓e_lc2, ↓e_rev, ↓e_pop, ↓e_popAt, ↓e_extend, ↓e_lc3, ↓e_gon, ↓e_goc, ↓e_dbMid, ↓e_dbIn, ↓f_neu, ↓dgTup_tup, ↓dgCons_cons, ↓dgNil_nil, ite_t, ite_f, itK_not, List.cons_append, List.nil_append, List.append_nil, List.replicate, List.flatten_cons, List.flatten_nil, List.append_eq, List.length_cons, List.length_nil, Nat.zero_add, Nat.reduceAdd, true_and, and_true, eqOk_str, eqOk_int, eqOk_bool, str_eqv, int_eqv, tup_nil_eqv, lst_nil_eqv, rep_flat, isK_int, isK_bool, isK_tuple, isK_str, kInt, kBool, kTuple, kStr, GB.isNon, Bool.not_true, Bool.not_false, Bool.or_false, Bool.or_true, Bool.false_or, Bool.true_or, reduceCtorEq]
  refine loopI (fun ds ρ => ∃ cur ps' s3, ds = ps'.map nD ∧ itemAt cur ps' = some y ∧ ρ = [S.d x, S.d (.tuple (ps.map nD)), S.d cur, s3]) ?_ ?_ _ _ ⟨x, ps, _, rfl, h, rfl⟩
  · rintro _ ⟨cur, ps', s3, e, h2, rfl⟩
    cases ps' with
    | nil =>
      have h2 : some cur = some y := by rw [← h2]; cases cur <;> rfl
      cases h2
      simp only [↓at0, ↓set0, ↓at1, ↓set1, ↓at2, ↓set2, ↓at3, ↓set3, ↓at4, ↓set4, ↓at5, ↓set5, ↓at6, ↓set6, ↓at7, ↓set7, ↓at8, ↓set8, ↓at9, ↓set9, ↓at10, ↓set10, ↓at11, ↓set11, ↓at12, ↓set12, ↓at13, ↓set13, ↓at14, ↓set14, ↓at15, ↓set15, ↓fz_d, ↓fz_own, ↓fz_ob, ↓one_d, ↓int_d, ↓bool_d, ↓own_o, ↓ds_nil, ↓ds_cons, ↓seq_l, ↓seq_t, ↓ite_t, ↓ite_f, ↓e_next, ↓e_seq, ↓e_set, ↓e_drop, ↓e_ret, ↓e_ifs, ↓e_brk, ↓e_cnt, ↓e_fixs, ↓e_par, ↓e_par3, ↓e_asg, ↓e_for, ↓e_putAt, ↓e_jput, ↓e_var, ↓e_k, ↓e_fz, ↓e_op, ↓e_opL, ↓e_opR, ↓e_n, ↓e_n1, ↓e_nil, ↓e_cons, ↓e_tup, ↓e_lst, ↓e_b, ↓e_not, ↓e_and, ↓e_or, ↓e_andV, ↓e_orV, ↓e_notV, ↓e_if, ↓e_isi, ↓e_neg, ↓e_chain, ↓e_call, ↓e_callK, ↓e_jint, ↓e_dict0, ↓e_dict1, ↓e_listRng, ↓e_append, ↓e_cut, ↓e_cutO, ↓e_onone, ↓e_osome, ↓e_iseq, ↓e_ienum, ↓e_irng, ↓e_gname, ↓e_lnil, ↓e_lcons, ↓e_lc, ↓e_yes, ↓f_addI, ↓f_addS, ↓f_addT, ↓f_addL, ↓f_i2, ↓f_mulI, ↓f_mulT, ↓f_mulL, ↓f_eq, ↓f_ne, ↓f_is, ↓f_isnot, ↓f_in, ↓f_notin, ↓f_ixL, ↓f_ixT, ↓f_lenL, ↓f_lenT, ↓f_lenS, ↓f_abs, ↓f_intI, ↓f_intB, ↓f_tupL, ↓f_tupT, ↓f_lstL, ↓f_lstT, ↓f_repr, ↓f_cutL, ↓f_cutT, ↓firm_d, ↓firm_ob, ↓zip_l, ↓zip_t, ↓e_izip, ↓zip_cons, ↓zip_nil1, ↓zip_nil2, ↓f_sorted, ↓e_lcn, ↓e_lcc, ↓e_inn, ↓e_inc, ↓e_l2n, ↓e_l2c, ↓e_lc2, ↓e_rev, ↓e_pop, ↓e_popAt, ↓e_extend, ↓e_lc3, ↓e_gon, ↓e_goc, ↓e_dbMid, ↓e_dbIn, ↓f_neu, ↓dgTup_tup, ↓dgCons_cons, ↓dgNil_nil, ite_t, ite_f, itK_not, List.cons_append, List.nil_append, List.append_nil, List.replicate, List.flatten_cons, List.flatten_nil, List.append_eq, List.length_cons, List.length_nil, Nat.zero_add, Nat.reduceAdd, true_and, and_true, eqOk_str, eqOk_int, eqOk_bool, str_eqv, int_eqv, tup_nil_eqv, lst_nil_eqv, rep_flat, isK_int, isK_bool, isK_tuple, isK_str, kInt, kBool, kTuple, kStr, GB.isNon, Bool.not_true, Bool.not_false, Bool.or_false, Bool.or_true, Bool.false_or, Bool.true_or, reduceCtorEq]
      exact q
    | cons a b => cases e
  · rintro d ds _ K hK ⟨cur, ps', s3, e, h2, rfl⟩
    cases ps' with
    | nil => cases e
    | cons n ns =>
      cases e
      obtain ⟨xs, v, rfl, e1, e2⟩ := item_cons h2
      unfold nD
      simp only [↓at0, ↓set0, ↓at1, ↓set1, ↓at2, ↓set2, ↓at3, ↓set3, ↓at4, ↓set4, ↓at5, ↓set5, ↓at6, ↓set6, ↓at7, ↓set7, ↓at8, ↓set8, ↓at9, ↓set9, ↓at10, ↓set10, ↓at11, ↓set11, ↓at12, ↓set12, ↓at13, ↓set13, ↓at14, ↓set14, ↓at15, ↓set15, ↓fz_d, ↓fz_own, ↓fz_ob, ↓one_d, ↓int_d, ↓bool_d, ↓own_o, ↓ds_nil, ↓ds_cons, ↓seq_l, ↓seq_t, ↓ite_t, ↓ite_f, ↓e_next, ↓e_seq, ↓e_set, ↓e_drop, ↓e_ret, ↓e_ifs, ↓e_brk, ↓e_cnt, ↓e_fixs, ↓e_par, ↓e_par3, ↓e_asg, ↓e_for, ↓e_putAt, ↓e_jput, ↓e_var, ↓e_k, ↓e_fz, ↓e_op, ↓e_opL, ↓e_opR, ↓e_n, ↓e_n1, ↓e_nil, ↓e_cons, ↓e_tup, ↓e_lst, ↓e_b, ↓e_not, ↓e_and, ↓e_or, ↓e_andV, ↓e_orV, ↓e_notV, ↓e_if, ↓e_isi, ↓e_neg, ↓e_chain, ↓e_call, ↓e_callK, ↓e_jint, ↓e_dict0, ↓e_dict1, ↓e_listRng, ↓e_append, ↓e_cut, ↓e_cutO, ↓e_onone, ↓e_osome, ↓e_iseq, ↓e_ienum, ↓e_irng, ↓e_gname, ↓e_lnil, ↓e_lcons, ↓e_lc, ↓e_yes, ↓f_addI, ↓f_addS, ↓f_addT, ↓f_addL, ↓f_i2, ↓f_mulI, ↓f_mulT, ↓f_mulL, ↓f_eq, ↓f_ne, ↓f_is, ↓f_isnot, ↓f_in, ↓f_notin, ↓f_ixL, ↓f_ixT, ↓f_lenL, ↓f_lenT, ↓f_lenS, ↓f_abs, ↓f_intI, ↓f_intB, ↓f_tupL, ↓f_tupT, ↓f_lstL, ↓f_lstT, ↓f_repr, ↓f_cutL, ↓f_cutT, ↓firm_d, ↓firm_ob, ↓zip_l, ↓zip_t, ↓e_izip, ↓zip_cons, ↓zip_nil1, ↓zip_nil2, ↓f_sorted, ↓e_lcn, ↓e_lcc, ↓e_inn, ↓e_inc, ↓e_l2n, ↓e_l2c, ↓e_lc2, ↓e_rev, ↓e_pop, ↓e_popAt, ↓e_extend, ↓e_lc3, ↓e_gon, ↓e_goc, ↓e_dbMid, ↓e_dbIn, ↓f_neu, ↓dgTup_tup, ↓dgCons_cons, ↓dgNil_nil, ite_t, ite_f, itK_not, List.cons_append, List.nil_append, List.append_nil, List.replicate, List.flatten_cons, List.flatten_nil, List.append_eq, List.length_cons, List.length_nil, Nat.zero_add, Nat.reduceAdd, true_and, and_true, eqOk_str, eqOk_int, eqOk_bool, str_eqv, int_eqv, tup_nil_eqv, lst_nil_eqv, rep_flat, isK_int, isK_bool, isK_tuple, isK_str, kInt, kBool, kTuple, kStr, GB.isNon, Bool.not_true, Bool.not_false, Bool.or_false, Bool.or_true, Bool.false_or, Bool.true_or, reduceCtorEq]
      exact ⟨v, at_n e1, hK _ ⟨_, ns, _, rfl, e2, rfl⟩⟩
theorem lk_p {z : Str} {n : Int} {k : Int → Prop} (h : c_PARTS.lookup z = some n) (q : k n) : ∃ z' n, PyData.str z = .str z' ∧ c_PARTS.lookup z' = some n ∧ k n := ⟨z, n, rfl, h, q⟩
theorem ma_p_places_of : ∀ ss R, ss.length = 1 → F_p_places_of ss R → rd_p_places_of { nx := fun _ => R (.d .none), rt := R } (ss ++ List.replicate 0 .un) := by
  rintro _ R - ⟨e, rfl, q⟩
  unfold rd_p_places_of
  cases e <;> unfold En.d <;> simp only [↓at0, ↓set0, ↓at1, ↓set1, ↓at2, ↓set2, ↓at3, ↓set3, ↓at4, ↓set4, ↓at5, ↓set5, ↓at6, ↓set6, ↓at7, ↓set7, ↓at8, ↓set8, ↓at9, ↓set9, ↓at10, ↓set10, ↓at11, ↓set11, ↓at12, ↓set12, ↓at13, ↓set13, ↓at14, ↓set14, ↓at15, ↓set15, ↓fz_d, ↓fz_own, ↓fz_ob, ↓one_d, ↓int_d, ↓bool_d, ↓own_o, ↓ds_nil, ↓ds_cons, ↓seq_l, ↓seq_t, ↓ite_t, ↓ite_f, ↓e_next, ↓e_seq, ↓e_set, ↓e_drop, ↓e_ret, ↓e_ifs, ↓e_brk, ↓e_cnt, ↓e_fixs, ↓e_par, ↓e_par3, ↓e_asg, ↓e_for, ↓e_putAt, ↓e_jput, ↓e_var, ↓e_k, ↓e_fz, ↓e_op, ↓e_opL, ↓e_opR, ↓e_n, ↓e_n1, ↓e_nil, ↓e_cons, ↓e_tup, ↓e_lst, ↓e_b, ↓e_not, ↓e_and, ↓e_or, ↓e_andV, ↓e_orV, ↓e_notV, ↓e_if, ↓e_isi, ↓e_neg, ↓e_chain, ↓e_call, ↓e_callK, ↓e_jint, ↓e_dict0, ↓e_dict1, ↓e_listRng, ↓e_append, ↓e_cut, ↓e_cutO, ↓e_onone, ↓e_osome, ↓e_iseq, ↓e_ienum, ↓e_irng, ↓e_gname, ↓e_lnil, ↓e_lcons, ↓e_lc, ↓e_yes, ↓f_addI, ↓f_addS, ↓f_addT, ↓f_addL, ↓f_i2, ↓f_mulI, ↓f_mulT, ↓f_mulL, ↓f_eq, ↓f_ne, ↓f_is, ↓f_isnot, ↓f_in, ↓f_notin, ↓f_ixL, ↓f_ixT, ↓f_lenL, ↓f_lenT, ↓f_lenS, ↓f_abs, ↓f_intI, ↓f_intB, ↓f_tupL, ↓f_tupT, ↓f_lstL, ↓f_lstT, ↓f_repr, ↓f_cutL, ↓f_cutT, ↓firm_d, ↓firm_ob, ↓zip_l, ↓zip_t, ↓e_izip, ↓zip_cons, ↓zip_nil1, ↓zip_nil2, ↓f_sorted, ↓e_lcn, ↓e_lcc, ↓e_inn, ↓e_inc, ↓e_l2n, ↓e_l2c, ↓e_lc2, ↓e_rev, ↓e_pop, ↓e_popAt, ↓e_extend, ↓e_lc3, ↓e_gon, ↓e_goc, ↓e_dbMid, ↓e_dbIn, ↓f_neu, ↓dgTup_tup, ↓dgCons_cons, ↓dgNil_nil, ite_t, ite_f, itK_not, List.cons_append, List.nil_append, List.append_nil, List.replicate, List.flatten_cons, List.flatten_nil, List.append_eq, List.length_cons, List.length_nil, Nat.zero_add, Nat.reduceAdd, true_and, and_true, eqOk_str, eqOk_int, eqOk_bool, str_eqv, int_eqv, tup_nil_eqv, lst_nil_eqv, rep_flat, isK_int, isK_bool, isK_tuple, isK_str, kInt, kBool, kTuple, kStr, GB.isNon, Bool.not_true, Bool.not_false, Bool.or_false, Bool.or_true, Bool.false_or, Bool.true_or, reduceCtorEq, dDct, ↓ix0, cut_w, cut_r, cut_m, cut_l]
  all_goals exact ⟨_, _, rfl, by decide +kernel, by decide, by decide, q⟩
theorem s_places {k : S → Prop} {e : En} : F_p_places_of [.d e.d] k ↔ k (.d (.tuple (e.pl.map nD))) := by
  constructor
  · rintro ⟨e', h, q⟩
    simp only [List.cons.injEq, S.d.injEq, and_true] at h
    cases en_inj h; exact q
  · intro q; exact ⟨e, rfl, q⟩
theorem s_has {k : S → Prop} {b : PyData} {e : En} : F_has_entry [.d b, .d e.d] k ↔ ∃ v, hasE b e = some v ∧ k (.d (.bool v)) := by
  constructor
  · rintro ⟨b', e', v, h, q⟩
    simp only [List.cons.injEq, S.d.injEq, and_true] at h
    obtain ⟨rfl, h⟩ := h
    cases en_inj h; exact ⟨v, q⟩
  · rintro ⟨v, q⟩; exact ⟨b, e, v, rfl, q⟩
theorem s_rep {k : S → Prop} {n : Nat} {x it : PyData} {ps : List Nat} : G_replaced (n + 1) [.d x, .d (.tuple (ps.map nD)), .d it] k ↔ ps.length ≤ n ∧ ∃ y, rep x ps it = some y ∧ k (.d y) := by
  constructor
  · rintro ⟨x', ps', it', y, e, h⟩
    simp only [List.cons.injEq, S.d.injEq, PyData.tuple.injEq, and_true] at e
    obtain ⟨rfl, e, rfl⟩ := e
    cases nd_inj e
    exact ⟨h.1, y, h.2⟩
  · rintro ⟨h, y, q⟩; exact ⟨_, _, _, y, rfl, h, q⟩
theorem ma_replaced (n : Nat) : ∀ ss R, ss.length = 3 → G_replaced (n + 1) ss R → rd_replaced n { nx := fun _ => R (.d .none), rt := R } (ss ++ List.replicate 1 .un) := by
  rintro _ R - ⟨x, ps, it, y, rfl, h0, h, q⟩
  unfold rd_replaced
  cases ps with
  | nil =>
    have h : some it = some y := by rw [← h]; cases x <;> rfl
    cases h
    simp only [↓at0, ↓set0, ↓at1, ↓set1, ↓at2, ↓set2, ↓at3, ↓set3, ↓at4, ↓set4, ↓at5, ↓set5, ↓at6, ↓set6, ↓at7, ↓set7, ↓at8, ↓set8, ↓at9, ↓set9, ↓at10, ↓set10, ↓at11, ↓set11, ↓at12, ↓set12, ↓at13, ↓set13, ↓at14, ↓set14, ↓at15, ↓set15, ↓fz_d, ↓fz_own, ↓fz_ob, ↓one_d, ↓int_d, ↓bool_d, ↓own_o, ↓ds_nil, ↓ds_cons, ↓seq_l, ↓seq_t, ↓ite_t, ↓ite_f, ↓e_next, ↓e_seq, ↓e_set, ↓e_drop, ↓e_ret, ↓e_ifs, ↓e_brk, ↓e_cnt, ↓e_fixs, ↓e_par, ↓e_par3, ↓e_asg, ↓e_for, ↓e_putAt, ↓e_jput, ↓e_var, ↓e_k, ↓e_fz, ↓e_op, ↓e_opL, ↓e_opR, ↓e_n, ↓e_n1, ↓e_nil, ↓e_cons, ↓e_tup, ↓e_lst, ↓e_b, ↓e_not, ↓e_and, ↓e_or, ↓e_andV, ↓e_orV, ↓e_notV, ↓e_if, ↓e_isi, ↓e_neg, ↓e_chain, ↓e_call, ↓e_callK, ↓e_jint, ↓e_dict0, ↓e_dict1, ↓e_listRng, ↓e_append, ↓e_cut, ↓e_cutO, ↓e_onone, ↓e_osome, ↓e_iseq, ↓e_ienum, ↓e_irng, ↓e_gname, ↓e_lnil, ↓e_lcons, ↓e_lc, ↓e_yes, ↓f_addI, ↓f_addS, ↓f_addT, ↓f_addL, ↓f_i2, ↓f_mulI, ↓f_mulT, ↓f_mulL, ↓f_eq, ↓f_ne, ↓f_is, ↓f_isnot, ↓f_in, ↓f_notin, ↓f_ixL, ↓f_ixT, ↓f_lenL, ↓f_lenT, ↓f_lenS, ↓f_abs, ↓f_intI, ↓f_intB, ↓f_tupL, ↓f_tupT, ↓f_lstL, ↓f_lstT, ↓f_repr, ↓f_cutL, ↓f_cutT, ↓firm_d, ↓firm_ob, ↓zip_l, ↓zip_t, ↓e_izip, ↓zip_cons, ↓zip_nil1, ↓zip_nil2, ↓f_sorted, ↓e_lcn, ↓e_lcc, ↓e_inn, ↓e_inc, ↓e_l2n, ↓e_l2c, ↓e_lc2, ↓e_rev, ↓e_pop, ↓e_popAt, ↓e_extend, ↓e_lc3, ↓e_gon, ↓e_goc, ↓e_dbMid, ↓e_dbIn, ↓f_neu, ↓dgTup_tup, ↓dgCons_cons, ↓dgNil_nil, ite_t, ite_f, itK_not, List.cons_append, List.nil_append, List.append_nil, List.replicate, List.flatten_cons, List.flatten_nil, List.append_eq, List.length_cons, List.length_nil, Nat.zero_add, Nat.reduceAdd, true_and, and_true, eqOk_str, eqOk_int, eqOk_bool, str_eqv, int_eqv, tup_nil_eqv, lst_nil_eqv, rep_flat, isK_int, isK_bool, isK_tuple, isK_str, kInt, kBool, kTuple, kStr, GB.isNon, Bool.not_true, Bool.not_false, Bool.or_false, Bool.or_true, Bool.false_or, Bool.true_or, reduceCtorEq, dTu, tuE, List.map_nil, List.isEmpty_nil, Bool.not_true, Bool.not_false]
    exact q
  | cons p ns =>
    cases n with
    | zero => simp at h0
    | succ m =>
      obtain ⟨xs, v, z, rfl, e1, e2, hl, rfl⟩ := rep_cons h
      simp only [↓at0, ↓set0, ↓at1, ↓set1, ↓at2, ↓set2, ↓at3, ↓set3, ↓at4, ↓set4, ↓at5, ↓set5, ↓at6, ↓set6, ↓at7, ↓set7, ↓at8, ↓set8, ↓at9, ↓set9, ↓at10, ↓set10, ↓at11, ↓set11, ↓at12, ↓set12, ↓at13, ↓set13, ↓at14, ↓set14, ↓at15, ↓set15, ↓fz_d, ↓fz_own, ↓fz_ob, ↓one_d, ↓int_d, ↓bool_d, ↓own_o, ↓ds_nil, ↓ds_cons, ↓seq_l, ↓seq_t, ↓ite_t, ↓ite_f, ↓e_next, ↓e_seq, ↓e_set, ↓e_drop, ↓e_ret, ↓e_ifs, ↓e_brk, ↓e_cnt, ↓e_fixs, ↓e_par, ↓e_par3, ↓e_asg, ↓e_for, ↓e_putAt, ↓e_jput, ↓e_var, ↓e_k, ↓e_fz, ↓e_op, ↓e_opL, ↓e_opR, ↓e_n, ↓e_n1, ↓e_nil, ↓e_cons, ↓e_tup, ↓e_lst, ↓e_b, ↓e_not, ↓e_and, ↓e_or, ↓e_andV, ↓e_orV, ↓e_notV, ↓e_if, ↓e_isi, ↓e_neg, ↓e_chain, ↓e_call, ↓e_callK, ↓e_jint, ↓e_dict0, ↓e_dict1, ↓e_listRng, ↓e_append, ↓e_cut, ↓e_cutO, ↓e_onone, ↓e_osome, ↓e_iseq, ↓e_ienum, ↓e_irng, ↓e_gname, ↓e_lnil, ↓e_lcons, ↓e_lc, ↓e_yes, ↓f_addI, ↓f_addS, ↓f_addT, ↓f_addL, ↓f_i2, ↓f_mulI, ↓f_mulT, ↓f_mulL, ↓f_eq, ↓f_ne, ↓f_is, ↓f_isnot, ↓f_in, ↓f_notin, ↓f_ixL, ↓f_ixT, ↓f_lenL, ↓f_lenT, ↓f_lenS, ↓f_abs, ↓f_intI, ↓f_intB, ↓f_tupL, ↓f_tupT, ↓f_lstL, ↓f_lstT, ↓f_repr, ↓f_cutL, ↓f_cutT, ↓firm_d, ↓firm_ob, ↓zip_l, ↓zip_t, ↓e_izip, ↓zip_cons, ↓zip_nil1, ↓zip_nil2, ↓f_sorted, ↓e_lcn, ↓e_lcc, ↓e_inn, ↓e_inc, ↓e_l2n, ↓e_l2c, ↓e_lc2, ↓e_rev, ↓e_pop, ↓e_popAt, ↓e_extend, ↓e_lc3, ↓e_gon, ↓e_goc, ↓e_dbMid, ↓e_dbIn, ↓f_neu, ↓dgTup_tup, ↓dgCons_cons, ↓dgNil_nil, ite_t, ite_f, itK_not, List.cons_append, List.nil_append, List.append_nil, List.replicate, List.flatten_cons, List.flatten_nil, List.append_eq, List.length_cons, List.length_nil, Nat.zero_add, Nat.reduceAdd, true_and, and_true, eqOk_str, eqOk_int, eqOk_bool, str_eqv, int_eqv, tup_nil_eqv, lst_nil_eqv, rep_flat, isK_int, isK_bool, isK_tuple, isK_str, kInt, kBool, kTuple, kStr, GB.isNon, Bool.not_true, Bool.not_false, Bool.or_false, Bool.or_true, Bool.false_or, Bool.true_or, reduceCtorEq, dTu, tuE, List.map_cons, List.isEmpty_cons, Bool.not_true, Bool.not_false, nD_app, ↓ix0, cut_tail, ↓s_rep]
      have c1 : GB.cutD xs none (some (p : Int)) = xs.take p := cutD_to xs p
      have c2 : GB.cutD xs (some ((p : Int) + 1)) none = xs.drop (p + 1) := cutD_from xs (p + 1)
      have l1 : (xs.take p).length ≤ 1000 := by rw [List.length_take]; omega
      have l2 : (xs.drop (p + 1)).length ≤ 1000 := by rw [List.length_drop]; omega
      rw [c1, c2]
      exact ⟨v, at_n e1, by simpa using h0, z, e2, by decide, line_ge (by omega), line_ge (by rw [List.length_append]; simp only [List.length_cons, List.length_nil]; omega), q⟩
theorem s_repl {k : S → Prop} {x it : PyData} {ps : List Nat} : F_replaced [.d x, .d (.tuple (ps.map nD)), .d it] k ↔ ps.length ≤ 4 ∧ ∃ y, rep x ps it = some y ∧ k (.d y) := s_rep (n := 4)
theorem s_repl2 {k : S → Prop} {x it : PyData} {p q : Nat} : F_replaced [.d x, .d (.tuple [.int p, .int q]), .d it] k ↔ ∃ y, rep x [p, q] it = some y ∧ k (.d y) := by
  have := s_repl (k := k) (x := x) (it := it) (ps := [p, q])
  simpa [nD] using this
theorem s_wmade {k : S → Prop} {b : PyData} {p : Nat} {z : Str} : F_with_made [.d b, .d (.int p), .d (.str z)] k ↔ ∃ y, rep b [2, p] (.str z) = some y ∧ k (.d y) := by
  constructor
  · rintro ⟨b', p', z', y, e, h⟩
    simp only [List.cons.injEq, S.d.injEq, PyData.str.injEq, nD, PyData.int.injEq, and_true] at e
    obtain ⟨rfl, e2, rfl⟩ := e
    have : p = p' := by omega
    subst this
    exact ⟨y, h⟩
  · rintro ⟨y, q⟩; exact ⟨_, p, _, y, rfl, q⟩
theorem pm : List.lookup ("make" : Str) c_PARTS = some 2 := by decide +kernel
theorem ma_with_made : ∀ ss R, ss.length = 3 → F_with_made ss R → rd_with_made { nx := fun _ => R (.d .none), rt := R } (ss ++ List.replicate 0 .un) := by
  rintro _ R - ⟨b, p, z, y, rfl, h, q⟩
  unfold rd_with_made
  simp only [↓at0, ↓set0, ↓at1, ↓set1, ↓at2, ↓set2, ↓at3, ↓set3, ↓at4, ↓set4, ↓at5, ↓set5, ↓at6, ↓set6, ↓at7, ↓set7, ↓at8, ↓set8, ↓at9, ↓set9, ↓at10, ↓set10, ↓at11, ↓set11, ↓at12, ↓set12, ↓at13, ↓set13, ↓at14, ↓set14, ↓at15, ↓set15, ↓fz_d, ↓fz_own, ↓fz_ob, ↓one_d, ↓int_d, ↓bool_d, ↓own_o, ↓ds_nil, ↓ds_cons, ↓seq_l, ↓seq_t, ↓ite_t, ↓ite_f, ↓e_next, ↓e_seq, ↓e_set, ↓e_drop, ↓e_ret, ↓e_ifs, ↓e_brk, ↓e_cnt, ↓e_fixs, ↓e_par, ↓e_par3, ↓e_asg, ↓e_for, ↓e_putAt, ↓e_jput, ↓e_var, ↓e_k, ↓e_fz, ↓e_op, ↓e_opL, ↓e_opR, ↓e_n, ↓e_n1, ↓e_nil, ↓e_cons, ↓e_tup, ↓e_lst, ↓e_b, ↓e_not, ↓e_and, ↓e_or, ↓e_andV, ↓e_orV, ↓e_notV, ↓e_if, ↓e_isi, ↓e_neg, ↓e_chain, ↓e_call, ↓e_callK, ↓e_jint, ↓e_dict0, ↓e_dict1, ↓e_listRng, ↓e_append, ↓e_cut, ↓e_cutO, ↓e_onone, ↓e_osome, ↓e_iseq, ↓e_ienum, ↓e_irng, ↓e_gname, ↓e_lnil, ↓e_lcons, ↓e_lc, ↓e_yes, ↓f_addI, ↓f_addS, ↓f_addT, ↓f_addL, ↓f_i2, ↓f_mulI, ↓f_mulT, ↓f_mulL, ↓f_eq, ↓f_ne, ↓f_is, ↓f_isnot, ↓f_in, ↓f_notin, ↓f_ixL, ↓f_ixT, ↓f_lenL, ↓f_lenT, ↓f_lenS, ↓f_abs, ↓f_intI, ↓f_intB, ↓f_tupL, ↓f_tupT, ↓f_lstL, ↓f_lstT, ↓f_repr, ↓f_cutL, ↓f_cutT, ↓firm_d, ↓firm_ob, ↓zip_l, ↓zip_t, ↓e_izip, ↓zip_cons, ↓zip_nil1, ↓zip_nil2, ↓f_sorted, ↓e_lcn, ↓e_lcc, ↓e_inn, ↓e_inc, ↓e_l2n, ↓e_l2c, ↓e_lc2, ↓e_rev, ↓e_pop, ↓e_popAt, ↓e_extend, ↓e_lc3, ↓e_gon, ↓e_goc, ↓e_dbMid, ↓e_dbIn, ↓f_neu, ↓dgTup_tup, ↓dgCons_cons, ↓dgNil_nil, ite_t, ite_f, itK_not, List.cons_append, List.nil_append, List.append_nil, List.replicate, List.flatten_cons, List.flatten_nil, List.append_eq, List.length_cons, List.length_nil, Nat.zero_add, Nat.reduceAdd, true_and, and_true, eqOk_str, eqOk_int, eqOk_bool, str_eqv, int_eqv, tup_nil_eqv, lst_nil_eqv, rep_flat, isK_int, isK_bool, isK_tuple, isK_str, kInt, kBool, kTuple, kStr, GB.isNon, Bool.not_true, Bool.not_false, Bool.or_false, Bool.or_true, Bool.false_or, Bool.true_or, reduceCtorEq, dDct, dcE, nD_app]
  exact ⟨2, pm, by decide, (s_repl2 (p := 2) (q := p)).mpr ⟨y, h, q⟩⟩
theorem s_went {k : S → Prop} {b : PyData} {e : En} : F_with_entry [.d b, .d e.d] k ↔ ∃ y, WE b e y ∧ k (.d y) := by
  constructor
  · rintro ⟨b', e', y, h, q⟩
    simp only [List.cons.injEq, S.d.injEq, and_true] at h
    obtain ⟨rfl, h⟩ := h
    cases en_inj h; exact ⟨y, q⟩
  · rintro ⟨y, q⟩; exact ⟨b, e, y, rfl, q⟩
theorem s_wentw {k : S → Prop} {b : PyData} {p c : Nat} {w : Str} : F_with_entry [.d b, .d (.tuple [.str "write", .int p, .int c, .str w])] k ↔ ∃ y, WE b (.write p c w) y ∧ k (.d y) := s_went (e := .write p c w)
theorem s_wout {k : S → Prop} {b : PyData} {e : En} : F_without [.d b, .d e.d] k ↔ ∃ y, WO b e y ∧ k (.d y) := by
  constructor
  · rintro ⟨b', e', y, h, q⟩
    simp only [List.cons.injEq, S.d.injEq, and_true] at h
    obtain ⟨rfl, h⟩ := h
    cases en_inj h; exact ⟨y, q⟩
  · rintro ⟨y, q⟩; exact ⟨b, e, y, rfl, q⟩
theorem ma_without : ∀ ss R, ss.length = 2 → F_without ss R → rd_without { nx := fun _ => R (.d .none), rt := R } (ss ++ List.replicate 2 .un) := by
  rintro _ R - ⟨b, e, y, rfl, h, q⟩
  unfold rd_without
  cases e with
  | write p c w =>
    obtain ⟨ss, h3, h4, h7, h8⟩ := h
    simp only [↓at0, ↓set0, ↓at1, ↓set1, ↓at2, ↓set2, ↓at3, ↓set3, ↓at4, ↓set4, ↓at5, ↓set5, ↓at6, ↓set6, ↓at7, ↓set7, ↓at8, ↓set8, ↓at9, ↓set9, ↓at10, ↓set10, ↓at11, ↓set11, ↓at12, ↓set12, ↓at13, ↓set13, ↓at14, ↓set14, ↓at15, ↓set15, ↓fz_d, ↓fz_own, ↓fz_ob, ↓one_d, ↓int_d, ↓bool_d, ↓own_o, ↓ds_nil, ↓ds_cons, ↓seq_l, ↓seq_t, ↓ite_t, ↓ite_f, ↓e_next, ↓e_seq, ↓e_set, ↓e_drop, ↓e_ret, ↓e_ifs, ↓e_brk, ↓e_cnt, ↓e_fixs, ↓e_par, ↓e_par3, ↓e_asg, ↓e_for, ↓e_putAt, ↓e_jput, ↓e_var, ↓e_k, ↓e_fz, ↓e_op, ↓e_opL, ↓e_opR, ↓e_n, ↓e_n1, ↓e_nil, ↓e_cons, ↓e_tup, ↓e_lst, ↓e_b, ↓e_not, ↓e_and, ↓e_or, ↓e_andV, ↓e_orV, ↓e_notV, ↓e_if, ↓e_isi, ↓e_neg, ↓e_chain, ↓e_call, ↓e_callK, ↓e_jint, ↓e_dict0, ↓e_dict1, ↓e_listRng, ↓e_append, ↓e_cut, ↓e_cutO, ↓e_onone, ↓e_osome, ↓e_iseq, ↓e_ienum, ↓e_irng, ↓e_gname, ↓e_lnil, ↓e_lcons, ↓e_lc, ↓e_yes, ↓f_addI, ↓f_addS, ↓f_addT, ↓f_addL, ↓f_i2, ↓f_mulI, ↓f_mulT, ↓f_mulL, ↓f_eq, ↓f_ne, ↓f_is, ↓f_isnot, ↓f_in, ↓f_notin, ↓f_ixL, ↓f_ixT, ↓f_lenL, ↓f_lenT, ↓f_lenS, ↓f_abs, ↓f_intI, ↓f_intB, ↓f_tupL, ↓f_tupT, ↓f_lstL, ↓f_lstT, ↓f_repr, ↓f_cutL, ↓f_cutT, ↓firm_d, ↓firm_ob, ↓zip_l, ↓zip_t, ↓e_izip, ↓zip_cons, ↓zip_nil1, ↓zip_nil2, ↓f_sorted, ↓e_inn, ↓e_inc, ↓e_l2n, ↓e_l2c, ↓e_lc2, ↓e_rev, ↓e_pop, ↓e_popAt, ↓e_extend, ↓e_lc3, ↓e_gon, ↓e_goc, ↓e_dbMid, ↓e_dbIn, ↓f_neu, ↓dgTup_tup, ↓dgCons_cons, ↓dgNil_nil, ite_t, ite_f, itK_not, List.cons_append, List.nil_append, List.append_nil, List.replicate, List.flatten_cons, List.flatten_nil, List.append_eq, List.length_cons, List.length_nil, Nat.zero_add, Nat.reduceAdd, true_and, and_true, eqOk_str, eqOk_int, eqOk_bool, str_eqv, int_eqv, tup_nil_eqv, lst_nil_eqv, rep_flat, isK_int, isK_bool, isK_tuple, isK_str, kInt, kBool, kTuple, kStr, GB.isNon, Bool.not_true, Bool.not_false, Bool.or_false, Bool.or_true, Bool.false_or, Bool.true_or, reduceCtorEq, ↓s_places, ↓s_item, ↓s_repl]
    unfold En.d
    simp only [↓at0, ↓set0, ↓at1, ↓set1, ↓at2, ↓set2, ↓at3, ↓set3, ↓at4, ↓set4, ↓at5, ↓set5, ↓at6, ↓set6, ↓at7, ↓set7, ↓at8, ↓set8, ↓at9, ↓set9, ↓at10, ↓set10, ↓at11, ↓set11, ↓at12, ↓set12, ↓at13, ↓set13, ↓at14, ↓set14, ↓at15, ↓set15, ↓fz_d, ↓fz_own, ↓fz_ob, ↓one_d, ↓int_d, ↓bool_d, ↓own_o, ↓ds_nil, ↓ds_cons, ↓seq_l, ↓seq_t, ↓ite_t, ↓ite_f, ↓e_next, ↓e_seq, ↓e_set, ↓e_drop, ↓e_ret, ↓e_ifs, ↓e_brk, ↓e_cnt, ↓e_fixs, ↓e_par, ↓e_par3, ↓e_asg, ↓e_for, ↓e_putAt, ↓e_jput, ↓e_var, ↓e_k, ↓e_fz, ↓e_op, ↓e_opL, ↓e_opR, ↓e_n, ↓e_n1, ↓e_nil, ↓e_cons, ↓e_tup, ↓e_lst, ↓e_b, ↓e_not, ↓e_and, ↓e_or, ↓e_andV, ↓e_orV, ↓e_notV, ↓e_if, ↓e_isi, ↓e_neg, ↓e_chain, ↓e_call, ↓e_callK, ↓e_jint, ↓e_dict0, ↓e_dict1, ↓e_listRng, ↓e_append, ↓e_cut, ↓e_cutO, ↓e_onone, ↓e_osome, ↓e_iseq, ↓e_ienum, ↓e_irng, ↓e_gname, ↓e_lnil, ↓e_lcons, ↓e_lc, ↓e_yes, ↓f_addI, ↓f_addS, ↓f_addT, ↓f_addL, ↓f_i2, ↓f_mulI, ↓f_mulT, ↓f_mulL, ↓f_eq, ↓f_ne, ↓f_is, ↓f_isnot, ↓f_in, ↓f_notin, ↓f_ixL, ↓f_ixT, ↓f_lenL, ↓f_lenT, ↓f_lenS, ↓f_abs, ↓f_intI, ↓f_intB, ↓f_tupL, ↓f_tupT, ↓f_lstL, ↓f_lstT, ↓f_repr, ↓f_cutL, ↓f_cutT, ↓firm_d, ↓firm_ob, ↓zip_l, ↓zip_t, ↓e_izip, ↓zip_cons, ↓zip_nil1, ↓zip_nil2, ↓f_sorted, ↓e_inn, ↓e_inc, ↓e_l2n, ↓e_l2c, ↓e_lc2, ↓e_rev, ↓e_pop, ↓e_popAt, ↓e_extend, ↓e_lc3, ↓e_gon, ↓e_goc, ↓e_dbMid, ↓e_dbIn, ↓f_neu, ↓dgTup_tup, ↓dgCons_cons, ↓dgNil_nil, ite_t, ite_f, itK_not, List.cons_append, List.nil_append, List.append_nil, List.replicate, List.flatten_cons, List.flatten_nil, List.append_eq, List.length_cons, List.length_nil, Nat.zero_add, Nat.reduceAdd, true_and, and_true, eqOk_str, eqOk_int, eqOk_bool, str_eqv, int_eqv, tup_nil_eqv, lst_nil_eqv, rep_flat, isK_int, isK_bool, isK_tuple, isK_str, kInt, kBool, kTuple, kStr, GB.isNon, Bool.not_true, Bool.not_false, Bool.or_false, Bool.or_true, Bool.false_or, Bool.true_or, reduceCtorEq, ↓ix0, ↓ix3, ev1]
    refine ⟨.tuple (ss.map .str), h3, ?_⟩
    simp only [↓at0, ↓set0, ↓at1, ↓set1, ↓at2, ↓set2, ↓at3, ↓set3, ↓at4, ↓set4, ↓at5, ↓set5, ↓at6, ↓set6, ↓at7, ↓set7, ↓at8, ↓set8, ↓at9, ↓set9, ↓at10, ↓set10, ↓at11, ↓set11, ↓at12, ↓set12, ↓at13, ↓set13, ↓at14, ↓set14, ↓at15, ↓set15, ↓fz_d, ↓fz_own, ↓fz_ob, ↓one_d, ↓int_d, ↓bool_d, ↓own_o, ↓ds_nil, ↓ds_cons, ↓seq_l, ↓seq_t, ↓ite_t, ↓ite_f, ↓e_next, ↓e_seq, ↓e_set, ↓e_drop, ↓e_ret, ↓e_ifs, ↓e_brk, ↓e_cnt, ↓e_fixs, ↓e_par, ↓e_par3, ↓e_asg, ↓e_for, ↓e_putAt, ↓e_jput, ↓e_var, ↓e_k, ↓e_fz, ↓e_op, ↓e_opL, ↓e_opR, ↓e_n, ↓e_n1, ↓e_nil, ↓e_cons, ↓e_tup, ↓e_lst, ↓e_b, ↓e_not, ↓e_and, ↓e_or, ↓e_andV, ↓e_orV, ↓e_notV, ↓e_if, ↓e_isi, ↓e_neg, ↓e_chain, ↓e_call, ↓e_callK, ↓e_jint, ↓e_dict0, ↓e_dict1, ↓e_listRng, ↓e_append, ↓e_cut, ↓e_cutO, ↓e_onone, ↓e_osome, ↓e_iseq, ↓e_ienum, ↓e_irng, ↓e_gname, ↓e_lnil, ↓e_lcons, ↓e_lc, ↓e_yes, ↓f_addI, ↓f_addS, ↓f_addT, ↓f_addL, ↓f_i2, ↓f_mulI, ↓f_mulT, ↓f_mulL, ↓f_eq, ↓f_ne, ↓f_is, ↓f_isnot, ↓f_in, ↓f_notin, ↓f_ixL, ↓f_ixT, ↓f_lenL, ↓f_lenT, ↓f_lenS, ↓f_abs, ↓f_intI, ↓f_intB, ↓f_tupL, ↓f_tupT, ↓f_lstL, ↓f_lstT, ↓f_repr, ↓f_cutL, ↓f_cutT, ↓firm_d, ↓firm_ob, ↓zip_l, ↓zip_t, ↓e_izip, ↓zip_cons, ↓zip_nil1, ↓zip_nil2, ↓f_sorted, ↓e_inn, ↓e_inc, ↓e_l2n, ↓e_l2c, ↓e_lc2, ↓e_rev, ↓e_pop, ↓e_popAt, ↓e_extend, ↓e_lc3, ↓e_gon, ↓e_goc, ↓e_dbMid, ↓e_dbIn, ↓f_neu, ↓dgTup_tup, ↓dgCons_cons, ↓dgNil_nil, ite_t, ite_f, itK_not, List.cons_append, List.nil_append, List.append_nil, List.replicate, List.flatten_cons, List.flatten_nil, List.append_eq, List.length_cons, List.length_nil, Nat.zero_add, Nat.reduceAdd, true_and, and_true, eqOk_str, eqOk_int, eqOk_bool, str_eqv, int_eqv, tup_nil_eqv, lst_nil_eqv, rep_flat, isK_int, isK_bool, isK_tuple, isK_str, kInt, kBool, kTuple, kStr, GB.isNon, Bool.not_true, Bool.not_false, Bool.or_false, Bool.or_true, Bool.false_or, Bool.true_or, reduceCtorEq, ↓ix0, ↓ix3, wipeD, List.set]
    refine ⟨line_ge (by rw [List.length_map]; omega), ?_⟩
    refine lcI (fun ds acc => ∃ zs : List Str, ds = zs.map .str ∧ (∀ z ∈ zs, eqOk (.str z) (.str w) = true) ∧ acc ++ (zs.filter fun x => !PyData.eqv (.str x) (.str w)).map .str = (ss.filter fun x => !PyData.eqv (.str x) (.str w)).map .str) ?_ ?_ _ [] ⟨ss, rfl, h8, rfl⟩
    · rintro acc ⟨zs, e, _, h5⟩
      cases zs with
      | nil =>
        have h5 : acc = (ss.filter fun x => !PyData.eqv (.str x) (.str w)).map .str := by rw [← h5]; simp
        subst h5
        exact ⟨(show 3 ≤ 4 from by decide), y, h7, q⟩
      | cons a r => cases e
    · rintro d ds acc K hK ⟨zs, e, h9, h5⟩
      cases zs with
      | nil => cases e
      | cons z zs =>
        cases e
        obtain ⟨k1, k2⟩ := strs_step h5
        simp only [↓at0, ↓set0, ↓at1, ↓set1, ↓at2, ↓set2, ↓at3, ↓set3, ↓at4, ↓set4, ↓at5, ↓set5, ↓at6, ↓set6, ↓at7, ↓set7, ↓at8, ↓set8, ↓at9, ↓set9, ↓at10, ↓set10, ↓at11, ↓set11, ↓at12, ↓set12, ↓at13, ↓set13, ↓at14, ↓set14, ↓at15, ↓set15, ↓fz_d, ↓fz_own, ↓fz_ob, ↓one_d, ↓int_d, ↓bool_d, ↓own_o, ↓ds_nil, ↓ds_cons, ↓seq_l, ↓seq_t, ↓ite_t, ↓ite_f, ↓e_next, ↓e_seq, ↓e_set, ↓e_drop, ↓e_ret, ↓e_ifs, ↓e_brk, ↓e_cnt, ↓e_fixs, ↓e_par, ↓e_par3, ↓e_asg, ↓e_for, ↓e_putAt, ↓e_jput, ↓e_var, ↓e_k, ↓e_fz, ↓e_op, ↓e_opL, ↓e_opR, ↓e_n, ↓e_n1, ↓e_nil, ↓e_cons, ↓e_tup, ↓e_lst, ↓e_b, ↓e_not, ↓e_and, ↓e_or, ↓e_andV, ↓e_orV, ↓e_notV, ↓e_if, ↓e_isi, ↓e_neg, ↓e_chain, ↓e_call, ↓e_callK, ↓e_jint, ↓e_dict0, ↓e_dict1, ↓e_listRng, ↓e_append, ↓e_cut, ↓e_cutO, ↓e_onone, ↓e_osome, ↓e_iseq, ↓e_ienum, ↓e_irng, ↓e_gname, ↓e_lnil, ↓e_lcons, ↓e_lc, ↓e_yes, ↓f_addI, ↓f_addS, ↓f_addT, ↓f_addL, ↓f_i2, ↓f_mulI, ↓f_mulT, ↓f_mulL, ↓f_eq, ↓f_ne, ↓f_is, ↓f_isnot, ↓f_in, ↓f_notin, ↓f_ixL, ↓f_ixT, ↓f_lenL, ↓f_lenT, ↓f_lenS, ↓f_abs, ↓f_intI, ↓f_intB, ↓f_tupL, ↓f_tupT, ↓f_lstL, ↓f_lstT, ↓f_repr, ↓f_cutL, ↓f_cutT, ↓firm_d, ↓firm_ob, ↓zip_l, ↓zip_t, ↓e_izip, ↓zip_cons, ↓zip_nil1, ↓zip_nil2, ↓f_sorted, ↓e_inn, ↓e_inc, ↓e_l2n, ↓e_l2c, ↓e_lc2, ↓e_rev, ↓e_pop, ↓e_popAt, ↓e_extend, ↓e_lc3, ↓e_gon, ↓e_goc, ↓e_dbMid, ↓e_dbIn, ↓f_neu, ↓dgTup_tup, ↓dgCons_cons, ↓dgNil_nil, ite_t, ite_f, itK_not, List.cons_append, List.nil_append, List.append_nil, List.replicate, List.flatten_cons, List.flatten_nil, List.append_eq, List.length_cons, List.length_nil, Nat.zero_add, Nat.reduceAdd, true_and, and_true, eqOk_str, eqOk_int, eqOk_bool, str_eqv, int_eqv, tup_nil_eqv, lst_nil_eqv, rep_flat, isK_int, isK_bool, isK_tuple, isK_str, kInt, kBool, kTuple, kStr, GB.isNon, Bool.not_true, Bool.not_false, Bool.or_false, Bool.or_true, Bool.false_or, Bool.true_or, reduceCtorEq, ↓ix0, ↓ix3, wipeD, List.set]
        have nx : ∀ z' ∈ zs, eqOk (.str z') (.str w) = true := fun z' hz => h9 z' (by simp [hz])
        first
          | exact iteB (fun a => hK _ ⟨zs, rfl, nx, k1 a⟩) fun a => hK _ ⟨zs, rfl, nx, k2 a⟩
          | exact ⟨h9 z (by simp), iteB (fun a => hK _ ⟨zs, rfl, nx, k1 a⟩) fun a => hK _ ⟨zs, rfl, nx, k2 a⟩⟩
  | make p =>
    unfold En.d
    simp only [↓at0, ↓set0, ↓at1, ↓set1, ↓at2, ↓set2, ↓at3, ↓set3, ↓at4, ↓set4, ↓at5, ↓set5, ↓at6, ↓set6, ↓at7, ↓set7, ↓at8, ↓set8, ↓at9, ↓set9, ↓at10, ↓set10, ↓at11, ↓set11, ↓at12, ↓set12, ↓at13, ↓set13, ↓at14, ↓set14, ↓at15, ↓set15, ↓fz_d, ↓fz_own, ↓fz_ob, ↓one_d, ↓int_d, ↓bool_d, ↓own_o, ↓ds_nil, ↓ds_cons, ↓seq_l, ↓seq_t, ↓ite_t, ↓ite_f, ↓e_next, ↓e_seq, ↓e_set, ↓e_drop, ↓e_ret, ↓e_ifs, ↓e_brk, ↓e_cnt, ↓e_fixs, ↓e_par, ↓e_par3, ↓e_asg, ↓e_for, ↓e_putAt, ↓e_jput, ↓e_var, ↓e_k, ↓e_fz, ↓e_op, ↓e_opL, ↓e_opR, ↓e_n, ↓e_n1, ↓e_nil, ↓e_cons, ↓e_tup, ↓e_lst, ↓e_b, ↓e_not, ↓e_and, ↓e_or, ↓e_andV, ↓e_orV, ↓e_notV, ↓e_if, ↓e_isi, ↓e_neg, ↓e_chain, ↓e_call, ↓e_callK, ↓e_jint, ↓e_dict0, ↓e_dict1, ↓e_listRng, ↓e_append, ↓e_cut, ↓e_cutO, ↓e_onone, ↓e_osome, ↓e_iseq, ↓e_ienum, ↓e_irng, ↓e_gname, ↓e_lnil, ↓e_lcons, ↓e_lc, ↓e_yes, ↓f_addI, ↓f_addS, ↓f_addT, ↓f_addL, ↓f_i2, ↓f_mulI, ↓f_mulT, ↓f_mulL, ↓f_eq, ↓f_ne, ↓f_is, ↓f_isnot, ↓f_in, ↓f_notin, ↓f_ixL, ↓f_ixT, ↓f_lenL, ↓f_lenT, ↓f_lenS, ↓f_abs, ↓f_intI, ↓f_intB, ↓f_tupL, ↓f_tupT, ↓f_lstL, ↓f_lstT, ↓f_repr, ↓f_cutL, ↓f_cutT, ↓firm_d, ↓firm_ob, ↓zip_l, ↓zip_t, ↓e_izip, ↓zip_cons, ↓zip_nil1, ↓zip_nil2, ↓f_sorted, ↓e_inn, ↓e_inc, ↓e_l2n, ↓e_l2c, ↓e_lc2, ↓e_rev, ↓e_pop, ↓e_popAt, ↓e_extend, ↓e_lc3, ↓e_gon, ↓e_goc, ↓e_dbMid, ↓e_dbIn, ↓f_neu, ↓dgTup_tup, ↓dgCons_cons, ↓dgNil_nil, ite_t, ite_f, itK_not, List.cons_append, List.nil_append, List.append_nil, List.replicate, List.flatten_cons, List.flatten_nil, List.append_eq, List.length_cons, List.length_nil, Nat.zero_add, Nat.reduceAdd, true_and, and_true, eqOk_str, eqOk_int, eqOk_bool, str_eqv, int_eqv, tup_nil_eqv, lst_nil_eqv, rep_flat, isK_int, isK_bool, isK_tuple, isK_str, kInt, kBool, kTuple, kStr, GB.isNon, Bool.not_true, Bool.not_false, Bool.or_false, Bool.or_true, Bool.false_or, Bool.true_or, reduceCtorEq, ↓ix0, ↓ix1, ev2, ev5, ↓s_wmade]
    exact ⟨_, h, q⟩
  | read p c =>
    simp only [↓at0, ↓set0, ↓at1, ↓set1, ↓at2, ↓set2, ↓at3, ↓set3, ↓at4, ↓set4, ↓at5, ↓set5, ↓at6, ↓set6, ↓at7, ↓set7, ↓at8, ↓set8, ↓at9, ↓set9, ↓at10, ↓set10, ↓at11, ↓set11, ↓at12, ↓set12, ↓at13, ↓set13, ↓at14, ↓set14, ↓at15, ↓set15, ↓fz_d, ↓fz_own, ↓fz_ob, ↓one_d, ↓int_d, ↓bool_d, ↓own_o, ↓ds_nil, ↓ds_cons, ↓seq_l, ↓seq_t, ↓ite_t, ↓ite_f, ↓e_next, ↓e_seq, ↓e_set, ↓e_drop, ↓e_ret, ↓e_ifs, ↓e_brk, ↓e_cnt, ↓e_fixs, ↓e_par, ↓e_par3, ↓e_asg, ↓e_for, ↓e_putAt, ↓e_jput, ↓e_var, ↓e_k, ↓e_fz, ↓e_op, ↓e_opL, ↓e_opR, ↓e_n, ↓e_n1, ↓e_nil, ↓e_cons, ↓e_tup, ↓e_lst, ↓e_b, ↓e_not, ↓e_and, ↓e_or, ↓e_andV, ↓e_orV, ↓e_notV, ↓e_if, ↓e_isi, ↓e_neg, ↓e_chain, ↓e_call, ↓e_callK, ↓e_jint, ↓e_dict0, ↓e_dict1, ↓e_listRng, ↓e_append, ↓e_cut, ↓e_cutO, ↓e_onone, ↓e_osome, ↓e_iseq, ↓e_ienum, ↓e_irng, ↓e_gname, ↓e_lnil, ↓e_lcons, ↓e_lc, ↓e_yes, ↓f_addI, ↓f_addS, ↓f_addT, ↓f_addL, ↓f_i2, ↓f_mulI, ↓f_mulT, ↓f_mulL, ↓f_eq, ↓f_ne, ↓f_is, ↓f_isnot, ↓f_in, ↓f_notin, ↓f_ixL, ↓f_ixT, ↓f_lenL, ↓f_lenT, ↓f_lenS, ↓f_abs, ↓f_intI, ↓f_intB, ↓f_tupL, ↓f_tupT, ↓f_lstL, ↓f_lstT, ↓f_repr, ↓f_cutL, ↓f_cutT, ↓firm_d, ↓firm_ob, ↓zip_l, ↓zip_t, ↓e_izip, ↓zip_cons, ↓zip_nil1, ↓zip_nil2, ↓f_sorted, ↓e_inn, ↓e_inc, ↓e_l2n, ↓e_l2c, ↓e_lc2, ↓e_rev, ↓e_pop, ↓e_popAt, ↓e_extend, ↓e_lc3, ↓e_gon, ↓e_goc, ↓e_dbMid, ↓e_dbIn, ↓f_neu, ↓dgTup_tup, ↓dgCons_cons, ↓dgNil_nil, ite_t, ite_f, itK_not, List.cons_append, List.nil_append, List.append_nil, List.replicate, List.flatten_cons, List.flatten_nil, List.append_eq, List.length_cons, List.length_nil, Nat.zero_add, Nat.reduceAdd, true_and, and_true, eqOk_str, eqOk_int, eqOk_bool, str_eqv, int_eqv, tup_nil_eqv, lst_nil_eqv, rep_flat, isK_int, isK_bool, isK_tuple, isK_str, kInt, kBool, kTuple, kStr, GB.isNon, Bool.not_true, Bool.not_false, Bool.or_false, Bool.or_true, Bool.false_or, Bool.true_or, reduceCtorEq, ↓s_places, ↓s_repl]
    unfold En.d
    simp only [↓at0, ↓set0, ↓at1, ↓set1, ↓at2, ↓set2, ↓at3, ↓set3, ↓at4, ↓set4, ↓at5, ↓set5, ↓at6, ↓set6, ↓at7, ↓set7, ↓at8, ↓set8, ↓at9, ↓set9, ↓at10, ↓set10, ↓at11, ↓set11, ↓at12, ↓set12, ↓at13, ↓set13, ↓at14, ↓set14, ↓at15, ↓set15, ↓fz_d, ↓fz_own, ↓fz_ob, ↓one_d, ↓int_d, ↓bool_d, ↓own_o, ↓ds_nil, ↓ds_cons, ↓seq_l, ↓seq_t, ↓ite_t, ↓ite_f, ↓e_next, ↓e_seq, ↓e_set, ↓e_drop, ↓e_ret, ↓e_ifs, ↓e_brk, ↓e_cnt, ↓e_fixs, ↓e_par, ↓e_par3, ↓e_asg, ↓e_for, ↓e_putAt, ↓e_jput, ↓e_var, ↓e_k, ↓e_fz, ↓e_op, ↓e_opL, ↓e_opR, ↓e_n, ↓e_n1, ↓e_nil, ↓e_cons, ↓e_tup, ↓e_lst, ↓e_b, ↓e_not, ↓e_and, ↓e_or, ↓e_andV, ↓e_orV, ↓e_notV, ↓e_if, ↓e_isi, ↓e_neg, ↓e_chain, ↓e_call, ↓e_callK, ↓e_jint, ↓e_dict0, ↓e_dict1, ↓e_listRng, ↓e_append, ↓e_cut, ↓e_cutO, ↓e_onone, ↓e_osome, ↓e_iseq, ↓e_ienum, ↓e_irng, ↓e_gname, ↓e_lnil, ↓e_lcons, ↓e_lc, ↓e_yes, ↓f_addI, ↓f_addS, ↓f_addT, ↓f_addL, ↓f_i2, ↓f_mulI, ↓f_mulT, ↓f_mulL, ↓f_eq, ↓f_ne, ↓f_is, ↓f_isnot, ↓f_in, ↓f_notin, ↓f_ixL, ↓f_ixT, ↓f_lenL, ↓f_lenT, ↓f_lenS, ↓f_abs, ↓f_intI, ↓f_intB, ↓f_tupL, ↓f_tupT, ↓f_lstL, ↓f_lstT, ↓f_repr, ↓f_cutL, ↓f_cutT, ↓firm_d, ↓firm_ob, ↓zip_l, ↓zip_t, ↓e_izip, ↓zip_cons, ↓zip_nil1, ↓zip_nil2, ↓f_sorted, ↓e_inn, ↓e_inc, ↓e_l2n, ↓e_l2c, ↓e_lc2, ↓e_rev, ↓e_pop, ↓e_popAt, ↓e_extend, ↓e_lc3, ↓e_gon, ↓e_goc, ↓e_dbMid, ↓e_dbIn, ↓f_neu, ↓dgTup_tup, ↓dgCons_cons, ↓dgNil_nil, ite_t, ite_f, itK_not, List.cons_append, List.nil_append, List.append_nil, List.replicate, List.flatten_cons, List.flatten_nil, List.append_eq, List.length_cons, List.length_nil, Nat.zero_add, Nat.reduceAdd, true_and, and_true, eqOk_str, eqOk_int, eqOk_bool, str_eqv, int_eqv, tup_nil_eqv, lst_nil_eqv, rep_flat, isK_int, isK_bool, isK_tuple, isK_str, kInt, kBool, kTuple, kStr, GB.isNon, Bool.not_true, Bool.not_false, Bool.or_false, Bool.or_true, Bool.false_or, Bool.true_or, reduceCtorEq, ↓ix0, ↓ix1, ev3, ev6]
    exact ⟨(show 3 ≤ 4 from by decide), _, h, q⟩
  | last =>
    simp only [↓at0, ↓set0, ↓at1, ↓set1, ↓at2, ↓set2, ↓at3, ↓set3, ↓at4, ↓set4, ↓at5, ↓set5, ↓at6, ↓set6, ↓at7, ↓set7, ↓at8, ↓set8, ↓at9, ↓set9, ↓at10, ↓set10, ↓at11, ↓set11, ↓at12, ↓set12, ↓at13, ↓set13, ↓at14, ↓set14, ↓at15, ↓set15, ↓fz_d, ↓fz_own, ↓fz_ob, ↓one_d, ↓int_d, ↓bool_d, ↓own_o, ↓ds_nil, ↓ds_cons, ↓seq_l, ↓seq_t, ↓ite_t, ↓ite_f, ↓e_next, ↓e_seq, ↓e_set, ↓e_drop, ↓e_ret, ↓e_ifs, ↓e_brk, ↓e_cnt, ↓e_fixs, ↓e_par, ↓e_par3, ↓e_asg, ↓e_for, ↓e_putAt, ↓e_jput, ↓e_var, ↓e_k, ↓e_fz, ↓e_op, ↓e_opL, ↓e_opR, ↓e_n, ↓e_n1, ↓e_nil, ↓e_cons, ↓e_tup, ↓e_lst, ↓e_b, ↓e_not, ↓e_and, ↓e_or, ↓e_andV, ↓e_orV, ↓e_notV, ↓e_if, ↓e_isi, ↓e_neg, ↓e_chain, ↓e_call, ↓e_callK, ↓e_jint, ↓e_dict0, ↓e_dict1, ↓e_listRng, ↓e_append, ↓e_cut, ↓e_cutO, ↓e_onone, ↓e_osome, ↓e_iseq, ↓e_ienum, ↓e_irng, ↓e_gname, ↓e_lnil, ↓e_lcons, ↓e_lc, ↓e_yes, ↓f_addI, ↓f_addS, ↓f_addT, ↓f_addL, ↓f_i2, ↓f_mulI, ↓f_mulT, ↓f_mulL, ↓f_eq, ↓f_ne, ↓f_is, ↓f_isnot, ↓f_in, ↓f_notin, ↓f_ixL, ↓f_ixT, ↓f_lenL, ↓f_lenT, ↓f_lenS, ↓f_abs, ↓f_intI, ↓f_intB, ↓f_tupL, ↓f_tupT, ↓f_lstL, ↓f_lstT, ↓f_repr, ↓f_cutL, ↓f_cutT, ↓firm_d, ↓firm_ob, ↓zip_l, ↓zip_t, ↓e_izip, ↓zip_cons, ↓zip_nil1, ↓zip_nil2, ↓f_sorted, ↓e_inn, ↓e_inc, ↓e_l2n, ↓e_l2c, ↓e_lc2, ↓e_rev, ↓e_pop, ↓e_popAt, ↓e_extend, ↓e_lc3, ↓e_gon, ↓e_goc, ↓e_dbMid, ↓e_dbIn, ↓f_neu, ↓dgTup_tup, ↓dgCons_cons, ↓dgNil_nil, ite_t, ite_f, itK_not, List.cons_append, List.nil_append, List.append_nil, List.replicate, List.flatten_cons, List.flatten_nil, List.append_eq, List.length_cons, List.length_nil, Nat.zero_add, Nat.reduceAdd, true_and, and_true, eqOk_str, eqOk_int, eqOk_bool, str_eqv, int_eqv, tup_nil_eqv, lst_nil_eqv, rep_flat, isK_int, isK_bool, isK_tuple, isK_str, kInt, kBool, kTuple, kStr, GB.isNon, Bool.not_true, Bool.not_false, Bool.or_false, Bool.or_true, Bool.false_or, Bool.true_or, reduceCtorEq, ↓s_places, ↓s_repl]
    unfold En.d
    simp only [↓at0, ↓set0, ↓at1, ↓set1, ↓at2, ↓set2, ↓at3, ↓set3, ↓at4, ↓set4, ↓at5, ↓set5, ↓at6, ↓set6, ↓at7, ↓set7, ↓at8, ↓set8, ↓at9, ↓set9, ↓at10, ↓set10, ↓at11, ↓set11, ↓at12, ↓set12, ↓at13, ↓set13, ↓at14, ↓set14, ↓at15, ↓set15, ↓fz_d, ↓fz_own, ↓fz_ob, ↓one_d, ↓int_d, ↓bool_d, ↓own_o, ↓ds_nil, ↓ds_cons, ↓seq_l, ↓seq_t, ↓ite_t, ↓ite_f, ↓e_next, ↓e_seq, ↓e_set, ↓e_drop, ↓e_ret, ↓e_ifs, ↓e_brk, ↓e_cnt, ↓e_fixs, ↓e_par, ↓e_par3, ↓e_asg, ↓e_for, ↓e_putAt, ↓e_jput, ↓e_var, ↓e_k, ↓e_fz, ↓e_op, ↓e_opL, ↓e_opR, ↓e_n, ↓e_n1, ↓e_nil, ↓e_cons, ↓e_tup, ↓e_lst, ↓e_b, ↓e_not, ↓e_and, ↓e_or, ↓e_andV, ↓e_orV, ↓e_notV, ↓e_if, ↓e_isi, ↓e_neg, ↓e_chain, ↓e_call, ↓e_callK, ↓e_jint, ↓e_dict0, ↓e_dict1, ↓e_listRng, ↓e_append, ↓e_cut, ↓e_cutO, ↓e_onone, ↓e_osome, ↓e_iseq, ↓e_ienum, ↓e_irng, ↓e_gname, ↓e_lnil, ↓e_lcons, ↓e_lc, ↓e_yes, ↓f_addI, ↓f_addS, ↓f_addT, ↓f_addL, ↓f_i2, ↓f_mulI, ↓f_mulT, ↓f_mulL, ↓f_eq, ↓f_ne, ↓f_is, ↓f_isnot, ↓f_in, ↓f_notin, ↓f_ixL, ↓f_ixT, ↓f_lenL, ↓f_lenT, ↓f_lenS, ↓f_abs, ↓f_intI, ↓f_intB, ↓f_tupL, ↓f_tupT, ↓f_lstL, ↓f_lstT, ↓f_repr, ↓f_cutL, ↓f_cutT, ↓firm_d, ↓firm_ob, ↓zip_l, ↓zip_t, ↓e_izip, ↓zip_cons, ↓zip_nil1, ↓zip_nil2, ↓f_sorted, ↓e_inn, ↓e_inc, ↓e_l2n, ↓e_l2c, ↓e_lc2, ↓e_rev, ↓e_pop, ↓e_popAt, ↓e_extend, ↓e_lc3, ↓e_gon, ↓e_goc, ↓e_dbMid, ↓e_dbIn, ↓f_neu, ↓dgTup_tup, ↓dgCons_cons, ↓dgNil_nil, ite_t, ite_f, itK_not, List.cons_append, List.nil_append, List.append_nil, List.replicate, List.flatten_cons, List.flatten_nil, List.append_eq, List.length_cons, List.length_nil, Nat.zero_add, Nat.reduceAdd, true_and, and_true, eqOk_str, eqOk_int, eqOk_bool, str_eqv, int_eqv, tup_nil_eqv, lst_nil_eqv, rep_flat, isK_int, isK_bool, isK_tuple, isK_str, kInt, kBool, kTuple, kStr, GB.isNon, Bool.not_true, Bool.not_false, Bool.or_false, Bool.or_true, Bool.false_or, Bool.true_or, reduceCtorEq, ↓ix0, ↓ix1, ev4, ev7]
    exact ⟨by decide, _, h, q⟩
end GK

set_option maxRecDepth 20000
namespace GK
open PySem PySem.Spec PyProof.Rows L2 GB
theorem bd_eq (b : Bo) : b.d = .tuple [.tuple [.tuple [gdD (b.g 0 0), gdD (b.g 0 1), gdD (b.g 0 2)], .tuple [gdD (b.g 1 0), gdD (b.g 1 1), gdD (b.g 1 2)]], .tuple [.tuple [.bool (b.r 0 0), .bool (b.r 0 1), .bool (b.r 0 2)], .tuple [.bool (b.r 1 0), .bool (b.r 1 1), .bool (b.r 1 2)]], .tuple [.str (b.m 0), .str (b.m 1)], .bool b.l, .bool b.p] := rfl
theorem inw_of (f : Str → Bool) {w : Str} (hw : WD3 w) {k : Bool → Prop} (h : k (f w)) : ∃ b, inD (.str w) (gdD f) = some b ∧ k b := ⟨_, gL_has f hw, h⟩
theorem k0 : ((0 : Nat) : Int) = 0 := rfl
theorem k1 : ((1 : Nat) : Int) = 1 := rfl
theorem k2 : ((2 : Nat) : Int) = 2 := rfl
theorem ma_l_is_had : ∀ ss R, ss.length = 2 → F_l_is_had ss R → rd_l_is_had { nx := fun _ => R (.d .none), rt := R } (ss ++ List.replicate 0 .un) := by
  rintro _ R - ⟨b, e, rfl, ok, he, q⟩
  unfold rd_l_is_had
  rcases ens_or he with rfl | ⟨p, hp, rfl⟩ | ⟨p, c, hp, hc, rfl⟩ | ⟨p, c, w, hp, hc, hw, rfl⟩
  · rw [bd_eq]; unfold En.d
    simp only [↓at0, ↓set0, ↓at1, ↓set1, ↓at2, ↓set2, ↓at3, ↓set3, ↓at4, ↓set4, ↓at5, ↓set5, ↓at6, ↓set6, ↓at7, ↓set7, ↓at8, ↓set8, ↓at9, ↓set9, ↓at10, ↓set10, ↓at11, ↓set11, ↓at12, ↓set12, ↓at13, ↓set13, ↓at14, ↓set14, ↓at15, ↓set15, ↓fz_d, ↓fz_own, ↓fz_ob, ↓one_d, ↓int_d, ↓bool_d, ↓own_o, ↓ds_nil, ↓ds_cons, ↓seq_l, ↓seq_t, ↓ite_t, ↓ite_f, ↓e_next, ↓e_seq, ↓e_set, ↓e_drop, ↓e_ret, ↓e_ifs, ↓e_brk, ↓e_cnt, ↓e_fixs, ↓e_par, ↓e_par3, ↓e_asg, ↓e_for, ↓e_putAt, ↓e_jput, ↓e_var, ↓e_k, ↓e_fz, ↓e_op, ↓e_opL, ↓e_opR, ↓e_n, ↓e_n1, ↓e_nil, ↓e_cons, ↓e_tup, ↓e_lst, ↓e_b, ↓e_not, ↓e_and, ↓e_or, ↓e_andV, ↓e_orV, ↓e_notV, ↓e_if, ↓e_isi, ↓e_neg, ↓e_chain, ↓e_call, ↓e_callK, ↓e_jint, ↓e_dict0, ↓e_dict1, ↓e_listRng, ↓e_append, ↓e_cut, ↓e_cutO, ↓e_onone, ↓e_osome, ↓e_iseq, ↓e_ienum, ↓e_irng, ↓e_gname, ↓e_lnil, ↓e_lcons, ↓e_lc, ↓e_yes, ↓f_addI, ↓f_addS, ↓f_addT, ↓f_addL, ↓f_i2, ↓f_mulI, ↓f_mulT, ↓f_mulL, ↓f_eq, ↓f_ne, ↓f_is, ↓f_isnot, ↓f_in, ↓f_notin, ↓f_ixL, ↓f_ixT, ↓f_lenL, ↓f_lenT, ↓f_lenS, ↓f_abs, ↓f_intI, ↓f_intB, ↓f_tupL, ↓f_tupT, ↓f_lstL, ↓f_lstT, ↓f_repr, ↓f_cutL, ↓f_cutT, ↓firm_d, ↓firm_ob, ↓zip_l, ↓zip_t, ↓e_izip, ↓zip_cons, ↓zip_nil1, ↓zip_nil2, ↓f_sorted, ↓e_inn, ↓e_inc, ↓e_l2n, ↓e_l2c, ↓e_lc2, ↓e_rev, ↓e_pop, ↓e_popAt, ↓e_extend, ↓e_lc3, ↓e_gon, ↓e_goc, ↓e_dbMid, ↓e_dbIn, ↓f_neu, ↓dgTup_tup, ↓dgCons_cons, ↓dgNil_nil, ite_t, ite_f, itK_not, List.cons_append, List.nil_append, List.append_nil, List.replicate, List.flatten_cons, List.flatten_nil, List.append_eq, List.length_cons, List.length_nil, Nat.zero_add, Nat.reduceAdd, true_and, and_true, eqOk_str, eqOk_int, eqOk_bool, str_eqv, int_eqv, tup_nil_eqv, lst_nil_eqv, rep_flat, isK_int, isK_bool, isK_tuple, isK_str, kInt, kBool, kTuple, kStr, GB.isNon, Bool.not_true, Bool.not_false, Bool.or_false, Bool.or_true, Bool.false_or, Bool.true_or, reduceCtorEq, ↓ix0, ↓ix1, ↓ix2, ↓ix3, ↓ix4, ev11]
    exact q
  · rw [bd_eq]; unfold En.d
    rcases two p hp with rfl | rfl
    · simp only [↓at0, ↓set0, ↓at1, ↓set1, ↓at2, ↓set2, ↓at3, ↓set3, ↓at4, ↓set4, ↓at5, ↓set5, ↓at6, ↓set6, ↓at7, ↓set7, ↓at8, ↓set8, ↓at9, ↓set9, ↓at10, ↓set10, ↓at11, ↓set11, ↓at12, ↓set12, ↓at13, ↓set13, ↓at14, ↓set14, ↓at15, ↓set15, ↓fz_d, ↓fz_own, ↓fz_ob, ↓one_d, ↓int_d, ↓bool_d, ↓own_o, ↓ds_nil, ↓ds_cons, ↓seq_l, ↓seq_t, ↓ite_t, ↓ite_f, ↓e_next, ↓e_seq, ↓e_set, ↓e_drop, ↓e_ret, ↓e_ifs, ↓e_brk, ↓e_cnt, ↓e_fixs, ↓e_par, ↓e_par3, ↓e_asg, ↓e_for, ↓e_putAt, ↓e_jput, ↓e_var, ↓e_k, ↓e_fz, ↓e_op, ↓e_opL, ↓e_opR, ↓e_n, ↓e_n1, ↓e_nil, ↓e_cons, ↓e_tup, ↓e_lst, ↓e_b, ↓e_not, ↓e_and, ↓e_or, ↓e_andV, ↓e_orV, ↓e_notV, ↓e_if, ↓e_isi, ↓e_neg, ↓e_chain, ↓e_call, ↓e_callK, ↓e_jint, ↓e_dict0, ↓e_dict1, ↓e_listRng, ↓e_append, ↓e_cut, ↓e_cutO, ↓e_onone, ↓e_osome, ↓e_iseq, ↓e_ienum, ↓e_irng, ↓e_gname, ↓e_lnil, ↓e_lcons, ↓e_lc, ↓e_yes, ↓f_addI, ↓f_addS, ↓f_addT, ↓f_addL, ↓f_i2, ↓f_mulI, ↓f_mulT, ↓f_mulL, ↓f_eq, ↓f_ne, ↓f_is, ↓f_isnot, ↓f_in, ↓f_notin, ↓f_ixL, ↓f_ixT, ↓f_lenL, ↓f_lenT, ↓f_lenS, ↓f_abs, ↓f_intI, ↓f_intB, ↓f_tupL, ↓f_tupT, ↓f_lstL, ↓f_lstT, ↓f_repr, ↓f_cutL, ↓f_cutT, ↓firm_d, ↓firm_ob, ↓zip_l, ↓zip_t, ↓e_izip, ↓zip_cons, ↓zip_nil1, ↓zip_nil2, ↓f_sorted, ↓e_inn, ↓e_inc, ↓e_l2n, ↓e_l2c, ↓e_lc2, ↓e_rev, ↓e_pop, ↓e_popAt, ↓e_extend, ↓e_lc3, ↓e_gon, ↓e_goc, ↓e_dbMid, ↓e_dbIn, ↓f_neu, ↓dgTup_tup, ↓dgCons_cons, ↓dgNil_nil, ite_t, ite_f, itK_not, List.cons_append, List.nil_append, List.append_nil, List.replicate, List.flatten_cons, List.flatten_nil, List.append_eq, List.length_cons, List.length_nil, Nat.zero_add, Nat.reduceAdd, true_and, and_true, eqOk_str, eqOk_int, eqOk_bool, str_eqv, int_eqv, tup_nil_eqv, lst_nil_eqv, rep_flat, isK_int, isK_bool, isK_tuple, isK_str, kInt, kBool, kTuple, kStr, GB.isNon, Bool.not_true, Bool.not_false, Bool.or_false, Bool.or_true, Bool.false_or, Bool.true_or, reduceCtorEq, ↓ix0, ↓ix1, ↓ix2, ↓ix3, ↓ix4, ev12, ev5, k0, k1]
      rw [m_has]; exact q
    · simp only [↓at0, ↓set0, ↓at1, ↓set1, ↓at2, ↓set2, ↓at3, ↓set3, ↓at4, ↓set4, ↓at5, ↓set5, ↓at6, ↓set6, ↓at7, ↓set7, ↓at8, ↓set8, ↓at9, ↓set9, ↓at10, ↓set10, ↓at11, ↓set11, ↓at12, ↓set12, ↓at13, ↓set13, ↓at14, ↓set14, ↓at15, ↓set15, ↓fz_d, ↓fz_own, ↓fz_ob, ↓one_d, ↓int_d, ↓bool_d, ↓own_o, ↓ds_nil, ↓ds_cons, ↓seq_l, ↓seq_t, ↓ite_t, ↓ite_f, ↓e_next, ↓e_seq, ↓e_set, ↓e_drop, ↓e_ret, ↓e_ifs, ↓e_brk, ↓e_cnt, ↓e_fixs, ↓e_par, ↓e_par3, ↓e_asg, ↓e_for, ↓e_putAt, ↓e_jput, ↓e_var, ↓e_k, ↓e_fz, ↓e_op, ↓e_opL, ↓e_opR, ↓e_n, ↓e_n1, ↓e_nil, ↓e_cons, ↓e_tup, ↓e_lst, ↓e_b, ↓e_not, ↓e_and, ↓e_or, ↓e_andV, ↓e_orV, ↓e_notV, ↓e_if, ↓e_isi, ↓e_neg, ↓e_chain, ↓e_call, ↓e_callK, ↓e_jint, ↓e_dict0, ↓e_dict1, ↓e_listRng, ↓e_append, ↓e_cut, ↓e_cutO, ↓e_onone, ↓e_osome, ↓e_iseq, ↓e_ienum, ↓e_irng, ↓e_gname, ↓e_lnil, ↓e_lcons, ↓e_lc, ↓e_yes, ↓f_addI, ↓f_addS, ↓f_addT, ↓f_addL, ↓f_i2, ↓f_mulI, ↓f_mulT, ↓f_mulL, ↓f_eq, ↓f_ne, ↓f_is, ↓f_isnot, ↓f_in, ↓f_notin, ↓f_ixL, ↓f_ixT, ↓f_lenL, ↓f_lenT, ↓f_lenS, ↓f_abs, ↓f_intI, ↓f_intB, ↓f_tupL, ↓f_tupT, ↓f_lstL, ↓f_lstT, ↓f_repr, ↓f_cutL, ↓f_cutT, ↓firm_d, ↓firm_ob, ↓zip_l, ↓zip_t, ↓e_izip, ↓zip_cons, ↓zip_nil1, ↓zip_nil2, ↓f_sorted, ↓e_inn, ↓e_inc, ↓e_l2n, ↓e_l2c, ↓e_lc2, ↓e_rev, ↓e_pop, ↓e_popAt, ↓e_extend, ↓e_lc3, ↓e_gon, ↓e_goc, ↓e_dbMid, ↓e_dbIn, ↓f_neu, ↓dgTup_tup, ↓dgCons_cons, ↓dgNil_nil, ite_t, ite_f, itK_not, List.cons_append, List.nil_append, List.append_nil, List.replicate, List.flatten_cons, List.flatten_nil, List.append_eq, List.length_cons, List.length_nil, Nat.zero_add, Nat.reduceAdd, true_and, and_true, eqOk_str, eqOk_int, eqOk_bool, str_eqv, int_eqv, tup_nil_eqv, lst_nil_eqv, rep_flat, isK_int, isK_bool, isK_tuple, isK_str, kInt, kBool, kTuple, kStr, GB.isNon, Bool.not_true, Bool.not_false, Bool.or_false, Bool.or_true, Bool.false_or, Bool.true_or, reduceCtorEq, ↓ix0, ↓ix1, ↓ix2, ↓ix3, ↓ix4, ev12, ev5, k0, k1]
      rw [m_has]; exact q
  · rw [bd_eq]; unfold En.d
    rcases two p hp with rfl | rfl <;> rcases three c hc with rfl | rfl | rfl <;> simp only [↓at0, ↓set0, ↓at1, ↓set1, ↓at2, ↓set2, ↓at3, ↓set3, ↓at4, ↓set4, ↓at5, ↓set5, ↓at6, ↓set6, ↓at7, ↓set7, ↓at8, ↓set8, ↓at9, ↓set9, ↓at10, ↓set10, ↓at11, ↓set11, ↓at12, ↓set12, ↓at13, ↓set13, ↓at14, ↓set14, ↓at15, ↓set15, ↓fz_d, ↓fz_own, ↓fz_ob, ↓one_d, ↓int_d, ↓bool_d, ↓own_o, ↓ds_nil, ↓ds_cons, ↓seq_l, ↓seq_t, ↓ite_t, ↓ite_f, ↓e_next, ↓e_seq, ↓e_set, ↓e_drop, ↓e_ret, ↓e_ifs, ↓e_brk, ↓e_cnt, ↓e_fixs, ↓e_par, ↓e_par3, ↓e_asg, ↓e_for, ↓e_putAt, ↓e_jput, ↓e_var, ↓e_k, ↓e_fz, ↓e_op, ↓e_opL, ↓e_opR, ↓e_n, ↓e_n1, ↓e_nil, ↓e_cons, ↓e_tup, ↓e_lst, ↓e_b, ↓e_not, ↓e_and, ↓e_or, ↓e_andV, ↓e_orV, ↓e_notV, ↓e_if, ↓e_isi, ↓e_neg, ↓e_chain, ↓e_call, ↓e_callK, ↓e_jint, ↓e_dict0, ↓e_dict1, ↓e_listRng, ↓e_append, ↓e_cut, ↓e_cutO, ↓e_onone, ↓e_osome, ↓e_iseq, ↓e_ienum, ↓e_irng, ↓e_gname, ↓e_lnil, ↓e_lcons, ↓e_lc, ↓e_yes, ↓f_addI, ↓f_addS, ↓f_addT, ↓f_addL, ↓f_i2, ↓f_mulI, ↓f_mulT, ↓f_mulL, ↓f_eq, ↓f_ne, ↓f_is, ↓f_isnot, ↓f_in, ↓f_notin, ↓f_ixL, ↓f_ixT, ↓f_lenL, ↓f_lenT, ↓f_lenS, ↓f_abs, ↓f_intI, ↓f_intB, ↓f_tupL, ↓f_tupT, ↓f_lstL, ↓f_lstT, ↓f_repr, ↓f_cutL, ↓f_cutT, ↓firm_d, ↓firm_ob, ↓zip_l, ↓zip_t, ↓e_izip, ↓zip_cons, ↓zip_nil1, ↓zip_nil2, ↓f_sorted, ↓e_inn, ↓e_inc, ↓e_l2n, ↓e_l2c, ↓e_lc2, ↓e_rev, ↓e_pop, ↓e_popAt, ↓e_extend, ↓e_lc3, ↓e_gon, ↓e_goc, ↓e_dbMid, ↓e_dbIn, ↓f_neu, ↓dgTup_tup, ↓dgCons_cons, ↓dgNil_nil, ite_t, ite_f, itK_not, List.cons_append, List.nil_append, List.append_nil, List.replicate, List.flatten_cons, List.flatten_nil, List.append_eq, List.length_cons, List.length_nil, Nat.zero_add, Nat.reduceAdd, true_and, and_true, eqOk_str, eqOk_int, eqOk_bool, str_eqv, int_eqv, tup_nil_eqv, lst_nil_eqv, rep_flat, isK_int, isK_bool, isK_tuple, isK_str, kInt, kBool, kTuple, kStr, GB.isNon, Bool.not_true, Bool.not_false, Bool.or_false, Bool.or_true, Bool.false_or, Bool.true_or, reduceCtorEq, ↓ix0, ↓ix1, ↓ix2, ↓ix3, ↓ix4, ev13, ev6, ev8, k0, k1, k2] <;> exact q
  · rw [bd_eq]; unfold En.d
    rcases two p hp with rfl | rfl <;> rcases three c hc with rfl | rfl | rfl <;> simp only [↓at0, ↓set0, ↓at1, ↓set1, ↓at2, ↓set2, ↓at3, ↓set3, ↓at4, ↓set4, ↓at5, ↓set5, ↓at6, ↓set6, ↓at7, ↓set7, ↓at8, ↓set8, ↓at9, ↓set9, ↓at10, ↓set10, ↓at11, ↓set11, ↓at12, ↓set12, ↓at13, ↓set13, ↓at14, ↓set14, ↓at15, ↓set15, ↓fz_d, ↓fz_own, ↓fz_ob, ↓one_d, ↓int_d, ↓bool_d, ↓own_o, ↓ds_nil, ↓ds_cons, ↓seq_l, ↓seq_t, ↓ite_t, ↓ite_f, ↓e_next, ↓e_seq, ↓e_set, ↓e_drop, ↓e_ret, ↓e_ifs, ↓e_brk, ↓e_cnt, ↓e_fixs, ↓e_par, ↓e_par3, ↓e_asg, ↓e_for, ↓e_putAt, ↓e_jput, ↓e_var, ↓e_k, ↓e_fz, ↓e_op, ↓e_opL, ↓e_opR, ↓e_n, ↓e_n1, ↓e_nil, ↓e_cons, ↓e_tup, ↓e_lst, ↓e_b, ↓e_not, ↓e_and, ↓e_or, ↓e_andV, ↓e_orV, ↓e_notV, ↓e_if, ↓e_isi, ↓e_neg, ↓e_chain, ↓e_call, ↓e_callK, ↓e_jint, ↓e_dict0, ↓e_dict1, ↓e_listRng, ↓e_append, ↓e_cut, ↓e_cutO, ↓e_onone, ↓e_osome, ↓e_iseq, ↓e_ienum, ↓e_irng, ↓e_gname, ↓e_lnil, ↓e_lcons, ↓e_lc, ↓e_yes, ↓f_addI, ↓f_addS, ↓f_addT, ↓f_addL, ↓f_i2, ↓f_mulI, ↓f_mulT, ↓f_mulL, ↓f_eq, ↓f_ne, ↓f_is, ↓f_isnot, ↓f_in, ↓f_notin, ↓f_ixL, ↓f_ixT, ↓f_lenL, ↓f_lenT, ↓f_lenS, ↓f_abs, ↓f_intI, ↓f_intB, ↓f_tupL, ↓f_tupT, ↓f_lstL, ↓f_lstT, ↓f_repr, ↓f_cutL, ↓f_cutT, ↓firm_d, ↓firm_ob, ↓zip_l, ↓zip_t, ↓e_izip, ↓zip_cons, ↓zip_nil1, ↓zip_nil2, ↓f_sorted, ↓e_inn, ↓e_inc, ↓e_l2n, ↓e_l2c, ↓e_lc2, ↓e_rev, ↓e_pop, ↓e_popAt, ↓e_extend, ↓e_lc3, ↓e_gon, ↓e_goc, ↓e_dbMid, ↓e_dbIn, ↓f_neu, ↓dgTup_tup, ↓dgCons_cons, ↓dgNil_nil, ite_t, ite_f, itK_not, List.cons_append, List.nil_append, List.append_nil, List.replicate, List.flatten_cons, List.flatten_nil, List.append_eq, List.length_cons, List.length_nil, Nat.zero_add, Nat.reduceAdd, true_and, and_true, eqOk_str, eqOk_int, eqOk_bool, str_eqv, int_eqv, tup_nil_eqv, lst_nil_eqv, rep_flat, isK_int, isK_bool, isK_tuple, isK_str, kInt, kBool, kTuple, kStr, GB.isNon, Bool.not_true, Bool.not_false, Bool.or_false, Bool.or_true, Bool.false_or, Bool.true_or, reduceCtorEq, ↓ix0, ↓ix1, ↓ix2, ↓ix3, ↓ix4, ev14, ev15, ev16, k0, k1, k2] <;> exact inw_of _ hw q
theorem ma_l_has : ∀ ss R, ss.length = 1 → F_l_has ss R → rd_l_has { nx := fun _ => R (.d .none), rt := R } (ss ++ List.replicate 1 .un) := by
  rintro _ R - ⟨b, rfl, ok, q⟩
  unfold rd_l_has
  simp only [↓at0, ↓set0, ↓at1, ↓set1, ↓at2, ↓set2, ↓at3, ↓set3, ↓at4, ↓set4, ↓at5, ↓set5, ↓at6, ↓set6, ↓at7, ↓set7, ↓at8, ↓set8, ↓at9, ↓set9, ↓at10, ↓set10, ↓at11, ↓set11, ↓at12, ↓set12, ↓at13, ↓set13, ↓at14, ↓set14, ↓at15, ↓set15, ↓fz_d, ↓fz_own, ↓fz_ob, ↓one_d, ↓int_d, ↓bool_d, ↓own_o, ↓ds_nil, ↓ds_cons, ↓seq_l, ↓seq_t, ↓ite_t, ↓ite_f, ↓e_next, ↓e_seq, ↓e_set, ↓e_drop, ↓e_ret, ↓e_ifs, ↓e_brk, ↓e_cnt, ↓e_fixs, ↓e_par, ↓e_par3, ↓e_asg, ↓e_for, ↓e_putAt, ↓e_jput, ↓e_var, ↓e_k, ↓e_fz, ↓e_op, ↓e_opL, ↓e_opR, ↓e_n, ↓e_n1, ↓e_nil, ↓e_cons, ↓e_tup, ↓e_lst, ↓e_b, ↓e_not, ↓e_and, ↓e_or, ↓e_andV, ↓e_orV, ↓e_notV, ↓e_if, ↓e_isi, ↓e_neg, ↓e_chain, ↓e_call, ↓e_callK, ↓e_jint, ↓e_dict0, ↓e_dict1, ↓e_listRng, ↓e_append, ↓e_cut, ↓e_cutO, ↓e_onone, ↓e_osome, ↓e_iseq, ↓e_ienum, ↓e_irng, ↓e_gname, ↓e_lnil, ↓e_lcons, ↓e_lc, ↓e_yes, ↓f_addI, ↓f_addS, ↓f_addT, ↓f_addL, ↓f_i2, ↓f_mulI, ↓f_mulT, ↓f_mulL, ↓f_eq, ↓f_ne, ↓f_is, ↓f_isnot, ↓f_in, ↓f_notin, ↓f_ixL, ↓f_ixT, ↓f_lenL, ↓f_lenT, ↓f_lenS, ↓f_abs, ↓f_intI, ↓f_intB, ↓f_tupL, ↓f_tupT, ↓f_lstL, ↓f_lstT, ↓f_repr, ↓f_cutL, ↓f_cutT, ↓firm_d, ↓firm_ob, ↓zip_l, ↓zip_t, ↓e_izip, ↓zip_cons, ↓zip_nil1, ↓zip_nil2, ↓f_sorted, ↓e_inn, ↓e_inc, ↓e_l2n, ↓e_l2c, ↓e_lc2, ↓e_rev, ↓e_pop, ↓e_popAt, ↓e_extend, ↓e_lc3, ↓e_gon, ↓e_goc, ↓e_dbMid, ↓e_dbIn, ↓f_neu, ↓dgTup_tup, ↓dgCons_cons, ↓dgNil_nil, ite_t, ite_f, itK_not, List.cons_append, List.nil_append, List.append_nil, List.replicate, List.flatten_cons, List.flatten_nil, List.append_eq, List.length_cons, List.length_nil, Nat.zero_add, Nat.reduceAdd, true_and, and_true, eqOk_str, eqOk_int, eqOk_bool, str_eqv, int_eqv, tup_nil_eqv, lst_nil_eqv, rep_flat, isK_int, isK_bool, isK_tuple, isK_str, kInt, kBool, kTuple, kStr, GB.isNon, Bool.not_true, Bool.not_false, Bool.or_false, Bool.or_true, Bool.false_or, Bool.true_or, reduceCtorEq, ↓s_allE, wipeD, List.set]
  refine seq_es.mpr ⟨line_ge (by decide), es_run (P := b.has) q fun e he acc K y n => ?_⟩
  simp only [↓at0, ↓set0, ↓at1, ↓set1, ↓at2, ↓set2, ↓at3, ↓set3, ↓at4, ↓set4, ↓at5, ↓set5, ↓at6, ↓set6, ↓at7, ↓set7, ↓at8, ↓set8, ↓at9, ↓set9, ↓at10, ↓set10, ↓at11, ↓set11, ↓at12, ↓set12, ↓at13, ↓set13, ↓at14, ↓set14, ↓at15, ↓set15, ↓fz_d, ↓fz_own, ↓fz_ob, ↓one_d, ↓int_d, ↓bool_d, ↓own_o, ↓ds_nil, ↓ds_cons, ↓seq_l, ↓seq_t, ↓ite_t, ↓ite_f, ↓e_next, ↓e_seq, ↓e_set, ↓e_drop, ↓e_ret, ↓e_ifs, ↓e_brk, ↓e_cnt, ↓e_fixs, ↓e_par, ↓e_par3, ↓e_asg, ↓e_for, ↓e_putAt, ↓e_jput, ↓e_var, ↓e_k, ↓e_fz, ↓e_op, ↓e_opL, ↓e_opR, ↓e_n, ↓e_n1, ↓e_nil, ↓e_cons, ↓e_tup, ↓e_lst, ↓e_b, ↓e_not, ↓e_and, ↓e_or, ↓e_andV, ↓e_orV, ↓e_notV, ↓e_if, ↓e_isi, ↓e_neg, ↓e_chain, ↓e_call, ↓e_callK, ↓e_jint, ↓e_dict0, ↓e_dict1, ↓e_listRng, ↓e_append, ↓e_cut, ↓e_cutO, ↓e_onone, ↓e_osome, ↓e_iseq, ↓e_ienum, ↓e_irng, ↓e_gname, ↓e_lnil, ↓e_lcons, ↓e_lc, ↓e_yes, ↓f_addI, ↓f_addS, ↓f_addT, ↓f_addL, ↓f_i2, ↓f_mulI, ↓f_mulT, ↓f_mulL, ↓f_eq, ↓f_ne, ↓f_is, ↓f_isnot, ↓f_in, ↓f_notin, ↓f_ixL, ↓f_ixT, ↓f_lenL, ↓f_lenT, ↓f_lenS, ↓f_abs, ↓f_intI, ↓f_intB, ↓f_tupL, ↓f_tupT, ↓f_lstL, ↓f_lstT, ↓f_repr, ↓f_cutL, ↓f_cutT, ↓firm_d, ↓firm_ob, ↓zip_l, ↓zip_t, ↓e_izip, ↓zip_cons, ↓zip_nil1, ↓zip_nil2, ↓f_sorted, ↓e_inn, ↓e_inc, ↓e_l2n, ↓e_l2c, ↓e_lc2, ↓e_rev, ↓e_pop, ↓e_popAt, ↓e_extend, ↓e_lc3, ↓e_gon, ↓e_goc, ↓e_dbMid, ↓e_dbIn, ↓f_neu, ↓dgTup_tup, ↓dgCons_cons, ↓dgNil_nil, ite_t, ite_f, itK_not, List.cons_append, List.nil_append, List.append_nil, List.replicate, List.flatten_cons, List.flatten_nil, List.append_eq, List.length_cons, List.length_nil, Nat.zero_add, Nat.reduceAdd, true_and, and_true, eqOk_str, eqOk_int, eqOk_bool, str_eqv, int_eqv, tup_nil_eqv, lst_nil_eqv, rep_flat, isK_int, isK_bool, isK_tuple, isK_str, kInt, kBool, kTuple, kStr, GB.isNon, Bool.not_true, Bool.not_false, Bool.or_false, Bool.or_true, Bool.false_or, Bool.true_or, reduceCtorEq, wipeD, List.set]
  refine (s_ishad ok he).mpr ?_
  simp only [↓at0, ↓set0, ↓at1, ↓set1, ↓at2, ↓set2, ↓at3, ↓set3, ↓at4, ↓set4, ↓at5, ↓set5, ↓at6, ↓set6, ↓at7, ↓set7, ↓at8, ↓set8, ↓at9, ↓set9, ↓at10, ↓set10, ↓at11, ↓set11, ↓at12, ↓set12, ↓at13, ↓set13, ↓at14, ↓set14, ↓at15, ↓set15, ↓fz_d, ↓fz_own, ↓fz_ob, ↓one_d, ↓int_d, ↓bool_d, ↓own_o, ↓ds_nil, ↓ds_cons, ↓seq_l, ↓seq_t, ↓ite_t, ↓ite_f, ↓e_next, ↓e_seq, ↓e_set, ↓e_drop, ↓e_ret, ↓e_ifs, ↓e_brk, ↓e_cnt, ↓e_fixs, ↓e_par, ↓e_par3, ↓e_asg, ↓e_for, ↓e_putAt, ↓e_jput, ↓e_var, ↓e_k, ↓e_fz, ↓e_op, ↓e_opL, ↓e_opR, ↓e_n, ↓e_n1, ↓e_nil, ↓e_cons, ↓e_tup, ↓e_lst, ↓e_b, ↓e_not, ↓e_and, ↓e_or, ↓e_andV, ↓e_orV, ↓e_notV, ↓e_if, ↓e_isi, ↓e_neg, ↓e_chain, ↓e_call, ↓e_callK, ↓e_jint, ↓e_dict0, ↓e_dict1, ↓e_listRng, ↓e_append, ↓e_cut, ↓e_cutO, ↓e_onone, ↓e_osome, ↓e_iseq, ↓e_ienum, ↓e_irng, ↓e_gname, ↓e_lnil, ↓e_lcons, ↓e_lc, ↓e_yes, ↓f_addI, ↓f_addS, ↓f_addT, ↓f_addL, ↓f_i2, ↓f_mulI, ↓f_mulT, ↓f_mulL, ↓f_eq, ↓f_ne, ↓f_is, ↓f_isnot, ↓f_in, ↓f_notin, ↓f_ixL, ↓f_ixT, ↓f_lenL, ↓f_lenT, ↓f_lenS, ↓f_abs, ↓f_intI, ↓f_intB, ↓f_tupL, ↓f_tupT, ↓f_lstL, ↓f_lstT, ↓f_repr, ↓f_cutL, ↓f_cutT, ↓firm_d, ↓firm_ob, ↓zip_l, ↓zip_t, ↓e_izip, ↓zip_cons, ↓zip_nil1, ↓zip_nil2, ↓f_sorted, ↓e_inn, ↓e_inc, ↓e_l2n, ↓e_l2c, ↓e_lc2, ↓e_rev, ↓e_pop, ↓e_popAt, ↓e_extend, ↓e_lc3, ↓e_gon, ↓e_goc, ↓e_dbMid, ↓e_dbIn, ↓f_neu, ↓dgTup_tup, ↓dgCons_cons, ↓dgNil_nil, ite_t, ite_f, itK_not, List.cons_append, List.nil_append, List.append_nil, List.replicate, List.flatten_cons, List.flatten_nil, List.append_eq, List.length_cons, List.length_nil, Nat.zero_add, Nat.reduceAdd, true_and, and_true, eqOk_str, eqOk_int, eqOk_bool, str_eqv, int_eqv, tup_nil_eqv, lst_nil_eqv, rep_flat, isK_int, isK_bool, isK_tuple, isK_str, kInt, kBool, kTuple, kStr, GB.isNon, Bool.not_true, Bool.not_false, Bool.or_false, Bool.or_true, Bool.false_or, Bool.true_or, reduceCtorEq, ]
  exact iteB y n
def wb (z : Str) : Str := if z = "white" then "black" else z
theorem tu_m (b : Bo) (e : En) (v : Bool) (q : Nat) : (b.tu e v).m q = if (b.tu e v).has (.make q) = true then wb (b.m q) else "white" := by
  have other : b.m q = if (!(b.m q == ("white" : Str))) = true then wb (b.m q) else ("white" : Str) := by
    by_cases hw : b.m q = "white"
    · rw [hw]; rw [if_neg (by decide +kernel)]
    · rw [if_pos (by simpa using hw)]
      unfold wb
      rw [if_neg hw]
  cases e with
  | make q0 =>
    by_cases h : q = q0
    · subst h
      rw [tu_has, if_pos rfl]
      cases v with
      | true => simp [Bo.tu, wb]
      | false => simp [Bo.tu]
    · have hne : ¬ (En.make q = En.make q0) := fun z => h (by injection z)
      rw [tu_has, if_neg hne]
      have : (b.tu (.make q0) v).m q = b.m q := by simp [Bo.tu, h]
      rw [this]; exact other
  | _ => exact other
def tuL (b : Bo) (e : En) (v : Bool) : List En := (ENS.filter b.has).filter (fun x => !decide (x = e)) ++ (if v = true then [e] else [])
theorem tuL_sub {b : Bo} {e : En} {v : Bool} (he : e ∈ ENS) : SubE (tuL b e v) := fun x hx => by
  rcases List.mem_append.mp hx with h | h
  · exact (List.mem_filter.mp (List.mem_filter.mp h).1).1
  · cases v
    · simp at h
    · rw [show x = e by simpa using h]; exact he
theorem tuL_in {b : Bo} {e : En} {v : Bool} : ∀ x ∈ ENS, inL (tuL b e v) x = if x = e then v else b.has x := fun x hx => by
  unfold inL tuL
  by_cases h : x = e
  · subst h
    rw [if_pos rfl]
    cases v <;> simp
  · rw [if_neg h]
    cases v <;> simp [h, hx]
theorem wb_ne (z : Str) : wb z ≠ "white" := by
  unfold wb
  by_cases h : z = "white"
  · rw [if_pos h]; decide +kernel
  · rw [if_neg h]; exact h
theorem tuL_bk (b : Bo) (e : En) (v : Bool) (he : e ∈ ENS) : (bk (tuL b e v) (wb (b.m 0)) (wb (b.m 1)) b.p).d = (b.tu e v).d := by
  have hh : ∀ x ∈ ENS, (bk (tuL b e v) (wb (b.m 0)) (wb (b.m 1)) b.p).has x = (b.tu e v).has x := fun x hx => by
    rw [bk_has _ _ (wb_ne _) (wb_ne _) x hx, tuL_in x hx, tu_has]
  refine d_ext hh ?_ ?_ (tu_p b e v).symm
  · rw [tu_m, tu_has]
    show (if inL (tuL b e v) (.make 0) = true then _ else _) = _
    rw [tuL_in _ (by decide +kernel)]
    rfl
  · rw [tu_m, tu_has]
    show (if inL (tuL b e v) (.make 1) = true then (if (1 : Nat) = 0 then _ else _) else _) = _
    rw [tuL_in _ (by decide +kernel)]
    rfl
theorem ix_b2 {b : Bo} {k : S → Prop} : fIx b.d (.int 2) k ↔ k (.d (.tuple [.str (b.m 0), .str (b.m 1)])) := ⟨fun ⟨i, e, v, h, q⟩ => by cases e; cases h; exact q, fun h => ⟨2, rfl, _, rfl, h⟩⟩
theorem ix_b4 {b : Bo} {k : S → Prop} : fIx b.d (.int 4) k ↔ k (.d (.bool b.p)) := ⟨fun ⟨i, e, v, h, q⟩ => by cases e; cases h; exact q, fun h => ⟨4, rfl, _, rfl, h⟩⟩
theorem inF {f : En → Bool} : ∀ e ∈ ENS, inL (ENS.filter f) e = f e := fun e he => by
  unfold inL
  cases h : f e <;> simp [h, he]
theorem subF {f : En → Bool} : SubE (ENS.filter f) := fun e he => (List.mem_filter.mp he).1
theorem lenF {f : En → Bool} : (ENS.filter f).length ≤ 27 := List.length_filter_le _ _
theorem s_we {k : S → Prop} {b : Bo} {e : En} (ok : OkB b) (he : e ∈ ENS) (h : k (.d (b.tu e true).d)) : F_with_entry [.d b.d, .d e.d] k := s_went.mpr ⟨_, we_b ok he, h⟩
theorem s_wo {k : S → Prop} {b : Bo} {e : En} (he : e ∈ ENS) (h : k (.d (b.tu e false).d)) : F_without [.d b.d, .d e.d] k := s_wout.mpr ⟨_, wo_b he, h⟩
end GK

set_option maxRecDepth 100000
namespace GK
open PySem PySem.Spec PyProof.Rows L2 GB
def tl_w : TSd := (dSeq (dFor (dIRng (dK (.int 2))) (dgName 7) (dFor (dIRng (dK (.int 3))) (dgName 8) (dFor (dISeq (dOp fIx (dOp fIx (dVar 1) (dVar 7)) (dVar 8))) (dgName 9) (dDrop (dAppend 6 (dTup (dCons (dK (.str "write")) (dCons (dVar 7) (dCons (dVar 8) (dCons (dVar 9) dNil)))))))))) (dRet (dN1 fTuple 6)))
def tl_r : TSd := (dSeq (dFor (dIRng (dK (.int 2))) (dgName 7) (dFor (dIRng (dK (.int 3))) (dgName 8) (dIfS (dB (dOp fIx (dOp fIx (dVar 2) (dVar 7)) (dVar 8))) (dDrop (dAppend 6 (dTup (dCons (dK (.str "read")) (dCons (dVar 7) (dCons (dVar 8) dNil)))))) dNext))) tl_w)
def tl_m : TSd := (dSeq (dFor (dIRng (dK (.int 2))) (dgName 7) (dIfS (dB (dOp fNe (dOp fIx (dVar 3) (dVar 7)) (dK (.str "white")))) (dDrop (dAppend 6 (dTup (dCons (dK (.str "make")) (dCons (dVar 7) dNil))))) dNext)) tl_r)
theorem rd_entries_tl : rd_entries = (dSeq (dAsg (dVar 0) (dgTup 5 (dgCons (dgName 1) (dgCons (dgName 2) (dgCons (dgName 3) (dgCons (dgName 4) (dgCons (dgName 5) dgNil))))))) (dSeq (dSet 6 (dIf (dB (dVar 4)) (dLst (dCons (dTup (dCons (dK (.str "last")) dNil)) dNil)) (dLst dNil))) tl_m)) := rfl
def bW (b : Bo) : PyData := .tuple [.tuple [gdD (b.g 0 0), gdD (b.g 0 1), gdD (b.g 0 2)], .tuple [gdD (b.g 1 0), gdD (b.g 1 1), gdD (b.g 1 2)]]
def bR (b : Bo) : PyData := .tuple [.tuple [.bool (b.r 0 0), .bool (b.r 0 1), .bool (b.r 0 2)], .tuple [.bool (b.r 1 0), .bool (b.r 1 1), .bool (b.r 1 2)]]
def bM (b : Bo) : PyData := .tuple [.str (b.m 0), .str (b.m 1)]
theorem tg_b5 {gs : DTGs} {ρ : GB.En} {Q : GB.En → Prop} {b : Bo} : dgTup 5 gs b.d ρ Q ↔ dgTup 5 gs (.tuple [bW b, bR b, bM b, .bool b.l, .bool b.p]) ρ Q := Iff.rfl
def remE (b : Bo) (n : Nat) : List PyData := ((ENS.drop n).filter b.has).map En.d
theorem rem_len (b : Bo) (n : Nat) : (remE b n).length ≤ 27 := by
  unfold remE
  rw [List.length_map]
  refine Nat.le_trans (List.length_filter_le _ _) ?_
  rw [List.length_drop]
  exact Nat.le_trans (Nat.sub_le _ _) (by decide)
theorem rem_yes {b : Bo} {n : Nat} {e : En} {es : List En} (h : ENS.drop n = e :: es) (h1 : ENS.drop (n + 1) = es) {v : Bool} (hv : b.has e = v) : remE b n = (if v = true then [e.d] else []) ++ remE b (n + 1) := by
  unfold remE
  rw [h, h1, List.filter_cons, hv]
  cases v <;> simp
theorem rem_w {b : Bo} {n p c : Nat} {es : List En} (h : ENS.drop n = .write p c "again" :: .write p c "new" :: .write p c "old" :: es) (h1 : ENS.drop (n + 3) = es) : remE b n = ((gL (b.g p c)).map fun w => (En.write p c w).d) ++ remE b (n + 3) := by
  have e1 : ENS.drop (n + 1) = .write p c "new" :: .write p c "old" :: es := by rw [← List.tail_drop, h]; rfl
  have e2 : ENS.drop (n + 1 + 1) = .write p c "old" :: es := by rw [← List.tail_drop, e1]; rfl
  have e3 : ENS.drop (n + 1 + 1 + 1) = es := h1
  rw [rem_yes (b := b) h e1 rfl, rem_yes (b := b) e1 e2 rfl, rem_yes (b := b) e2 e3 rfl]
  unfold gL
  show _ = _ ++ remE b (n + 1 + 1 + 1)
  simp only [Bo.has, List.filter_cons, List.filter_nil]
  by_cases h1 : b.g p c "again" = true <;> by_cases h2 : b.g p c "new" = true <;> by_cases h3 : b.g p c "old" = true <;> simp [h1, h2, h3]
theorem n0 : ((0 : Nat) : Int) = 0 := rfl
theorem n1 : ((1 : Nat) : Int) = 1 := rfl
theorem n2 : ((2 : Nat) : Int) = 2 := rfl
theorem wr_loop {T : List PyData} (hl : T.length ≤ 27) {D : EndsD} {b : Bo} {p c N : Nat} {s0 s1 s2 s3 s4 s5 : S} (nx : ∀ acc s9, acc ++ remE b N = T → D.nx [s0, s1, s2, s3, s4, s5, .own acc, .d (.int p), .d (.int c), s9]) (ws : List Str) (acc : List PyData) (s9 : S) (h : acc ++ ((ws.map fun w => (En.write p c w).d) ++ remE b N) = T) :
    dLoop (dgName 9) (dDrop (dAppend 6 (dTup (dCons (dK (PyData.str (Str.ofString "write"))) (dCons (dVar 7) (dCons (dVar 8) (dCons (dVar 9) dNil))))))) D (ws.map .str) [s0, s1, s2, s3, s4, s5, .own acc, .d (.int p), .d (.int c), s9] := by
  refine loopI (fun ds ρ => ∃ ws acc s9, ds = ws.map .str ∧ ρ = [s0, s1, s2, s3, s4, s5, .own acc, .d (.int p), .d (.int c), s9] ∧ acc ++ ((ws.map fun w => (En.write p c w).d) ++ remE b N) = T) ?_ ?_ _ _ ⟨ws, acc, s9, rfl, rfl, h⟩
  · rintro _ ⟨ws, acc, s9, e, rfl, h⟩
    cases ws with
    | nil => exact nx _ _ h
    | cons _ _ => cases e
  · rintro d ds _ K hK ⟨ws, acc, s9, e, rfl, h⟩
    cases ws with
    | nil => cases e
    | cons w ws =>
      cases e
      have la : acc.length ≤ 27 := by
        have := congrArg List.length h
        rw [List.length_append] at this
        omega
      simp only [↓at0, ↓set0, ↓at1, ↓set1, ↓at2, ↓set2, ↓at3, ↓set3, ↓at4, ↓set4, ↓at5, ↓set5, ↓at6, ↓set6, ↓at7, ↓set7, ↓at8, ↓set8, ↓at9, ↓set9, ↓at10, ↓set10, ↓at11, ↓set11, ↓at12, ↓set12, ↓at13, ↓set13, ↓at14, ↓set14, ↓at15, ↓set15, ↓fz_d, ↓fz_own, ↓fz_ob, ↓one_d, ↓int_d, ↓bool_d, ↓own_o, ↓ds_nil, ↓ds_cons, ↓seq_l, ↓seq_t, ↓ite_t, ↓ite_f, ↓e_next, ↓e_seq, ↓e_set, ↓e_drop, ↓e_ret, ↓e_ifs, ↓e_brk, ↓e_cnt, ↓e_fixs, ↓e_par, ↓e_par3, ↓e_asg, ↓e_for, ↓e_putAt, ↓e_jput, ↓e_var, ↓e_k, ↓e_fz, ↓e_op, ↓e_opL, ↓e_opR, ↓e_n, ↓e_n1, ↓e_nil, ↓e_cons, ↓e_tup, ↓e_lst, ↓e_b, ↓e_not, ↓e_and, ↓e_or, ↓e_andV, ↓e_orV, ↓e_notV, ↓e_if, ↓e_isi, ↓e_neg, ↓e_chain, ↓e_call, ↓e_callK, ↓e_jint, ↓e_dict0, ↓e_dict1, ↓e_listRng, ↓e_append, ↓e_cut, ↓e_cutO, ↓e_onone, ↓e_osome, ↓e_iseq, ↓e_ienum, ↓e_irng, ↓e_gname, ↓e_lnil, ↓e_lcons, ↓e_lc, ↓e_yes, ↓f_addI, ↓f_addS, ↓f_addT, ↓f_addL, ↓f_i2, ↓f_mulI, ↓f_mulT, ↓f_mulL, ↓f_eq, ↓f_ne, ↓f_is, ↓f_isnot, ↓f_in, ↓f_notin, ↓f_ixL, ↓f_ixT, ↓f_lenL, ↓f_lenT, ↓f_lenS, ↓f_abs, ↓f_intI, ↓f_intB, ↓f_tupL, ↓f_tupT, ↓f_lstL, ↓f_lstT, ↓f_repr, ↓f_cutL, ↓f_cutT, ↓firm_d, ↓firm_ob, ↓zip_l, ↓zip_t, ↓e_izip, ↓zip_cons, ↓zip_nil1, ↓zip_nil2, ↓f_sorted, ↓e_inn, ↓e_inc, ↓e_l2n, ↓e_l2c, ↓e_lc2, ↓e_rev, ↓e_pop, ↓e_popAt, ↓e_extend, ↓e_lc3, ↓e_gon, ↓e_goc, ↓e_dbMid, ↓e_dbIn, ↓f_neu, ↓dgTup_tup, ↓dgCons_cons, ↓dgNil_nil, ite_t, ite_f, itK_not, List.cons_append, List.nil_append, List.append_nil, List.replicate, List.flatten_cons, List.flatten_nil, List.append_eq, List.length_cons, List.length_nil, Nat.zero_add, Nat.reduceAdd, true_and, and_true, eqOk_str, eqOk_int, eqOk_bool, str_eqv, int_eqv, tup_nil_eqv, lst_nil_eqv, rep_flat, isK_int, isK_bool, isK_tuple, isK_str, kInt, kBool, kTuple, kStr, GB.isNon, Bool.not_true, Bool.not_false, Bool.or_false, Bool.or_true, Bool.false_or, Bool.true_or, reduceCtorEq, ]
      refine ⟨by decide, Nat.lt_of_le_of_lt la (by decide), hK _ ⟨ws, _, _, rfl, rfl, ?_⟩⟩
      rw [← h]
      simp [En.d]
theorem go_w {R : S → Prop} {b : Bo} {acc : List PyData} {s3 s4 s5 s7 s8 s9 s2 : S} (h : acc ++ remE b 9 = entD b.d) (hl : (entD b.d).length ≤ 27) (q : R (.d (.tuple (entD b.d)))) :
    tl_w { nx := fun _ => R (.d .none), rt := R } [S.d b.d, S.d (bW b), s2, s3, s4, s5, .own acc, s7, s8, s9] := by
  unfold tl_w
  simp only [↓at0, ↓set0, ↓at1, ↓set1, ↓at2, ↓set2, ↓at3, ↓set3, ↓at4, ↓set4, ↓at5, ↓set5, ↓at6, ↓set6, ↓at7, ↓set7, ↓at8, ↓set8, ↓at9, ↓set9, ↓at10, ↓set10, ↓at11, ↓set11, ↓at12, ↓set12, ↓at13, ↓set13, ↓at14, ↓set14, ↓at15, ↓set15, ↓fz_d, ↓fz_own, ↓fz_ob, ↓one_d, ↓int_d, ↓bool_d, ↓own_o, ↓ds_nil, ↓ds_cons, ↓seq_l, ↓seq_t, ↓ite_t, ↓ite_f, ↓e_next, ↓e_seq, ↓e_set, ↓e_drop, ↓e_ret, ↓e_ifs, ↓e_brk, ↓e_cnt, ↓e_fixs, ↓e_par, ↓e_par3, ↓e_asg, ↓e_for, ↓e_putAt, ↓e_jput, ↓e_var, ↓e_k, ↓e_fz, ↓e_op, ↓e_opL, ↓e_opR, ↓e_n, ↓e_n1, ↓e_nil, ↓e_cons, ↓e_tup, ↓e_lst, ↓e_b, ↓e_not, ↓e_and, ↓e_or, ↓e_andV, ↓e_orV, ↓e_notV, ↓e_if, ↓e_isi, ↓e_neg, ↓e_chain, ↓e_call, ↓e_callK, ↓e_jint, ↓e_dict0, ↓e_dict1, ↓e_listRng, ↓e_append, ↓e_cut, ↓e_cutO, ↓e_onone, ↓e_osome, ↓e_iseq, ↓e_ienum, ↓e_irng, ↓e_gname, ↓e_lnil, ↓e_lcons, ↓e_lc, ↓e_yes, ↓f_addI, ↓f_addS, ↓f_addT, ↓f_addL, ↓f_i2, ↓f_mulI, ↓f_mulT, ↓f_mulL, ↓f_eq, ↓f_ne, ↓f_is, ↓f_isnot, ↓f_in, ↓f_notin, ↓f_ixL, ↓f_ixT, ↓f_lenL, ↓f_lenT, ↓f_lenS, ↓f_abs, ↓f_intI, ↓f_intB, ↓f_tupL, ↓f_tupT, ↓f_lstL, ↓f_lstT, ↓f_repr, ↓f_cutL, ↓f_cutT, ↓firm_d, ↓firm_ob, ↓zip_l, ↓zip_t, ↓e_izip, ↓zip_cons, ↓zip_nil1, ↓zip_nil2, ↓f_sorted, ↓e_inn, ↓e_inc, ↓e_l2n, ↓e_l2c, ↓e_lc2, ↓e_rev, ↓e_pop, ↓e_popAt, ↓e_extend, ↓e_lc3, ↓e_gon, ↓e_goc, ↓e_dbMid, ↓e_dbIn, ↓f_neu, ↓dgTup_tup, ↓dgCons_cons, ↓dgNil_nil, ite_t, ite_f, itK_not, List.cons_append, List.nil_append, List.append_nil, List.replicate, List.flatten_cons, List.flatten_nil, List.append_eq, List.length_cons, List.length_nil, Nat.zero_add, Nat.reduceAdd, true_and, and_true, eqOk_str, eqOk_int, eqOk_bool, str_eqv, int_eqv, tup_nil_eqv, lst_nil_eqv, rep_flat, isK_int, isK_bool, isK_tuple, isK_str, kInt, kBool, kTuple, kStr, GB.isNon, Bool.not_true, Bool.not_false, Bool.or_false, Bool.or_true, Bool.false_or, Bool.true_or, reduceCtorEq, ]
  refine ⟨by decide, by decide, loopR (fun k n ρ => ∃ acc s7 s8 s9, ρ = [S.d b.d, S.d (bW b), s2, s3, s4, s5, .own acc, s7, s8, s9] ∧ k + n = 2 ∧ 0 ≤ k ∧ acc ++ remE b (9 + 9 * k.toNat) = entD b.d) ?_ ?_ 2 0 _ ⟨acc, _, _, _, rfl, by decide, by decide, h⟩⟩
  · rintro k _ ⟨acc, s7, s8, s9, rfl, h1, h2, h3⟩
    have : k = 2 := by omega
    subst this
    have h3 : acc = entD b.d := by rw [← h3]; exact (List.append_nil _).symm
    subst h3
    simp only [↓at0, ↓set0, ↓at1, ↓set1, ↓at2, ↓set2, ↓at3, ↓set3, ↓at4, ↓set4, ↓at5, ↓set5, ↓at6, ↓set6, ↓at7, ↓set7, ↓at8, ↓set8, ↓at9, ↓set9, ↓at10, ↓set10, ↓at11, ↓set11, ↓at12, ↓set12, ↓at13, ↓set13, ↓at14, ↓set14, ↓at15, ↓set15, ↓fz_d, ↓fz_own, ↓fz_ob, ↓one_d, ↓int_d, ↓bool_d, ↓own_o, ↓ds_nil, ↓ds_cons, ↓seq_l, ↓seq_t, ↓ite_t, ↓ite_f, ↓e_next, ↓e_seq, ↓e_set, ↓e_drop, ↓e_ret, ↓e_ifs, ↓e_brk, ↓e_cnt, ↓e_fixs, ↓e_par, ↓e_par3, ↓e_asg, ↓e_for, ↓e_putAt, ↓e_jput, ↓e_var, ↓e_k, ↓e_fz, ↓e_op, ↓e_opL, ↓e_opR, ↓e_n, ↓e_n1, ↓e_nil, ↓e_cons, ↓e_tup, ↓e_lst, ↓e_b, ↓e_not, ↓e_and, ↓e_or, ↓e_andV, ↓e_orV, ↓e_notV, ↓e_if, ↓e_isi, ↓e_neg, ↓e_chain, ↓e_call, ↓e_callK, ↓e_jint, ↓e_dict0, ↓e_dict1, ↓e_listRng, ↓e_append, ↓e_cut, ↓e_cutO, ↓e_onone, ↓e_osome, ↓e_iseq, ↓e_ienum, ↓e_irng, ↓e_gname, ↓e_lnil, ↓e_lcons, ↓e_lc, ↓e_yes, ↓f_addI, ↓f_addS, ↓f_addT, ↓f_addL, ↓f_i2, ↓f_mulI, ↓f_mulT, ↓f_mulL, ↓f_eq, ↓f_ne, ↓f_is, ↓f_isnot, ↓f_in, ↓f_notin, ↓f_ixL, ↓f_ixT, ↓f_lenL, ↓f_lenT, ↓f_lenS, ↓f_abs, ↓f_intI, ↓f_intB, ↓f_tupL, ↓f_tupT, ↓f_lstL, ↓f_lstT, ↓f_repr, ↓f_cutL, ↓f_cutT, ↓firm_d, ↓firm_ob, ↓zip_l, ↓zip_t, ↓e_izip, ↓zip_cons, ↓zip_nil1, ↓zip_nil2, ↓f_sorted, ↓e_inn, ↓e_inc, ↓e_l2n, ↓e_l2c, ↓e_lc2, ↓e_rev, ↓e_pop, ↓e_popAt, ↓e_extend, ↓e_lc3, ↓e_gon, ↓e_goc, ↓e_dbMid, ↓e_dbIn, ↓f_neu, ↓dgTup_tup, ↓dgCons_cons, ↓dgNil_nil, ite_t, ite_f, itK_not, List.cons_append, List.nil_append, List.append_nil, List.replicate, List.flatten_cons, List.flatten_nil, List.append_eq, List.length_cons, List.length_nil, Nat.zero_add, Nat.reduceAdd, true_and, and_true, eqOk_str, eqOk_int, eqOk_bool, str_eqv, int_eqv, tup_nil_eqv, lst_nil_eqv, rep_flat, isK_int, isK_bool, isK_tuple, isK_str, kInt, kBool, kTuple, kStr, GB.isNon, Bool.not_true, Bool.not_false, Bool.or_false, Bool.or_true, Bool.false_or, Bool.true_or, reduceCtorEq, ]
    exact q
  · rintro k n _ K hK ⟨acc, s7, s8, s9, rfl, h1, h2, h3⟩
    simp only [↓at0, ↓set0, ↓at1, ↓set1, ↓at2, ↓set2, ↓at3, ↓set3, ↓at4, ↓set4, ↓at5, ↓set5, ↓at6, ↓set6, ↓at7, ↓set7, ↓at8, ↓set8, ↓at9, ↓set9, ↓at10, ↓set10, ↓at11, ↓set11, ↓at12, ↓set12, ↓at13, ↓set13, ↓at14, ↓set14, ↓at15, ↓set15, ↓fz_d, ↓fz_own, ↓fz_ob, ↓one_d, ↓int_d, ↓bool_d, ↓own_o, ↓ds_nil, ↓ds_cons, ↓seq_l, ↓seq_t, ↓ite_t, ↓ite_f, ↓e_next, ↓e_seq, ↓e_set, ↓e_drop, ↓e_ret, ↓e_ifs, ↓e_brk, ↓e_cnt, ↓e_fixs, ↓e_par, ↓e_par3, ↓e_asg, ↓e_for, ↓e_putAt, ↓e_jput, ↓e_var, ↓e_k, ↓e_fz, ↓e_op, ↓e_opL, ↓e_opR, ↓e_n, ↓e_n1, ↓e_nil, ↓e_cons, ↓e_tup, ↓e_lst, ↓e_b, ↓e_not, ↓e_and, ↓e_or, ↓e_andV, ↓e_orV, ↓e_notV, ↓e_if, ↓e_isi, ↓e_neg, ↓e_chain, ↓e_call, ↓e_callK, ↓e_jint, ↓e_dict0, ↓e_dict1, ↓e_listRng, ↓e_append, ↓e_cut, ↓e_cutO, ↓e_onone, ↓e_osome, ↓e_iseq, ↓e_ienum, ↓e_irng, ↓e_gname, ↓e_lnil, ↓e_lcons, ↓e_lc, ↓e_yes, ↓f_addI, ↓f_addS, ↓f_addT, ↓f_addL, ↓f_i2, ↓f_mulI, ↓f_mulT, ↓f_mulL, ↓f_eq, ↓f_ne, ↓f_is, ↓f_isnot, ↓f_in, ↓f_notin, ↓f_ixL, ↓f_ixT, ↓f_lenL, ↓f_lenT, ↓f_lenS, ↓f_abs, ↓f_intI, ↓f_intB, ↓f_tupL, ↓f_tupT, ↓f_lstL, ↓f_lstT, ↓f_repr, ↓f_cutL, ↓f_cutT, ↓firm_d, ↓firm_ob, ↓zip_l, ↓zip_t, ↓e_izip, ↓zip_cons, ↓zip_nil1, ↓zip_nil2, ↓f_sorted, ↓e_inn, ↓e_inc, ↓e_l2n, ↓e_l2c, ↓e_lc2, ↓e_rev, ↓e_pop, ↓e_popAt, ↓e_extend, ↓e_lc3, ↓e_gon, ↓e_goc, ↓e_dbMid, ↓e_dbIn, ↓f_neu, ↓dgTup_tup, ↓dgCons_cons, ↓dgNil_nil, ite_t, ite_f, itK_not, List.cons_append, List.nil_append, List.append_nil, List.replicate, List.flatten_cons, List.flatten_nil, List.append_eq, List.length_cons, List.length_nil, Nat.zero_add, Nat.reduceAdd, true_and, and_true, eqOk_str, eqOk_int, eqOk_bool, str_eqv, int_eqv, tup_nil_eqv, lst_nil_eqv, rep_flat, isK_int, isK_bool, isK_tuple, isK_str, kInt, kBool, kTuple, kStr, GB.isNon, Bool.not_true, Bool.not_false, Bool.or_false, Bool.or_true, Bool.false_or, Bool.true_or, reduceCtorEq, ]
    refine ⟨by decide, by decide, loopR (fun j m ρ => ∃ acc s8 s9, ρ = [S.d b.d, S.d (bW b), s2, s3, s4, s5, .own acc, .d (.int k), s8, s9] ∧ j + m = 3 ∧ 0 ≤ j ∧ acc ++ remE b (9 + 9 * k.toNat + 3 * j.toNat) = entD b.d) ?_ ?_ 3 0 _ ⟨acc, _, _, rfl, by decide, by decide, h3⟩⟩
    · rintro j _ ⟨acc, s8, s9, rfl, j1, j2, j3⟩
      have : j = 3 := by omega
      subst this
      refine hK _ ⟨acc, _, _, _, rfl, by omega, by omega, ?_⟩
      rw [show 9 + 9 * (k + 1).toNat = 9 + 9 * k.toNat + 3 * (3 : Int).toNat by omega]
      exact j3
    · rintro j m _ K2 hK2 ⟨acc, s8, s9, rfl, j1, j2, j3⟩
      obtain ⟨c, rfl⟩ : ∃ c : Nat, j = c := ⟨j.toNat, by omega⟩
      obtain ⟨p, rfl⟩ : ∃ p : Nat, k = p := ⟨k.toNat, by omega⟩
      have nx : ∀ acc s9, acc ++ remE b (9 + 9 * p + 3 * c + 3) = entD b.d → K2 [S.d b.d, S.d (bW b), s2, s3, s4, s5, .own acc, .d (.int p), .d (.int c), s9] := fun acc s9 h => hK2 _ ⟨acc, _, _, rfl, by omega, by omega, h⟩
      have j3 : acc ++ remE b (9 + 9 * p + 3 * c) = entD b.d := j3
      have hp : p = 0 ∨ p = 1 := by omega
      have hc : c = 0 ∨ c = 1 ∨ c = 2 := by omega
      rcases hp with rfl | rfl <;> rcases hc with rfl | rfl | rfl
      all_goals
        rw [rem_w rfl rfl] at j3
        unfold bW
        simp only [↓at0, ↓set0, ↓at1, ↓set1, ↓at2, ↓set2, ↓at3, ↓set3, ↓at4, ↓set4, ↓at5, ↓set5, ↓at6, ↓set6, ↓at7, ↓set7, ↓at8, ↓set8, ↓at9, ↓set9, ↓at10, ↓set10, ↓at11, ↓set11, ↓at12, ↓set12, ↓at13, ↓set13, ↓at14, ↓set14, ↓at15, ↓set15, ↓fz_d, ↓fz_own, ↓fz_ob, ↓one_d, ↓int_d, ↓bool_d, ↓own_o, ↓ds_nil, ↓ds_cons, ↓seq_l, ↓seq_t, ↓ite_t, ↓ite_f, ↓e_next, ↓e_seq, ↓e_set, ↓e_drop, ↓e_ret, ↓e_ifs, ↓e_brk, ↓e_cnt, ↓e_fixs, ↓e_par, ↓e_par3, ↓e_asg, ↓e_for, ↓e_putAt, ↓e_jput, ↓e_var, ↓e_k, ↓e_fz, ↓e_op, ↓e_opL, ↓e_opR, ↓e_n, ↓e_n1, ↓e_nil, ↓e_cons, ↓e_tup, ↓e_lst, ↓e_b, ↓e_not, ↓e_and, ↓e_or, ↓e_andV, ↓e_orV, ↓e_notV, ↓e_if, ↓e_isi, ↓e_neg, ↓e_chain, ↓e_call, ↓e_callK, ↓e_jint, ↓e_dict0, ↓e_dict1, ↓e_listRng, ↓e_append, ↓e_cut, ↓e_cutO, ↓e_onone, ↓e_osome, ↓e_iseq, ↓e_ienum, ↓e_irng, ↓e_gname, ↓e_lnil, ↓e_lcons, ↓e_lc, ↓e_yes, ↓f_addI, ↓f_addS, ↓f_addT, ↓f_addL, ↓f_i2, ↓f_mulI, ↓f_mulT, ↓f_mulL, ↓f_eq, ↓f_ne, ↓f_is, ↓f_isnot, ↓f_in, ↓f_notin, ↓f_ixL, ↓f_ixT, ↓f_lenL, ↓f_lenT, ↓f_lenS, ↓f_abs, ↓f_intI, ↓f_intB, ↓f_tupL, ↓f_tupT, ↓f_lstL, ↓f_lstT, ↓f_repr, ↓f_cutL, ↓f_cutT, ↓firm_d, ↓firm_ob, ↓zip_l, ↓zip_t, ↓e_izip, ↓zip_cons, ↓zip_nil1, ↓zip_nil2, ↓f_sorted, ↓e_inn, ↓e_inc, ↓e_l2n, ↓e_l2c, ↓e_lc2, ↓e_rev, ↓e_pop, ↓e_popAt, ↓e_extend, ↓e_lc3, ↓e_gon, ↓e_goc, ↓e_dbMid, ↓e_dbIn, ↓f_neu, ↓dgTup_tup, ↓dgCons_cons, ↓dgNil_nil, ite_t, ite_f, itK_not, List.cons_append, List.nil_append, List.append_nil, List.replicate, List.flatten_cons, List.flatten_nil, List.append_eq, List.length_cons, List.length_nil, Nat.zero_add, Nat.reduceAdd, true_and, and_true, eqOk_str, eqOk_int, eqOk_bool, str_eqv, int_eqv, tup_nil_eqv, lst_nil_eqv, rep_flat, isK_int, isK_bool, isK_tuple, isK_str, kInt, kBool, kTuple, kStr, GB.isNon, Bool.not_true, Bool.not_false, Bool.or_false, Bool.or_true, Bool.false_or, Bool.true_or, reduceCtorEq, n0, n1, n2, ↓ix0, ↓ix1, ↓ix2, gdD]
        repeat (refine ⟨(show (_ : Prop) from by first | decide | omega | exact List.cons_ne_nil _ _ | (unfold CPow; decide) | (refine line_ge ?_; (try simp only [List.length_append, List.length_replicate, List.length_map, irow_len, Int.reduceToNat, List.length_cons, List.length_nil]); omega) | ((try simp only [List.length_append, List.length_replicate, List.length_map, irow_len, Int.reduceToNat, List.length_cons, List.length_nil]); omega)), ?_⟩)
        exact wr_loop (D := { nx := K2, ct := K2, bk := _, rt := R }) hl nx _ _ _ j3
theorem len_of {T acc r : List PyData} (hl : T.length ≤ 27) (h : acc ++ r = T) : acc.length < sizeLine := by
  have := congrArg List.length h
  rw [List.length_append] at this
  exact Nat.lt_of_le_of_lt (show acc.length ≤ 27 by omega) (by decide)
theorem go_r {R : S → Prop} {b : Bo} {acc : List PyData} {s3 s4 s5 s7 s8 s9 : S} (h : acc ++ remE b 3 = entD b.d) (hl : (entD b.d).length ≤ 27) (q : R (.d (.tuple (entD b.d)))) :
    tl_r { nx := fun _ => R (.d .none), rt := R } [S.d b.d, S.d (bW b), S.d (bR b), s3, s4, s5, .own acc, s7, s8, s9] := by
  unfold tl_r
  simp only [↓at0, ↓set0, ↓at1, ↓set1, ↓at2, ↓set2, ↓at3, ↓set3, ↓at4, ↓set4, ↓at5, ↓set5, ↓at6, ↓set6, ↓at7, ↓set7, ↓at8, ↓set8, ↓at9, ↓set9, ↓at10, ↓set10, ↓at11, ↓set11, ↓at12, ↓set12, ↓at13, ↓set13, ↓at14, ↓set14, ↓at15, ↓set15, ↓fz_d, ↓fz_own, ↓fz_ob, ↓one_d, ↓int_d, ↓bool_d, ↓own_o, ↓ds_nil, ↓ds_cons, ↓seq_l, ↓seq_t, ↓ite_t, ↓ite_f, ↓e_next, ↓e_seq, ↓e_set, ↓e_drop, ↓e_ret, ↓e_ifs, ↓e_brk, ↓e_cnt, ↓e_fixs, ↓e_par, ↓e_par3, ↓e_asg, ↓e_for, ↓e_putAt, ↓e_jput, ↓e_var, ↓e_k, ↓e_fz, ↓e_op, ↓e_opL, ↓e_opR, ↓e_n, ↓e_n1, ↓e_nil, ↓e_cons, ↓e_tup, ↓e_lst, ↓e_b, ↓e_not, ↓e_and, ↓e_or, ↓e_andV, ↓e_orV, ↓e_notV, ↓e_if, ↓e_isi, ↓e_neg, ↓e_chain, ↓e_call, ↓e_callK, ↓e_jint, ↓e_dict0, ↓e_dict1, ↓e_listRng, ↓e_append, ↓e_cut, ↓e_cutO, ↓e_onone, ↓e_osome, ↓e_iseq, ↓e_ienum, ↓e_irng, ↓e_gname, ↓e_lnil, ↓e_lcons, ↓e_lc, ↓e_yes, ↓f_addI, ↓f_addS, ↓f_addT, ↓f_addL, ↓f_i2, ↓f_mulI, ↓f_mulT, ↓f_mulL, ↓f_eq, ↓f_ne, ↓f_is, ↓f_isnot, ↓f_in, ↓f_notin, ↓f_ixL, ↓f_ixT, ↓f_lenL, ↓f_lenT, ↓f_lenS, ↓f_abs, ↓f_intI, ↓f_intB, ↓f_tupL, ↓f_tupT, ↓f_lstL, ↓f_lstT, ↓f_repr, ↓f_cutL, ↓f_cutT, ↓firm_d, ↓firm_ob, ↓zip_l, ↓zip_t, ↓e_izip, ↓zip_cons, ↓zip_nil1, ↓zip_nil2, ↓f_sorted, ↓e_inn, ↓e_inc, ↓e_l2n, ↓e_l2c, ↓e_lc2, ↓e_rev, ↓e_pop, ↓e_popAt, ↓e_extend, ↓e_lc3, ↓e_gon, ↓e_goc, ↓e_dbMid, ↓e_dbIn, ↓f_neu, ↓dgTup_tup, ↓dgCons_cons, ↓dgNil_nil, ite_t, ite_f, itK_not, List.cons_append, List.nil_append, List.append_nil, List.replicate, List.flatten_cons, List.flatten_nil, List.append_eq, List.length_cons, List.length_nil, Nat.zero_add, Nat.reduceAdd, true_and, and_true, eqOk_str, eqOk_int, eqOk_bool, str_eqv, int_eqv, tup_nil_eqv, lst_nil_eqv, rep_flat, isK_int, isK_bool, isK_tuple, isK_str, kInt, kBool, kTuple, kStr, GB.isNon, Bool.not_true, Bool.not_false, Bool.or_false, Bool.or_true, Bool.false_or, Bool.true_or, reduceCtorEq, ]
  refine ⟨by decide, by decide, loopR (fun k n ρ => ∃ acc s7 s8, ρ = [S.d b.d, S.d (bW b), S.d (bR b), s3, s4, s5, .own acc, s7, s8, s9] ∧ k + n = 2 ∧ 0 ≤ k ∧ acc ++ remE b (3 + 3 * k.toNat) = entD b.d) ?_ ?_ 2 0 _ ⟨acc, _, _, rfl, by decide, by decide, h⟩⟩
  · rintro k _ ⟨acc, s7, s8, rfl, h1, h2, h3⟩
    have : k = 2 := by omega
    subst this
    exact go_w h3 hl q
  · rintro k n _ K hK ⟨acc, s7, s8, rfl, h1, h2, h3⟩
    simp only [↓at0, ↓set0, ↓at1, ↓set1, ↓at2, ↓set2, ↓at3, ↓set3, ↓at4, ↓set4, ↓at5, ↓set5, ↓at6, ↓set6, ↓at7, ↓set7, ↓at8, ↓set8, ↓at9, ↓set9, ↓at10, ↓set10, ↓at11, ↓set11, ↓at12, ↓set12, ↓at13, ↓set13, ↓at14, ↓set14, ↓at15, ↓set15, ↓fz_d, ↓fz_own, ↓fz_ob, ↓one_d, ↓int_d, ↓bool_d, ↓own_o, ↓ds_nil, ↓ds_cons, ↓seq_l, ↓seq_t, ↓ite_t, ↓ite_f, ↓e_next, ↓e_seq, ↓e_set, ↓e_drop, ↓e_ret, ↓e_ifs, ↓e_brk, ↓e_cnt, ↓e_fixs, ↓e_par, ↓e_par3, ↓e_asg, ↓e_for, ↓e_putAt, ↓e_jput, ↓e_var, ↓e_k, ↓e_fz, ↓e_op, ↓e_opL, ↓e_opR, ↓e_n, ↓e_n1, ↓e_nil, ↓e_cons, ↓e_tup, ↓e_lst, ↓e_b, ↓e_not, ↓e_and, ↓e_or, ↓e_andV, ↓e_orV, ↓e_notV, ↓e_if, ↓e_isi, ↓e_neg, ↓e_chain, ↓e_call, ↓e_callK, ↓e_jint, ↓e_dict0, ↓e_dict1, ↓e_listRng, ↓e_append, ↓e_cut, ↓e_cutO, ↓e_onone, ↓e_osome, ↓e_iseq, ↓e_ienum, ↓e_irng, ↓e_gname, ↓e_lnil, ↓e_lcons, ↓e_lc, ↓e_yes, ↓f_addI, ↓f_addS, ↓f_addT, ↓f_addL, ↓f_i2, ↓f_mulI, ↓f_mulT, ↓f_mulL, ↓f_eq, ↓f_ne, ↓f_is, ↓f_isnot, ↓f_in, ↓f_notin, ↓f_ixL, ↓f_ixT, ↓f_lenL, ↓f_lenT, ↓f_lenS, ↓f_abs, ↓f_intI, ↓f_intB, ↓f_tupL, ↓f_tupT, ↓f_lstL, ↓f_lstT, ↓f_repr, ↓f_cutL, ↓f_cutT, ↓firm_d, ↓firm_ob, ↓zip_l, ↓zip_t, ↓e_izip, ↓zip_cons, ↓zip_nil1, ↓zip_nil2, ↓f_sorted, ↓e_inn, ↓e_inc, ↓e_l2n, ↓e_l2c, ↓e_lc2, ↓e_rev, ↓e_pop, ↓e_popAt, ↓e_extend, ↓e_lc3, ↓e_gon, ↓e_goc, ↓e_dbMid, ↓e_dbIn, ↓f_neu, ↓dgTup_tup, ↓dgCons_cons, ↓dgNil_nil, ite_t, ite_f, itK_not, List.cons_append, List.nil_append, List.append_nil, List.replicate, List.flatten_cons, List.flatten_nil, List.append_eq, List.length_cons, List.length_nil, Nat.zero_add, Nat.reduceAdd, true_and, and_true, eqOk_str, eqOk_int, eqOk_bool, str_eqv, int_eqv, tup_nil_eqv, lst_nil_eqv, rep_flat, isK_int, isK_bool, isK_tuple, isK_str, kInt, kBool, kTuple, kStr, GB.isNon, Bool.not_true, Bool.not_false, Bool.or_false, Bool.or_true, Bool.false_or, Bool.true_or, reduceCtorEq, ]
    refine ⟨by decide, by decide, loopR (fun j m ρ => ∃ acc s8, ρ = [S.d b.d, S.d (bW b), S.d (bR b), s3, s4, s5, .own acc, .d (.int k), s8, s9] ∧ j + m = 3 ∧ 0 ≤ j ∧ acc ++ remE b (3 + 3 * k.toNat + j.toNat) = entD b.d) ?_ ?_ 3 0 _ ⟨acc, _, rfl, by decide, by decide, h3⟩⟩
    · rintro j _ ⟨acc, s8, rfl, j1, j2, j3⟩
      have : j = 3 := by omega
      subst this
      refine hK _ ⟨acc, _, _, rfl, by omega, by omega, ?_⟩
      rw [show 3 + 3 * (k + 1).toNat = 3 + 3 * k.toNat + (3 : Int).toNat by omega]
      exact j3
    · rintro j m _ K2 hK2 ⟨acc, s8, rfl, j1, j2, j3⟩
      obtain ⟨c, rfl⟩ : ∃ c : Nat, j = c := ⟨j.toNat, by omega⟩
      obtain ⟨p, rfl⟩ : ∃ p : Nat, k = p := ⟨k.toNat, by omega⟩
      have nx : ∀ acc, acc ++ remE b (3 + 3 * p + c + 1) = entD b.d → K2 [S.d b.d, S.d (bW b), S.d (bR b), s3, s4, s5, .own acc, .d (.int p), .d (.int c), s9] := fun acc h => hK2 _ ⟨acc, _, rfl, by omega, by omega, h⟩
      have j3 : acc ++ remE b (3 + 3 * p + c) = entD b.d := j3
      have la := len_of hl j3
      have hp : p = 0 ∨ p = 1 := by omega
      have hc : c = 0 ∨ c = 1 ∨ c = 2 := by omega
      rcases hp with rfl | rfl <;> rcases hc with rfl | rfl | rfl
      all_goals
        rw [rem_yes rfl rfl rfl] at j3
        unfold bR
        simp only [↓at0, ↓set0, ↓at1, ↓set1, ↓at2, ↓set2, ↓at3, ↓set3, ↓at4, ↓set4, ↓at5, ↓set5, ↓at6, ↓set6, ↓at7, ↓set7, ↓at8, ↓set8, ↓at9, ↓set9, ↓at10, ↓set10, ↓at11, ↓set11, ↓at12, ↓set12, ↓at13, ↓set13, ↓at14, ↓set14, ↓at15, ↓set15, ↓fz_d, ↓fz_own, ↓fz_ob, ↓one_d, ↓int_d, ↓bool_d, ↓own_o, ↓ds_nil, ↓ds_cons, ↓seq_l, ↓seq_t, ↓ite_t, ↓ite_f, ↓e_next, ↓e_seq, ↓e_set, ↓e_drop, ↓e_ret, ↓e_ifs, ↓e_brk, ↓e_cnt, ↓e_fixs, ↓e_par, ↓e_par3, ↓e_asg, ↓e_for, ↓e_putAt, ↓e_jput, ↓e_var, ↓e_k, ↓e_fz, ↓e_op, ↓e_opL, ↓e_opR, ↓e_n, ↓e_n1, ↓e_nil, ↓e_cons, ↓e_tup, ↓e_lst, ↓e_b, ↓e_not, ↓e_and, ↓e_or, ↓e_andV, ↓e_orV, ↓e_notV, ↓e_if, ↓e_isi, ↓e_neg, ↓e_chain, ↓e_call, ↓e_callK, ↓e_jint, ↓e_dict0, ↓e_dict1, ↓e_listRng, ↓e_append, ↓e_cut, ↓e_cutO, ↓e_onone, ↓e_osome, ↓e_iseq, ↓e_ienum, ↓e_irng, ↓e_gname, ↓e_lnil, ↓e_lcons, ↓e_lc, ↓e_yes, ↓f_addI, ↓f_addS, ↓f_addT, ↓f_addL, ↓f_i2, ↓f_mulI, ↓f_mulT, ↓f_mulL, ↓f_eq, ↓f_ne, ↓f_is, ↓f_isnot, ↓f_in, ↓f_notin, ↓f_ixL, ↓f_ixT, ↓f_lenL, ↓f_lenT, ↓f_lenS, ↓f_abs, ↓f_intI, ↓f_intB, ↓f_tupL, ↓f_tupT, ↓f_lstL, ↓f_lstT, ↓f_repr, ↓f_cutL, ↓f_cutT, ↓firm_d, ↓firm_ob, ↓zip_l, ↓zip_t, ↓e_izip, ↓zip_cons, ↓zip_nil1, ↓zip_nil2, ↓f_sorted, ↓e_inn, ↓e_inc, ↓e_l2n, ↓e_l2c, ↓e_lc2, ↓e_rev, ↓e_pop, ↓e_popAt, ↓e_extend, ↓e_lc3, ↓e_gon, ↓e_goc, ↓e_dbMid, ↓e_dbIn, ↓f_neu, ↓dgTup_tup, ↓dgCons_cons, ↓dgNil_nil, ite_t, ite_f, itK_not, List.cons_append, List.nil_append, List.append_nil, List.replicate, List.flatten_cons, List.flatten_nil, List.append_eq, List.length_cons, List.length_nil, Nat.zero_add, Nat.reduceAdd, true_and, and_true, eqOk_str, eqOk_int, eqOk_bool, str_eqv, int_eqv, tup_nil_eqv, lst_nil_eqv, rep_flat, isK_int, isK_bool, isK_tuple, isK_str, kInt, kBool, kTuple, kStr, GB.isNon, Bool.not_true, Bool.not_false, Bool.or_false, Bool.or_true, Bool.false_or, Bool.true_or, reduceCtorEq, n0, n1, n2, ↓ix0, ↓ix1, ↓ix2]
        refine iteB (fun hv => ?_) fun hv => ?_
        · repeat (refine ⟨(show (_ : Prop) from by first | decide | omega | exact List.cons_ne_nil _ _ | (unfold CPow; decide) | (refine line_ge ?_; (try simp only [List.length_append, List.length_replicate, List.length_map, irow_len, Int.reduceToNat, List.length_cons, List.length_nil]); omega) | ((try simp only [List.length_append, List.length_replicate, List.length_map, irow_len, Int.reduceToNat, List.length_cons, List.length_nil]); omega)), ?_⟩)
          refine nx _ ?_
          rw [← j3]
          simp [Bo.has, hv, En.d]
        · refine nx _ ?_
          rw [← j3]
          simp [Bo.has, hv]
theorem go_m {R : S → Prop} {b : Bo} (ok : OkB b) {acc : List PyData} {s4 s5 s7 s8 s9 : S} (h : acc ++ remE b 1 = entD b.d) (hl : (entD b.d).length ≤ 27) (q : R (.d (.tuple (entD b.d)))) :
    tl_m { nx := fun _ => R (.d .none), rt := R } [S.d b.d, S.d (bW b), S.d (bR b), S.d (bM b), s4, s5, .own acc, s7, s8, s9] := by
  unfold tl_m
  simp only [↓at0, ↓set0, ↓at1, ↓set1, ↓at2, ↓set2, ↓at3, ↓set3, ↓at4, ↓set4, ↓at5, ↓set5, ↓at6, ↓set6, ↓at7, ↓set7, ↓at8, ↓set8, ↓at9, ↓set9, ↓at10, ↓set10, ↓at11, ↓set11, ↓at12, ↓set12, ↓at13, ↓set13, ↓at14, ↓set14, ↓at15, ↓set15, ↓fz_d, ↓fz_own, ↓fz_ob, ↓one_d, ↓int_d, ↓bool_d, ↓own_o, ↓ds_nil, ↓ds_cons, ↓seq_l, ↓seq_t, ↓ite_t, ↓ite_f, ↓e_next, ↓e_seq, ↓e_set, ↓e_drop, ↓e_ret, ↓e_ifs, ↓e_brk, ↓e_cnt, ↓e_fixs, ↓e_par, ↓e_par3, ↓e_asg, ↓e_for, ↓e_putAt, ↓e_jput, ↓e_var, ↓e_k, ↓e_fz, ↓e_op, ↓e_opL, ↓e_opR, ↓e_n, ↓e_n1, ↓e_nil, ↓e_cons, ↓e_tup, ↓e_lst, ↓e_b, ↓e_not, ↓e_and, ↓e_or, ↓e_andV, ↓e_orV, ↓e_notV, ↓e_if, ↓e_isi, ↓e_neg, ↓e_chain, ↓e_call, ↓e_callK, ↓e_jint, ↓e_dict0, ↓e_dict1, ↓e_listRng, ↓e_append, ↓e_cut, ↓e_cutO, ↓e_onone, ↓e_osome, ↓e_iseq, ↓e_ienum, ↓e_irng, ↓e_gname, ↓e_lnil, ↓e_lcons, ↓e_lc, ↓e_yes, ↓f_addI, ↓f_addS, ↓f_addT, ↓f_addL, ↓f_i2, ↓f_mulI, ↓f_mulT, ↓f_mulL, ↓f_eq, ↓f_ne, ↓f_is, ↓f_isnot, ↓f_in, ↓f_notin, ↓f_ixL, ↓f_ixT, ↓f_lenL, ↓f_lenT, ↓f_lenS, ↓f_abs, ↓f_intI, ↓f_intB, ↓f_tupL, ↓f_tupT, ↓f_lstL, ↓f_lstT, ↓f_repr, ↓f_cutL, ↓f_cutT, ↓firm_d, ↓firm_ob, ↓zip_l, ↓zip_t, ↓e_izip, ↓zip_cons, ↓zip_nil1, ↓zip_nil2, ↓f_sorted, ↓e_inn, ↓e_inc, ↓e_l2n, ↓e_l2c, ↓e_lc2, ↓e_rev, ↓e_pop, ↓e_popAt, ↓e_extend, ↓e_lc3, ↓e_gon, ↓e_goc, ↓e_dbMid, ↓e_dbIn, ↓f_neu, ↓dgTup_tup, ↓dgCons_cons, ↓dgNil_nil, ite_t, ite_f, itK_not, List.cons_append, List.nil_append, List.append_nil, List.replicate, List.flatten_cons, List.flatten_nil, List.append_eq, List.length_cons, List.length_nil, Nat.zero_add, Nat.reduceAdd, true_and, and_true, eqOk_str, eqOk_int, eqOk_bool, str_eqv, int_eqv, tup_nil_eqv, lst_nil_eqv, rep_flat, isK_int, isK_bool, isK_tuple, isK_str, kInt, kBool, kTuple, kStr, GB.isNon, Bool.not_true, Bool.not_false, Bool.or_false, Bool.or_true, Bool.false_or, Bool.true_or, reduceCtorEq, ]
  refine ⟨by decide, by decide, loopR (fun k n ρ => ∃ acc s7, ρ = [S.d b.d, S.d (bW b), S.d (bR b), S.d (bM b), s4, s5, .own acc, s7, s8, s9] ∧ k + n = 2 ∧ 0 ≤ k ∧ acc ++ remE b (1 + k.toNat) = entD b.d) ?_ ?_ 2 0 _ ⟨acc, _, rfl, by decide, by decide, h⟩⟩
  · rintro k _ ⟨acc, s7, rfl, h1, h2, h3⟩
    have : k = 2 := by omega
    subst this
    exact go_r h3 hl q
  · rintro k n _ K hK ⟨acc, s7, rfl, h1, h2, h3⟩
    obtain ⟨p, rfl⟩ : ∃ p : Nat, k = p := ⟨k.toNat, by omega⟩
    have nx : ∀ acc, acc ++ remE b (1 + p + 1) = entD b.d → K [S.d b.d, S.d (bW b), S.d (bR b), S.d (bM b), s4, s5, .own acc, .d (.int p), s8, s9] := fun acc h => hK _ ⟨acc, _, rfl, by omega, by omega, h⟩
    have j3 : acc ++ remE b (1 + p) = entD b.d := h3
    have la := len_of hl j3
    have hp : p = 0 ∨ p = 1 := by omega
    rcases hp with rfl | rfl
    all_goals
      rw [rem_yes rfl rfl rfl] at j3
      unfold bM
      simp only [↓at0, ↓set0, ↓at1, ↓set1, ↓at2, ↓set2, ↓at3, ↓set3, ↓at4, ↓set4, ↓at5, ↓set5, ↓at6, ↓set6, ↓at7, ↓set7, ↓at8, ↓set8, ↓at9, ↓set9, ↓at10, ↓set10, ↓at11, ↓set11, ↓at12, ↓set12, ↓at13, ↓set13, ↓at14, ↓set14, ↓at15, ↓set15, ↓fz_d, ↓fz_own, ↓fz_ob, ↓one_d, ↓int_d, ↓bool_d, ↓own_o, ↓ds_nil, ↓ds_cons, ↓seq_l, ↓seq_t, ↓ite_t, ↓ite_f, ↓e_next, ↓e_seq, ↓e_set, ↓e_drop, ↓e_ret, ↓e_ifs, ↓e_brk, ↓e_cnt, ↓e_fixs, ↓e_par, ↓e_par3, ↓e_asg, ↓e_for, ↓e_putAt, ↓e_jput, ↓e_var, ↓e_k, ↓e_fz, ↓e_op, ↓e_opL, ↓e_opR, ↓e_n, ↓e_n1, ↓e_nil, ↓e_cons, ↓e_tup, ↓e_lst, ↓e_b, ↓e_not, ↓e_and, ↓e_or, ↓e_andV, ↓e_orV, ↓e_notV, ↓e_if, ↓e_isi, ↓e_neg, ↓e_chain, ↓e_call, ↓e_callK, ↓e_jint, ↓e_dict0, ↓e_dict1, ↓e_listRng, ↓e_append, ↓e_cut, ↓e_cutO, ↓e_onone, ↓e_osome, ↓e_iseq, ↓e_ienum, ↓e_irng, ↓e_gname, ↓e_lnil, ↓e_lcons, ↓e_lc, ↓e_yes, ↓f_addI, ↓f_addS, ↓f_addT, ↓f_addL, ↓f_i2, ↓f_mulI, ↓f_mulT, ↓f_mulL, ↓f_eq, ↓f_ne, ↓f_is, ↓f_isnot, ↓f_in, ↓f_notin, ↓f_ixL, ↓f_ixT, ↓f_lenL, ↓f_lenT, ↓f_lenS, ↓f_abs, ↓f_intI, ↓f_intB, ↓f_tupL, ↓f_tupT, ↓f_lstL, ↓f_lstT, ↓f_repr, ↓f_cutL, ↓f_cutT, ↓firm_d, ↓firm_ob, ↓zip_l, ↓zip_t, ↓e_izip, ↓zip_cons, ↓zip_nil1, ↓zip_nil2, ↓f_sorted, ↓e_inn, ↓e_inc, ↓e_l2n, ↓e_l2c, ↓e_lc2, ↓e_rev, ↓e_pop, ↓e_popAt, ↓e_extend, ↓e_lc3, ↓e_gon, ↓e_goc, ↓e_dbMid, ↓e_dbIn, ↓f_neu, ↓dgTup_tup, ↓dgCons_cons, ↓dgNil_nil, ite_t, ite_f, itK_not, List.cons_append, List.nil_append, List.append_nil, List.replicate, List.flatten_cons, List.flatten_nil, List.append_eq, List.length_cons, List.length_nil, Nat.zero_add, Nat.reduceAdd, true_and, and_true, eqOk_str, eqOk_int, eqOk_bool, str_eqv, int_eqv, tup_nil_eqv, lst_nil_eqv, rep_flat, isK_int, isK_bool, isK_tuple, isK_str, kInt, kBool, kTuple, kStr, GB.isNon, Bool.not_true, Bool.not_false, Bool.or_false, Bool.or_true, Bool.false_or, Bool.true_or, reduceCtorEq, n0, n1, n2, ↓ix0, ↓ix1, ↓ix2, eqv_s]
      refine iteB (fun hv => ?_) fun hv => ?_
      · refine nx _ ?_
        rw [← j3]
        simp [Bo.has, hv]
      · refine ⟨by decide, la, nx _ ?_⟩
        rw [← j3]
        simp [Bo.has, hv, En.d]
theorem ent_len {b : Bo} (ok : OkB b) : (entD b.d).length ≤ 27 := by
  unfold entD
  rw [List.length_map]
  exact Nat.le_trans (List.length_filter_le _ _) (by decide)
theorem ent_rem {b : Bo} (ok : OkB b) : entD b.d = remE b 0 := by
  unfold entD remE
  rw [List.drop_zero]
  congr 1
  refine List.filter_congr fun e he => ?_
  rw [has_d b ok e he]
  cases b.has e <;> rfl
theorem ma_entries : ∀ ss R, ss.length = 1 → F_entries ss R → rd_entries { nx := fun _ => R (.d .none), rt := R } (ss ++ List.replicate 9 .un) := by
  rintro _ R - ⟨b, rfl, ok, q⟩
  have h0 := ent_rem ok
  rw [rem_yes rfl rfl rfl] at h0
  rw [rd_entries_tl]
  simp only [↓at0, ↓set0, ↓at1, ↓set1, ↓at2, ↓set2, ↓at3, ↓set3, ↓at4, ↓set4, ↓at5, ↓set5, ↓at6, ↓set6, ↓at7, ↓set7, ↓at8, ↓set8, ↓at9, ↓set9, ↓at10, ↓set10, ↓at11, ↓set11, ↓at12, ↓set12, ↓at13, ↓set13, ↓at14, ↓set14, ↓at15, ↓set15, ↓fz_d, ↓fz_own, ↓fz_ob, ↓one_d, ↓int_d, ↓bool_d, ↓own_o, ↓ds_nil, ↓ds_cons, ↓seq_l, ↓seq_t, ↓ite_t, ↓ite_f, ↓e_next, ↓e_seq, ↓e_set, ↓e_drop, ↓e_ret, ↓e_ifs, ↓e_brk, ↓e_cnt, ↓e_fixs, ↓e_par, ↓e_par3, ↓e_asg, ↓e_for, ↓e_putAt, ↓e_jput, ↓e_var, ↓e_k, ↓e_fz, ↓e_op, ↓e_opL, ↓e_opR, ↓e_n, ↓e_n1, ↓e_nil, ↓e_cons, ↓e_tup, ↓e_lst, ↓e_b, ↓e_not, ↓e_and, ↓e_or, ↓e_andV, ↓e_orV, ↓e_notV, ↓e_if, ↓e_isi, ↓e_neg, ↓e_chain, ↓e_call, ↓e_callK, ↓e_jint, ↓e_dict0, ↓e_dict1, ↓e_listRng, ↓e_append, ↓e_cut, ↓e_cutO, ↓e_onone, ↓e_osome, ↓e_iseq, ↓e_ienum, ↓e_irng, ↓e_gname, ↓e_lnil, ↓e_lcons, ↓e_lc, ↓e_yes, ↓f_addI, ↓f_addS, ↓f_addT, ↓f_addL, ↓f_i2, ↓f_mulI, ↓f_mulT, ↓f_mulL, ↓f_eq, ↓f_ne, ↓f_is, ↓f_isnot, ↓f_in, ↓f_notin, ↓f_ixL, ↓f_ixT, ↓f_lenL, ↓f_lenT, ↓f_lenS, ↓f_abs, ↓f_intI, ↓f_intB, ↓f_tupL, ↓f_tupT, ↓f_lstL, ↓f_lstT, ↓f_repr, ↓f_cutL, ↓f_cutT, ↓firm_d, ↓firm_ob, ↓zip_l, ↓zip_t, ↓e_izip, ↓zip_cons, ↓zip_nil1, ↓zip_nil2, ↓f_sorted, ↓e_inn, ↓e_inc, ↓e_l2n, ↓e_l2c, ↓e_lc2, ↓e_rev, ↓e_pop, ↓e_popAt, ↓e_extend, ↓e_lc3, ↓e_gon, ↓e_goc, ↓e_dbMid, ↓e_dbIn, ↓f_neu, ↓dgTup_tup, ↓dgCons_cons, ↓dgNil_nil, ite_t, ite_f, itK_not, List.cons_append, List.nil_append, List.append_nil, List.replicate, List.flatten_cons, List.flatten_nil, List.append_eq, List.length_cons, List.length_nil, Nat.zero_add, Nat.reduceAdd, true_and, and_true, eqOk_str, eqOk_int, eqOk_bool, str_eqv, int_eqv, tup_nil_eqv, lst_nil_eqv, rep_flat, isK_int, isK_bool, isK_tuple, isK_str, kInt, kBool, kTuple, kStr, GB.isNon, Bool.not_true, Bool.not_false, Bool.or_false, Bool.or_true, Bool.false_or, Bool.true_or, reduceCtorEq, ↓tg_b5]
  refine iteB (fun hv => ?_) fun hv => ?_
  · refine ⟨by decide, by decide, go_m ok ?_ (ent_len ok) q⟩
    rw [h0]
    simp [Bo.has, hv, En.d]
  · refine ⟨by decide, go_m ok ?_ (ent_len ok) q⟩
    rw [h0]
    simp [Bo.has, hv]
end GK

set_option maxRecDepth 20000
namespace GK
open PySem PySem.Spec PyProof.Rows L2 GB
end GK

set_option maxRecDepth 100000
namespace GK
open PySem PySem.Spec PyProof.Rows L2 GB
section
variable {f g : En → Bool} (h : ∀ e ∈ ENS, f e = true → g e = true)
include h
theorem early_m (z : earlyH f = true) : earlyH g = true := by
  unfold earlyH at z ⊢
  simp only [Bool.or_eq_true] at z ⊢
  exact z.imp (h _ (by decide +kernel)) fun z => z.imp (h _ (by decide +kernel)) fun z => z.imp (h _ (by decide +kernel)) (h _ (by decide +kernel))
theorem ways_mc {pc : Bool} {n : Int} (hc' : closedH g pc n = true) : ∀ z ∈ waysH f pc n, z ∈ waysH g pc n := by
  intro z hz
  unfold waysH at hz ⊢
  split at hz
  · rw [if_pos hc']
    have om : ∀ {a b : Bool} {y x : Str}, (a = true → b = true) → x ∈ opt a y → x ∈ opt b y := fun {a b y x} hab hx => by
      obtain ⟨h1, rfl⟩ := opt_mem hx
      rw [hab h1]; simp [opt]
    rcases List.mem_append.mp hz with hz | hz
    · refine List.mem_append.mpr (.inl (om (fun q => ?_) hz))
      simp only [Bool.and_eq_true] at q ⊢
      exact ⟨⟨h _ (by decide +kernel) q.1.1, old_m h (by decide) q.1.2⟩, h _ (by decide +kernel) q.2⟩
    · refine List.mem_append.mpr (.inr ?_)
      rcases List.mem_append.mp hz with hz | hz
      · refine List.mem_append.mpr (.inl (om (fun q => ?_) hz))
        simp only [Bool.and_eq_true] at q ⊢
        exact ⟨h _ (by decide +kernel) q.1, ins_m h (by decide) q.2⟩
      · refine List.mem_append.mpr (.inr ?_)
        rcases List.mem_append.mp hz with hz | hz
        · refine List.mem_append.mpr (.inl (om (fun q => ?_) hz))
          simp only [Bool.and_eq_true] at q ⊢
          exact ⟨⟨h _ (by decide +kernel) q.1.1, old_m h (by decide) q.1.2⟩, old_m h (by decide) q.2⟩
        · refine List.mem_append.mpr (.inr (om (fun q => ?_) hz))
          simp only [Bool.and_eq_true] at q ⊢
          exact ⟨h _ (by decide +kernel) q.1, h _ (by decide +kernel) q.2⟩
  · cases hz
end
theorem closed_of {f : En → Bool} {pc : Bool} {n : Int} (h : (!(waysH f pc n).isEmpty) = true) : closedH f pc n = true := by
  cases hc : closedH f pc n
  · unfold waysH at h
    rw [hc, if_neg (by decide)] at h
    exact absurd h (by decide)
  · rfl
/-- fewer entries, the same pieces -/
def Le (t p : Bo) : Prop := (∀ e ∈ ENS, t.has e = true → p.has e = true) ∧ t.p = p.p
theorem Le.rf (p : Bo) : Le p p := ⟨fun _ _ h => h, rfl⟩
theorem Le.tr {a b c : Bo} (h : Le a b) (k : Le b c) : Le a c := ⟨fun e he x => k.1 e he (h.1 e he x), h.2.trans k.2⟩
theorem le_tu (p : Bo) (e : En) : Le (p.tu e false) p := ⟨fun x _ h => by
  rw [tu_has] at h
  split at h
  · cases h
  · exact h, tu_p p e false⟩
theorem le_stp (n : Int) (p : Bo) (e : En) : Le (stp n p e) p := by
  unfold stp
  split
  · exact le_tu p e
  · exact Le.rf p
theorem le_fold (n : Int) : ∀ (l : List En) (p : Bo), Le (l.foldl (stp n) p) p
  | [], p => Le.rf p
  | e :: l, p => (le_fold n l (stp n p e)).tr (le_stp n p e)
theorem sf_stp {n : Int} {p : Bo} (h : sf p n = true) (e : En) : sf (stp n p e) n = true := by
  unfold stp
  split
  · assumption
  · exact h
theorem sf_fold {n : Int} : ∀ (l : List En) {p : Bo}, sf p n = true → sf (l.foldl (stp n) p) n = true
  | [], _, h => h
  | e :: l, _, h => sf_fold l (sf_stp h e)
theorem ok_fold {n : Int} : ∀ (l : List En) {p : Bo}, OkB p → OkB (l.foldl (stp n) p)
  | [], _, h => h
  | e :: l, p, h => ok_fold l (by
    unfold stp
    split
    · exact ok_tu h e false
    · exact h)
theorem le_tu2 {t p : Bo} (h : Le t p) (e : En) : Le (t.tu e false) (p.tu e false) := ⟨fun x hx q => by
  rw [tu_has] at q ⊢
  split at q
  · cases q
  · rename_i ne
    rw [if_neg ne]
    exact h.1 x hx q, by rw [tu_p, tu_p]; exact h.2⟩
/-- what stays safe with fewer stays so with more -/
theorem sf_up {n : Int} {t p : Bo} {e : En} (h : Le t p) (hp : sf p n = true) (c : n = 1 → earlyH (p.tu e false).has = true → insH (p.tu e false).has 0 p.p = true) (ht : sf (t.tu e false) n = true) : sf (p.tu e false) n = true := by
  have k := le_tu2 h e
  unfold sf at *
  rw [k.2] at ht
  by_cases hn : n = 1
  · cases he : earlyH (p.tu e false).has
    · refine ne_mono (ways_m k.1 (.inr ?_)) ht
      cases hf : earlyH (t.tu e false).has
      · exact he
      · rw [early_m k.1 hf] at he; cases he
    · refine ne_mono (ways_mc k.1 ?_) ht
      unfold closedH
      rw [tu_p, c hn he]; rfl
  · exact ne_mono (ways_m k.1 (.inl hn)) ht
/-- an entry that stays can't go -/
theorem stays {n : Int} {pc : Bool} : ∀ (l : List En) (p t : Bo), sf p n = true → (∀ e ∈ l, ∀ p', Le p' p → sf p' n = true → n = 1 → earlyH (p'.tu e false).has = true → insH (p'.tu e false).has 0 p'.p = true) → Le t (l.foldl (stp n) p) →
    ∀ e ∈ l, e ∈ ENS → t.has e = true → sf (t.tu e false) n = false
  | x :: l, p, t, hp, c, hl, e, he, hE, ht => by
    have h1 : Le (l.foldl (stp n) (stp n p x)) (stp n p x) := le_fold n l _
    rcases List.mem_cons.mp he with rfl | he
    · cases hs : sf (p.tu e false) n
      · cases hv : sf (t.tu e false) n
        · rfl
        · have : Le t p := (hl.tr h1).tr (le_stp n p e)
          rw [sf_up this hp (c e (by simp) p (Le.rf p) hp) hv] at hs
          cases hs
      · have z := (hl.tr h1).1 e hE ht
        unfold stp at z
        rw [if_pos hs, tu_has, if_pos rfl] at z
        cases z
    · exact stays (pc := pc) l (stp n p x) t (sf_stp hp x) (fun e' h' p' k => c e' (by simp [h']) p' (k.tr (le_stp n p x))) hl e he hE ht
def EAR : List En := [.make 0, .read 0 0, .write 0 0 "new", .write 0 0 "old"]
def E1 : List En := [.last, .make 0, .make 1, .read 0 0, .read 0 1, .read 0 2, .read 1 0, .read 1 1, .read 1 2, .write 0 0 "again", .write 0 0 "new", .write 0 0 "old"]
def E2 : List En := [.write 0 1 "again", .write 0 1 "new", .write 0 1 "old", .write 0 2 "again", .write 0 2 "new", .write 0 2 "old", .write 1 0 "again", .write 1 0 "new", .write 1 0 "old", .write 1 1 "again", .write 1 1 "new", .write 1 1 "old", .write 1 2 "again", .write 1 2 "new", .write 1 2 "old"]
theorem ens_12 : ENS = E1 ++ E2 := rfl
/-- with one hand, what is early may go -/
theorem sf_early {p : Bo} {x : En} (hx : x ∈ EAR) (h : sf p 1 = true) : sf (p.tu x false) 1 = true := by
  have hc := closed_of h
  have off : ∀ e, e ∉ EAR → (p.tu x false).has e = p.has e := fun e he => by
    rw [tu_has, if_neg]
    intro z; rw [z] at he; exact he hx
  have i0 : insH (p.tu x false).has 0 p.p = insH p.has 0 p.p := by
    unfold insH
    rw [off _ (by decide +kernel), off _ (by decide +kernel), off _ (by decide +kernel), off _ (by decide +kernel)]
  have i1 : insH (p.tu x false).has 1 p.p = insH p.has 1 p.p := by
    unfold insH
    rw [off _ (by decide +kernel), off _ (by decide +kernel), off _ (by decide +kernel), off _ (by decide +kernel)]
  have o : ∀ c, c < 2 → oldH (p.tu x false).has c 1 = oldH p.has c 1 := fun c hc => by
    unfold oldH
    rcases two c hc with rfl | rfl
    · rw [off _ (by decide +kernel)]; simp
    · rw [off _ (by decide +kernel)]; simp
  have hc2 : closedH (p.tu x false).has p.p 1 = true := by
    unfold closedH at hc ⊢
    rw [i0]
    simp only [Bool.or_eq_true, Bool.and_eq_true] at hc ⊢
    refine hc.imp id fun z => ⟨z.1, ?_⟩
    cases he : earlyH (p.tu x false).has
    · rfl
    · have := early_m (le_tu p x).1 he
      rw [this] at z
      exact absurd z.2 (by decide)
  unfold sf at h ⊢
  rw [tu_p]
  unfold waysH at h ⊢
  rw [if_pos hc] at h
  rw [if_pos hc2, i1, o 1 (by decide), o 0 (by decide), off (.make 1) (by decide +kernel), off (.read 1 0) (by decide +kernel), off .last (by decide +kernel), off (.read 1 1) (by decide +kernel)]
  exact h
theorem early_gone {x : En} (hx : x ∈ EAR) (hE : x ∈ ENS) : ∀ (l : List En) (p : Bo), x ∈ l → sf p 1 = true → (l.foldl (stp 1) p).has x = false
  | y :: l, p, hm, hp => by
    by_cases e : x = y
    · subst e
      have h1 : Le (l.foldl (stp 1) (stp 1 p x)) (stp 1 p x) := le_fold 1 l _
      cases hv : ((x :: l).foldl (stp 1) p).has x
      · rfl
      · have z := h1.1 x hE hv
        unfold stp at z
        rw [if_pos (sf_early hx hp), tu_has, if_pos rfl] at z
        cases z
    · exact early_gone hx hE l (stp 1 p y) (by rcases List.mem_cons.mp hm with h | h; exact absurd h e; exact h) (sf_stp hp y)
theorem lpart_12 (b : Bo) (n : Int) : lpart b n = (E2.filter b.has).foldl (stp n) ((E1.filter b.has).foldl (stp n) b) := by
  unfold lpart
  rw [ens_12, List.filter_append, List.foldl_append]
theorem le_lpart (b : Bo) (n : Int) : Le (lpart b n) b := le_fold n _ b
theorem sf_lpart {b : Bo} {n : Int} (h : sf b n = true) : sf (lpart b n) n = true := sf_fold _ h
theorem ok_lpart {b : Bo} {n : Int} (h : OkB b) : OkB (lpart b n) := ok_fold _ h
theorem least_lpart {b : Bo} {n : Int} (h : sf b n = true) : ∀ e ∈ ENS, (lpart b n).has e = true → sf ((lpart b n).tu e false) n = false := by
  intro e hE ht
  have hb := (le_lpart b n).1 e hE ht
  have he : e ∈ E1 ∨ e ∈ E2 := by rw [ens_12] at hE; exact List.mem_append.mp hE
  rw [lpart_12] at ht ⊢
  have q := sf_fold (n := n) (E1.filter b.has) h
  rcases he with he | he
  · refine stays (pc := b.p) (E1.filter b.has) b _ h (fun x hx p' k hp' hn hy => ?_) (le_fold n _ _) e (List.mem_filter.mpr ⟨he, hb⟩) hE ht
    have hx1 := (List.mem_filter.mp hx).1
    have off : ∀ c w, c < 3 → c ≠ 0 → (p'.tu x false).has (.write 0 c w) = p'.has (.write 0 c w) := fun c w _ hc => by
      rw [tu_has, if_neg]
      intro z; rw [← z] at hx1
      simp only [E1, List.mem_cons, En.write.injEq, List.not_mem_nil, or_false, reduceCtorEq, false_or] at hx1
      omega
    have hc := closed_of hp'
    unfold closedH at hc
    rw [early_m (le_tu p' x).1 hy] at hc
    unfold insH at hc ⊢
    rw [off _ _ (by decide) (by decide), off _ _ (by decide) (by decide), off _ _ (by decide) (by decide), off _ _ (by decide) (by decide)]
    simpa using hc
  · refine stays (pc := b.p) (E2.filter b.has) _ _ q (fun x hx p' k hp' hn hy => ?_) (Le.rf _) e (List.mem_filter.mpr ⟨he, hb⟩) hE ht
    subst hn
    have z := early_m k.1 (early_m (le_tu p' x).1 hy)
    have gone : ∀ y, y ∈ EAR → y ∈ ENS → y ∈ E1 → ((E1.filter b.has).foldl (stp 1) b).has y = false := fun y h1 h2 h3 => by
      cases hv : b.has y
      · cases hw : ((E1.filter b.has).foldl (stp 1) b).has y
        · rfl
        · rw [(le_fold 1 _ b).1 y h2 hw] at hv; cases hv
      · exact early_gone h1 h2 _ b (List.mem_filter.mpr ⟨h3, hv⟩) h
    unfold earlyH at z
    rw [gone (.write 0 0 "new") (by decide +kernel) (by decide +kernel) (by decide +kernel), gone (.write 0 0 "old") (by decide +kernel) (by decide +kernel) (by decide +kernel), gone (.read 0 0) (by decide +kernel) (by decide +kernel) (by decide +kernel), gone (.make 0) (by decide +kernel) (by decide +kernel) (by decide +kernel)] at z
    exact absurd z (by decide)
/-- where nothing can go, nothing goes -/
theorem fold_same {n : Int} : ∀ (l : List En) (b : Bo), (∀ e ∈ l, sf (b.tu e false) n = false) → l.foldl (stp n) b = b
  | [], _, _ => rfl
  | e :: l, b, h => by
    have : stp n b e = b := by
      unfold stp
      rw [h e (by simp)]; rfl
    rw [List.foldl_cons, this]
    exact fold_same l b fun x hx => h x (by simp [hx])
theorem lpart_same {b : Bo} {n : Int} (h : ∀ e ∈ ENS, b.has e = true → sf (b.tu e false) n = false) : lpart b n = b :=
  fold_same _ b fun e he => h e (List.mem_filter.mp he).1 (List.mem_filter.mp he).2
end GK

set_option maxRecDepth 100000
namespace GK
open PySem PySem.Spec PyProof.Rows L2 GB
theorem s_ent {k : S → Prop} {b : Bo} (ok : OkB b) : F_entries [.d b.d] k ↔ k (.d (.tuple (entD b.d))) := by
  constructor
  · rintro ⟨b', e, _, q⟩
    have e : b.d = b'.d := by simpa using e
    rw [e]; exact q
  · intro q; exact ⟨b, rfl, ok, q⟩
theorem ma_needless : ∀ ss R Z, ss.length = 2 → F_needless ss R Z → rd_needless Z { nx := fun _ => R (.d .none), rt := R } (ss ++ List.replicate 1 .un) := by
  rintro _ R Z - ⟨b, n, rfl, ok, q⟩
  unfold rd_needless
  simp only [↓at0, ↓set0, ↓at1, ↓set1, ↓at2, ↓set2, ↓at3, ↓set3, ↓at4, ↓set4, ↓at5, ↓set5, ↓at6, ↓set6, ↓at7, ↓set7, ↓at8, ↓set8, ↓at9, ↓set9, ↓at10, ↓set10, ↓at11, ↓set11, ↓at12, ↓set12, ↓at13, ↓set13, ↓at14, ↓set14, ↓at15, ↓set15, ↓fz_d, ↓fz_own, ↓fz_ob, ↓one_d, ↓int_d, ↓bool_d, ↓own_o, ↓ds_nil, ↓ds_cons, ↓seq_l, ↓seq_t, ↓ite_t, ↓ite_f, ↓e_next, ↓e_seq, ↓e_set, ↓e_drop, ↓e_ret, ↓e_ifs, ↓e_brk, ↓e_cnt, ↓e_fixs, ↓e_par, ↓e_par3, ↓e_asg, ↓e_for, ↓e_putAt, ↓e_jput, ↓e_var, ↓e_k, ↓e_fz, ↓e_op, ↓e_opL, ↓e_opR, ↓e_n, ↓e_n1, ↓e_nil, ↓e_cons, ↓e_tup, ↓e_lst, ↓e_b, ↓e_not, ↓e_and, ↓e_or, ↓e_andV, ↓e_orV, ↓e_notV, ↓e_if, ↓e_isi, ↓e_neg, ↓e_chain, ↓e_call, ↓e_callK, ↓e_jint, ↓e_dict0, ↓e_dict1, ↓e_listRng, ↓e_append, ↓e_cut, ↓e_cutO, ↓e_onone, ↓e_osome, ↓e_iseq, ↓e_ienum, ↓e_irng, ↓e_gname, ↓e_lnil, ↓e_lcons, ↓e_lc, ↓e_yes, ↓f_addI, ↓f_addS, ↓f_addT, ↓f_addL, ↓f_i2, ↓f_mulI, ↓f_mulT, ↓f_mulL, ↓f_eq, ↓f_ne, ↓f_is, ↓f_isnot, ↓f_in, ↓f_notin, ↓f_ixL, ↓f_ixT, ↓f_lenL, ↓f_lenT, ↓f_lenS, ↓f_abs, ↓f_intI, ↓f_intB, ↓f_tupL, ↓f_tupT, ↓f_lstL, ↓f_lstT, ↓f_repr, ↓f_cutL, ↓f_cutT, ↓firm_d, ↓firm_ob, ↓zip_l, ↓zip_t, ↓e_izip, ↓zip_cons, ↓zip_nil1, ↓zip_nil2, ↓f_sorted, ↓e_inn, ↓e_inc, ↓e_l2n, ↓e_l2c, ↓e_lc2, ↓e_rev, ↓e_pop, ↓e_popAt, ↓e_extend, ↓e_lc3, ↓e_gon, ↓e_goc, ↓e_dbMid, ↓e_dbIn, ↓f_neu, ↓dgTup_tup, ↓dgCons_cons, ↓dgNil_nil, ite_t, ite_f, itK_not, List.cons_append, List.nil_append, List.append_nil, List.replicate, List.flatten_cons, List.flatten_nil, List.append_eq, List.length_cons, List.length_nil, Nat.zero_add, Nat.reduceAdd, true_and, and_true, eqOk_str, eqOk_int, eqOk_bool, str_eqv, int_eqv, tup_nil_eqv, lst_nil_eqv, rep_flat, isK_int, isK_bool, isK_tuple, isK_str, kInt, kBool, kTuple, kStr, GB.isNon, Bool.not_true, Bool.not_false, Bool.or_false, Bool.or_true, Bool.false_or, Bool.true_or, reduceCtorEq, ↓s_safe ok, ↓e_raise]
  cases hw : (waysH b.has b.p n).isEmpty
  · rw [hw] at q
    refine ite_f.mpr ?_
    simp only [↓at0, ↓set0, ↓at1, ↓set1, ↓at2, ↓set2, ↓at3, ↓set3, ↓at4, ↓set4, ↓at5, ↓set5, ↓at6, ↓set6, ↓at7, ↓set7, ↓at8, ↓set8, ↓at9, ↓set9, ↓at10, ↓set10, ↓at11, ↓set11, ↓at12, ↓set12, ↓at13, ↓set13, ↓at14, ↓set14, ↓at15, ↓set15, ↓fz_d, ↓fz_own, ↓fz_ob, ↓one_d, ↓int_d, ↓bool_d, ↓own_o, ↓ds_nil, ↓ds_cons, ↓seq_l, ↓seq_t, ↓ite_t, ↓ite_f, ↓e_next, ↓e_seq, ↓e_set, ↓e_drop, ↓e_ret, ↓e_ifs, ↓e_brk, ↓e_cnt, ↓e_fixs, ↓e_par, ↓e_par3, ↓e_asg, ↓e_for, ↓e_putAt, ↓e_jput, ↓e_var, ↓e_k, ↓e_fz, ↓e_op, ↓e_opL, ↓e_opR, ↓e_n, ↓e_n1, ↓e_nil, ↓e_cons, ↓e_tup, ↓e_lst, ↓e_b, ↓e_not, ↓e_and, ↓e_or, ↓e_andV, ↓e_orV, ↓e_notV, ↓e_if, ↓e_isi, ↓e_neg, ↓e_chain, ↓e_call, ↓e_callK, ↓e_jint, ↓e_dict0, ↓e_dict1, ↓e_listRng, ↓e_append, ↓e_cut, ↓e_cutO, ↓e_onone, ↓e_osome, ↓e_iseq, ↓e_ienum, ↓e_irng, ↓e_gname, ↓e_lnil, ↓e_lcons, ↓e_lc, ↓e_yes, ↓f_addI, ↓f_addS, ↓f_addT, ↓f_addL, ↓f_i2, ↓f_mulI, ↓f_mulT, ↓f_mulL, ↓f_eq, ↓f_ne, ↓f_is, ↓f_isnot, ↓f_in, ↓f_notin, ↓f_ixL, ↓f_ixT, ↓f_lenL, ↓f_lenT, ↓f_lenS, ↓f_abs, ↓f_intI, ↓f_intB, ↓f_tupL, ↓f_tupT, ↓f_lstL, ↓f_lstT, ↓f_repr, ↓f_cutL, ↓f_cutT, ↓firm_d, ↓firm_ob, ↓zip_l, ↓zip_t, ↓e_izip, ↓zip_cons, ↓zip_nil1, ↓zip_nil2, ↓f_sorted, ↓e_inn, ↓e_inc, ↓e_l2n, ↓e_l2c, ↓e_lc2, ↓e_rev, ↓e_pop, ↓e_popAt, ↓e_extend, ↓e_lc3, ↓e_gon, ↓e_goc, ↓e_dbMid, ↓e_dbIn, ↓f_neu, ↓dgTup_tup, ↓dgCons_cons, ↓dgNil_nil, ite_t, ite_f, itK_not, List.cons_append, List.nil_append, List.append_nil, List.replicate, List.flatten_cons, List.flatten_nil, List.append_eq, List.length_cons, List.length_nil, Nat.zero_add, Nat.reduceAdd, true_and, and_true, eqOk_str, eqOk_int, eqOk_bool, str_eqv, int_eqv, tup_nil_eqv, lst_nil_eqv, rep_flat, isK_int, isK_bool, isK_tuple, isK_str, kInt, kBool, kTuple, kStr, GB.isNon, Bool.not_true, Bool.not_false, Bool.or_false, Bool.or_true, Bool.false_or, Bool.true_or, reduceCtorEq, ↓s_ent ok, wipeD, List.set]
    rw [ent_b ok]
    refine ⟨line_ge (by rw [List.length_map]; exact Nat.le_trans (List.length_filter_le _ _) (by decide)), es_run (P := fun e => !(waysH (b.tu e false).has b.p n).isEmpty) ?_ fun e he acc K y n' => ?_⟩
    · rw [List.filter_filter]
      have e0 : (ENS.filter fun e => !(waysH (b.tu e false).has b.p n).isEmpty && b.has e) = nbE b n := by
        unfold nbE
        refine List.filter_congr fun e _ => Bool.and_comm _ _
      rw [e0]
      exact q
    · have he' : e ∈ ENS := (List.mem_filter.mp he).1
      simp only [↓at0, ↓set0, ↓at1, ↓set1, ↓at2, ↓set2, ↓at3, ↓set3, ↓at4, ↓set4, ↓at5, ↓set5, ↓at6, ↓set6, ↓at7, ↓set7, ↓at8, ↓set8, ↓at9, ↓set9, ↓at10, ↓set10, ↓at11, ↓set11, ↓at12, ↓set12, ↓at13, ↓set13, ↓at14, ↓set14, ↓at15, ↓set15, ↓fz_d, ↓fz_own, ↓fz_ob, ↓one_d, ↓int_d, ↓bool_d, ↓own_o, ↓ds_nil, ↓ds_cons, ↓seq_l, ↓seq_t, ↓ite_t, ↓ite_f, ↓e_next, ↓e_seq, ↓e_set, ↓e_drop, ↓e_ret, ↓e_ifs, ↓e_brk, ↓e_cnt, ↓e_fixs, ↓e_par, ↓e_par3, ↓e_asg, ↓e_for, ↓e_putAt, ↓e_jput, ↓e_var, ↓e_k, ↓e_fz, ↓e_op, ↓e_opL, ↓e_opR, ↓e_n, ↓e_n1, ↓e_nil, ↓e_cons, ↓e_tup, ↓e_lst, ↓e_b, ↓e_not, ↓e_and, ↓e_or, ↓e_andV, ↓e_orV, ↓e_notV, ↓e_if, ↓e_isi, ↓e_neg, ↓e_chain, ↓e_call, ↓e_callK, ↓e_jint, ↓e_dict0, ↓e_dict1, ↓e_listRng, ↓e_append, ↓e_cut, ↓e_cutO, ↓e_onone, ↓e_osome, ↓e_iseq, ↓e_ienum, ↓e_irng, ↓e_gname, ↓e_lnil, ↓e_lcons, ↓e_lc, ↓e_yes, ↓f_addI, ↓f_addS, ↓f_addT, ↓f_addL, ↓f_i2, ↓f_mulI, ↓f_mulT, ↓f_mulL, ↓f_eq, ↓f_ne, ↓f_is, ↓f_isnot, ↓f_in, ↓f_notin, ↓f_ixL, ↓f_ixT, ↓f_lenL, ↓f_lenT, ↓f_lenS, ↓f_abs, ↓f_intI, ↓f_intB, ↓f_tupL, ↓f_tupT, ↓f_lstL, ↓f_lstT, ↓f_repr, ↓f_cutL, ↓f_cutT, ↓firm_d, ↓firm_ob, ↓zip_l, ↓zip_t, ↓e_izip, ↓zip_cons, ↓zip_nil1, ↓zip_nil2, ↓f_sorted, ↓e_inn, ↓e_inc, ↓e_l2n, ↓e_l2c, ↓e_lc2, ↓e_rev, ↓e_pop, ↓e_popAt, ↓e_extend, ↓e_lc3, ↓e_gon, ↓e_goc, ↓e_dbMid, ↓e_dbIn, ↓f_neu, ↓dgTup_tup, ↓dgCons_cons, ↓dgNil_nil, ite_t, ite_f, itK_not, List.cons_append, List.nil_append, List.append_nil, List.replicate, List.flatten_cons, List.flatten_nil, List.append_eq, List.length_cons, List.length_nil, Nat.zero_add, Nat.reduceAdd, true_and, and_true, eqOk_str, eqOk_int, eqOk_bool, str_eqv, int_eqv, tup_nil_eqv, lst_nil_eqv, rep_flat, isK_int, isK_bool, isK_tuple, isK_str, kInt, kBool, kTuple, kStr, GB.isNon, Bool.not_true, Bool.not_false, Bool.or_false, Bool.or_true, Bool.false_or, Bool.true_or, reduceCtorEq, wipeD, List.set]
      refine s_wo he' ?_
      have okf := ok_tu ok e false
      simp only [↓at0, ↓set0, ↓at1, ↓set1, ↓at2, ↓set2, ↓at3, ↓set3, ↓at4, ↓set4, ↓at5, ↓set5, ↓at6, ↓set6, ↓at7, ↓set7, ↓at8, ↓set8, ↓at9, ↓set9, ↓at10, ↓set10, ↓at11, ↓set11, ↓at12, ↓set12, ↓at13, ↓set13, ↓at14, ↓set14, ↓at15, ↓set15, ↓fz_d, ↓fz_own, ↓fz_ob, ↓one_d, ↓int_d, ↓bool_d, ↓own_o, ↓ds_nil, ↓ds_cons, ↓seq_l, ↓seq_t, ↓ite_t, ↓ite_f, ↓e_next, ↓e_seq, ↓e_set, ↓e_drop, ↓e_ret, ↓e_ifs, ↓e_brk, ↓e_cnt, ↓e_fixs, ↓e_par, ↓e_par3, ↓e_asg, ↓e_for, ↓e_putAt, ↓e_jput, ↓e_var, ↓e_k, ↓e_fz, ↓e_op, ↓e_opL, ↓e_opR, ↓e_n, ↓e_n1, ↓e_nil, ↓e_cons, ↓e_tup, ↓e_lst, ↓e_b, ↓e_not, ↓e_and, ↓e_or, ↓e_andV, ↓e_orV, ↓e_notV, ↓e_if, ↓e_isi, ↓e_neg, ↓e_chain, ↓e_call, ↓e_callK, ↓e_jint, ↓e_dict0, ↓e_dict1, ↓e_listRng, ↓e_append, ↓e_cut, ↓e_cutO, ↓e_onone, ↓e_osome, ↓e_iseq, ↓e_ienum, ↓e_irng, ↓e_gname, ↓e_lnil, ↓e_lcons, ↓e_lc, ↓e_yes, ↓f_addI, ↓f_addS, ↓f_addT, ↓f_addL, ↓f_i2, ↓f_mulI, ↓f_mulT, ↓f_mulL, ↓f_eq, ↓f_ne, ↓f_is, ↓f_isnot, ↓f_in, ↓f_notin, ↓f_ixL, ↓f_ixT, ↓f_lenL, ↓f_lenT, ↓f_lenS, ↓f_abs, ↓f_intI, ↓f_intB, ↓f_tupL, ↓f_tupT, ↓f_lstL, ↓f_lstT, ↓f_repr, ↓f_cutL, ↓f_cutT, ↓firm_d, ↓firm_ob, ↓zip_l, ↓zip_t, ↓e_izip, ↓zip_cons, ↓zip_nil1, ↓zip_nil2, ↓f_sorted, ↓e_inn, ↓e_inc, ↓e_l2n, ↓e_l2c, ↓e_lc2, ↓e_rev, ↓e_pop, ↓e_popAt, ↓e_extend, ↓e_lc3, ↓e_gon, ↓e_goc, ↓e_dbMid, ↓e_dbIn, ↓f_neu, ↓dgTup_tup, ↓dgCons_cons, ↓dgNil_nil, ite_t, ite_f, itK_not, List.cons_append, List.nil_append, List.append_nil, List.replicate, List.flatten_cons, List.flatten_nil, List.append_eq, List.length_cons, List.length_nil, Nat.zero_add, Nat.reduceAdd, true_and, and_true, eqOk_str, eqOk_int, eqOk_bool, str_eqv, int_eqv, tup_nil_eqv, lst_nil_eqv, rep_flat, isK_int, isK_bool, isK_tuple, isK_str, kInt, kBool, kTuple, kStr, GB.isNon, Bool.not_true, Bool.not_false, Bool.or_false, Bool.or_true, Bool.false_or, Bool.true_or, reduceCtorEq, ↓s_safe okf, tu_p]
      cases hv : (waysH (b.tu e false).has b.p n).isEmpty
      · exact y (by rw [hv]; rfl)
      · exact n' (by rw [hv]; rfl)
  · rw [hw] at q
    exact ite_t.mpr q
theorem s_need {k : S → Prop} {Z : Prop} {b : Bo} {n : Int} (ok : OkB b) (h : if (waysH b.has b.p n).isEmpty = true then Z else k (.d (.tuple ((nbE b n).map En.d)))) : F_needless [.d b.d, .d (.int n)] k Z := ⟨b, n, rfl, ok, h⟩
theorem ma_is_least : ∀ ss R, ss.length = 2 → F_is_least ss R → rd_is_least { nx := fun _ => R (.d .none), rt := R } (ss ++ List.replicate 0 .un) := by
  rintro _ R - ⟨b, n, rfl, ok, q⟩
  unfold rd_is_least
  simp only [↓at0, ↓set0, ↓at1, ↓set1, ↓at2, ↓set2, ↓at3, ↓set3, ↓at4, ↓set4, ↓at5, ↓set5, ↓at6, ↓set6, ↓at7, ↓set7, ↓at8, ↓set8, ↓at9, ↓set9, ↓at10, ↓set10, ↓at11, ↓set11, ↓at12, ↓set12, ↓at13, ↓set13, ↓at14, ↓set14, ↓at15, ↓set15, ↓fz_d, ↓fz_own, ↓fz_ob, ↓one_d, ↓int_d, ↓bool_d, ↓own_o, ↓ds_nil, ↓ds_cons, ↓seq_l, ↓seq_t, ↓ite_t, ↓ite_f, ↓e_next, ↓e_seq, ↓e_set, ↓e_drop, ↓e_ret, ↓e_ifs, ↓e_brk, ↓e_cnt, ↓e_fixs, ↓e_par, ↓e_par3, ↓e_asg, ↓e_for, ↓e_putAt, ↓e_jput, ↓e_var, ↓e_k, ↓e_fz, ↓e_op, ↓e_opL, ↓e_opR, ↓e_n, ↓e_n1, ↓e_nil, ↓e_cons, ↓e_tup, ↓e_lst, ↓e_b, ↓e_not, ↓e_and, ↓e_or, ↓e_andV, ↓e_orV, ↓e_notV, ↓e_if, ↓e_isi, ↓e_neg, ↓e_chain, ↓e_call, ↓e_callK, ↓e_jint, ↓e_dict0, ↓e_dict1, ↓e_listRng, ↓e_append, ↓e_cut, ↓e_cutO, ↓e_onone, ↓e_osome, ↓e_iseq, ↓e_ienum, ↓e_irng, ↓e_gname, ↓e_lnil, ↓e_lcons, ↓e_lc, ↓e_yes, ↓f_addI, ↓f_addS, ↓f_addT, ↓f_addL, ↓f_i2, ↓f_mulI, ↓f_mulT, ↓f_mulL, ↓f_eq, ↓f_ne, ↓f_is, ↓f_isnot, ↓f_in, ↓f_notin, ↓f_ixL, ↓f_ixT, ↓f_lenL, ↓f_lenT, ↓f_lenS, ↓f_abs, ↓f_intI, ↓f_intB, ↓f_tupL, ↓f_tupT, ↓f_lstL, ↓f_lstT, ↓f_repr, ↓f_cutL, ↓f_cutT, ↓firm_d, ↓firm_ob, ↓zip_l, ↓zip_t, ↓e_izip, ↓zip_cons, ↓zip_nil1, ↓zip_nil2, ↓f_sorted, ↓e_inn, ↓e_inc, ↓e_l2n, ↓e_l2c, ↓e_lc2, ↓e_rev, ↓e_pop, ↓e_popAt, ↓e_extend, ↓e_lc3, ↓e_gon, ↓e_goc, ↓e_dbMid, ↓e_dbIn, ↓f_neu, ↓dgTup_tup, ↓dgCons_cons, ↓dgNil_nil, ite_t, ite_f, itK_not, List.cons_append, List.nil_append, List.append_nil, List.replicate, List.flatten_cons, List.flatten_nil, List.append_eq, List.length_cons, List.length_nil, Nat.zero_add, Nat.reduceAdd, true_and, and_true, eqOk_str, eqOk_int, eqOk_bool, str_eqv, int_eqv, tup_nil_eqv, lst_nil_eqv, rep_flat, isK_int, isK_bool, isK_tuple, isK_str, kInt, kBool, kTuple, kStr, GB.isNon, Bool.not_true, Bool.not_false, Bool.or_false, Bool.or_true, Bool.false_or, Bool.true_or, reduceCtorEq, ↓s_safe ok, ↓e_notTu]
  cases hw : (waysH b.has b.p n).isEmpty
  · rw [hw] at q
    refine ite_f.mpr (s_need ok ?_)
    rw [hw]
    refine ⟨_, rfl, ?_⟩
    rw [List.isEmpty_map]
    exact q
  · rw [hw] at q
    exact ite_t.mpr q
theorem s_least {k : S → Prop} {b : Bo} {n : Int} (ok : OkB b) : F_is_least [.d b.d, .d (.int n)] k ↔ k (.d (.bool (!(waysH b.has b.p n).isEmpty && (nbE b n).isEmpty))) := by
  constructor
  · rintro ⟨b', n', e, ok', q⟩
    simp only [List.cons.injEq, S.d.injEq, PyData.int.injEq, and_true] at e
    obtain ⟨e, rfl⟩ := e
    have hh : ∀ m, waysH b.has b.p m = waysH b'.has b'.p m := fun m => by rw [d_p e]; exact ways_c (d_has ok ok' e) _ _
    have h2 : nbE b n = nbE b' n := by
      unfold nbE
      refine List.filter_congr fun x hx => ?_
      have : waysH (b.tu x false).has b.p n = waysH (b'.tu x false).has b'.p n := by
        rw [d_p e]
        refine ways_c (fun y hy => ?_) _ _
        rw [tu_has, tu_has, d_has ok ok' e y hy]
      rw [this, d_has ok ok' e x hx]
    rw [hh, h2]; exact q
  · intro q; exact ⟨b, n, rfl, ok, q⟩
theorem ma_least_part : ∀ ss R Z, ss.length = 2 → F_least_part ss R Z → rd_least_part Z { nx := fun _ => R (.d .none), rt := R } (ss ++ List.replicate 3 .un) := by
  rintro _ R Z - ⟨b, n, rfl, ok, q⟩
  unfold rd_least_part
  simp only [↓at0, ↓set0, ↓at1, ↓set1, ↓at2, ↓set2, ↓at3, ↓set3, ↓at4, ↓set4, ↓at5, ↓set5, ↓at6, ↓set6, ↓at7, ↓set7, ↓at8, ↓set8, ↓at9, ↓set9, ↓at10, ↓set10, ↓at11, ↓set11, ↓at12, ↓set12, ↓at13, ↓set13, ↓at14, ↓set14, ↓at15, ↓set15, ↓fz_d, ↓fz_own, ↓fz_ob, ↓one_d, ↓int_d, ↓bool_d, ↓own_o, ↓ds_nil, ↓ds_cons, ↓seq_l, ↓seq_t, ↓ite_t, ↓ite_f, ↓e_next, ↓e_seq, ↓e_set, ↓e_drop, ↓e_ret, ↓e_ifs, ↓e_brk, ↓e_cnt, ↓e_fixs, ↓e_par, ↓e_par3, ↓e_asg, ↓e_for, ↓e_putAt, ↓e_jput, ↓e_var, ↓e_k, ↓e_fz, ↓e_op, ↓e_opL, ↓e_opR, ↓e_n, ↓e_n1, ↓e_nil, ↓e_cons, ↓e_tup, ↓e_lst, ↓e_b, ↓e_not, ↓e_and, ↓e_or, ↓e_andV, ↓e_orV, ↓e_notV, ↓e_if, ↓e_isi, ↓e_neg, ↓e_chain, ↓e_call, ↓e_callK, ↓e_jint, ↓e_dict0, ↓e_dict1, ↓e_listRng, ↓e_append, ↓e_cut, ↓e_cutO, ↓e_onone, ↓e_osome, ↓e_iseq, ↓e_ienum, ↓e_irng, ↓e_gname, ↓e_lnil, ↓e_lcons, ↓e_lc, ↓e_yes, ↓f_addI, ↓f_addS, ↓f_addT, ↓f_addL, ↓f_i2, ↓f_mulI, ↓f_mulT, ↓f_mulL, ↓f_eq, ↓f_ne, ↓f_is, ↓f_isnot, ↓f_in, ↓f_notin, ↓f_ixL, ↓f_ixT, ↓f_lenL, ↓f_lenT, ↓f_lenS, ↓f_abs, ↓f_intI, ↓f_intB, ↓f_tupL, ↓f_tupT, ↓f_lstL, ↓f_lstT, ↓f_repr, ↓f_cutL, ↓f_cutT, ↓firm_d, ↓firm_ob, ↓zip_l, ↓zip_t, ↓e_izip, ↓zip_cons, ↓zip_nil1, ↓zip_nil2, ↓f_sorted, ↓e_inn, ↓e_inc, ↓e_l2n, ↓e_l2c, ↓e_lc2, ↓e_rev, ↓e_pop, ↓e_popAt, ↓e_extend, ↓e_lc3, ↓e_gon, ↓e_goc, ↓e_dbMid, ↓e_dbIn, ↓f_neu, ↓dgTup_tup, ↓dgCons_cons, ↓dgNil_nil, ite_t, ite_f, itK_not, List.cons_append, List.nil_append, List.append_nil, List.replicate, List.flatten_cons, List.flatten_nil, List.append_eq, List.length_cons, List.length_nil, Nat.zero_add, Nat.reduceAdd, true_and, and_true, eqOk_str, eqOk_int, eqOk_bool, str_eqv, int_eqv, tup_nil_eqv, lst_nil_eqv, rep_flat, isK_int, isK_bool, isK_tuple, isK_str, kInt, kBool, kTuple, kStr, GB.isNon, Bool.not_true, Bool.not_false, Bool.or_false, Bool.or_true, Bool.false_or, Bool.true_or, reduceCtorEq, ↓s_safe ok, ↓e_raise]
  unfold sf at q
  cases hw : (waysH b.has b.p n).isEmpty
  · rw [hw] at q
    refine ite_f.mpr ?_
    simp only [↓at0, ↓set0, ↓at1, ↓set1, ↓at2, ↓set2, ↓at3, ↓set3, ↓at4, ↓set4, ↓at5, ↓set5, ↓at6, ↓set6, ↓at7, ↓set7, ↓at8, ↓set8, ↓at9, ↓set9, ↓at10, ↓set10, ↓at11, ↓set11, ↓at12, ↓set12, ↓at13, ↓set13, ↓at14, ↓set14, ↓at15, ↓set15, ↓fz_d, ↓fz_own, ↓fz_ob, ↓one_d, ↓int_d, ↓bool_d, ↓own_o, ↓ds_nil, ↓ds_cons, ↓seq_l, ↓seq_t, ↓ite_t, ↓ite_f, ↓e_next, ↓e_seq, ↓e_set, ↓e_drop, ↓e_ret, ↓e_ifs, ↓e_brk, ↓e_cnt, ↓e_fixs, ↓e_par, ↓e_par3, ↓e_asg, ↓e_for, ↓e_putAt, ↓e_jput, ↓e_var, ↓e_k, ↓e_fz, ↓e_op, ↓e_opL, ↓e_opR, ↓e_n, ↓e_n1, ↓e_nil, ↓e_cons, ↓e_tup, ↓e_lst, ↓e_b, ↓e_not, ↓e_and, ↓e_or, ↓e_andV, ↓e_orV, ↓e_notV, ↓e_if, ↓e_isi, ↓e_neg, ↓e_chain, ↓e_call, ↓e_callK, ↓e_jint, ↓e_dict0, ↓e_dict1, ↓e_listRng, ↓e_append, ↓e_cut, ↓e_cutO, ↓e_onone, ↓e_osome, ↓e_iseq, ↓e_ienum, ↓e_irng, ↓e_gname, ↓e_lnil, ↓e_lcons, ↓e_lc, ↓e_yes, ↓f_addI, ↓f_addS, ↓f_addT, ↓f_addL, ↓f_i2, ↓f_mulI, ↓f_mulT, ↓f_mulL, ↓f_eq, ↓f_ne, ↓f_is, ↓f_isnot, ↓f_in, ↓f_notin, ↓f_ixL, ↓f_ixT, ↓f_lenL, ↓f_lenT, ↓f_lenS, ↓f_abs, ↓f_intI, ↓f_intB, ↓f_tupL, ↓f_tupT, ↓f_lstL, ↓f_lstT, ↓f_repr, ↓f_cutL, ↓f_cutT, ↓firm_d, ↓firm_ob, ↓zip_l, ↓zip_t, ↓e_izip, ↓zip_cons, ↓zip_nil1, ↓zip_nil2, ↓f_sorted, ↓e_inn, ↓e_inc, ↓e_l2n, ↓e_l2c, ↓e_lc2, ↓e_rev, ↓e_pop, ↓e_popAt, ↓e_extend, ↓e_lc3, ↓e_gon, ↓e_goc, ↓e_dbMid, ↓e_dbIn, ↓f_neu, ↓dgTup_tup, ↓dgCons_cons, ↓dgNil_nil, ite_t, ite_f, itK_not, List.cons_append, List.nil_append, List.append_nil, List.replicate, List.flatten_cons, List.flatten_nil, List.append_eq, List.length_cons, List.length_nil, Nat.zero_add, Nat.reduceAdd, true_and, and_true, eqOk_str, eqOk_int, eqOk_bool, str_eqv, int_eqv, tup_nil_eqv, lst_nil_eqv, rep_flat, isK_int, isK_bool, isK_tuple, isK_str, kInt, kBool, kTuple, kStr, GB.isNon, Bool.not_true, Bool.not_false, Bool.or_false, Bool.or_true, Bool.false_or, Bool.true_or, reduceCtorEq, ↓s_ent ok, wipeD, List.set]
    rw [ent_b ok]
    refine loopI (fun ds ρ => ∃ (es : List En) (p : Bo) (s3 s4 : S), ds = es.map En.d ∧ (∀ e ∈ es, e ∈ ENS) ∧ OkB p ∧ es.foldl (stp n) p = lpart b n ∧ ρ = [S.d b.d, S.d (.int n), S.d p.d, s3, s4]) ?_ ?_ _ _ ⟨ENS.filter b.has, b, _, _, rfl, fun e he => (List.mem_filter.mp he).1, ok, rfl, rfl⟩
    · rintro _ ⟨es, p, s3, s4, e, _, _, h, rfl⟩
      cases es with
      | nil =>
        have h : p = lpart b n := h
        subst h
        simp only [↓at0, ↓set0, ↓at1, ↓set1, ↓at2, ↓set2, ↓at3, ↓set3, ↓at4, ↓set4, ↓at5, ↓set5, ↓at6, ↓set6, ↓at7, ↓set7, ↓at8, ↓set8, ↓at9, ↓set9, ↓at10, ↓set10, ↓at11, ↓set11, ↓at12, ↓set12, ↓at13, ↓set13, ↓at14, ↓set14, ↓at15, ↓set15, ↓fz_d, ↓fz_own, ↓fz_ob, ↓one_d, ↓int_d, ↓bool_d, ↓own_o, ↓ds_nil, ↓ds_cons, ↓seq_l, ↓seq_t, ↓ite_t, ↓ite_f, ↓e_next, ↓e_seq, ↓e_set, ↓e_drop, ↓e_ret, ↓e_ifs, ↓e_brk, ↓e_cnt, ↓e_fixs, ↓e_par, ↓e_par3, ↓e_asg, ↓e_for, ↓e_putAt, ↓e_jput, ↓e_var, ↓e_k, ↓e_fz, ↓e_op, ↓e_opL, ↓e_opR, ↓e_n, ↓e_n1, ↓e_nil, ↓e_cons, ↓e_tup, ↓e_lst, ↓e_b, ↓e_not, ↓e_and, ↓e_or, ↓e_andV, ↓e_orV, ↓e_notV, ↓e_if, ↓e_isi, ↓e_neg, ↓e_chain, ↓e_call, ↓e_callK, ↓e_jint, ↓e_dict0, ↓e_dict1, ↓e_listRng, ↓e_append, ↓e_cut, ↓e_cutO, ↓e_onone, ↓e_osome, ↓e_iseq, ↓e_ienum, ↓e_irng, ↓e_gname, ↓e_lnil, ↓e_lcons, ↓e_lc, ↓e_yes, ↓f_addI, ↓f_addS, ↓f_addT, ↓f_addL, ↓f_i2, ↓f_mulI, ↓f_mulT, ↓f_mulL, ↓f_eq, ↓f_ne, ↓f_is, ↓f_isnot, ↓f_in, ↓f_notin, ↓f_ixL, ↓f_ixT, ↓f_lenL, ↓f_lenT, ↓f_lenS, ↓f_abs, ↓f_intI, ↓f_intB, ↓f_tupL, ↓f_tupT, ↓f_lstL, ↓f_lstT, ↓f_repr, ↓f_cutL, ↓f_cutT, ↓firm_d, ↓firm_ob, ↓zip_l, ↓zip_t, ↓e_izip, ↓zip_cons, ↓zip_nil1, ↓zip_nil2, ↓f_sorted, ↓e_inn, ↓e_inc, ↓e_l2n, ↓e_l2c, ↓e_lc2, ↓e_rev, ↓e_pop, ↓e_popAt, ↓e_extend, ↓e_lc3, ↓e_gon, ↓e_goc, ↓e_dbMid, ↓e_dbIn, ↓f_neu, ↓dgTup_tup, ↓dgCons_cons, ↓dgNil_nil, ite_t, ite_f, itK_not, List.cons_append, List.nil_append, List.append_nil, List.replicate, List.flatten_cons, List.flatten_nil, List.append_eq, List.length_cons, List.length_nil, Nat.zero_add, Nat.reduceAdd, true_and, and_true, eqOk_str, eqOk_int, eqOk_bool, str_eqv, int_eqv, tup_nil_eqv, lst_nil_eqv, rep_flat, isK_int, isK_bool, isK_tuple, isK_str, kInt, kBool, kTuple, kStr, GB.isNon, Bool.not_true, Bool.not_false, Bool.or_false, Bool.or_true, Bool.false_or, Bool.true_or, reduceCtorEq, ]
        exact q
      | cons _ _ => cases e
    · rintro d ds _ K hK ⟨es, p, s3, s4, e, hE, okp, h, rfl⟩
      cases es with
      | nil => cases e
      | cons x es =>
        cases e
        simp only [↓at0, ↓set0, ↓at1, ↓set1, ↓at2, ↓set2, ↓at3, ↓set3, ↓at4, ↓set4, ↓at5, ↓set5, ↓at6, ↓set6, ↓at7, ↓set7, ↓at8, ↓set8, ↓at9, ↓set9, ↓at10, ↓set10, ↓at11, ↓set11, ↓at12, ↓set12, ↓at13, ↓set13, ↓at14, ↓set14, ↓at15, ↓set15, ↓fz_d, ↓fz_own, ↓fz_ob, ↓one_d, ↓int_d, ↓bool_d, ↓own_o, ↓ds_nil, ↓ds_cons, ↓seq_l, ↓seq_t, ↓ite_t, ↓ite_f, ↓e_next, ↓e_seq, ↓e_set, ↓e_drop, ↓e_ret, ↓e_ifs, ↓e_brk, ↓e_cnt, ↓e_fixs, ↓e_par, ↓e_par3, ↓e_asg, ↓e_for, ↓e_putAt, ↓e_jput, ↓e_var, ↓e_k, ↓e_fz, ↓e_op, ↓e_opL, ↓e_opR, ↓e_n, ↓e_n1, ↓e_nil, ↓e_cons, ↓e_tup, ↓e_lst, ↓e_b, ↓e_not, ↓e_and, ↓e_or, ↓e_andV, ↓e_orV, ↓e_notV, ↓e_if, ↓e_isi, ↓e_neg, ↓e_chain, ↓e_call, ↓e_callK, ↓e_jint, ↓e_dict0, ↓e_dict1, ↓e_listRng, ↓e_append, ↓e_cut, ↓e_cutO, ↓e_onone, ↓e_osome, ↓e_iseq, ↓e_ienum, ↓e_irng, ↓e_gname, ↓e_lnil, ↓e_lcons, ↓e_lc, ↓e_yes, ↓f_addI, ↓f_addS, ↓f_addT, ↓f_addL, ↓f_i2, ↓f_mulI, ↓f_mulT, ↓f_mulL, ↓f_eq, ↓f_ne, ↓f_is, ↓f_isnot, ↓f_in, ↓f_notin, ↓f_ixL, ↓f_ixT, ↓f_lenL, ↓f_lenT, ↓f_lenS, ↓f_abs, ↓f_intI, ↓f_intB, ↓f_tupL, ↓f_tupT, ↓f_lstL, ↓f_lstT, ↓f_repr, ↓f_cutL, ↓f_cutT, ↓firm_d, ↓firm_ob, ↓zip_l, ↓zip_t, ↓e_izip, ↓zip_cons, ↓zip_nil1, ↓zip_nil2, ↓f_sorted, ↓e_inn, ↓e_inc, ↓e_l2n, ↓e_l2c, ↓e_lc2, ↓e_rev, ↓e_pop, ↓e_popAt, ↓e_extend, ↓e_lc3, ↓e_gon, ↓e_goc, ↓e_dbMid, ↓e_dbIn, ↓f_neu, ↓dgTup_tup, ↓dgCons_cons, ↓dgNil_nil, ite_t, ite_f, itK_not, List.cons_append, List.nil_append, List.append_nil, List.replicate, List.flatten_cons, List.flatten_nil, List.append_eq, List.length_cons, List.length_nil, Nat.zero_add, Nat.reduceAdd, true_and, and_true, eqOk_str, eqOk_int, eqOk_bool, str_eqv, int_eqv, tup_nil_eqv, lst_nil_eqv, rep_flat, isK_int, isK_bool, isK_tuple, isK_str, kInt, kBool, kTuple, kStr, GB.isNon, Bool.not_true, Bool.not_false, Bool.or_false, Bool.or_true, Bool.false_or, Bool.true_or, reduceCtorEq, ]
        refine s_wo (hE x (by simp)) ?_
        have okf := ok_tu okp x false
        simp only [↓at0, ↓set0, ↓at1, ↓set1, ↓at2, ↓set2, ↓at3, ↓set3, ↓at4, ↓set4, ↓at5, ↓set5, ↓at6, ↓set6, ↓at7, ↓set7, ↓at8, ↓set8, ↓at9, ↓set9, ↓at10, ↓set10, ↓at11, ↓set11, ↓at12, ↓set12, ↓at13, ↓set13, ↓at14, ↓set14, ↓at15, ↓set15, ↓fz_d, ↓fz_own, ↓fz_ob, ↓one_d, ↓int_d, ↓bool_d, ↓own_o, ↓ds_nil, ↓ds_cons, ↓seq_l, ↓seq_t, ↓ite_t, ↓ite_f, ↓e_next, ↓e_seq, ↓e_set, ↓e_drop, ↓e_ret, ↓e_ifs, ↓e_brk, ↓e_cnt, ↓e_fixs, ↓e_par, ↓e_par3, ↓e_asg, ↓e_for, ↓e_putAt, ↓e_jput, ↓e_var, ↓e_k, ↓e_fz, ↓e_op, ↓e_opL, ↓e_opR, ↓e_n, ↓e_n1, ↓e_nil, ↓e_cons, ↓e_tup, ↓e_lst, ↓e_b, ↓e_not, ↓e_and, ↓e_or, ↓e_andV, ↓e_orV, ↓e_notV, ↓e_if, ↓e_isi, ↓e_neg, ↓e_chain, ↓e_call, ↓e_callK, ↓e_jint, ↓e_dict0, ↓e_dict1, ↓e_listRng, ↓e_append, ↓e_cut, ↓e_cutO, ↓e_onone, ↓e_osome, ↓e_iseq, ↓e_ienum, ↓e_irng, ↓e_gname, ↓e_lnil, ↓e_lcons, ↓e_lc, ↓e_yes, ↓f_addI, ↓f_addS, ↓f_addT, ↓f_addL, ↓f_i2, ↓f_mulI, ↓f_mulT, ↓f_mulL, ↓f_eq, ↓f_ne, ↓f_is, ↓f_isnot, ↓f_in, ↓f_notin, ↓f_ixL, ↓f_ixT, ↓f_lenL, ↓f_lenT, ↓f_lenS, ↓f_abs, ↓f_intI, ↓f_intB, ↓f_tupL, ↓f_tupT, ↓f_lstL, ↓f_lstT, ↓f_repr, ↓f_cutL, ↓f_cutT, ↓firm_d, ↓firm_ob, ↓zip_l, ↓zip_t, ↓e_izip, ↓zip_cons, ↓zip_nil1, ↓zip_nil2, ↓f_sorted, ↓e_inn, ↓e_inc, ↓e_l2n, ↓e_l2c, ↓e_lc2, ↓e_rev, ↓e_pop, ↓e_popAt, ↓e_extend, ↓e_lc3, ↓e_gon, ↓e_goc, ↓e_dbMid, ↓e_dbIn, ↓f_neu, ↓dgTup_tup, ↓dgCons_cons, ↓dgNil_nil, ite_t, ite_f, itK_not, List.cons_append, List.nil_append, List.append_nil, List.replicate, List.flatten_cons, List.flatten_nil, List.append_eq, List.length_cons, List.length_nil, Nat.zero_add, Nat.reduceAdd, true_and, and_true, eqOk_str, eqOk_int, eqOk_bool, str_eqv, int_eqv, tup_nil_eqv, lst_nil_eqv, rep_flat, isK_int, isK_bool, isK_tuple, isK_str, kInt, kBool, kTuple, kStr, GB.isNon, Bool.not_true, Bool.not_false, Bool.or_false, Bool.or_true, Bool.false_or, Bool.true_or, reduceCtorEq, ↓s_safe okf]
        have h : es.foldl (stp n) (stp n p x) = lpart b n := h
        unfold stp sf at h
        cases hv : (waysH (p.tu x false).has (p.tu x false).p n).isEmpty
        · rw [hv] at h
          refine ite_f.mpr ?_
          exact hK _ ⟨es, _, _, _, rfl, fun e he => hE e (by simp [he]), okf, h, rfl⟩
        · rw [hv] at h
          refine ite_t.mpr ?_
          exact hK _ ⟨es, _, _, _, rfl, fun e he => hE e (by simp [he]), okp, h, rfl⟩
  · rw [hw] at q
    exact ite_t.mpr q
theorem s_part {k : S → Prop} {Z : Prop} {b : Bo} {n : Int} (ok : OkB b) (h : if sf b n = true then k (.d (lpart b n).d) else Z) : F_least_part [.d b.d, .d (.int n)] k Z := ⟨b, n, rfl, ok, h⟩
theorem ma_l_said : ∀ ss R, ss.length = 3 → F_l_said ss R → rd_l_said { nx := fun _ => R (.d .none), rt := R } (ss ++ List.replicate 1 .un) := by
  rintro _ R - ⟨b, n, v, rfl, ok, q⟩
  unfold rd_l_said
  unfold saidD at q
  simp only [↓at0, ↓set0, ↓at1, ↓set1, ↓at2, ↓set2, ↓at3, ↓set3, ↓at4, ↓set4, ↓at5, ↓set5, ↓at6, ↓set6, ↓at7, ↓set7, ↓at8, ↓set8, ↓at9, ↓set9, ↓at10, ↓set10, ↓at11, ↓set11, ↓at12, ↓set12, ↓at13, ↓set13, ↓at14, ↓set14, ↓at15, ↓set15, ↓fz_d, ↓fz_own, ↓fz_ob, ↓one_d, ↓int_d, ↓bool_d, ↓own_o, ↓ds_nil, ↓ds_cons, ↓seq_l, ↓seq_t, ↓ite_t, ↓ite_f, ↓e_next, ↓e_seq, ↓e_set, ↓e_drop, ↓e_ret, ↓e_ifs, ↓e_brk, ↓e_cnt, ↓e_fixs, ↓e_par, ↓e_par3, ↓e_asg, ↓e_for, ↓e_putAt, ↓e_jput, ↓e_var, ↓e_k, ↓e_fz, ↓e_op, ↓e_opL, ↓e_opR, ↓e_n, ↓e_n1, ↓e_nil, ↓e_cons, ↓e_tup, ↓e_lst, ↓e_b, ↓e_not, ↓e_and, ↓e_or, ↓e_andV, ↓e_orV, ↓e_notV, ↓e_if, ↓e_isi, ↓e_neg, ↓e_chain, ↓e_call, ↓e_callK, ↓e_jint, ↓e_dict0, ↓e_dict1, ↓e_listRng, ↓e_append, ↓e_cut, ↓e_cutO, ↓e_onone, ↓e_osome, ↓e_iseq, ↓e_ienum, ↓e_irng, ↓e_gname, ↓e_lnil, ↓e_lcons, ↓e_lc, ↓e_yes, ↓f_addI, ↓f_addS, ↓f_addT, ↓f_addL, ↓f_i2, ↓f_mulI, ↓f_mulT, ↓f_mulL, ↓f_eq, ↓f_ne, ↓f_is, ↓f_isnot, ↓f_in, ↓f_notin, ↓f_ixL, ↓f_ixT, ↓f_lenL, ↓f_lenT, ↓f_lenS, ↓f_abs, ↓f_intI, ↓f_intB, ↓f_tupL, ↓f_tupT, ↓f_lstL, ↓f_lstT, ↓f_repr, ↓f_cutL, ↓f_cutT, ↓firm_d, ↓firm_ob, ↓zip_l, ↓zip_t, ↓e_izip, ↓zip_cons, ↓zip_nil1, ↓zip_nil2, ↓f_sorted, ↓e_inn, ↓e_inc, ↓e_l2n, ↓e_l2c, ↓e_lc2, ↓e_rev, ↓e_pop, ↓e_popAt, ↓e_extend, ↓e_lc3, ↓e_gon, ↓e_goc, ↓e_dbMid, ↓e_dbIn, ↓f_neu, ↓dgTup_tup, ↓dgCons_cons, ↓dgNil_nil, ite_t, ite_f, itK_not, List.cons_append, List.nil_append, List.append_nil, List.replicate, List.flatten_cons, List.flatten_nil, List.append_eq, List.length_cons, List.length_nil, Nat.zero_add, Nat.reduceAdd, true_and, and_true, eqOk_str, eqOk_int, eqOk_bool, str_eqv, int_eqv, tup_nil_eqv, lst_nil_eqv, rep_flat, isK_int, isK_bool, isK_tuple, isK_str, kInt, kBool, kTuple, kStr, GB.isNon, Bool.not_true, Bool.not_false, Bool.or_false, Bool.or_true, Bool.false_or, Bool.true_or, reduceCtorEq, ↓e_try, ↓e_callX, ↓e_callKX, pk10, List.set]
  have key : F_least_part [S.d b.d, S.d (PyData.int n)] (fun s => R s) (3 < 4 ∧ R (S.d (PyData.str (Str.ofString "unfit")))) := by
    refine s_part ok ?_
    cases hw : sf b n
    · rw [hw] at q
      exact ⟨by decide, q⟩
    · rw [hw] at q
      exact q
  exact iteB (fun _ => key) fun _ => key
theorem ma_l_is_least : ∀ ss R, ss.length = 3 → F_l_is_least ss R → rd_l_is_least { nx := fun _ => R (.d .none), rt := R } (ss ++ List.replicate 3 .un) := by
  rintro _ R - ⟨es, pc, n, rfl, hs, hl, hn, q⟩
  unfold rd_l_is_least
  simp only [↓at0, ↓set0, ↓at1, ↓set1, ↓at2, ↓set2, ↓at3, ↓set3, ↓at4, ↓set4, ↓at5, ↓set5, ↓at6, ↓set6, ↓at7, ↓set7, ↓at8, ↓set8, ↓at9, ↓set9, ↓at10, ↓set10, ↓at11, ↓set11, ↓at12, ↓set12, ↓at13, ↓set13, ↓at14, ↓set14, ↓at15, ↓set15, ↓fz_d, ↓fz_own, ↓fz_ob, ↓one_d, ↓int_d, ↓bool_d, ↓own_o, ↓ds_nil, ↓ds_cons, ↓seq_l, ↓seq_t, ↓ite_t, ↓ite_f, ↓e_next, ↓e_seq, ↓e_set, ↓e_drop, ↓e_ret, ↓e_ifs, ↓e_brk, ↓e_cnt, ↓e_fixs, ↓e_par, ↓e_par3, ↓e_asg, ↓e_for, ↓e_putAt, ↓e_jput, ↓e_var, ↓e_k, ↓e_fz, ↓e_op, ↓e_opL, ↓e_opR, ↓e_n, ↓e_n1, ↓e_nil, ↓e_cons, ↓e_tup, ↓e_lst, ↓e_b, ↓e_not, ↓e_and, ↓e_or, ↓e_andV, ↓e_orV, ↓e_notV, ↓e_if, ↓e_isi, ↓e_neg, ↓e_chain, ↓e_call, ↓e_callK, ↓e_jint, ↓e_dict0, ↓e_dict1, ↓e_listRng, ↓e_append, ↓e_cut, ↓e_cutO, ↓e_onone, ↓e_osome, ↓e_iseq, ↓e_ienum, ↓e_irng, ↓e_gname, ↓e_lnil, ↓e_lcons, ↓e_lc, ↓e_yes, ↓f_addI, ↓f_addS, ↓f_addT, ↓f_addL, ↓f_i2, ↓f_mulI, ↓f_mulT, ↓f_mulL, ↓f_eq, ↓f_ne, ↓f_is, ↓f_isnot, ↓f_in, ↓f_notin, ↓f_ixL, ↓f_ixT, ↓f_lenL, ↓f_lenT, ↓f_lenS, ↓f_abs, ↓f_intI, ↓f_intB, ↓f_tupL, ↓f_tupT, ↓f_lstL, ↓f_lstT, ↓f_repr, ↓f_cutL, ↓f_cutT, ↓firm_d, ↓firm_ob, ↓zip_l, ↓zip_t, ↓e_izip, ↓zip_cons, ↓zip_nil1, ↓zip_nil2, ↓f_sorted, ↓e_inn, ↓e_inc, ↓e_l2n, ↓e_l2c, ↓e_lc2, ↓e_rev, ↓e_pop, ↓e_popAt, ↓e_extend, ↓e_lc3, ↓e_gon, ↓e_goc, ↓e_dbMid, ↓e_dbIn, ↓f_neu, ↓dgTup_tup, ↓dgCons_cons, ↓dgNil_nil, ite_t, ite_f, itK_not, List.cons_append, List.nil_append, List.append_nil, List.replicate, List.flatten_cons, List.flatten_nil, List.append_eq, List.length_cons, List.length_nil, Nat.zero_add, Nat.reduceAdd, true_and, and_true, eqOk_str, eqOk_int, eqOk_bool, str_eqv, int_eqv, tup_nil_eqv, lst_nil_eqv, rep_flat, isK_int, isK_bool, isK_tuple, isK_str, kInt, kBool, kTuple, kStr, GB.isNon, Bool.not_true, Bool.not_false, Bool.or_false, Bool.or_true, Bool.false_or, Bool.true_or, reduceCtorEq, wipeD, List.set]
  refine seq_es.mpr ⟨line_ge (by rw [List.length_map]; omega), es_run (P := fun o => !(waysH (inL (es.filter fun e => !decide (e = o))) pc n).isEmpty) ?_ fun o ho acc K y n' => ?_⟩
  · simp only [↓at0, ↓set0, ↓at1, ↓set1, ↓at2, ↓set2, ↓at3, ↓set3, ↓at4, ↓set4, ↓at5, ↓set5, ↓at6, ↓set6, ↓at7, ↓set7, ↓at8, ↓set8, ↓at9, ↓set9, ↓at10, ↓set10, ↓at11, ↓set11, ↓at12, ↓set12, ↓at13, ↓set13, ↓at14, ↓set14, ↓at15, ↓set15, ↓fz_d, ↓fz_own, ↓fz_ob, ↓one_d, ↓int_d, ↓bool_d, ↓own_o, ↓ds_nil, ↓ds_cons, ↓seq_l, ↓seq_t, ↓ite_t, ↓ite_f, ↓e_next, ↓e_seq, ↓e_set, ↓e_drop, ↓e_ret, ↓e_ifs, ↓e_brk, ↓e_cnt, ↓e_fixs, ↓e_par, ↓e_par3, ↓e_asg, ↓e_for, ↓e_putAt, ↓e_jput, ↓e_var, ↓e_k, ↓e_fz, ↓e_op, ↓e_opL, ↓e_opR, ↓e_n, ↓e_n1, ↓e_nil, ↓e_cons, ↓e_tup, ↓e_lst, ↓e_b, ↓e_not, ↓e_and, ↓e_or, ↓e_andV, ↓e_orV, ↓e_notV, ↓e_if, ↓e_isi, ↓e_neg, ↓e_chain, ↓e_call, ↓e_callK, ↓e_jint, ↓e_dict0, ↓e_dict1, ↓e_listRng, ↓e_append, ↓e_cut, ↓e_cutO, ↓e_onone, ↓e_osome, ↓e_iseq, ↓e_ienum, ↓e_irng, ↓e_gname, ↓e_lnil, ↓e_lcons, ↓e_lc, ↓e_yes, ↓f_addI, ↓f_addS, ↓f_addT, ↓f_addL, ↓f_i2, ↓f_mulI, ↓f_mulT, ↓f_mulL, ↓f_eq, ↓f_ne, ↓f_is, ↓f_isnot, ↓f_in, ↓f_notin, ↓f_ixL, ↓f_ixT, ↓f_lenL, ↓f_lenT, ↓f_lenS, ↓f_abs, ↓f_intI, ↓f_intB, ↓f_tupL, ↓f_tupT, ↓f_lstL, ↓f_lstT, ↓f_repr, ↓f_cutL, ↓f_cutT, ↓firm_d, ↓firm_ob, ↓zip_l, ↓zip_t, ↓e_izip, ↓zip_cons, ↓zip_nil1, ↓zip_nil2, ↓f_sorted, ↓e_inn, ↓e_inc, ↓e_l2n, ↓e_l2c, ↓e_lc2, ↓e_rev, ↓e_pop, ↓e_popAt, ↓e_extend, ↓e_lc3, ↓e_gon, ↓e_goc, ↓e_dbMid, ↓e_dbIn, ↓f_neu, ↓dgTup_tup, ↓dgCons_cons, ↓dgNil_nil, ite_t, ite_f, itK_not, List.cons_append, List.nil_append, List.append_nil, List.replicate, List.flatten_cons, List.flatten_nil, List.append_eq, List.length_cons, List.length_nil, Nat.zero_add, Nat.reduceAdd, true_and, and_true, eqOk_str, eqOk_int, eqOk_bool, str_eqv, int_eqv, tup_nil_eqv, lst_nil_eqv, rep_flat, isK_int, isK_bool, isK_tuple, isK_str, kInt, kBool, kTuple, kStr, GB.isNon, Bool.not_true, Bool.not_false, Bool.or_false, Bool.or_true, Bool.false_or, Bool.true_or, reduceCtorEq, ↓s_lways hs, ↓neu_strs]
    refine ⟨hn, by decide, ?_⟩
    have sub : SubE (nlE es pc n) := fun e he => hs e (List.mem_filter.mp he).1
    cases hw : (waysH (inL es) pc n).isEmpty
    · rw [hw] at q
      refine ite_f.mpr ⟨by decide, ?_, ?_⟩
      · show (SeqAt.shaped _ && SeqAt.shaped _) = true
        have := es_shp sub
        unfold nlE at this
        rw [this]; rfl
      · rw [List.isEmpty_map]
        exact q
    · rw [hw] at q
      exact ite_t.mpr q
  · simp only [↓at0, ↓set0, ↓at1, ↓set1, ↓at2, ↓set2, ↓at3, ↓set3, ↓at4, ↓set4, ↓at5, ↓set5, ↓at6, ↓set6, ↓at7, ↓set7, ↓at8, ↓set8, ↓at9, ↓set9, ↓at10, ↓set10, ↓at11, ↓set11, ↓at12, ↓set12, ↓at13, ↓set13, ↓at14, ↓set14, ↓at15, ↓set15, ↓fz_d, ↓fz_own, ↓fz_ob, ↓one_d, ↓int_d, ↓bool_d, ↓own_o, ↓ds_nil, ↓ds_cons, ↓seq_l, ↓seq_t, ↓ite_t, ↓ite_f, ↓e_next, ↓e_seq, ↓e_set, ↓e_drop, ↓e_ret, ↓e_ifs, ↓e_brk, ↓e_cnt, ↓e_fixs, ↓e_par, ↓e_par3, ↓e_asg, ↓e_for, ↓e_putAt, ↓e_jput, ↓e_var, ↓e_k, ↓e_fz, ↓e_op, ↓e_opL, ↓e_opR, ↓e_n, ↓e_n1, ↓e_nil, ↓e_cons, ↓e_tup, ↓e_lst, ↓e_b, ↓e_not, ↓e_and, ↓e_or, ↓e_andV, ↓e_orV, ↓e_notV, ↓e_if, ↓e_isi, ↓e_neg, ↓e_chain, ↓e_call, ↓e_callK, ↓e_jint, ↓e_dict0, ↓e_dict1, ↓e_listRng, ↓e_append, ↓e_cut, ↓e_cutO, ↓e_onone, ↓e_osome, ↓e_iseq, ↓e_ienum, ↓e_irng, ↓e_gname, ↓e_lnil, ↓e_lcons, ↓e_lc, ↓e_yes, ↓f_addI, ↓f_addS, ↓f_addT, ↓f_addL, ↓f_i2, ↓f_mulI, ↓f_mulT, ↓f_mulL, ↓f_eq, ↓f_ne, ↓f_is, ↓f_isnot, ↓f_in, ↓f_notin, ↓f_ixL, ↓f_ixT, ↓f_lenL, ↓f_lenT, ↓f_lenS, ↓f_abs, ↓f_intI, ↓f_intB, ↓f_tupL, ↓f_tupT, ↓f_lstL, ↓f_lstT, ↓f_repr, ↓f_cutL, ↓f_cutT, ↓firm_d, ↓firm_ob, ↓zip_l, ↓zip_t, ↓e_izip, ↓zip_cons, ↓zip_nil1, ↓zip_nil2, ↓f_sorted, ↓e_inn, ↓e_inc, ↓e_l2n, ↓e_l2c, ↓e_lc2, ↓e_rev, ↓e_pop, ↓e_popAt, ↓e_extend, ↓e_lc3, ↓e_gon, ↓e_goc, ↓e_dbMid, ↓e_dbIn, ↓f_neu, ↓dgTup_tup, ↓dgCons_cons, ↓dgNil_nil, ite_t, ite_f, itK_not, List.cons_append, List.nil_append, List.append_nil, List.replicate, List.flatten_cons, List.flatten_nil, List.append_eq, List.length_cons, List.length_nil, Nat.zero_add, Nat.reduceAdd, true_and, and_true, eqOk_str, eqOk_int, eqOk_bool, str_eqv, int_eqv, tup_nil_eqv, lst_nil_eqv, rep_flat, isK_int, isK_bool, isK_tuple, isK_str, kInt, kBool, kTuple, kStr, GB.isNon, Bool.not_true, Bool.not_false, Bool.or_false, Bool.or_true, Bool.false_or, Bool.true_or, reduceCtorEq, wipeD, List.set]
    refine seq_es.mpr ⟨line_ge (by rw [List.length_map]; omega), es_run (P := fun e => !decide (e = o)) ?_ fun e he acc2 K2 y2 n2 => ?_⟩
    · have sf : SubE (es.filter fun e => !decide (e = o)) := fun e he => hs e (List.mem_filter.mp he).1
      refine (s_lways sf).mpr ⟨hn, ?_⟩
      simp only [↓at0, ↓set0, ↓at1, ↓set1, ↓at2, ↓set2, ↓at3, ↓set3, ↓at4, ↓set4, ↓at5, ↓set5, ↓at6, ↓set6, ↓at7, ↓set7, ↓at8, ↓set8, ↓at9, ↓set9, ↓at10, ↓set10, ↓at11, ↓set11, ↓at12, ↓set12, ↓at13, ↓set13, ↓at14, ↓set14, ↓at15, ↓set15, ↓fz_d, ↓fz_own, ↓fz_ob, ↓one_d, ↓int_d, ↓bool_d, ↓own_o, ↓ds_nil, ↓ds_cons, ↓seq_l, ↓seq_t, ↓ite_t, ↓ite_f, ↓e_next, ↓e_seq, ↓e_set, ↓e_drop, ↓e_ret, ↓e_ifs, ↓e_brk, ↓e_cnt, ↓e_fixs, ↓e_par, ↓e_par3, ↓e_asg, ↓e_for, ↓e_putAt, ↓e_jput, ↓e_var, ↓e_k, ↓e_fz, ↓e_op, ↓e_opL, ↓e_opR, ↓e_n, ↓e_n1, ↓e_nil, ↓e_cons, ↓e_tup, ↓e_lst, ↓e_b, ↓e_not, ↓e_and, ↓e_or, ↓e_andV, ↓e_orV, ↓e_notV, ↓e_if, ↓e_isi, ↓e_neg, ↓e_chain, ↓e_call, ↓e_callK, ↓e_jint, ↓e_dict0, ↓e_dict1, ↓e_listRng, ↓e_append, ↓e_cut, ↓e_cutO, ↓e_onone, ↓e_osome, ↓e_iseq, ↓e_ienum, ↓e_irng, ↓e_gname, ↓e_lnil, ↓e_lcons, ↓e_lc, ↓e_yes, ↓f_addI, ↓f_addS, ↓f_addT, ↓f_addL, ↓f_i2, ↓f_mulI, ↓f_mulT, ↓f_mulL, ↓f_eq, ↓f_ne, ↓f_is, ↓f_isnot, ↓f_in, ↓f_notin, ↓f_ixL, ↓f_ixT, ↓f_lenL, ↓f_lenT, ↓f_lenS, ↓f_abs, ↓f_intI, ↓f_intB, ↓f_tupL, ↓f_tupT, ↓f_lstL, ↓f_lstT, ↓f_repr, ↓f_cutL, ↓f_cutT, ↓firm_d, ↓firm_ob, ↓zip_l, ↓zip_t, ↓e_izip, ↓zip_cons, ↓zip_nil1, ↓zip_nil2, ↓f_sorted, ↓e_inn, ↓e_inc, ↓e_l2n, ↓e_l2c, ↓e_lc2, ↓e_rev, ↓e_pop, ↓e_popAt, ↓e_extend, ↓e_lc3, ↓e_gon, ↓e_goc, ↓e_dbMid, ↓e_dbIn, ↓f_neu, ↓dgTup_tup, ↓dgCons_cons, ↓dgNil_nil, ite_t, ite_f, itK_not, List.cons_append, List.nil_append, List.append_nil, List.replicate, List.flatten_cons, List.flatten_nil, List.append_eq, List.length_cons, List.length_nil, Nat.zero_add, Nat.reduceAdd, true_and, and_true, eqOk_str, eqOk_int, eqOk_bool, str_eqv, int_eqv, tup_nil_eqv, lst_nil_eqv, rep_flat, isK_int, isK_bool, isK_tuple, isK_str, kInt, kBool, kTuple, kStr, GB.isNon, Bool.not_true, Bool.not_false, Bool.or_false, Bool.or_true, Bool.false_or, Bool.true_or, reduceCtorEq, ↓neu_strs]
      refine ⟨by decide, ?_⟩
      cases hw : (waysH (inL (es.filter fun e => !decide (e = o))) pc n).isEmpty
      · exact y (by rw [hw]; rfl)
      · exact n' (by rw [hw]; rfl)
    · simp only [↓at0, ↓set0, ↓at1, ↓set1, ↓at2, ↓set2, ↓at3, ↓set3, ↓at4, ↓set4, ↓at5, ↓set5, ↓at6, ↓set6, ↓at7, ↓set7, ↓at8, ↓set8, ↓at9, ↓set9, ↓at10, ↓set10, ↓at11, ↓set11, ↓at12, ↓set12, ↓at13, ↓set13, ↓at14, ↓set14, ↓at15, ↓set15, ↓fz_d, ↓fz_own, ↓fz_ob, ↓one_d, ↓int_d, ↓bool_d, ↓own_o, ↓ds_nil, ↓ds_cons, ↓seq_l, ↓seq_t, ↓ite_t, ↓ite_f, ↓e_next, ↓e_seq, ↓e_set, ↓e_drop, ↓e_ret, ↓e_ifs, ↓e_brk, ↓e_cnt, ↓e_fixs, ↓e_par, ↓e_par3, ↓e_asg, ↓e_for, ↓e_putAt, ↓e_jput, ↓e_var, ↓e_k, ↓e_fz, ↓e_op, ↓e_opL, ↓e_opR, ↓e_n, ↓e_n1, ↓e_nil, ↓e_cons, ↓e_tup, ↓e_lst, ↓e_b, ↓e_not, ↓e_and, ↓e_or, ↓e_andV, ↓e_orV, ↓e_notV, ↓e_if, ↓e_isi, ↓e_neg, ↓e_chain, ↓e_call, ↓e_callK, ↓e_jint, ↓e_dict0, ↓e_dict1, ↓e_listRng, ↓e_append, ↓e_cut, ↓e_cutO, ↓e_onone, ↓e_osome, ↓e_iseq, ↓e_ienum, ↓e_irng, ↓e_gname, ↓e_lnil, ↓e_lcons, ↓e_lc, ↓e_yes, ↓f_addI, ↓f_addS, ↓f_addT, ↓f_addL, ↓f_i2, ↓f_mulI, ↓f_mulT, ↓f_mulL, ↓f_eq, ↓f_ne, ↓f_is, ↓f_isnot, ↓f_in, ↓f_notin, ↓f_ixL, ↓f_ixT, ↓f_lenL, ↓f_lenT, ↓f_lenS, ↓f_abs, ↓f_intI, ↓f_intB, ↓f_tupL, ↓f_tupT, ↓f_lstL, ↓f_lstT, ↓f_repr, ↓f_cutL, ↓f_cutT, ↓firm_d, ↓firm_ob, ↓zip_l, ↓zip_t, ↓e_izip, ↓zip_cons, ↓zip_nil1, ↓zip_nil2, ↓f_sorted, ↓e_inn, ↓e_inc, ↓e_l2n, ↓e_l2c, ↓e_lc2, ↓e_rev, ↓e_pop, ↓e_popAt, ↓e_extend, ↓e_lc3, ↓e_gon, ↓e_goc, ↓e_dbMid, ↓e_dbIn, ↓f_neu, ↓dgTup_tup, ↓dgCons_cons, ↓dgNil_nil, ite_t, ite_f, itK_not, List.cons_append, List.nil_append, List.append_nil, List.replicate, List.flatten_cons, List.flatten_nil, List.append_eq, List.length_cons, List.length_nil, Nat.zero_add, Nat.reduceAdd, true_and, and_true, eqOk_str, eqOk_int, eqOk_bool, str_eqv, int_eqv, tup_nil_eqv, lst_nil_eqv, rep_flat, isK_int, isK_bool, isK_tuple, isK_str, kInt, kBool, kTuple, kStr, GB.isNon, Bool.not_true, Bool.not_false, Bool.or_false, Bool.or_true, Bool.false_or, Bool.true_or, reduceCtorEq, wipeD, List.set]
      obtain ⟨e1, e2⟩ := ens_eq (hs e he) (hs o ho)
      refine ⟨e1, ?_⟩
      rw [e2]
      cases hw : decide (e = o)
      · exact y2 (by rw [hw]; rfl)
      · exact n2 (by rw [hw]; rfl)
theorem s_lleast {k : S → Prop} {es : List En} {pc : Bool} {n : Int} (hs : SubE es) (hl : es.length ≤ 100) : F_l_is_least [.d (esD es), .d (.bool pc), .d (.int n)] k ↔ 1 ≤ n ∧ k (.d (.bool (!(waysH (inL es) pc n).isEmpty && (nlE es pc n).isEmpty))) := by
  constructor
  · rintro ⟨es', pc', n', e, _, _, h, q⟩
    simp only [List.cons.injEq, S.d.injEq, PyData.int.injEq, PyData.bool.injEq, and_true] at e
    obtain ⟨e, rfl, rfl⟩ := e
    rw [esD_inj e]; exact ⟨h, q⟩
  · intro ⟨h, q⟩; exact ⟨es, pc, n, rfl, hs, hl, h, q⟩
theorem kT {xs : List PyData} : isK "tuple" (.tuple xs) = true := rfl
theorem kG {f : Str → Bool} : isK "tuple" (gdD f) = true := rfl
theorem kB {v : Bool} : isK "bool" (.bool v) = true := by cases v <;> rfl
theorem ma_l_chosen : ∀ ss R, ss.length = 2 → F_l_chosen ss R → rd_l_chosen { nx := fun _ => R (.d .none), rt := R } (ss ++ List.replicate 4 .un) := by
  rintro _ R - ⟨b, t, rfl, okb, okt, q⟩
  unfold rd_l_chosen
  rw [bd_eq t]
  have d5 : decide (((5 : Nat) : Int) = 5) = true := rfl
  have d3 : decide (((3 : Nat) : Int) = 3) = true := rfl
  have d2 : decide (((2 : Nat) : Int) = 2) = true := rfl
  have e0 : eqOk (.list []) (.list []) = true := by decide +kernel
  have l2 : (2 ≤ sizeLine) = True := eq_true (by decide)
  have l3 : (3 ≤ sizeLine) = True := eq_true (by decide)
  have g3 : ((3 : Int) < 2 ^ 60) = True := eq_true (by decide)
  have g4 : (-2 ^ 60 < (3 : Int)) = True := eq_true (by decide)
  simp only [↓at0, ↓set0, ↓at1, ↓set1, ↓at2, ↓set2, ↓at3, ↓set3, ↓at4, ↓set4, ↓at5, ↓set5, ↓at6, ↓set6, ↓at7, ↓set7, ↓at8, ↓set8, ↓at9, ↓set9, ↓at10, ↓set10, ↓at11, ↓set11, ↓at12, ↓set12, ↓at13, ↓set13, ↓at14, ↓set14, ↓at15, ↓set15, ↓fz_d, ↓fz_own, ↓fz_ob, ↓one_d, ↓int_d, ↓bool_d, ↓own_o, ↓ds_nil, ↓ds_cons, ↓seq_l, ↓seq_t, ↓ite_t, ↓ite_f, ↓e_next, ↓e_seq, ↓e_set, ↓e_drop, ↓e_ret, ↓e_ifs, ↓e_brk, ↓e_cnt, ↓e_fixs, ↓e_par, ↓e_par3, ↓e_asg, ↓e_for, ↓e_putAt, ↓e_jput, ↓e_var, ↓e_k, ↓e_fz, ↓e_op, ↓e_opL, ↓e_opR, ↓e_n, ↓e_n1, ↓e_nil, ↓e_cons, ↓e_tup, ↓e_lst, ↓e_b, ↓e_not, ↓e_and, ↓e_or, ↓e_andV, ↓e_orV, ↓e_notV, ↓e_if, ↓e_isi, ↓e_neg, ↓e_chain, ↓e_call, ↓e_callK, ↓e_jint, ↓e_dict0, ↓e_dict1, ↓e_listRng, ↓e_append, ↓e_cut, ↓e_cutO, ↓e_onone, ↓e_osome, ↓e_iseq, ↓e_ienum, ↓e_irng, ↓e_gname, ↓e_lnil, ↓e_lcons, ↓e_lc, ↓e_yes, ↓f_addI, ↓f_addS, ↓f_addT, ↓f_addL, ↓f_i2, ↓f_mulI, ↓f_mulT, ↓f_mulL, ↓f_eq, ↓f_ne, ↓f_is, ↓f_isnot, ↓f_in, ↓f_notin, ↓f_ixL, ↓f_ixT, ↓f_lenL, ↓f_lenT, ↓f_lenS, ↓f_abs, ↓f_intI, ↓f_intB, ↓f_tupL, ↓f_tupT, ↓f_lstL, ↓f_lstT, ↓f_repr, ↓f_cutL, ↓f_cutT, ↓firm_d, ↓firm_ob, ↓zip_l, ↓zip_t, ↓e_izip, ↓zip_cons, ↓zip_nil1, ↓zip_nil2, ↓f_sorted, ↓e_lcn, ↓e_lcc, ↓e_inn, ↓e_inc, ↓e_l2n, ↓e_l2c, ↓e_lc2, ↓e_rev, ↓e_pop, ↓e_popAt, ↓e_extend, ↓e_lc3, ↓e_gon, ↓e_goc, ↓e_dbMid, ↓e_dbIn, ↓f_neu, ↓dgTup_tup, ↓dgCons_cons, ↓dgNil_nil, ite_t, ite_f, itK_not, List.cons_append, List.nil_append, List.append_nil, List.replicate, List.flatten_cons, List.flatten_nil, List.append_eq, List.length_cons, List.length_nil, Nat.zero_add, Nat.reduceAdd, true_and, and_true, eqOk_str, eqOk_int, eqOk_bool, str_eqv, int_eqv, tup_nil_eqv, lst_nil_eqv, rep_flat, isK_int, isK_bool, isK_tuple, isK_str, kInt, kBool, kTuple, kStr, GB.isNon, Bool.not_true, Bool.not_false, Bool.or_false, Bool.or_true, Bool.false_or, Bool.true_or, reduceCtorEq, ↓ix0, ↓ix1, ↓ix2, ↓ix3, ↓ix4, gdD, wipeD, List.set, irow2, irow3, Bool.not_true, Bool.not_false, d5, d3, d2, e0, z0, z1, l2, l3, g3, g4, List.isEmpty_nil, ↓s_lhas okb]
  refine seq_es.mpr ⟨line_ge (by rw [List.length_map]; exact Nat.le_trans (List.length_filter_le _ _) (by decide)), es_run (P := t.has) q fun e he acc K y n => ?_⟩
  simp only [↓at0, ↓set0, ↓at1, ↓set1, ↓at2, ↓set2, ↓at3, ↓set3, ↓at4, ↓set4, ↓at5, ↓set5, ↓at6, ↓set6, ↓at7, ↓set7, ↓at8, ↓set8, ↓at9, ↓set9, ↓at10, ↓set10, ↓at11, ↓set11, ↓at12, ↓set12, ↓at13, ↓set13, ↓at14, ↓set14, ↓at15, ↓set15, ↓fz_d, ↓fz_own, ↓fz_ob, ↓one_d, ↓int_d, ↓bool_d, ↓own_o, ↓ds_nil, ↓ds_cons, ↓seq_l, ↓seq_t, ↓ite_t, ↓ite_f, ↓e_next, ↓e_seq, ↓e_set, ↓e_drop, ↓e_ret, ↓e_ifs, ↓e_brk, ↓e_cnt, ↓e_fixs, ↓e_par, ↓e_par3, ↓e_asg, ↓e_for, ↓e_putAt, ↓e_jput, ↓e_var, ↓e_k, ↓e_fz, ↓e_op, ↓e_opL, ↓e_opR, ↓e_n, ↓e_n1, ↓e_nil, ↓e_cons, ↓e_tup, ↓e_lst, ↓e_b, ↓e_not, ↓e_and, ↓e_or, ↓e_andV, ↓e_orV, ↓e_notV, ↓e_if, ↓e_isi, ↓e_neg, ↓e_chain, ↓e_call, ↓e_callK, ↓e_jint, ↓e_dict0, ↓e_dict1, ↓e_listRng, ↓e_append, ↓e_cut, ↓e_cutO, ↓e_onone, ↓e_osome, ↓e_iseq, ↓e_ienum, ↓e_irng, ↓e_gname, ↓e_lnil, ↓e_lcons, ↓e_lc, ↓e_yes, ↓f_addI, ↓f_addS, ↓f_addT, ↓f_addL, ↓f_i2, ↓f_mulI, ↓f_mulT, ↓f_mulL, ↓f_eq, ↓f_ne, ↓f_is, ↓f_isnot, ↓f_in, ↓f_notin, ↓f_ixL, ↓f_ixT, ↓f_lenL, ↓f_lenT, ↓f_lenS, ↓f_abs, ↓f_intI, ↓f_intB, ↓f_tupL, ↓f_tupT, ↓f_lstL, ↓f_lstT, ↓f_repr, ↓f_cutL, ↓f_cutT, ↓firm_d, ↓firm_ob, ↓zip_l, ↓zip_t, ↓e_izip, ↓zip_cons, ↓zip_nil1, ↓zip_nil2, ↓f_sorted, ↓e_inn, ↓e_inc, ↓e_l2n, ↓e_l2c, ↓e_lc2, ↓e_rev, ↓e_pop, ↓e_popAt, ↓e_extend, ↓e_lc3, ↓e_gon, ↓e_goc, ↓e_dbMid, ↓e_dbIn, ↓f_neu, ↓dgTup_tup, ↓dgCons_cons, ↓dgNil_nil, ite_t, ite_f, itK_not, List.cons_append, List.nil_append, List.append_nil, List.replicate, List.flatten_cons, List.flatten_nil, List.append_eq, List.length_cons, List.length_nil, Nat.zero_add, Nat.reduceAdd, true_and, and_true, eqOk_str, eqOk_int, eqOk_bool, str_eqv, int_eqv, tup_nil_eqv, lst_nil_eqv, rep_flat, isK_int, isK_bool, isK_tuple, isK_str, kInt, kBool, kTuple, kStr, GB.isNon, Bool.not_true, Bool.not_false, Bool.or_false, Bool.or_true, Bool.false_or, Bool.true_or, reduceCtorEq, wipeD, List.set]
  refine (s_ishad (b := t) okt (List.mem_filter.mp he).1).mpr ?_
  simp only [↓at0, ↓set0, ↓at1, ↓set1, ↓at2, ↓set2, ↓at3, ↓set3, ↓at4, ↓set4, ↓at5, ↓set5, ↓at6, ↓set6, ↓at7, ↓set7, ↓at8, ↓set8, ↓at9, ↓set9, ↓at10, ↓set10, ↓at11, ↓set11, ↓at12, ↓set12, ↓at13, ↓set13, ↓at14, ↓set14, ↓at15, ↓set15, ↓fz_d, ↓fz_own, ↓fz_ob, ↓one_d, ↓int_d, ↓bool_d, ↓own_o, ↓ds_nil, ↓ds_cons, ↓seq_l, ↓seq_t, ↓ite_t, ↓ite_f, ↓e_next, ↓e_seq, ↓e_set, ↓e_drop, ↓e_ret, ↓e_ifs, ↓e_brk, ↓e_cnt, ↓e_fixs, ↓e_par, ↓e_par3, ↓e_asg, ↓e_for, ↓e_putAt, ↓e_jput, ↓e_var, ↓e_k, ↓e_fz, ↓e_op, ↓e_opL, ↓e_opR, ↓e_n, ↓e_n1, ↓e_nil, ↓e_cons, ↓e_tup, ↓e_lst, ↓e_b, ↓e_not, ↓e_and, ↓e_or, ↓e_andV, ↓e_orV, ↓e_notV, ↓e_if, ↓e_isi, ↓e_neg, ↓e_chain, ↓e_call, ↓e_callK, ↓e_jint, ↓e_dict0, ↓e_dict1, ↓e_listRng, ↓e_append, ↓e_cut, ↓e_cutO, ↓e_onone, ↓e_osome, ↓e_iseq, ↓e_ienum, ↓e_irng, ↓e_gname, ↓e_lnil, ↓e_lcons, ↓e_lc, ↓e_yes, ↓f_addI, ↓f_addS, ↓f_addT, ↓f_addL, ↓f_i2, ↓f_mulI, ↓f_mulT, ↓f_mulL, ↓f_eq, ↓f_ne, ↓f_is, ↓f_isnot, ↓f_in, ↓f_notin, ↓f_ixL, ↓f_ixT, ↓f_lenL, ↓f_lenT, ↓f_lenS, ↓f_abs, ↓f_intI, ↓f_intB, ↓f_tupL, ↓f_tupT, ↓f_lstL, ↓f_lstT, ↓f_repr, ↓f_cutL, ↓f_cutT, ↓firm_d, ↓firm_ob, ↓zip_l, ↓zip_t, ↓e_izip, ↓zip_cons, ↓zip_nil1, ↓zip_nil2, ↓f_sorted, ↓e_inn, ↓e_inc, ↓e_l2n, ↓e_l2c, ↓e_lc2, ↓e_rev, ↓e_pop, ↓e_popAt, ↓e_extend, ↓e_lc3, ↓e_gon, ↓e_goc, ↓e_dbMid, ↓e_dbIn, ↓f_neu, ↓dgTup_tup, ↓dgCons_cons, ↓dgNil_nil, ite_t, ite_f, itK_not, List.cons_append, List.nil_append, List.append_nil, List.replicate, List.flatten_cons, List.flatten_nil, List.append_eq, List.length_cons, List.length_nil, Nat.zero_add, Nat.reduceAdd, true_and, and_true, eqOk_str, eqOk_int, eqOk_bool, str_eqv, int_eqv, tup_nil_eqv, lst_nil_eqv, rep_flat, isK_int, isK_bool, isK_tuple, isK_str, kInt, kBool, kTuple, kStr, GB.isNon, Bool.not_true, Bool.not_false, Bool.or_false, Bool.or_true, Bool.false_or, Bool.true_or, reduceCtorEq, ]
  exact iteB y n
/-! colours -/
theorem wb_wb (z : Str) : wb (wb z) = wb z := by
  unfold wb
  by_cases h : z = "white"
  · rw [if_pos h, if_neg (by decide +kernel)]
  · rw [if_neg h, if_neg h]
def Col (b t : Bo) : Prop := ∀ q, t.m q = if t.has (.make q) = true then wb (b.m q) else "white"
theorem col_b (b : Bo) : Col b b := fun q => by
  by_cases h : b.m q = "white"
  · have : b.has (.make q) = false := by simp [Bo.has, h]
    rw [this, if_neg (by decide)]; exact h
  · have : b.has (.make q) = true := by simp [Bo.has, h]
    rw [this, if_pos rfl]
    unfold wb; rw [if_neg h]
theorem col_tu {b t : Bo} (h : Col b t) (e : En) : Col b (t.tu e false) := fun q => by
  rw [tu_m]
  split
  · rename_i k
    rw [tu_has] at k
    split at k
    · cases k
    · rw [h q, if_pos k, wb_wb]
  · rfl
theorem col_fold {b : Bo} {n : Int} : ∀ (l : List En) {t : Bo}, Col b t → Col b (l.foldl (stp n) t)
  | [], _, h => h
  | e :: l, t, h => col_fold l (by
    unfold stp
    split
    · exact col_tu h e
    · exact h)
theorem wb_nw (z : Str) : wb z ≠ "white" := by
  unfold wb
  by_cases h : z = "white"
  · rw [if_pos h]; decide +kernel
  · rw [if_neg h]; exact h
def kept (b t : Bo) : List En := (ENS.filter b.has).filter t.has
theorem kept_has {b t : Bo} (h : Le t b) : ∀ e ∈ ENS, inL (kept b t) e = t.has e := fun e he => by
  unfold kept
  rw [List.filter_filter, inF e he]
  cases ht : t.has e
  · rfl
  · rw [h.1 e he ht]; rfl
theorem kept_d {b t : Bo} (h : Le t b) (c : Col b t) : t.d = (bk (kept b t) (wb (b.m 0)) (wb (b.m 1)) b.p).d := by
  refine d_ext (fun e he => ?_) ?_ ?_ h.2
  · rw [bk_has _ _ (wb_nw _) (wb_nw _) e he, kept_has h e he]
  · rw [c 0]
    show _ = if inL (kept b t) (.make 0) = true then _ else _
    rw [kept_has h _ (by decide +kernel)]; rfl
  · rw [c 1]
    show _ = if inL (kept b t) (.make 1) = true then _ else _
    rw [kept_has h _ (by decide +kernel)]; rfl
theorem kept_sub (b t : Bo) : SubE (kept b t) := fun e he => (List.mem_filter.mp (List.mem_filter.mp he).1).1
theorem kept_len (b t : Bo) : (kept b t).length ≤ 100 := Nat.le_trans (List.length_filter_le _ _) (Nat.le_trans (List.length_filter_le _ _) (by decide))
/-- least, of the entries kept -/
theorem kept_least {b t : Bo} {n : Int} (h : Le t b) (hs : sf t n = true) (hl : ∀ e ∈ ENS, t.has e = true → sf (t.tu e false) n = false) : (!(waysH (inL (kept b t)) b.p n).isEmpty && (nlE (kept b t) b.p n).isEmpty) = true := by
  have e1 : waysH (inL (kept b t)) b.p n = waysH t.has t.p n := by rw [← h.2]; exact ways_c (kept_has h) _ _
  have e2 : nlE (kept b t) b.p n = [] := by
    unfold nlE
    rw [List.filter_eq_nil_iff]
    intro o ho
    have hoE := kept_sub b t o ho
    have hot : t.has o = true := (List.mem_filter.mp ho).2
    have e3 : waysH (inL ((kept b t).filter fun e => !decide (e = o))) b.p n = waysH (t.tu o false).has (t.tu o false).p n := by
      rw [tu_p, ← h.2]
      refine ways_c (fun e he => ?_) _ _
      unfold kept
      rw [List.filter_filter, List.filter_filter, inF e he, tu_has]
      by_cases z : e = o
      · simp [z]
      · rw [if_neg z]
        cases ht : t.has e
        · simp
        · rw [h.1 e he ht]; simp [z]
    have := hl o hoE hot
    unfold sf at this
    rw [e3, this]
    decide
  unfold sf at hs
  rw [e1, e2, hs]; rfl
theorem s_chosen {k : S → Prop} {b t : Bo} (okb : OkB b) (okt : OkB t) (h : k (.d (.list [esD (kept b t)]))) : F_l_chosen [.d b.d, .d t.d] k := ⟨b, t, rfl, okb, okt, h⟩
theorem s_ispart {k : S → Prop} {b : Bo} {n : Int} (ok : OkB b) (hn : 1 ≤ n) (hs : sf b n = true) (h : k (.d (.bool true))) : F_l_is_part [.d b.d, .d (.int n), .d (lpart b n).d] k := ⟨b, n, rfl, ok, hn, hs, h⟩
theorem eqv_w (z : Str) : (PyData.str z).eqv (PyData.str (Str.ofString "white")) = (z == ("white" : Str)) := eqv_s
theorem ma_l_is_part : ∀ ss R, ss.length = 3 → F_l_is_part ss R → rd_l_is_part { nx := fun _ => R (.d .none), rt := R } (ss ++ List.replicate 3 .un) := by
  rintro _ R - ⟨b, n, rfl, ok, hn, hs, q⟩
  have okt := ok_lpart (n := n) ok
  have le := le_lpart b n
  have col : Col b (lpart b n) := col_fold _ (col_b b)
  have kd := kept_d le col
  have kl := kept_least le (sf_lpart hs) (least_lpart hs)
  have p0 := bo_sm okt
  have b1 := p0.sh
  have b2 := p0.fits (by decide)
  have b3 : (lpart b n).d.depth ≤ 60 := Nat.le_trans p0.dp (by decide)
  generalize lpart b n = t at *
  unfold rd_l_is_part
  simp only [↓at0, ↓set0, ↓at1, ↓set1, ↓at2, ↓set2, ↓at3, ↓set3, ↓at4, ↓set4, ↓at5, ↓set5, ↓at6, ↓set6, ↓at7, ↓set7, ↓at8, ↓set8, ↓at9, ↓set9, ↓at10, ↓set10, ↓at11, ↓set11, ↓at12, ↓set12, ↓at13, ↓set13, ↓at14, ↓set14, ↓at15, ↓set15, ↓fz_d, ↓fz_own, ↓fz_ob, ↓one_d, ↓int_d, ↓bool_d, ↓own_o, ↓ds_nil, ↓ds_cons, ↓seq_l, ↓seq_t, ↓ite_t, ↓ite_f, ↓e_next, ↓e_seq, ↓e_set, ↓e_drop, ↓e_ret, ↓e_ifs, ↓e_brk, ↓e_cnt, ↓e_fixs, ↓e_par, ↓e_par3, ↓e_asg, ↓e_for, ↓e_putAt, ↓e_jput, ↓e_var, ↓e_k, ↓e_fz, ↓e_op, ↓e_opL, ↓e_opR, ↓e_n, ↓e_n1, ↓e_nil, ↓e_cons, ↓e_tup, ↓e_lst, ↓e_b, ↓e_not, ↓e_and, ↓e_or, ↓e_andV, ↓e_orV, ↓e_notV, ↓e_if, ↓e_isi, ↓e_neg, ↓e_chain, ↓e_call, ↓e_callK, ↓e_jint, ↓e_dict0, ↓e_dict1, ↓e_listRng, ↓e_append, ↓e_cut, ↓e_cutO, ↓e_onone, ↓e_osome, ↓e_iseq, ↓e_ienum, ↓e_irng, ↓e_gname, ↓e_lnil, ↓e_lcons, ↓e_lc, ↓e_yes, ↓f_addI, ↓f_addS, ↓f_addT, ↓f_addL, ↓f_i2, ↓f_mulI, ↓f_mulT, ↓f_mulL, ↓f_eq, ↓f_ne, ↓f_is, ↓f_isnot, ↓f_in, ↓f_notin, ↓f_ixL, ↓f_ixT, ↓f_lenL, ↓f_lenT, ↓f_lenS, ↓f_abs, ↓f_intI, ↓f_intB, ↓f_tupL, ↓f_tupT, ↓f_lstL, ↓f_lstT, ↓f_repr, ↓f_cutL, ↓f_cutT, ↓firm_d, ↓firm_ob, ↓zip_l, ↓zip_t, ↓e_izip, ↓zip_cons, ↓zip_nil1, ↓zip_nil2, ↓f_sorted, ↓e_inn, ↓e_inc, ↓e_l2n, ↓e_l2c, ↓e_lc2, ↓e_rev, ↓e_pop, ↓e_popAt, ↓e_extend, ↓e_lc3, ↓e_gon, ↓e_goc, ↓e_dbMid, ↓e_dbIn, ↓f_neu, ↓dgTup_tup, ↓dgCons_cons, ↓dgNil_nil, ite_t, ite_f, itK_not, List.cons_append, List.nil_append, List.append_nil, List.replicate, List.flatten_cons, List.flatten_nil, List.append_eq, List.length_cons, List.length_nil, Nat.zero_add, Nat.reduceAdd, true_and, and_true, eqOk_str, eqOk_int, eqOk_bool, str_eqv, int_eqv, tup_nil_eqv, lst_nil_eqv, rep_flat, isK_int, isK_bool, isK_tuple, isK_str, kInt, kBool, kTuple, kStr, GB.isNon, Bool.not_true, Bool.not_false, Bool.or_false, Bool.or_true, Bool.false_or, Bool.true_or, reduceCtorEq, ]
  refine s_chosen ok okt ?_
  have key : ∀ a c : Str, a = wb (b.m 0) → c = wb (b.m 1) → (t.d.showable = true ∧ t.d.shown.length ≤ sizeLine ∧ t.d.depth ≤ 60 ∧ F_l_book [S.d (esD (kept b t)), S.d (PyData.list [PyData.str a, PyData.str c]), S.d (PyData.bool b.p)] fun s =>
      s.firm ∧ dsK [s] fun xs => fRepr xs fun s => oneK s fun y => eqOk (PyData.str t.d.shown) y = true ∧ iteK ((PyData.str t.d.shown).eqv y) (F_l_is_least [S.d (esD (kept b t)), S.d (PyData.bool b.p), S.d (PyData.int n)] fun s => R s) (R (S.d (PyData.bool false)))) := by
    rintro _ _ rfl rfl
    refine ⟨b1, b2, b3, (s_lbook (kept_sub b t)).mpr ?_⟩
    rw [← kd]
    simp only [↓at0, ↓set0, ↓at1, ↓set1, ↓at2, ↓set2, ↓at3, ↓set3, ↓at4, ↓set4, ↓at5, ↓set5, ↓at6, ↓set6, ↓at7, ↓set7, ↓at8, ↓set8, ↓at9, ↓set9, ↓at10, ↓set10, ↓at11, ↓set11, ↓at12, ↓set12, ↓at13, ↓set13, ↓at14, ↓set14, ↓at15, ↓set15, ↓fz_d, ↓fz_own, ↓fz_ob, ↓one_d, ↓int_d, ↓bool_d, ↓own_o, ↓ds_nil, ↓ds_cons, ↓seq_l, ↓seq_t, ↓ite_t, ↓ite_f, ↓e_next, ↓e_seq, ↓e_set, ↓e_drop, ↓e_ret, ↓e_ifs, ↓e_brk, ↓e_cnt, ↓e_fixs, ↓e_par, ↓e_par3, ↓e_asg, ↓e_for, ↓e_putAt, ↓e_jput, ↓e_var, ↓e_k, ↓e_fz, ↓e_op, ↓e_opL, ↓e_opR, ↓e_n, ↓e_n1, ↓e_nil, ↓e_cons, ↓e_tup, ↓e_lst, ↓e_b, ↓e_not, ↓e_and, ↓e_or, ↓e_andV, ↓e_orV, ↓e_notV, ↓e_if, ↓e_isi, ↓e_neg, ↓e_chain, ↓e_call, ↓e_callK, ↓e_jint, ↓e_dict0, ↓e_dict1, ↓e_listRng, ↓e_append, ↓e_cut, ↓e_cutO, ↓e_onone, ↓e_osome, ↓e_iseq, ↓e_ienum, ↓e_irng, ↓e_gname, ↓e_lnil, ↓e_lcons, ↓e_lc, ↓e_yes, ↓f_addI, ↓f_addS, ↓f_addT, ↓f_addL, ↓f_i2, ↓f_mulI, ↓f_mulT, ↓f_mulL, ↓f_eq, ↓f_ne, ↓f_is, ↓f_isnot, ↓f_in, ↓f_notin, ↓f_ixL, ↓f_ixT, ↓f_lenL, ↓f_lenT, ↓f_lenS, ↓f_abs, ↓f_intI, ↓f_intB, ↓f_tupL, ↓f_tupT, ↓f_lstL, ↓f_lstT, ↓f_repr, ↓f_cutL, ↓f_cutT, ↓firm_d, ↓firm_ob, ↓zip_l, ↓zip_t, ↓e_izip, ↓zip_cons, ↓zip_nil1, ↓zip_nil2, ↓f_sorted, ↓e_inn, ↓e_inc, ↓e_l2n, ↓e_l2c, ↓e_lc2, ↓e_rev, ↓e_pop, ↓e_popAt, ↓e_extend, ↓e_lc3, ↓e_gon, ↓e_goc, ↓e_dbMid, ↓e_dbIn, ↓f_neu, ↓dgTup_tup, ↓dgCons_cons, ↓dgNil_nil, ite_t, ite_f, itK_not, List.cons_append, List.nil_append, List.append_nil, List.replicate, List.flatten_cons, List.flatten_nil, List.append_eq, List.length_cons, List.length_nil, Nat.zero_add, Nat.reduceAdd, true_and, and_true, eqOk_str, eqOk_int, eqOk_bool, str_eqv, int_eqv, tup_nil_eqv, lst_nil_eqv, rep_flat, isK_int, isK_bool, isK_tuple, isK_str, kInt, kBool, kTuple, kStr, GB.isNon, Bool.not_true, Bool.not_false, Bool.or_false, Bool.or_true, Bool.false_or, Bool.true_or, reduceCtorEq, b1, b2, b3, eqv_self, ↓s_lleast (kept_sub b t) (kept_len b t), kl, hn]
    exact q
  have w1 : ∀ q, (b.m q == ("white" : Str)) = true → ("black" : Str) = wb (b.m q) := fun q h => by
    unfold wb; rw [if_pos (by simpa using h)]
  have w2 : ∀ q, (b.m q == ("white" : Str)) = false → b.m q = wb (b.m q) := fun q h => by
    unfold wb; rw [if_neg (by simpa using h)]
  simp only [↓at0, ↓set0, ↓at1, ↓set1, ↓at2, ↓set2, ↓at3, ↓set3, ↓at4, ↓set4, ↓at5, ↓set5, ↓at6, ↓set6, ↓at7, ↓set7, ↓at8, ↓set8, ↓at9, ↓set9, ↓at10, ↓set10, ↓at11, ↓set11, ↓at12, ↓set12, ↓at13, ↓set13, ↓at14, ↓set14, ↓at15, ↓set15, ↓fz_d, ↓fz_own, ↓fz_ob, ↓one_d, ↓int_d, ↓bool_d, ↓own_o, ↓ds_nil, ↓ds_cons, ↓seq_l, ↓seq_t, ↓ite_t, ↓ite_f, ↓e_next, ↓e_seq, ↓e_set, ↓e_drop, ↓e_ret, ↓e_ifs, ↓e_brk, ↓e_cnt, ↓e_fixs, ↓e_par, ↓e_par3, ↓e_asg, ↓e_for, ↓e_putAt, ↓e_jput, ↓e_var, ↓e_k, ↓e_fz, ↓e_op, ↓e_opL, ↓e_opR, ↓e_n, ↓e_n1, ↓e_nil, ↓e_cons, ↓e_tup, ↓e_lst, ↓e_b, ↓e_not, ↓e_and, ↓e_or, ↓e_andV, ↓e_orV, ↓e_notV, ↓e_if, ↓e_isi, ↓e_neg, ↓e_chain, ↓e_call, ↓e_callK, ↓e_jint, ↓e_dict0, ↓e_dict1, ↓e_listRng, ↓e_append, ↓e_cut, ↓e_cutO, ↓e_onone, ↓e_osome, ↓e_iseq, ↓e_ienum, ↓e_irng, ↓e_gname, ↓e_lnil, ↓e_lcons, ↓e_lc, ↓e_yes, ↓f_addI, ↓f_addS, ↓f_addT, ↓f_addL, ↓f_i2, ↓f_mulI, ↓f_mulT, ↓f_mulL, ↓f_eq, ↓f_ne, ↓f_is, ↓f_isnot, ↓f_in, ↓f_notin, ↓f_ixL, ↓f_ixT, ↓f_lenL, ↓f_lenT, ↓f_lenS, ↓f_abs, ↓f_intI, ↓f_intB, ↓f_tupL, ↓f_tupT, ↓f_lstL, ↓f_lstT, ↓f_repr, ↓f_cutL, ↓f_cutT, ↓firm_d, ↓firm_ob, ↓zip_l, ↓zip_t, ↓e_izip, ↓zip_cons, ↓zip_nil1, ↓zip_nil2, ↓f_sorted, ↓e_lcn, ↓e_lcc, ↓e_inn, ↓e_inc, ↓e_l2n, ↓e_l2c, ↓e_lc2, ↓e_rev, ↓e_pop, ↓e_popAt, ↓e_extend, ↓e_lc3, ↓e_gon, ↓e_goc, ↓e_dbMid, ↓e_dbIn, ↓f_neu, ↓dgTup_tup, ↓dgCons_cons, ↓dgNil_nil, ite_t, ite_f, itK_not, List.cons_append, List.nil_append, List.append_nil, List.replicate, List.flatten_cons, List.flatten_nil, List.append_eq, List.length_cons, List.length_nil, Nat.zero_add, Nat.reduceAdd, true_and, and_true, eqOk_str, eqOk_int, eqOk_bool, str_eqv, int_eqv, tup_nil_eqv, lst_nil_eqv, rep_flat, isK_int, isK_bool, isK_tuple, isK_str, kInt, kBool, kTuple, kStr, GB.isNon, Bool.not_true, Bool.not_false, Bool.or_false, Bool.or_true, Bool.false_or, Bool.true_or, reduceCtorEq, wipeD, List.set, ↓ix0, ↓ix1, ↓ix2, ↓ix3, ↓ix4, bd_eq b, eqv_w]
  exact ⟨by decide, iteB (fun h0 => iteB (fun h1 => key _ _ (w1 0 h0) (w1 1 h1)) fun h1 => key _ _ (w1 0 h0) (w2 1 h1)) fun h0 => iteB (fun h1 => key _ _ (w2 0 h0) (w1 1 h1)) fun h1 => key _ _ (w2 0 h0) (w2 1 h1)⟩
theorem s_said {k : S → Prop} {b : Bo} {n : Int} {v : Bool} (ok : OkB b) (h : k (.d (saidD b n))) : F_l_said [.d b.d, .d (.int n), .d (.bool v)] k := ⟨b, n, v, rfl, ok, h⟩
end GK

set_option maxRecDepth 100000
namespace GK
open PySem PySem.Spec PyProof.Rows L2 GB
def tl3_law : TSd := (dSeq (dIfS (dAnd (dB (dCall F_l_is_least 3 (dCons (dCall F_l_has 1 (dCons (dVar 6) dNil)) (dCons (dVar 4) (dCons (dVar 3) dNil))))) (dB (dOp fNe (dN fRepr (dCons (dVar 8) dNil)) (dVar 7)))) (dRet (dK (.bool false))) dNext) (dIfS (dAnd (dB (dOp fEq (dVar 2) (dK (.int 2)))) (dB (dOp fNe (dN fRepr (dCons (dCall (fun ss R => F_least_part ss R False) 2 (dCons (dVar 8) (dCons (dVar 3) dNil))) dNil)) (dN fRepr (dCons (dVar 8) dNil))))) (dRet (dK (.bool false))) dNext))
def tl2_law : TSd := (dSeq (dIfS (dB (dOp fEq (dCall F_l_ways 3 (dCons (dCall F_l_has 1 (dCons (dVar 6) dNil)) (dCons (dVar 4) (dCons (dVar 3) dNil)))) (dTup dNil))) (dSeq (dIfS (dB (dOp fNe (dVar 8) (dK (.str "unfit")))) (dRet (dK (.bool false))) dNext) dCnt) dNext) (dSeq (dIfS (dOr (dNot (dB (dCall F_l_is_part 3 (dCons (dVar 6) (dCons (dVar 3) (dCons (dVar 8) dNil)))))) (dB (dOp fIsNotB (dCall F_is_least 2 (dCons (dVar 8) (dCons (dVar 3) dNil))) (dK (.bool true))))) (dRet (dK (.bool false))) dNext) tl3_law))
def tl_law : TSd := (dSeq (dSet 6 (dCall F_l_book 3 (dCons (dVar 5) (dCons (dCall F_l_paint 1 (dCons (dVar 1) dNil)) (dCons (dVar 4) dNil))))) (dSeq (dPar 7 8 (dN fRepr (dCons (dVar 6) dNil)) (dCall F_l_said 3 (dCons (dVar 6) (dCons (dVar 3) (dCons (dOp fEq (dVar 2) (dK (.int 1))) dNil))))) (dSeq (dIfS (dOr (dAnd (dB (dOp fEq (dVar 2) (dK (.int 1)))) (dB (dOp fNe (dN fRepr (dCons (dCall F_l_said 3 (dCons (dVar 6) (dCons (dVar 3) (dCons (dK (.bool false)) dNil)))) dNil)) (dN fRepr (dCons (dVar 8) dNil))))) (dB (dOp fNe (dN fRepr (dCons (dVar 6) dNil)) (dVar 7)))) (dRet (dK (.bool false))) dNext) tl2_law)))
theorem rd_law_tl : rd_law = (dSeq (dSet 1 (dCall F_l_stock 1 (dCons (dVar 0) dNil))) (dSeq (dFor (dIRng (dK (.int 4))) (dgName 2) (dSeq (dPar 3 4 (dFz (dOp fAdd (dK (.int 1)) (dCall F_l_draw 2 (dCons (dVar 1) (dCons (dK (.int 4)) dNil))))) (dOp fEq (dCall F_l_draw 2 (dCons (dVar 1) (dCons (dK (.int 2)) dNil))) (dK (.int 0)))) (dSeq (dSet 5 (dCall F_l_some 3 (dCons (dVar 1) (dCons (dVar 4) (dCons (dVar 3) dNil))))) (dSeq (dIfS (dB (dOp fEq (dOp fMod (dVar 2) (dK (.int 3))) (dK (.int 0)))) (dSet 5 (dFz (dOp fAdd (dVar 5) (dCall F_l_wanted 4 (dCons (dVar 1) (dCons (dCall F_l_pick 2 (dCons (dVar 1) (dCons (dFz (dLst (dCons (dK (.str "child")) (dCons (dK (.str "last")) (dCons (dK (.str "old")) (dCons (dK (.str "read")) dNil)))))) dNil))) (dCons (dVar 4) (dCons (dVar 3) dNil)))))))) dNext) tl_law)))) (dRet (dK (.bool true))))) := rfl
theorem eqv_no {zs : List Str} : (strsD zs).eqv (.tuple []) = zs.isEmpty := by cases zs <;> rfl
theorem lp_same {b : Bo} {n : Int} (h : (!(waysH (inL (ENS.filter b.has)) b.p n).isEmpty && (nlE (ENS.filter b.has) b.p n).isEmpty) = true) : lpart b n = b := by
  simp only [Bool.and_eq_true] at h
  refine lpart_same fun o ho hb => ?_
  have e : waysH (inL ((ENS.filter b.has).filter fun e => !decide (e = o))) b.p n = waysH (b.tu o false).has (b.tu o false).p n := by
    rw [tu_p]
    refine ways_c (fun e he => ?_) _ _
    rw [List.filter_filter, inF e he, tu_has]
    by_cases z : e = o
    · simp [z]
    · simp [z]
  have h2 := List.isEmpty_iff.mp h.2
  unfold nlE at h2
  have := List.filter_eq_nil_iff.mp h2 o (List.mem_filter.mpr ⟨ho, hb⟩)
  rw [e] at this
  unfold sf
  simpa using this
theorem lp_lp {b : Bo} {n : Int} (h : sf b n = true) : lpart (lpart b n) n = lpart b n := lpart_same (least_lpart h)
theorem nb_lp {b : Bo} {n : Int} (h : sf b n = true) : nbE (lpart b n) n = [] := by
  unfold nbE
  rw [List.filter_eq_nil_iff]
  intro e he
  cases hv : (lpart b n).has e
  · simp
  · have := least_lpart h e he hv
    unfold sf at this
    rw [tu_p] at this
    rw [this]; simp
theorem go_3 {k : Int} {R : S → Prop} {K bk0 : GB.En → Prop} {n : Int} {b : Bo} {ns : List Int} {s5 : S} (ok : OkB b) (hn : 1 ≤ n) (hs : sf b n = true)
    (hK : K [S.ob (Tk.scr ns), S.ob Tk.jar, S.d (.int k), S.d (.int n), S.d (.bool b.p), s5, S.d b.d, S.d (.str b.d.shown), S.d (lpart b n).d]) :
    tl3_law { nx := K, ct := K, bk := bk0, rt := R } [S.ob (Tk.scr ns), S.ob Tk.jar, S.d (.int k), S.d (.int n), S.d (.bool b.p), s5, S.d b.d, S.d (.str b.d.shown), S.d (lpart b n).d] := by
  have okt := ok_lpart (n := n) ok
  have p0 := bo_sm okt
  have b1 := p0.sh
  have b2 := p0.fits (by decide)
  have b3 : (lpart b n).d.depth ≤ 60 := Nat.le_trans p0.dp (by decide)
  have lF : (ENS.filter b.has).length ≤ 100 := Nat.le_trans (List.length_filter_le _ _) (by decide)
  unfold tl3_law
  simp only [↓at0, ↓set0, ↓at1, ↓set1, ↓at2, ↓set2, ↓at3, ↓set3, ↓at4, ↓set4, ↓at5, ↓set5, ↓at6, ↓set6, ↓at7, ↓set7, ↓at8, ↓set8, ↓at9, ↓set9, ↓at10, ↓set10, ↓at11, ↓set11, ↓at12, ↓set12, ↓at13, ↓set13, ↓at14, ↓set14, ↓at15, ↓set15, ↓fz_d, ↓fz_own, ↓fz_ob, ↓one_d, ↓int_d, ↓bool_d, ↓own_o, ↓ds_nil, ↓ds_cons, ↓seq_l, ↓seq_t, ↓ite_t, ↓ite_f, ↓e_next, ↓e_seq, ↓e_set, ↓e_drop, ↓e_ret, ↓e_ifs, ↓e_brk, ↓e_cnt, ↓e_fixs, ↓e_par, ↓e_par3, ↓e_asg, ↓e_for, ↓e_putAt, ↓e_jput, ↓e_var, ↓e_k, ↓e_fz, ↓e_op, ↓e_opL, ↓e_opR, ↓e_n, ↓e_n1, ↓e_nil, ↓e_cons, ↓e_tup, ↓e_lst, ↓e_b, ↓e_not, ↓e_and, ↓e_or, ↓e_andV, ↓e_orV, ↓e_notV, ↓e_if, ↓e_isi, ↓e_neg, ↓e_chain, ↓e_call, ↓e_callK, ↓e_jint, ↓e_dict0, ↓e_dict1, ↓e_listRng, ↓e_append, ↓e_cut, ↓e_cutO, ↓e_onone, ↓e_osome, ↓e_iseq, ↓e_ienum, ↓e_irng, ↓e_gname, ↓e_lnil, ↓e_lcons, ↓e_lc, ↓e_yes, ↓f_addI, ↓f_addS, ↓f_addT, ↓f_addL, ↓f_i2, ↓f_mulI, ↓f_mulT, ↓f_mulL, ↓f_eq, ↓f_ne, ↓f_is, ↓f_isnot, ↓f_in, ↓f_notin, ↓f_ixL, ↓f_ixT, ↓f_lenL, ↓f_lenT, ↓f_lenS, ↓f_abs, ↓f_intI, ↓f_intB, ↓f_tupL, ↓f_tupT, ↓f_lstL, ↓f_lstT, ↓f_repr, ↓f_cutL, ↓f_cutT, ↓firm_d, ↓firm_ob, ↓zip_l, ↓zip_t, ↓e_izip, ↓zip_cons, ↓zip_nil1, ↓zip_nil2, ↓f_sorted, ↓e_inn, ↓e_inc, ↓e_l2n, ↓e_l2c, ↓e_lc2, ↓e_rev, ↓e_pop, ↓e_popAt, ↓e_extend, ↓e_lc3, ↓e_gon, ↓e_goc, ↓e_dbMid, ↓e_dbIn, ↓f_neu, ↓dgTup_tup, ↓dgCons_cons, ↓dgNil_nil, ite_t, ite_f, itK_not, List.cons_append, List.nil_append, List.append_nil, List.replicate, List.flatten_cons, List.flatten_nil, List.append_eq, List.length_cons, List.length_nil, Nat.zero_add, Nat.reduceAdd, true_and, and_true, eqOk_str, eqOk_int, eqOk_bool, str_eqv, int_eqv, tup_nil_eqv, lst_nil_eqv, rep_flat, isK_int, isK_bool, isK_tuple, isK_str, kInt, kBool, kTuple, kStr, GB.isNon, Bool.not_true, Bool.not_false, Bool.or_false, Bool.or_true, Bool.false_or, Bool.true_or, reduceCtorEq, ↓s_lhas ok, ↓s_lleast subF lF, hn]
  refine iteB (fun h => ⟨b1, b2, b3, ?_⟩) fun _ => ?_
  rw [show (PyData.str (lpart b n).d.shown).eqv (PyData.str b.d.shown) = true by rw [lp_same h]; exact eqv_self]
  refine ite_t.mpr ?_
  all_goals
    refine iteB (fun _ => ?_) fun _ => hK
    refine s_part okt ?_
    rw [if_pos (sf_lpart hs), lp_lp hs]
    simp only [↓at0, ↓set0, ↓at1, ↓set1, ↓at2, ↓set2, ↓at3, ↓set3, ↓at4, ↓set4, ↓at5, ↓set5, ↓at6, ↓set6, ↓at7, ↓set7, ↓at8, ↓set8, ↓at9, ↓set9, ↓at10, ↓set10, ↓at11, ↓set11, ↓at12, ↓set12, ↓at13, ↓set13, ↓at14, ↓set14, ↓at15, ↓set15, ↓fz_d, ↓fz_own, ↓fz_ob, ↓one_d, ↓int_d, ↓bool_d, ↓own_o, ↓ds_nil, ↓ds_cons, ↓seq_l, ↓seq_t, ↓ite_t, ↓ite_f, ↓e_next, ↓e_seq, ↓e_set, ↓e_drop, ↓e_ret, ↓e_ifs, ↓e_brk, ↓e_cnt, ↓e_fixs, ↓e_par, ↓e_par3, ↓e_asg, ↓e_for, ↓e_putAt, ↓e_jput, ↓e_var, ↓e_k, ↓e_fz, ↓e_op, ↓e_opL, ↓e_opR, ↓e_n, ↓e_n1, ↓e_nil, ↓e_cons, ↓e_tup, ↓e_lst, ↓e_b, ↓e_not, ↓e_and, ↓e_or, ↓e_andV, ↓e_orV, ↓e_notV, ↓e_if, ↓e_isi, ↓e_neg, ↓e_chain, ↓e_call, ↓e_callK, ↓e_jint, ↓e_dict0, ↓e_dict1, ↓e_listRng, ↓e_append, ↓e_cut, ↓e_cutO, ↓e_onone, ↓e_osome, ↓e_iseq, ↓e_ienum, ↓e_irng, ↓e_gname, ↓e_lnil, ↓e_lcons, ↓e_lc, ↓e_yes, ↓f_addI, ↓f_addS, ↓f_addT, ↓f_addL, ↓f_i2, ↓f_mulI, ↓f_mulT, ↓f_mulL, ↓f_eq, ↓f_ne, ↓f_is, ↓f_isnot, ↓f_in, ↓f_notin, ↓f_ixL, ↓f_ixT, ↓f_lenL, ↓f_lenT, ↓f_lenS, ↓f_abs, ↓f_intI, ↓f_intB, ↓f_tupL, ↓f_tupT, ↓f_lstL, ↓f_lstT, ↓f_repr, ↓f_cutL, ↓f_cutT, ↓firm_d, ↓firm_ob, ↓zip_l, ↓zip_t, ↓e_izip, ↓zip_cons, ↓zip_nil1, ↓zip_nil2, ↓f_sorted, ↓e_inn, ↓e_inc, ↓e_l2n, ↓e_l2c, ↓e_lc2, ↓e_rev, ↓e_pop, ↓e_popAt, ↓e_extend, ↓e_lc3, ↓e_gon, ↓e_goc, ↓e_dbMid, ↓e_dbIn, ↓f_neu, ↓dgTup_tup, ↓dgCons_cons, ↓dgNil_nil, ite_t, ite_f, itK_not, List.cons_append, List.nil_append, List.append_nil, List.replicate, List.flatten_cons, List.flatten_nil, List.append_eq, List.length_cons, List.length_nil, Nat.zero_add, Nat.reduceAdd, true_and, and_true, eqOk_str, eqOk_int, eqOk_bool, str_eqv, int_eqv, tup_nil_eqv, lst_nil_eqv, rep_flat, isK_int, isK_bool, isK_tuple, isK_str, kInt, kBool, kTuple, kStr, GB.isNon, Bool.not_true, Bool.not_false, Bool.or_false, Bool.or_true, Bool.false_or, Bool.true_or, reduceCtorEq, b1, b2, b3, eqv_self]
    exact hK
theorem go_tl {k : Int} {R : S → Prop} {K bk0 : GB.En → Prop} {n : Int} {pc : Bool} {es : List En} {ns : List Int} {s6 s7 s8 : S} (hsb : SubE es) (hl : es.length ≤ 100) (hn : 1 ≤ n)
    (hK : ∀ s5 s6 s7 s8, K [S.ob (Tk.scr ns), S.ob Tk.jar, S.d (.int k), S.d (.int n), S.d (.bool pc), s5, s6, s7, s8]) :
    tl_law { nx := K, ct := K, bk := bk0, rt := R } [S.ob (Tk.scr ns), S.ob Tk.jar, S.d (.int k), S.d (.int n), S.d (.bool pc), S.d (esD es), s6, s7, s8] := by
  unfold tl_law
  simp only [↓at0, ↓set0, ↓at1, ↓set1, ↓at2, ↓set2, ↓at3, ↓set3, ↓at4, ↓set4, ↓at5, ↓set5, ↓at6, ↓set6, ↓at7, ↓set7, ↓at8, ↓set8, ↓at9, ↓set9, ↓at10, ↓set10, ↓at11, ↓set11, ↓at12, ↓set12, ↓at13, ↓set13, ↓at14, ↓set14, ↓at15, ↓set15, ↓fz_d, ↓fz_own, ↓fz_ob, ↓one_d, ↓int_d, ↓bool_d, ↓own_o, ↓ds_nil, ↓ds_cons, ↓seq_l, ↓seq_t, ↓ite_t, ↓ite_f, ↓e_next, ↓e_seq, ↓e_set, ↓e_drop, ↓e_ret, ↓e_ifs, ↓e_brk, ↓e_cnt, ↓e_fixs, ↓e_par, ↓e_par3, ↓e_asg, ↓e_for, ↓e_putAt, ↓e_jput, ↓e_var, ↓e_k, ↓e_fz, ↓e_op, ↓e_opL, ↓e_opR, ↓e_n, ↓e_n1, ↓e_nil, ↓e_cons, ↓e_tup, ↓e_lst, ↓e_b, ↓e_not, ↓e_and, ↓e_or, ↓e_andV, ↓e_orV, ↓e_notV, ↓e_if, ↓e_isi, ↓e_neg, ↓e_chain, ↓e_call, ↓e_callK, ↓e_jint, ↓e_dict0, ↓e_dict1, ↓e_listRng, ↓e_append, ↓e_cut, ↓e_cutO, ↓e_onone, ↓e_osome, ↓e_iseq, ↓e_ienum, ↓e_irng, ↓e_gname, ↓e_lnil, ↓e_lcons, ↓e_lc, ↓e_yes, ↓f_addI, ↓f_addS, ↓f_addT, ↓f_addL, ↓f_i2, ↓f_mulI, ↓f_mulT, ↓f_mulL, ↓f_eq, ↓f_ne, ↓f_is, ↓f_isnot, ↓f_in, ↓f_notin, ↓f_ixL, ↓f_ixT, ↓f_lenL, ↓f_lenT, ↓f_lenS, ↓f_abs, ↓f_intI, ↓f_intB, ↓f_tupL, ↓f_tupT, ↓f_lstL, ↓f_lstT, ↓f_repr, ↓f_cutL, ↓f_cutT, ↓firm_d, ↓firm_ob, ↓zip_l, ↓zip_t, ↓e_izip, ↓zip_cons, ↓zip_nil1, ↓zip_nil2, ↓f_sorted, ↓e_inn, ↓e_inc, ↓e_l2n, ↓e_l2c, ↓e_lc2, ↓e_rev, ↓e_pop, ↓e_popAt, ↓e_extend, ↓e_lc3, ↓e_gon, ↓e_goc, ↓e_dbMid, ↓e_dbIn, ↓f_neu, ↓dgTup_tup, ↓dgCons_cons, ↓dgNil_nil, ite_t, ite_f, itK_not, List.cons_append, List.nil_append, List.append_nil, List.replicate, List.flatten_cons, List.flatten_nil, List.append_eq, List.length_cons, List.length_nil, Nat.zero_add, Nat.reduceAdd, true_and, and_true, eqOk_str, eqOk_int, eqOk_bool, str_eqv, int_eqv, tup_nil_eqv, lst_nil_eqv, rep_flat, isK_int, isK_bool, isK_tuple, isK_str, kInt, kBool, kTuple, kStr, GB.isNon, Bool.not_true, Bool.not_false, Bool.or_false, Bool.or_true, Bool.false_or, Bool.true_or, reduceCtorEq, ]
  refine s_paint.mpr fun a c ha hc => ?_
  have ok : OkB (GK.bk es a c pc) := bk_ok _ _ (pn_ok ha) (pn_ok hc)
  refine ⟨trivial, (s_lbook hsb).mpr ?_⟩
  have p0 := bo_sm ok
  have b1 := p0.sh
  have b2 := p0.fits (by decide)
  have b3 : (GK.bk es a c pc).d.depth ≤ 60 := Nat.le_trans p0.dp (by decide)
  have hp : (GK.bk es a c pc).p = pc := rfl
  generalize GK.bk es a c pc = b at *
  subst hp
  simp only [↓at0, ↓set0, ↓at1, ↓set1, ↓at2, ↓set2, ↓at3, ↓set3, ↓at4, ↓set4, ↓at5, ↓set5, ↓at6, ↓set6, ↓at7, ↓set7, ↓at8, ↓set8, ↓at9, ↓set9, ↓at10, ↓set10, ↓at11, ↓set11, ↓at12, ↓set12, ↓at13, ↓set13, ↓at14, ↓set14, ↓at15, ↓set15, ↓fz_d, ↓fz_own, ↓fz_ob, ↓one_d, ↓int_d, ↓bool_d, ↓own_o, ↓ds_nil, ↓ds_cons, ↓seq_l, ↓seq_t, ↓ite_t, ↓ite_f, ↓e_next, ↓e_seq, ↓e_set, ↓e_drop, ↓e_ret, ↓e_ifs, ↓e_brk, ↓e_cnt, ↓e_fixs, ↓e_par, ↓e_par3, ↓e_asg, ↓e_for, ↓e_putAt, ↓e_jput, ↓e_var, ↓e_k, ↓e_fz, ↓e_op, ↓e_opL, ↓e_opR, ↓e_n, ↓e_n1, ↓e_nil, ↓e_cons, ↓e_tup, ↓e_lst, ↓e_b, ↓e_not, ↓e_and, ↓e_or, ↓e_andV, ↓e_orV, ↓e_notV, ↓e_if, ↓e_isi, ↓e_neg, ↓e_chain, ↓e_call, ↓e_callK, ↓e_jint, ↓e_dict0, ↓e_dict1, ↓e_listRng, ↓e_append, ↓e_cut, ↓e_cutO, ↓e_onone, ↓e_osome, ↓e_iseq, ↓e_ienum, ↓e_irng, ↓e_gname, ↓e_lnil, ↓e_lcons, ↓e_lc, ↓e_yes, ↓f_addI, ↓f_addS, ↓f_addT, ↓f_addL, ↓f_i2, ↓f_mulI, ↓f_mulT, ↓f_mulL, ↓f_eq, ↓f_ne, ↓f_is, ↓f_isnot, ↓f_in, ↓f_notin, ↓f_ixL, ↓f_ixT, ↓f_lenL, ↓f_lenT, ↓f_lenS, ↓f_abs, ↓f_intI, ↓f_intB, ↓f_tupL, ↓f_tupT, ↓f_lstL, ↓f_lstT, ↓f_repr, ↓f_cutL, ↓f_cutT, ↓firm_d, ↓firm_ob, ↓zip_l, ↓zip_t, ↓e_izip, ↓zip_cons, ↓zip_nil1, ↓zip_nil2, ↓f_sorted, ↓e_inn, ↓e_inc, ↓e_l2n, ↓e_l2c, ↓e_lc2, ↓e_rev, ↓e_pop, ↓e_popAt, ↓e_extend, ↓e_lc3, ↓e_gon, ↓e_goc, ↓e_dbMid, ↓e_dbIn, ↓f_neu, ↓dgTup_tup, ↓dgCons_cons, ↓dgNil_nil, ite_t, ite_f, itK_not, List.cons_append, List.nil_append, List.append_nil, List.replicate, List.flatten_cons, List.flatten_nil, List.append_eq, List.length_cons, List.length_nil, Nat.zero_add, Nat.reduceAdd, true_and, and_true, eqOk_str, eqOk_int, eqOk_bool, str_eqv, int_eqv, tup_nil_eqv, lst_nil_eqv, rep_flat, isK_int, isK_bool, isK_tuple, isK_str, kInt, kBool, kTuple, kStr, GB.isNon, Bool.not_true, Bool.not_false, Bool.or_false, Bool.or_true, Bool.false_or, Bool.true_or, reduceCtorEq, b1, b2, b3]
  refine s_said ok ?_
  simp only [↓at0, ↓set0, ↓at1, ↓set1, ↓at2, ↓set2, ↓at3, ↓set3, ↓at4, ↓set4, ↓at5, ↓set5, ↓at6, ↓set6, ↓at7, ↓set7, ↓at8, ↓set8, ↓at9, ↓set9, ↓at10, ↓set10, ↓at11, ↓set11, ↓at12, ↓set12, ↓at13, ↓set13, ↓at14, ↓set14, ↓at15, ↓set15, ↓fz_d, ↓fz_own, ↓fz_ob, ↓one_d, ↓int_d, ↓bool_d, ↓own_o, ↓ds_nil, ↓ds_cons, ↓seq_l, ↓seq_t, ↓ite_t, ↓ite_f, ↓e_next, ↓e_seq, ↓e_set, ↓e_drop, ↓e_ret, ↓e_ifs, ↓e_brk, ↓e_cnt, ↓e_fixs, ↓e_par, ↓e_par3, ↓e_asg, ↓e_for, ↓e_putAt, ↓e_jput, ↓e_var, ↓e_k, ↓e_fz, ↓e_op, ↓e_opL, ↓e_opR, ↓e_n, ↓e_n1, ↓e_nil, ↓e_cons, ↓e_tup, ↓e_lst, ↓e_b, ↓e_not, ↓e_and, ↓e_or, ↓e_andV, ↓e_orV, ↓e_notV, ↓e_if, ↓e_isi, ↓e_neg, ↓e_chain, ↓e_call, ↓e_callK, ↓e_jint, ↓e_dict0, ↓e_dict1, ↓e_listRng, ↓e_append, ↓e_cut, ↓e_cutO, ↓e_onone, ↓e_osome, ↓e_iseq, ↓e_ienum, ↓e_irng, ↓e_gname, ↓e_lnil, ↓e_lcons, ↓e_lc, ↓e_yes, ↓f_addI, ↓f_addS, ↓f_addT, ↓f_addL, ↓f_i2, ↓f_mulI, ↓f_mulT, ↓f_mulL, ↓f_eq, ↓f_ne, ↓f_is, ↓f_isnot, ↓f_in, ↓f_notin, ↓f_ixL, ↓f_ixT, ↓f_lenL, ↓f_lenT, ↓f_lenS, ↓f_abs, ↓f_intI, ↓f_intB, ↓f_tupL, ↓f_tupT, ↓f_lstL, ↓f_lstT, ↓f_repr, ↓f_cutL, ↓f_cutT, ↓firm_d, ↓firm_ob, ↓zip_l, ↓zip_t, ↓e_izip, ↓zip_cons, ↓zip_nil1, ↓zip_nil2, ↓f_sorted, ↓e_inn, ↓e_inc, ↓e_l2n, ↓e_l2c, ↓e_lc2, ↓e_rev, ↓e_pop, ↓e_popAt, ↓e_extend, ↓e_lc3, ↓e_gon, ↓e_goc, ↓e_dbMid, ↓e_dbIn, ↓f_neu, ↓dgTup_tup, ↓dgCons_cons, ↓dgNil_nil, ite_t, ite_f, itK_not, List.cons_append, List.nil_append, List.append_nil, List.replicate, List.flatten_cons, List.flatten_nil, List.append_eq, List.length_cons, List.length_nil, Nat.zero_add, Nat.reduceAdd, true_and, and_true, eqOk_str, eqOk_int, eqOk_bool, str_eqv, int_eqv, tup_nil_eqv, lst_nil_eqv, rep_flat, isK_int, isK_bool, isK_tuple, isK_str, kInt, kBool, kTuple, kStr, GB.isNon, Bool.not_true, Bool.not_false, Bool.or_false, Bool.or_true, Bool.false_or, Bool.true_or, reduceCtorEq, ]
  have p1 : Sm 5 2000 (saidD b n) := by
    unfold saidD
    split
    · exact bo_sm (ok_lpart ok)
    · exact sm_of (by decide +kernel)
  have c1 := p1.sh
  have c2 := p1.fits (by decide)
  have c3 : (saidD b n).depth ≤ 60 := Nat.le_trans p1.dp (by decide)
  have go2 : tl2_law { nx := K, ct := K, bk := bk0, rt := R } [S.ob (Tk.scr ns), S.ob Tk.jar, S.d (.int k), S.d (.int n), S.d (.bool b.p), S.d (esD es), S.d b.d, S.d (.str b.d.shown), S.d (saidD b n)] := by
    have e2 : waysH (inL (ENS.filter b.has)) b.p n = waysH b.has b.p n := ways_c inF _ _
    have sh : eqOk (strsD (waysH b.has b.p n)) (.tuple []) = true := by
      show (SeqAt.shaped _ && SeqAt.shaped _) = true
      rw [wn_lay (ways_wn _ _ _)]; rfl
    unfold tl2_law
    simp only [↓at0, ↓set0, ↓at1, ↓set1, ↓at2, ↓set2, ↓at3, ↓set3, ↓at4, ↓set4, ↓at5, ↓set5, ↓at6, ↓set6, ↓at7, ↓set7, ↓at8, ↓set8, ↓at9, ↓set9, ↓at10, ↓set10, ↓at11, ↓set11, ↓at12, ↓set12, ↓at13, ↓set13, ↓at14, ↓set14, ↓at15, ↓set15, ↓fz_d, ↓fz_own, ↓fz_ob, ↓one_d, ↓int_d, ↓bool_d, ↓own_o, ↓ds_nil, ↓ds_cons, ↓seq_l, ↓seq_t, ↓ite_t, ↓ite_f, ↓e_next, ↓e_seq, ↓e_set, ↓e_drop, ↓e_ret, ↓e_ifs, ↓e_brk, ↓e_cnt, ↓e_fixs, ↓e_par, ↓e_par3, ↓e_asg, ↓e_for, ↓e_putAt, ↓e_jput, ↓e_var, ↓e_k, ↓e_fz, ↓e_op, ↓e_opL, ↓e_opR, ↓e_n, ↓e_n1, ↓e_nil, ↓e_cons, ↓e_tup, ↓e_lst, ↓e_b, ↓e_not, ↓e_and, ↓e_or, ↓e_andV, ↓e_orV, ↓e_notV, ↓e_if, ↓e_isi, ↓e_neg, ↓e_chain, ↓e_call, ↓e_callK, ↓e_jint, ↓e_dict0, ↓e_dict1, ↓e_listRng, ↓e_append, ↓e_cut, ↓e_cutO, ↓e_onone, ↓e_osome, ↓e_iseq, ↓e_ienum, ↓e_irng, ↓e_gname, ↓e_lnil, ↓e_lcons, ↓e_lc, ↓e_yes, ↓f_addI, ↓f_addS, ↓f_addT, ↓f_addL, ↓f_i2, ↓f_mulI, ↓f_mulT, ↓f_mulL, ↓f_eq, ↓f_ne, ↓f_is, ↓f_isnot, ↓f_in, ↓f_notin, ↓f_ixL, ↓f_ixT, ↓f_lenL, ↓f_lenT, ↓f_lenS, ↓f_abs, ↓f_intI, ↓f_intB, ↓f_tupL, ↓f_tupT, ↓f_lstL, ↓f_lstT, ↓f_repr, ↓f_cutL, ↓f_cutT, ↓firm_d, ↓firm_ob, ↓zip_l, ↓zip_t, ↓e_izip, ↓zip_cons, ↓zip_nil1, ↓zip_nil2, ↓f_sorted, ↓e_inn, ↓e_inc, ↓e_l2n, ↓e_l2c, ↓e_lc2, ↓e_rev, ↓e_pop, ↓e_popAt, ↓e_extend, ↓e_lc3, ↓e_gon, ↓e_goc, ↓e_dbMid, ↓e_dbIn, ↓f_neu, ↓dgTup_tup, ↓dgCons_cons, ↓dgNil_nil, ite_t, ite_f, itK_not, List.cons_append, List.nil_append, List.append_nil, List.replicate, List.flatten_cons, List.flatten_nil, List.append_eq, List.length_cons, List.length_nil, Nat.zero_add, Nat.reduceAdd, true_and, and_true, eqOk_str, eqOk_int, eqOk_bool, str_eqv, int_eqv, tup_nil_eqv, lst_nil_eqv, rep_flat, isK_int, isK_bool, isK_tuple, isK_str, kInt, kBool, kTuple, kStr, GB.isNon, Bool.not_true, Bool.not_false, Bool.or_false, Bool.or_true, Bool.false_or, Bool.true_or, reduceCtorEq, ↓s_lhas ok, ↓s_lways subF, e2, hn, z0, sh, eqv_no]
    cases hw : (waysH b.has b.p n).isEmpty
    · have hs : sf b n = true := by unfold sf; rw [hw]; rfl
      have es : saidD b n = (lpart b n).d := if_pos hs
      have okt := ok_lpart (n := n) ok
      have ls : (!(waysH (lpart b n).has (lpart b n).p n).isEmpty && (nbE (lpart b n) n).isEmpty) = true := by
        have := sf_lpart hs
        unfold sf at this
        rw [this, nb_lp hs]; rfl
      refine ite_f.mpr ?_
      rw [es]
      refine s_ispart ok hn hs ?_
      simp only [↓at0, ↓set0, ↓at1, ↓set1, ↓at2, ↓set2, ↓at3, ↓set3, ↓at4, ↓set4, ↓at5, ↓set5, ↓at6, ↓set6, ↓at7, ↓set7, ↓at8, ↓set8, ↓at9, ↓set9, ↓at10, ↓set10, ↓at11, ↓set11, ↓at12, ↓set12, ↓at13, ↓set13, ↓at14, ↓set14, ↓at15, ↓set15, ↓fz_d, ↓fz_own, ↓fz_ob, ↓one_d, ↓int_d, ↓bool_d, ↓own_o, ↓ds_nil, ↓ds_cons, ↓seq_l, ↓seq_t, ↓ite_t, ↓ite_f, ↓e_next, ↓e_seq, ↓e_set, ↓e_drop, ↓e_ret, ↓e_ifs, ↓e_brk, ↓e_cnt, ↓e_fixs, ↓e_par, ↓e_par3, ↓e_asg, ↓e_for, ↓e_putAt, ↓e_jput, ↓e_var, ↓e_k, ↓e_fz, ↓e_op, ↓e_opL, ↓e_opR, ↓e_n, ↓e_n1, ↓e_nil, ↓e_cons, ↓e_tup, ↓e_lst, ↓e_b, ↓e_not, ↓e_and, ↓e_or, ↓e_andV, ↓e_orV, ↓e_notV, ↓e_if, ↓e_isi, ↓e_neg, ↓e_chain, ↓e_call, ↓e_callK, ↓e_jint, ↓e_dict0, ↓e_dict1, ↓e_listRng, ↓e_append, ↓e_cut, ↓e_cutO, ↓e_onone, ↓e_osome, ↓e_iseq, ↓e_ienum, ↓e_irng, ↓e_gname, ↓e_lnil, ↓e_lcons, ↓e_lc, ↓e_yes, ↓f_addI, ↓f_addS, ↓f_addT, ↓f_addL, ↓f_i2, ↓f_mulI, ↓f_mulT, ↓f_mulL, ↓f_eq, ↓f_ne, ↓f_is, ↓f_isnot, ↓f_in, ↓f_notin, ↓f_ixL, ↓f_ixT, ↓f_lenL, ↓f_lenT, ↓f_lenS, ↓f_abs, ↓f_intI, ↓f_intB, ↓f_tupL, ↓f_tupT, ↓f_lstL, ↓f_lstT, ↓f_repr, ↓f_cutL, ↓f_cutT, ↓firm_d, ↓firm_ob, ↓zip_l, ↓zip_t, ↓e_izip, ↓zip_cons, ↓zip_nil1, ↓zip_nil2, ↓f_sorted, ↓e_inn, ↓e_inc, ↓e_l2n, ↓e_l2c, ↓e_lc2, ↓e_rev, ↓e_pop, ↓e_popAt, ↓e_extend, ↓e_lc3, ↓e_gon, ↓e_goc, ↓e_dbMid, ↓e_dbIn, ↓f_neu, ↓dgTup_tup, ↓dgCons_cons, ↓dgNil_nil, ite_t, ite_f, itK_not, List.cons_append, List.nil_append, List.append_nil, List.replicate, List.flatten_cons, List.flatten_nil, List.append_eq, List.length_cons, List.length_nil, Nat.zero_add, Nat.reduceAdd, true_and, and_true, eqOk_str, eqOk_int, eqOk_bool, str_eqv, int_eqv, tup_nil_eqv, lst_nil_eqv, rep_flat, isK_int, isK_bool, isK_tuple, isK_str, kInt, kBool, kTuple, kStr, GB.isNon, Bool.not_true, Bool.not_false, Bool.or_false, Bool.or_true, Bool.false_or, Bool.true_or, reduceCtorEq, ↓s_least okt, ls, ↓f_isNotB]
      exact go_3 ok hn hs (hK _ _ _ _)
    · have es : saidD b n = .str "unfit" := by
        unfold saidD sf
        rw [hw]; rfl
      refine ite_t.mpr ?_
      rw [es]
      refine ⟨by decide +kernel, ?_⟩
      rw [eqv_self]
      exact ite_t.mpr (hK _ _ _ _)
  refine iteB (fun _ => ?_) fun _ => go2
  refine s_said ok ?_
  simp only [↓at0, ↓set0, ↓at1, ↓set1, ↓at2, ↓set2, ↓at3, ↓set3, ↓at4, ↓set4, ↓at5, ↓set5, ↓at6, ↓set6, ↓at7, ↓set7, ↓at8, ↓set8, ↓at9, ↓set9, ↓at10, ↓set10, ↓at11, ↓set11, ↓at12, ↓set12, ↓at13, ↓set13, ↓at14, ↓set14, ↓at15, ↓set15, ↓fz_d, ↓fz_own, ↓fz_ob, ↓one_d, ↓int_d, ↓bool_d, ↓own_o, ↓ds_nil, ↓ds_cons, ↓seq_l, ↓seq_t, ↓ite_t, ↓ite_f, ↓e_next, ↓e_seq, ↓e_set, ↓e_drop, ↓e_ret, ↓e_ifs, ↓e_brk, ↓e_cnt, ↓e_fixs, ↓e_par, ↓e_par3, ↓e_asg, ↓e_for, ↓e_putAt, ↓e_jput, ↓e_var, ↓e_k, ↓e_fz, ↓e_op, ↓e_opL, ↓e_opR, ↓e_n, ↓e_n1, ↓e_nil, ↓e_cons, ↓e_tup, ↓e_lst, ↓e_b, ↓e_not, ↓e_and, ↓e_or, ↓e_andV, ↓e_orV, ↓e_notV, ↓e_if, ↓e_isi, ↓e_neg, ↓e_chain, ↓e_call, ↓e_callK, ↓e_jint, ↓e_dict0, ↓e_dict1, ↓e_listRng, ↓e_append, ↓e_cut, ↓e_cutO, ↓e_onone, ↓e_osome, ↓e_iseq, ↓e_ienum, ↓e_irng, ↓e_gname, ↓e_lnil, ↓e_lcons, ↓e_lc, ↓e_yes, ↓f_addI, ↓f_addS, ↓f_addT, ↓f_addL, ↓f_i2, ↓f_mulI, ↓f_mulT, ↓f_mulL, ↓f_eq, ↓f_ne, ↓f_is, ↓f_isnot, ↓f_in, ↓f_notin, ↓f_ixL, ↓f_ixT, ↓f_lenL, ↓f_lenT, ↓f_lenS, ↓f_abs, ↓f_intI, ↓f_intB, ↓f_tupL, ↓f_tupT, ↓f_lstL, ↓f_lstT, ↓f_repr, ↓f_cutL, ↓f_cutT, ↓firm_d, ↓firm_ob, ↓zip_l, ↓zip_t, ↓e_izip, ↓zip_cons, ↓zip_nil1, ↓zip_nil2, ↓f_sorted, ↓e_inn, ↓e_inc, ↓e_l2n, ↓e_l2c, ↓e_lc2, ↓e_rev, ↓e_pop, ↓e_popAt, ↓e_extend, ↓e_lc3, ↓e_gon, ↓e_goc, ↓e_dbMid, ↓e_dbIn, ↓f_neu, ↓dgTup_tup, ↓dgCons_cons, ↓dgNil_nil, ite_t, ite_f, itK_not, List.cons_append, List.nil_append, List.append_nil, List.replicate, List.flatten_cons, List.flatten_nil, List.append_eq, List.length_cons, List.length_nil, Nat.zero_add, Nat.reduceAdd, true_and, and_true, eqOk_str, eqOk_int, eqOk_bool, str_eqv, int_eqv, tup_nil_eqv, lst_nil_eqv, rep_flat, isK_int, isK_bool, isK_tuple, isK_str, kInt, kBool, kTuple, kStr, GB.isNon, Bool.not_true, Bool.not_false, Bool.or_false, Bool.or_true, Bool.false_or, Bool.true_or, reduceCtorEq, c1, c2, c3, eqv_self]
  exact go2
theorem ma_law : ∀ ss R, ss.length = 1 → F_law ss R → rd_law { nx := fun _ => R (.d .none), rt := R } (ss ++ List.replicate 8 .un) := by
  rintro _ R - ⟨ns, rfl, hn, q⟩
  rw [rd_law_tl]
  simp only [↓at0, ↓set0, ↓at1, ↓set1, ↓at2, ↓set2, ↓at3, ↓set3, ↓at4, ↓set4, ↓at5, ↓set5, ↓at6, ↓set6, ↓at7, ↓set7, ↓at8, ↓set8, ↓at9, ↓set9, ↓at10, ↓set10, ↓at11, ↓set11, ↓at12, ↓set12, ↓at13, ↓set13, ↓at14, ↓set14, ↓at15, ↓set15, ↓fz_d, ↓fz_own, ↓fz_ob, ↓one_d, ↓int_d, ↓bool_d, ↓own_o, ↓ds_nil, ↓ds_cons, ↓seq_l, ↓seq_t, ↓ite_t, ↓ite_f, ↓e_next, ↓e_seq, ↓e_set, ↓e_drop, ↓e_ret, ↓e_ifs, ↓e_brk, ↓e_cnt, ↓e_fixs, ↓e_par, ↓e_par3, ↓e_asg, ↓e_for, ↓e_putAt, ↓e_jput, ↓e_var, ↓e_k, ↓e_fz, ↓e_op, ↓e_opL, ↓e_opR, ↓e_n, ↓e_n1, ↓e_nil, ↓e_cons, ↓e_tup, ↓e_lst, ↓e_b, ↓e_not, ↓e_and, ↓e_or, ↓e_andV, ↓e_orV, ↓e_notV, ↓e_if, ↓e_isi, ↓e_neg, ↓e_chain, ↓e_call, ↓e_callK, ↓e_jint, ↓e_dict0, ↓e_dict1, ↓e_listRng, ↓e_append, ↓e_cut, ↓e_cutO, ↓e_onone, ↓e_osome, ↓e_iseq, ↓e_ienum, ↓e_irng, ↓e_gname, ↓e_lnil, ↓e_lcons, ↓e_lc, ↓e_yes, ↓f_addI, ↓f_addS, ↓f_addT, ↓f_addL, ↓f_i2, ↓f_mulI, ↓f_mulT, ↓f_mulL, ↓f_eq, ↓f_ne, ↓f_is, ↓f_isnot, ↓f_in, ↓f_notin, ↓f_ixL, ↓f_ixT, ↓f_lenL, ↓f_lenT, ↓f_lenS, ↓f_abs, ↓f_intI, ↓f_intB, ↓f_tupL, ↓f_tupT, ↓f_lstL, ↓f_lstT, ↓f_repr, ↓f_cutL, ↓f_cutT, ↓firm_d, ↓firm_ob, ↓zip_l, ↓zip_t, ↓e_izip, ↓zip_cons, ↓zip_nil1, ↓zip_nil2, ↓f_sorted, ↓e_inn, ↓e_inc, ↓e_l2n, ↓e_l2c, ↓e_lc2, ↓e_rev, ↓e_pop, ↓e_popAt, ↓e_extend, ↓e_lc3, ↓e_gon, ↓e_goc, ↓e_dbMid, ↓e_dbIn, ↓f_neu, ↓dgTup_tup, ↓dgCons_cons, ↓dgNil_nil, ite_t, ite_f, itK_not, List.cons_append, List.nil_append, List.append_nil, List.replicate, List.flatten_cons, List.flatten_nil, List.append_eq, List.length_cons, List.length_nil, Nat.zero_add, Nat.reduceAdd, true_and, and_true, eqOk_str, eqOk_int, eqOk_bool, str_eqv, int_eqv, tup_nil_eqv, lst_nil_eqv, rep_flat, isK_int, isK_bool, isK_tuple, isK_str, kInt, kBool, kTuple, kStr, GB.isNon, Bool.not_true, Bool.not_false, Bool.or_false, Bool.or_true, Bool.false_or, Bool.true_or, reduceCtorEq, ↓s_stock]
  refine ⟨hn, by decide, by decide, ?_⟩
  refine loopR (fun _ _ ρ => ∃ s2 s3 s4 s5 s6 s7 s8, ρ = [S.ob (Tk.scr ns), S.ob Tk.jar, s2, s3, s4, s5, s6, s7, s8]) ?_ ?_ 4 0 _ ⟨_, _, _, _, _, _, _, rfl⟩
  · rintro k _ ⟨s2, s3, s4, s5, s6, s7, s8, rfl⟩
    simp only [↓at0, ↓set0, ↓at1, ↓set1, ↓at2, ↓set2, ↓at3, ↓set3, ↓at4, ↓set4, ↓at5, ↓set5, ↓at6, ↓set6, ↓at7, ↓set7, ↓at8, ↓set8, ↓at9, ↓set9, ↓at10, ↓set10, ↓at11, ↓set11, ↓at12, ↓set12, ↓at13, ↓set13, ↓at14, ↓set14, ↓at15, ↓set15, ↓fz_d, ↓fz_own, ↓fz_ob, ↓one_d, ↓int_d, ↓bool_d, ↓own_o, ↓ds_nil, ↓ds_cons, ↓seq_l, ↓seq_t, ↓ite_t, ↓ite_f, ↓e_next, ↓e_seq, ↓e_set, ↓e_drop, ↓e_ret, ↓e_ifs, ↓e_brk, ↓e_cnt, ↓e_fixs, ↓e_par, ↓e_par3, ↓e_asg, ↓e_for, ↓e_putAt, ↓e_jput, ↓e_var, ↓e_k, ↓e_fz, ↓e_op, ↓e_opL, ↓e_opR, ↓e_n, ↓e_n1, ↓e_nil, ↓e_cons, ↓e_tup, ↓e_lst, ↓e_b, ↓e_not, ↓e_and, ↓e_or, ↓e_andV, ↓e_orV, ↓e_notV, ↓e_if, ↓e_isi, ↓e_neg, ↓e_chain, ↓e_call, ↓e_callK, ↓e_jint, ↓e_dict0, ↓e_dict1, ↓e_listRng, ↓e_append, ↓e_cut, ↓e_cutO, ↓e_onone, ↓e_osome, ↓e_iseq, ↓e_ienum, ↓e_irng, ↓e_gname, ↓e_lnil, ↓e_lcons, ↓e_lc, ↓e_yes, ↓f_addI, ↓f_addS, ↓f_addT, ↓f_addL, ↓f_i2, ↓f_mulI, ↓f_mulT, ↓f_mulL, ↓f_eq, ↓f_ne, ↓f_is, ↓f_isnot, ↓f_in, ↓f_notin, ↓f_ixL, ↓f_ixT, ↓f_lenL, ↓f_lenT, ↓f_lenS, ↓f_abs, ↓f_intI, ↓f_intB, ↓f_tupL, ↓f_tupT, ↓f_lstL, ↓f_lstT, ↓f_repr, ↓f_cutL, ↓f_cutT, ↓firm_d, ↓firm_ob, ↓zip_l, ↓zip_t, ↓e_izip, ↓zip_cons, ↓zip_nil1, ↓zip_nil2, ↓f_sorted, ↓e_inn, ↓e_inc, ↓e_l2n, ↓e_l2c, ↓e_lc2, ↓e_rev, ↓e_pop, ↓e_popAt, ↓e_extend, ↓e_lc3, ↓e_gon, ↓e_goc, ↓e_dbMid, ↓e_dbIn, ↓f_neu, ↓dgTup_tup, ↓dgCons_cons, ↓dgNil_nil, ite_t, ite_f, itK_not, List.cons_append, List.nil_append, List.append_nil, List.replicate, List.flatten_cons, List.flatten_nil, List.append_eq, List.length_cons, List.length_nil, Nat.zero_add, Nat.reduceAdd, true_and, and_true, eqOk_str, eqOk_int, eqOk_bool, str_eqv, int_eqv, tup_nil_eqv, lst_nil_eqv, rep_flat, isK_int, isK_bool, isK_tuple, isK_str, kInt, kBool, kTuple, kStr, GB.isNon, Bool.not_true, Bool.not_false, Bool.or_false, Bool.or_true, Bool.false_or, Bool.true_or, reduceCtorEq, ]
    exact q
  · rintro k n _ K hK ⟨s2, s3, s4, s5, s6, s7, s8, rfl⟩
    simp only [↓at0, ↓set0, ↓at1, ↓set1, ↓at2, ↓set2, ↓at3, ↓set3, ↓at4, ↓set4, ↓at5, ↓set5, ↓at6, ↓set6, ↓at7, ↓set7, ↓at8, ↓set8, ↓at9, ↓set9, ↓at10, ↓set10, ↓at11, ↓set11, ↓at12, ↓set12, ↓at13, ↓set13, ↓at14, ↓set14, ↓at15, ↓set15, ↓fz_d, ↓fz_own, ↓fz_ob, ↓one_d, ↓int_d, ↓bool_d, ↓own_o, ↓ds_nil, ↓ds_cons, ↓seq_l, ↓seq_t, ↓ite_t, ↓ite_f, ↓e_next, ↓e_seq, ↓e_set, ↓e_drop, ↓e_ret, ↓e_ifs, ↓e_brk, ↓e_cnt, ↓e_fixs, ↓e_par, ↓e_par3, ↓e_asg, ↓e_for, ↓e_putAt, ↓e_jput, ↓e_var, ↓e_k, ↓e_fz, ↓e_op, ↓e_opL, ↓e_opR, ↓e_n, ↓e_n1, ↓e_nil, ↓e_cons, ↓e_tup, ↓e_lst, ↓e_b, ↓e_not, ↓e_and, ↓e_or, ↓e_andV, ↓e_orV, ↓e_notV, ↓e_if, ↓e_isi, ↓e_neg, ↓e_chain, ↓e_call, ↓e_callK, ↓e_jint, ↓e_dict0, ↓e_dict1, ↓e_listRng, ↓e_append, ↓e_cut, ↓e_cutO, ↓e_onone, ↓e_osome, ↓e_iseq, ↓e_ienum, ↓e_irng, ↓e_gname, ↓e_lnil, ↓e_lcons, ↓e_lc, ↓e_yes, ↓f_addI, ↓f_addS, ↓f_addT, ↓f_addL, ↓f_i2, ↓f_mulI, ↓f_mulT, ↓f_mulL, ↓f_eq, ↓f_ne, ↓f_is, ↓f_isnot, ↓f_in, ↓f_notin, ↓f_ixL, ↓f_ixT, ↓f_lenL, ↓f_lenT, ↓f_lenS, ↓f_abs, ↓f_intI, ↓f_intB, ↓f_tupL, ↓f_tupT, ↓f_lstL, ↓f_lstT, ↓f_repr, ↓f_cutL, ↓f_cutT, ↓firm_d, ↓firm_ob, ↓zip_l, ↓zip_t, ↓e_izip, ↓zip_cons, ↓zip_nil1, ↓zip_nil2, ↓f_sorted, ↓e_inn, ↓e_inc, ↓e_l2n, ↓e_l2c, ↓e_lc2, ↓e_rev, ↓e_pop, ↓e_popAt, ↓e_extend, ↓e_lc3, ↓e_gon, ↓e_goc, ↓e_dbMid, ↓e_dbIn, ↓f_neu, ↓dgTup_tup, ↓dgCons_cons, ↓dgNil_nil, ite_t, ite_f, itK_not, List.cons_append, List.nil_append, List.append_nil, List.replicate, List.flatten_cons, List.flatten_nil, List.append_eq, List.length_cons, List.length_nil, Nat.zero_add, Nat.reduceAdd, true_and, and_true, eqOk_str, eqOk_int, eqOk_bool, str_eqv, int_eqv, tup_nil_eqv, lst_nil_eqv, rep_flat, isK_int, isK_bool, isK_tuple, isK_str, kInt, kBool, kTuple, kStr, GB.isNon, Bool.not_true, Bool.not_false, Bool.or_false, Bool.or_true, Bool.false_or, Bool.true_or, reduceCtorEq, ↓s_draw]
    refine ⟨by decide, by decide, fun r r0 r1 => ⟨by decide, by decide, fun r' r2 r3 => ?_⟩⟩
    have h1 : 1 ≤ 1 + r := by omega
    have nx : ∀ s5 s6 s7 s8, K [S.ob (Tk.scr ns), S.ob Tk.jar, S.d (.int k), S.d (.int (1 + r)), S.d (.bool (decide (r' = 0))), s5, s6, s7, s8] := fun _ _ _ _ => hK _ ⟨_, _, _, _, _, _, _, rfl⟩
    refine s_lsome.mpr ⟨h1, fun es h2 h3 => ?_⟩
    refine ⟨by decide, iteB (fun _ => ?_) fun _ => go_tl h2 (by omega) h1 nx⟩
    refine ⟨trivial, by decide, (s_pick).mpr ⟨List.cons_ne_nil _ _, by decide, fun x hx => ?_⟩⟩
    obtain ⟨wy, rfl⟩ : ∃ wy : Wy, x = .str wy.z := by
      simp only [List.mem_cons, List.not_mem_nil, or_false] at hx
      rcases hx with rfl | rfl | rfl | rfl
      · exact ⟨.child, rfl⟩
      · exact ⟨.last, rfl⟩
      · exact ⟨.old, rfl⟩
      · exact ⟨.read, rfl⟩
    refine ⟨trivial, s_lwant.mpr ⟨h1, fun ch => ?_⟩⟩
    obtain ⟨w1, w2, _⟩ := want_ok wy (decide (r' = 0)) (decide (1 < 1 + r)) ch
    refine one_es.mpr (one_es.mpr (add_es.mpr ⟨line_ge (by rw [List.length_map, List.length_map]; omega), ?_⟩))
    refine go_tl (es := es ++ wantE wy (decide (r' = 0)) (decide (1 < 1 + r)) ch) (fun e he => (List.mem_append.mp he).elim (h2 e) (w1 e)) (by rw [List.length_append]; omega) h1 nx
end GK

set_option maxRecDepth 100000
namespace GK
open PySem PySem.Spec PyProof.Rows L2 GB
section
variable {P : Program} {w : World} {K : PySem.W.Frag} {mg : Str → Option Value} {base : Heap}
theorem ok_l_stock (T : Tx K w mg) (hs : ∃ o, base.get? sysModules = some o) : FnG P w K mg base CX0 1 T.a_l_stock T.d_l_stock ["script"] (spD K (Jr P w K) 1 F_l_stock) :=
  fn_ok T.F_l_stock sc_l_stock hs (t := rd_l_stock) (fun cdv A outer s H E hg hr gd => (dss_cons (ds_setLc (i := 1) (own := [("cell", 2)]) gd rfl rfl (sw_true rfl rfl rfl (by decide +kernel)) (di_seq rfl (de_fz gd (de_scr rfl (fun _ _ _ h => h) (pv 0)))) (blkOk_by (N := nm_l_stock) (sc := defScope st_l_stock) (by decide +kernel)) (fun _ _ _ _ _ => (pg_name (i := 2) (by exact gd.nd) (by rfl) (by exact (.inl rfl)))) (gown_name (by decide)) (fun _ _ _ _ _ gd => dts_nil) (fun _ _ _ _ _ gd => (de_fz gd (de_if (dt_cmp (o_ge) (de_var 2) de_int (nomark _)) (de_op (o_mul rfl) de_int (de_var 2)) (de_op (o_sub) (de_fz gd (de_op (o_mul rfl) (de_neg de_int) (de_var 2))) de_int))))) (dss_fix gd 1 (dss_one (ds_stock (fun _ _ h => h) (de_lc (own := [("cell", 2)]) gd (di_seq rfl (de_var 1)) (blkOk_by (N := nm_l_stock) (sc := defScope st_l_stock) (by decide +kernel)) (fun _ _ _ _ _ => (pg_name (i := 2) (by exact gd.nd) (by rfl) (by exact (.inl rfl)))) (gown_name (by decide)) (fun _ _ _ _ _ gd => (dts_one (dt_cmp (o_ge) (de_var 2) (de_op (o_pow) de_int de_int) (nomark _)))) (fun _ _ _ _ _ gd => (de_var 2))) (de_op (o_add rfl) (de_var 1) (de_fz gd (de_lst (da_cons (de_fz gd (de_op (o_add rfl) (de_callB (c_len rfl) (by rfl) T.b_len (by decide +kernel) (da_cons (de_var 1) da_nil)) de_int)) da_nil)))) (de_callB (c_sum rfl gd) (by rfl) T.b_sum (by decide +kernel) (da_cons (de_var 1) da_nil))))))) ma_l_stock
theorem ok_l_draw (T : Tx K w mg) (hs : ∃ o, base.get? sysModules = some o) : FnG P w K mg base CX0 1 T.a_l_draw T.d_l_draw ["stock", "size"] (spD K (Jr P w K) 2 F_l_draw) :=
  fn_ok T.F_l_draw sc_l_draw hs (t := rd_l_draw) (fun cdv A outer s H E hg hr gd => (dss_cons (ds_spop gd (fun _ _ h => h) rfl rfl (pv 0) (pv 0) (pv 0) (pv 2) (pv 1) (pv 2) (pv 1) (dss_one (ds_ret (de_op (o_mod) (de_callT (c_int rfl) (by rfl) T.b_int (by decide +kernel) (da_cons (de_var 2) da_nil)) (de_var 1))))) (dss_cons (ds_sput (fun _ _ h => h) (pv 0) (de_op (o_add rfl) (de_sint (fun _ _ h => h) (.inr rfl) (pv 0)) de_int)) (dss_cons (ds_set (i := 3) gd rfl (.inl rfl) (de_sint (fun _ _ h => h) (.inr rfl) (pv 0))) (dss_cons (ds_set (i := 4) gd rfl (.inl rfl) (de_op (o_mod) (de_callT (c_int rfl) (by rfl) T.b_int (by decide +kernel) (da_cons (de_smix (fun _ _ h => h) (pv 0) (pv 0) (pv 3) (by rfl) T.b_int (by rfl) T.b_len) da_nil)) de_int)) (dss_cons (ds_set (i := 5) gd rfl (.inl rfl) (de_op (o_mod) (de_callT (c_int rfl) (by rfl) T.b_int (by decide +kernel) (da_cons (de_fz gd (de_op (o_add rfl) (de_fz gd (de_op (o_add rfl) (de_fz gd (de_op (o_mul rfl) (de_var 4) de_int)) (de_fz gd (de_op (o_mul rfl) (de_op (o_mod) (de_callT (c_int rfl) (by rfl) T.b_int (by decide +kernel) (da_cons (de_sint (fun _ _ h => h) (.inl rfl) (pv 0)) da_nil)) de_int) de_int)))) (de_fz gd (de_op (o_mul rfl) (de_var 3) de_int)))) da_nil)) de_int)) (dss_cons (ds_set (i := 5) gd rfl (.inl rfl) (de_op (o_mod) (de_callT (c_int rfl) (by rfl) T.b_int (by decide +kernel) (da_cons (de_fz gd (de_op (o_add rfl) (de_fz gd (de_op (o_add rfl) (de_fz gd (de_op (o_mul rfl) (de_var 5) (de_var 5))) (de_fz gd (de_op (o_mul rfl) (de_var 3) de_int)))) (de_var 4))) da_nil)) de_int)) (dss_one (ds_ret (de_op (o_mod) (de_op (o_div) (de_op (o_mod) (de_callT (c_int rfl) (by rfl) T.b_int (by decide +kernel) (da_cons (de_fz gd (de_op (o_add rfl) (de_fz gd (de_op (o_mul rfl) (de_var 5) de_int)) (de_fz gd (de_op (o_mul rfl) (de_var 3) de_int)))) da_nil)) de_int) de_int) (de_var 1))))))))))) ma_l_draw
theorem ok_l_pick (T : Tx K w mg) (hs : ∃ o, base.get? sysModules = some o) : FnG P w K mg base CX0 2 T.a_l_pick T.d_l_pick ["stock", "row"] (spD K (Jr P w K) 2 F_l_pick) :=
  fn_ok T.F_l_pick sc_l_pick hs (t := rd_l_pick) (fun cdv A outer s H E hg hr gd => (dss_one (ds_ret (de_ix (i_at rfl) (de_var 1) (de_call rfl (ok_l_draw T hs) (hr.mono (by decide)) gd (by rfl) T.m_l_draw T.F_l_draw.kp T.B_l_draw pass0 (da_cons (de_var 0) (da_cons (de_callB (c_len rfl) (by rfl) T.b_len (by decide +kernel) (da_cons (de_var 1) da_nil)) da_nil))) (fun _ _ => rfl))))) ma_l_pick
theorem ok_l_wanted (T : Tx K w mg) (hs : ∃ o, base.get? sysModules = some o) : FnG P w K mg base CX0 3 T.a_l_wanted T.d_l_wanted ["stock", "way", "pieces", "hands"] (spD K (Jr P w K) 4 F_l_wanted) :=
  fn_ok T.F_l_wanted sc_l_wanted hs (t := rd_l_wanted) (fun cdv A outer s H E hg hr gd => (dss_cons (ds_set (i := 4) gd rfl (.inl rfl) (de_lst (da_cons (de_if (dt_cmp (o_eq rfl gd) (de_var 1) de_str (nomark _)) (de_tup (da_cons de_str da_nil)) (de_tup (da_cons de_str (da_cons de_int da_nil)))) da_nil))) (dss_cons (ds_for gd PassesOwn.never (di_seq rfl (de_fz gd (de_op (o_add rfl) (de_fz gd (de_op (o_mul rfl) (de_fz gd (de_lst (da_cons de_int da_nil))) (de_callT (c_int rfl) (by rfl) T.b_int (by decide +kernel) (da_cons (de_cmp (o_gt) (de_var 3) de_int (nomark _)) da_nil)))) (de_fz gd (de_op (o_mul rfl) (de_fz gd (de_lst (da_cons de_int da_nil))) (de_callT (c_int rfl) (by rfl) T.b_int (by decide +kernel) (da_cons (de_cmp (o_eq rfl gd) (de_var 1) de_str (nomark _)) da_nil))))))) (dg_name (i := 5) gd rfl (.inl rfl)) (dss_one (ds_for gd PassesOwn.never (di_seq rfl (de_if (dt_val (de_var 2)) (de_tup (da_cons de_int (da_cons de_int da_nil))) (de_tup (da_cons de_int da_nil)))) (dg_name (i := 6) gd rfl (.inl rfl)) (dss_one (ds_expr (de_append (pv 4) (de_tup (da_cons de_str (da_cons (de_var 5) (da_cons (de_var 6) (da_cons (de_call rfl (ok_l_pick T hs) (hr.mono (by decide)) gd (by rfl) T.m_l_pick T.F_l_pick.kp T.B_l_pick pass0 (da_cons (de_var 0) (da_cons (de_fz gd (de_lst (da_cons de_str (da_cons de_str da_nil)))) da_nil))) da_nil))))))))))) (dss_cons (ds_for gd PassesOwn.never (di_seq rfl (de_fz gd (de_if (dt_cmp (o_inP rfl gd) (de_var 1) (de_tup (da_cons de_str (da_cons de_str da_nil))) (rfl)) (de_op (o_add rfl) (de_fz gd (de_op (o_mul rfl) (de_fz gd (de_lst (da_cons de_int da_nil))) (de_callT (c_int rfl) (by rfl) T.b_int (by decide +kernel) (da_cons (de_cmp (o_gt) (de_var 3) de_int (nomark _)) da_nil)))) (de_fz gd (de_lst (da_cons de_int da_nil)))) (de_lst da_nil)))) (dg_name (i := 5) gd rfl (.inl rfl)) (dss_cons (ds_expr (de_append (pv 4) (de_tup (da_cons de_str (da_cons (de_var 5) (da_cons de_int (da_cons de_str da_nil))))))) (dss_one (ds_expr (de_extend rfl (pv 4) (de_fz gd (de_op (o_mul rfl) (de_fz gd (de_lst (da_cons (de_tup (da_cons de_str (da_cons (de_var 5) (da_cons de_int (da_cons de_str da_nil))))) da_nil))) (de_callT (c_int rfl) (by rfl) T.b_int (by decide +kernel) (da_cons (de_cmp (o_eq rfl gd) (de_var 1) de_str (nomark _)) da_nil))))))))) (dss_cons (ds_if (dt_cmp (o_inP rfl gd) (de_var 1) (de_tup (da_cons de_str (da_cons de_str da_nil))) (rfl)) (dss_one (ds_expr (de_append (pv 4) (de_if (dt_cmp (o_eq rfl gd) (de_var 1) de_str (nomark _)) (de_tup (da_cons de_str (da_cons de_int (da_cons de_int da_nil)))) (de_tup (da_cons de_str (da_cons de_int (da_cons de_int da_nil)))))))) dss_nil) (dss_fix gd 4 (dss_one (ds_ret (de_var 4))))))))) ma_l_wanted
theorem ok_l_all_entries (T : Tx K w mg) (hs : ∃ o, base.get? sysModules = some o) : FnG P w K mg base CX0 1 T.a_l_all_entries T.d_l_all_entries [] (spD K (Jr P w K) 0 F_l_all_entries) :=
  fn_ok T.F_l_all_entries sc_l_all_entries hs (t := rd_l_all_entries) (fun cdv A outer s H E hg hr gd => (dss_cons (ds_set (i := 0) gd rfl (.inl rfl) (de_lst (da_cons (de_tup (da_cons de_str da_nil)) (da_cons (de_tup (da_cons de_str (da_cons de_int da_nil))) (da_cons (de_tup (da_cons de_str (da_cons de_int da_nil))) da_nil))))) (dss_cons (ds_for gd PassesOwn.never (di_seq rfl (de_tup (da_cons de_int (da_cons de_int da_nil)))) (dg_name (i := 1) gd rfl (.inr rfl)) (dss_one (ds_expr (de_extend rfl (pv 0) (de_fz gd (de_lc (own := [("colour", 2)]) gd (di_rng (by rfl) T.b_range de_int) (blkOk_by (N := nm_l_all_entries) (sc := defScope st_l_all_entries) (by decide +kernel)) (fun _ _ _ _ _ => (pg_name (i := 2) (by exact gd.nd) (by rfl) (by exact (.inl rfl)))) (gown_name (by decide)) (fun _ _ _ _ _ gd => dts_nil) (fun _ _ _ _ _ gd => (de_tup (da_cons de_str (da_cons (de_var 1) (da_cons (de_var 2) da_nil))))))))))) (dss_cons (ds_for gd PassesOwn.never (di_seq rfl (de_tup (da_cons de_int (da_cons de_int da_nil)))) (dg_name (i := 1) gd rfl (.inr rfl)) (dss_one (ds_for gd PassesOwn.never (di_rng (by rfl) T.b_range de_int) (dg_name (i := 2) gd rfl (.inr rfl)) (dss_one (ds_expr (de_extend rfl (pv 0) (de_fz gd (de_lc (own := [("word", 3)]) gd (di_seq rfl (de_tup (da_cons de_str (da_cons de_str (da_cons de_str da_nil))))) (blkOk_by (N := nm_l_all_entries) (sc := defScope st_l_all_entries) (by decide +kernel)) (fun _ _ _ _ _ => (pg_name (i := 3) (by exact gd.nd) (by rfl) (by exact (.inl rfl)))) (gown_name (by decide)) (fun _ _ _ _ _ gd => dts_nil) (fun _ _ _ _ _ gd => (de_tup (da_cons de_str (da_cons (de_var 1) (da_cons (de_var 2) (da_cons (de_var 3) da_nil)))))))))))))) (dss_fix gd 0 (dss_one (ds_ret (de_var 0)))))))) ma_l_all_entries
theorem ok_l_some (T : Tx K w mg) (hs : ∃ o, base.get? sysModules = some o) : FnG P w K mg base CX0 4 T.a_l_some T.d_l_some ["stock", "pieces", "hands"] (spD K (Jr P w K) 3 F_l_some) :=
  fn_ok T.F_l_some sc_l_some hs (t := rd_l_some) (fun cdv A outer s H E hg hr gd => (dss_cons (ds_par (i := 3) (j := 4) gd rfl rfl (by decide) rfl rfl (de_call rfl (ok_l_draw T hs) (hr.mono (by decide)) gd (by rfl) T.m_l_draw T.F_l_draw.kp T.B_l_draw pass0 (da_cons (de_var 0) (da_cons de_int da_nil))) (de_call0 rfl (ok_l_all_entries T hs) (hr.mono (by decide)) gd (by rfl) T.m_l_all_entries T.F_l_all_entries.kp T.B_l_all_entries pass0) rfl) (dss_cons (ds_if (dt_cmp (o_lt) (de_var 3) de_int (nomark _)) (dss_cons (ds_set (i := 5) gd rfl (.inr rfl) (de_call rfl (ok_l_pick T hs) (hr.mono (by decide)) gd (by rfl) T.m_l_pick T.F_l_pick.kp T.B_l_pick pass0 (da_cons (de_var 0) (da_cons (de_fz gd (de_lst (da_cons de_int (da_cons de_int (da_cons de_int (da_cons de_int da_nil)))))) da_nil)))) (dss_one (ds_ret (de_fz gd (de_lc (own := [("entry", 9)]) gd (di_seq rfl (de_var 4)) (blkOk_by (N := nm_l_some) (sc := defScope st_l_some) (by decide +kernel)) (fun _ _ _ _ _ => (pg_name (i := 9) (by exact gd.nd) (by rfl) (by exact (.inl rfl)))) (gown_name (by decide)) (fun _ _ _ _ _ gd => (dts_one (dt_cmp (o_lt) (de_call rfl (ok_l_draw T hs) (hr.mono (by decide)) gd (by rfl) T.m_l_draw T.F_l_draw.kp T.B_l_draw pass0 (da_cons (de_var 0) (da_cons de_int da_nil))) (de_var 5) (nomark _)))) (fun _ _ _ _ _ gd => (de_var 9))))))) dss_nil) (dss_cons (ds_set (i := 6) gd rfl (.inr rfl) (de_call rfl (ok_l_wanted T hs) (hr.mono (by decide)) gd (by rfl) T.m_l_wanted T.F_l_wanted.kp T.B_l_wanted pass0 (da_cons (de_var 0) (da_cons (de_call rfl (ok_l_pick T hs) (hr.mono (by decide)) gd (by rfl) T.m_l_pick T.F_l_pick.kp T.B_l_pick pass0 (da_cons (de_var 0) (da_cons (de_fz gd (de_lst (da_cons de_str (da_cons de_str (da_cons de_str (da_cons de_str da_nil)))))) da_nil))) (da_cons (de_var 1) (da_cons (de_var 2) da_nil)))))) (dss_cons (ds_set (i := 5) gd rfl (.inr rfl) (de_call rfl (ok_l_pick T hs) (hr.mono (by decide)) gd (by rfl) T.m_l_pick T.F_l_pick.kp T.B_l_pick pass0 (da_cons (de_var 0) (da_cons (de_fz gd (de_lst (da_cons de_int (da_cons de_int (da_cons de_int da_nil))))) da_nil)))) (dss_cons (ds_set (i := 6) gd rfl (.inr rfl) (de_fz gd (de_op (o_add rfl) (de_var 6) (de_fz gd (de_lc (own := [("entry", 9)]) gd (di_seq rfl (de_var 4)) (blkOk_by (N := nm_l_some) (sc := defScope st_l_some) (by decide +kernel)) (fun _ _ _ _ _ => (pg_name (i := 9) (by exact gd.nd) (by rfl) (by exact (.inl rfl)))) (gown_name (by decide)) (fun _ _ _ _ _ gd => (dts_one (dw_and (dt_cmp (o_notin rfl gd) (de_var 9) (de_var 6) (rfl)) (dw_and1 (dt_cmp (o_lt) (de_call rfl (ok_l_draw T hs) (hr.mono (by decide)) gd (by rfl) T.m_l_draw T.F_l_draw.kp T.B_l_draw pass0 (da_cons (de_var 0) (da_cons de_int da_nil))) (de_var 5) (nomark _)))).pt)) (fun _ _ _ _ _ gd => (de_var 9))))))) (dss_cons (ds_for gd PassesOwn.never (di_rng (by rfl) T.b_range (de_ix (i_at rfl) (de_fz gd (de_lst (da_cons de_int (da_cons de_int (da_cons de_int (da_cons de_int (da_cons de_int (da_cons de_int (da_cons de_int da_nil))))))))) (de_var 3) (fun _ _ => rfl))) (dg_name (i := 7) gd rfl (.inl rfl)) (dss_cons (ds_set (i := 8) gd rfl (.inr rfl) (de_call rfl (ok_l_pick T hs) (hr.mono (by decide)) gd (by rfl) T.m_l_pick T.F_l_pick.kp T.B_l_pick pass0 (da_cons (de_var 0) (da_cons (de_var 6) da_nil)))) (dss_one (ds_set (i := 6) gd rfl (.inr rfl) (de_fz gd (de_lc (own := [("entry", 9)]) gd (di_seq rfl (de_var 6)) (blkOk_by (N := nm_l_some) (sc := defScope st_l_some) (by decide +kernel)) (fun _ _ _ _ _ => (pg_name (i := 9) (by exact gd.nd) (by rfl) (by exact (.inl rfl)))) (gown_name (by decide)) (fun _ _ _ _ _ gd => (dts_one (dt_cmp (o_ne rfl gd) (de_var 9) (de_var 8) (nomark _)))) (fun _ _ _ _ _ gd => (de_var 9)))))))) (dss_one (ds_ret (de_var 6)))))))))) ma_l_some
theorem ok_l_guard (T : Tx K w mg) (hs : ∃ o, base.get? sysModules = some o) : FnG P w K mg base CX0 1 T.a_l_guard T.d_l_guard ["some", "phase", "colour"] (spD K (Jr P w K) 3 F_l_guard) :=
  fn_ok T.F_l_guard sc_l_guard hs (t := rd_l_guard) (fun cdv A outer s H E hg hr gd => (dss_one (ds_ret (de_callT (c_tuple rfl) (by rfl) T.b_tuple (by decide +kernel) (da_cons (de_fz gd (de_lc (own := [("word", 3)]) gd (di_seq rfl (de_tup (da_cons de_str (da_cons de_str (da_cons de_str da_nil))))) (blkOk_by (N := nm_l_guard) (sc := defScope st_l_guard) (by decide +kernel)) (fun _ _ _ _ _ => (pg_name (i := 3) (by exact gd.nd) (by rfl) (by exact (.inl rfl)))) (gown_name (by decide)) (fun _ _ _ _ _ gd => (dts_one (dt_cmp (o_in rfl gd) (de_tup (da_cons de_str (da_cons (de_var 1) (da_cons (de_var 2) (da_cons (de_var 3) da_nil))))) (de_var 0) (rfl)))) (fun _ _ _ _ _ gd => (de_var 3)))) da_nil))))) ma_l_guard
theorem ok_l_book (T : Tx K w mg) (hs : ∃ o, base.get? sysModules = some o) : FnG P w K mg base CX0 2 T.a_l_book T.d_l_book ["some", "paint", "pieces"] (spD K (Jr P w K) 3 F_l_book) :=
  fn_ok T.F_l_book sc_l_book hs (t := rd_l_book) (fun cdv A outer s H E hg hr gd => (dss_cons (ds_par3 (i := 3) (j := 4) (l := 5) gd rfl rfl rfl (by decide) (by decide) (by decide) rfl rfl rfl (de_lst da_nil) (de_lst da_nil) (de_lst da_nil) rfl) (dss_cons (ds_for gd PassesOwn.never (di_seq rfl (de_tup (da_cons de_int (da_cons de_int da_nil)))) (dg_name (i := 6) gd rfl (.inr rfl)) (dss_cons (ds_expr (de_append (pv 3) (de_callT (c_tuple rfl) (by rfl) T.b_tuple (by decide +kernel) (da_cons (de_fz gd (de_lc (own := [("colour", 7)]) gd (di_rng (by rfl) T.b_range de_int) (blkOk_by (N := nm_l_book) (sc := defScope st_l_book) (by decide +kernel)) (fun _ _ _ _ _ => (pg_name (i := 7) (by exact gd.nd) (by rfl) (by exact (.inl rfl)))) (gown_name (by decide)) (fun _ _ _ _ _ gd => dts_nil) (fun _ _ _ _ _ gd => (de_call rfl (ok_l_guard T hs) (hr.mono (by decide)) gd (by rfl) T.m_l_guard T.F_l_guard.kp T.B_l_guard pass0 (da_cons (de_var 0) (da_cons (de_var 6) (da_cons (de_var 7) da_nil))))))) da_nil)))) (dss_cons (ds_expr (de_append (pv 4) (de_callT (c_tuple rfl) (by rfl) T.b_tuple (by decide +kernel) (da_cons (de_fz gd (de_lc (own := [("colour", 7)]) gd (di_rng (by rfl) T.b_range de_int) (blkOk_by (N := nm_l_book) (sc := defScope st_l_book) (by decide +kernel)) (fun _ _ _ _ _ => (pg_name (i := 7) (by exact gd.nd) (by rfl) (by exact (.inl rfl)))) (gown_name (by decide)) (fun _ _ _ _ _ gd => dts_nil) (fun _ _ _ _ _ gd => (de_cmp (o_in rfl gd) (de_tup (da_cons de_str (da_cons (de_var 6) (da_cons (de_var 7) da_nil)))) (de_var 0) (rfl))))) da_nil)))) (dss_one (ds_expr (de_append (pv 5) (de_if (dt_cmp (o_in rfl gd) (de_tup (da_cons de_str (da_cons (de_var 6) da_nil))) (de_var 0) (rfl)) (de_ix (i_at rfl) (de_var 1) (de_var 6) (fun _ _ => rfl)) de_str))))))) (dss_one (ds_ret (de_tup (da_cons (de_callT1 (c_tuple rfl) (by rfl) T.b_tuple (by decide +kernel) (pv 3)) (da_cons (de_callT1 (c_tuple rfl) (by rfl) T.b_tuple (by decide +kernel) (pv 4)) (da_cons (de_callT1 (c_tuple rfl) (by rfl) T.b_tuple (by decide +kernel) (pv 5)) (da_cons (de_cmp (o_in rfl gd) (de_tup (da_cons de_str da_nil)) (de_var 0) (rfl)) (da_cons (de_var 2) da_nil))))))))))) ma_l_book
theorem ok_l_paint (T : Tx K w mg) (hs : ∃ o, base.get? sysModules = some o) : FnG P w K mg base CX0 3 T.a_l_paint T.d_l_paint ["stock"] (spD K (Jr P w K) 1 F_l_paint) :=
  fn_ok T.F_l_paint sc_l_paint hs (t := rd_l_paint) (fun cdv A outer s H E hg hr gd => (dss_one (ds_ret (de_fz gd (de_lst (da_cons (de_call rfl (ok_l_pick T hs) (hr.mono (by decide)) gd (by rfl) T.m_l_pick T.F_l_pick.kp T.B_l_pick pass0 (da_cons (de_var 0) (da_cons (de_fz gd (de_lst (da_cons de_str (da_cons de_str (da_cons de_str da_nil))))) da_nil))) (da_cons (de_call rfl (ok_l_pick T hs) (hr.mono (by decide)) gd (by rfl) T.m_l_pick T.F_l_pick.kp T.B_l_pick pass0 (da_cons (de_var 0) (da_cons (de_fz gd (de_lst (da_cons de_str (da_cons de_str (da_cons de_str da_nil))))) da_nil))) da_nil))))))) ma_l_paint
theorem ok_entries (T : Tx K w mg) (hs : ∃ o, base.get? sysModules = some o) : FnG P w K mg base CX0 1 T.a_entries T.d_entries ["book"] (spD K (Jr P w K) 1 F_entries) :=
  fn_ok T.F_entries sc_entries hs (t := rd_entries) (fun cdv A outer s H E hg hr gd => (dss_cons (ds_asg (de_var 0) (dg_tup gd rfl (dgs_cons (dg_name (i := 1) gd rfl (.inl rfl)) (dgs_cons (dg_name (i := 2) gd rfl (.inl rfl)) (dgs_cons (dg_name (i := 3) gd rfl (.inl rfl)) (dgs_cons (dg_name (i := 4) gd rfl (.inl rfl)) (dgs_cons (dg_name (i := 5) gd rfl (.inl rfl)) dgs_nil))))))) (dss_cons (ds_set (i := 6) gd rfl (.inl rfl) (de_if (dt_val (de_var 4)) (de_lst (da_cons (de_tup (da_cons de_str da_nil)) da_nil)) (de_lst da_nil))) (dss_cons (ds_for gd PassesOwn.never (di_rng (by rfl) T.b_range de_int) (dg_name (i := 7) gd rfl (.inl rfl)) (dss_one (ds_if (dt_cmp (o_ne rfl gd) (de_ix (i_at rfl) (de_var 3) (de_var 7) (fun _ _ => rfl)) de_str (nomark _)) (dss_one (ds_expr (de_append (pv 6) (de_tup (da_cons de_str (da_cons (de_var 7) da_nil)))))) dss_nil))) (dss_cons (ds_for gd PassesOwn.never (di_rng (by rfl) T.b_range de_int) (dg_name (i := 7) gd rfl (.inl rfl)) (dss_one (ds_for gd PassesOwn.never (di_rng (by rfl) T.b_range de_int) (dg_name (i := 8) gd rfl (.inl rfl)) (dss_one (ds_if (dt_val (de_ix (i_at rfl) (de_ix (i_at rfl) (de_var 2) (de_var 7) (fun _ _ => rfl)) (de_var 8) (fun _ _ => rfl))) (dss_one (ds_expr (de_append (pv 6) (de_tup (da_cons de_str (da_cons (de_var 7) (da_cons (de_var 8) da_nil))))))) dss_nil))))) (dss_cons (ds_for gd PassesOwn.never (di_rng (by rfl) T.b_range de_int) (dg_name (i := 7) gd rfl (.inl rfl)) (dss_one (ds_for gd PassesOwn.never (di_rng (by rfl) T.b_range de_int) (dg_name (i := 8) gd rfl (.inl rfl)) (dss_one (ds_for gd PassesOwn.never (di_seq rfl (de_ix (i_at rfl) (de_ix (i_at rfl) (de_var 1) (de_var 7) (fun _ _ => rfl)) (de_var 8) (fun _ _ => rfl))) (dg_name (i := 9) gd rfl (.inl rfl)) (dss_one (ds_expr (de_append (pv 6) (de_tup (da_cons de_str (da_cons (de_var 7) (da_cons (de_var 8) (da_cons (de_var 9) da_nil))))))))))))) (dss_one (ds_ret (de_callT1 (c_tuple rfl) (by rfl) T.b_tuple (by decide +kernel) (pv 6)))))))))) ma_entries
theorem ok_p_heeds_new (T : Tx K w mg) (hs : ∃ o, base.get? sysModules = some o) : FnG P w K mg base CX0 1 T.a_p_heeds_new T.d_p_heeds_new ["guard"] (spD K (Jr P w K) 1 F_p_heeds_new) :=
  fn_ok T.F_p_heeds_new sc_p_heeds_new hs (t := rd_p_heeds_new) (fun cdv A outer s H E hg hr gd => (dss_one (ds_ret (de_or (de_cmp (o_in rfl gd) de_str (de_var 0) (rfl)) (de_one (de_cmp (o_in rfl gd) de_str (de_var 0) (rfl))))))) ma_p_heeds_new
theorem ok_inserts (T : Tx K w mg) (hs : ∃ o, base.get? sysModules = some o) : FnG P w K mg base CX0 2 T.a_inserts T.d_inserts ["book", "phase"] (spD K (Jr P w K) 2 F_inserts) :=
  fn_ok T.F_inserts sc_inserts hs (t := rd_inserts) (fun cdv A outer s H E hg hr gd => (dss_cons (ds_asg (de_ix (i_at rfl) (de_ix (i_at rfl) (de_var 0) de_int (fun _ _ => rfl)) (de_var 1) (fun _ _ => rfl)) (dg_tup gd rfl (dgs_cons (dg_name (i := 2) gd rfl (.inl rfl)) (dgs_cons (dg_name (i := 3) gd rfl (.inl rfl)) (dgs_cons (dg_name (i := 4) gd rfl (.inl rfl)) dgs_nil))))) (dss_one (ds_ret (de_and (de_call rfl (ok_p_heeds_new T hs) (hr.mono (by decide)) gd (by rfl) T.m_p_heeds_new T.F_p_heeds_new.kp T.B_p_heeds_new pass0 (da_cons (de_var 4) da_nil)) (de_one (de_or (de_not (de_ix (i_at rfl) (de_var 0) de_int (fun _ _ => rfl))) (de_one (de_call rfl (ok_p_heeds_new T hs) (hr.mono (by decide)) gd (by rfl) T.m_p_heeds_new T.F_p_heeds_new.kp T.B_p_heeds_new pass0 (da_cons (de_var 3) da_nil)))))))))) ma_inserts
theorem ok_starts_early (T : Tx K w mg) (hs : ∃ o, base.get? sysModules = some o) : FnG P w K mg base CX0 1 T.a_starts_early T.d_starts_early ["book"] (spD K (Jr P w K) 1 F_starts_early) :=
  fn_ok T.F_starts_early sc_starts_early hs (t := rd_starts_early) (fun cdv A outer s H E hg hr gd => (dss_cons (ds_asg (de_var 0) (dg_tup gd rfl (dgs_cons (dg_name (i := 1) gd rfl (.inl rfl)) (dgs_cons (dg_name (i := 2) gd rfl (.inl rfl)) (dgs_cons (dg_name (i := 3) gd rfl (.inl rfl)) (dgs_cons (dg_name (i := 4) gd rfl (.inl rfl)) (dgs_cons (dg_name (i := 4) gd rfl (.inl rfl)) dgs_nil))))))) (dss_one (ds_ret (de_or (de_cmp (o_in rfl gd) de_str (de_ix (i_at rfl) (de_ix (i_at rfl) (de_var 1) de_int (fun _ _ => rfl)) de_int (fun _ _ => rfl)) (rfl)) (de_or (de_cmp (o_in rfl gd) de_str (de_ix (i_at rfl) (de_ix (i_at rfl) (de_var 1) de_int (fun _ _ => rfl)) de_int (fun _ _ => rfl)) (rfl)) (de_or (de_ix (i_at rfl) (de_ix (i_at rfl) (de_var 2) de_int (fun _ _ => rfl)) de_int (fun _ _ => rfl)) (de_one (de_cmp (o_ne rfl gd) (de_ix (i_at rfl) (de_var 3) de_int (fun _ _ => rfl)) de_str (nomark _)))))))))) ma_starts_early
theorem ok_is_closed (T : Tx K w mg) (hs : ∃ o, base.get? sysModules = some o) : FnG P w K mg base CX0 3 T.a_is_closed T.d_is_closed ["book", "hands"] (spD K (Jr P w K) 2 F_is_closed) :=
  fn_ok T.F_is_closed sc_is_closed hs (t := rd_is_closed) (fun cdv A outer s H E hg hr gd => (dss_one (ds_ret (de_or (de_call rfl (ok_inserts T hs) (hr.mono (by decide)) gd (by rfl) T.m_inserts T.F_inserts.kp T.B_inserts pass0 (da_cons (de_var 0) (da_cons de_int da_nil))) (de_one (de_and (de_cmp (o_eq rfl gd) (de_var 1) de_int (nomark _)) (de_one (de_not (de_call rfl (ok_starts_early T hs) (hr.mono (by decide)) gd (by rfl) T.m_starts_early T.F_starts_early.kp T.B_starts_early pass0 (da_cons (de_var 0) da_nil)))))))))) ma_is_closed
theorem ok_p_heeds_old (T : Tx K w mg) (hs : ∃ o, base.get? sysModules = some o) : FnG P w K mg base CX0 1 T.a_p_heeds_old T.d_p_heeds_old ["book", "colour", "hands"] (spD K (Jr P w K) 3 F_p_heeds_old) :=
  fn_ok T.F_p_heeds_old sc_p_heeds_old hs (t := rd_p_heeds_old) (fun cdv A outer s H E hg hr gd => (dss_cons (ds_asg (de_ix (i_at rfl) (de_var 0) de_int (fun _ _ => rfl)) (dg_tup gd rfl (dgs_cons (dg_name (i := 3) gd rfl (.inl rfl)) (dgs_cons (dg_name (i := 4) gd rfl (.inl rfl)) dgs_nil)))) (dss_one (ds_ret (de_and (de_cmp (o_in rfl gd) de_str (de_ix (i_at rfl) (de_var 4) (de_var 1) (fun _ _ => rfl)) (rfl)) (de_one (de_or (de_cmp (o_eq rfl gd) (de_var 2) de_int (nomark _)) (de_one (de_cmp (o_in rfl gd) de_str (de_ix (i_at rfl) (de_var 3) (de_var 1) (fun _ _ => rfl)) (rfl)))))))))) ma_p_heeds_old
theorem ok_ways (T : Tx K w mg) (hs : ∃ o, base.get? sysModules = some o) : FnG P w K mg base CX0 4 T.a_ways T.d_ways ["book", "hands"] (spD K (Jr P w K) 2 F_ways) :=
  fn_ok T.F_ways sc_ways hs (t := rd_ways) (fun cdv A outer s H E hg hr gd => (dss_cons (ds_if (dt_not (dt_val (de_call rfl (ok_is_closed T hs) (hr.mono (by decide)) gd (by rfl) T.m_is_closed T.F_is_closed.kp T.B_is_closed pass0 (da_cons (de_var 0) (da_cons (de_var 1) da_nil))))) (dss_one (ds_ret (de_tup da_nil))) dss_nil) (dss_cons (ds_asg (de_var 0) (dg_tup gd rfl (dgs_cons (dg_name (i := 2) gd rfl (.inl rfl)) (dgs_cons (dg_name (i := 3) gd rfl (.inl rfl)) (dgs_cons (dg_name (i := 4) gd rfl (.inl rfl)) (dgs_cons (dg_name (i := 5) gd rfl (.inl rfl)) (dgs_cons (dg_name (i := 2) gd rfl (.inl rfl)) dgs_nil))))))) (dss_cons (ds_set (i := 6) gd rfl (.inl rfl) (de_lst da_nil)) (dss_cons (ds_set (i := 7) gd rfl (.inl rfl) (de_cmp (o_ne rfl gd) (de_ix (i_at rfl) (de_var 4) de_int (fun _ _ => rfl)) de_str (nomark _))) (dss_cons (ds_set (i := 8) gd rfl (.inl rfl) (de_and (de_var 7) (de_one (de_call rfl (ok_p_heeds_old T hs) (hr.mono (by decide)) gd (by rfl) T.m_p_heeds_old T.F_p_heeds_old.kp T.B_p_heeds_old pass0 (da_cons (de_var 0) (da_cons de_int (da_cons (de_var 1) da_nil))))))) (dss_cons (ds_if (dw_and (dt_val (de_var 8)) (dw_and1 (dt_val (de_ix (i_at rfl) (de_ix (i_at rfl) (de_var 3) de_int (fun _ _ => rfl)) de_int (fun _ _ => rfl))))).pt (dss_one (ds_expr (de_append (pv 6) de_str))) dss_nil) (dss_cons (ds_if (dw_and (dt_val (de_var 5)) (dw_and1 (dt_val (de_call rfl (ok_inserts T hs) (hr.mono (by decide)) gd (by rfl) T.m_inserts T.F_inserts.kp T.B_inserts pass0 (da_cons (de_var 0) (da_cons de_int da_nil)))))).pt (dss_one (ds_expr (de_append (pv 6) de_str))) dss_nil) (dss_cons (ds_if (dw_and (dt_val (de_var 8)) (dw_and1 (dt_val (de_call rfl (ok_p_heeds_old T hs) (hr.mono (by decide)) gd (by rfl) T.m_p_heeds_old T.F_p_heeds_old.kp T.B_p_heeds_old pass0 (da_cons (de_var 0) (da_cons de_int (da_cons (de_var 1) da_nil))))))).pt (dss_one (ds_expr (de_append (pv 6) de_str))) dss_nil) (dss_cons (ds_if (dw_and (dt_val (de_var 7)) (dw_and1 (dt_val (de_ix (i_at rfl) (de_ix (i_at rfl) (de_var 3) de_int (fun _ _ => rfl)) de_int (fun _ _ => rfl))))).pt (dss_one (ds_expr (de_append (pv 6) de_str))) dss_nil) (dss_one (ds_ret (de_callT1 (c_tuple rfl) (by rfl) T.b_tuple (by decide +kernel) (pv 6)))))))))))))) ma_ways
theorem ok_is_safe (T : Tx K w mg) (hs : ∃ o, base.get? sysModules = some o) : FnG P w K mg base CX0 5 T.a_is_safe T.d_is_safe ["book", "hands"] (spD K (Jr P w K) 2 F_is_safe) :=
  fn_ok T.F_is_safe sc_is_safe hs (t := rd_is_safe) (fun cdv A outer s H E hg hr gd => (dss_one (ds_ret (de_cmp (o_gt) (de_callB (c_len rfl) (by rfl) T.b_len (by decide +kernel) (da_cons (de_call rfl (ok_ways T hs) (hr.mono (by decide)) gd (by rfl) T.m_ways T.F_ways.kp T.B_ways pass0 (da_cons (de_var 0) (da_cons (de_var 1) da_nil))) da_nil)) de_int (nomark _))))) ma_is_safe
theorem okr_replaced (T : Tx K w mg) (hs : ∃ o, base.get? sysModules = some o) : ∀ n : Nat, FnG P w K mg base CX0 (n + 1) T.a_replaced T.d_replaced ["row", "places", "item"] (spD K (Jr P w K) 3 (G_replaced n))
  | 0 => ⟨fun vs H Q E h => by obtain ⟨_, _, _, _, h, _⟩ := h; exact (show False from h).elim, fun A outer s H args us vs Q E hg hr he hb hv h => by obtain ⟨_, _, _, _, h, _⟩ := h; exact (show False from h).elim⟩
  | n + 1 => FnG.up (j := n + 1 + 1) (fn_ok T.F_replaced sc_replaced hs (t := rd_replaced n) (fun cdv A outer s H E hg hr gd => (dss_cons (ds_if (dt_not (dt_tu rfl (de_var 1))) (dss_one (ds_ret (de_var 2))) dss_nil) (dss_cons (ds_set (i := 3) gd rfl (.inl rfl) (de_ix (i_at rfl) (de_var 1) de_int (fun _ _ => rfl))) (dss_one (ds_ret (de_fz gd (de_op (o_add rfl) (de_fz gd (de_op (o_add rfl) (de_fz gd (de_cut rfl (de_var 0) do_none (do_some (de_var 3)))) (de_tup (da_cons (de_call rfl (okr_replaced T hs n) (hr.mono (Nat.le_refl _)) gd (by rfl) T.m_replaced T.F_replaced.kp T.B_replaced pass0 (da_cons (de_ix (i_at rfl) (de_var 0) (de_var 3) (fun _ _ => rfl)) (da_cons (de_fz gd (de_cut rfl (de_var 1) (do_some de_int) do_none)) (da_cons (de_var 2) da_nil)))) da_nil)))) (de_fz gd (de_cut rfl (de_var 0) (do_some (de_op (o_add rfl) (de_var 3) de_int)) do_none))))))))) (ma_replaced n)) (by omega)
theorem ok_replaced (T : Tx K w mg) (hs : ∃ o, base.get? sysModules = some o) : FnG P w K mg base CX0 6 T.a_replaced T.d_replaced ["row", "places", "item"] (spD K (Jr P w K) 3 F_replaced) := okr_replaced T hs 5
theorem ok_p_item_at (T : Tx K w mg) (hs : ∃ o, base.get? sysModules = some o) : FnG P w K mg base CX0 1 T.a_p_item_at T.d_p_item_at ["row", "places"] (spD K (Jr P w K) 2 F_p_item_at) :=
  fn_ok T.F_p_item_at sc_p_item_at hs (t := rd_p_item_at) (fun cdv A outer s H E hg hr gd => (dss_cons (ds_set (i := 2) gd rfl (.inl rfl) (de_var 0)) (dss_cons (ds_for gd PassesOwn.never (di_seq rfl (de_var 1)) (dg_name (i := 3) gd rfl (.inl rfl)) (dss_one (ds_set (i := 2) gd rfl (.inl rfl) (de_ix (i_at rfl) (de_var 2) (de_var 3) (fun _ _ => rfl))))) (dss_one (ds_ret (de_var 2)))))) ma_p_item_at
theorem ok_with_made (T : Tx K w mg) (hs : ∃ o, base.get? sysModules = some o) : FnG P w K mg base CX0 7 T.a_with_made T.d_with_made ["book", "phase", "colour"] (spD K (Jr P w K) 3 F_with_made) :=
  fn_ok T.F_with_made sc_with_made hs (t := rd_with_made) (fun cdv A outer s H E hg hr gd => (dss_one (ds_ret (de_call rfl (ok_replaced T hs) (hr.mono (by decide)) gd (by rfl) T.m_replaced T.F_replaced.kp T.B_replaced pass0 (da_cons (de_var 0) (da_cons (de_tup (da_cons (de_dct (by rfl) T.m_PARTS T.x_PARTS de_str (fun _ _ => rfl)) (da_cons (de_var 1) da_nil))) (da_cons (de_var 2) da_nil))))))) ma_with_made
theorem ok_p_places_of (T : Tx K w mg) (hs : ∃ o, base.get? sysModules = some o) : FnG P w K mg base CX0 1 T.a_p_places_of T.d_p_places_of ["entry"] (spD K (Jr P w K) 1 F_p_places_of) :=
  fn_ok T.F_p_places_of sc_p_places_of hs (t := rd_p_places_of) (fun cdv A outer s H E hg hr gd => (dss_one (ds_ret (de_fz gd (de_op (o_add rfl) (de_tup (da_cons (de_dct (by rfl) T.m_PARTS T.x_PARTS (de_ix (i_at rfl) (de_var 0) de_int (fun _ _ => rfl)) (fun _ _ => rfl)) da_nil)) (de_fz gd (de_cut rfl (de_var 0) (do_some de_int) (do_some de_int)))))))) ma_p_places_of
theorem ok_without (T : Tx K w mg) (hs : ∃ o, base.get? sysModules = some o) : FnG P w K mg base CX0 8 T.a_without T.d_without ["book", "entry"] (spD K (Jr P w K) 2 F_without) :=
  fn_ok T.F_without sc_without hs (t := rd_without) (fun cdv A outer s H E hg hr gd => (dss_cons (ds_if (dt_cmp (o_eq rfl gd) (de_ix (i_at rfl) (de_var 1) de_int (fun _ _ => rfl)) de_str (nomark _)) (dss_cons (ds_set (i := 2) gd rfl (.inl rfl) (de_call rfl (ok_p_item_at T hs) (hr.mono (by decide)) gd (by rfl) T.m_p_item_at T.F_p_item_at.kp T.B_p_item_at pass0 (da_cons (de_var 0) (da_cons (de_call rfl (ok_p_places_of T hs) (hr.mono (by decide)) gd (by rfl) T.m_p_places_of T.F_p_places_of.kp T.B_p_places_of pass0 (da_cons (de_var 1) da_nil)) da_nil)))) (dss_one (ds_ret (de_call rfl (ok_replaced T hs) (hr.mono (by decide)) gd (by rfl) T.m_replaced T.F_replaced.kp T.B_replaced pass0 (da_cons (de_var 0) (da_cons (de_call rfl (ok_p_places_of T hs) (hr.mono (by decide)) gd (by rfl) T.m_p_places_of T.F_p_places_of.kp T.B_p_places_of pass0 (da_cons (de_var 1) da_nil)) (da_cons (de_callT (c_tuple rfl) (by rfl) T.b_tuple (by decide +kernel) (da_cons (de_fz gd (de_lc (own := [("word", 3)]) gd (di_seq rfl (de_var 2)) (blkOk_by (N := nm_without) (sc := defScope st_without) (by decide +kernel)) (fun _ _ _ _ _ => (pg_name (i := 3) (by exact gd.nd) (by rfl) (by exact (.inl rfl)))) (gown_name (by decide)) (fun _ _ _ _ _ gd => (dts_one (dt_cmp (o_ne rfl gd) (de_var 3) (de_ix (i_at rfl) (de_var 1) de_int (fun _ _ => rfl)) (nomark _)))) (fun _ _ _ _ _ gd => (de_var 3)))) da_nil)) da_nil))))))) dss_nil) (dss_cons (ds_if (dt_cmp (o_eq rfl gd) (de_ix (i_at rfl) (de_var 1) de_int (fun _ _ => rfl)) de_str (nomark _)) (dss_one (ds_ret (de_call rfl (ok_with_made T hs) (hr.mono (by decide)) gd (by rfl) T.m_with_made T.F_with_made.kp T.B_with_made pass0 (da_cons (de_var 0) (da_cons (de_ix (i_at rfl) (de_var 1) de_int (fun _ _ => rfl)) (da_cons de_str da_nil)))))) dss_nil) (dss_one (ds_ret (de_call rfl (ok_replaced T hs) (hr.mono (by decide)) gd (by rfl) T.m_replaced T.F_replaced.kp T.B_replaced pass0 (da_cons (de_var 0) (da_cons (de_call rfl (ok_p_places_of T hs) (hr.mono (by decide)) gd (by rfl) T.m_p_places_of T.F_p_places_of.kp T.B_p_places_of pass0 (da_cons (de_var 1) da_nil)) (da_cons de_bl da_nil))))))))) ma_without
theorem ok_least_part (T : Tx K w mg) (hs : ∃ o, base.get? sysModules = some o) : FnG P w K mg base (L2.CX P w) 9 T.a_least_part T.d_least_part ["book", "hands"] (spX K (Jr P w K) 2 T.a_Unfit F_least_part) :=
  fnx_ok T.F_least_part sc_least_part hs (t := rd_least_part) (fun cdv A outer s H E Z hg hr gd po tk hz => (dss_cons (ds_if (dt_not (dt_val (de_call rfl (ok_is_safe T hs) (hr.mono (by decide)) gd (by rfl) T.m_is_safe T.F_is_safe.kp T.B_is_safe pass0 (da_cons (de_var 0) (da_cons (de_var 1) da_nil))))) (dss_one (ds_raise gd tk rfl T.x_Unfit (by rfl) (fun _ H2 sm z => hz H2 sm z))) dss_nil) (dss_cons (ds_set (i := 2) gd rfl (.inl rfl) (de_var 0)) (dss_cons (ds_for gd po (di_seq rfl (de_call rfl (ok_entries T hs) (hr.mono (by decide)) gd (by rfl) T.m_entries T.F_entries.kp T.B_entries pass0 (da_cons (de_var 0) da_nil))) (dg_name (i := 3) gd rfl (.inl rfl)) (dss_cons (ds_set (i := 4) gd rfl (.inl rfl) (de_call rfl (ok_without T hs) (hr.mono (by decide)) gd (by rfl) T.m_without T.F_without.kp T.B_without pass0 (da_cons (de_var 2) (da_cons (de_var 3) da_nil)))) (dss_one (ds_if (dt_val (de_call rfl (ok_is_safe T hs) (hr.mono (by decide)) gd (by rfl) T.m_is_safe T.F_is_safe.kp T.B_is_safe pass0 (da_cons (de_var 4) (da_cons (de_var 1) da_nil)))) (dss_one (ds_set (i := 2) gd rfl (.inl rfl) (de_var 4))) dss_nil)))) (dss_one (ds_ret (de_var 2))))))) ma_least_part
theorem ok_l_said (T : Tx K w mg) (hs : ∃ o, base.get? sysModules = some o) : FnG P w K mg base CX0 10 T.a_l_said T.d_l_said ["book", "hands", "is_named"] (spD K (Jr P w K) 3 F_l_said) :=
  fn_ok T.F_l_said sc_l_said hs (t := rd_l_said) (fun cdv A outer s H E hg hr gd => (dss_one (ds_try (i := 3) gd rfl rfl rfl rfl T.x_Unfit (by rfl) (fun W pn xe gd tk po => pss_one (ds_retX (de_ifX (dt_val (de_var 2)) (de_callKX rfl (ok_least_part T hs) (hr.mono (by decide)) gd (by rfl) T.m_least_part T.F_least_part.kp T.P_least_part_1_0 tk (dk_cons (de_var 1) (dk_cons (de_var 0) dk_nil))) (de_callX rfl (ok_least_part T hs) (hr.mono (by decide)) gd (by rfl) T.m_least_part T.F_least_part.kp T.B_least_part tk (da_cons (de_var 0) (da_cons (de_var 1) da_nil)))))) (fun a oe cls d pn hz hf => dis_ret (dit_if (dit_val (dis_isx hz hf T.i_Unfit_GuardError rfl (.inl rfl) (by rfl) T.b_isinstance (by rfl) T.m_GuardError)) (di_lift de_str) (di_lift de_str)))))) ma_l_said
theorem ok_l_inserts (T : Tx K w mg) (hs : ∃ o, base.get? sysModules = some o) : FnG P w K mg base CX0 1 T.a_l_inserts T.d_l_inserts ["some", "phase", "pieces"] (spD K (Jr P w K) 3 F_l_inserts) :=
  fn_ok T.F_l_inserts sc_l_inserts hs (t := rd_l_inserts) (fun cdv A outer s H E hg hr gd => (dss_cons (ds_for gd PassesOwn.never (di_seq rfl (de_if (dt_val (de_var 2)) (de_tup (da_cons de_int (da_cons de_int da_nil))) (de_tup (da_cons de_int da_nil)))) (dg_name (i := 3) gd rfl (.inl rfl)) (dss_one (ds_if (dw_and (dt_cmp (o_notin rfl gd) (de_tup (da_cons de_str (da_cons (de_var 1) (da_cons (de_var 3) (da_cons de_str da_nil))))) (de_var 0) (rfl)) (dw_and1 (dt_cmp (o_notin rfl gd) (de_tup (da_cons de_str (da_cons (de_var 1) (da_cons (de_var 3) (da_cons de_str da_nil))))) (de_var 0) (rfl)))).pt (dss_one (ds_ret de_bl)) dss_nil))) (dss_one (ds_ret de_bl)))) ma_l_inserts
theorem ok_l_is_early (T : Tx K w mg) (hs : ∃ o, base.get? sysModules = some o) : FnG P w K mg base CX0 1 T.a_l_is_early T.d_l_is_early ["some"] (spD K (Jr P w K) 1 F_l_is_early) :=
  fn_ok T.F_l_is_early sc_l_is_early hs (t := rd_l_is_early) (fun cdv A outer s H E hg hr gd => (dss_cons (ds_set (i := 1) gd rfl (.inl rfl) (de_fz gd (de_lst (da_cons (de_tup (da_cons de_str (da_cons de_int da_nil))) (da_cons (de_tup (da_cons de_str (da_cons de_int (da_cons de_int da_nil)))) (da_cons (de_tup (da_cons de_str (da_cons de_int (da_cons de_int (da_cons de_str da_nil))))) (da_cons (de_tup (da_cons de_str (da_cons de_int (da_cons de_int (da_cons de_str da_nil))))) da_nil))))))) (dss_one (ds_ret (de_cmp (o_ne rfl gd) (de_fz gd (de_lc (own := [("entry", 2)]) gd (di_seq rfl (de_var 1)) (blkOk_by (N := nm_l_is_early) (sc := defScope st_l_is_early) (by decide +kernel)) (fun _ _ _ _ _ => (pg_name (i := 2) (by exact gd.nd) (by rfl) (by exact (.inl rfl)))) (gown_name (by decide)) (fun _ _ _ _ _ gd => (dts_one (dt_cmp (o_in rfl gd) (de_var 2) (de_var 0) (rfl)))) (fun _ _ _ _ _ gd => (de_var 2)))) (de_fz gd (de_lst da_nil)) (nomark _)))))) ma_l_is_early
theorem ok_l_ways (T : Tx K w mg) (hs : ∃ o, base.get? sysModules = some o) : FnG P w K mg base CX0 2 T.a_l_ways T.d_l_ways ["some", "pieces", "hands"] (spD K (Jr P w K) 3 F_l_ways) :=
  fn_ok T.F_l_ways sc_l_ways hs (t := rd_l_ways) (fun cdv A outer s H E hg hr gd => (dss_cons (ds_if (dw_and (dt_not (dt_val (de_call rfl (ok_l_inserts T hs) (hr.mono (by decide)) gd (by rfl) T.m_l_inserts T.F_l_inserts.kp T.B_l_inserts pass0 (da_cons (de_var 0) (da_cons de_int (da_cons (de_var 1) da_nil)))))) (dw_and1 (dw_or (dt_cmp (o_gt) (de_var 2) de_int (nomark _)) (dw_or1 (dt_val (de_call rfl (ok_l_is_early T hs) (hr.mono (by decide)) gd (by rfl) T.m_l_is_early T.F_l_is_early.kp T.B_l_is_early pass0 (da_cons (de_var 0) da_nil))))).pt)).pt (dss_one (ds_ret (de_tup da_nil))) dss_nil) (dss_cons (ds_par3 (i := 3) (j := 4) (l := 5) gd rfl rfl rfl (by decide) (by decide) (by decide) rfl rfl rfl (de_if (dt_cmp (o_gt) (de_var 2) de_int (nomark _)) (de_tup (da_cons de_int (da_cons de_int da_nil))) (de_tup (da_cons de_int da_nil))) (de_lst da_nil) (de_cmp (o_in rfl gd) (de_tup (da_cons de_str (da_cons de_int da_nil))) (de_var 0) (rfl)) rfl) (dss_cons (ds_set (i := 6) gd rfl (.inl rfl) (de_cmp (o_eq rfl gd) (de_fz gd (de_lc (own := [("phase", 7)]) gd (di_seq rfl (de_var 3)) (blkOk_by (N := nm_l_ways) (sc := defScope st_l_ways) (by decide +kernel)) (fun _ _ _ _ _ => (pg_name (i := 7) (by exact gd.nd) (by rfl) (by exact (.inl rfl)))) (gown_name (by decide)) (fun _ _ _ _ _ gd => (dts_one (dt_cmp (o_notin rfl gd) (de_tup (da_cons de_str (da_cons (de_var 7) (da_cons de_int (da_cons de_str da_nil))))) (de_var 0) (rfl)))) (fun _ _ _ _ _ gd => (de_var 7)))) (de_fz gd (de_lst da_nil)) (nomark _))) (dss_cons (ds_if (dw_and (dt_val (de_var 5)) (dw_and (dt_val (de_var 6)) (dw_and1 (dt_cmp (o_in rfl gd) (de_tup (da_cons de_str (da_cons de_int (da_cons de_int da_nil)))) (de_var 0) (rfl))))).pt (dss_one (ds_expr (de_append (pv 4) de_str))) dss_nil) (dss_cons (ds_if (dw_and (dt_cmp (o_in rfl gd) (de_tup (da_cons de_str da_nil)) (de_var 0) (rfl)) (dw_and1 (dt_val (de_call rfl (ok_l_inserts T hs) (hr.mono (by decide)) gd (by rfl) T.m_l_inserts T.F_l_inserts.kp T.B_l_inserts pass0 (da_cons (de_var 0) (da_cons de_int (da_cons (de_var 1) da_nil))))))).pt (dss_one (ds_expr (de_append (pv 4) de_str))) dss_nil) (dss_cons (ds_if (dw_and (dt_val (de_var 5)) (dw_and (dt_val (de_var 6)) (dw_and1 (dt_cmp (o_eq rfl gd) (de_fz gd (de_lc (own := [("phase", 7)]) gd (di_seq rfl (de_var 3)) (blkOk_by (N := nm_l_ways) (sc := defScope st_l_ways) (by decide +kernel)) (fun _ _ _ _ _ => (pg_name (i := 7) (by exact gd.nd) (by rfl) (by exact (.inl rfl)))) (gown_name (by decide)) (fun _ _ _ _ _ gd => (dts_one (dt_cmp (o_notin rfl gd) (de_tup (da_cons de_str (da_cons (de_var 7) (da_cons de_int (da_cons de_str da_nil))))) (de_var 0) (rfl)))) (fun _ _ _ _ _ gd => (de_var 7)))) (de_fz gd (de_lst da_nil)) (nomark _))))).pt (dss_one (ds_expr (de_append (pv 4) de_str))) dss_nil) (dss_cons (ds_if (dw_and (dt_val (de_var 5)) (dw_and1 (dt_cmp (o_in rfl gd) (de_tup (da_cons de_str (da_cons de_int (da_cons de_int da_nil)))) (de_var 0) (rfl)))).pt (dss_one (ds_expr (de_append (pv 4) de_str))) dss_nil) (dss_one (ds_ret (de_callT1 (c_tuple rfl) (by rfl) T.b_tuple (by decide +kernel) (pv 4)))))))))))) ma_l_ways
theorem ok_l_is_least (T : Tx K w mg) (hs : ∃ o, base.get? sysModules = some o) : FnG P w K mg base CX0 3 T.a_l_is_least T.d_l_is_least ["some", "pieces", "hands"] (spD K (Jr P w K) 3 F_l_is_least) :=
  fn_ok T.F_l_is_least sc_l_is_least hs (t := rd_l_is_least) (fun cdv A outer s H E hg hr gd => (dss_cons (ds_setLc (i := 3) (own := [("own", 4)]) gd rfl rfl (sw_true rfl rfl rfl (by decide +kernel)) (di_seq rfl (de_var 0)) (blkOk_by (N := nm_l_is_least) (sc := defScope st_l_is_least) (by decide +kernel)) (fun _ _ _ _ _ => (pg_name (i := 4) (by exact gd.nd) (by rfl) (by exact (.inr rfl)))) (gown_name (by decide)) (fun _ _ _ _ _ gd => (dts_one (dt_cmp (o_neu rfl gd) (de_call rfl (ok_l_ways T hs) (hr.mono (by decide)) gd (by rfl) T.m_l_ways T.F_l_ways.kp T.B_l_ways pass0 (da_cons (de_fz gd (de_lc (own := [("entry", 5)]) gd (di_seq rfl (de_var 0)) (blkOk_by (N := nm_l_is_least) (sc := { kind := .function, names := [(".0", .local), ("own", .cell), ("_law_ways", .globalImplicit), ("hands", .cell), ("pieces", .cell), ("some", .cell)], isGenerator := false, isCoroutine := false }) (by decide +kernel)) (fun _ _ _ _ _ => (pg_name (i := 5) (by exact gd.nd) (by rfl) (by exact (.inl rfl)))) (gown_name (by decide)) (fun _ _ _ _ _ gd => (dts_one (dt_cmp (o_ne rfl gd) (de_var 5) (de_var 4) (nomark _)))) (fun _ _ _ _ _ gd => (de_var 5)))) (da_cons (de_var 1) (da_cons (de_var 2) da_nil)))) (de_tup da_nil) (nomark _)))) (fun _ _ _ _ _ gd => (de_var 4))) (dss_fix gd 3 (dss_one (ds_ret (de_and (de_cmp (o_neu rfl gd) (de_call rfl (ok_l_ways T hs) (hr.mono (by decide)) gd (by rfl) T.m_l_ways T.F_l_ways.kp T.B_l_ways pass0 (da_cons (de_var 0) (da_cons (de_var 1) (da_cons (de_var 2) da_nil)))) (de_tup da_nil) (nomark _)) (de_one (de_cmp (o_eq rfl gd) (de_var 3) (de_fz gd (de_lst da_nil)) (nomark _))))))))) ma_l_is_least
theorem ok_l_is_had (T : Tx K w mg) (hs : ∃ o, base.get? sysModules = some o) : FnG P w K mg base CX0 1 T.a_l_is_had T.d_l_is_had ["book", "entry"] (spD K (Jr P w K) 2 F_l_is_had) :=
  fn_ok T.F_l_is_had sc_l_is_had hs (t := rd_l_is_had) (fun cdv A outer s H E hg hr gd => (dss_cons (ds_if (dt_cmp (o_eq rfl gd) (de_ix (i_at rfl) (de_var 1) de_int (fun _ _ => rfl)) de_str (nomark _)) (dss_one (ds_ret (de_ix (i_at rfl) (de_var 0) de_int (fun _ _ => rfl)))) dss_nil) (dss_cons (ds_if (dt_cmp (o_eq rfl gd) (de_ix (i_at rfl) (de_var 1) de_int (fun _ _ => rfl)) de_str (nomark _)) (dss_one (ds_ret (de_cmp (o_ne rfl gd) (de_ix (i_at rfl) (de_ix (i_at rfl) (de_var 0) de_int (fun _ _ => rfl)) (de_ix (i_at rfl) (de_var 1) de_int (fun _ _ => rfl)) (fun _ _ => rfl)) de_str (nomark _)))) dss_nil) (dss_one (ds_ret (de_if (dt_cmp (o_eq rfl gd) (de_ix (i_at rfl) (de_var 1) de_int (fun _ _ => rfl)) de_str (nomark _)) (de_ix (i_at rfl) (de_ix (i_at rfl) (de_ix (i_at rfl) (de_var 0) de_int (fun _ _ => rfl)) (de_ix (i_at rfl) (de_var 1) de_int (fun _ _ => rfl)) (fun _ _ => rfl)) (de_ix (i_at rfl) (de_var 1) de_int (fun _ _ => rfl)) (fun _ _ => rfl)) (de_cmp (o_in rfl gd) (de_ix (i_at rfl) (de_var 1) de_int (fun _ _ => rfl)) (de_ix (i_at rfl) (de_ix (i_at rfl) (de_ix (i_at rfl) (de_var 0) de_int (fun _ _ => rfl)) (de_ix (i_at rfl) (de_var 1) de_int (fun _ _ => rfl)) (fun _ _ => rfl)) (de_ix (i_at rfl) (de_var 1) de_int (fun _ _ => rfl)) (fun _ _ => rfl)) (rfl)))))))) ma_l_is_had
theorem ok_l_has (T : Tx K w mg) (hs : ∃ o, base.get? sysModules = some o) : FnG P w K mg base CX0 2 T.a_l_has T.d_l_has ["book"] (spD K (Jr P w K) 1 F_l_has) :=
  fn_ok T.F_l_has sc_l_has hs (t := rd_l_has) (fun cdv A outer s H E hg hr gd => (dss_one (ds_ret (de_fz gd (de_lc (own := [("entry", 1)]) gd (di_seq rfl (de_call0 rfl (ok_l_all_entries T hs) (hr.mono (by decide)) gd (by rfl) T.m_l_all_entries T.F_l_all_entries.kp T.B_l_all_entries pass0)) (blkOk_by (N := nm_l_has) (sc := defScope st_l_has) (by decide +kernel)) (fun _ _ _ _ _ => (pg_name (i := 1) (by exact gd.nd) (by rfl) (by exact (.inl rfl)))) (gown_name (by decide)) (fun _ _ _ _ _ gd => (dts_one (dt_val (de_call rfl (ok_l_is_had T hs) (hr.mono (by decide)) gd (by rfl) T.m_l_is_had T.F_l_is_had.kp T.B_l_is_had pass0 (da_cons (de_var 0) (da_cons (de_var 1) da_nil)))))) (fun _ _ _ _ _ gd => (de_var 1))))))) ma_l_has
theorem ok_l_chosen (T : Tx K w mg) (hs : ∃ o, base.get? sysModules = some o) : FnG P w K mg base CX0 3 T.a_l_chosen T.d_l_chosen ["book", "told"] (spD K (Jr P w K) 2 F_l_chosen) :=
  fn_ok T.F_l_chosen sc_l_chosen hs (t := rd_l_chosen) (fun cdv A outer s H E hg hr gd => (dss_cons (ds_if (dw_or (dt_not (dt_val (de_isi (Ts := "tuple") rfl (by rfl) T.b_isinstance (by rfl) T.b_tuple (by decide +kernel) (.inr (.inr (.inr (.inl rfl)))) (de_var 1)))) (dw_or (dt_cmp (o_ne rfl gd) (de_callB (c_len rfl) (by rfl) T.b_len (by decide +kernel) (da_cons (de_var 1) da_nil)) de_int (nomark _)) (dw_or1 (dt_not (dt_val (de_isi (Ts := "bool") rfl (by rfl) T.b_isinstance (by rfl) T.b_bool (by decide +kernel) (.inr (.inl rfl)) (de_ix (i_at rfl) (de_var 1) de_int (fun _ _ => rfl)))))))).pt (dss_one (ds_ret (de_fz gd (de_lst da_nil)))) dss_nil) (dss_cons (ds_for gd PassesOwn.never (di_rng (by rfl) T.b_range de_int) (dg_name (i := 2) gd rfl (.inl rfl)) (dss_one (ds_if (dw_or (dt_not (dt_val (de_isi (Ts := "tuple") rfl (by rfl) T.b_isinstance (by rfl) T.b_tuple (by decide +kernel) (.inr (.inr (.inr (.inl rfl)))) (de_ix (i_at rfl) (de_var 1) (de_var 2) (fun _ _ => rfl))))) (dw_or1 (dt_cmp (o_ne rfl gd) (de_callB (c_len rfl) (by rfl) T.b_len (by decide +kernel) (da_cons (de_ix (i_at rfl) (de_var 1) (de_var 2) (fun _ _ => rfl)) da_nil)) de_int (nomark _)))).pt (dss_one (ds_ret (de_fz gd (de_lst da_nil)))) dss_nil))) (dss_cons (ds_for gd PassesOwn.never (di_seq rfl (de_tup (da_cons de_int (da_cons de_int da_nil)))) (dg_name (i := 3) gd rfl (.inr rfl)) (dss_one (ds_if (dt_cmp (o_ne rfl gd) (de_fz gd (de_lc (own := [("spot", 2)]) gd (di_seq rfl (de_tup (da_cons de_int (da_cons de_int da_nil)))) (blkOk_by (N := nm_l_chosen) (sc := defScope st_l_chosen) (by decide +kernel)) (fun _ _ _ _ _ => (pg_name (i := 2) (by exact gd.nd) (by rfl) (by exact (.inl rfl)))) (gown_name (by decide)) (fun _ _ _ _ _ gd => (dts_one (dw_or (dt_not (dt_val (de_isi (Ts := "tuple") rfl (by rfl) T.b_isinstance (by rfl) T.b_tuple (by decide +kernel) (.inr (.inr (.inr (.inl rfl)))) (de_ix (i_at rfl) (de_ix (i_at rfl) (de_var 1) (de_var 2) (fun _ _ => rfl)) (de_var 3) (fun _ _ => rfl))))) (dw_or1 (dt_cmp (o_ne rfl gd) (de_callB (c_len rfl) (by rfl) T.b_len (by decide +kernel) (da_cons (de_ix (i_at rfl) (de_ix (i_at rfl) (de_var 1) (de_var 2) (fun _ _ => rfl)) (de_var 3) (fun _ _ => rfl)) da_nil)) de_int (nomark _)))).pt)) (fun _ _ _ _ _ gd => de_int))) (de_fz gd (de_lst da_nil)) (nomark _)) (dss_one (ds_ret (de_fz gd (de_lst da_nil)))) dss_nil))) (dss_cons (ds_if (dt_cmp (o_ne rfl gd) (de_fz gd (de_lc (own := [("phase", 3)]) gd (di_seq rfl (de_tup (da_cons de_int (da_cons de_int da_nil)))) (blkOk_by (N := nm_l_chosen) (sc := defScope st_l_chosen) (by decide +kernel)) (fun _ _ _ _ _ => (pg_name (i := 3) (by exact gd.nd) (by rfl) (by exact (.inl rfl)))) (gown_name (by decide)) (fun _ _ _ _ _ gd => (dts_one (dt_cmp (o_ne rfl gd) (de_fz gd (de_lc (own := [("own", 5)]) gd (di_seq rfl (de_ix (i_at rfl) (de_ix (i_at rfl) (de_var 1) de_int (fun _ _ => rfl)) (de_var 3) (fun _ _ => rfl))) (blkOk_by (N := nm_l_chosen) (sc := { kind := .function, names := [(".0", .local), ("phase", .local), ("told", .cell)], isGenerator := false, isCoroutine := false }) (by decide +kernel)) (fun _ _ _ _ _ => (pg_name (i := 5) (by exact gd.nd) (by rfl) (by exact (.inl rfl)))) (gown_name (by decide)) (fun _ _ _ _ _ gd => (dts_one (dt_not (dt_val (de_isi (Ts := "tuple") rfl (by rfl) T.b_isinstance (by rfl) T.b_tuple (by decide +kernel) (.inr (.inr (.inr (.inl rfl)))) (de_var 5)))))) (fun _ _ _ _ _ gd => (de_var 5)))) (de_fz gd (de_lst da_nil)) (nomark _)))) (fun _ _ _ _ _ gd => de_int))) (de_fz gd (de_lst da_nil)) (nomark _)) (dss_one (ds_ret (de_fz gd (de_lst da_nil)))) dss_nil) (dss_one (ds_ret (de_fz gd (de_lst (da_cons (de_fz gd (de_lc (own := [("entry", 4)]) gd (di_seq rfl (de_call rfl (ok_l_has T hs) (hr.mono (by decide)) gd (by rfl) T.m_l_has T.F_l_has.kp T.B_l_has pass0 (da_cons (de_var 0) da_nil))) (blkOk_by (N := nm_l_chosen) (sc := defScope st_l_chosen) (by decide +kernel)) (fun _ _ _ _ _ => (pg_name (i := 4) (by exact gd.nd) (by rfl) (by exact (.inl rfl)))) (gown_name (by decide)) (fun _ _ _ _ _ gd => (dts_one (dt_val (de_call rfl (ok_l_is_had T hs) (hr.mono (by decide)) gd (by rfl) T.m_l_is_had T.F_l_is_had.kp T.B_l_is_had pass0 (da_cons (de_var 1) (da_cons (de_var 4) da_nil)))))) (fun _ _ _ _ _ gd => (de_var 4)))) da_nil)))))))))) ma_l_chosen
theorem ok_l_is_part (T : Tx K w mg) (hs : ∃ o, base.get? sysModules = some o) : FnG P w K mg base CX0 4 T.a_l_is_part T.d_l_is_part ["book", "hands", "told"] (spD K (Jr P w K) 3 F_l_is_part) :=
  fn_ok T.F_l_is_part sc_l_is_part hs (t := rd_l_is_part) (fun cdv A outer s H E hg hr gd => (dss_cons (ds_for gd PassesOwn.never (di_seq rfl (de_call rfl (ok_l_chosen T hs) (hr.mono (by decide)) gd (by rfl) T.m_l_chosen T.F_l_chosen.kp T.B_l_chosen pass0 (da_cons (de_var 0) (da_cons (de_var 2) da_nil)))) (dg_name (i := 3) gd rfl (.inl rfl)) (dss_cons (ds_setLc (i := 4) (own := [("colour", 5)]) gd rfl rfl (sw_true rfl rfl rfl (by decide +kernel)) (di_seq rfl (de_ix (i_at rfl) (de_var 0) de_int (fun _ _ => rfl))) (blkOk_by (N := nm_l_is_part) (sc := defScope st_l_is_part) (by decide +kernel)) (fun _ _ _ _ _ => (pg_name (i := 5) (by exact gd.nd) (by rfl) (by exact (.inl rfl)))) (gown_name (by decide)) (fun _ _ _ _ _ gd => dts_nil) (fun _ _ _ _ _ gd => (de_if (dt_cmp (o_ne rfl gd) (de_var 5) de_str (nomark _)) (de_var 5) de_str))) (dss_fix gd 4 (dss_one (ds_ret (de_and (de_cmp (o_eq rfl gd) (de_callB (c_repr rfl gd) (by rfl) T.b_repr (by decide +kernel) (da_cons (de_var 2) da_nil)) (de_callB (c_repr rfl gd) (by rfl) T.b_repr (by decide +kernel) (da_cons (de_call rfl (ok_l_book T hs) (hr.mono (by decide)) gd (by rfl) T.m_l_book T.F_l_book.kp T.B_l_book pass0 (da_cons (de_var 3) (da_cons (de_var 4) (da_cons (de_ix (i_at rfl) (de_var 0) de_int (fun _ _ => rfl)) da_nil)))) da_nil)) (nomark _)) (de_one (de_call rfl (ok_l_is_least T hs) (hr.mono (by decide)) gd (by rfl) T.m_l_is_least T.F_l_is_least.kp T.B_l_is_least pass0 (da_cons (de_var 3) (da_cons (de_ix (i_at rfl) (de_var 0) de_int (fun _ _ => rfl)) (da_cons (de_var 1) da_nil))))))))))) (dss_one (ds_ret de_bl)))) ma_l_is_part
theorem ok_needless (T : Tx K w mg) (hs : ∃ o, base.get? sysModules = some o) : FnG P w K mg base (L2.CX P w) 9 T.a_needless T.d_needless ["book", "hands"] (spX K (Jr P w K) 2 T.a_Unfit F_needless) :=
  fnx_ok T.F_needless sc_needless hs (t := rd_needless) (fun cdv A outer s H E Z hg hr gd po tk hz => (dss_cons (ds_if (dt_not (dt_val (de_call rfl (ok_is_safe T hs) (hr.mono (by decide)) gd (by rfl) T.m_is_safe T.F_is_safe.kp T.B_is_safe pass0 (da_cons (de_var 0) (da_cons (de_var 1) da_nil))))) (dss_one (ds_raise gd tk rfl T.x_Unfit (by rfl) (fun _ H2 sm z => hz H2 sm z))) dss_nil) (dss_one (ds_ret (de_callT (c_tuple rfl) (by rfl) T.b_tuple (by decide +kernel) (da_cons (de_fz gd (de_lc (own := [("entry", 2)]) gd (di_seq rfl (de_call rfl (ok_entries T hs) (hr.mono (by decide)) gd (by rfl) T.m_entries T.F_entries.kp T.B_entries pass0 (da_cons (de_var 0) da_nil))) (blkOk_by (N := nm_needless) (sc := defScope st_needless) (by decide +kernel)) (fun _ _ _ _ _ => (pg_name (i := 2) (by exact gd.nd) (by rfl) (by exact (.inl rfl)))) (gown_name (by decide)) (fun _ _ _ _ _ gd => (dts_one (dt_val (de_call rfl (ok_is_safe T hs) (hr.mono (by decide)) gd (by rfl) T.m_is_safe T.F_is_safe.kp T.B_is_safe pass0 (da_cons (de_call rfl (ok_without T hs) (hr.mono (by decide)) gd (by rfl) T.m_without T.F_without.kp T.B_without pass0 (da_cons (de_var 0) (da_cons (de_var 2) da_nil))) (da_cons (de_var 1) da_nil)))))) (fun _ _ _ _ _ gd => (de_var 2)))) da_nil)))))) ma_needless
theorem ok_is_least (T : Tx K w mg) (hs : ∃ o, base.get? sysModules = some o) : FnG P w K mg base CX0 10 T.a_is_least T.d_is_least ["book", "hands"] (spD K (Jr P w K) 2 F_is_least) :=
  fn_ok T.F_is_least sc_is_least hs (t := rd_is_least) (fun cdv A outer s H E hg hr gd => (dss_one (ds_ret (de_and (de_call rfl (ok_is_safe T hs) (hr.mono (by decide)) gd (by rfl) T.m_is_safe T.F_is_safe.kp T.B_is_safe pass0 (da_cons (de_var 0) (da_cons (de_var 1) da_nil))) (de_one (de_notTu rfl (de_call rfl (ok_needless T hs).calm (hr.mono (by decide)) gd (by rfl) T.m_needless T.F_needless.kp T.B_needless pass0 (da_cons (de_var 0) (da_cons (de_var 1) da_nil))))))))) ma_is_least
theorem ok_law (T : Tx K w mg) (hs : ∃ o, base.get? sysModules = some o) : FnG P w K mg base CX0 11 T.a_law T.d_law ["script"] (spD K (Jr P w K) 1 F_law) :=
  fn_ok T.F_law sc_law hs (t := rd_law) (fun cdv A outer s H E hg hr gd => (dss_cons (ds_set (i := 1) gd rfl (.inl rfl) (de_call rfl (ok_l_stock T hs) (hr.mono (by decide)) gd (by rfl) T.m_l_stock T.F_l_stock.kp T.B_l_stock pass0 (da_cons (de_var 0) da_nil))) (dss_cons (ds_for gd PassesOwn.never (di_rng (by rfl) T.b_range de_int) (dg_name (i := 2) gd rfl (.inl rfl)) (dss_cons (ds_par (i := 3) (j := 4) gd rfl rfl (by decide) rfl rfl (de_fz gd (de_op (o_add rfl) de_int (de_call rfl (ok_l_draw T hs) (hr.mono (by decide)) gd (by rfl) T.m_l_draw T.F_l_draw.kp T.B_l_draw pass0 (da_cons (de_var 1) (da_cons de_int da_nil))))) (de_cmp (o_eq rfl gd) (de_call rfl (ok_l_draw T hs) (hr.mono (by decide)) gd (by rfl) T.m_l_draw T.F_l_draw.kp T.B_l_draw pass0 (da_cons (de_var 1) (da_cons de_int da_nil))) de_int (nomark _)) rfl) (dss_cons (ds_set (i := 5) gd rfl (.inl rfl) (de_call rfl (ok_l_some T hs) (hr.mono (by decide)) gd (by rfl) T.m_l_some T.F_l_some.kp T.B_l_some pass0 (da_cons (de_var 1) (da_cons (de_var 4) (da_cons (de_var 3) da_nil))))) (dss_cons (ds_if (dt_cmp (o_eq rfl gd) (de_op (o_mod) (de_var 2) de_int) de_int (nomark _)) (dss_one (ds_set (i := 5) gd rfl (.inl rfl) (de_fz gd (de_op (o_add rfl) (de_var 5) (de_call rfl (ok_l_wanted T hs) (hr.mono (by decide)) gd (by rfl) T.m_l_wanted T.F_l_wanted.kp T.B_l_wanted pass0 (da_cons (de_var 1) (da_cons (de_call rfl (ok_l_pick T hs) (hr.mono (by decide)) gd (by rfl) T.m_l_pick T.F_l_pick.kp T.B_l_pick pass0 (da_cons (de_var 1) (da_cons (de_fz gd (de_lst (da_cons de_str (da_cons de_str (da_cons de_str (da_cons de_str da_nil)))))) da_nil))) (da_cons (de_var 4) (da_cons (de_var 3) da_nil))))))))) dss_nil) (dss_cons (ds_set (i := 6) gd rfl (.inl rfl) (de_call rfl (ok_l_book T hs) (hr.mono (by decide)) gd (by rfl) T.m_l_book T.F_l_book.kp T.B_l_book pass0 (da_cons (de_var 5) (da_cons (de_call rfl (ok_l_paint T hs) (hr.mono (by decide)) gd (by rfl) T.m_l_paint T.F_l_paint.kp T.B_l_paint pass0 (da_cons (de_var 1) da_nil)) (da_cons (de_var 4) da_nil))))) (dss_cons (ds_par (i := 7) (j := 8) gd rfl rfl (by decide) rfl rfl (de_callB (c_repr rfl gd) (by rfl) T.b_repr (by decide +kernel) (da_cons (de_var 6) da_nil)) (de_call rfl (ok_l_said T hs) (hr.mono (by decide)) gd (by rfl) T.m_l_said T.F_l_said.kp T.B_l_said pass0 (da_cons (de_var 6) (da_cons (de_var 3) (da_cons (de_cmp (o_eq rfl gd) (de_var 2) de_int (nomark _)) da_nil)))) rfl) (dss_cons (ds_if (dw_or (dw_and (dt_cmp (o_eq rfl gd) (de_var 2) de_int (nomark _)) (dw_and1 (dt_cmp (o_ne rfl gd) (de_callB (c_repr rfl gd) (by rfl) T.b_repr (by decide +kernel) (da_cons (de_call rfl (ok_l_said T hs) (hr.mono (by decide)) gd (by rfl) T.m_l_said T.F_l_said.kp T.B_l_said pass0 (da_cons (de_var 6) (da_cons (de_var 3) (da_cons de_bl da_nil)))) da_nil)) (de_callB (c_repr rfl gd) (by rfl) T.b_repr (by decide +kernel) (da_cons (de_var 8) da_nil)) (nomark _)))).pt (dw_or1 (dt_cmp (o_ne rfl gd) (de_callB (c_repr rfl gd) (by rfl) T.b_repr (by decide +kernel) (da_cons (de_var 6) da_nil)) (de_var 7) (nomark _)))).pt (dss_one (ds_ret de_bl)) dss_nil) (dss_cons (ds_if (dt_cmp (o_eq rfl gd) (de_call rfl (ok_l_ways T hs) (hr.mono (by decide)) gd (by rfl) T.m_l_ways T.F_l_ways.kp T.B_l_ways pass0 (da_cons (de_call rfl (ok_l_has T hs) (hr.mono (by decide)) gd (by rfl) T.m_l_has T.F_l_has.kp T.B_l_has pass0 (da_cons (de_var 6) da_nil)) (da_cons (de_var 4) (da_cons (de_var 3) da_nil)))) (de_tup da_nil) (nomark _)) (dss_cons (ds_if (dt_cmp (o_ne rfl gd) (de_var 8) de_str (nomark _)) (dss_one (ds_ret de_bl)) dss_nil) (dss_one ds_cnt)) dss_nil) (dss_cons (ds_if (dw_or (dt_not (dt_val (de_call rfl (ok_l_is_part T hs) (hr.mono (by decide)) gd (by rfl) T.m_l_is_part T.F_l_is_part.kp T.B_l_is_part pass0 (da_cons (de_var 6) (da_cons (de_var 3) (da_cons (de_var 8) da_nil)))))) (dw_or1 (dt_cmp (o_isNotB) (de_call rfl (ok_is_least T hs) (hr.mono (by decide)) gd (by rfl) T.m_is_least T.F_is_least.kp T.B_is_least pass0 (da_cons (de_var 8) (da_cons (de_var 3) da_nil))) de_bl (nomark _)))).pt (dss_one (ds_ret de_bl)) dss_nil) (dss_cons (ds_if (dw_and (dt_val (de_call rfl (ok_l_is_least T hs) (hr.mono (by decide)) gd (by rfl) T.m_l_is_least T.F_l_is_least.kp T.B_l_is_least pass0 (da_cons (de_call rfl (ok_l_has T hs) (hr.mono (by decide)) gd (by rfl) T.m_l_has T.F_l_has.kp T.B_l_has pass0 (da_cons (de_var 6) da_nil)) (da_cons (de_var 4) (da_cons (de_var 3) da_nil))))) (dw_and1 (dt_cmp (o_ne rfl gd) (de_callB (c_repr rfl gd) (by rfl) T.b_repr (by decide +kernel) (da_cons (de_var 8) da_nil)) (de_var 7) (nomark _)))).pt (dss_one (ds_ret de_bl)) dss_nil) (dss_one (ds_if (dw_and (dt_cmp (o_eq rfl gd) (de_var 2) de_int (nomark _)) (dw_and1 (dt_cmp (o_ne rfl gd) (de_callB (c_repr rfl gd) (by rfl) T.b_repr (by decide +kernel) (da_cons (de_call rfl (ok_least_part T hs).calm (hr.mono (by decide)) gd (by rfl) T.m_least_part T.F_least_part.kp T.B_least_part pass0 (da_cons (de_var 8) (da_cons (de_var 3) da_nil))) da_nil)) (de_callB (c_repr rfl gd) (by rfl) T.b_repr (by decide +kernel) (da_cons (de_var 8) da_nil)) (nomark _)))).pt (dss_one (ds_ret de_bl)) dss_nil)))))))))))) (dss_one (ds_ret de_bl))))) ma_law
end
set_option maxHeartbeats 0 in
theorem all_mk {P : Program} {w : World} {K : PySem.W.Frag} {h : Heap} {mg : Str → Option Value} {fa : Addr} (X : K.In h) (G : h.Ns mainGlobals mg) (hfa : mg "law" = some (.ref fa))
    {f_l_stock : Addr} {od_l_stock an_l_stock : Option Addr} {sl_l_stock : Array (Option Value)} {oc_l_stock kV_l_stock dc_l_stock pm_l_stock cd_l_stock ct_l_stock : Value}
    (a_l_stock : PySem.W.nsIn K mainGlobals "_law_stock" = some (some (.ref f_l_stock))) (l_l_stock : K.lookup f_l_stock = some ⟨oc_l_stock, od_l_stock, .func (PySem.W.fnOf "_law_stock" "_law_stock" (defArgs st_l_stock) (defBody st_l_stock) (defScope st_l_stock) .none kV_l_stock dc_l_stock pm_l_stock an_l_stock cd_l_stock ct_l_stock), sl_l_stock⟩) (c_l_stock : PySem.W.codeIn K cd_l_stock "_law_stock" = true) (k_l_stock : PySem.W.keepIn K (.ref f_l_stock) = true)
    {f_l_draw : Addr} {od_l_draw an_l_draw : Option Addr} {sl_l_draw : Array (Option Value)} {oc_l_draw kV_l_draw dc_l_draw pm_l_draw cd_l_draw ct_l_draw : Value}
    (a_l_draw : PySem.W.nsIn K mainGlobals "_law_draw" = some (some (.ref f_l_draw))) (l_l_draw : K.lookup f_l_draw = some ⟨oc_l_draw, od_l_draw, .func (PySem.W.fnOf "_law_draw" "_law_draw" (defArgs st_l_draw) (defBody st_l_draw) (defScope st_l_draw) .none kV_l_draw dc_l_draw pm_l_draw an_l_draw cd_l_draw ct_l_draw), sl_l_draw⟩) (c_l_draw : PySem.W.codeIn K cd_l_draw "_law_draw" = true) (k_l_draw : PySem.W.keepIn K (.ref f_l_draw) = true)
    {f_l_pick : Addr} {od_l_pick an_l_pick : Option Addr} {sl_l_pick : Array (Option Value)} {oc_l_pick kV_l_pick dc_l_pick pm_l_pick cd_l_pick ct_l_pick : Value}
    (a_l_pick : PySem.W.nsIn K mainGlobals "_law_pick" = some (some (.ref f_l_pick))) (l_l_pick : K.lookup f_l_pick = some ⟨oc_l_pick, od_l_pick, .func (PySem.W.fnOf "_law_pick" "_law_pick" (defArgs st_l_pick) (defBody st_l_pick) (defScope st_l_pick) .none kV_l_pick dc_l_pick pm_l_pick an_l_pick cd_l_pick ct_l_pick), sl_l_pick⟩) (c_l_pick : PySem.W.codeIn K cd_l_pick "_law_pick" = true) (k_l_pick : PySem.W.keepIn K (.ref f_l_pick) = true)
    {f_l_wanted : Addr} {od_l_wanted an_l_wanted : Option Addr} {sl_l_wanted : Array (Option Value)} {oc_l_wanted kV_l_wanted dc_l_wanted pm_l_wanted cd_l_wanted ct_l_wanted : Value}
    (a_l_wanted : PySem.W.nsIn K mainGlobals "_law_wanted" = some (some (.ref f_l_wanted))) (l_l_wanted : K.lookup f_l_wanted = some ⟨oc_l_wanted, od_l_wanted, .func (PySem.W.fnOf "_law_wanted" "_law_wanted" (defArgs st_l_wanted) (defBody st_l_wanted) (defScope st_l_wanted) .none kV_l_wanted dc_l_wanted pm_l_wanted an_l_wanted cd_l_wanted ct_l_wanted), sl_l_wanted⟩) (c_l_wanted : PySem.W.codeIn K cd_l_wanted "_law_wanted" = true) (k_l_wanted : PySem.W.keepIn K (.ref f_l_wanted) = true)
    {f_l_all_entries : Addr} {od_l_all_entries an_l_all_entries : Option Addr} {sl_l_all_entries : Array (Option Value)} {oc_l_all_entries kV_l_all_entries dc_l_all_entries pm_l_all_entries cd_l_all_entries ct_l_all_entries : Value}
    (a_l_all_entries : PySem.W.nsIn K mainGlobals "_law_all_entries" = some (some (.ref f_l_all_entries))) (l_l_all_entries : K.lookup f_l_all_entries = some ⟨oc_l_all_entries, od_l_all_entries, .func (PySem.W.fnOf "_law_all_entries" "_law_all_entries" (defArgs st_l_all_entries) (defBody st_l_all_entries) (defScope st_l_all_entries) .none kV_l_all_entries dc_l_all_entries pm_l_all_entries an_l_all_entries cd_l_all_entries ct_l_all_entries), sl_l_all_entries⟩) (c_l_all_entries : PySem.W.codeIn K cd_l_all_entries "_law_all_entries" = true) (k_l_all_entries : PySem.W.keepIn K (.ref f_l_all_entries) = true)
    {f_l_some : Addr} {od_l_some an_l_some : Option Addr} {sl_l_some : Array (Option Value)} {oc_l_some kV_l_some dc_l_some pm_l_some cd_l_some ct_l_some : Value}
    (a_l_some : PySem.W.nsIn K mainGlobals "_law_some" = some (some (.ref f_l_some))) (l_l_some : K.lookup f_l_some = some ⟨oc_l_some, od_l_some, .func (PySem.W.fnOf "_law_some" "_law_some" (defArgs st_l_some) (defBody st_l_some) (defScope st_l_some) .none kV_l_some dc_l_some pm_l_some an_l_some cd_l_some ct_l_some), sl_l_some⟩) (c_l_some : PySem.W.codeIn K cd_l_some "_law_some" = true) (k_l_some : PySem.W.keepIn K (.ref f_l_some) = true)
    {f_l_guard : Addr} {od_l_guard an_l_guard : Option Addr} {sl_l_guard : Array (Option Value)} {oc_l_guard kV_l_guard dc_l_guard pm_l_guard cd_l_guard ct_l_guard : Value}
    (a_l_guard : PySem.W.nsIn K mainGlobals "_law_guard" = some (some (.ref f_l_guard))) (l_l_guard : K.lookup f_l_guard = some ⟨oc_l_guard, od_l_guard, .func (PySem.W.fnOf "_law_guard" "_law_guard" (defArgs st_l_guard) (defBody st_l_guard) (defScope st_l_guard) .none kV_l_guard dc_l_guard pm_l_guard an_l_guard cd_l_guard ct_l_guard), sl_l_guard⟩) (c_l_guard : PySem.W.codeIn K cd_l_guard "_law_guard" = true) (k_l_guard : PySem.W.keepIn K (.ref f_l_guard) = true)
    {f_l_book : Addr} {od_l_book an_l_book : Option Addr} {sl_l_book : Array (Option Value)} {oc_l_book kV_l_book dc_l_book pm_l_book cd_l_book ct_l_book : Value}
    (a_l_book : PySem.W.nsIn K mainGlobals "_law_book" = some (some (.ref f_l_book))) (l_l_book : K.lookup f_l_book = some ⟨oc_l_book, od_l_book, .func (PySem.W.fnOf "_law_book" "_law_book" (defArgs st_l_book) (defBody st_l_book) (defScope st_l_book) .none kV_l_book dc_l_book pm_l_book an_l_book cd_l_book ct_l_book), sl_l_book⟩) (c_l_book : PySem.W.codeIn K cd_l_book "_law_book" = true) (k_l_book : PySem.W.keepIn K (.ref f_l_book) = true)
    {f_l_paint : Addr} {od_l_paint an_l_paint : Option Addr} {sl_l_paint : Array (Option Value)} {oc_l_paint kV_l_paint dc_l_paint pm_l_paint cd_l_paint ct_l_paint : Value}
    (a_l_paint : PySem.W.nsIn K mainGlobals "_law_paint" = some (some (.ref f_l_paint))) (l_l_paint : K.lookup f_l_paint = some ⟨oc_l_paint, od_l_paint, .func (PySem.W.fnOf "_law_paint" "_law_paint" (defArgs st_l_paint) (defBody st_l_paint) (defScope st_l_paint) .none kV_l_paint dc_l_paint pm_l_paint an_l_paint cd_l_paint ct_l_paint), sl_l_paint⟩) (c_l_paint : PySem.W.codeIn K cd_l_paint "_law_paint" = true) (k_l_paint : PySem.W.keepIn K (.ref f_l_paint) = true)
    {f_entries : Addr} {od_entries an_entries : Option Addr} {sl_entries : Array (Option Value)} {oc_entries kV_entries dc_entries pm_entries cd_entries ct_entries : Value}
    (a_entries : PySem.W.nsIn K mainGlobals "entries" = some (some (.ref f_entries))) (l_entries : K.lookup f_entries = some ⟨oc_entries, od_entries, .func (PySem.W.fnOf "entries" "entries" (defArgs st_entries) (defBody st_entries) (defScope st_entries) .none kV_entries dc_entries pm_entries an_entries cd_entries ct_entries), sl_entries⟩) (c_entries : PySem.W.codeIn K cd_entries "entries" = true) (k_entries : PySem.W.keepIn K (.ref f_entries) = true)
    {f_p_heeds_new : Addr} {od_p_heeds_new an_p_heeds_new : Option Addr} {sl_p_heeds_new : Array (Option Value)} {oc_p_heeds_new kV_p_heeds_new dc_p_heeds_new pm_p_heeds_new cd_p_heeds_new ct_p_heeds_new : Value}
    (a_p_heeds_new : PySem.W.nsIn K mainGlobals "_heeds_new" = some (some (.ref f_p_heeds_new))) (l_p_heeds_new : K.lookup f_p_heeds_new = some ⟨oc_p_heeds_new, od_p_heeds_new, .func (PySem.W.fnOf "_heeds_new" "_heeds_new" (defArgs st_p_heeds_new) (defBody st_p_heeds_new) (defScope st_p_heeds_new) .none kV_p_heeds_new dc_p_heeds_new pm_p_heeds_new an_p_heeds_new cd_p_heeds_new ct_p_heeds_new), sl_p_heeds_new⟩) (c_p_heeds_new : PySem.W.codeIn K cd_p_heeds_new "_heeds_new" = true) (k_p_heeds_new : PySem.W.keepIn K (.ref f_p_heeds_new) = true)
    {f_inserts : Addr} {od_inserts an_inserts : Option Addr} {sl_inserts : Array (Option Value)} {oc_inserts kV_inserts dc_inserts pm_inserts cd_inserts ct_inserts : Value}
    (a_inserts : PySem.W.nsIn K mainGlobals "inserts" = some (some (.ref f_inserts))) (l_inserts : K.lookup f_inserts = some ⟨oc_inserts, od_inserts, .func (PySem.W.fnOf "inserts" "inserts" (defArgs st_inserts) (defBody st_inserts) (defScope st_inserts) .none kV_inserts dc_inserts pm_inserts an_inserts cd_inserts ct_inserts), sl_inserts⟩) (c_inserts : PySem.W.codeIn K cd_inserts "inserts" = true) (k_inserts : PySem.W.keepIn K (.ref f_inserts) = true)
    {f_starts_early : Addr} {od_starts_early an_starts_early : Option Addr} {sl_starts_early : Array (Option Value)} {oc_starts_early kV_starts_early dc_starts_early pm_starts_early cd_starts_early ct_starts_early : Value}
    (a_starts_early : PySem.W.nsIn K mainGlobals "starts_early" = some (some (.ref f_starts_early))) (l_starts_early : K.lookup f_starts_early = some ⟨oc_starts_early, od_starts_early, .func (PySem.W.fnOf "starts_early" "starts_early" (defArgs st_starts_early) (defBody st_starts_early) (defScope st_starts_early) .none kV_starts_early dc_starts_early pm_starts_early an_starts_early cd_starts_early ct_starts_early), sl_starts_early⟩) (c_starts_early : PySem.W.codeIn K cd_starts_early "starts_early" = true) (k_starts_early : PySem.W.keepIn K (.ref f_starts_early) = true)
    {f_is_closed : Addr} {od_is_closed an_is_closed : Option Addr} {sl_is_closed : Array (Option Value)} {oc_is_closed kV_is_closed dc_is_closed pm_is_closed cd_is_closed ct_is_closed : Value}
    (a_is_closed : PySem.W.nsIn K mainGlobals "is_closed" = some (some (.ref f_is_closed))) (l_is_closed : K.lookup f_is_closed = some ⟨oc_is_closed, od_is_closed, .func (PySem.W.fnOf "is_closed" "is_closed" (defArgs st_is_closed) (defBody st_is_closed) (defScope st_is_closed) .none kV_is_closed dc_is_closed pm_is_closed an_is_closed cd_is_closed ct_is_closed), sl_is_closed⟩) (c_is_closed : PySem.W.codeIn K cd_is_closed "is_closed" = true) (k_is_closed : PySem.W.keepIn K (.ref f_is_closed) = true)
    {f_p_heeds_old : Addr} {od_p_heeds_old an_p_heeds_old : Option Addr} {sl_p_heeds_old : Array (Option Value)} {oc_p_heeds_old kV_p_heeds_old dc_p_heeds_old pm_p_heeds_old cd_p_heeds_old ct_p_heeds_old : Value}
    (a_p_heeds_old : PySem.W.nsIn K mainGlobals "_heeds_old" = some (some (.ref f_p_heeds_old))) (l_p_heeds_old : K.lookup f_p_heeds_old = some ⟨oc_p_heeds_old, od_p_heeds_old, .func (PySem.W.fnOf "_heeds_old" "_heeds_old" (defArgs st_p_heeds_old) (defBody st_p_heeds_old) (defScope st_p_heeds_old) .none kV_p_heeds_old dc_p_heeds_old pm_p_heeds_old an_p_heeds_old cd_p_heeds_old ct_p_heeds_old), sl_p_heeds_old⟩) (c_p_heeds_old : PySem.W.codeIn K cd_p_heeds_old "_heeds_old" = true) (k_p_heeds_old : PySem.W.keepIn K (.ref f_p_heeds_old) = true)
    {f_ways : Addr} {od_ways an_ways : Option Addr} {sl_ways : Array (Option Value)} {oc_ways kV_ways dc_ways pm_ways cd_ways ct_ways : Value}
    (a_ways : PySem.W.nsIn K mainGlobals "ways" = some (some (.ref f_ways))) (l_ways : K.lookup f_ways = some ⟨oc_ways, od_ways, .func (PySem.W.fnOf "ways" "ways" (defArgs st_ways) (defBody st_ways) (defScope st_ways) .none kV_ways dc_ways pm_ways an_ways cd_ways ct_ways), sl_ways⟩) (c_ways : PySem.W.codeIn K cd_ways "ways" = true) (k_ways : PySem.W.keepIn K (.ref f_ways) = true)
    {f_is_safe : Addr} {od_is_safe an_is_safe : Option Addr} {sl_is_safe : Array (Option Value)} {oc_is_safe kV_is_safe dc_is_safe pm_is_safe cd_is_safe ct_is_safe : Value}
    (a_is_safe : PySem.W.nsIn K mainGlobals "is_safe" = some (some (.ref f_is_safe))) (l_is_safe : K.lookup f_is_safe = some ⟨oc_is_safe, od_is_safe, .func (PySem.W.fnOf "is_safe" "is_safe" (defArgs st_is_safe) (defBody st_is_safe) (defScope st_is_safe) .none kV_is_safe dc_is_safe pm_is_safe an_is_safe cd_is_safe ct_is_safe), sl_is_safe⟩) (c_is_safe : PySem.W.codeIn K cd_is_safe "is_safe" = true) (k_is_safe : PySem.W.keepIn K (.ref f_is_safe) = true)
    {f_replaced : Addr} {od_replaced an_replaced : Option Addr} {sl_replaced : Array (Option Value)} {oc_replaced kV_replaced dc_replaced pm_replaced cd_replaced ct_replaced : Value}
    (a_replaced : PySem.W.nsIn K mainGlobals "replaced" = some (some (.ref f_replaced))) (l_replaced : K.lookup f_replaced = some ⟨oc_replaced, od_replaced, .func (PySem.W.fnOf "replaced" "replaced" (defArgs st_replaced) (defBody st_replaced) (defScope st_replaced) .none kV_replaced dc_replaced pm_replaced an_replaced cd_replaced ct_replaced), sl_replaced⟩) (c_replaced : PySem.W.codeIn K cd_replaced "replaced" = true) (k_replaced : PySem.W.keepIn K (.ref f_replaced) = true)
    {f_p_item_at : Addr} {od_p_item_at an_p_item_at : Option Addr} {sl_p_item_at : Array (Option Value)} {oc_p_item_at kV_p_item_at dc_p_item_at pm_p_item_at cd_p_item_at ct_p_item_at : Value}
    (a_p_item_at : PySem.W.nsIn K mainGlobals "_item_at" = some (some (.ref f_p_item_at))) (l_p_item_at : K.lookup f_p_item_at = some ⟨oc_p_item_at, od_p_item_at, .func (PySem.W.fnOf "_item_at" "_item_at" (defArgs st_p_item_at) (defBody st_p_item_at) (defScope st_p_item_at) .none kV_p_item_at dc_p_item_at pm_p_item_at an_p_item_at cd_p_item_at ct_p_item_at), sl_p_item_at⟩) (c_p_item_at : PySem.W.codeIn K cd_p_item_at "_item_at" = true) (k_p_item_at : PySem.W.keepIn K (.ref f_p_item_at) = true)
    {f_with_made : Addr} {od_with_made an_with_made : Option Addr} {sl_with_made : Array (Option Value)} {oc_with_made kV_with_made dc_with_made pm_with_made cd_with_made ct_with_made : Value}
    (a_with_made : PySem.W.nsIn K mainGlobals "with_made" = some (some (.ref f_with_made))) (l_with_made : K.lookup f_with_made = some ⟨oc_with_made, od_with_made, .func (PySem.W.fnOf "with_made" "with_made" (defArgs st_with_made) (defBody st_with_made) (defScope st_with_made) .none kV_with_made dc_with_made pm_with_made an_with_made cd_with_made ct_with_made), sl_with_made⟩) (c_with_made : PySem.W.codeIn K cd_with_made "with_made" = true) (k_with_made : PySem.W.keepIn K (.ref f_with_made) = true)
    {f_p_places_of : Addr} {od_p_places_of an_p_places_of : Option Addr} {sl_p_places_of : Array (Option Value)} {oc_p_places_of kV_p_places_of dc_p_places_of pm_p_places_of cd_p_places_of ct_p_places_of : Value}
    (a_p_places_of : PySem.W.nsIn K mainGlobals "_places_of" = some (some (.ref f_p_places_of))) (l_p_places_of : K.lookup f_p_places_of = some ⟨oc_p_places_of, od_p_places_of, .func (PySem.W.fnOf "_places_of" "_places_of" (defArgs st_p_places_of) (defBody st_p_places_of) (defScope st_p_places_of) .none kV_p_places_of dc_p_places_of pm_p_places_of an_p_places_of cd_p_places_of ct_p_places_of), sl_p_places_of⟩) (c_p_places_of : PySem.W.codeIn K cd_p_places_of "_places_of" = true) (k_p_places_of : PySem.W.keepIn K (.ref f_p_places_of) = true)
    {f_without : Addr} {od_without an_without : Option Addr} {sl_without : Array (Option Value)} {oc_without kV_without dc_without pm_without cd_without ct_without : Value}
    (a_without : PySem.W.nsIn K mainGlobals "without" = some (some (.ref f_without))) (l_without : K.lookup f_without = some ⟨oc_without, od_without, .func (PySem.W.fnOf "without" "without" (defArgs st_without) (defBody st_without) (defScope st_without) .none kV_without dc_without pm_without an_without cd_without ct_without), sl_without⟩) (c_without : PySem.W.codeIn K cd_without "without" = true) (k_without : PySem.W.keepIn K (.ref f_without) = true)
    {f_least_part : Addr} {od_least_part an_least_part : Option Addr} {sl_least_part : Array (Option Value)} {oc_least_part kV_least_part dc_least_part pm_least_part cd_least_part ct_least_part : Value}
    (a_least_part : PySem.W.nsIn K mainGlobals "least_part" = some (some (.ref f_least_part))) (l_least_part : K.lookup f_least_part = some ⟨oc_least_part, od_least_part, .func (PySem.W.fnOf "least_part" "least_part" (defArgs st_least_part) (defBody st_least_part) (defScope st_least_part) .none kV_least_part dc_least_part pm_least_part an_least_part cd_least_part ct_least_part), sl_least_part⟩) (c_least_part : PySem.W.codeIn K cd_least_part "least_part" = true) (k_least_part : PySem.W.keepIn K (.ref f_least_part) = true)
    {f_l_said : Addr} {od_l_said an_l_said : Option Addr} {sl_l_said : Array (Option Value)} {oc_l_said kV_l_said dc_l_said pm_l_said cd_l_said ct_l_said : Value}
    (a_l_said : PySem.W.nsIn K mainGlobals "_law_said" = some (some (.ref f_l_said))) (l_l_said : K.lookup f_l_said = some ⟨oc_l_said, od_l_said, .func (PySem.W.fnOf "_law_said" "_law_said" (defArgs st_l_said) (defBody st_l_said) (defScope st_l_said) .none kV_l_said dc_l_said pm_l_said an_l_said cd_l_said ct_l_said), sl_l_said⟩) (c_l_said : PySem.W.codeIn K cd_l_said "_law_said" = true) (k_l_said : PySem.W.keepIn K (.ref f_l_said) = true)
    {f_l_inserts : Addr} {od_l_inserts an_l_inserts : Option Addr} {sl_l_inserts : Array (Option Value)} {oc_l_inserts kV_l_inserts dc_l_inserts pm_l_inserts cd_l_inserts ct_l_inserts : Value}
    (a_l_inserts : PySem.W.nsIn K mainGlobals "_law_inserts" = some (some (.ref f_l_inserts))) (l_l_inserts : K.lookup f_l_inserts = some ⟨oc_l_inserts, od_l_inserts, .func (PySem.W.fnOf "_law_inserts" "_law_inserts" (defArgs st_l_inserts) (defBody st_l_inserts) (defScope st_l_inserts) .none kV_l_inserts dc_l_inserts pm_l_inserts an_l_inserts cd_l_inserts ct_l_inserts), sl_l_inserts⟩) (c_l_inserts : PySem.W.codeIn K cd_l_inserts "_law_inserts" = true) (k_l_inserts : PySem.W.keepIn K (.ref f_l_inserts) = true)
    {f_l_is_early : Addr} {od_l_is_early an_l_is_early : Option Addr} {sl_l_is_early : Array (Option Value)} {oc_l_is_early kV_l_is_early dc_l_is_early pm_l_is_early cd_l_is_early ct_l_is_early : Value}
    (a_l_is_early : PySem.W.nsIn K mainGlobals "_law_is_early" = some (some (.ref f_l_is_early))) (l_l_is_early : K.lookup f_l_is_early = some ⟨oc_l_is_early, od_l_is_early, .func (PySem.W.fnOf "_law_is_early" "_law_is_early" (defArgs st_l_is_early) (defBody st_l_is_early) (defScope st_l_is_early) .none kV_l_is_early dc_l_is_early pm_l_is_early an_l_is_early cd_l_is_early ct_l_is_early), sl_l_is_early⟩) (c_l_is_early : PySem.W.codeIn K cd_l_is_early "_law_is_early" = true) (k_l_is_early : PySem.W.keepIn K (.ref f_l_is_early) = true)
    {f_l_ways : Addr} {od_l_ways an_l_ways : Option Addr} {sl_l_ways : Array (Option Value)} {oc_l_ways kV_l_ways dc_l_ways pm_l_ways cd_l_ways ct_l_ways : Value}
    (a_l_ways : PySem.W.nsIn K mainGlobals "_law_ways" = some (some (.ref f_l_ways))) (l_l_ways : K.lookup f_l_ways = some ⟨oc_l_ways, od_l_ways, .func (PySem.W.fnOf "_law_ways" "_law_ways" (defArgs st_l_ways) (defBody st_l_ways) (defScope st_l_ways) .none kV_l_ways dc_l_ways pm_l_ways an_l_ways cd_l_ways ct_l_ways), sl_l_ways⟩) (c_l_ways : PySem.W.codeIn K cd_l_ways "_law_ways" = true) (k_l_ways : PySem.W.keepIn K (.ref f_l_ways) = true)
    {f_l_is_least : Addr} {od_l_is_least an_l_is_least : Option Addr} {sl_l_is_least : Array (Option Value)} {oc_l_is_least kV_l_is_least dc_l_is_least pm_l_is_least cd_l_is_least ct_l_is_least : Value}
    (a_l_is_least : PySem.W.nsIn K mainGlobals "_law_is_least" = some (some (.ref f_l_is_least))) (l_l_is_least : K.lookup f_l_is_least = some ⟨oc_l_is_least, od_l_is_least, .func (PySem.W.fnOf "_law_is_least" "_law_is_least" (defArgs st_l_is_least) (defBody st_l_is_least) (defScope st_l_is_least) .none kV_l_is_least dc_l_is_least pm_l_is_least an_l_is_least cd_l_is_least ct_l_is_least), sl_l_is_least⟩) (c_l_is_least : PySem.W.codeIn K cd_l_is_least "_law_is_least" = true) (k_l_is_least : PySem.W.keepIn K (.ref f_l_is_least) = true)
    {f_l_is_had : Addr} {od_l_is_had an_l_is_had : Option Addr} {sl_l_is_had : Array (Option Value)} {oc_l_is_had kV_l_is_had dc_l_is_had pm_l_is_had cd_l_is_had ct_l_is_had : Value}
    (a_l_is_had : PySem.W.nsIn K mainGlobals "_law_is_had" = some (some (.ref f_l_is_had))) (l_l_is_had : K.lookup f_l_is_had = some ⟨oc_l_is_had, od_l_is_had, .func (PySem.W.fnOf "_law_is_had" "_law_is_had" (defArgs st_l_is_had) (defBody st_l_is_had) (defScope st_l_is_had) .none kV_l_is_had dc_l_is_had pm_l_is_had an_l_is_had cd_l_is_had ct_l_is_had), sl_l_is_had⟩) (c_l_is_had : PySem.W.codeIn K cd_l_is_had "_law_is_had" = true) (k_l_is_had : PySem.W.keepIn K (.ref f_l_is_had) = true)
    {f_l_has : Addr} {od_l_has an_l_has : Option Addr} {sl_l_has : Array (Option Value)} {oc_l_has kV_l_has dc_l_has pm_l_has cd_l_has ct_l_has : Value}
    (a_l_has : PySem.W.nsIn K mainGlobals "_law_has" = some (some (.ref f_l_has))) (l_l_has : K.lookup f_l_has = some ⟨oc_l_has, od_l_has, .func (PySem.W.fnOf "_law_has" "_law_has" (defArgs st_l_has) (defBody st_l_has) (defScope st_l_has) .none kV_l_has dc_l_has pm_l_has an_l_has cd_l_has ct_l_has), sl_l_has⟩) (c_l_has : PySem.W.codeIn K cd_l_has "_law_has" = true) (k_l_has : PySem.W.keepIn K (.ref f_l_has) = true)
    {f_l_chosen : Addr} {od_l_chosen an_l_chosen : Option Addr} {sl_l_chosen : Array (Option Value)} {oc_l_chosen kV_l_chosen dc_l_chosen pm_l_chosen cd_l_chosen ct_l_chosen : Value}
    (a_l_chosen : PySem.W.nsIn K mainGlobals "_law_chosen" = some (some (.ref f_l_chosen))) (l_l_chosen : K.lookup f_l_chosen = some ⟨oc_l_chosen, od_l_chosen, .func (PySem.W.fnOf "_law_chosen" "_law_chosen" (defArgs st_l_chosen) (defBody st_l_chosen) (defScope st_l_chosen) .none kV_l_chosen dc_l_chosen pm_l_chosen an_l_chosen cd_l_chosen ct_l_chosen), sl_l_chosen⟩) (c_l_chosen : PySem.W.codeIn K cd_l_chosen "_law_chosen" = true) (k_l_chosen : PySem.W.keepIn K (.ref f_l_chosen) = true)
    {f_l_is_part : Addr} {od_l_is_part an_l_is_part : Option Addr} {sl_l_is_part : Array (Option Value)} {oc_l_is_part kV_l_is_part dc_l_is_part pm_l_is_part cd_l_is_part ct_l_is_part : Value}
    (a_l_is_part : PySem.W.nsIn K mainGlobals "_law_is_part" = some (some (.ref f_l_is_part))) (l_l_is_part : K.lookup f_l_is_part = some ⟨oc_l_is_part, od_l_is_part, .func (PySem.W.fnOf "_law_is_part" "_law_is_part" (defArgs st_l_is_part) (defBody st_l_is_part) (defScope st_l_is_part) .none kV_l_is_part dc_l_is_part pm_l_is_part an_l_is_part cd_l_is_part ct_l_is_part), sl_l_is_part⟩) (c_l_is_part : PySem.W.codeIn K cd_l_is_part "_law_is_part" = true) (k_l_is_part : PySem.W.keepIn K (.ref f_l_is_part) = true)
    {f_needless : Addr} {od_needless an_needless : Option Addr} {sl_needless : Array (Option Value)} {oc_needless kV_needless dc_needless pm_needless cd_needless ct_needless : Value}
    (a_needless : PySem.W.nsIn K mainGlobals "needless" = some (some (.ref f_needless))) (l_needless : K.lookup f_needless = some ⟨oc_needless, od_needless, .func (PySem.W.fnOf "needless" "needless" (defArgs st_needless) (defBody st_needless) (defScope st_needless) .none kV_needless dc_needless pm_needless an_needless cd_needless ct_needless), sl_needless⟩) (c_needless : PySem.W.codeIn K cd_needless "needless" = true) (k_needless : PySem.W.keepIn K (.ref f_needless) = true)
    {f_is_least : Addr} {od_is_least an_is_least : Option Addr} {sl_is_least : Array (Option Value)} {oc_is_least kV_is_least dc_is_least pm_is_least cd_is_least ct_is_least : Value}
    (a_is_least : PySem.W.nsIn K mainGlobals "is_least" = some (some (.ref f_is_least))) (l_is_least : K.lookup f_is_least = some ⟨oc_is_least, od_is_least, .func (PySem.W.fnOf "is_least" "is_least" (defArgs st_is_least) (defBody st_is_least) (defScope st_is_least) .none kV_is_least dc_is_least pm_is_least an_is_least cd_is_least ct_is_least), sl_is_least⟩) (c_is_least : PySem.W.codeIn K cd_is_least "is_least" = true) (k_is_least : PySem.W.keepIn K (.ref f_is_least) = true)
    {f_law : Addr} {od_law an_law : Option Addr} {sl_law : Array (Option Value)} {oc_law kV_law dc_law pm_law cd_law ct_law : Value}
    (a_law : PySem.W.nsIn K mainGlobals "law" = some (some (.ref f_law))) (l_law : K.lookup f_law = some ⟨oc_law, od_law, .func (PySem.W.fnOf "law" "law" (defArgs st_law) (defBody st_law) (defScope st_law) .none kV_law dc_law pm_law an_law cd_law ct_law), sl_law⟩) (c_law : PySem.W.codeIn K cd_law "law" = true) (k_law : PySem.W.keepIn K (.ref f_law) = true)
    {q_PARTS n_PARTS : Nat} {es_PARTS : Array DictEntry} {t_PARTS_0 : Tok} {t_PARTS_1 : Tok} {t_PARTS_2 : Tok} {t_PARTS_3 : Tok}
    (e_PARTS : PySem.W.nsIn K mainGlobals "PARTS" = some (some (.ref q_PARTS)))
    (d_PARTS : K.lookup q_PARTS = some ⟨.type "dict", none, .dict es_PARTS n_PARTS, #[]⟩)
    (g_PARTS_0 : PySem.W.nsIn K q_PARTS "write" = some (some (.int 0 t_PARTS_0)))
    (g_PARTS_1 : PySem.W.nsIn K q_PARTS "read" = some (some (.int 1 t_PARTS_1)))
    (g_PARTS_2 : PySem.W.nsIn K q_PARTS "make" = some (some (.int 2 t_PARTS_2)))
    (g_PARTS_3 : PySem.W.nsIn K q_PARTS "last" = some (some (.int 3 t_PARTS_3)))
    (l_PARTS : PySem.W.KeysLit w.params es_PARTS.toList)
    {C_GuardError : Addr} (e_GuardError : PySem.W.nsIn K mainGlobals "GuardError" = some (some (.ref C_GuardError)))
    {C_Unfit : Addr} (e_Unfit : PySem.W.nsIn K mainGlobals "Unfit" = some (some (.ref C_Unfit)))
    (xk_Unfit : PySem.W.keepIn K (.ref C_Unfit) = true) (xx_Unfit : PySem.W.excIn K C_Unfit [.type "ValueError", .type "Exception", .type "BaseException", .type "object"] "ValueError.__new__" = true) (xb_Unfit : PySem.W.subIn K (.ref C_Unfit) (.type "BaseException") = some true) (xt_Unfit : PySem.W.typeIn K (.ref C_Unfit) = some (.type "type")) (xi_Unfit : PySem.W.isClsIn K C_Unfit = true) (xs_Unfit : PySem.W.subIn K (.ref C_Unfit) (.ref C_Unfit) = some true)
    (ia_Unfit_GuardError : PySem.W.findIn K (.ref C_Unfit) "__getattribute__" = some (some (.builtin "BaseException.__getattribute__"))) (ib_Unfit_GuardError : PySem.W.findIn K (.ref C_Unfit) "__getattr__" = some none) (ic_Unfit_GuardError : PySem.W.findIn K (.ref C_Unfit) "__class__" = some (some (.builtin "object.__class__"))) (id_Unfit_GuardError : PySem.W.specialIn K (.builtin "object.__class__") "__get__" = some (some (.builtin "getset_descriptor.__get__"))) (ie_Unfit_GuardError : PySem.W.takesIn K (.builtin "object.__class__") = some true) (if_Unfit_GuardError : PySem.W.mroIn K C_Unfit (.type "object") = some true) (ig_Unfit_GuardError : PySem.W.kitOne K (.ref C_Unfit) (.ref C_GuardError) = some true)
    (z_bool : PySem.W.nsIn K mainGlobals "bool" = some none)
    (z_int : PySem.W.nsIn K mainGlobals "int" = some none)
    (z_isinstance : PySem.W.nsIn K mainGlobals "isinstance" = some none)
    (z_len : PySem.W.nsIn K mainGlobals "len" = some none)
    (z_range : PySem.W.nsIn K mainGlobals "range" = some none)
    (z_repr : PySem.W.nsIn K mainGlobals "repr" = some none)
    (z_sum : PySem.W.nsIn K mainGlobals "sum" = some none)
    (z_tuple : PySem.W.nsIn K mainGlobals "tuple" = some none) :
    ∃ fd : FuncData, (∀ (s : Shared) (v : Value), BindsTo s fd ⟨[v], []⟩ [("script", v)]) ∧ ∀ base : Heap, K.In base → base.Ns mainGlobals mg → (∃ o, base.get? sysModules = some o) → FnG P w K mg base CX0 11 fa fd ["script"] (spD K (Jr P w K) 1 F_law) := by
  have e := hfa.symm.trans (PySem.W.mg_of X G a_law)
  cases e
  have F_l_stock := fun_mk (st := st_l_stock) l_l_stock c_l_stock k_l_stock
  have B_l_stock := F_l_stock.binds (ps := ["script"]) fun _ _ _ _ _ _ us hl => match us, hl with | [_], _ => rfl
  have F_l_draw := fun_mk (st := st_l_draw) l_l_draw c_l_draw k_l_draw
  have B_l_draw := F_l_draw.binds (ps := ["stock", "size"]) fun _ _ _ _ _ _ us hl => match us, hl with | [_, _], _ => rfl
  have F_l_pick := fun_mk (st := st_l_pick) l_l_pick c_l_pick k_l_pick
  have B_l_pick := F_l_pick.binds (ps := ["stock", "row"]) fun _ _ _ _ _ _ us hl => match us, hl with | [_, _], _ => rfl
  have F_l_wanted := fun_mk (st := st_l_wanted) l_l_wanted c_l_wanted k_l_wanted
  have B_l_wanted := F_l_wanted.binds (ps := ["stock", "way", "pieces", "hands"]) fun _ _ _ _ _ _ us hl => match us, hl with | [_, _, _, _], _ => rfl
  have F_l_all_entries := fun_mk (st := st_l_all_entries) l_l_all_entries c_l_all_entries k_l_all_entries
  have B_l_all_entries := F_l_all_entries.binds (ps := []) fun _ _ _ _ _ _ us hl => match us, hl with | [], _ => rfl
  have F_l_some := fun_mk (st := st_l_some) l_l_some c_l_some k_l_some
  have B_l_some := F_l_some.binds (ps := ["stock", "pieces", "hands"]) fun _ _ _ _ _ _ us hl => match us, hl with | [_, _, _], _ => rfl
  have F_l_guard := fun_mk (st := st_l_guard) l_l_guard c_l_guard k_l_guard
  have B_l_guard := F_l_guard.binds (ps := ["some", "phase", "colour"]) fun _ _ _ _ _ _ us hl => match us, hl with | [_, _, _], _ => rfl
  have F_l_book := fun_mk (st := st_l_book) l_l_book c_l_book k_l_book
  have B_l_book := F_l_book.binds (ps := ["some", "paint", "pieces"]) fun _ _ _ _ _ _ us hl => match us, hl with | [_, _, _], _ => rfl
  have F_l_paint := fun_mk (st := st_l_paint) l_l_paint c_l_paint k_l_paint
  have B_l_paint := F_l_paint.binds (ps := ["stock"]) fun _ _ _ _ _ _ us hl => match us, hl with | [_], _ => rfl
  have F_entries := fun_mk (st := st_entries) l_entries c_entries k_entries
  have B_entries := F_entries.binds (ps := ["book"]) fun _ _ _ _ _ _ us hl => match us, hl with | [_], _ => rfl
  have F_p_heeds_new := fun_mk (st := st_p_heeds_new) l_p_heeds_new c_p_heeds_new k_p_heeds_new
  have B_p_heeds_new := F_p_heeds_new.binds (ps := ["guard"]) fun _ _ _ _ _ _ us hl => match us, hl with | [_], _ => rfl
  have F_inserts := fun_mk (st := st_inserts) l_inserts c_inserts k_inserts
  have B_inserts := F_inserts.binds (ps := ["book", "phase"]) fun _ _ _ _ _ _ us hl => match us, hl with | [_, _], _ => rfl
  have F_starts_early := fun_mk (st := st_starts_early) l_starts_early c_starts_early k_starts_early
  have B_starts_early := F_starts_early.binds (ps := ["book"]) fun _ _ _ _ _ _ us hl => match us, hl with | [_], _ => rfl
  have F_is_closed := fun_mk (st := st_is_closed) l_is_closed c_is_closed k_is_closed
  have B_is_closed := F_is_closed.binds (ps := ["book", "hands"]) fun _ _ _ _ _ _ us hl => match us, hl with | [_, _], _ => rfl
  have F_p_heeds_old := fun_mk (st := st_p_heeds_old) l_p_heeds_old c_p_heeds_old k_p_heeds_old
  have B_p_heeds_old := F_p_heeds_old.binds (ps := ["book", "colour", "hands"]) fun _ _ _ _ _ _ us hl => match us, hl with | [_, _, _], _ => rfl
  have F_ways := fun_mk (st := st_ways) l_ways c_ways k_ways
  have B_ways := F_ways.binds (ps := ["book", "hands"]) fun _ _ _ _ _ _ us hl => match us, hl with | [_, _], _ => rfl
  have F_is_safe := fun_mk (st := st_is_safe) l_is_safe c_is_safe k_is_safe
  have B_is_safe := F_is_safe.binds (ps := ["book", "hands"]) fun _ _ _ _ _ _ us hl => match us, hl with | [_, _], _ => rfl
  have F_replaced := fun_mk (st := st_replaced) l_replaced c_replaced k_replaced
  have B_replaced := F_replaced.binds (ps := ["row", "places", "item"]) fun _ _ _ _ _ _ us hl => match us, hl with | [_, _, _], _ => rfl
  have F_p_item_at := fun_mk (st := st_p_item_at) l_p_item_at c_p_item_at k_p_item_at
  have B_p_item_at := F_p_item_at.binds (ps := ["row", "places"]) fun _ _ _ _ _ _ us hl => match us, hl with | [_, _], _ => rfl
  have F_with_made := fun_mk (st := st_with_made) l_with_made c_with_made k_with_made
  have B_with_made := F_with_made.binds (ps := ["book", "phase", "colour"]) fun _ _ _ _ _ _ us hl => match us, hl with | [_, _, _], _ => rfl
  have F_p_places_of := fun_mk (st := st_p_places_of) l_p_places_of c_p_places_of k_p_places_of
  have B_p_places_of := F_p_places_of.binds (ps := ["entry"]) fun _ _ _ _ _ _ us hl => match us, hl with | [_], _ => rfl
  have F_without := fun_mk (st := st_without) l_without c_without k_without
  have B_without := F_without.binds (ps := ["book", "entry"]) fun _ _ _ _ _ _ us hl => match us, hl with | [_, _], _ => rfl
  have F_least_part := fun_mk (st := st_least_part) l_least_part c_least_part k_least_part
  have B_least_part := F_least_part.binds (ps := ["book", "hands"]) fun _ _ _ _ _ _ us hl => match us, hl with | [_, _], _ => rfl
  have F_l_said := fun_mk (st := st_l_said) l_l_said c_l_said k_l_said
  have B_l_said := F_l_said.binds (ps := ["book", "hands", "is_named"]) fun _ _ _ _ _ _ us hl => match us, hl with | [_, _, _], _ => rfl
  have F_l_inserts := fun_mk (st := st_l_inserts) l_l_inserts c_l_inserts k_l_inserts
  have B_l_inserts := F_l_inserts.binds (ps := ["some", "phase", "pieces"]) fun _ _ _ _ _ _ us hl => match us, hl with | [_, _, _], _ => rfl
  have F_l_is_early := fun_mk (st := st_l_is_early) l_l_is_early c_l_is_early k_l_is_early
  have B_l_is_early := F_l_is_early.binds (ps := ["some"]) fun _ _ _ _ _ _ us hl => match us, hl with | [_], _ => rfl
  have F_l_ways := fun_mk (st := st_l_ways) l_l_ways c_l_ways k_l_ways
  have B_l_ways := F_l_ways.binds (ps := ["some", "pieces", "hands"]) fun _ _ _ _ _ _ us hl => match us, hl with | [_, _, _], _ => rfl
  have F_l_is_least := fun_mk (st := st_l_is_least) l_l_is_least c_l_is_least k_l_is_least
  have B_l_is_least := F_l_is_least.binds (ps := ["some", "pieces", "hands"]) fun _ _ _ _ _ _ us hl => match us, hl with | [_, _, _], _ => rfl
  have F_l_is_had := fun_mk (st := st_l_is_had) l_l_is_had c_l_is_had k_l_is_had
  have B_l_is_had := F_l_is_had.binds (ps := ["book", "entry"]) fun _ _ _ _ _ _ us hl => match us, hl with | [_, _], _ => rfl
  have F_l_has := fun_mk (st := st_l_has) l_l_has c_l_has k_l_has
  have B_l_has := F_l_has.binds (ps := ["book"]) fun _ _ _ _ _ _ us hl => match us, hl with | [_], _ => rfl
  have F_l_chosen := fun_mk (st := st_l_chosen) l_l_chosen c_l_chosen k_l_chosen
  have B_l_chosen := F_l_chosen.binds (ps := ["book", "told"]) fun _ _ _ _ _ _ us hl => match us, hl with | [_, _], _ => rfl
  have F_l_is_part := fun_mk (st := st_l_is_part) l_l_is_part c_l_is_part k_l_is_part
  have B_l_is_part := F_l_is_part.binds (ps := ["book", "hands", "told"]) fun _ _ _ _ _ _ us hl => match us, hl with | [_, _, _], _ => rfl
  have F_needless := fun_mk (st := st_needless) l_needless c_needless k_needless
  have B_needless := F_needless.binds (ps := ["book", "hands"]) fun _ _ _ _ _ _ us hl => match us, hl with | [_, _], _ => rfl
  have F_is_least := fun_mk (st := st_is_least) l_is_least c_is_least k_is_least
  have B_is_least := F_is_least.binds (ps := ["book", "hands"]) fun _ _ _ _ _ _ us hl => match us, hl with | [_, _], _ => rfl
  have F_law := fun_mk (st := st_law) l_law c_law k_law
  have B_law := F_law.binds (ps := ["script"]) fun _ _ _ _ _ _ us hl => match us, hl with | [_], _ => rfl
  refine ⟨_, fun s v => .of_eq rfl, fun base _ _ hs => ok_law (T := { a_l_stock := f_l_stock, d_l_stock := _, F_l_stock := F_l_stock, m_l_stock := PySem.W.mg_of X G a_l_stock, B_l_stock := B_l_stock, a_l_draw := f_l_draw, d_l_draw := _, F_l_draw := F_l_draw, m_l_draw := PySem.W.mg_of X G a_l_draw, B_l_draw := B_l_draw, a_l_pick := f_l_pick, d_l_pick := _, F_l_pick := F_l_pick, m_l_pick := PySem.W.mg_of X G a_l_pick, B_l_pick := B_l_pick, a_l_wanted := f_l_wanted, d_l_wanted := _, F_l_wanted := F_l_wanted, m_l_wanted := PySem.W.mg_of X G a_l_wanted, B_l_wanted := B_l_wanted, a_l_all_entries := f_l_all_entries, d_l_all_entries := _, F_l_all_entries := F_l_all_entries, m_l_all_entries := PySem.W.mg_of X G a_l_all_entries, B_l_all_entries := B_l_all_entries, a_l_some := f_l_some, d_l_some := _, F_l_some := F_l_some, m_l_some := PySem.W.mg_of X G a_l_some, B_l_some := B_l_some, a_l_guard := f_l_guard, d_l_guard := _, F_l_guard := F_l_guard, m_l_guard := PySem.W.mg_of X G a_l_guard, B_l_guard := B_l_guard, a_l_book := f_l_book, d_l_book := _, F_l_book := F_l_book, m_l_book := PySem.W.mg_of X G a_l_book, B_l_book := B_l_book, a_l_paint := f_l_paint, d_l_paint := _, F_l_paint := F_l_paint, m_l_paint := PySem.W.mg_of X G a_l_paint, B_l_paint := B_l_paint, a_entries := f_entries, d_entries := _, F_entries := F_entries, m_entries := PySem.W.mg_of X G a_entries, B_entries := B_entries, a_p_heeds_new := f_p_heeds_new, d_p_heeds_new := _, F_p_heeds_new := F_p_heeds_new, m_p_heeds_new := PySem.W.mg_of X G a_p_heeds_new, B_p_heeds_new := B_p_heeds_new, a_inserts := f_inserts, d_inserts := _, F_inserts := F_inserts, m_inserts := PySem.W.mg_of X G a_inserts, B_inserts := B_inserts, a_starts_early := f_starts_early, d_starts_early := _, F_starts_early := F_starts_early, m_starts_early := PySem.W.mg_of X G a_starts_early, B_starts_early := B_starts_early, a_is_closed := f_is_closed, d_is_closed := _, F_is_closed := F_is_closed, m_is_closed := PySem.W.mg_of X G a_is_closed, B_is_closed := B_is_closed, a_p_heeds_old := f_p_heeds_old, d_p_heeds_old := _, F_p_heeds_old := F_p_heeds_old, m_p_heeds_old := PySem.W.mg_of X G a_p_heeds_old, B_p_heeds_old := B_p_heeds_old, a_ways := f_ways, d_ways := _, F_ways := F_ways, m_ways := PySem.W.mg_of X G a_ways, B_ways := B_ways, a_is_safe := f_is_safe, d_is_safe := _, F_is_safe := F_is_safe, m_is_safe := PySem.W.mg_of X G a_is_safe, B_is_safe := B_is_safe, a_replaced := f_replaced, d_replaced := _, F_replaced := F_replaced, m_replaced := PySem.W.mg_of X G a_replaced, B_replaced := B_replaced, a_p_item_at := f_p_item_at, d_p_item_at := _, F_p_item_at := F_p_item_at, m_p_item_at := PySem.W.mg_of X G a_p_item_at, B_p_item_at := B_p_item_at, a_with_made := f_with_made, d_with_made := _, F_with_made := F_with_made, m_with_made := PySem.W.mg_of X G a_with_made, B_with_made := B_with_made, a_p_places_of := f_p_places_of, d_p_places_of := _, F_p_places_of := F_p_places_of, m_p_places_of := PySem.W.mg_of X G a_p_places_of, B_p_places_of := B_p_places_of, a_without := f_without, d_without := _, F_without := F_without, m_without := PySem.W.mg_of X G a_without, B_without := B_without, a_least_part := f_least_part, d_least_part := _, F_least_part := F_least_part, m_least_part := PySem.W.mg_of X G a_least_part, B_least_part := B_least_part, a_l_said := f_l_said, d_l_said := _, F_l_said := F_l_said, m_l_said := PySem.W.mg_of X G a_l_said, B_l_said := B_l_said, a_l_inserts := f_l_inserts, d_l_inserts := _, F_l_inserts := F_l_inserts, m_l_inserts := PySem.W.mg_of X G a_l_inserts, B_l_inserts := B_l_inserts, a_l_is_early := f_l_is_early, d_l_is_early := _, F_l_is_early := F_l_is_early, m_l_is_early := PySem.W.mg_of X G a_l_is_early, B_l_is_early := B_l_is_early, a_l_ways := f_l_ways, d_l_ways := _, F_l_ways := F_l_ways, m_l_ways := PySem.W.mg_of X G a_l_ways, B_l_ways := B_l_ways, a_l_is_least := f_l_is_least, d_l_is_least := _, F_l_is_least := F_l_is_least, m_l_is_least := PySem.W.mg_of X G a_l_is_least, B_l_is_least := B_l_is_least, a_l_is_had := f_l_is_had, d_l_is_had := _, F_l_is_had := F_l_is_had, m_l_is_had := PySem.W.mg_of X G a_l_is_had, B_l_is_had := B_l_is_had, a_l_has := f_l_has, d_l_has := _, F_l_has := F_l_has, m_l_has := PySem.W.mg_of X G a_l_has, B_l_has := B_l_has, a_l_chosen := f_l_chosen, d_l_chosen := _, F_l_chosen := F_l_chosen, m_l_chosen := PySem.W.mg_of X G a_l_chosen, B_l_chosen := B_l_chosen, a_l_is_part := f_l_is_part, d_l_is_part := _, F_l_is_part := F_l_is_part, m_l_is_part := PySem.W.mg_of X G a_l_is_part, B_l_is_part := B_l_is_part, a_needless := f_needless, d_needless := _, F_needless := F_needless, m_needless := PySem.W.mg_of X G a_needless, B_needless := B_needless, a_is_least := f_is_least, d_is_least := _, F_is_least := F_is_least, m_is_least := PySem.W.mg_of X G a_is_least, B_is_least := B_is_least, a_law := fa, d_law := _, F_law := F_law, m_law := PySem.W.mg_of X G a_law, B_law := B_law, P_least_part_1_0 := perm_mk (fun s us hl => match us, hl with | [], hl => nomatch hl | v0 :: [], hl => nomatch hl | v0 :: v1 :: _, _ => .of_eq rfl), q_PARTS := q_PARTS, m_PARTS := PySem.W.mg_of X G e_PARTS, x_PARTS := (dctOk_cons ⟨_, _, _, d_PARTS, l_PARTS, g_PARTS_0, ⟨_, rfl⟩⟩ (dctOk_cons ⟨_, _, _, d_PARTS, l_PARTS, g_PARTS_1, ⟨_, rfl⟩⟩ (dctOk_cons ⟨_, _, _, d_PARTS, l_PARTS, g_PARTS_2, ⟨_, rfl⟩⟩ (dctOk_cons ⟨_, _, _, d_PARTS, l_PARTS, g_PARTS_3, ⟨_, rfl⟩⟩ dctOk_nil)))), a_GuardError := C_GuardError, m_GuardError := PySem.W.mg_of X G e_GuardError, a_Unfit := C_Unfit, m_Unfit := PySem.W.mg_of X G e_Unfit, x_Unfit := exC_mk (PySem.W.mg_of X G e_Unfit) xk_Unfit xx_Unfit xb_Unfit xt_Unfit xi_Unfit xs_Unfit, i_Unfit_GuardError := ⟨xi_Unfit, ia_Unfit_GuardError, ⟨_, ib_Unfit_GuardError⟩, ic_Unfit_GuardError, id_Unfit_GuardError, ie_Unfit_GuardError, if_Unfit_GuardError, xb_Unfit, ig_Unfit_GuardError⟩, b_bool := PySem.W.mg_none_of X G z_bool, b_int := PySem.W.mg_none_of X G z_int, b_isinstance := PySem.W.mg_none_of X G z_isinstance, b_len := PySem.W.mg_none_of X G z_len, b_range := PySem.W.mg_none_of X G z_range, b_repr := PySem.W.mg_none_of X G z_repr, b_sum := PySem.W.mg_none_of X G z_sum, b_tuple := PySem.W.mg_none_of X G z_tuple }) hs⟩
end GK
open PySem PySem.W PyProof.Rows
set_option maxHeartbeats 0 in
theorem PySem.Challenge.cw_guardbooks_k46_whole_least_parts_holds : PySem.Challenge.rw_guardbooks_k46_whole_least_parts.Holds := by
  w_on; o_law; k_head; (case hw => w_witness2)
  k_fill
  refine GB.end_of (l := PySem.Challenge.rw_guardbooks_k46_whole_least_parts) (n := 63) (k := 11) (x := "script") (J := fun w => GK.Jr PySem.Challenge.pw_guardbooks_k46_whole_least_parts w _) (F := GK.F_law) rfl (by decide) rfl ⟨rfl, by decide, by decide⟩ (by decide +kernel) (fun w h Y => PySem.W.kIn_of Y) ?F (fun _ _ _ _ h => h) GK.go_law
  case F =>
    intro w mg fa h KX G hmg
    refine' GK.all_mk KX G hmg ?a_l_stock ?l_l_stock ?c_l_stock ?k_l_stock ?a_l_draw ?l_l_draw ?c_l_draw ?k_l_draw ?a_l_pick ?l_l_pick ?c_l_pick ?k_l_pick ?a_l_wanted ?l_l_wanted ?c_l_wanted ?k_l_wanted ?a_l_all_entries ?l_l_all_entries ?c_l_all_entries ?k_l_all_entries ?a_l_some ?l_l_some ?c_l_some ?k_l_some ?a_l_guard ?l_l_guard ?c_l_guard ?k_l_guard ?a_l_book ?l_l_book ?c_l_book ?k_l_book ?a_l_paint ?l_l_paint ?c_l_paint ?k_l_paint ?a_entries ?l_entries ?c_entries ?k_entries ?a_p_heeds_new ?l_p_heeds_new ?c_p_heeds_new ?k_p_heeds_new ?a_inserts ?l_inserts ?c_inserts ?k_inserts ?a_starts_early ?l_starts_early ?c_starts_early ?k_starts_early ?a_is_closed ?l_is_closed ?c_is_closed ?k_is_closed ?a_p_heeds_old ?l_p_heeds_old ?c_p_heeds_old ?k_p_heeds_old ?a_ways ?l_ways ?c_ways ?k_ways ?a_is_safe ?l_is_safe ?c_is_safe ?k_is_safe ?a_replaced ?l_replaced ?c_replaced ?k_replaced ?a_p_item_at ?l_p_item_at ?c_p_item_at ?k_p_item_at ?a_with_made ?l_with_made ?c_with_made ?k_with_made ?a_p_places_of ?l_p_places_of ?c_p_places_of ?k_p_places_of ?a_without ?l_without ?c_without ?k_without ?a_least_part ?l_least_part ?c_least_part ?k_least_part ?a_l_said ?l_l_said ?c_l_said ?k_l_said ?a_l_inserts ?l_l_inserts ?c_l_inserts ?k_l_inserts ?a_l_is_early ?l_l_is_early ?c_l_is_early ?k_l_is_early ?a_l_ways ?l_l_ways ?c_l_ways ?k_l_ways ?a_l_is_least ?l_l_is_least ?c_l_is_least ?k_l_is_least ?a_l_is_had ?l_l_is_had ?c_l_is_had ?k_l_is_had ?a_l_has ?l_l_has ?c_l_has ?k_l_has ?a_l_chosen ?l_l_chosen ?c_l_chosen ?k_l_chosen ?a_l_is_part ?l_l_is_part ?c_l_is_part ?k_l_is_part ?a_needless ?l_needless ?c_needless ?k_needless ?a_is_least ?l_is_least ?c_is_least ?k_is_least ?a_law ?l_law ?c_law ?k_law ?e_PARTS ?d_PARTS ?g_PARTS_0 ?g_PARTS_1 ?g_PARTS_2 ?g_PARTS_3 ?lit_PARTS ?e_GuardError ?e_Unfit ?xk_Unfit ?xx_Unfit ?xb_Unfit ?xt_Unfit ?xi_Unfit ?xs_Unfit ?ia_Unfit_GuardError ?ib_Unfit_GuardError ?ic_Unfit_GuardError ?id_Unfit_GuardError ?ie_Unfit_GuardError ?if_Unfit_GuardError ?ig_Unfit_GuardError ?z_bool ?z_int ?z_isinstance ?z_len ?z_range ?z_repr ?z_sum ?z_tuple
    (case a_l_stock => k_is); (case l_l_stock => k_is); (case c_l_stock => k_is); (case k_l_stock => k_is); (case a_l_draw => k_is); (case l_l_draw => k_is); (case c_l_draw => k_is); (case k_l_draw => k_is); (case a_l_pick => k_is); (case l_l_pick => k_is); (case c_l_pick => k_is); (case k_l_pick => k_is); (case a_l_wanted => k_is); (case l_l_wanted => k_is); (case c_l_wanted => k_is); (case k_l_wanted => k_is); (case a_l_all_entries => k_is); (case l_l_all_entries => k_is); (case c_l_all_entries => k_is); (case k_l_all_entries => k_is); (case a_l_some => k_is); (case l_l_some => k_is); (case c_l_some => k_is); (case k_l_some => k_is); (case a_l_guard => k_is); (case l_l_guard => k_is); (case c_l_guard => k_is); (case k_l_guard => k_is); (case a_l_book => k_is); (case l_l_book => k_is); (case c_l_book => k_is); (case k_l_book => k_is); (case a_l_paint => k_is); (case l_l_paint => k_is); (case c_l_paint => k_is); (case k_l_paint => k_is); (case a_entries => k_is); (case l_entries => k_is); (case c_entries => k_is); (case k_entries => k_is); (case a_p_heeds_new => k_is); (case l_p_heeds_new => k_is); (case c_p_heeds_new => k_is); (case k_p_heeds_new => k_is); (case a_inserts => k_is); (case l_inserts => k_is); (case c_inserts => k_is); (case k_inserts => k_is); (case a_starts_early => k_is); (case l_starts_early => k_is); (case c_starts_early => k_is); (case k_starts_early => k_is); (case a_is_closed => k_is); (case l_is_closed => k_is); (case c_is_closed => k_is); (case k_is_closed => k_is); (case a_p_heeds_old => k_is); (case l_p_heeds_old => k_is); (case c_p_heeds_old => k_is); (case k_p_heeds_old => k_is); (case a_ways => k_is); (case l_ways => k_is); (case c_ways => k_is); (case k_ways => k_is); (case a_is_safe => k_is); (case l_is_safe => k_is); (case c_is_safe => k_is); (case k_is_safe => k_is); (case a_replaced => k_is); (case l_replaced => k_is); (case c_replaced => k_is); (case k_replaced => k_is); (case a_p_item_at => k_is); (case l_p_item_at => k_is); (case c_p_item_at => k_is); (case k_p_item_at => k_is); (case a_with_made => k_is); (case l_with_made => k_is); (case c_with_made => k_is); (case k_with_made => k_is); (case a_p_places_of => k_is); (case l_p_places_of => k_is); (case c_p_places_of => k_is); (case k_p_places_of => k_is); (case a_without => k_is); (case l_without => k_is); (case c_without => k_is); (case k_without => k_is); (case a_least_part => k_is); (case l_least_part => k_is); (case c_least_part => k_is); (case k_least_part => k_is); (case a_l_said => k_is); (case l_l_said => k_is); (case c_l_said => k_is); (case k_l_said => k_is); (case a_l_inserts => k_is); (case l_l_inserts => k_is); (case c_l_inserts => k_is); (case k_l_inserts => k_is); (case a_l_is_early => k_is); (case l_l_is_early => k_is); (case c_l_is_early => k_is); (case k_l_is_early => k_is); (case a_l_ways => k_is); (case l_l_ways => k_is); (case c_l_ways => k_is); (case k_l_ways => k_is); (case a_l_is_least => k_is); (case l_l_is_least => k_is); (case c_l_is_least => k_is); (case k_l_is_least => k_is); (case a_l_is_had => k_is); (case l_l_is_had => k_is); (case c_l_is_had => k_is); (case k_l_is_had => k_is); (case a_l_has => k_is); (case l_l_has => k_is); (case c_l_has => k_is); (case k_l_has => k_is); (case a_l_chosen => k_is); (case l_l_chosen => k_is); (case c_l_chosen => k_is); (case k_l_chosen => k_is); (case a_l_is_part => k_is); (case l_l_is_part => k_is); (case c_l_is_part => k_is); (case k_l_is_part => k_is); (case a_needless => k_is); (case l_needless => k_is); (case c_needless => k_is); (case k_needless => k_is); (case a_is_least => k_is); (case l_is_least => k_is); (case c_is_least => k_is); (case k_is_least => k_is); (case a_law => k_is); (case l_law => k_is); (case c_law => k_is); (case k_law => k_is); (case z_bool => k_is); (case z_int => k_is); (case z_isinstance => k_is); (case z_len => k_is); (case z_range => k_is); (case z_repr => k_is); (case z_sum => k_is); (case z_tuple => k_is); (case e_PARTS => k_is); (case d_PARTS => k_is); (case g_PARTS_0 => k_is); (case g_PARTS_1 => k_is); (case g_PARTS_2 => k_is); (case g_PARTS_3 => k_is); (case e_GuardError => k_is); (case e_Unfit => k_is); (case xk_Unfit => first | k_exc | k_is | rfl | kit_is); (case xx_Unfit => first | k_exc | k_is | rfl | kit_is); (case xb_Unfit => first | k_exc | k_is | rfl | kit_is); (case xt_Unfit => first | k_exc | k_is | rfl | kit_is); (case xi_Unfit => first | k_exc | k_is | rfl | kit_is); (case xs_Unfit => first | k_exc | k_is | rfl | kit_is); (case ia_Unfit_GuardError => first | k_exc | k_is | rfl | kit_is); (case ib_Unfit_GuardError => first | k_exc | k_is | rfl | kit_is); (case ic_Unfit_GuardError => first | k_exc | k_is | rfl | kit_is); (case id_Unfit_GuardError => first | k_exc | k_is | rfl | kit_is); (case ie_Unfit_GuardError => first | k_exc | k_is | rfl | kit_is); (case if_Unfit_GuardError => first | k_exc | k_is | rfl | kit_is); (case ig_Unfit_GuardError => first | k_exc | k_is | rfl | kit_is); (case lit_PARTS => exact ⟨⟨_, _, rfl, rfl⟩, ⟨_, _, rfl, rfl⟩, ⟨_, _, rfl, rfl⟩, ⟨_, _, rfl, rfl⟩, trivial⟩)

