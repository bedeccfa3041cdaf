import PyProof.Rows.All
import HandS.ForMost
import HandS.Walk
import HandS.IsInst
import HandS.Conv
import HandS.Deep
import PyProof.ReprRoads
import HandS.TupAny
import HandS.TupMul
import HandS.Wide
import HandS.Zip
import KE.GoesEnum
import HandS.More
import HandS.Dict
import HandS.Style
import PyProof.ReprBulk
import HandS.SortInts
import KE.DataCmp
import HandS.ExcOwn
import HandS.WordsExc
import HandS.Flow
import KE.KExcIs
import KE.KIsAll
import HandS.WordsDict
import HandS.Strs
import HandS.SetBool
import KE.GoesSet
import HandS.SetFor
import PyProof.Rows.SetFrom
import PyProof.DictCalls
import PySem.Challenge.RW_guardbooks_k63_what_programs_are
set_option Elab.async false
set_option linter.all false
namespace GB
open PySem PySem.Spec PyProof.Rows L2

/-! data in the abstract heap: what lies there for good -/
def Firm : HO → Prop
  | .tup _ => True
  | .frz _ _ => True
  | .ext _ => True
  | _ => False
def Keep (H H' : Hp) : Prop := ∀ a o, H a = some o → Firm o → H' a = some o
theorem Keep.rfl' (H : Hp) : Keep H H := fun _ _ h _ => h
theorem Keep.tr {H H1 H2 : Hp} (p : Keep H H1) (q : Keep H1 H2) : Keep H H2 := fun a o h f => q a o (p a o h f) f
theorem keep_of_same {H H' : Hp} (p : Same H H') : Keep H H' := fun a o h _ => p a o h
theorem same_new {H : Hp} {p : Addr} {o : HO} (h : H p = none) : Same H (upd H p o) := fun b x e => by
  rw [upd_ne (ne_of_none e h)]; exact e

def keyD : Key → PyData
  | .inl i => .int i
  | .inr z => .str z
mutual
inductive Br (K : PySem.W.Frag) (H : Hp) : V → PyData → Prop
  | non : Br K H .non .none
  | bl (b : Bool) : Br K H (.bl b) (.bool b)
  | int (i : Int) : Br K H (.int i) (.int i)
  | str (z : Str) : Br K H (.str z) (.str z)
  | tup {a : Addr} {vs : List V} {ds : List PyData} : SqT K H a vs → BrA K H vs ds → Br K H (.ref a) (.tuple ds)
  | lst {a : Addr} {o : Obj} {vs : List V} {ds : List PyData} : H a = some (.frz o (.lst vs)) → (a == sysModules) = false → BrA K H vs ds → Br K H (.ref a) (.list ds)
  | dct {a : Addr} {o : Obj} {vks : List (Key × V)} {kvs : List (PyData × PyData)} : H a = some (.frz o (.dK vks)) → kvs.map (·.1) = vks.map (fun p => keyD p.1) → BrA K H (vks.map (·.2)) (kvs.map (·.2)) → Br K H (.ref a) (.dict kvs)
inductive BrA (K : PySem.W.Frag) (H : Hp) : List V → List PyData → Prop
  | nil : BrA K H [] []
  | cons {v : V} {vs : List V} {d : PyData} {ds : List PyData} : Br K H v d → BrA K H vs ds → BrA K H (v :: vs) (d :: ds)
end
section
variable {K : PySem.W.Frag} {H H' : Hp}
theorem sqT_keep (k : Keep H H') {a : Addr} {vs : List V} (h : SqT K H a vs) : SqT K H' a vs := by
  rcases h with (h | ⟨o, h⟩) | h
  · exact .inl (.inl (k _ _ h trivial))
  · exact .inl (.inr ⟨o, k _ _ h trivial⟩)
  · exact .inr h
mutual
theorem Br.keep (k : Keep H H') : ∀ (d : PyData) (v : V), Br K H v d → Br K H' v d
  | .none, _, h => by cases h; exact .non
  | .bool _, _, h => by cases h; exact .bl _
  | .int _, _, h => by cases h; exact .int _
  | .str _, _, h => by cases h; exact .str _
  | .tuple ds, _, h => by cases h with | tup h1 h2 => exact .tup (sqT_keep k h1) (BrA.keep k ds _ h2)
  | .list ds, _, h => by cases h with | lst h1 h2 h3 => exact .lst (k _ _ h1 trivial) h2 (BrA.keep k ds _ h3)
  | .dict kvs, _, h => by cases h with | dct h1 h2 h3 => exact .dct (k _ _ h1 trivial) h2 (BrK.keep k kvs _ h3)
theorem BrA.keep (k : Keep H H') : ∀ (ds : List PyData) (vs : List V), BrA K H vs ds → BrA K H' vs ds
  | [], _, h => by cases h; exact .nil
  | d :: ds, _, h => by cases h with | cons h1 h2 => exact .cons (Br.keep k d _ h1) (BrA.keep k ds _ h2)
theorem BrK.keep (k : Keep H H') : ∀ (kvs : List (PyData × PyData)) (vs : List V), BrA K H vs (kvs.map (·.2)) → BrA K H' vs (kvs.map (·.2))
  | [], _, h => by cases h; exact .nil
  | (_, d) :: kvs, _, h => by cases h with | cons h1 h2 => exact .cons (Br.keep k d _ h1) (BrK.keep k kvs _ h2)
end
theorem BrA.len : ∀ {vs : List V} {ds : List PyData}, BrA K H vs ds → vs.length = ds.length
  | _, [], h => by cases h; rfl
  | _, _ :: _, h => by cases h with | cons _ t => simp [BrA.len t]
theorem BrA.get : ∀ {vs : List V} {ds : List PyData} {i : Nat} {d : PyData}, BrA K H vs ds → ds[i]? = some d → ∃ v, vs[i]? = some v ∧ Br K H v d
  | _, [], _, _, _, e => by simp at e
  | _, _ :: _, 0, _, h, e => by cases h with | cons h1 _ => exact ⟨_, rfl, by simpa using (Option.some.inj e) ▸ h1⟩
  | _, _ :: _, i + 1, _, h, e => by cases h with | cons _ t => obtain ⟨v, h1, h2⟩ := BrA.get (i := i) t (by simpa using e); exact ⟨v, by simpa using h1, h2⟩
theorem BrA.getV : ∀ {vs : List V} {ds : List PyData} {i : Nat} {v : V}, BrA K H vs ds → vs[i]? = some v → ∃ d, ds[i]? = some d ∧ Br K H v d
  | _, [], _, _, h, e => by cases h; simp at e
  | _, _ :: _, 0, _, h, e => by cases h with | cons h1 _ => exact ⟨_, rfl, by simpa using (Option.some.inj e) ▸ h1⟩
  | _, _ :: _, i + 1, _, h, e => by cases h with | cons _ t => obtain ⟨v, h1, h2⟩ := BrA.getV (i := i) t (by simpa using e); exact ⟨v, by simpa using h1, h2⟩
theorem BrA.app : ∀ {vs ws : List V} {ds es : List PyData}, BrA K H vs ds → BrA K H ws es → BrA K H (vs ++ ws) (ds ++ es)
  | _, _, [], _, h, q => by cases h; exact q
  | _, _, _ :: _, _, h, q => by cases h with | cons h1 t => exact .cons h1 (BrA.app t q)
theorem BrA.take : ∀ {vs : List V} {ds : List PyData} (n : Nat), BrA K H vs ds → BrA K H (vs.take n) (ds.take n)
  | _, _, 0, _ => .nil
  | _, [], n + 1, h => by cases h; exact .nil
  | _, _ :: _, n + 1, h => by cases h with | cons h1 t => exact .cons h1 (BrA.take n t)
theorem BrA.drop : ∀ {vs : List V} {ds : List PyData} (n : Nat), BrA K H vs ds → BrA K H (vs.drop n) (ds.drop n)
  | _, _, 0, h => h
  | _, [], n + 1, h => by cases h; exact .nil
  | _, _ :: _, n + 1, h => by cases h with | cons _ t => exact BrA.drop n t
theorem BrA.one {v : V} {d : PyData} (h : Br K H v d) : BrA K H [v] [d] := .cons h .nil
theorem BrA.rep {vs : List V} {ds : List PyData} (h : BrA K H vs ds) : ∀ n : Nat, BrA K H (List.replicate n vs).flatten (List.replicate n ds).flatten
  | 0 => .nil
  | n + 1 => by simp only [List.replicate_succ, List.flatten_cons]; exact h.app (BrA.rep h n)
theorem BrA.set : ∀ {vs : List V} {ds : List PyData} (i : Nat) {v : V} {d : PyData}, BrA K H vs ds → Br K H v d → BrA K H (vs.set i v) (ds.set i d)
  | _, [], _, _, _, h, _ => by cases h; exact .nil
  | _, _ :: _, 0, _, _, h, q => by cases h with | cons _ t => exact .cons q t
  | _, _ :: _, i + 1, _, _, h, q => by cases h with | cons h1 t => exact .cons h1 (BrA.set i t q)
theorem BrA.erase : ∀ {vs : List V} {ds : List PyData} (i : Nat), BrA K H vs ds → BrA K H (vs.eraseIdx i) (ds.eraseIdx i)
  | _, [], _, h => by cases h; exact .nil
  | _, _ :: _, 0, h => by cases h with | cons _ t => exact t
  | _, _ :: _, i + 1, h => by cases h with | cons h1 t => exact .cons h1 (BrA.erase i t)
theorem BrA.dropLast {vs : List V} {ds : List PyData} (h : BrA K H vs ds) : BrA K H vs.dropLast ds.dropLast := by
  rw [List.dropLast_eq_take, List.dropLast_eq_take, h.len]; exact h.take _
end
/-! back to the library's readings of the plain heap -/
section
variable {X : Cx} {pins : List (Addr × Obj)} {σ : L2.St} {H : Hp} {s : Shared}
theorem kv_keys : ∀ {es : List DictEntry} {P : Program} {w : World} {vs : List (Key × Value)} {h : Heap}, Pairs (mixKind P w) es vs → ReadsAll h (es.map (·.key)) (vs.map fun p => keyD p.1) []
  | [], _, _, _, _, h => by cases h; exact .nil
  | e :: es, P, w, _, hp, h => by
    cases h with
    | @cons _ kv _ kvs h1 h2 h3 =>
      have t := kv_keys (h := hp) h3
      rcases keyIs_shape h1 with ⟨i, tk, q1, q2⟩ | ⟨i, tk, q1, q2⟩
      · have := ReadsAll.cons (Reads.int (h := hp) i tk) t
        simpa [q1, q2, keyD] using this
      · have := ReadsAll.cons (Reads.str (h := hp) i tk) t
        simpa [q1, q2, keyD] using this
theorem pairs_vals : ∀ {es : List DictEntry} {P : Program} {w : World} {vs : List (Key × Value)}, Pairs (mixKind P w) es vs → es.map (·.val) = vs.map (·.2)
  | [], _, _, _, h => by cases h; rfl
  | e :: es, _, _, _, h => by cases h with | cons h1 h2 h3 => simp [h2, pairs_vals h3]
theorem kv_vals : ∀ {vks : List (Key × V)} {vs : List (Key × Value)}, KV vks vs → Vals (vks.map (·.2)) (vs.map (·.2)) ∧ vks.map (·.1) = vs.map (·.1)
  | [], _, h => by cases h; exact ⟨.nil, rfl⟩
  | p :: r, _, h => by cases h with | cons h1 h2 => have q := kv_vals h2; exact ⟨.cons h1.2 q.1, by simp [h1.1, q.2]⟩
theorem not_sys {a : Addr} {as : List Addr} (h : (a == sysModules) = false) (h2 : sysModules ∉ as) : sysModules ∉ a :: as := fun m => by
  rcases List.mem_cons.mp m with e | e
  · exact absurd e.symm (beq_eq_false_iff_ne.mp h)
  · exact h2 e
mutual
theorem Br.reads (I : Inv X pins σ H s) : ∀ (d : PyData) (v : V) (u : Value), Br X.K H v d → RelV v u → ∃ as, Reads s.heap u d as ∧ sysModules ∉ as
  | .none, _, _, h, r => by cases h; cases r; exact ⟨_, .none, by simp⟩
  | .bool b, _, _, h, r => by cases h; cases r; exact ⟨_, .bool b, by simp⟩
  | .int i, _, _, h, r => by cases h; obtain ⟨t, rfl⟩ := r; exact ⟨_, .int i t, by simp⟩
  | .str z, _, _, h, r => by cases h; obtain ⟨t, rfl⟩ := r; exact ⟨_, .str z t, by simp⟩
  | .tuple ds, _, _, h, r => by
    cases h with
    | tup h1 h2 =>
      cases r
      obtain ⟨its, rv, ⟨o, ho, hc, n, hd⟩, _⟩ := I.tuple h1
      obtain ⟨as, q1, q2⟩ := BrA.reads I ds _ its h2 rv
      exact ⟨_, .tuple ho hc hd q1, q2⟩
  | .list ds, _, _, h, r => by
    cases h with
    | lst h1 h2 h3 =>
      cases r
      obtain ⟨its, rv, ⟨o, n, ho, hc, _, hd⟩, _⟩ := I.list (.inl (.inr ⟨_, h1⟩))
      obtain ⟨as, q1, q2⟩ := BrA.reads I ds _ its h3 rv
      exact ⟨_, .list ho hc hd q1, not_sys h2 q2⟩
  | .dict kvs, _, _, h, r => by
    cases h with
    | dct h1 h2 h3 =>
      cases r
      obtain ⟨hd, z, hs, vs, kv, o', es, ep, ho, hx, hdt, hk, hp, hn⟩ := I.hok _ _ h1
      obtain ⟨k1, k2⟩ := kv_vals kv
      obtain ⟨bs, q1, q2⟩ := BrK.reads I kvs _ (vs.map (·.2)) h3 k1
      have e1 : kvs.map (·.1) = vs.map fun p => keyD p.1 := by
        have e := congrArg (List.map keyD) k2
        rw [List.map_map, List.map_map] at e
        rw [h2]; exact e
      refine ⟨_, .dict ho hx.1 hdt (as := []) (by rw [e1]; exact kv_keys hp) (by rw [pairs_vals hp]; exact q1), ?_⟩
      simpa using not_sys hs q2
theorem BrA.reads (I : Inv X pins σ H s) : ∀ (ds : List PyData) (vs : List V) (us : List Value), BrA X.K H vs ds → Vals vs us → ∃ as, ReadsAll s.heap us ds as ∧ sysModules ∉ as
  | [], _, _, h, r => by cases h; cases r; exact ⟨_, .nil, by simp⟩
  | d :: ds, _, _, h, r => by
    cases h with
    | cons h1 h2 =>
      cases r with
      | cons r1 r2 =>
        obtain ⟨as, q1, z1⟩ := Br.reads I d _ _ h1 r1
        obtain ⟨bs, q2, z2⟩ := BrA.reads I ds _ _ h2 r2
        exact ⟨_, .cons q1 q2, by simp [z1, z2]⟩
theorem BrK.reads (I : Inv X pins σ H s) : ∀ (kvs : List (PyData × PyData)) (vs : List V) (us : List Value), BrA X.K H vs (kvs.map (·.2)) → Vals vs us → ∃ as, ReadsAll s.heap us (kvs.map (·.2)) as ∧ sysModules ∉ as
  | [], _, _, h, r => by cases h; cases r; exact ⟨_, .nil, by simp⟩
  | (_, d) :: kvs, _, _, h, r => by
    cases h with
    | cons h1 h2 =>
      cases r with
      | cons r1 r2 =>
        obtain ⟨as, q1, z1⟩ := Br.reads I d _ _ h1 r1
        obtain ⟨bs, q2, z2⟩ := BrK.reads I kvs _ _ h2 r2
        exact ⟨_, .cons q1 q2, by simp [z1, z2]⟩
end
end
end GB

namespace GB
open PySem PySem.Spec PyProof.Rows L2
section
variable {X : Cx} {pins : List (Addr × Obj)} {σ : L2.St} {H : Hp} {s : Shared}
/-! a list or dict of one's own is declared to be as it is for good -/
def Loose : HO → Prop
  | .lst _ => True
  | .dK _ => True
  | .dT _ => True
  | _ => False
theorem fix_inv (I : Inv X pins σ H s) {a : Addr} {u : HO} (h : H a = some u) (l : Loose u) : ∃ o, Inv X pins σ (upd H a (.frz o u)) s := by
  have ok := I.hok a u h
  obtain ⟨o, ho⟩ : ∃ o, s.heap.get? a = some o := by
    cases u with
    | lst xs => obtain ⟨_, _, _, _, e⟩ := ok; exact ⟨_, e⟩
    | dK kvs => obtain ⟨_, _, _, _, o, _, _, e, _⟩ := ok; exact ⟨_, e⟩
    | dT kvs => obtain ⟨_, _, _, _, o, _, _, e, _⟩ := ok; exact ⟨_, e⟩
    | _ => exact l.elim
  have nt : ∀ c xs, H c = some (.tup xs) → c ≠ a := fun c xs q z => by rw [z, h] at q; cases q; exact l
  have no : ∀ c y, H c = some (.own y) → c ≠ a := fun c y q z => by rw [z, h] at q; cases q; exact l
  have nf : ∀ c o' u', H c = some (.frz o' u') → c ≠ a := fun c o' u' q z => by rw [z, h] at q; cases q; exact l
  have nb : ∀ c ps, H c = some (.tbl ps) → c ≠ a := fun c ps q z => by rw [z, h] at q; cases q; exact l
  refine ⟨o, ?_⟩
  have un : Un X.fs [] H (upd H a (.frz o u)) s.heap s.heap := by
    refine ⟨fun b ob q _ _ _ => q, fun b ob q _ _ _ => ⟨ob.slots, q⟩, fun b ob q n _ => ?_, fun b ob q _ => ⟨ob, q⟩, fun b xs q => ?_, fun b ob xs q => ?_, fun b ps q => ⟨#[], ?_⟩⟩
    · rw [upd_ne (fun z => by rw [z, h] at n; cases n)]; exact n
    · rw [upd_ne (nt _ _ q)]; exact q
    · rw [upd_ne (nf _ _ _ q)]; exact q
    · rw [upd_ne (nb _ _ q), q]; simp
  have hok : HOk X.prog X.w (upd H a (.frz o u)) s.heap := fun b v q => by
    by_cases hb : b = a
    · subst hb
      rw [upd_same] at q; cases q
      refine ⟨ho, ok.stay (fun _ _ _ z => z) (fun c q => ?_) fun c xs q => ?_⟩
      · rw [upd_ne (no _ _ q)]; exact q
      · rw [upd_ne (nt _ _ q)]; exact q
    · rw [upd_ne hb] at q
      refine (I.hok b v q).stay (fun _ _ _ z => z) (fun c q => ?_) fun c xs q => ?_
      · rw [upd_ne (no _ _ q)]; exact q
      · rw [upd_ne (nt _ _ q)]; exact q
  exact I.un (t' := s.toks) un hok
theorem keep_fix {H : Hp} {a : Addr} {u : HO} {o : Obj} (h : H a = some u) (l : Loose u) : Keep H (upd H a (.frz o u)) := fun b v q f => by
  rw [upd_ne (fun z => by rw [z, h] at q; cases q; cases u <;> first | exact l.elim | exact f.elim)]; exact q
theorem keep_put {H : Hp} {a : Addr} {u v : HO} (h : H a = some u) (l : Loose u) : Keep H (upd H a v) := fun b w q f => by
  rw [upd_ne (fun z => by rw [z, h] at q; cases q; cases u <;> first | exact l.elim | exact f.elim)]; exact q
end

/-! a def's promise, where no repr is under way -/
structure FnG (P : Program) (w : World) (K : PySem.W.Frag) (mg : Str → Option Value) (base : Heap) (CX : CXT) (k : Nat) (f : Addr) (fd : FuncData) (ps : List Str) (sp : Sp) : Prop where
  arity : ∀ vs H Q E, sp vs H Q E → vs.length = ps.length
  go : ∀ (A : Around) (outer : List Env) (s : Shared) (H : Hp) (args : Args) (us : List Value) (vs : List V) (Q : VK) (E : XK), A.guards = some [] → Room k A → Env0 P w K mg base A outer s H →
    BindsTo s fd args (ps.zip us) → Vals vs us → sp vs H Q E → codeAny (model P w) A (.call (.ref f) args) (CR CX outer P w H s Q E) s
section
variable {P : Program} {w : World} {K : PySem.W.Frag} {mg : Str → Option Value} {base : Heap} {CX : CXT}
theorem FnG.up {j k : Nat} {f : Addr} {fd : FuncData} {ps : List Str} {sp : Sp} (F : FnG P w K mg base CX j f fd ps sp) (h : j ≤ k) : FnG P w K mg base CX k f fd ps sp :=
  ⟨F.arity, fun A outer s H args us vs Q E hg hr => F.go A outer s H args us vs Q E hg (hr.mono h)⟩
theorem FnG.weak {k : Nat} {f : Addr} {fd : FuncData} {ps : List Str} {sp sp' : Sp} (F : FnG P w K mg base CX k f fd ps sp) (h : ∀ vs H Q E, sp' vs H Q E → sp vs H Q E) : FnG P w K mg base CX k f fd ps sp' :=
  ⟨fun vs H Q E q => F.arity vs H Q E (h _ _ _ _ q), fun A outer s H args us vs Q E hg hr he hb hv hs => F.go A outer s H args us vs Q E hg hr he hb hv (h _ _ _ _ hs)⟩
theorem deeper_guards (A : Around) (env : Env) (h : A.guards = some []) : (A.deeper env).guards = some [] := h
theorem fng_of {k : Nat} {f : Addr} {fd : FuncData} {x qual : Str} {st : Stmt} {N ps : List Str} {sp : Sp} (F : Fun K x qual st f fd) (S : FnScope N ps (defScope st))
    (ar : ∀ vs H Q E, sp vs H Q E → vs.length = ps.length)
    (bd : ∀ (cdv : Value) (A : Around) (outer : List Env) (s : Shared) (H : Hp) (vs : List V) (Q : VK) (E : XK), A.guards = some [] →
      Room k (A.deeper (envOfC qual (defScope st) s.heap.objs.size f cdv)) → sp vs H Q E →
      ∃ t, PSs (cxOf CX P w K mg base N qual (defScope st) f cdv A outer s H E) (defBody st) t ∧ t { nx := fun _ H' => Q .non H', rt := Q } (L2.start N vs) H) :
    FnG P w K mg base CX (k + 1) f fd ps sp := by
  obtain ⟨oc, od, kV, doc, pm, an, cdv, ct, osl, rfl, lk, hcd⟩ := F.ex
  refine ⟨ar, fun A outer s H args us vs Q E hg hr e0 hb r hsp => ?_⟩
  have kept : ∀ b o, base.get? b = some o → s.heap.get? b = some o := fun b o e => (e0.bs b o e).1
  have KX : K.In s.heap := e0.mod.kin.keeps kept
  have lim : s.heap.NoLimit := e0.mod.nolimit.keeps kept
  refine codeAny_call_function hr.depth (KX _ _ lk) rfl S.co S.gen rfl (PySem.W.codeRec_of KX hcd) (hb _ _ _ _ ?_)
  refine wpAny_newFunctionEnv_cells S.kind (fun ⟨n, v⟩ hy => ?_) fun env he s1 x => ?_
  · rcases S.par n (List.of_mem_zip hy).1 with q | q
    · exact .inl q
    · exact .inr ⟨q, PySem.W.cellsFrom_some _ _ _ (.inl q)⟩
  subst he
  refine ⟨lim.keeps x.toInCall.keep, codeAny_func ?_⟩
  obtain ⟨t, ht, hq⟩ := bd cdv A outer s H vs Q E hg (hr.deeper _) hsp
  have I := inv_start (CX := CX) (E := E) (N := N) (mg := mg) (base := base) S hr.hd e0 (ar _ _ _ _ hsp) r x
  refine wpAny_mono (ht.run [] s1 (L2.start N vs) H _ I hq) (fun fl s' hs => ?_) fun e s' hs => hs
  cases fl with
  | ret u =>
    obtain ⟨v, σ', H', J, rv, q⟩ := hs
    exact ⟨v, H', J.os, J.bare, J.base, J.hok, rv, q⟩
  | next =>
    obtain ⟨σ', H', J, q⟩ := hs
    exact ⟨V.non, H', J.os, J.bare, J.base, J.hok, rfl, q⟩
  | brk => obtain ⟨_, _, _, q⟩ := hs; exact False.elim q
  | cont => obtain ⟨_, _, _, q⟩ := hs; exact False.elim q
/-- where no exception leaves -/
theorem fng_nox {k : Nat} {f : Addr} {fd : FuncData} {x qual : Str} {st : Stmt} {N ps : List Str} {sp : Sp} (F : Fun K x qual st f fd) (S : FnScope N ps (defScope st))
    (ar : ∀ vs H Q E, sp vs H Q E → vs.length = ps.length)
    (bd : ∀ (cdv : Value) (A : Around) (outer : List Env) (s : Shared) (H : Hp) (vs : List V) (Q : VK) (E : XK), A.guards = some [] →
      Room k (A.deeper (envOfC qual (defScope st) s.heap.objs.size f cdv)) → sp vs H Q E →
      ∃ t, PSs (cxOf CX P w K mg base N qual (defScope st) f cdv A outer s H E).nox (defBody st) t ∧ t { nx := fun _ H' => Q .non H', rt := Q } (L2.start N vs) H) :
    FnG P w K mg base CX (k + 1) f fd ps sp :=
  fng_of F S ar fun cdv A outer s H vs Q E hg hr hsp => let ⟨t, h, q⟩ := bd cdv A outer s H vs Q E hg hr hsp; ⟨t, h.nox, q⟩
end
section
variable {X : Cx} {CX : CXT} {k : Nat} {f : Addr} {fd : FuncData} {ps ks : List Str} {sp : Sp} {E : XK} {x : Str} {p pos : Pos} {e : Expr} {es : List Expr} {kws : List Keyword} {t tk : TA}
/-- a call by places -/
theorem g_call (F : FnG X.prog X.w X.K X.mg X.base CX k f fd ps sp) (hr : Room k X.A) (gd : X.A.guards = some []) (hg : Gl X x) (hm : X.mg x = some (.ref f)) (hk : PySem.W.keepIn X.K (.ref f) = true) (hb : Binds X.K fd ps []) (hx : Passes CX X E)
    (ha : PA X (e :: es) t) (hdb : (x == ("__debug__" : Str)) = false := by decide) (he : starEach (e :: es) X.env = (false, eval e X.env) :: starEach es X.env := by rfl)
    (hpl : (backTo pos (starEach es X.env)).any (·.1) = false := by rfl) : PE X (.Call (.Name x p) (e :: es) [] pos) (tCall sp [] E t) := by
  constructor
  intro pins s σ H Q I h
  refine wpAny_Call_Name_kw (ld_glob I hg hm ?_ hdb)
  refine PySem.W.callWith_K (h₀ := X.base) I.ok.mod.kin hk (thn (ha.run pos pins s σ H _ I h) fun us s1 z => ?_) he hpl
  obtain ⟨vs, H1, I1, r, q⟩ := z
  refine ⟨I1.kIn, ?_⟩
  have q : sp (vs ++ []) H1 Q E := q
  rw [List.append_nil] at q
  have hl : us.length = ps.length := by rw [← r.length]; exact F.arity _ _ _ _ q
  have bb := hb s1 us I1.kIn (by simpa using hl)
  rw [List.append_nil] at bb
  refine wpAny_call (codeAny_mono (F.go X.A X.stack s1 H1 ⟨us, []⟩ us vs Q E gd hr I1.env0 bb r q) fun r2 s' hq => ?_)
  match r2, hq with
  | .error e, hq => exact hx pins σ H1 s1 e s' I1 hq
  | .ok (.ret u), hq => exact I1.after hq
  | .ok .next, hq => exact False.elim hq
  | .ok .brk, hq => exact False.elim hq
  | .ok .cont, hq => exact False.elim hq
theorem g_call0 (F : FnG X.prog X.w X.K X.mg X.base CX k f fd ps sp) (hr : Room k X.A) (gd : X.A.guards = some []) (hg : Gl X x) (hm : X.mg x = some (.ref f)) (hk : PySem.W.keepIn X.K (.ref f) = true) (hb : Binds X.K fd ps []) (hx : Passes CX X E)
    (hdb : (x == ("__debug__" : Str)) = false := by decide) : PE X (.Call (.Name x p) [] [] pos) (tCall sp [] E tNil) := by
  constructor
  intro pins s σ H Q I q
  refine wpAny_Call_Name_kw (ld_glob I hg hm ?_ hdb)
  refine PySem.W.callWith_K0 I.kIn hk ?_
  have q : sp [] H Q E := q
  have hl := F.arity _ _ _ _ q
  have bb := hb s [] I.kIn (by simpa using hl)
  refine wpAny_call (codeAny_mono (F.go X.A X.stack s H ⟨[], []⟩ [] [] Q E gd hr I.env0 bb .nil q) fun r2 s' hq => ?_)
  match r2, hq with
  | .error e, hq => exact hx pins σ H s e s' I hq
  | .ok (.ret u), hq => exact I.after hq
  | .ok .next, hq => exact False.elim hq
  | .ok .brk, hq => exact False.elim hq
  | .ok .cont, hq => exact False.elim hq
/-- a call with keywords alone (some in front by place) -/
theorem g_callK {g : List Value → List Value → List Value} {gV : List V → List V → List V} (F : FnG X.prog X.w X.K X.mg X.base CX k f fd ps sp) (hr : Room k X.A) (gd : X.A.guards = some []) (hg : Gl X x) (hm : X.mg x = some (.ref f)) (hk : PySem.W.keepIn X.K (.ref f) = true)
    (hb : KBinds X.K fd ps ks g gV) (hx : Passes CX X E) (ha : PA X es t) (hkw : PK X kws tk)
    (run : ∀ {pins : List (Addr × Obj)} {s : Shared} {σ : L2.St} {H : Hp} {Q : VK}, Inv X pins σ H s → (∀ us s1, AP X pins σ (fun vs H1 => tk σ H1 fun zs H2 => sp (gV vs zs) H2 Q E) us s1 →
        wpAny (model X.prog X.w) X.A (evalAll ((backToKw pos (keywordEach kws X.env)).map (·.2))) (fun ws s2 => X.K.In s2.heap ∧ wpAny (model X.prog X.w) X.A (call (.ref f) us (ks.zip ws)) (EP X pins σ Q) X.xe s2) X.xe s1) →
      wpAny (model X.prog X.w) X.A (spliced (backTo pos (starEach es X.env))) (AP X pins σ fun vs H1 => tk σ H1 fun zs H2 => sp (gV vs zs) H2 Q E) X.xe s →
      wpAny (model X.prog X.w) X.A (eval (.Call (.Name x p) es kws pos) X.env) (EP X pins σ Q) X.xe s) :
    PE X (.Call (.Name x p) es kws pos) (tCallK sp gV E t tk) := by
  constructor
  intro pins s σ H Q I h
  refine run I (fun us s1 z => ?_) (ha.run pos pins s σ H _ I h)
  obtain ⟨vs, H1, I1, r, q⟩ := z
  refine thn (hkw.run pos pins s1 σ H1 _ I1 q) fun ws s2 z2 => ?_
  obtain ⟨zs, H2, I2, rz, q2⟩ := z2
  refine ⟨I2.kIn, ?_⟩
  have r2 := hb.rel r rz
  have hl : (g us ws).length = ps.length := by rw [← r2.length]; exact F.arity _ _ _ _ q2
  refine wpAny_call (codeAny_mono (F.go X.A X.stack s2 H2 ⟨us, ks.zip ws⟩ (g us ws) (gV vs zs) Q E gd hr I2.env0 (hb.to s2 us ws I2.kIn hl) r2 q2) fun r2 s' hq => ?_)
  match r2, hq with
  | .error e, hq => exact hx pins σ H2 s2 e s' I2 hq
  | .ok (.ret u), hq => exact I2.after hq
  | .ok .next, hq => exact False.elim hq
  | .ok .brk, hq => exact False.elim hq
  | .ok .cont, hq => exact False.elim hq
end
end GB

namespace GB
open PySem PySem.Spec PyProof.Rows L2

/-- a firm thing that is no datum: the draws' store, the script, others -/
inductive Tk where
  | jar
  | scr (ns : List Int)
  | more (n : Nat)
/-- what a slot, or a value, is as data -/
inductive Ow where
  | l (xs : List PyData)
  | k (kvs : List (Key × PyData))
  | io (m : Nat) (xs : List PyData)
inductive S where
  | un
  | d (x : PyData)
  | ow (o : Ow)
  | ob (t : Tk)
abbrev S.own (xs : List PyData) : S := .ow (.l xs)
abbrev S.od (kvs : List (Key × PyData)) : S := .ow (.k kvs)
abbrev S.io (m : Nat) (xs : List PyData) : S := .ow (.io m xs)
abbrev En := List S
/-- the draws' store, known by a fact that firm things bear -/
structure Jar where
  ok : Tk → Addr → Hp → Prop
  keep : ∀ t a H H', Keep H H' → ok t a H → ok t a H'
/-- the written part, the store, the heap at the def's entry -/
structure Lay where
  K : PySem.W.Frag
  J : Jar
  H0 : Hp
  io : Nat → Option Addr
abbrev lay (K : PySem.W.Frag) (J : Jar) (H : Hp) : Lay := ⟨K, J, H, fun _ => none⟩
/-- firm values -/
def FR (L : Lay) (H : Hp) (v : V) : S → Prop
  | .un => False
  | .d x => Br L.K H v x
  | .ow _ => False
  | .ob t => ∃ a, v = .ref a ∧ L.J.ok t a H
def OR (L : Lay) (H : Hp) (v : V) : Ow → Prop
  | .l xs => ∃ l vs, v = .ref l ∧ H l = some (.lst vs) ∧ BrA L.K H vs xs ∧ L.H0 l = none
  | .k kvs => ∃ l, ∃ vks : List (Key × V), v = .ref l ∧ H l = some (.dK vks) ∧ (kvs.map (·.1) = vks.map (·.1) ∧ BrA L.K H (vks.map (·.2)) (kvs.map (·.2))) ∧ L.H0 l = none
  | .io m xs => ∃ l vs, v = .ref l ∧ H l = some (.lst vs) ∧ (BrA L.K H vs xs ∧ L.io m = some l) ∧ L.H0 l = none
def SR (L : Lay) (H : Hp) (o : Option V) : S → Prop
  | .un => True
  | .d x => ∃ v, o = some v ∧ Br L.K H v x
  | .ow xs => ∃ v, o = some v ∧ OR L H v xs
  | .ob t => ∃ a, o = some (.ref a) ∧ L.J.ok t a H
structure Rel (L : Lay) (H : Hp) (σ : L2.St) (ρ : En) : Prop where
  len : σ.length = ρ.length
  at' : ∀ (i : Nat) (s : S), ρ[i]? = some s → SR L H (σ[i]?.getD none) s
  sep : ∀ (i j : Nat) (xs ys : Ow), ρ[i]? = some (.ow xs) → ρ[j]? = some (.ow ys) → σ[i]? = σ[j]? → i = j
  same : Same L.H0 H
/-- a value that an expression gave, begun at Hs -/
def VR (L : Lay) (Hs H : Hp) (v : V) : S → Prop
  | .ow xs => OR L H v xs ∧ ∀ l, v = .ref l → Hs l = none
  | s => FR L H v s
/-- what an expression leaves as it is: all but the lists that slots own -/
structure Go (σ : L2.St) (ρ ρ' : En) (H H' : Hp) : Prop where
  stay : ∀ a o, H a = some o → (∀ (i : Nat) (xs : Ow), ρ[i]? = some (.ow xs) → σ[i]? ≠ some (some (.ref a))) → H' a = some o
  less : ∀ (i : Nat) (xs : Ow), ρ'[i]? = some (.ow xs) → ∃ ys, ρ[i]? = some (.ow ys)
  dom : ∀ a, H' a = none → H a = none
def RR (L : Lay) (H : Hp) (v : V) : S → Prop
  | .ow xs => OR L H v xs
  | s => FR L H v s

abbrev TEd := En → (S → En → Prop) → Prop
abbrev TTd := En → (Bool → En → Prop) → Prop
abbrev TAd := En → (List S → En → Prop) → Prop
structure EndsD where
  nx : En → Prop
  rt : S → Prop
  bk : En → Prop := fun _ => False
  ct : En → Prop := fun _ => False
abbrev TSd := EndsD → En → Prop
inductive FRs (L : Lay) (H : Hp) : List V → List S → Prop
  | nil : FRs L H [] []
  | cons {v : V} {vs : List V} {s : S} {ss : List S} : FR L H v s → FRs L H vs ss → FRs L H (v :: vs) (s :: ss)
def tE (L : Lay) (t : TEd) : TE := fun σ H Q' => ∃ ρ Q, Rel L H σ ρ ∧ t ρ Q ∧ ∀ v H' s ρ', Go σ ρ ρ' H H' → Rel L H' σ ρ' → VR L H H' v s → Q s ρ' → Q' v H'
def tT (L : Lay) (t : TTd) : TT := fun σ H Q' => ∃ ρ Q, Rel L H σ ρ ∧ t ρ Q ∧ ∀ b H' ρ', Go σ ρ ρ' H H' → Rel L H' σ ρ' → Q b ρ' → Q' b H'
def tA (L : Lay) (t : TAd) : TA := fun σ H Q' => ∃ ρ Q, Rel L H σ ρ ∧ t ρ Q ∧ ∀ vs H' ss ρ', Go σ ρ ρ' H H' → Rel L H' σ ρ' → FRs L H' vs ss → Q ss ρ' → Q' vs H'
def tS (L : Lay) (t : TSd) : TS := fun D σ H => ∃ ρ De, Rel L H σ ρ ∧ t De ρ ∧ (∀ σ' H' ρ', Keep H H' → Rel L H' σ' ρ' → De.nx ρ' → D.nx σ' H') ∧ (∀ v H' s, Keep H H' → Same L.H0 H' → RR L H' v s → De.rt s → D.rt v H') ∧
  (∀ σ' H' ρ', Keep H H' → Rel L H' σ' ρ' → De.bk ρ' → D.bk σ' H') ∧ (∀ σ' H' ρ', Keep H H' → Rel L H' σ' ρ' → De.ct ρ' → D.ct σ' H')

section
variable {L : Lay} {H H' : Hp} {σ : L2.St} {ρ : En}
theorem FR.keep (k : Keep H H') {v : V} : ∀ {s : S}, FR L H v s → FR L H' v s
  | .d x, h => Br.keep k x v h
  | .ob t, ⟨a, e, h⟩ => ⟨a, e, L.J.keep t a _ _ k h⟩
theorem FRs.keep (k : Keep H H') {vs : List V} {ss : List S} (h : FRs L H vs ss) : FRs L H' vs ss := by
  induction h with
  | nil => exact .nil
  | cons h1 _ ih => exact .cons (h1.keep k) ih
theorem OR.keep (k : Keep H H') {v : V} {xs : Ow} (h : OR L H v xs) (hv : ∀ l u, v = .ref l → H l = some u → H' l = some u) : OR L H' v xs := by
  cases xs with
  | l xs =>
    obtain ⟨l, vs, e, h1, h2, h3⟩ := h
    exact ⟨l, vs, e, hv l _ e h1, BrA.keep k _ _ h2, h3⟩
  | k kvs =>
    obtain ⟨l, vs, e, h1, h2, h3⟩ := h
    exact ⟨l, vs, e, hv l _ e h1, ⟨h2.1, BrA.keep k _ _ h2.2⟩, h3⟩
  | io m xs =>
    obtain ⟨l, vs, e, h1, h2, h3⟩ := h
    exact ⟨l, vs, e, hv l _ e h1, ⟨BrA.keep k _ _ h2.1, h2.2⟩, h3⟩
theorem OR.same (k : Same H H') {v : V} {xs : Ow} (h : OR L H v xs) : OR L H' v xs := h.keep (keep_of_same k) fun l u _ e => k _ _ e
/-- what all own things have in common -/
theorem OR.any {v : V} {xs : Ow} (h : OR L H v xs) : ∃ l u, v = .ref l ∧ H l = some u ∧ Loose u ∧ L.H0 l = none := by
  cases xs with
  | l xs => obtain ⟨l, vs, e, h1, h2, h3⟩ := h; exact ⟨l, _, e, h1, trivial, h3⟩
  | k kvs => obtain ⟨l, vs, e, h1, h2, h3⟩ := h; exact ⟨l, _, e, h1, trivial, h3⟩
  | io m xs => obtain ⟨l, vs, e, h1, h2, h3⟩ := h; exact ⟨l, _, e, h1, trivial, h3⟩
theorem SR.same (k : Same H H') {o : Option V} : ∀ {s : S}, SR L H o s → SR L H' o s
  | .un, _ => trivial
  | .d x, ⟨v, e, h⟩ => ⟨v, e, Br.keep (keep_of_same k) x v h⟩
  | .ow xs, ⟨v, e, h⟩ => ⟨v, e, h.same k⟩
  | .ob t, ⟨a, e, h⟩ => ⟨a, e, L.J.keep t a _ _ (keep_of_same k) h⟩
/-- all that was tracked stays -/
theorem Rel.go (r : Rel L H σ ρ) (k : Same H H') : Rel L H' σ ρ := ⟨r.len, fun i s e => (r.at' i s e).same k, r.sep, r.same.trans k⟩
theorem Rel.get (r : Rel L H σ ρ) {i : Nat} {s : S} (h : ρ[i]? = some s) : ∃ o, σ[i]? = some o ∧ SR L H o s := by
  have hi : i < σ.length := by rw [r.len]; exact (List.getElem?_eq_some_iff.mp h).1
  have q := r.at' i s h
  rw [List.getElem?_eq_getElem hi] at q ⊢
  exact ⟨_, rfl, q⟩
theorem Rel.getD (r : Rel L H σ ρ) {i : Nat} {x : PyData} (h : ρ[i]? = some (.d x)) : ∃ v, σ[i]? = some (some v) ∧ Br L.K H v x := by
  obtain ⟨o, e, v, e2, q⟩ := r.get h
  exact ⟨v, by rw [e, e2], q⟩
theorem Rel.getO (r : Rel L H σ ρ) {i : Nat} {xs : List PyData} (h : ρ[i]? = some (.own xs)) : ∃ l vs, σ[i]? = some (some (.ref l)) ∧ H l = some (.lst vs) ∧ BrA L.K H vs xs ∧ L.H0 l = none := by
  obtain ⟨o, e, v, e2, l, vs, e3, h1, h2, h3⟩ := r.get h
  exact ⟨l, vs, by rw [e, e2, e3], h1, h2, h3⟩
theorem Rel.getW (r : Rel L H σ ρ) {i : Nat} {xs : Ow} (h : ρ[i]? = some (.ow xs)) : ∃ l u, σ[i]? = some (some (.ref l)) ∧ H l = some u ∧ Loose u ∧ L.H0 l = none := by
  obtain ⟨o, e, v, e2, q⟩ := r.get h
  obtain ⟨l, u, e3, h1, h2, h3⟩ := q.any
  exact ⟨l, u, by rw [e, e2, e3], h1, h2, h3⟩
theorem loose_not_firm {u : HO} (h : Loose u) (f : Firm u) : False := by cases u <;> first | exact h.elim | exact f.elim
theorem Go.rf : Go σ ρ ρ H H := ⟨fun _ _ h _ => h, fun _ xs h => ⟨xs, h⟩, fun _ h => h⟩
theorem Go.sm (k : Same H H') : Go σ ρ ρ H H' := ⟨fun a o h _ => k a o h, fun _ xs h => ⟨xs, h⟩, fun _ h => k.free h⟩
theorem Go.tr {ρ1 ρ2 : En} {H1 H2 : Hp} (p : Go σ ρ ρ1 H H1) (q : Go σ ρ1 ρ2 H1 H2) : Go σ ρ ρ2 H H2 :=
  ⟨fun a o h n => q.stay a o (p.stay a o h n) fun i xs e => let ⟨ys, e'⟩ := p.less i xs e; n i ys e', fun i xs e => let ⟨ys, e'⟩ := q.less i xs e; p.less i ys e', fun a h => p.dom a (q.dom a h)⟩
theorem Go.keep {ρ' : En} (p : Go σ ρ ρ' H H') (r : Rel L H σ ρ) : Keep H H' := fun a o h f => p.stay a o h fun i xs e z => by
  obtain ⟨l, vs, h1, h2, ls, _⟩ := r.getW e
  rw [h1] at z; cases z
  rw [h] at h2; cases h2; exact loose_not_firm ls f
theorem VR.of {Hs : Hp} {v : V} {s : S} (h : FR L H v s) : VR L Hs H v s := by
  cases s with
  | un => exact h
  | d x => exact h
  | ow xs => exact False.elim h
  | ob t => exact h
theorem get_set {α : Type} {l : List α} {i j : Nat} {x : α} : (l.set i x)[j]? = if i = j then (if j < l.length then some x else none) else l[j]? := by
  rw [List.getElem?_set]
  by_cases h : i = j
  · subst h; rfl
  · rw [if_neg h, if_neg h]
/-- a slot takes a firm value -/
theorem Rel.setF (r : Rel L H σ ρ) {i : Nat} {v : V} {s : S} (h : FR L H v s) : Rel L H (σ.set i (some v)) (ρ.set i s) := by
  have nown : ∀ xs, s ≠ .ow xs := fun xs e => by subst e; exact h
  refine ⟨by simp [r.len], fun j z e => ?_, fun j k xs ys e1 e2 e3 => ?_, r.same⟩
  · by_cases hj : i = j
    · subst hj
      rw [get_set, if_pos rfl] at e
      split at e
      · rename_i hl
        cases e
        rw [get_set, if_pos rfl, if_pos (by rw [r.len]; exact hl)]
        cases s with
        | un => exact h.elim
        | d x => exact ⟨v, rfl, h⟩
        | ow xs => exact h.elim
        | ob t => obtain ⟨a, rfl, q⟩ := h; exact ⟨a, rfl, q⟩
      · cases e
    · rw [get_set, if_neg hj] at e ⊢
      exact r.at' j z e
  · have h1 : i ≠ j := fun z => by
      subst z; rw [get_set, if_pos rfl] at e1; split at e1
      · exact nown xs (Option.some.inj e1)
      · cases e1
    have h2 : i ≠ k := fun z => by
      subst z; rw [get_set, if_pos rfl] at e2; split at e2
      · exact nown ys (Option.some.inj e2)
      · cases e2
    rw [get_set, if_neg h1] at e1 e3
    rw [get_set, if_neg h2] at e2 e3
    exact r.sep j k xs ys e1 e2 e3
/-- a slot takes a list of one's own -/
theorem Rel.setO (r : Rel L H σ ρ) {i : Nat} {v : V} {xs : Ow} (h : OR L H v xs) (hs : ∀ (i : Nat) (ys : Ow), ρ[i]? = some (.ow ys) → σ[i]? ≠ some (some v)) : Rel L H (σ.set i (some v)) (ρ.set i (.ow xs)) := by
  refine ⟨by simp [r.len], fun j z e => ?_, fun j k xs ys e1 e2 e3 => ?_, r.same⟩
  · by_cases hj : i = j
    · subst hj
      rw [get_set, if_pos rfl] at e
      split at e
      · rename_i hl
        cases e
        rw [get_set, if_pos rfl, if_pos (by rw [r.len]; exact hl)]
        exact ⟨v, rfl, h⟩
      · cases e
    · rw [get_set, if_neg hj] at e ⊢
      exact r.at' j z e
  · by_cases hj : i = j
    · subst hj
      by_cases hk : i = k
      · exact hk
      · exfalso
        have hl : i < ρ.length := by
          rw [get_set, if_pos rfl] at e1
          split at e1
          · assumption
          · cases e1
        rw [get_set, if_neg hk] at e2
        rw [get_set, if_pos rfl, if_pos (by rw [r.len]; exact hl), get_set, if_neg hk] at e3
        exact hs k ys e2 e3.symm
    · by_cases hk : i = k
      · subst hk
        exfalso
        have hl : i < ρ.length := by
          rw [get_set, if_pos rfl] at e2
          split at e2
          · assumption
          · cases e2
        rw [get_set, if_neg hj] at e1
        rw [get_set, if_neg hj, get_set, if_pos rfl, if_pos (by rw [r.len]; exact hl)] at e3
        exact hs j xs e1 e3
      · rw [get_set, if_neg hj] at e1 e3
        rw [get_set, if_neg hk] at e2 e3
        exact r.sep j k xs ys e1 e2 e3
/-- a list of one's own is changed in place -/
theorem Rel.putW (r : Rel L H σ ρ) {i : Nat} {xs ys : Ow} {l : Addr} {u w : HO} (h : ρ[i]? = some (.ow xs)) (hi : σ[i]? = some (some (.ref l))) (hl : H l = some u) (ls : Loose u) (hw : Keep H (upd H l w) → L.H0 l = none → OR L (upd H l w) (.ref l) ys) :
    Rel L (upd H l w) σ (ρ.set i (.ow ys)) ∧ Keep H (upd H l w) := by
  have k : Keep H (upd H l w) := keep_put hl ls
  obtain ⟨l', vs', hi', hl', _, h0⟩ := r.getW h
  rw [hi] at hi'; cases hi'
  refine ⟨⟨by simp [r.len], fun j z e => ?_, fun j m as bs e1 e2 e3 => ?_, fun b o q => ?_⟩, k⟩
  · by_cases hj : i = j
    · subst hj
      rw [get_set, if_pos rfl] at e
      split at e
      · cases e
        rw [hi]
        exact ⟨.ref l, rfl, hw k h0⟩
      · cases e
    · rw [get_set, if_neg hj] at e
      have q := r.at' j z e
      cases z with
      | un => trivial
      | d x => obtain ⟨v, e2, q⟩ := q; exact ⟨v, e2, Br.keep k _ _ q⟩
      | ow zs =>
        obtain ⟨v, e2, q⟩ := q
        refine ⟨v, e2, q.keep k fun m u' em hu => (upd_ne fun z => hj (r.sep i j xs zs h e ?_)).trans hu⟩
        subst em; subst z
        obtain ⟨o, e4, _⟩ := r.get e
        rw [hi, e4]
        rw [e4] at e2
        exact congrArg some (show some (V.ref m) = o from e2.symm)
      | ob t => obtain ⟨a, e2, q⟩ := q; exact ⟨a, e2, L.J.keep _ _ _ _ k q⟩
  · have f : ∀ (m : Nat) (as : Ow), (ρ.set i (.ow ys))[m]? = some (.ow as) → ∃ cs, ρ[m]? = some (.ow cs) := fun m as e => by
      by_cases hm : i = m
      · subst hm; exact ⟨xs, h⟩
      · rw [get_set, if_neg hm] at e; exact ⟨as, e⟩
    obtain ⟨cs, q1⟩ := f j as e1
    obtain ⟨ds, q2⟩ := f m bs e2
    exact r.sep j m cs ds q1 q2 e3
  · rw [upd_ne (fun z => by rw [z] at q; rw [q] at h0; cases h0)]
    exact r.same _ _ q
theorem Rel.put (r : Rel L H σ ρ) {i : Nat} {xs ys : List PyData} {l : Addr} {vs ws : List V} (h : ρ[i]? = some (.own xs)) (hi : σ[i]? = some (some (.ref l))) (hl : H l = some (.lst vs)) (hw : BrA L.K H ws ys) :
    Rel L (upd H l (.lst ws)) σ (ρ.set i (.own ys)) ∧ Keep H (upd H l (.lst ws)) :=
  r.putW h hi hl trivial fun k h0 => ⟨l, ws, rfl, upd_same, BrA.keep k _ _ hw, h0⟩
/-- a value goes into a slot -/
theorem Rel.set {ρ' : En} {H1 : Hp} (r : Rel L H σ ρ) (r1 : Rel L H1 σ ρ') (g : Go σ ρ ρ' H H1) {i : Nat} {v : V} {s : S} (h : VR L H H1 v s) : Rel L H1 (σ.set i (some v)) (ρ'.set i s) := by
  cases s with
  | un => exact h.elim
  | d x => exact r1.setF h
  | ob t => exact r1.setF h
  | ow xs =>
    refine r1.setO h.1 fun j ys e z => ?_
    obtain ⟨zs, e'⟩ := g.less j ys e
    obtain ⟨l, vs, h1, h2, _⟩ := r.getW e'
    rw [h1] at z; cases z
    rw [h.2 l rfl] at h2; cases h2
end
end GB

namespace GB
open PySem PySem.Spec PyProof.Rows L2

theorem _root_.L2.PE.less {X : Cx} {e : Expr} {t t2 : TE} (h : PE X e t) (w : ∀ σ H Q, t2 σ H Q → t σ H Q) : PE X e t2 := ⟨fun pins s σ H Q I q => h.run pins s σ H Q I (w _ _ _ q)⟩
theorem _root_.L2.PT.less {X : Cx} {e : Expr} {t t2 : TT} (h : PT X e t) (w : ∀ σ H Q, t2 σ H Q → t σ H Q) : PT X e t2 := ⟨fun pins s σ H Q I q => h.run pins s σ H Q I (w _ _ _ q)⟩
theorem _root_.L2.PW.less {X : Cx} {e : Expr} {t t2 : TT} (h : PW X e t) (w : ∀ σ H Q, t2 σ H Q → t σ H Q) : PW X e t2 := ⟨fun wh pins s σ H Q I q => h.run wh pins s σ H Q I (w _ _ _ q)⟩
theorem _root_.L2.PA.less {X : Cx} {e : List Expr} {t t2 : TA} (h : PA X e t) (w : ∀ σ H Q, t2 σ H Q → t σ H Q) : PA X e t2 := ⟨fun pos pins s σ H Q I q => h.run pos pins s σ H Q I (w _ _ _ q)⟩
theorem _root_.L2.PK.less' {X : Cx} {e : List Keyword} {t t2 : TA} (h : PK X e t) (w : ∀ σ H Q, t2 σ H Q → t σ H Q) : PK X e t2 := ⟨fun pos pins s σ H Q I q => h.run pos pins s σ H Q I (w _ _ _ q)⟩
theorem _root_.L2.PS.less {X : Cx} {e : Stmt} {t t2 : TS} (h : PS X e t) (w : ∀ D σ H, t2 D σ H → t D σ H) : PS X e t2 := ⟨fun pins s σ H D I q => h.run pins s σ H D I (w _ _ _ q)⟩
theorem _root_.L2.PSs.less {X : Cx} {e : List Stmt} {t t2 : TS} (h : PSs X e t) (w : ∀ D σ H, t2 D σ H → t D σ H) : PSs X e t2 := ⟨fun pins s σ H D I q => h.run pins s σ H D I (w _ _ _ q)⟩

/-- what a rule wants of its context -/
structure Good (X : Cx) : Prop where
  calm : X.calm = true
  gd : X.A.guards = some []
  sys : ∃ o, X.base.get? sysModules = some o
  un : X.A.units + 200 < cLine
  nd : X.N.Nodup

def S.firm : S → Prop
  | .d _ => True
  | .ob _ => True
  | _ => False
def Ow.fz : Ow → PyData
  | .l xs => .list xs
  | .k kvs => .dict (kvs.map fun p => (keyD p.1, p.2))
  | .io _ xs => .list xs
def S.fz : S → S
  | .ow xs => .d xs.fz
  | s => s
/-! names, constants -/
def dVar (i : Nat) : TEd := fun ρ Q => ∃ s, ρ[i]? = some s ∧ s.firm ∧ Q s ρ
def dK (x : PyData) : TEd := fun ρ Q => Q (.d x) ρ
def dFz (t : TEd) : TEd := fun ρ Q => t ρ fun s ρ' => Q s.fz ρ'
def dFix (i : Nat) : TEd := fun ρ Q => ∃ xs, ρ[i]? = some (.own xs) ∧ Q (.d (.list xs)) (ρ.set i (.d (.list xs)))
section
variable {X : Cx} {L : Lay} {pos : Pos} {e a b c : Expr} {t ta tb tc : TEd}
theorem firm_of {H : Hp} {o : Option V} {s : S} (f : s.firm) (h : SR L H o s) : ∃ v, o = some v ∧ FR L H v s := by
  cases s with
  | un => exact f.elim
  | d x => obtain ⟨v, e, q⟩ := h; exact ⟨v, e, q⟩
  | ow xs => exact f.elim
  | ob t => obtain ⟨a, e, q⟩ := h; exact ⟨_, e, a, rfl, q⟩
theorem de_var {x : Str} (i : Nat) (hN : X.N[i]? = some x := by rfl) (hv : Vis X.env.scope x := by first | exact Or.inl rfl | exact Or.inr (Or.inl rfl) | exact Or.inr (Or.inr rfl))
    (hd : (x == ("__debug__" : Str)) = false := by decide) (hcd : (x == ("__classdict__" : Str)) = false := by decide) : PE X (.Name x pos) (tE L (dVar i)) := by
  refine (pe_var hN hv hd hcd).less fun σ H Q' h => ?_
  obtain ⟨ρ, Q, r, ⟨s, e, f, q⟩, fin⟩ := h
  obtain ⟨o, e2, h2⟩ := r.get e
  obtain ⟨v, rfl, hv⟩ := firm_of f h2
  exact ⟨v, e2, fin v H s ρ Go.rf r (VR.of hv) q⟩
theorem de_k {t0 : TE} {x : PyData} {v : V} (h : PE X e t0) (ht : ∀ σ H Q, Q v H → t0 σ H Q) (hb : ∀ H, Br L.K H v x) : PE X e (tE L (dK x)) := by
  refine h.less fun σ H Q' h => ?_
  obtain ⟨ρ, Q, r, q, fin⟩ := h
  exact ht _ _ _ (fin v H (.d x) ρ Go.rf r (hb H) q)
theorem de_int {i j} : PE X (.Constant (.int i) j pos) (tE L (dK (.int i))) := de_k pe_int (fun _ _ _ q => q) fun _ => .int _
theorem de_bl {b j} : PE X (.Constant (.bool b) j pos) (tE L (dK (.bool b))) := de_k pe_bl (fun _ _ _ q => q) fun _ => .bl _
theorem de_non {j} : PE X (.Constant .none j pos) (tE L (dK .none)) := de_k pe_non (fun _ _ _ q => q) fun _ => .non
theorem de_str {x j} : PE X (.Constant (.str x) j pos) (tE L (dK (.str x))) := de_k pe_str (fun _ _ _ q => q) fun _ => .str _
/-- a constant of the module -/
theorem de_glob {x : Str} {d : PyData} {v : V} {u : Value} (hg : Gl X x) (hm : X.mg x = some u) (r : RelV v u) (hb : ∀ H, Br L.K H v d) (hd : (x == ("__debug__" : Str)) = false := by decide) : PE X (.Name x pos) (tE L (dK d)) :=
  de_k (pe_glob hg hm r hd) (fun _ _ _ q => q) hb

theorem ne_sys {pins : List (Addr × Obj)} {σ : L2.St} {H : Hp} {s : Shared} (I : Inv X pins σ H s) (g : Good X) {l : Addr} {u : HO} (h : H l = some u) : (l == sysModules) = false := by
  obtain ⟨o, ho⟩ := g.sys
  refine beq_eq_false_iff_ne.mpr fun z => ?_
  subst z
  rw [(I.bs _ _ ho).2] at h; cases h
theorem same_fix {H0 H : Hp} {l : Addr} {o : HO} (k : Same H0 H) (h0 : H0 l = none) : Same H0 (upd H l o) := fun b u q => by
  rw [upd_ne (fun z => by rw [z] at q; rw [q] at h0; cases h0)]; exact k _ _ q
/-- what else stays when a list of one's own, in no slot, is fixed -/
theorem Rel.fixOut {H : Hp} {σ : L2.St} {ρ : En} (r : Rel L H σ ρ) {l : Addr} {u : HO} {o : Obj} (hl : H l = some u) (ls : Loose u) (h0 : L.H0 l = none)
    (hs : ∀ (i : Nat) (ys : Ow), ρ[i]? = some (.ow ys) → σ[i]? ≠ some (some (.ref l))) : Rel L (upd H l (.frz o u)) σ ρ := by
  have k := keep_fix (o := o) hl ls
  refine ⟨r.len, fun j z e => ?_, r.sep, same_fix r.same h0⟩
  have q := r.at' j z e
  cases z with
  | un => trivial
  | d x => obtain ⟨v, e2, q⟩ := q; exact ⟨v, e2, Br.keep k _ _ q⟩
  | ow zs =>
    obtain ⟨v, e2, q⟩ := q
    refine ⟨v, e2, q.keep k fun m u' em hu => (upd_ne fun z => ?_).trans hu⟩
    subst em; subst z
    obtain ⟨w, e4, _⟩ := r.get e
    rw [e4] at e2
    refine hs j zs e ?_
    rw [e4]
    exact congrArg some (show w = some (V.ref m) from e2)
  | ob t => obtain ⟨a, e2, q⟩ := q; exact ⟨a, e2, L.J.keep _ _ _ _ k q⟩
theorem Rel.fixW {H : Hp} {σ : L2.St} {ρ : En} (r : Rel L H σ ρ) {i : Nat} {xs : Ow} {l : Addr} {u : HO} {o : Obj} {x : PyData} (h : ρ[i]? = some (.ow xs)) (hi : σ[i]? = some (some (.ref l))) (hl : H l = some u) (ls : Loose u)
    (br0 : Keep H (upd H l (.frz o u)) → Br L.K (upd H l (.frz o u)) (.ref l) x) : Rel L (upd H l (.frz o u)) σ (ρ.set i (.d x)) ∧ Br L.K (upd H l (.frz o u)) (.ref l) x := by
  obtain ⟨l', vs', hi', hl', _, h0⟩ := r.getW h
  rw [hi] at hi'; cases hi'
  rw [hl] at hl'; cases hl'
  have k := keep_fix (o := o) hl ls
  have br := br0 k
  have other : ∀ (j : Nat) (as : Ow), (ρ.set i (.d x))[j]? = some (.ow as) → i ≠ j ∧ ρ[j]? = some (.ow as) := fun j as e => by
    by_cases hj : i = j
    · subst hj
      rw [get_set, if_pos rfl] at e
      split at e <;> cases e
    · rw [get_set, if_neg hj] at e
      exact ⟨hj, e⟩
  refine ⟨⟨by simp [r.len], fun j z e => ?_, fun j m as bs e1 e2 e3 => ?_, same_fix r.same h0⟩, br⟩
  · by_cases hj : i = j
    · subst hj
      rw [get_set, if_pos rfl] at e
      split at e
      · cases e; rw [hi]; exact ⟨_, rfl, br⟩
      · cases e
    · rw [get_set, if_neg hj] at e
      have q := r.at' j z e
      cases z with
      | un => trivial
      | d x => obtain ⟨v, e2, q⟩ := q; exact ⟨v, e2, Br.keep k _ _ q⟩
      | ow zs =>
        obtain ⟨v, e2, q⟩ := q
        refine ⟨v, e2, q.keep k fun m u' em hu => (upd_ne fun z => hj (r.sep i j xs zs h e ?_)).trans hu⟩
        subst em; subst z
        obtain ⟨w, e4, _⟩ := r.get e
        rw [hi, e4]
        rw [e4] at e2
        exact congrArg some (show some (V.ref m) = w from e2.symm)
      | ob t => obtain ⟨a, e2, q⟩ := q; exact ⟨a, e2, L.J.keep _ _ _ _ k q⟩
  · obtain ⟨_, q1⟩ := other j as e1
    obtain ⟨_, q2⟩ := other m bs e2
    exact r.sep j m as bs q1 q2 e3
theorem Rel.fixIn {H : Hp} {σ : L2.St} {ρ : En} (r : Rel L H σ ρ) {i : Nat} {xs : List PyData} {l : Addr} {vs : List V} {o : Obj} (h : ρ[i]? = some (.own xs)) (hi : σ[i]? = some (some (.ref l))) (hl : H l = some (.lst vs)) (ns : (l == sysModules) = false) :
    Rel L (upd H l (.frz o (.lst vs))) σ (ρ.set i (.d (.list xs))) ∧ Br L.K (upd H l (.frz o (.lst vs))) (.ref l) (.list xs) := by
  obtain ⟨l', vs', hi', hl', hb, h0⟩ := r.getO h
  rw [hi] at hi'; cases hi'
  rw [hl] at hl'; cases hl'
  exact r.fixW h hi hl trivial fun k => .lst upd_same ns (BrA.keep k _ _ hb)
theorem dk_br {K : PySem.W.Frag} {H : Hp} {l : Addr} {o : Obj} {vks : List (Key × V)} {kvs : List (Key × PyData)} (h : H l = some (.frz o (.dK vks))) (e : kvs.map (·.1) = vks.map (·.1)) (b : BrA K H (vks.map (·.2)) (kvs.map (·.2))) :
    Br K H (.ref l) (.dict (kvs.map fun p => (keyD p.1, p.2))) := by
  refine .dct h ?_ ?_
  · have := congrArg (List.map keyD) e
    rw [List.map_map, List.map_map] at this
    rw [List.map_map]
    exact this
  · rw [List.map_map]
    exact b
theorem Rel.fixInK {H : Hp} {σ : L2.St} {ρ : En} (r : Rel L H σ ρ) {i : Nat} {kvs : List (Key × PyData)} {l : Addr} {u : HO} {o : Obj} (h : ρ[i]? = some (.od kvs)) (hi : σ[i]? = some (some (.ref l))) (hl : H l = some u) :
    Rel L (upd H l (.frz o u)) σ (ρ.set i (.d (.dict (kvs.map fun p => (keyD p.1, p.2))))) ∧ Br L.K (upd H l (.frz o u)) (.ref l) (.dict (kvs.map fun p => (keyD p.1, p.2))) := by
  obtain ⟨o', e, v, e2, l', vks, e3, hl', hb, h0⟩ := r.get h
  rw [hi, e2, e3] at e; cases e
  rw [hl] at hl'; cases hl'
  exact r.fixW h hi hl trivial fun k => dk_br upd_same hb.1 (BrA.keep k _ _ hb.2)
/-- a fresh list becomes a firm one -/
theorem de_fz (g : Good X) (h : PE X e (tE L t)) : PE X e (tE L (dFz t)) := by
  constructor
  intro pins s σ H Q' I q
  obtain ⟨ρ, Q, r, q, fin⟩ := q
  have q : t ρ fun s ρ' => Q s.fz ρ' := q
  refine thn (h.run pins s σ H (fun v H1 => ∃ s ρ', Go σ ρ ρ' H H1 ∧ Rel L H1 σ ρ' ∧ VR L H H1 v s ∧ Q s.fz ρ') I ⟨ρ, _, r, q, fun v H' s ρ' k r' hv q' => ⟨s, ρ', k, r', hv, q'⟩⟩) fun u s1 z => ?_
  obtain ⟨v, H1, I1, rv, sv, ρ', k, r', hv, q'⟩ := z
  cases sv with
  | un => exact False.elim hv
  | d x => exact ⟨v, H1, I1, rv, fin v H1 (.d x) ρ' k r' hv q'⟩
  | ob t => exact ⟨v, H1, I1, rv, fin v H1 (.ob t) ρ' k r' hv q'⟩
  | ow xs =>
    obtain ⟨hw, hs⟩ := hv
    obtain ⟨l, u, rfl, hl, ls, h0⟩ := hw.any
    obtain ⟨o, I2⟩ := fix_inv I1 hl ls
    have k2 := keep_fix (o := o) hl ls
    have hn : H l = none := hs l rfl
    have br : Br L.K (upd H1 l (.frz o u)) (.ref l) xs.fz := by
      cases xs with
      | l xs => obtain ⟨_, _, e, q1, q2, _⟩ := hw; cases e; rw [hl] at q1; cases q1; exact .lst upd_same (ne_sys I1 g hl) (BrA.keep k2 _ _ q2)
      | k kvs => obtain ⟨_, _, e, q1, q2, _⟩ := hw; cases e; rw [hl] at q1; cases q1; exact dk_br upd_same q2.1 (BrA.keep k2 _ _ q2.2)
      | io m xs => obtain ⟨_, _, e, q1, q2, _⟩ := hw; cases e; rw [hl] at q1; cases q1; exact .lst upd_same (ne_sys I1 g hl) (BrA.keep k2 _ _ q2.1)
    have out : ∀ (i : Nat) (ys : Ow), ρ'[i]? = some (.ow ys) → σ[i]? ≠ some (some (.ref l)) := fun i ys e z => by
      obtain ⟨zs, e'⟩ := k.less i ys e
      obtain ⟨l', vs', h1, h2, _⟩ := r.getW e'
      rw [h1] at z; cases z
      rw [hn] at h2; cases h2
    have go : Go σ ρ ρ' H (upd H1 l (.frz o u)) := by
      refine ⟨fun a o' q n => ?_, k.less, fun a q => ?_⟩
      · rw [upd_ne (fun z => by rw [z, hn] at q; cases q)]; exact k.stay a o' q n
      · by_cases z : a = l
        · rw [z]; exact hn
        · rw [upd_ne z] at q; exact k.dom a q
    exact ⟨.ref l, _, I2, rv, fin (.ref l) _ (.d xs.fz) ρ' go (r'.fixOut hl ls h0 out) br q'⟩
theorem de_fix (g : Good X) {x : Str} (i : Nat) (hN : X.N[i]? = some x := by rfl) (hv : Vis X.env.scope x := by first | exact Or.inl rfl | exact Or.inr (Or.inl rfl) | exact Or.inr (Or.inr rfl))
    (hd : (x == ("__debug__" : Str)) = false := by decide) (hcd : (x == ("__classdict__" : Str)) = false := by decide) : PE X (.Name x pos) (tE L (dFix i)) := by
  constructor
  intro pins s σ H Q' I q
  obtain ⟨ρ, Q, r, ⟨xs, e, q⟩, fin⟩ := q
  obtain ⟨l, vs, hi, hl, hb, h0⟩ := r.getO e
  obtain ⟨o, I2⟩ := fix_inv I hl trivial
  obtain ⟨r2, b2⟩ := r.fixIn (o := o) e hi hl (ne_sys I g hl)
  refine (pe_var (pos := pos) hN hv hd hcd).run pins s σ _ Q' I2 ⟨.ref l, hi, fin _ _ (.d (.list xs)) _ ?_ r2 b2 q⟩
  refine ⟨fun a o' q n => ?_, fun j ys q => ?_, fun a q => ?_⟩
  · rw [upd_ne (fun z => n i _ e (by rw [z]; exact hi))]; exact q
  · by_cases hj : i = j
    · subst hj; rw [get_set, if_pos rfl] at q; split at q <;> cases q
    · rw [get_set, if_neg hj] at q; exact ⟨ys, q⟩
  · by_cases z : a = l
    · rw [z, upd_same] at q; cases q
    · rw [upd_ne z] at q; exact q
end

/-! operations by value -/
def NR (L : Lay) (H H' : Hp) (v : V) : S → Prop
  | .ow (.l xs) => ∃ l vs, v = .ref l ∧ H l = none ∧ H' l = some (.lst vs) ∧ BrA L.K H' vs xs
  | .ow (.k kvs) => ∃ l, ∃ vks : List (Key × V), v = .ref l ∧ H l = none ∧ H' l = some (.dK vks) ∧ kvs.map (·.1) = vks.map (·.1) ∧ BrA L.K H' (vks.map (·.2)) (kvs.map (·.2))
  | s => FR L H' v s
abbrev F2 := PyData → PyData → (S → Prop) → Prop
abbrev FN := List PyData → (S → Prop) → Prop
/-- a value read now: a firm one, or a list of one's own -/
def Bk (L : Lay) (H : Hp) (v : V) : PyData → Prop
  | .list xs => ∃ a vs, v = .ref a ∧ (H a = some (.lst vs) ∨ ∃ o, H a = some (.frz o (.lst vs))) ∧ BrA L.K H vs xs
  | x => Br L.K H v x
theorem Bk.of {L : Lay} {H : Hp} {v : V} {x : PyData} (h : Br L.K H v x) : Bk L H v x := by
  cases h with
  | lst h1 h2 h3 => exact ⟨_, _, rfl, .inr ⟨_, h1⟩, h3⟩
  | non => exact .non
  | bl b => exact .bl b
  | int i => exact .int i
  | str z => exact .str z
  | tup h1 h2 => exact .tup h1 h2
  | dct h1 h2 h3 => exact .dct h1 h2 h3
inductive BkA (L : Lay) (H : Hp) : List V → List PyData → Prop
  | nil : BkA L H [] []
  | cons {v : V} {vs : List V} {x : PyData} {xs : List PyData} : Bk L H v x → BkA L H vs xs → BkA L H (v :: vs) (x :: xs)
theorem BkA.of {L : Lay} {H : Hp} : ∀ {vs : List V} {xs : List PyData}, BrA L.K H vs xs → BkA L H vs xs
  | _, [], h => by cases h; exact .nil
  | _, _ :: _, h => by cases h with | cons h1 h2 => exact .cons (Bk.of h1) (BkA.of h2)
def rD (L : Lay) (f : F2) : R2 := fun v u H Q' => ∃ x y Q, Bk L H v x ∧ Bk L H u y ∧ f x y Q ∧ ∀ w H' s, Same H H' → NR L H H' w s → Q s → Q' w H'
def rN (L : Lay) (f : FN) : List V → Hp → VK → Prop := fun vs H Q' => ∃ xs Q, BkA L H vs xs ∧ f xs Q ∧ ∀ w H' s, Same H H' → NR L H H' w s → Q s → Q' w H'
section
variable {L : Lay} {H H' : Hp} {σ : L2.St} {ρ : En}
theorem NR.vr {Hs : Hp} {ρ0 : En} (r : Rel L H σ ρ) (k : Same H H') (g : Go σ ρ0 ρ Hs H) {v : V} {s : S} (h : NR L H H' v s) : VR L Hs H' v s := by
  cases s with
  | un => exact h
  | d x => exact h
  | ob t => exact h
  | ow o =>
    cases o with
    | l xs =>
      obtain ⟨l, vs, rfl, h1, h2, h3⟩ := h
      exact ⟨⟨l, vs, rfl, h2, h3, r.same.free h1⟩, fun l' e => by cases e; exact g.dom _ h1⟩
    | k kvs =>
      obtain ⟨l, vs, rfl, h1, h2, h3⟩ := h
      exact ⟨⟨l, vs, rfl, h2, h3, r.same.free h1⟩, fun l' e => by cases e; exact g.dom _ h1⟩
    | io m xs => exact h.elim
theorem VR.back {Hs H1 H2 : Hp} {ρ' : En} (g : Go σ ρ ρ' Hs H1) {v : V} {s : S} (h : VR L H1 H2 v s) : VR L Hs H2 v s := by
  cases s with
  | un => exact h
  | d x => exact h
  | ob t => exact h
  | ow xs => exact ⟨h.1, fun l e => g.dom _ (h.2 l e)⟩
end
def dOp (f : F2) (ta tb : TEd) : TEd := fun ρ Q => ta ρ fun s1 ρ1 => tb ρ1 fun s2 ρ2 => ∃ x y, s1 = .d x ∧ s2 = .d y ∧ f x y fun s => Q s ρ2
def dN (f : FN) (ta : TAd) : TEd := fun ρ Q => ta ρ fun ss ρ1 => ∃ xs, ss = xs.map S.d ∧ f xs fun s => Q s ρ1
section
variable {X : Cx} {L : Lay} {pos p : Pos} {e a b c : Expr} {es : List Expr} {t ta tb tc : TEd} {tas : TAd}
theorem tE_op {r : R2} {f : F2} (hr : ∀ v u H Q, rD L f v u H Q → r v u H Q) : ∀ σ H Q, tE L (dOp f ta tb) σ H Q → tOp r (tE L ta) (tE L tb) σ H Q := fun σ H Q' h => by
  obtain ⟨ρ, Q, r0, q, fin⟩ := h
  refine ⟨ρ, _, r0, q, fun v H1 s ρ1 k1 r1 hv q1 => ?_⟩
  refine ⟨ρ1, _, r1, q1, fun u H2 s2 ρ2 k2 r2 hu q2 => ?_⟩
  obtain ⟨x, y, rfl, rfl, q3⟩ := q2
  exact hr _ _ _ _ ⟨x, y, _, Bk.of (Br.keep (k2.keep r1) _ _ hv), Bk.of hu, q3, fun w H3 s3 sm nr q4 => fin w H3 s3 ρ2 ((k1.tr k2).tr (Go.sm sm)) (r2.go sm) (nr.vr r2 sm (k1.tr k2)) q4⟩
theorem de_op {op : Operator} {f : F2} (ho : OpR X (binaryOp op) (rD L f)) (ha : PE X a (tE L ta)) (hb : PE X b (tE L tb)) : PE X (.BinOp a op b pos) (tE L (dOp f ta tb)) :=
  (pe_op ho ha hb).less (tE_op fun _ _ _ _ q => q)
theorem de_cmp {op : CmpOp} {f : F2} (ho : OpR X (compareOp op) (rD L f)) (ha : PE X a (tE L ta)) (hb : PE X b (tE L tb)) (hm : behindInMarks op b = false) : PE X (.Compare a [op] [b] pos) (tE L (dOp f ta tb)) :=
  (pe_cmpR ho ha hb hm).less (tE_op fun _ _ _ _ q => q)
theorem de_ix {f : F2} (ho : IxR X (rD L f)) (ha : PE X a (tE L ta)) (hb : PE X b (tE L tb)) (hs : PlainIx b) : PE X (.Subscript a b pos) (tE L (dOp f ta tb)) :=
  (pe_ix ho ha hb hs).less (tE_op fun _ _ _ _ q => q)
/-- tests -/
def dB (t : TEd) : TTd := fun ρ Q => t ρ fun s ρ1 => ∃ b, s = .d (.bool b) ∧ Q b ρ1
theorem tT_of {t0 : TE} (h0 : ∀ σ H Q, tE L t σ H Q → t0 σ H Q) : ∀ σ H Q, tT L (dB t) σ H Q → tTest t0 σ H Q := fun σ H Q' h => by
  obtain ⟨ρ, Q, r0, q, fin⟩ := h
  refine h0 _ _ _ ⟨ρ, _, r0, q, fun v H1 s ρ1 k1 r1 hv q1 => ?_⟩
  obtain ⟨b, rfl, q2⟩ := q1
  have hv : Br L.K H1 v (.bool b) := hv
  cases hv
  exact ⟨b, rfl, fin b H1 ρ1 k1 r1 q2⟩
theorem dt_cmp {op : CmpOp} {f : F2} (ho : OpR X (compareOp op) (rD L f)) (ha : PE X a (tE L ta)) (hb : PE X b (tE L tb)) (hm : behindInMarks op b = false) : PT X (.Compare a [op] [b] pos) (tT L (dB (dOp f ta tb))) :=
  (pt_cmpR ho ha hb hm).less (tT_of (tE_op fun _ _ _ _ q => q))
theorem dt_val (h : PE X e (tE L t)) (he : ∀ whole, isTrue e X.env whole = (do let v ← whole; standAt e.pos; holding [v] (truthy v)) := by intro _; rfl) : PT X e (tT L (dB t)) :=
  (pt_val h he).less (tT_of fun _ _ _ q => q)
def dNot (t : TTd) : TTd := fun ρ Q => t ρ fun b ρ1 => Q (!b) ρ1
def dAnd (t u : TTd) : TTd := fun ρ Q => t ρ fun b ρ1 => if b = true then u ρ1 Q else Q false ρ1
def dOr (t u : TTd) : TTd := fun ρ Q => t ρ fun b ρ1 => if b = true then Q true ρ1 else u ρ1 Q
variable {tq tr : TTd} {rest : List Expr}
theorem dt_not (h : PT X a (tT L tq)) : PT X (.UnaryOp .Not a pos) (tT L (dNot tq)) := by
  refine (pt_not h).less fun σ H Q' h => ?_
  obtain ⟨ρ, Q, r0, q, fin⟩ := h
  exact ⟨ρ, _, r0, q, fun b H1 ρ1 k1 r1 q1 => fin (!b) H1 ρ1 k1 r1 q1⟩
theorem dw_and1 (h : PT X a (tT L tq)) : PW X (.BoolOp .And [a] pos) (tT L tq) := pw_and1 h
theorem dw_or1 (h : PT X a (tT L tq)) : PW X (.BoolOp .Or [a] pos) (tT L tq) := pw_or1 h
theorem dw_and (h : PT X a (tT L tq)) (h2 : PW X (.BoolOp .And (b :: rest) pos) (tT L tr)) : PW X (.BoolOp .And (a :: b :: rest) pos) (tT L (dAnd tq tr)) := by
  refine (pw_and h h2).less fun σ H Q' h => ?_
  obtain ⟨ρ, Q, r0, q, fin⟩ := h
  refine ⟨ρ, _, r0, q, fun b H1 ρ1 k1 r1 q1 => ?_⟩
  cases b with
  | true => exact ⟨ρ1, _, r1, by simpa using q1, fun b H2 ρ2 k2 r2 q2 => fin b H2 ρ2 (k1.tr k2) r2 q2⟩
  | false => exact fin false H1 ρ1 k1 r1 (by simpa using q1)
theorem dw_or (h : PT X a (tT L tq)) (h2 : PW X (.BoolOp .Or (b :: rest) pos) (tT L tr)) : PW X (.BoolOp .Or (a :: b :: rest) pos) (tT L (dOr tq tr)) := by
  refine (pw_or h h2).less fun σ H Q' h => ?_
  obtain ⟨ρ, Q, r0, q, fin⟩ := h
  refine ⟨ρ, _, r0, q, fun b H1 ρ1 k1 r1 q1 => ?_⟩
  cases b with
  | false => exact ⟨ρ1, _, r1, by simpa using q1, fun b H2 ρ2 k2 r2 q2 => fin b H2 ρ2 (k1.tr k2) r2 q2⟩
  | true => exact fin true H1 ρ1 k1 r1 (by simpa using q1)
/-- a test's outcome as a value -/
def dTV (t : TTd) : TEd := fun ρ Q => t ρ fun b ρ1 => Q (.d (.bool b)) ρ1
def dAndV (ta tb : TEd) : TEd := fun ρ Q => ta ρ fun s ρ1 => ∃ b, s = .d (.bool b) ∧ if b = true then tb ρ1 Q else Q (.d (.bool false)) ρ1
def dOrV (ta tb : TEd) : TEd := fun ρ Q => ta ρ fun s ρ1 => ∃ b, s = .d (.bool b) ∧ if b = true then Q (.d (.bool true)) ρ1 else tb ρ1 Q
def dNotV (ta : TEd) : TEd := fun ρ Q => ta ρ fun s ρ1 => ∃ b, s = .d (.bool b) ∧ Q (.d (.bool (!b))) ρ1
theorem de_one {op} (h : PE X a (tE L t)) : PE X (.BoolOp op [a] pos) (tE L t) := pe_one h
theorem de_and (h : PE X a (tE L ta)) (h2 : PE X (.BoolOp .And (b :: rest) pos) (tE L tb)) : PE X (.BoolOp .And (a :: b :: rest) pos) (tE L (dAndV ta tb)) := by
  refine (pe_and h h2).less fun σ H Q' h => ?_
  obtain ⟨ρ, Q, r0, q, fin⟩ := h
  refine ⟨ρ, _, r0, q, fun v H1 s ρ1 k1 r1 hv q1 => ?_⟩
  obtain ⟨b, rfl, q2⟩ := q1
  have hv : Br L.K H1 v (.bool b) := hv
  cases hv
  refine ⟨b, rfl, ?_⟩
  cases b with
  | true => exact ⟨ρ1, _, r1, by simpa using q2, fun v H2 s ρ2 k2 r2 hv q3 => fin v H2 s ρ2 (k1.tr k2) r2 (hv.back k1) q3⟩
  | false => exact fin _ H1 (.d (.bool false)) ρ1 k1 r1 (.bl _) (by simpa using q2)
theorem de_or (h : PE X a (tE L ta)) (h2 : PE X (.BoolOp .Or (b :: rest) pos) (tE L tb)) : PE X (.BoolOp .Or (a :: b :: rest) pos) (tE L (dOrV ta tb)) := by
  refine (pe_or h h2).less fun σ H Q' h => ?_
  obtain ⟨ρ, Q, r0, q, fin⟩ := h
  refine ⟨ρ, _, r0, q, fun v H1 s ρ1 k1 r1 hv q1 => ?_⟩
  obtain ⟨b, rfl, q2⟩ := q1
  have hv : Br L.K H1 v (.bool b) := hv
  cases hv
  refine ⟨b, rfl, ?_⟩
  cases b with
  | false => exact ⟨ρ1, _, r1, by simpa using q2, fun v H2 s ρ2 k2 r2 hv q3 => fin v H2 s ρ2 (k1.tr k2) r2 (hv.back k1) q3⟩
  | true => exact fin _ H1 (.d (.bool true)) ρ1 k1 r1 (.bl _) (by simpa using q2)
theorem de_not (h : PE X a (tE L ta)) : PE X (.UnaryOp .Not a pos) (tE L (dNotV ta)) := by
  refine (pe_not h).less fun σ H Q' h => ?_
  obtain ⟨ρ, Q, r0, q, fin⟩ := h
  refine ⟨ρ, _, r0, q, fun v H1 s ρ1 k1 r1 hv q1 => ?_⟩
  obtain ⟨b, rfl, q2⟩ := q1
  have hv : Br L.K H1 v (.bool b) := hv
  cases hv
  exact ⟨b, rfl, fin _ H1 (.d (.bool (!b))) ρ1 k1 r1 (.bl _) q2⟩
def dIf (t : TTd) (ta tb : TEd) : TEd := fun ρ Q => t ρ fun b ρ1 => if b = true then ta ρ1 Q else tb ρ1 Q
theorem de_if (h : PT X c (tT L tq)) (ha : PE X a (tE L ta)) (hb : PE X b (tE L tb)) : PE X (.IfExp c a b pos) (tE L (dIf tq ta tb)) := by
  refine (pe_ifExp h ha hb).less fun σ H Q' h => ?_
  obtain ⟨ρ, Q, r0, q, fin⟩ := h
  refine ⟨ρ, _, r0, q, fun b H1 ρ1 k1 r1 q1 => ?_⟩
  cases b with
  | true => exact ⟨ρ1, _, r1, by simpa using q1, fun v H2 s ρ2 k2 r2 hv q2 => fin v H2 s ρ2 (k1.tr k2) r2 (hv.back k1) q2⟩
  | false => exact ⟨ρ1, _, r1, by simpa using q1, fun v H2 s ρ2 k2 r2 hv q2 => fin v H2 s ρ2 (k1.tr k2) r2 (hv.back k1) q2⟩
/-! argument lists -/
def dNil : TAd := fun ρ Q => Q [] ρ
def dCons (t : TEd) (tr : TAd) : TAd := fun ρ Q => t ρ fun s ρ1 => s.firm ∧ tr ρ1 fun ss ρ2 => Q (s :: ss) ρ2
theorem fr_of {Hs H : Hp} {v : V} {s : S} (f : s.firm) (h : VR L Hs H v s) : FR L H v s := by
  cases s with
  | un => exact f.elim
  | d x => exact h
  | ow xs => exact f.elim
  | ob t => exact h
theorem da_nil : PA X [] (tA L dNil) := by
  refine pa_nil.less fun σ H Q' h => ?_
  obtain ⟨ρ, Q, r0, q, fin⟩ := h
  exact fin [] H [] ρ Go.rf r0 .nil q
theorem da_cons (h : PE X e (tE L t)) (hr : PA X es (tA L tas)) (hs : starEach (e :: es) X.env = (false, eval e X.env) :: starEach es X.env := by rfl) : PA X (e :: es) (tA L (dCons t tas)) := by
  refine (pa_cons h hr hs).less fun σ H Q' h => ?_
  obtain ⟨ρ, Q, r0, q, fin⟩ := h
  refine ⟨ρ, _, r0, q, fun v H1 s ρ1 k1 r1 hv q1 => ?_⟩
  obtain ⟨f, q2⟩ := q1
  refine ⟨ρ1, _, r1, q2, fun vs H2 ss ρ2 k2 r2 hvs q3 => ?_⟩
  exact fin (v :: vs) H2 (s :: ss) ρ2 (k1.tr k2) r2 (.cons ((fr_of f hv).keep (k2.keep r1)) hvs) q3
theorem frs_brA {H : Hp} {vs : List V} {xs : List PyData} (h : FRs L H vs (xs.map S.d)) : BrA L.K H vs xs := by
  induction xs generalizing vs with
  | nil => cases h; exact .nil
  | cons x xs ih => cases h with | cons h1 h2 => exact .cons h1 (ih h2)
/-- displays -/
def dTup (ta : TAd) : TEd := fun ρ Q => ta ρ fun ss ρ1 => ∃ xs, ss = xs.map S.d ∧ xs.length ≤ sizeLine ∧ Q (.d (.tuple xs)) ρ1
def dLst (ta : TAd) : TEd := fun ρ Q => ta ρ fun ss ρ1 => ∃ xs, ss = xs.map S.d ∧ xs.length ≤ sizeLine ∧ Q (.own xs) ρ1
theorem de_tup {x1} (h : PA X es (tA L tas)) : PE X (.Tuple es x1 pos) (tE L (dTup tas)) := by
  refine (pe_tup h).less fun σ H Q' h => ?_
  obtain ⟨ρ, Q, r0, q, fin⟩ := h
  refine ⟨ρ, _, r0, q, fun vs H1 ss ρ1 k1 r1 hv q1 => ?_⟩
  obtain ⟨xs, rfl, hz, q2⟩ := q1
  have hb := frs_brA hv
  refine ⟨by rw [hb.len]; exact hz, fun p hp => ?_⟩
  have sm := same_new (o := .tup vs) hp
  exact fin _ _ (.d (.tuple xs)) ρ1 (k1.tr (Go.sm sm)) (r1.go sm) (.tup (.of upd_same) (BrA.keep (keep_of_same sm) _ _ hb)) q2
theorem de_lst (h : PA X es (tA L tas)) : PE X (.List es pos) (tE L (dLst tas)) := by
  refine (pe_lst h).less fun σ H Q' h => ?_
  obtain ⟨ρ, Q, r0, q, fin⟩ := h
  refine ⟨ρ, _, r0, q, fun vs H1 ss ρ1 k1 r1 hv q1 => ?_⟩
  obtain ⟨xs, rfl, hz, q2⟩ := q1
  have hb := frs_brA hv
  refine ⟨by rw [hb.len]; exact hz, fun p hp => ?_⟩
  have sm := same_new (o := .lst vs) hp
  exact fin _ _ (.own xs) ρ1 (k1.tr (Go.sm sm)) (r1.go sm) (NR.vr (s := .own xs) r1 sm k1 ⟨p, vs, rfl, hp, upd_same, BrA.keep (keep_of_same sm) _ _ hb⟩) q2
/-- calls of built-in things -/
theorem tE_n {r : List V → Hp → VK → Prop} {f : FN} (hr : ∀ v H Q, rN L f v H Q → r v H Q) : ∀ σ H Q, tE L (dN f tas) σ H Q → tCB r (tA L tas) σ H Q := fun σ H Q' h => by
  obtain ⟨ρ, Q, r0, q, fin⟩ := h
  refine ⟨ρ, _, r0, q, fun vs H1 ss ρ1 k1 r1 hv q1 => ?_⟩
  obtain ⟨xs, rfl, q2⟩ := q1
  exact hr _ _ _ ⟨xs, _, BkA.of (frs_brA hv), q2, fun w H2 s sm nr q3 => fin w H2 s ρ1 (k1.tr (Go.sm sm)) (r1.go sm) (nr.vr r1 sm k1) q3⟩
theorem de_callB {x : Str} {id : String} {f : FN} (hc : CallR X (.builtin id) (rN L f)) (hg : Gl X x) (hm : X.mg x = none) (hv : bootBuiltins x = some (.builtin id)) (ha : PA X (e :: es) (tA L tas)) (hn : x ≠ "__name__" := by decide)
    (hdb : (x == ("__debug__" : Str)) = false := by decide) (he : starEach (e :: es) X.env = (false, eval e X.env) :: starEach es X.env := by rfl) (hpl : (backTo pos (starEach es X.env)).any (·.1) = false := by rfl) :
    PE X (.Call (.Name x p) (e :: es) [] pos) (tE L (dN f tas)) := (pe_callB hc hg hm hv ha hn hdb he hpl).less (tE_n fun _ _ _ q => q)
theorem de_callT {x : Str} {T : String} {f : FN} (hc : CallR X (.type T) (rN L f)) (hg : Gl X x) (hm : X.mg x = none) (hv : bootBuiltins x = some (.type T)) (ha : PA X (e :: es) (tA L tas)) (hn : x ≠ "__name__" := by decide)
    (hdb : (x == ("__debug__" : Str)) = false := by decide) (he : starEach (e :: es) X.env = (false, eval e X.env) :: starEach es X.env := by rfl) (hpl : (backTo pos (starEach es X.env)).any (·.1) = false := by rfl) :
    PE X (.Call (.Name x p) (e :: es) [] pos) (tE L (dN f tas)) := (pe_callTy hc hg hm hv ha hn hdb he hpl).less (tE_n fun _ _ _ q => q)
/-! with lists of one's own, read in place -/
theorem pk_own {H : Hp} {σ : L2.St} {ρ : En} (r : Rel L H σ ρ) {i : Nat} {xs : List PyData} (h : ρ[i]? = some (.own xs)) : ∃ v, σ[i]? = some (some v) ∧ Bk L H v (.list xs) := by
  obtain ⟨l, vs, h1, h2, h3, _⟩ := r.getO h
  exact ⟨_, h1, l, vs, rfl, .inl h2, h3⟩
def dOpL (i : Nat) (f : F2) (tb : TEd) : TEd := fun ρ Q => (∃ ys, ρ[i]? = some (.own ys)) ∧ tb ρ fun s2 ρ2 => ∃ xs y, ρ2[i]? = some (.own xs) ∧ s2 = .d y ∧ f (.list xs) y fun s => Q s ρ2
def dOpR (f : F2) (ta : TEd) (i : Nat) : TEd := fun ρ Q => ta ρ fun s1 ρ1 => ∃ x ys, s1 = .d x ∧ ρ1[i]? = some (.own ys) ∧ f x (.list ys) fun s => Q s ρ1
def dN1 (f : FN) (i : Nat) : TEd := fun ρ Q => ∃ xs, ρ[i]? = some (.own xs) ∧ f [.list xs] fun s => Q s ρ
theorem tE_opL {r : R2} {f : F2} {i : Nat} (hr : ∀ v u H Q, rD L f v u H Q → r v u H Q) : ∀ σ H Q, tE L (dOpL i f tb) σ H Q → tOp r (tVar i) (tE L tb) σ H Q := fun σ H Q' h => by
  obtain ⟨ρ, Q, r0, ⟨⟨ys, ey⟩, q⟩, fin⟩ := h
  obtain ⟨l, vs, h1, _⟩ := r0.getO ey
  refine ⟨_, h1, ρ, _, r0, q, fun u H2 s2 ρ2 k2 r2 hu q2 => ?_⟩
  obtain ⟨xs, y, ex, rfl, q3⟩ := q2
  obtain ⟨v, h2, hv⟩ := pk_own r2 ex
  rw [h1] at h2; cases h2
  exact hr _ _ _ _ ⟨.list xs, y, _, hv, Bk.of hu, q3, fun w H3 s3 sm nr q4 => fin w H3 s3 ρ2 (k2.tr (Go.sm sm)) (r2.go sm) (nr.vr r2 sm k2) q4⟩
theorem tE_opR {r : R2} {f : F2} {i : Nat} (hr : ∀ v u H Q, rD L f v u H Q → r v u H Q) : ∀ σ H Q, tE L (dOpR f ta i) σ H Q → tOp r (tE L ta) (tVar i) σ H Q := fun σ H Q' h => by
  obtain ⟨ρ, Q, r0, q, fin⟩ := h
  refine ⟨ρ, _, r0, q, fun v H1 s ρ1 k1 r1 hv q1 => ?_⟩
  obtain ⟨x, ys, rfl, ey, q3⟩ := q1
  obtain ⟨u, h2, hu⟩ := pk_own r1 ey
  exact ⟨u, h2, hr _ _ _ _ ⟨x, .list ys, _, Bk.of hv, hu, q3, fun w H3 s3 sm nr q4 => fin w H3 s3 ρ1 (k1.tr (Go.sm sm)) (r1.go sm) (nr.vr r1 sm k1) q4⟩⟩
theorem tE_n1 {r : List V → Hp → VK → Prop} {f : FN} {i : Nat} (hr : ∀ v H Q, rN L f v H Q → r v H Q) : ∀ σ H Q, tE L (dN1 f i) σ H Q → tCB r (tCons (tVar i) tNil) σ H Q := fun σ H Q' h => by
  obtain ⟨ρ, Q, r0, ⟨xs, ex, q⟩, fin⟩ := h
  obtain ⟨v, h1, hv⟩ := pk_own r0 ex
  exact ⟨v, h1, hr _ _ _ ⟨[.list xs], _, .cons hv .nil, q, fun w H2 s sm nr q3 => fin w H2 s ρ (Go.sm sm) (r0.go sm) (nr.vr r0 sm Go.rf) q3⟩⟩
section
variable {px : Pos} {x y : Str} {i : Nat} {op : Operator} {cop : CmpOp} {f : F2} {fn : FN}
theorem de_opL (ho : OpR X (binaryOp op) (rD L f)) (hx : PE X a (tVar i)) (hb : PE X b (tE L tb)) : PE X (.BinOp a op b pos) (tE L (dOpL i f tb)) := (pe_op ho hx hb).less (tE_opL fun _ _ _ _ q => q)
theorem de_opR (ho : OpR X (binaryOp op) (rD L f)) (ha : PE X a (tE L ta)) (hx : PE X b (tVar i)) : PE X (.BinOp a op b pos) (tE L (dOpR f ta i)) := (pe_op ho ha hx).less (tE_opR fun _ _ _ _ q => q)
theorem de_cmpL (ho : OpR X (compareOp cop) (rD L f)) (hx : PE X a (tVar i)) (hb : PE X b (tE L tb)) (hm : behindInMarks cop b = false) : PE X (.Compare a [cop] [b] pos) (tE L (dOpL i f tb)) := (pe_cmpR ho hx hb hm).less (tE_opL fun _ _ _ _ q => q)
theorem de_cmpR (ho : OpR X (compareOp cop) (rD L f)) (ha : PE X a (tE L ta)) (hx : PE X b (tVar i)) (hm : behindInMarks cop b = false) : PE X (.Compare a [cop] [b] pos) (tE L (dOpR f ta i)) := (pe_cmpR ho ha hx hm).less (tE_opR fun _ _ _ _ q => q)
theorem dt_cmpL (ho : OpR X (compareOp cop) (rD L f)) (hx : PE X a (tVar i)) (hb : PE X b (tE L tb)) (hm : behindInMarks cop b = false) : PT X (.Compare a [cop] [b] pos) (tT L (dB (dOpL i f tb))) := (pt_cmpR ho hx hb hm).less (tT_of (tE_opL fun _ _ _ _ q => q))
theorem dt_cmpR (ho : OpR X (compareOp cop) (rD L f)) (ha : PE X a (tE L ta)) (hx : PE X b (tVar i)) (hm : behindInMarks cop b = false) : PT X (.Compare a [cop] [b] pos) (tT L (dB (dOpR f ta i))) := (pt_cmpR ho ha hx hm).less (tT_of (tE_opR fun _ _ _ _ q => q))
theorem de_ixL (ho : IxR X (rD L f)) (hx : PE X a (tVar i)) (hb : PE X b (tE L tb)) (hs : PlainIx b) : PE X (.Subscript a b pos) (tE L (dOpL i f tb)) := (pe_ix ho hx hb hs).less (tE_opL fun _ _ _ _ q => q)
theorem de_callB1 {id : String} (hc : CallR X (.builtin id) (rN L fn)) (hg : Gl X x) (hm : X.mg x = none) (hv : bootBuiltins x = some (.builtin id)) (hx : PE X a (tVar i)) (hn : x ≠ "__name__" := by decide) (hdb : (x == ("__debug__" : Str)) = false := by decide)
    (h1 : starEach (a :: []) X.env = (false, eval a X.env) :: starEach [] X.env := by rfl) (he : starEach (a :: []) X.env = (false, eval a X.env) :: starEach [] X.env := by rfl) (hpl : (backTo pos (starEach [] X.env)).any (·.1) = false := by rfl) :
    PE X (.Call (.Name x p) [a] [] pos) (tE L (dN1 fn i)) := (pe_callB hc hg hm hv (pa_cons hx pa_nil h1) hn hdb he hpl).less (tE_n1 fun _ _ _ q => q)
theorem de_callT1 {T : String} (hc : CallR X (.type T) (rN L fn)) (hg : Gl X x) (hm : X.mg x = none) (hv : bootBuiltins x = some (.type T)) (hx : PE X a (tVar i)) (hn : x ≠ "__name__" := by decide) (hdb : (x == ("__debug__" : Str)) = false := by decide)
    (h1 : starEach (a :: []) X.env = (false, eval a X.env) :: starEach [] X.env := by rfl) (he : starEach (a :: []) X.env = (false, eval a X.env) :: starEach [] X.env := by rfl) (hpl : (backTo pos (starEach [] X.env)).any (·.1) = false := by rfl) :
    PE X (.Call (.Name x p) [a] [] pos) (tE L (dN1 fn i)) := (pe_callTy hc hg hm hv (pa_cons hx pa_nil h1) hn hdb he hpl).less (tE_n1 fun _ _ _ q => q)
end
end
end GB

namespace GB
open PySem PySem.Spec PyProof.Rows L2 HT

/-! rows times numbers -/
theorem tmul_same (l : Addr) (items : Array Value) (n : Nat) (dd : Option Addr) (sl : Array (Option Value)) (x : Int) (u : Tok) (c0 : (decide (x < -(2 ^ 63)) || decide (x ≥ 2 ^ 63)) = false) (c1 : (items.isEmpty || x == 1) = true) :
    Meets (Builtin.«tuple.__mul__» ⟨[.ref l, .int x u], []⟩) (fun _ R s => s.heap.get? l = some { cls := .type "tuple", dict := dd, data := .seq items n, slots := sl } ∧ R (.ok (.ret (Value.ref l))) s) :=
  .of_wp fun prog w A R s h => by
    obtain ⟨hp, g, d, tk, os⟩ := s
    obtain ⟨hl, h⟩ := h
    have f1 := AutoSeq1.idx_int
    wp_walk using wpAny_loadPart' hl
    refine wpAny_ite_false (decide_eq_false (by rw [c0]; exact Bool.false_ne_true)) ?_
    wp_walk using wpAny_loadPart' hl
    exact ⟨_, rfl, h⟩
theorem tmul_none (l : Addr) (items : Array Value) (n : Nat) (dd : Option Addr) (sl : Array (Option Value)) (x : Int) (u : Tok) (c0 : (decide (x < -(2 ^ 63)) || decide (x ≥ 2 ^ 63)) = false) (c1 : (items.isEmpty || x == 1) = false) (c2 : (decide (x ≤ 0) || items.isEmpty) = true) :
    Meets (Builtin.«tuple.__mul__» ⟨[.ref l, .int x u], []⟩) (fun _ R s => s.heap.get? l = some { cls := .type "tuple", dict := dd, data := .seq items n, slots := sl } ∧ R (.ok (.ret (Value.ref s.heap.objs.size))) { s with heap := s.heap.push { cls := Value.type "tuple", data := Data.seq #[] }, toks := s.toks }) :=
  .of_wp fun prog w A R s h => by
    obtain ⟨hp, g, d, tk, os⟩ := s
    obtain ⟨hl, h⟩ := h
    have f1 := AutoSeq1.idx_int
    wp_walk using wpAny_loadPart' hl
    refine wpAny_ite_false (decide_eq_false (by rw [c0]; exact Bool.false_ne_true)) ?_
    wp_walk using wpAny_loadPart' hl
    exact ⟨_, rfl, h⟩

/-! arithmetic -/
def fI2 (g : Int → Int → PyData) (c : Int → Int → Prop) : F2 := fun x y Q => ∃ i j, x = .int i ∧ y = .int j ∧ c i j ∧ Q (.d (g i j))
def fAdd : F2 := fun x y Q => match x, y with
  | .int i, .int j => Q (.d (.int (i + j)))
  | .str a, .str b => a.length + b.length ≤ sizeLine ∧ Q (.d (.str (a ++ b)))
  | .tuple xs, .tuple ys => xs.length + ys.length ≤ sizeLine ∧ Q (.d (.tuple (xs ++ ys)))
  | .list xs, .list ys => xs.length + ys.length ≤ sizeLine ∧ Q (.own (xs ++ ys))
  | _, _ => False
abbrev fSub : F2 := fI2 (fun i j => .int (i - j)) fun _ _ => True
abbrev fDiv : F2 := fI2 (fun i j => .int (i / j)) fun _ j => 0 < j ∧ j < 2 ^ 2000
abbrev fMod : F2 := fI2 (fun i j => .int (i % j)) fun _ j => 0 < j
abbrev fPow : F2 := fI2 (fun i j => .int (i ^ j.toNat)) CPow
/-- numbers of a million bits together; rows times small numbers -/
def fMul : F2 := fun x y Q => match x, y with
  | .int i, .int j => (CMul i j ∨ CMulW i j) ∧ Q (.d (.int (i * j)))
  | .tuple xs, .int k => -(2 ^ 62) < k ∧ k < 2 ^ 62 ∧ xs.length * k.toNat ≤ sizeLine ∧ Q (.d (.tuple (List.replicate k.toNat xs).flatten))
  | .list xs, .int k => -(2 ^ 62) < k ∧ k < 2 ^ 62 ∧ xs.length * k.toNat ≤ sizeLine ∧ Q (.own (List.replicate k.toNat xs).flatten)
  | _, _ => False
/-- what == is asked of: rows without dicts, and any two texts -/
def eqOk : PyData → PyData → Bool
  | .str _, .str _ => true
  | x, y => SeqAt.shaped x && SeqAt.shaped y
def fEq : F2 := fun x y Q => eqOk x y = true ∧ Q (.d (.bool (PyData.eqv x y)))
def fNe : F2 := fun x y Q => eqOk x y = true ∧ Q (.d (.bool (!PyData.eqv x y)))
theorem eqOk_cases {x y : PyData} (h : eqOk x y = true) : (∃ a b, x = .str a ∧ y = .str b) ∨ (SeqAt.shaped x = true ∧ SeqAt.shaped y = true) := by
  cases x <;> cases y <;> first
    | exact .inl ⟨_, _, rfl, rfl⟩
    | exact .inr (by simpa [eqOk] using h)
abbrev fLt : F2 := fI2 (fun i j => .bool (decide (i < j))) fun _ _ => True
abbrev fLe : F2 := fI2 (fun i j => .bool (decide (i ≤ j))) fun _ _ => True
abbrev fGt : F2 := fI2 (fun i j => .bool (decide (j < i))) fun _ _ => True
abbrev fGe : F2 := fI2 (fun i j => .bool (decide (j ≤ i))) fun _ _ => True
def isNon : PyData → Bool
  | .none => true
  | _ => false
def fIs : F2 := fun x y Q => y = .none ∧ Q (.d (.bool (isNon x)))
def fIsNot : F2 := fun x y Q => y = .none ∧ Q (.d (.bool (!isNon x)))
/-- x in c -/
def inD (x : PyData) (c : PyData) : Option Bool := match c with
  | .list xs => if SeqAt.shaped x = true ∧ SeqAt.shaped (.list xs) = true then some (xs.any fun z => PyData.eqv z x) else none
  | .tuple xs => if SeqAt.shaped x = true ∧ SeqAt.shaped (.tuple xs) = true then some (xs.any fun z => PyData.eqv z x) else none
  | _ => none
def fIn : F2 := fun x c Q => ∃ b, inD x c = some b ∧ Q (.d (.bool b))
def fNotIn : F2 := fun x c Q => ∃ b, inD x c = some b ∧ Q (.d (.bool (!b)))
def fIx : F2 := fun x y Q => ∃ i, y = .int i ∧ match x with
  | .list xs => ∃ v, atI xs i = some v ∧ Q (.d v)
  | .tuple xs => ∃ v, atI xs i = some v ∧ Q (.d v)
  | .str z => z.length ≤ sizeLine ∧ ∃ c, atI z.cps.toList i = some c ∧ Q (.d (.str ⟨#[c]⟩))
  | _ => False
def fLen : FN := fun xs Q => match xs with
  | [.list ys] => Q (.d (.int ys.length))
  | [.tuple ys] => Q (.d (.int ys.length))
  | [.str z] => z.length ≤ sizeLine ∧ Q (.d (.int z.length))
  | _ => False
def fAbs : FN := fun xs Q => ∃ i, xs = [.int i] ∧ Q (.d (.int i.natAbs))
def fInt : FN := fun xs Q => match xs with
  | [.int i] => Q (.d (.int i))
  | [.bool b] => Q (.d (.int (if b then 1 else 0)))
  | _ => False
def fTuple : FN := fun xs Q => match xs with
  | [.list ys] => Q (.d (.tuple ys))
  | [.tuple ys] => Q (.d (.tuple ys))
  | _ => False
def fList : FN := fun xs Q => match xs with
  | [.list ys] => Q (.own ys)
  | [.tuple ys] => Q (.own ys)
  | _ => False
def fRepr : FN := fun xs Q => ∃ x, xs = [x] ∧ x.showable = true ∧ x.shown.length ≤ sizeLine ∧ x.depth ≤ 60 ∧ Q (.d (.str x.shown))
section
variable {X : Cx} {L : Lay}
theorem nr_d {H : Hp} {v : V} {x : PyData} (h : Br L.K H v x) : NR L H H v (.d x) := h
theorem op2_int {g : Value → Value → Sem Value} {gi : Int → Int → V} {gd : Int → Int → PyData} {c : Int → Int → Prop} {r : R2} (h : OpR X g r) (hr : ∀ v u H Q, (∃ i j, v = .int i ∧ u = .int j ∧ c i j ∧ Q (gi i j) H) → r v u H Q) (hb : ∀ H i j, Br L.K H (gi i j) (gd i j)) :
    OpR X g (rD L (fI2 gd c)) := by
  intro pins s σ H x y v u Q' I rx ry q
  obtain ⟨dx, dy, Q, bx, by_, ⟨i, j, rfl, rfl, hc, q⟩, fin⟩ := q
  have bx : Br L.K H x (.int i) := bx
  have by_ : Br L.K H y (.int j) := by_
  cases bx
  cases by_
  exact h pins s σ H _ _ v u Q' I rx ry (hr _ _ _ _ ⟨i, j, rfl, rfl, hc, fin _ H _ (Same.refl H) (nr_d (hb H i j)) q⟩)
theorem o_sub : OpR X (binaryOp .Sub) (rD L fSub) := op2_int op_sub (fun _ _ _ _ ⟨i, j, e1, e2, _, q⟩ => ⟨i, j, e1, e2, q⟩) fun _ _ _ => .int _
theorem o_mod : OpR X (binaryOp .Mod) (rD L fMod) := op2_int op_mod (fun _ _ _ _ h => h) fun _ _ _ => .int _
theorem o_div : OpR X (binaryOp .FloorDiv) (rD L fDiv) := op2_int op_fdivW (fun _ _ _ _ ⟨i, j, e1, e2, ⟨h1, h2⟩, q⟩ => ⟨i, j, e1, e2, wide_div (b := 2000) h1 (by omega) (by decide) (by decide), q⟩) fun _ _ _ => .int _
theorem o_pow : OpR X (binaryOp .Pow) (rD L fPow) := op2_int op_pow (fun _ _ _ _ h => h) fun _ _ _ => .int _
theorem o_lt : OpR X (compareOp .Lt) (rD L fLt) := op2_int op_lt (fun _ _ _ _ ⟨i, j, e1, e2, _, q⟩ => ⟨i, j, e1, e2, q⟩) fun _ _ _ => .bl _
theorem o_le : OpR X (compareOp .LtE) (rD L fLe) := op2_int op_le (fun _ _ _ _ ⟨i, j, e1, e2, _, q⟩ => ⟨i, j, e1, e2, q⟩) fun _ _ _ => .bl _
theorem o_gt : OpR X (compareOp .Gt) (rD L fGt) := op2_int op_gt (fun _ _ _ _ ⟨i, j, e1, e2, _, q⟩ => ⟨i, j, e1, e2, q⟩) fun _ _ _ => .bl _
theorem o_ge : OpR X (compareOp .GtE) (rD L fGe) := op2_int op_ge (fun _ _ _ _ ⟨i, j, e1, e2, _, q⟩ => ⟨i, j, e1, e2, q⟩) fun _ _ _ => .bl _
theorem isNon_v {H : Hp} {v : V} {x : PyData} (h : Bk L H v x) : decide (v = .non) = isNon x := by
  cases x with
  | list xs => obtain ⟨a, vs, rfl, _⟩ := h; rfl
  | _ => (have h : Br L.K H v _ := h; cases h <;> rfl)
theorem o_is : OpR X (compareOp .Is) (rD L fIs) := by
  intro pins s σ H x y v u Q' I rx ry q
  obtain ⟨dx, dy, Q, bx, by_, ⟨rfl, q⟩, fin⟩ := q
  have by_ : Br L.K H y .none := by_
  cases by_
  refine op_isN pins s σ H _ _ v u Q' I rx ry ⟨rfl, ?_⟩
  rw [isNon_v bx]
  exact fin _ H _ (Same.refl H) (nr_d (.bl _)) q
theorem o_isnot : OpR X (compareOp .IsNot) (rD L fIsNot) := by
  intro pins s σ H x y v u Q' I rx ry q
  obtain ⟨dx, dy, Q, bx, by_, ⟨rfl, q⟩, fin⟩ := q
  have by_ : Br L.K H y .none := by_
  cases by_
  refine op_notN pins s σ H _ _ v u Q' I rx ry ⟨rfl, ?_⟩
  rw [isNon_v bx]
  exact fin _ H _ (Same.refl H) (nr_d (.bl _)) q
variable (hK : L.K = X.K)
include hK
theorem Bk.reads {pins : List (Addr × Obj)} {s : Shared} {σ : L2.St} {H : Hp} (I : Inv X pins σ H s) {v : V} {u : Value} {d : PyData} (h : Bk L H v d) (r : RelV v u) : ∃ as, Reads s.heap u d as := by
  cases d with
  | list xs =>
    obtain ⟨a, vs, rfl, h1, h2⟩ := h
    have sq : SqL X.K H a vs := by
      rcases h1 with h1 | ⟨o, h1⟩
      · exact .inl (.inl h1)
      · exact .inl (.inr ⟨o, h1⟩)
    obtain ⟨its, rv, ⟨o, n, ho, hc, _, hd⟩, _⟩ := I.list sq
    cases r
    rw [hK] at h2
    obtain ⟨as, q1, q2⟩ := BrA.reads I xs _ its h2 rv
    exact ⟨_, .list ho hc hd q1⟩
  | _ =>
    (have h : Br L.K H v _ := h
     rw [hK] at h
     obtain ⟨as, q, _⟩ := Br.reads I _ v u h r
     exact ⟨as, q⟩)
theorem o_eq (g : Good X) : OpR X (compareOp .Eq) (rD L fEq) := by
  intro pins s σ H x y v u Q' I rx ry q
  obtain ⟨dx, dy, Q, bx, by_, ⟨s0, q⟩, fin⟩ := q
  rcases eqOk_cases s0 with ⟨a, b, rfl, rfl⟩ | ⟨s1, s2⟩
  · have bx : Br L.K H x (.str a) := bx
    have by_ : Br L.K H y (.str b) := by_
    cases bx; cases by_
    refine op_eq pins s σ H _ _ v u Q' I rx ry ⟨rfl, fin _ H (.d (.bool _)) (Same.refl H) (nr_d (.bl _)) ?_⟩
    have e : decide (V.str a = V.str b) = PyData.eqv (.str a) (.str b) := by
      by_cases h : a = b
      · subst h; simp [PyData.eqv]
      · simp [PyData.eqv, h]
    rw [e]; exact q
  obtain ⟨as, r1⟩ := Bk.reads hK I bx rx
  obtain ⟨bs, r2⟩ := Bk.reads hK I by_ ry
  exact eq_dataH r1 r2 s1 s2 (by have := g.un; omega) ⟨.bl _, H, I, rfl, fin _ H _ (Same.refl H) (nr_d (.bl _)) q⟩
theorem o_ne (g : Good X) : OpR X (compareOp .NotEq) (rD L fNe) := by
  intro pins s σ H x y v u Q' I rx ry q
  obtain ⟨dx, dy, Q, bx, by_, ⟨s0, q⟩, fin⟩ := q
  rcases eqOk_cases s0 with ⟨a, b, rfl, rfl⟩ | ⟨s1, s2⟩
  · have bx : Br L.K H x (.str a) := bx
    have by_ : Br L.K H y (.str b) := by_
    cases bx; cases by_
    refine op_ne pins s σ H _ _ v u Q' I rx ry ⟨rfl, fin _ H (.d (.bool _)) (Same.refl H) (nr_d (.bl _)) ?_⟩
    have e : decide (V.str a = V.str b) = PyData.eqv (.str a) (.str b) := by
      by_cases h : a = b
      · subst h; simp [PyData.eqv]
      · simp [PyData.eqv, h]
    rw [e]; exact q
  obtain ⟨as, r1⟩ := Bk.reads hK I bx rx
  obtain ⟨bs, r2⟩ := Bk.reads hK I by_ ry
  exact ne_dataH r1 r2 s1 s2 (by have := g.un; omega) ⟨.bl _, H, I, rfl, fin _ H _ (Same.refl H) (nr_d (.bl _)) q⟩
theorem lay_list {xs : List PyData} (h : SeqAt.shaped (.list xs) = true) : PyData.canLayAll0 xs = true := SeqAt.canLay_of_shaped h
theorem lay_tup {xs : List PyData} (h : SeqAt.shaped (.tuple xs) = true) : PyData.canLayAll0 xs = true := SeqAt.canLay_of_shaped h
theorem in_run (g : Good X) {pins : List (Addr × Obj)} {s : Shared} {σ : L2.St} {H : Hp} {x y : V} {v u : Value} {dx dy : PyData} {b : Bool} (I : Inv X pins σ H s) (rx : RelV x v) (ry : RelV y u) (bx : Bk L H x dx) (by_ : Bk L H y dy) (e : inD dx dy = some b)
    {E Q : Value → Shared → Prop} : (Q (.bool b) s → wpAny (model X.prog X.w) X.A (compareOp .In v u) Q E s) ∧ (Q (.bool (!b)) s → wpAny (model X.prog X.w) X.A (compareOp .NotIn v u) Q E s) := by
  obtain ⟨as, r1⟩ := Bk.reads hK I bx rx
  obtain ⟨bs, r2⟩ := Bk.reads hK I by_ ry
  cases dy with
  | list xs =>
    unfold inD at e
    simp only at e
    split at e
    · rename_i h
      cases e
      have hr := room_in_shaped (A := X.A) (xs := xs) h.1 (by have := g.un; omega)
      exact ⟨fun q => SeqAt.in_list_reads r2 r1 (SeqAt.canLay_of_shaped h.2) (SeqAt.canLay_of_shaped h.1) hr q, fun q => SeqAt.notIn_list_reads r2 r1 (SeqAt.canLay_of_shaped h.2) (SeqAt.canLay_of_shaped h.1) hr q⟩
    · cases e
  | tuple xs =>
    unfold inD at e
    simp only at e
    split at e
    · rename_i h
      cases e
      have hr := room_in_shaped (A := X.A) (xs := xs) h.1 (by have := g.un; omega)
      exact ⟨fun q => SeqAt.in_tuple_reads r2 r1 (SeqAt.canLay_of_shaped h.2) (SeqAt.canLay_of_shaped h.1) hr q, fun q => SeqAt.notIn_tuple_reads r2 r1 (SeqAt.canLay_of_shaped h.2) (SeqAt.canLay_of_shaped h.1) hr q⟩
    · cases e
  | _ => cases e
theorem o_in (g : Good X) : OpR X (compareOp .In) (rD L fIn) := by
  intro pins s σ H x y v u Q' I rx ry q
  obtain ⟨dx, dy, Q, bx, by_, ⟨b, e, q⟩, fin⟩ := q
  exact (in_run hK g I rx ry bx by_ e).1 ⟨.bl _, H, I, rfl, fin _ H _ (Same.refl H) (nr_d (.bl _)) q⟩
theorem o_notin (g : Good X) : OpR X (compareOp .NotIn) (rD L fNotIn) := by
  intro pins s σ H x y v u Q' I rx ry q
  obtain ⟨dx, dy, Q, bx, by_, ⟨b, e, q⟩, fin⟩ := q
  exact (in_run hK g I rx ry bx by_ e).2 ⟨.bl _, H, I, rfl, fin _ H _ (Same.refl H) (nr_d (.bl _)) q⟩
/-- a firm list in the plain heap -/
theorem list_at {pins : List (Addr × Obj)} {s : Shared} {σ : L2.St} {H : Hp} (I : Inv X pins σ H s) {v : V} {ds : List PyData} (b : Bk L H v (.list ds)) :
    ∃ a vs its n, v = .ref a ∧ BrA L.K H vs ds ∧ Vals vs its ∧ s.heap.get? a = some { cls := .type "list", data := .seq its.toArray n } ∧ vs.length ≤ sizeLine := by
  obtain ⟨a, vs, rfl, h1, h3⟩ := b
  rcases h1 with h1 | ⟨o, h1⟩
  · obtain ⟨hz, its, n, r, e⟩ := I.hok _ _ h1
    exact ⟨_, _, its, n, rfl, h3, r, e, hz⟩
  · obtain ⟨_, hz, its, n, r, e⟩ := I.hok _ _ h1
    exact ⟨_, _, its, n, rfl, h3, r, e, hz⟩
theorem Bk.readsN (g : Good X) {pins : List (Addr × Obj)} {s : Shared} {σ : L2.St} {H : Hp} (I : Inv X pins σ H s) {v : V} {u : Value} {d : PyData} (h : Bk L H v d) (r : RelV v u) : ∃ as, Reads s.heap u d as ∧ sysModules ∉ as := by
  cases d with
  | list xs =>
    obtain ⟨a, vs, rfl, h1, h2⟩ := h
    have ⟨sq, ns⟩ : SqL X.K H a vs ∧ (a == sysModules) = false := by
      rcases h1 with h1 | ⟨o, h1⟩
      · exact ⟨.inl (.inl h1), ne_sys I g h1⟩
      · exact ⟨.inl (.inr ⟨o, h1⟩), ne_sys I g h1⟩
    obtain ⟨its, rv, ⟨o, n, ho, hc, _, hd⟩, _⟩ := I.list sq
    cases r
    rw [hK] at h2
    obtain ⟨as, q1, q2⟩ := BrA.reads I xs _ its h2 rv
    exact ⟨_, .list ho hc hd q1, not_sys ns q2⟩
  | _ =>
    (have h : Br L.K H v _ := h
     rw [hK] at h
     exact Br.reads I _ v u h r)
theorem list_sq {H : Hp} {v : V} {ds : List PyData} (b : Bk L H v (.list ds)) : ∃ a vs, v = .ref a ∧ SqL X.K H a vs ∧ BrA L.K H vs ds := by
  obtain ⟨a, vs, rfl, h1, h3⟩ := b
  rcases h1 with h1 | ⟨o, h1⟩
  · exact ⟨a, vs, rfl, .inl (.inl h1), h3⟩
  · exact ⟨a, vs, rfl, .inl (.inr ⟨o, h1⟩), h3⟩
theorem o_add : OpR X (binaryOp .Add) (rD L fAdd) := by
  intro pins s σ H x y v u Q' I rx ry q
  obtain ⟨dx, dy, Q, bx, by_, q, fin⟩ := q
  unfold fAdd at q
  split at q
  · rename_i i j
    have bx : Br L.K H x (.int i) := bx
    have by_ : Br L.K H y (.int j) := by_
    cases bx; cases by_
    exact op_add pins s σ H _ _ v u Q' I rx ry ⟨_, _, rfl, rfl, fin _ H _ (Same.refl H) (nr_d (.int _)) q⟩
  · rename_i i j
    have bx : Br L.K H x (.str i) := bx
    have by_ : Br L.K H y (.str j) := by_
    cases bx; cases by_
    exact op_add_str pins s σ H _ _ v u Q' I rx ry ⟨_, _, rfl, rfl, q.1, fin _ H _ (Same.refl H) (nr_d (.str _)) q.2⟩
  · rename_i xs ys
    have bx : Br L.K H x (.tuple xs) := bx
    have by_ : Br L.K H y (.tuple ys) := by_
    cases bx with
    | tup h1 h2 =>
      cases by_ with
      | tup h3 h4 =>
        rw [hK] at h1 h3
        refine op_catA pins s σ H _ _ v u Q' I rx ry ⟨_, _, _, _, rfl, rfl, h1, h3, by rw [h2.len, h4.len]; exact q.1, fun e => ?_, fun e1 e2 => ?_, fun _ _ p hp => ?_⟩
        · have ex : xs = [] := by have := h2.len; rw [e] at this; exact List.length_eq_zero_iff.mp this.symm
          subst ex
          exact fin _ H _ (Same.refl H) (nr_d (.tup (by rw [hK]; exact h3) h4)) (by simpa using q.2)
        · have ex : ys = [] := by have := h4.len; rw [e2] at this; exact List.length_eq_zero_iff.mp this.symm
          subst ex
          exact fin _ H _ (Same.refl H) (nr_d (.tup (by rw [hK]; exact h1) h2)) (by simpa using q.2)
        · exact fin _ _ (.d _) (same_new hp) (.tup (.of upd_same) (BrA.keep (keep_of_same (same_new hp)) _ _ (h2.app h4))) q.2
  · rename_i xs ys
    obtain ⟨a, vs, its, n, rfl, b1, r1, e1, z1⟩ := list_at hK I bx
    obtain ⟨b, ws, its2, n2, rfl, b2, r2, e2, z2⟩ := list_at hK I by_
    cases rx; cases ry
    have l1 := r1.length
    have l2 := r2.length
    have hz : vs.length + ws.length ≤ sizeLine := by rw [b1.len, b2.len]; exact q.1
    refine PySem.P.add_list e1 e2 ?_ (by rw [List.size_toArray, List.size_toArray]; omega)
    rw [List.append_toArray]
    have sm := same_new (o := .lst (vs ++ ws)) I.fresh
    exact ⟨.ref _, _, I.lnew (t' := s.toks) (r1.append r2) (by rw [List.length_append]; exact hz), rfl, fin _ _ (.own _) sm ⟨_, _, rfl, I.fresh, upd_same, BrA.keep (keep_of_same sm) _ _ (b1.app b2)⟩ q.2⟩
  · exact q.elim
theorem o_mul : OpR X (binaryOp .Mult) (rD L fMul) := by
  intro pins s σ H x y v u Q' I rx ry q
  obtain ⟨dx, dy, Q, bx, by_, q, fin⟩ := q
  unfold fMul at q
  split at q
  · rename_i i j
    have bx : Br L.K H x (.int i) := bx
    have by_ : Br L.K H y (.int j) := by_
    cases bx; cases by_
    rcases q.1 with hc | hc
    · exact op_mul pins s σ H _ _ v u Q' I rx ry ⟨_, _, rfl, rfl, hc, fin _ H _ (Same.refl H) (nr_d (.int _)) q.2⟩
    · exact op_mulW pins s σ H _ _ v u Q' I rx ry ⟨_, _, rfl, rfl, hc, fin _ H _ (Same.refl H) (nr_d (.int _)) q.2⟩
  · rename_i xs k
    obtain ⟨hk1, hk2, hk3, q⟩ : -(2 ^ 62) < k ∧ k < 2 ^ 62 ∧ xs.length * k.toNat ≤ sizeLine ∧ Q (.d (.tuple (List.replicate k.toNat xs).flatten)) := q
    have bx : Br L.K H x (.tuple xs) := bx
    have by_ : Br L.K H y (.int k) := by_
    cases by_
    obtain ⟨t, rfl⟩ := ry
    cases bx with
    | tup h1 h2 =>
      rename_i l vs
      cases rx
      have h1' := h1
      rw [hK] at h1
      obtain ⟨its, r, ⟨⟨cls, dd, data, sl⟩, ho, hc, n, hd⟩, hs⟩ := I.tuple h1
      simp only at hc hd
      subst hc hd
      have hv := r.length
      have hx := h2.len
      have sz : its.toArray.size = xs.length := by rw [List.size_toArray]; omega
      have c0 : (decide (k < -(2 ^ 63)) || decide (k ≥ 2 ^ 63)) = false := by
        rw [decide_eq_false (by omega), decide_eq_false (by omega)]; rfl
      refine wpAny_binaryOp_repeat_ref (T := "tuple") (U := "int") (by decide) ⟨_, ho, rfl⟩ (fun s' => typeIs_int s' k t) noFill_tuple_mul F.fills_int_mul F.slot_int_rmul repeat_tuple F.slot_int_index.lookup
        (call_meets F.slot_int_rmul (typeIs_int s k t) F.entry_int_rmul (F.args_int_rmul_2 _ _) (int_rmul_tuple k t l its.toArray n dd sl) ⟨ho, rfl, ⟨_, ho, rfl⟩, ?_⟩)
      by_cases c1 : (its.toArray.isEmpty || k == 1) = true
      · refine call_meets F.slot_tuple_mul ⟨_, ho, rfl⟩ F.entry_tuple_mul (F.args_tuple_mul_2 _ _) (tmul_same l its.toArray n dd sl k t c0 c1) ⟨ho, ?_⟩
        have e : (List.replicate k.toNat xs).flatten = xs := by
          rcases Bool.or_eq_true_iff.mp c1 with z | z
          · have : xs = [] := by
              have : its.toArray.size = 0 := by simpa using z
              exact List.length_eq_zero_iff.mp (by omega)
            subst this; simp
          · have : k = 1 := by simpa using z
            subst this; simp
        rw [e] at q
        exact ⟨.ref l, H, I, rfl, fin _ H (.d (.tuple xs)) (Same.refl H) (nr_d (.tup h1' h2)) q⟩
      · have c1 : (its.toArray.isEmpty || k == 1) = false := by simpa using c1
        by_cases c2 : (decide (k ≤ 0) || its.toArray.isEmpty) = true
        · refine call_meets F.slot_tuple_mul ⟨_, ho, rfl⟩ F.entry_tuple_mul (F.args_tuple_mul_2 _ _) (tmul_none l its.toArray n dd sl k t c0 c1 c2) ⟨ho, ?_⟩
          have hk0 : k ≤ 0 := by
            rcases Bool.or_eq_true_iff.mp c2 with z | z
            · exact of_decide_eq_true z
            · rw [z, Bool.true_or] at c1; cases c1
          have e : (List.replicate k.toNat xs).flatten = [] := by
            have : k.toNat = 0 := by omega
            rw [this]; rfl
          rw [e] at q
          refine ⟨.ref s.heap.objs.size, _, I.laid (t' := s.toks) (o := .tup []) (fun b ob q => Heap.get?_push_of_some _ q) (Nat.le_refl _) ⟨Nat.zero_le _, [], .nil, IsTup.new _ _⟩, rfl, ?_⟩
          exact fin _ _ (.d (.tuple [])) (same_new I.fresh) (.tup (.of upd_same) .nil) q
        · have c2 : (decide (k ≤ 0) || its.toArray.isEmpty) = false := by simpa using c2
          have hk0 : 0 < k := by
            have := (Bool.or_eq_false_iff.mp c2).1
            have := of_decide_eq_false this
            omega
          have hm : ((its.toArray.size : Nat) : Int) * k = ((xs.length * k.toNat : Nat) : Int) := by
            rw [sz]; push_cast; rw [Int.toNat_of_nonneg (by omega)]
          have sl16 := sizeLine_eq
          have c4 : Builtin.Tuple.tupleTooMany (((its.toArray.size : Nat) : Int) * k) = false := by
            unfold Builtin.Tuple.tupleTooMany
            rw [hm]
            exact decide_eq_false (by omega)
          have lf : (List.replicate k.toNat its).flatten.length ≤ sizeLine := by
            rw [PyProof.Rows.lm_len_rep_flat, Nat.mul_comm, show its.length = xs.length by omega]; exact hk3
          refine call_meets F.slot_tuple_mul ⟨_, ho, rfl⟩ F.entry_tuple_mul (F.args_tuple_mul_2 _ _) (tuple_mulW l its.toArray n dd sl k t c0 c1 c2 (by rw [hm]; omega) c4 (by rw [size_rep, List.size_toArray]; exact lf)) ⟨ho, ?_⟩
          rw [size_rep]
          have lv : (List.replicate k.toNat vs).flatten.length ≤ sizeLine := by
            rw [PyProof.Rows.lm_len_rep_flat, Nat.mul_comm, show vs.length = xs.length by omega]; exact hk3
          refine ⟨.ref s.heap.objs.size, _, I.laid (t' := s.toks) (o := .tup (List.replicate k.toNat vs).flatten) (fun b ob q => Heap.get?_push_of_some _ q) (Nat.le_refl _) ⟨lv, _, r.rep k.toNat, IsTup.new _ _⟩, rfl, ?_⟩
          exact fin _ _ (.d _) (same_new I.fresh) (.tup (.of upd_same) (BrA.keep (keep_of_same (same_new I.fresh)) _ _ (h2.rep _))) q
  · rename_i xs k
    obtain ⟨hk1, hk2, hk3, q⟩ : -(2 ^ 62) < k ∧ k < 2 ^ 62 ∧ xs.length * k.toNat ≤ sizeLine ∧ Q (.own (List.replicate k.toNat xs).flatten) := q
    have by_ : Br L.K H y (.int k) := by_
    cases by_
    obtain ⟨t, rfl⟩ := ry
    obtain ⟨l, vs, its, n, rfl, b1, r, e, hz⟩ := list_at hK I bx
    cases rx
    have hv := r.length
    have hx := b1.len
    have sl16 := sizeLine_eq
    have sz : its.toArray.size = xs.length := by rw [List.size_toArray]; omega
    have fill : List.foldl (fun x1 x2 => x1 ++ x2) #[] (List.replicate (if its.toArray.isEmpty = true then 0 else k.toNat) its.toArray) = (List.replicate k.toNat its).flatten.toArray := by
      rw [size_rep]
      cases its with
      | nil => simp
      | cons a r' => rw [if_neg (by simp)]
    refine wpAny_binaryOp_repeat_ref (T := "list") (U := "int") (by decide) ⟨_, e, rfl⟩ (fun s' => typeIs_int s' k t) noFill_list_mul F.fills_int_mul F.slot_int_rmul repeat_list F.slot_int_index.lookup
      (call_meets F.slot_int_rmul (typeIs_int s k t) F.entry_int_rmul (F.args_int_rmul_2 _ _) (int___rmul___int_list k t l its.toArray n)
        ⟨e, rfl, ⟨_, e, rfl⟩, call_meets F.slot_list_mul ⟨_, e, rfl⟩ F.entry_list_mul (F.args_list_mul_2 _ _) (AutoListH.list___mul___list_int_3 l its.toArray n k t ?_ ?_ ?_) ⟨e, ?_⟩⟩)
    · rw [fitsIndex_both (by omega) (by omega)]; exact Bool.false_ne_true
    · rw [sz]; omega
    · rw [notLongL (by rw [sz]; exact hk3)]; exact Bool.false_ne_true
    · rw [fill]
      have lv : (List.replicate k.toNat vs).flatten.length ≤ sizeLine := by
        rw [PyProof.Rows.lm_len_rep_flat, Nat.mul_comm, show vs.length = xs.length by omega]; exact hk3
      exact ⟨.ref _, _, I.lnew (t' := s.toks) (r.rep k.toNat) lv, rfl, fin _ _ (.own _) (same_new I.fresh) ⟨_, _, rfl, I.fresh, upd_same, BrA.keep (keep_of_same (same_new I.fresh)) _ _ (b1.rep _)⟩ q⟩
  · exact q.elim
theorem i_at : IxR X (rD L fIx) := by
  intro ev es pins s σ H x y v u Q' I rx ry q hs
  obtain ⟨dx, dy, Q, bx, by_, ⟨i, rfl, q⟩, fin⟩ := q
  have by_ : Br L.K H y (.int i) := by_
  cases by_
  cases dx with
  | list xs =>
    obtain ⟨d, e, q⟩ := q
    obtain ⟨a, vs, rfl, h1, h3⟩ := list_sq hK bx
    · obtain ⟨j, hj, e3, _⟩ := atI_get e
      obtain ⟨v1, e4, b1⟩ := h3.get e3
      have e5 : atI vs i = some v1 := by
        unfold atI at e ⊢
        rw [h3.len]
        cases hx : ixN xs.length i with
        | none => rw [hx] at e; cases e
        | some k =>
          obtain ⟨q1, _, _, _⟩ := ixN_seq hx
          have : k = j := Option.some.inj (q1.symm.trans hj)
          subst this
          exact e4
      exact ix_list ev es pins s σ H _ _ v u Q' I rx ry ⟨_, _, i, v1, rfl, rfl, h1, e5, fin _ H _ (Same.refl H) (nr_d b1) q⟩ hs
  | tuple xs =>
    obtain ⟨d, e, q⟩ := q
    have bx : Br L.K H x (.tuple xs) := bx
    cases bx with
    | tup h1 h3 =>
      rename_i a vs
      rw [hK] at h1
      obtain ⟨j, hj, e3, _⟩ := atI_get e
      obtain ⟨v1, e4, b1⟩ := h3.get e3
      have e5 : atI vs i = some v1 := by
        unfold atI at e ⊢
        rw [h3.len]
        cases hx : ixN xs.length i with
        | none => rw [hx] at e; cases e
        | some k =>
          obtain ⟨q1, _, _, _⟩ := ixN_seq hx
          have : k = j := Option.some.inj (q1.symm.trans hj)
          subst this
          exact e4
      exact ix_tup ev es pins s σ H _ _ v u Q' I rx ry ⟨_, _, i, v1, rfl, rfl, h1, e5, fin _ H _ (Same.refl H) (nr_d b1) q⟩ hs
  | str z =>
    obtain ⟨hz, c, e, q⟩ := q
    have bx : Br L.K H x (.str z) := bx
    cases bx
    exact ix_str ev es pins s σ H _ _ v u Q' I rx ry ⟨z, i, c, rfl, rfl, hz, e, fin _ H _ (Same.refl H) (nr_d (.str _)) q⟩ hs
  | _ => exact q.elim
theorem brA1 {H : Hp} {vs : List V} {x : PyData} (h : BkA L H vs [x]) : ∃ v, vs = [v] ∧ Bk L H v x := by
  cases h with | cons h1 h2 => cases h2; exact ⟨_, rfl, h1⟩
theorem c_len : CallR X (.builtin "len") (rN L fLen) := by
  intro pins s σ H vs us Q' I r q
  obtain ⟨xs, Q, b, q, fin⟩ := q
  unfold fLen at q
  split at q
  · obtain ⟨v, rfl, b1⟩ := brA1 hK b
    obtain ⟨a, vs, rfl, h1, h3⟩ := list_sq hK b1
    exact call_len_seq pins s σ H _ us Q' I r ⟨_, _, rfl, .inl h1, fin _ H _ (Same.refl H) (nr_d (.int _)) (by rw [h3.len]; exact q)⟩
  · obtain ⟨v, rfl, b1⟩ := brA1 hK b
    cases b1 with
    | tup h1 h3 => rw [hK] at h1; exact call_len_seq pins s σ H _ us Q' I r ⟨_, _, rfl, .inr h1, fin _ H _ (Same.refl H) (nr_d (.int _)) (by rw [h3.len]; exact q)⟩
  · obtain ⟨v, rfl, b1⟩ := brA1 hK b
    cases b1
    exact call_len_str pins s σ H _ us Q' I r ⟨_, rfl, q.1, fin _ H _ (Same.refl H) (nr_d (.int _)) q.2⟩
  · exact q.elim
theorem c_abs : CallR X (.builtin "abs") (rN L fAbs) := by
  intro pins s σ H vs us Q' I r q
  obtain ⟨xs, Q, b, ⟨i, rfl, q⟩, fin⟩ := q
  obtain ⟨v, rfl, b1⟩ := brA1 hK b
  cases b1
  refine call_abs pins s σ H _ us Q' I r ⟨i, rfl, fin _ H (.d (.int i.natAbs)) (Same.refl H) ?_ q⟩
  have : (if i < 0 then -i else i) = (i.natAbs : Int) := by split <;> omega
  rw [this]; exact nr_d (.int _)
theorem c_int : CallR X (.type "int") (rN L fInt) := by
  intro pins s σ H vs us Q' I r q
  obtain ⟨xs, Q, b, q, fin⟩ := q
  unfold fInt at q
  split at q
  · obtain ⟨v, rfl, b1⟩ := brA1 hK b
    cases b1
    exact call_int1 pins s σ H _ us Q' I r (.inl ⟨_, rfl, fin _ H _ (Same.refl H) (nr_d (.int _)) q⟩)
  · obtain ⟨v, rfl, b1⟩ := brA1 hK b
    cases b1
    exact call_int1 pins s σ H _ us Q' I r (.inr ⟨_, rfl, fin _ H _ (Same.refl H) (nr_d (.int _)) q⟩)
  · exact q.elim
theorem c_tuple : CallR X (.type "tuple") (rN L fTuple) := by
  intro pins s σ H vs us Q' I r q
  obtain ⟨xs, Q, b, q, fin⟩ := q
  unfold fTuple at q
  split at q
  · obtain ⟨v, rfl, b1⟩ := brA1 hK b
    obtain ⟨a, vs, rfl, h1, h3⟩ := list_sq hK b1
    · refine call_tuple_of pins s σ H _ us Q' I r ⟨_, _, rfl, .inl ⟨h1, fun l hl => ?_⟩⟩
      exact fin _ _ (.d _) (same_new hl) (.tup (.of upd_same) (BrA.keep (keep_of_same (same_new hl)) _ _ h3)) q
  · obtain ⟨v, rfl, b1⟩ := brA1 hK b
    cases b1 with
    | tup h1 h3 =>
      rw [hK] at h1
      exact call_tuple_of pins s σ H _ us Q' I r ⟨_, _, rfl, .inr ⟨h1, fin _ H _ (Same.refl H) (nr_d (.tup (by rw [hK]; exact h1) h3)) q⟩⟩
  · exact q.elim
theorem c_list : CallR X (.type "list") (rN L fList) := by
  intro pins s σ H vs us Q' I r q
  obtain ⟨xs, Q, b, q, fin⟩ := q
  unfold fList at q
  split at q
  · obtain ⟨v, rfl, b1⟩ := brA1 hK b
    obtain ⟨a, vs, rfl, h1, h3⟩ := list_sq hK b1
    · refine call_list_of pins s σ H _ us Q' I r ⟨_, _, rfl, .inl h1, fun l hl => ?_⟩
      exact fin _ _ (.own _) (same_new hl) ⟨_, _, rfl, hl, upd_same, BrA.keep (keep_of_same (same_new hl)) _ _ h3⟩ q
  · obtain ⟨v, rfl, b1⟩ := brA1 hK b
    cases b1 with
    | tup h1 h3 =>
      rw [hK] at h1
      refine call_list_of pins s σ H _ us Q' I r ⟨_, _, rfl, .inr h1, fun l hl => ?_⟩
      exact fin _ _ (.own _) (same_new hl) ⟨_, _, rfl, hl, upd_same, BrA.keep (keep_of_same (same_new hl)) _ _ h3⟩ q
  · exact q.elim
theorem c_repr (g : Good X) : CallR X (.builtin "repr") (rN L fRepr) := by
  intro pins s σ H vs us Q' I r q
  obtain ⟨xs, Q, b, ⟨x, rfl, h1, h2, h3, q⟩, fin⟩ := q
  obtain ⟨v, rfl, b1⟩ := brA1 hK b
  obtain ⟨u, rfl, ru⟩ := vals1 r
  obtain ⟨as, rd, ns⟩ := Bk.readsN hK g I b1 ru
  have fn : Q' (.str x.shown) H := fin _ H (.d (.str x.shown)) (Same.refl H) (nr_d (.str _)) q
  have un := g.un
  have byRef : ∀ a, u = .ref a → wpAny (model X.prog X.w) X.A (call (.builtin "repr") [u]) (EP X pins σ Q') X.xe s := fun a e => by
    subst e
    exact repr_of_reads' rd h1 (fun _ => ns) g.gd (by omega) (fun _ _ e => e) (fun h' t tk hk => ⟨.str _, H, I.kept (t' := tk) hk, ⟨t, rfl⟩, fn⟩) h2
  cases x with
  | none => cases b1; cases ru; exact PySem.P.repr_of_none ⟨.str _, H, I.tok _, ⟨_, rfl⟩, by simpa [PyData.shown] using fn⟩
  | bool b => cases b1; cases ru; exact PySem.P.repr_of_bool ⟨.str _, H, I.tok _, ⟨_, rfl⟩, by cases b <;> simpa [PyData.shown] using fn⟩
  | int i => cases b1; obtain ⟨t, rfl⟩ := ru; exact PySem.P.repr_of_int (by simpa [PyData.showable] using h1) ⟨.str _, H, I.tok _, ⟨_, rfl⟩, by simpa [PyData.shown] using fn⟩
  | str z => cases b1; obtain ⟨t, rfl⟩ := ru; exact PySem.P.repr_of_str ⟨.str _, H, I.tok _, ⟨_, rfl⟩, by simpa [PyData.shown] using fn⟩ (by simpa [PyData.shown] using h2)
  | tuple ds => cases b1; exact byRef _ ru
  | list ds => obtain ⟨a, vs, rfl, _⟩ := b1; exact byRef _ ru
  | dict kvs => cases b1; exact byRef _ ru
end
end GB

namespace GB
open PySem PySem.Spec PyProof.Rows L2

/-! statements -/
def dNext : TSd := fun D ρ => D.nx ρ
def dSeq (t u : TSd) : TSd := fun D ρ => t { D with nx := u D } ρ
def dSet (i : Nat) (t : TEd) : TSd := fun D ρ => t ρ fun s ρ1 => D.nx (ρ1.set i s)
def dDrop (t : TEd) : TSd := fun D ρ => t ρ fun _ ρ1 => D.nx ρ1
def dRet (t : TEd) : TSd := fun D ρ => t ρ fun s _ => D.rt s
def dIfS (c : TTd) (t u : TSd) : TSd := fun D ρ => c ρ fun b ρ1 => if b = true then t D ρ1 else u D ρ1
def dBrk : TSd := fun D ρ => D.bk ρ
def dCnt : TSd := fun D ρ => D.ct ρ
/-- from here on the slot's list is as it is for good -/
def dFixS (i : Nat) (t : TSd) : TSd := fun D ρ => ∃ xs, ρ[i]? = some (.own xs) ∧ t D (ρ.set i (.d (.list xs)))
section
variable {X : Cx} {L : Lay} {pos : Pos} {e c : Expr} {st : Stmt} {sts sts2 : List Stmt} {t u : TSd} {te : TEd} {tc : TTd}
theorem tS_mono {D D' : Ends} {σ : L2.St} {H : Hp} (h : tS L t D σ H) (nx : ∀ σ' H' ρ', Keep H H' → Rel L H' σ' ρ' → D.nx σ' H' → D'.nx σ' H') (rt : ∀ v H', D.rt v H' → D'.rt v H') (bk : ∀ σ' H', D.bk σ' H' → D'.bk σ' H') (ct : ∀ σ' H', D.ct σ' H' → D'.ct σ' H') : tS L t D' σ H := by
  obtain ⟨ρ, De, r, q, h1, h2, h3, h4⟩ := h
  exact ⟨ρ, De, r, q, fun σ' H' ρ' k r' n => nx _ _ ρ' k r' (h1 σ' H' ρ' k r' n), fun v H' s k sm rr n => rt _ _ (h2 v H' s k sm rr n), fun σ' H' ρ' k r' n => bk _ _ (h3 σ' H' ρ' k r' n), fun σ' H' ρ' k r' n => ct _ _ (h4 σ' H' ρ' k r' n)⟩
theorem VR.rr {Hs H : Hp} {v : V} {s : S} (h : VR L Hs H v s) : RR L H v s := by
  cases s with
  | un => exact h
  | d x => exact h
  | ob t => exact h
  | ow xs => exact h.1
theorem dss_nil : PSs X [] (tS L dNext) := pss_nil.less fun D σ H h => by
  obtain ⟨ρ, De, r, q, h1, _⟩ := h
  exact h1 σ H ρ (Keep.rfl' H) r q
theorem dss_cons (h : PS X st (tS L t)) (h2 : PSs X sts (tS L u)) : PSs X (st :: sts) (tS L (dSeq t u)) := (pss_cons h h2).less fun D σ H q => by
  obtain ⟨ρ, De, r, q, h1, h2, h3, h4⟩ := q
  refine ⟨ρ, { De with nx := u De }, r, q, fun σ' H' ρ' k r' n => ?_, h2, h3, h4⟩
  exact ⟨ρ', De, r', n, fun σ2 H2 ρ2 k2 => h1 σ2 H2 ρ2 (k.tr k2), fun v H2 s k2 => h2 v H2 s (k.tr k2), fun σ2 H2 ρ2 k2 => h3 σ2 H2 ρ2 (k.tr k2), fun σ2 H2 ρ2 k2 => h4 σ2 H2 ρ2 (k.tr k2)⟩
theorem dss_one (h : PS X st (tS L t)) : PSs X [st] (tS L t) := pss_one h
theorem ds_set {i : Nat} {x : Str} {pos' : Pos} (g : Good X) (hi : X.N[i]? = some x) (hx : Loc X.env.scope x) (he : PE X e (tE L te)) (hs : swapsWith e (some (.Name x pos')) pos.line X.env = pure false := by rfl)
    (hf : X.fn x = true ∨ X.env.scope.names.lookup x = some .local := by first | exact .inl rfl | exact .inr rfl | assumption) : PS X (.Assign [.Name x pos'] e pos) (tS L (dSet i te)) :=
  (ps_set g.nd hi hx he hs hf).less fun D σ H q => by
    obtain ⟨ρ, De, r, q, h1, h2, h3, h4⟩ := q
    exact ⟨ρ, _, r, q, fun v H' s ρ' go r' hv n => h1 _ _ _ (go.keep r) (r.set r' go hv) n⟩
theorem ds_expr (he : PE X e (tE L te)) (hs : swapsWith e none pos.line X.env = pure false := by rfl) : PS X (.Expr e pos) (tS L (dDrop te)) := (ps_expr he hs).less fun D σ H q => by
  obtain ⟨ρ, De, r, q, h1, h2, h3, h4⟩ := q
  exact ⟨ρ, _, r, q, fun v H' s ρ' go r' hv n => h1 _ _ _ (go.keep r) r' n⟩
theorem ds_ret (he : PE X e (tE L te)) : PS X (.Return (some e) pos) (tS L (dRet te)) := (ps_ret he).less fun D σ H q => by
  obtain ⟨ρ, De, r, q, h1, h2, h3, h4⟩ := q
  exact ⟨ρ, _, r, q, fun v H' s ρ' go r' hv n => h2 _ _ _ (go.keep r) r'.same hv.rr n⟩
theorem ds_if (hc : PT X c (tT L tc)) (h : PSs X sts (tS L t)) (h2 : PSs X sts2 (tS L u)) : PS X (.If c sts sts2 pos) (tS L (dIfS tc t u)) := (ps_if hc h h2).less fun D σ H q => by
  obtain ⟨ρ, De, r, q, h1, h2, h3, h4⟩ := q
  refine ⟨ρ, _, r, q, fun b H' ρ' go r' n => ?_⟩
  have k := go.keep r
  cases b with
  | true => exact ⟨ρ', De, r', by simpa using n, fun σ2 H2 ρ2 k2 => h1 σ2 H2 ρ2 (k.tr k2), fun v H2 s k2 => h2 v H2 s (k.tr k2), fun σ2 H2 ρ2 k2 => h3 σ2 H2 ρ2 (k.tr k2), fun σ2 H2 ρ2 k2 => h4 σ2 H2 ρ2 (k.tr k2)⟩
  | false => exact ⟨ρ', De, r', by simpa using n, fun σ2 H2 ρ2 k2 => h1 σ2 H2 ρ2 (k.tr k2), fun v H2 s k2 => h2 v H2 s (k.tr k2), fun σ2 H2 ρ2 k2 => h3 σ2 H2 ρ2 (k.tr k2), fun σ2 H2 ρ2 k2 => h4 σ2 H2 ρ2 (k.tr k2)⟩
theorem ds_brk : PS X (.Break pos) (tS L dBrk) := ps_break.less fun D σ H q => by
  obtain ⟨ρ, De, r, q, h1, h2, h3, h4⟩ := q
  exact h3 _ _ _ (Keep.rfl' H) r q
theorem ds_cnt : PS X (.Continue pos) (tS L dCnt) := ps_continue.less fun D σ H q => by
  obtain ⟨ρ, De, r, q, h1, h2, h3, h4⟩ := q
  exact h4 _ _ _ (Keep.rfl' H) r q
theorem dss_fix (g : Good X) (i : Nat) (h : PSs X sts (tS L t)) : PSs X sts (tS L (dFixS i t)) := by
  constructor
  intro pins s σ H D I q
  obtain ⟨ρ, De, r, ⟨xs, e, q⟩, h1, h2, h3, h4⟩ := q
  obtain ⟨l, vs, hi, hl, hb, h0⟩ := r.getO e
  obtain ⟨o, I2⟩ := fix_inv I hl trivial
  obtain ⟨r2, b2⟩ := r.fixIn (o := o) e hi hl (ne_sys I g hl)
  have k := keep_fix (o := o) hl trivial
  exact h.run pins s σ _ D I2 ⟨_, De, r2, q, fun σ2 H2 ρ2 k2 => h1 σ2 H2 ρ2 (k.tr k2), fun v H2 s k2 => h2 v H2 s (k.tr k2), fun σ2 H2 ρ2 k2 => h3 σ2 H2 ρ2 (k.tr k2), fun σ2 H2 ρ2 k2 => h4 σ2 H2 ρ2 (k.tr k2)⟩
end

/-! defs: promises over data -/
abbrev FnD := List S → (S → Prop) → Prop
def spD (K : PySem.W.Frag) (J : Jar) (n : Nat) (F : FnD) : Sp := fun vs H Q _ => ∃ ss R, FRs (lay K J H) H vs ss ∧ ss.length = n ∧ F ss R ∧ ∀ v H' s, Same H H' → RR (lay K J H) H' v s → R s → Q v H'
def dCall (F : FnD) (n : Nat) (ta : TAd) : TEd := fun ρ Q => ta ρ fun ss ρ1 => ss.length = n ∧ F ss fun s => Q s ρ1
theorem FRs.len {L : Lay} {H : Hp} {vs : List V} {ss : List S} (h : FRs L H vs ss) : vs.length = ss.length := by
  induction h with
  | nil => rfl
  | cons _ _ ih => simp [ih]
theorem FRs.lay {L : Lay} {H H0 : Hp} {vs : List V} {ss : List S} (h : FRs L H vs ss) : FRs (lay L.K L.J H0) H vs ss := by
  induction h with
  | nil => exact .nil
  | @cons v vs s ss h1 _ ih => exact .cons (by cases s <;> exact h1) ih
section
variable {X : Cx} {L : Lay} {pos p : Pos} {e : Expr} {es : List Expr} {tas tks : TAd} {F : FnD} {x : Str} {f : Addr} {fd : FuncData} {ps ks : List Str} {k : Nat} {CX : CXT} {E : XK} {kws : List Keyword}
theorem rr_vr {H H1 H2 : Hp} {σ : L2.St} {ρ ρ1 : En} (r1 : Rel L H1 σ ρ1) (go : Go σ ρ ρ1 H H1) {v : V} {s : S} (h : RR (lay L.K L.J H1) H2 v s) : VR L H H2 v s := by
  cases s with
  | un => exact h
  | d x => exact h
  | ob t => exact h
  | ow xs =>
    cases xs with
    | l xs =>
      obtain ⟨l, vs, rfl, h1, h2, h3⟩ := h
      exact ⟨⟨l, vs, rfl, h1, h2, r1.same.free h3⟩, fun l' e => by cases e; exact go.dom _ h3⟩
    | k xs =>
      obtain ⟨l, vs, rfl, h1, h2, h3⟩ := h
      exact ⟨⟨l, vs, rfl, h1, h2, r1.same.free h3⟩, fun l' e => by cases e; exact go.dom _ h3⟩
    | io m xs =>
      obtain ⟨l, vs, rfl, h1, h2, h3⟩ := h
      exact absurd h2.2 (by simp)
theorem de_call (hK : L.K = X.K) (Fn : FnG X.prog X.w X.K X.mg X.base CX k f fd ps (spD X.K L.J ps.length F)) (hr : Room k X.A) (g : Good X) (hg : Gl X x) (hm : X.mg x = some (.ref f)) (hk : PySem.W.keepIn X.K (.ref f) = true) (hb : Binds X.K fd ps [])
    (hx : Passes CX X E) (ha : PA X (e :: es) (tA L tas)) (hdb : (x == ("__debug__" : Str)) = false := by decide) (he : starEach (e :: es) X.env = (false, eval e X.env) :: starEach es X.env := by rfl)
    (hpl : (backTo pos (starEach es X.env)).any (·.1) = false := by rfl) : PE X (.Call (.Name x p) (e :: es) [] pos) (tE L (dCall F ps.length tas)) :=
  (g_call Fn hr g.gd hg hm hk hb hx ha hdb he hpl).less fun σ H Q' h => by
    obtain ⟨ρ, Q, r, q, fin⟩ := h
    refine ⟨ρ, _, r, q, fun vs H1 ss ρ1 go r1 hv q1 => ?_⟩
    show spD X.K L.J ps.length F (vs ++ []) H1 Q' E
    rw [List.append_nil]
    refine ⟨ss, _, ?_, q1.1, q1.2, fun v H2 s sm rr q2 => fin v H2 s ρ1 (go.tr (Go.sm sm)) (r1.go sm) (rr_vr r1 go (by rw [hK]; exact rr)) q2⟩
    rw [← hK]; exact hv.lay
theorem de_call0 (hK : L.K = X.K) (Fn : FnG X.prog X.w X.K X.mg X.base CX k f fd ps (spD X.K L.J ps.length F)) (hr : Room k X.A) (g : Good X) (hg : Gl X x) (hm : X.mg x = some (.ref f)) (hk : PySem.W.keepIn X.K (.ref f) = true) (hb : Binds X.K fd ps [])
    (hx : Passes CX X E) (hdb : (x == ("__debug__" : Str)) = false := by decide) : PE X (.Call (.Name x p) [] [] pos) (tE L (dCall F ps.length dNil)) :=
  (g_call0 Fn hr g.gd hg hm hk hb hx hdb).less fun σ H Q' h => by
    obtain ⟨ρ, Q, r, q, fin⟩ := h
    show spD X.K L.J ps.length F [] H Q' E
    have q : ([] : List S).length = ps.length ∧ F [] fun s => Q s ρ := q
    exact ⟨[], _, .nil, q.1, q.2, fun v H2 s sm rr q2 => fin v H2 s ρ (Go.sm sm) (r.go sm) (rr_vr r Go.rf (by rw [hK]; exact rr)) q2⟩
/-- keywords: their places among the parameters -/
def dCallK (F : FnD) (n : Nat) (gS : List S → List S) (ta : TAd) : TEd := fun ρ Q => ta ρ fun ss ρ1 => (gS ss).length = n ∧ F (gS ss) fun s => Q s ρ1
theorem dk_nil : PK X [] (tA L dNil) := pk_nil.less' fun σ H Q' h => by
  obtain ⟨ρ, Q, r, q, fin⟩ := h
  exact fin [] H [] ρ Go.rf r .nil q
theorem dk_cons {te : TEd} {nm : Option Str} {kpos : Pos} (h : PE X e (tE L te)) (hr : PK X kws (tA L tks)) : PK X (⟨nm, e, kpos⟩ :: kws) (tA L (dCons te tks)) := (pk_cons h hr).less' fun σ H Q' h => by
  obtain ⟨ρ, Q, r0, q, fin⟩ := h
  refine ⟨ρ, _, r0, q, fun v H1 s ρ1 k1 r1 hv q1 => ?_⟩
  obtain ⟨f, q2⟩ := q1
  refine ⟨ρ1, _, r1, q2, fun vs H2 ss ρ2 k2 r2 hvs q3 => ?_⟩
  exact fin (v :: vs) H2 (s :: ss) ρ2 (k1.tr k2) r2 (.cons ((fr_of f hv).keep (k2.keep r1)) hvs) q3
/-- how names given bind: a permutation of what is given -/
structure Perm (K : PySem.W.Frag) (fd : FuncData) (ps ks : List Str) (g : List Value → List Value) (gV : List V → List V) (gS : List S → List S) : Prop where
  to : ∀ (s : Shared) (ws : List Value), (g ws).length = ps.length → BindsTo s fd ⟨[], ks.zip ws⟩ (ps.zip (g ws))
  rel : ∀ {zs : List V} {ws : List Value}, Vals zs ws → Vals (gV zs) (g ws)
  fr : ∀ {L : Lay} {H : Hp} {zs : List V} {ss : List S}, FRs L H zs ss → FRs L H (gV zs) (gS ss)
theorem g_kw {gV : List V → List V} {g : List Value → List Value} {sp : Sp} {tk : TA} (Fn : FnG X.prog X.w X.K X.mg X.base CX k f fd ps sp) (hr : Room k X.A) (gd : X.A.guards = some []) (hg : Gl X x) (hm : X.mg x = some (.ref f)) (hk : PySem.W.keepIn X.K (.ref f) = true)
    (hto : ∀ (s : Shared) (ws : List Value), (g ws).length = ps.length → BindsTo s fd ⟨[], ks.zip ws⟩ (ps.zip (g ws))) (hrel : ∀ {zs : List V} {ws : List Value}, Vals zs ws → Vals (gV zs) (g ws)) (hx : Passes CX X E) (hkw : PK X kws tk) (hall : (backToKw pos (keywordEach kws X.env)).all (·.1.isSome) = true := by rfl)
    (hks : (backToKw pos (keywordEach kws X.env)).filterMap (·.1) = ks := by rfl) (hdb : (x == ("__debug__" : Str)) = false := by decide)
    (hpl : ((backTo pos (starEach [] X.env)).any (·.1) || (backToKw pos (keywordEach kws X.env)).any (·.1.isNone)) = false := by rfl) :
    PE X (.Call (.Name x p) [] kws pos) fun σ H Q => tk σ H fun zs H2 => sp (gV zs) H2 Q E := by
  constructor
  intro pins s σ H Q I h
  refine wpAny_Call_Name_kw (ld_glob I hg hm ?_ hdb)
  refine PySem.W.callWith_KW0 (h₀ := X.base) I.ok.mod.kin hk hall (thn (hkw.run pos pins s σ H _ I h) fun ws s2 z => ?_) hpl
  obtain ⟨zs, H2, I2, rz, q⟩ := z
  refine ⟨I2.kIn, ?_⟩
  rw [hks]
  have r2 := hrel rz
  have hl : (g ws).length = ps.length := by rw [← r2.length]; exact Fn.arity _ _ _ _ q
  refine wpAny_call (codeAny_mono (Fn.go X.A X.stack s2 H2 ⟨[], ks.zip ws⟩ (g ws) (gV zs) Q E gd hr I2.env0 (hto s2 ws hl) r2 q) fun r3 s' hq => ?_)
  match r3, hq with
  | .error e, hq => exact hx pins σ H2 s2 e s' I2 hq
  | .ok (.ret u), hq => exact I2.after hq
  | .ok .next, hq => exact False.elim hq
  | .ok .brk, hq => exact False.elim hq
  | .ok .cont, hq => exact False.elim hq
theorem de_callK {gV : List V → List V} {g : List Value → List Value} {gS : List S → List S} (hK : L.K = X.K) (Fn : FnG X.prog X.w X.K X.mg X.base CX k f fd ps (spD X.K L.J ps.length F)) (hr : Room k X.A) (gd : Good X) (hg : Gl X x) (hm : X.mg x = some (.ref f)) (hk : PySem.W.keepIn X.K (.ref f) = true)
    (hb : Perm X.K fd ps ks g gV gS) (hx : Passes CX X E) (hkw : PK X kws (tA L tks)) (hall : (backToKw pos (keywordEach kws X.env)).all (·.1.isSome) = true := by rfl)
    (hks : (backToKw pos (keywordEach kws X.env)).filterMap (·.1) = ks := by rfl) (hdb : (x == ("__debug__" : Str)) = false := by decide)
    (hpl : ((backTo pos (starEach [] X.env)).any (·.1) || (backToKw pos (keywordEach kws X.env)).any (·.1.isNone)) = false := by rfl) :
    PE X (.Call (.Name x p) [] kws pos) (tE L (dCallK F ps.length gS tks)) :=
  (g_kw Fn hr gd.gd hg hm hk hb.to hb.rel hx hkw hall hks hdb hpl).less fun σ H Q' h => by
    obtain ⟨ρ, Q, r, q, fin⟩ := h
    refine ⟨ρ, _, r, q, fun vs H1 ss ρ1 go r1 hv q1 => ?_⟩
    refine ⟨gS ss, _, ?_, q1.1, q1.2, fun v H2 s sm rr q2 => fin v H2 s ρ1 (go.tr (Go.sm sm)) (r1.go sm) (rr_vr r1 go (by rw [hK]; exact rr)) q2⟩
    rw [← hK]; exact hb.fr hv.lay
end
theorem brA_start {L : Lay} {H : Hp} : ∀ {vs : List V} {ss : List S} {n : Nat}, FRs L H vs ss → L.H0 = H → Rel L H (vs.map some ++ List.replicate n none) (ss ++ List.replicate n S.un) := by
  intro vs ss n h h0
  have hl := h.len
  have nown : ∀ {vs : List V} {ss : List S}, FRs L H vs ss → ∀ (i : Nat) (s : S), ss[i]? = some s → ∃ v, vs[i]? = some v ∧ FR L H v s := by
    intro vs ss h
    induction h with
    | nil => intro i s e; simp at e
    | @cons v vs s ss h1 h2 ih =>
      intro i s' e
      cases i with
      | zero => simp at e; subst e; exact ⟨v, rfl, h1⟩
      | succ i => simp at e ⊢; exact ih i s' e
  have at0 : ∀ (i : Nat) (s : S), (ss ++ List.replicate n S.un)[i]? = some s → s = .un ∨ ∃ v, vs[i]? = some v ∧ FR L H v s := fun i s e => by
    by_cases hi : i < ss.length
    · rw [List.getElem?_append_left hi] at e
      exact .inr (nown h i s e)
    · rw [List.getElem?_append_right (by omega), List.getElem?_replicate] at e
      split at e
      · cases e; exact .inl rfl
      · cases e
  refine ⟨by simp [hl], fun i s e => ?_, fun i j xs ys e1 _ _ => ?_, by rw [h0]; exact Same.refl H⟩
  · rcases at0 i s e with rfl | ⟨v, hv, fr⟩
    · trivial
    · have hi : i < vs.length := (List.getElem?_eq_some_iff.mp hv).1
      have eq : ((vs.map some ++ List.replicate n none)[i]?).getD none = some v := by
        rw [List.getElem?_append_left (by simpa using hi), List.getElem?_map, hv]; rfl
      rw [eq]
      cases s with
      | un => trivial
      | d x => exact ⟨v, rfl, fr⟩
      | ow xs => exact fr.elim
      | ob t => obtain ⟨a, rfl, q⟩ := fr; exact ⟨a, rfl, q⟩
  · rcases at0 i _ e1 with q | ⟨v, _, fr⟩
    · cases q
    · exact fr.elim
section
variable {P : Program} {w : World} {K : PySem.W.Frag} {mg : Str → Option Value} {base : Heap} {J : Jar}
theorem good_of {CX : CXT} {N : List Str} {qual : Str} {scope : Scope} {f : Addr} {cdv : Value} {A : Around} {outer : List Env} {s : Shared} {H : Hp} {E : XK} {k : Nat} (hs : ∃ o, base.get? sysModules = some o) (nd : N.Nodup) (hg : A.guards = some [])
    (hr : Room k (A.deeper (envOfC qual scope s.heap.objs.size f cdv))) : Good (cxOf CX P w K mg base N qual scope f cdv A outer s H E).nox := ⟨rfl, hg, hs, by have := hr.un; show (A.deeper (envOfC qual scope s.heap.objs.size f cdv)).units + 200 < cLine; omega, nd⟩
/-- a def that lets no exception out -/
theorem fn_ok {f : Addr} {fd : FuncData} {x qual : Str} {st : Stmt} {N ps : List Str} {k : Nat} {F : FnD} {t : TSd} (Fn : Fun K x qual st f fd) (S0 : FnScope N ps (defScope st)) (hs : ∃ o, base.get? sysModules = some o)
    (body : ∀ (cdv : Value) (A : Around) (outer : List Env) (s : Shared) (H : Hp) (E : XK), A.guards = some [] → Room k (A.deeper (envOfC qual (defScope st) s.heap.objs.size f cdv)) → Good (cxOf CX0 P w K mg base N qual (defScope st) f cdv A outer s H E).nox →
      PSs (cxOf CX0 P w K mg base N qual (defScope st) f cdv A outer s H E).nox (defBody st) (tS (lay K J H) t))
    (math : ∀ ss R, ss.length = ps.length → F ss R → t { nx := fun _ => R (.d .none), rt := R } (ss ++ List.replicate (N.length - ps.length) .un)) :
    FnG P w K mg base CX0 (k + 1) f fd ps (spD K J ps.length F) := by
  refine fng_nox Fn S0 (fun vs H Q E h => ?_) fun cdv A outer s H vs Q E hg hr h => ?_
  · obtain ⟨ss, R, fr, hl, _⟩ := h
    rw [fr.len, hl]
  · obtain ⟨ss, R, fr, hl, hF, fin⟩ := h
    refine ⟨_, body cdv A outer s H E hg hr (good_of hs S0.nd hg hr), ss ++ List.replicate (N.length - ps.length) .un, { nx := fun _ => R (.d .none), rt := R }, ?_, math ss R hl hF, fun σ' H' ρ' k r n => ?_, fun v H' s k sm rr n => fin v H' s sm rr n, fun _ _ _ _ _ n => n, fun _ _ _ _ _ n => n⟩
    · have hv := fr.len
      unfold L2.start
      rw [hv, hl]
      exact brA_start fr rfl
    · exact fin .non H' (.d .none) r.same .non n
end
end GB

namespace GB
open PySem PySem.Spec PyProof.Rows L2

/-! targets -/
abbrev DTG := PyData → En → (En → Prop) → Prop
abbrev DTGs := List PyData → En → (En → Prop) → Prop
def tG (L : Lay) (g : DTG) : TG := fun v σ H Q' => ∃ ρ d Q, Rel L H σ ρ ∧ Br L.K H v d ∧ g d ρ Q ∧ ∀ σ' ρ', Rel L H σ' ρ' → Q ρ' → Q' σ' H
def tGs (L : Lay) (g : DTGs) : TGs := fun vs σ H Q' => ∃ ρ ds Q, Rel L H σ ρ ∧ BrA L.K H vs ds ∧ g ds ρ Q ∧ ∀ σ' ρ', Rel L H σ' ρ' → Q ρ' → Q' σ' H
def dgName (i : Nat) : DTG := fun d ρ Q => Q (ρ.set i (.d d))
def dgNil : DTGs := fun ds ρ Q => ds = [] ∧ Q ρ
def dgCons (g : DTG) (gs : DTGs) : DTGs := fun ds ρ Q => ∃ d r, ds = d :: r ∧ g d ρ fun ρ1 => gs r ρ1 Q
def dgTup (n : Nat) (gs : DTGs) : DTG := fun d ρ Q => ∃ ds, d = .tuple ds ∧ ds.length = n ∧ gs ds ρ Q
theorem _root_.L2.PG.less {X : Cx} {e : Expr} {t t2 : TG} (h : PG X e t) (w : ∀ v σ H Q, t2 v σ H Q → t v σ H Q) : PG X e t2 := ⟨fun pins s σ H v u Q I r q => h.run pins s σ H v u Q I r (w _ _ _ _ q)⟩
theorem _root_.L2.PGs.less {X : Cx} {e : List Expr} {t t2 : TGs} (h : PGs X e t) (w : ∀ v σ H Q, t2 v σ H Q → t v σ H Q) : PGs X e t2 := ⟨fun pins s σ H v u Q I r q => h.run pins s σ H v u Q I r (w _ _ _ _ q)⟩
section
variable {X : Cx} {L : Lay} {pos : Pos} {e : Expr} {es : List Expr} {g : DTG} {gs : DTGs}
theorem dg_name {i : Nat} {x : Str} (gd : Good X) (hi : X.N[i]? = some x) (hx : Loc X.env.scope x) (hf : X.fn x = true ∨ X.env.scope.names.lookup x = some .local := by first | exact .inl rfl | exact .inr rfl | assumption) : PG X (.Name x pos) (tG L (dgName i)) :=
  (pg_name gd.nd hi hx hf).less fun v σ H Q' h => by
    obtain ⟨ρ, d, Q, r, b, q, fin⟩ := h
    exact fin _ _ (r.setF (s := .d d) b) q
theorem dgs_nil : PGs X [] (tGs L dgNil) := pgs_nil.less fun vs σ H Q' h => by
  obtain ⟨ρ, ds, Q, r, b, ⟨rfl, q⟩, fin⟩ := h
  cases b
  exact ⟨rfl, fin _ _ r q⟩
theorem dgs_cons (h : PG X e (tG L g)) (h2 : PGs X es (tGs L gs)) (hs : (assignEach (e :: es) X.env).map (·.2) = assign e X.env :: (assignEach es X.env).map (·.2) := by rfl) : PGs X (e :: es) (tGs L (dgCons g gs)) := (pgs_cons h h2 hs).less fun vs σ H Q' h => by
  obtain ⟨ρ, ds, Q, r, b, ⟨d, rs, rfl, q⟩, fin⟩ := h
  cases b with
  | cons b1 b2 => exact ⟨_, _, rfl, ρ, d, _, r, b1, q, fun σ' ρ' r' n => ⟨ρ', rs, Q, r', b2, n, fin⟩⟩
theorem dg_tup {k : Nat} {n : Nat} (gd : Good X) (hK : L.K = X.K) (h : PGs X es (tGs L gs)) (hn : (assignEach es X.env).length = n := by rfl) (hst : (assignEach es X.env).findIdx? (·.1) = none := by rfl) : PG X (.Tuple es k pos) (tG L (dgTup n gs)) := (pg_tup gd.calm h hn hst).less fun v σ H Q' h => by
  obtain ⟨ρ, d, Q, r, b, ⟨ds, rfl, hl, q⟩, fin⟩ := h
  cases b with
  | tup h1 h2 =>
    rw [hK] at h1
    exact ⟨_, _, rfl, h1, by rw [h2.len]; exact hl, ρ, ds, Q, r, by rw [hK] at h2 ⊢; exact h2, q, fin⟩
end
end GB

namespace GB
open PySem PySem.Spec PyProof.Rows L2

set_option maxHeartbeats 1000000 in
theorem meets_enum_one {v : Value} {o : Obj} {H : Heap → Prop} (B : Begins v o H) :
    Meets (Builtin.«enumerate.__new__» ⟨[.type "enumerate", v], []⟩) (fun _ R s => H s.heap ∧
      R (.ok (.ret (.ref (s.heap.push o).objs.size))) { s with heap := (s.heap.push o).push { cls := .type "enumerate", data := .fields #[.none, .bool false, .ref s.heap.objs.size, rawInt 0, .none, .none] } }) :=
  .of_wp fun prog w A R s h => by
    obtain ⟨hp, g, d, tk, os⟩ := s
    obtain ⟨h1, h⟩ := h
    have hsub := sub_enumerate
    have q1 : ∀ {A' : Around} {E : Value → Shared → Prop} {Q : Value → Shared → Prop}, Q (.ref hp.objs.size) ⟨hp.push o, g, d, tk, os⟩ → wpAny (model prog w) A' (pyIter v) Q E ⟨hp, g, d, tk, os⟩ := fun q => B.iter prog w _ _ ⟨hp, g, d, tk, os⟩ _ h1 q
    wp_walk using q1
    refine wpAny_stack_any fun st => wpAny_pure ?_
    split
    · rename_i c _ _ _ _ _
      cases (c == Value.type "enumerate")
      · wp_walk using q1
        exact ⟨_, rfl, h⟩
      · wp_walk using q1
        exact ⟨_, rfl, h⟩
    · wp_walk using q1
      exact ⟨_, rfl, h⟩
theorem call_enum_one {prog : Program} {w : World} {A : Around} {E : Value → Shared → Prop} {s : Shared} {v : Value} {o : Obj} {H : Heap → Prop} {Q : Value → Shared → Prop} (B : Begins v o H) (h1 : H s.heap)
    (h : ∀ h', IsEnum h' (s.heap.objs.size + 1) s.heap.objs.size 0 .none → h'.get? s.heap.objs.size = some o → (∀ b o', s.heap.get? b = some o' → h'.get? b = some o') → Q (.ref (s.heap.objs.size + 1)) { s with heap := h' }) :
    wpAny (model prog w) A (call (.type "enumerate") [v]) Q E s := by
  refine callType_new F.called_enumerate (by decide) (F.typeCall_enumerate_1 _) (F.newCall_enumerate_1 _) (fun obj => F.args_object_init_2 obj _) F.entry_enumerate_new (meets_enum_one B) ⟨h1, ?_⟩
  have hz : (s.heap.push o).objs.size = s.heap.objs.size + 1 := Heap.size_push ..
  show _ ∧ _
  rw [hz]
  have he : IsEnum ((s.heap.push o).push { cls := .type "enumerate", data := .fields #[.none, .bool false, .ref s.heap.objs.size, rawInt 0, .none, .none] }) (s.heap.objs.size + 1) s.heap.objs.size 0 .none := by
    have q := Heap.get?_push_size (s.heap.push o) (o := { cls := .type "enumerate", data := .fields #[.none, .bool false, .ref s.heap.objs.size, rawInt 0, .none, .none] }) rfl
    rw [hz] at q; exact q
  exact ⟨⟨_, he, rfl⟩, h _ he (Heap.get?_push_of_some _ (Heap.get?_push_size _ B.free)) fun b o' x => Heap.get?_push_of_some _ (Heap.get?_push_of_some _ x)⟩

/-- the tuple at a, each item in a new pair with its place -/
def IteT (K : PySem.W.Frag) (a : Addr) : It where
  go := fun i H => ∃ (xs : List V) (x : V), SqT K H a xs ∧ xs[i]? = some x
  yld := fun i H v H' => ∃ T x, v = .ref T ∧ H T = none ∧ H' = upd H T (.tup [.int (i : Nat), x]) ∧ ∀ xs, SqT K H a xs → xs[i]? = some x
  stop := fun i H => ∃ xs : List V, SqT K H a xs ∧ xs.length ≤ i
theorem turn_enumT {P : Program} {w : World} {K : PySem.W.Frag} {elts : List Expr} {kk : Nat} {tpos : Pos} (a e it : Addr) :
    Turn P w K (.Tuple elts kk tpos) (IteT K a) [e, it] e (fun i h => (∃ old, IsEnum h e it ((i : Nat) : Int) old) ∧ h.IsTupleIter it a i ∧ e ≠ it) where
  mem := List.mem_cons_self
  obj := fun i h st b hb => by
    obtain ⟨⟨old, he⟩, ⟨o, ho, hc, hd⟩, _⟩ := st
    rcases List.mem_cons.mp hb with z | z
    · rw [z]; exact ⟨_, he, fun v q => nomatch q⟩
    · rw [List.mem_singleton.mp z]; exact ⟨o, ho, fun v q => by rw [hd] at q; cases q⟩
  keep := fun i h h' st k => let ⟨⟨old, he⟩, hi, hne⟩ := st; ⟨⟨old, k e (by simp) _ he⟩, hi.at fun o q => k it (by simp) o q, hne⟩
  item := by
    intro X hP hw hK hc i pins s σ H E I hf st hg
    subst hP hw hK
    obtain ⟨⟨old, he⟩, hit, hne⟩ := st
    obtain ⟨xs, x, hq, hx⟩ := hg
    obtain ⟨its, rv, p, hz⟩ := I.tuple hq
    obtain ⟨u, hu, ru⟩ := rv.get hx
    have hel : e < s.heap.objs.size := Heap.lt_size he
    have hil : it < s.heap.objs.size := by obtain ⟨_, q, _⟩ := hit; exact Heap.lt_size q
    have pa : s.heap.IsTuple a its.toArray := p
    have hai : a ≠ it := fun z => by
      obtain ⟨o1, e1, c1, _⟩ := p
      obtain ⟨o2, e2, c2, _⟩ := hit
      rw [z, e2] at e1; cases e1
      rw [c2] at c1; simp at c1
    have hae : a ≠ e := fun z => by
      obtain ⟨o1, e1, c1, _⟩ := p
      rw [z, he] at e1; cases e1
      simp at c1
    have D := Draws.tuple (prog := X.prog) (w := X.w) (A := X.A.in1) (I.ok.hd hc) it a hai its.toArray
    have hlt : i < its.toArray.size := by
      have := (List.getElem?_eq_some_iff.mp hu).1
      simpa using this
    refine wpAny_pyNext_enum_itemD D he ⟨hit, pa⟩ hlt hne (by simp [hne, hae.symm]) fun x' h' tk px ho st' hT hsz hk => ?_
    have ex : x' = u := by
      have : its.toArray[i]? = some u := by simpa using hu
      rw [this] at px; exact (Option.some.inj px).symm
    subst ex
    refine ⟨_, rfl, wpAny_letOwnedTupleGo_enum (s := { s with heap := h', toks := tk + 1 }) ho fun h'' he' sb => ?_⟩
    have hT2 : h''.get? s.heap.objs.size = some { cls := .type "tuple", data := .seq #[.int i tk, x'] } := (sb.2 _ (Nat.ne_of_gt hel)).trans hT
    have new : ObjOk X.prog X.w (upd H s.heap.objs.size (.tup [.int (i : Nat), x])) h'' s.heap.objs.size (.tup [.int (i : Nat), x]) :=
      ⟨by show 2 ≤ sizeLine; decide, [.int i tk, x'], .cons ⟨_, rfl⟩ (.cons ru .nil), ⟨_, hT2, rfl, _, rfl⟩⟩
    have I1 : Inv X pins σ (upd H s.heap.objs.size (.tup [.int (i : Nat), x])) { s with heap := h'', toks := tk + 1 } :=
      I.turnedNew (ch := [e, it]) (fun b ob hb q => (sb.2 b (fun z => hb (by simp [z]))).trans (hk b ob (fun z => hb (by simp [z])) (fun z => hb (by simp [z])) q)) hf (Nat.le_refl _) new
    refine ⟨.ref s.heap.objs.size, _, I1, rfl, ⟨_, x, rfl, I.hok.fresh (Nat.le_refl _), rfl, fun ys hy => by rw [I.tuple_inj hy hq]; exact hx⟩, ⟨⟨x', ?_⟩, st'.1.at fun o q => (sb.2 it (Ne.symm hne)).trans q, hne⟩, fun b hb => ?_⟩
    · have e1 : ((i + 1 : Nat) : Int) = (i : Int) + 1 := by omega
      rw [e1]; exact he'
    · have hb' : b < s.heap.objs.size := by
        rcases List.mem_cons.mp hb with z | z
        · rw [z]; exact hel
        · rw [List.mem_singleton.mp z]; exact hil
      rw [upd_ne (Nat.ne_of_lt hb')]
      exact (hf b hb).1
  done := by
    intro X hP hw hK hc i pins s σ H E I hf st hg
    subst hP hw hK
    obtain ⟨⟨old, he⟩, hit, hne⟩ := st
    obtain ⟨xs, hq, hx⟩ := hg
    obtain ⟨its, rv, p, hz⟩ := I.tuple hq
    obtain ⟨f0, f1, f2, f3, f4, f5⟩ := hf it (by simp)
    have pa : s.heap.IsTuple a its.toArray := p
    have hai : a ≠ it := fun z => by
      obtain ⟨o1, e1, c1, _⟩ := p
      obtain ⟨o2, e2, c2, _⟩ := hit
      rw [z, e2] at e1; cases e1
      rw [c2] at c1; simp at c1
    have hl := rv.length
    have hT : s.TypeIs (.ref e) "enumerate" := ⟨_, he, rfl⟩
    unfold pyNext
    refine wpAny_bind (wpAny_attempt (wpAny_callSpecial?_slot (name := Str.ofString "__next__") hT F.slot_enumerate_next (wpAny_call_entry F.slot_enumerate_next hT F.entry_enumerate_next ?_ (F.args_enumerate_next_1 _))))
    show wpAny _ _ (field (.ref e) 2 >>= _) _ _ _
    refine wpAny_bind (wpAny_field he rfl (x := .ref it) rfl ?_)
    refine wpAny_bind (wpAny_nextOf_tuple_end (I.ok.hd hc) hit pa (by simp; omega) fun h' x he' hx' => ?_)
    obtain ⟨o, ho, hc'⟩ := hx'
    refine wpAny_bind (wpAny_isInstance (T := "StopIteration") (b := true) ⟨o, ho, hc'⟩ isSubtype_stop ?_)
    exact wpAny_pure ⟨rfl, I.turned (t' := s.toks) (fun b o hb q => he' b o hb q) f0 f1 f3 f4 f5⟩
  self := fun A i s Q E st h => let ⟨⟨_, he⟩, _⟩ := st; wpAny_pyIter_enum he h
end GB

namespace GB
open PySem PySem.Spec PyProof.Rows L2

/-! what is walked -/
def ItD (L : Lay) (J : It) (H : Hp) (ds : List PyData) : Prop := ∃ G Y, Walk J ds.length G Y ∧ G H ∧ (∀ H1 H2, Keep H1 H2 → G H1 → G H2) ∧
  ∀ i H1 x H2, i < ds.length → Keep H H1 → G H1 → Y i H1 x H2 → Same H1 H2 ∧ ∃ d, ds[i]? = some d ∧ Br L.K H2 x d
abbrev TId := En → (List PyData → En → Prop) → Prop
def tI (L : Lay) (t : TId) : TI := fun σ H R => ∃ ρ Q, Rel L H σ ρ ∧ t ρ Q ∧ ∀ J H' ds ρ', Go σ ρ ρ' H H' → Rel L H' σ ρ' → Q ds ρ' → ItD L J H' ds → R J H'
theorem _root_.L2.PI.less {X : Cx} {tg e : Expr} {t t2 : TI} (h : PI X tg e t) (w : ∀ σ H R, t2 σ H R → t σ H R) : PI X tg e t2 := ⟨fun pins s σ H R I q => h.run pins s σ H R I (w _ _ _ q)⟩
section
variable {L : Lay} {H : Hp} {a : Addr} {vs : List V} {ds : List PyData}
theorem it_frz {o : Obj} (h : H a = some (.frz o (.lst vs))) (b : BrA L.K H vs ds) : ItD L (Itl L.K a) H ds := by
  refine ⟨fun H1 => H1 a = some (.frz o (.lst vs)), YAt vs, ?_, h, fun H1 H2 k q => k _ _ q trivial, fun i H1 x H2 hi k q y => ?_⟩
  · rw [← b.len]
    exact (walk_list (K := L.K) (a := a) (xs := vs)).mono (fun H q => .inl (.inr ⟨o, q⟩)) fun i H x H' _ _ y => y
  · obtain ⟨rfl, hx⟩ := y
    obtain ⟨d, e, bd⟩ := b.getV hx
    exact ⟨Same.refl _, d, e, Br.keep k _ _ bd⟩
theorem it_tup (h : SqT L.K H a vs) (b : BrA L.K H vs ds) : ItD L (Itt L.K a) H ds := by
  refine ⟨fun H1 => SqT L.K H1 a vs, YAt vs, ?_, h, fun H1 H2 k q => sqT_keep k q, fun i H1 x H2 hi k q y => ?_⟩
  · rw [← b.len]; exact walk_tup
  · obtain ⟨rfl, hx⟩ := y
    obtain ⟨d, e, bd⟩ := b.getV hx
    exact ⟨Same.refl _, d, e, Br.keep k _ _ bd⟩
/-- 0, lo + 1, .. -/
def irow (lo : Int) (n : Nat) : List PyData := (List.range n).map fun (i : Nat) => .int (lo + i)
theorem irow_len (lo : Int) (n : Nat) : (irow lo n).length = n := by simp [irow]
theorem it_rng {lo : Int} {n : Nat} : ItD L (Itr lo n) H (irow lo n) := by
  refine ⟨fun _ => True, YFn fun i => .int (lo + i), ?_, trivial, fun _ _ _ q => q, fun i H1 x H2 hi k q y => ?_⟩
  · rw [irow_len]; exact walk_range
  · obtain ⟨rfl, rfl⟩ := y
    rw [irow_len] at hi
    exact ⟨Same.refl _, .int (lo + i), by simp [irow, hi], .int _⟩
/-- pairs of places and items -/
def pairsOf (ds : List PyData) : List PyData := (List.range ds.length).map fun (i : Nat) => .tuple [.int i, ds.getD i .none]
theorem pairs_len (ds : List PyData) : (pairsOf ds).length = ds.length := by simp [pairsOf]
theorem pairs_get {ds : List PyData} {i : Nat} {d : PyData} (h : ds[i]? = some d) : (pairsOf ds)[i]? = some (.tuple [.int i, d]) := by
  obtain ⟨hi, e⟩ := List.getElem?_eq_some_iff.mp h
  simp [pairsOf, hi, e]
theorem walk_enT {K : PySem.W.Frag} {xs : List V} : Walk (IteT K a) xs.length (fun H => SqT K H a xs) (YPair (fun i => some (.int (i : Nat))) (fun i => xs[i]?)) := by
  refine ⟨fun i _ hi q => ⟨xs, xs[i], q, by simp [hi]⟩, fun _ q => ⟨xs, q, Nat.le_refl _⟩, fun i H v H' _ q y => ?_⟩
  obtain ⟨T, x, h1, h2, h3, h4⟩ := y
  exact ⟨T, .int (i : Nat), x, h1, h2, h3, rfl, h4 xs q⟩
theorem yp_enum {i : Nat} {H1 H2 : Hp} {x : V} (b : BrA L.K H vs ds) (k : Keep H H1) (y : YPair (fun i => some (.int (i : Nat))) (fun i => vs[i]?) i H1 x H2) : Same H1 H2 ∧ ∃ d, (pairsOf ds)[i]? = some d ∧ Br L.K H2 x d := by
  obtain ⟨T, z, u, rfl, hT, rfl, hz, hu⟩ := y
  cases hz
  obtain ⟨d, e, bd⟩ := b.getV hu
  have sm := same_new (o := .tup [.int (i : Nat), u]) hT
  exact ⟨sm, _, pairs_get e, .tup (.of upd_same) (.cons (.int _) (.cons (Br.keep (k.tr (keep_of_same sm)) _ _ bd) .nil))⟩
theorem it_enF {o : Obj} (h : H a = some (.frz o (.lst vs))) (b : BrA L.K H vs ds) : ItD L (Ite L.K a) H (pairsOf ds) := by
  refine ⟨fun H1 => H1 a = some (.frz o (.lst vs)), _, ?_, h, fun H1 H2 k q => k _ _ q trivial, fun i H1 x H2 hi k q y => yp_enum b k y⟩
  rw [pairs_len, ← b.len]
  exact (walk_enum (K := L.K) (a := a) (xs := vs)).mono (fun H q => .inl (.inr ⟨o, q⟩)) fun i H x H' _ _ y => y
theorem it_enT (h : SqT L.K H a vs) (b : BrA L.K H vs ds) : ItD L (IteT L.K a) H (pairsOf ds) := by
  refine ⟨fun H1 => SqT L.K H1 a vs, _, ?_, h, fun H1 H2 k q => sqT_keep k q, fun i H1 x H2 hi k q y => yp_enum b k y⟩
  rw [pairs_len, ← b.len]; exact walk_enT
end
def dISeq (t : TEd) : TId := fun ρ Q => t ρ fun s ρ1 => ∃ ds, (s = .d (.list ds) ∨ s = .d (.tuple ds)) ∧ Q ds ρ1
def dIEnum (t : TEd) : TId := fun ρ Q => t ρ fun s ρ1 => ∃ ds, (s = .d (.list ds) ∨ s = .d (.tuple ds)) ∧ Q (pairsOf ds) ρ1
def dIRng (t : TEd) : TId := fun ρ Q => t ρ fun s ρ1 => ∃ j, s = .d (.int j) ∧ j < 2 ^ 60 ∧ -(2 ^ 60) < j ∧ Q (irow 0 j.toNat) ρ1
def dIRng2 (t u : TEd) : TId := fun ρ Q => t ρ fun s ρ1 => u ρ1 fun s2 ρ2 => ∃ i j, s = .d (.int i) ∧ s2 = .d (.int j) ∧ (-(2 ^ 60) < i ∧ i < 2 ^ 60 ∧ -(2 ^ 60) < j ∧ j < 2 ^ 60) ∧ Q (irow i (j - i).toNat) ρ2
section
variable {X : Cx} {L : Lay} {tg e a b : Expr} {t u : TEd} {pos p : Pos}
theorem di_seq (hK : L.K = X.K) (h : PE X e (tE L t)) : PI X tg e (tI L (dISeq t)) := by
  constructor
  intro pins s σ H R I q
  obtain ⟨ρ, Q, r, q, fin⟩ := q
  refine thn (h.run pins s σ H (fun v H1 => ∃ ds ρ', Go σ ρ ρ' H H1 ∧ Rel L H1 σ ρ' ∧ (Br L.K H1 v (.list ds) ∨ Br L.K H1 v (.tuple ds)) ∧ Q ds ρ') I ⟨ρ, _, r, q, fun v H' sv ρ' go r' hv q' => ?_⟩) fun uv s1 z => ?_
  · obtain ⟨ds, hd, q2⟩ := q'
    rcases hd with rfl | rfl
    · exact ⟨ds, ρ', go, r', .inl hv, q2⟩
    · exact ⟨ds, ρ', go, r', .inr hv, q2⟩
  · obtain ⟨v, H1, I1, rv, ds, ρ', go, r', hd, q2⟩ := z
    have fp : ∀ b ∈ [s1.heap.objs.size], FpOk X pins H1 b := fun b hb => by
      rw [List.mem_singleton.mp hb]
      exact I1.fpOk (Nat.le_refl _) (I1.hok.fresh (Nat.le_refl _))
    rcases hd with hd | hd
    · cases hd with
      | lst h1 h2 h3 =>
        cases rv
        obtain ⟨its, rv, pl, hz⟩ := I1.list (.inl (.inr ⟨_, h1⟩))
        refine wpAny_pyIter_list pl.isList ?_
        have it := fin _ H1 ds ρ' go r' q2 (it_frz h1 h3)
        rw [hK] at it
        exact ⟨s1.heap.objs.size, [s1.heap.objs.size], _, _, H1, rfl, I1.kept (t' := s1.toks) fun b o e => Heap.get?_push_of_some _ e, turn_list _ _, ⟨_, Heap.get?_push_size _ rfl, rfl, rfl⟩, fp, it⟩
    · cases hd with
      | tup h1 h3 =>
        cases rv
        have h1' := h1
        rw [hK] at h1
        obtain ⟨its, rv, pl, hz⟩ := I1.tuple h1
        refine wpAny_pyIter_tuple (show s1.heap.IsTuple _ its.toArray from pl) ?_
        have it := fin _ H1 ds ρ' go r' q2 (it_tup h1' h3)
        rw [hK] at it
        exact ⟨s1.heap.objs.size, [s1.heap.objs.size], _, _, H1, rfl, I1.kept (t' := s1.toks) fun b o e => Heap.get?_push_of_some _ e, turn_tuple _ _, ⟨_, Heap.get?_push_size _ rfl, rfl, rfl⟩, fp, it⟩
theorem di_enum {elts : List Expr} {kk : Nat} {tpos : Pos} (hK : L.K = X.K) (hg : Gl X "enumerate") (hm : X.mg "enumerate" = none) (h : PE X e (tE L t)) (hs : starEach [e] X.env = [(false, eval e X.env)] := by rfl) :
    PI X (.Tuple elts kk tpos) (.Call (.Name "enumerate" p) [e] [] pos) (tI L (dIEnum t)) := by
  constructor
  intro pins s σ H R I q
  obtain ⟨ρ, Q, r, q, fin⟩ := q
  refine Call_ (ld_blt I hg hm boot_enumerate (PyProof.Rows.callWith_type1 (thn ((pa_cons h pa_nil (by rw [hs]; rfl)).run pos pins s σ H (fun vs H1 => ∃ v ds ρ', vs = [v] ∧ Go σ ρ ρ' H H1 ∧ Rel L H1 σ ρ' ∧ (Br L.K H1 v (.list ds) ∨ Br L.K H1 v (.tuple ds)) ∧ Q (pairsOf ds) ρ') I ⟨ρ, _, r, q, fun v H' sv ρ' go r' hv q' => ?_⟩) fun us s1 z => ?_) hs rfl))
  · obtain ⟨ds, hd, q2⟩ := q'
    rcases hd with rfl | rfl
    · exact ⟨v, ds, ρ', rfl, go, r', .inl hv, q2⟩
    · exact ⟨v, ds, ρ', rfl, go, r', .inr hv, q2⟩
  · obtain ⟨vs, H1, I1, rvs, v, ds, ρ', rfl, go, r', hd, q2⟩ := z
    obtain ⟨uv, rfl, rv⟩ := vals1 rvs
    have fp : ∀ b ∈ [s1.heap.objs.size + 1, s1.heap.objs.size], FpOk X pins H1 b := fun b hb => by
      have hle : s1.heap.objs.size ≤ b := by
        rcases List.mem_cons.mp hb with z | z
        · rw [z]; exact Nat.le_add_right _ _
        · rw [List.mem_singleton.mp z]; exact Nat.le_refl _
      exact I1.fpOk hle (I1.hok.fresh hle)
    rcases hd with hd | hd
    · cases hd with
      | lst h1 h2 h3 =>
        cases rv
        obtain ⟨its, rv, pl, hz⟩ := I1.list (.inl (.inr ⟨_, h1⟩))
        have it := fin _ H1 _ ρ' go r' q2 (it_enF h1 h3)
        rw [hK] at it
        refine call_enum_one (begins_list _ its.toArray) pl.isList fun h' he hit hk => wpAny_pyIter_enum he ?_
        exact ⟨s1.heap.objs.size + 1, _, _, _, H1, rfl, I1.kept (t' := s1.toks) hk, turn_enum _ (s1.heap.objs.size + 1) s1.heap.objs.size, ⟨⟨.none, he⟩, ⟨_, hit, rfl, rfl⟩, Nat.succ_ne_self _⟩, fp, it⟩
    · cases hd with
      | tup h1 h3 =>
        cases rv
        have h1' := h1
        rw [hK] at h1
        obtain ⟨its, rv, pl, hz⟩ := I1.tuple h1
        have it := fin _ H1 _ ρ' go r' q2 (it_enT h1' h3)
        rw [hK] at it
        refine call_enum_one (begins_tuple _ its.toArray) (show s1.heap.IsTuple _ its.toArray from pl) fun h' he hit hk => wpAny_pyIter_enum he ?_
        exact ⟨s1.heap.objs.size + 1, _, _, _, H1, rfl, I1.kept (t' := s1.toks) hk, turn_enumT _ (s1.heap.objs.size + 1) s1.heap.objs.size, ⟨⟨.none, he⟩, ⟨_, hit, rfl, rfl⟩, Nat.succ_ne_self _⟩, fp, it⟩
theorem di_rng (hg : Gl X "range") (hm : X.mg "range" = none) (h : PE X a (tE L t)) (hs : starEach [a] X.env = [(false, eval a X.env)] := by rfl) : PI X tg (.Call (.Name "range" p) [a] [] pos) (tI L (dIRng t)) :=
  (pi_range1 hg hm (pa_cons h pa_nil (by rw [hs]; rfl)) hs).less fun σ H R q => by
    obtain ⟨ρ, Q, r, q, fin⟩ := q
    refine ⟨ρ, _, r, q, fun v H1 sv ρ1 go r1 hv q1 => ?_⟩
    obtain ⟨j, rfl, h1, h2, q2⟩ := q1
    have hv : Br L.K H1 v (.int j) := hv
    cases hv
    exact ⟨j, rfl, by omega, by omega, fin _ H1 _ ρ1 go r1 q2 it_rng⟩
theorem di_rng2 (hg : Gl X "range") (hm : X.mg "range" = none) (h : PE X a (tE L t)) (h2 : PE X b (tE L u)) (hs : starEach [a, b] X.env = [(false, eval a X.env), (false, eval b X.env)] := by rfl) (hs2 : starEach [b] X.env = [(false, eval b X.env)] := by rfl) :
    PI X tg (.Call (.Name "range" p) [a, b] [] pos) (tI L (dIRng2 t u)) :=
  (pi_range2 hg hm (pa_cons h (pa_cons h2 pa_nil (by rw [hs2]; rfl)) (by rw [hs, hs2])) hs hs2).less fun σ H R q => by
    obtain ⟨ρ, Q, r, q, fin⟩ := q
    refine ⟨ρ, _, r, q, fun v H1 sv ρ1 go r1 hv q1 => ⟨ρ1, _, r1, q1, fun w H2 sw ρ2 go2 r2 hw q2 => ?_⟩⟩
    obtain ⟨i, j, rfl, rfl, hb, q3⟩ := q2
    have hv : Br L.K H1 v (.int i) := hv
    have hw : Br L.K H2 w (.int j) := hw
    cases hv; cases hw
    exact ⟨i, j, rfl, by omega, fin _ H2 _ ρ2 (go.tr go2) r2 q3 it_rng⟩
end
/-! loops -/
def dLoop (g : DTG) (tb : TSd) (D : EndsD) : List PyData → En → Prop
  | [], ρ => D.nx ρ
  | d :: ds, ρ => g d ρ fun ρ1 => tb { nx := dLoop g tb D ds, ct := dLoop g tb D ds, bk := D.nx, rt := D.rt } ρ1
def dFor (ti : TId) (g : DTG) (tb : TSd) : TSd := fun D ρ => ti ρ fun ds ρ1 => dLoop g tb D ds ρ1
def dWhile (c : TTd) (tb : TSd) : TSd := fun D ρ => ∃ W : Nat → En → Prop, (∃ m, W m ρ) ∧ ∀ m ρ, W m ρ → c ρ fun b ρ1 => if b = true then tb { nx := fun ρ' => ∃ m', m' < m ∧ W m' ρ', ct := fun ρ' => ∃ m', m' < m ∧ W m' ρ', bk := D.nx, rt := D.rt } ρ1 else D.nx ρ1
section
variable {X : Cx} {L : Lay} {tg iter c : Expr} {body : List Stmt} {ti : TId} {g : DTG} {tb : TSd} {tc : TTd} {pos : Pos}
theorem ds_for (gd : Good X) (hp : PassesOwn (model X.prog X.w) X.A X.env X.xe) (hi : PI X tg iter (tI L ti)) (hg : PG X tg (tG L g)) (hb : PSs X body (tS L tb)) (hs : ∀ x, foldedSetIterable iter X.env x = pure x := by intro _; rfl) :
    PS X (.For tg iter body [] pos) (tS L (dFor ti g tb)) := (ps_for hp gd.calm hi hg hb hs).less fun D σ H q => by
  obtain ⟨ρ, De, r, q, h1, h2, h3, h4⟩ := q
  refine ⟨ρ, _, r, q, fun J H1 ds ρ1 go r1 q1 it => ?_⟩
  have k0 := go.keep r
  obtain ⟨G, Y, wk, g0, gk, step⟩ := it
  refine for_it wk (fun i σ' H' => Keep H1 H' ∧ ∃ ρ', Rel L H' σ' ρ' ∧ dLoop g tb De (ds.drop i) ρ') ⟨Keep.rfl' H1, ρ1, r1, q1⟩ (fun i σ' H' _ ⟨k, _⟩ => gk _ _ k g0) (fun i x σ' H' H2 hi ⟨k, ρ', r', ql⟩ hy => ?_) fun σ' H' ⟨k, ρ', r', ql⟩ => ?_
  · obtain ⟨sm, d, hd, bd⟩ := step i H' x H2 hi k (gk _ _ k g0) hy
    have e : ds.drop i = d :: ds.drop (i + 1) := by
      obtain ⟨hi', e⟩ := List.getElem?_eq_some_iff.mp hd
      rw [List.drop_eq_getElem_cons hi', e]
    rw [e] at ql
    have kk := (k.tr (keep_of_same sm))
    refine ⟨ρ', d, _, r'.go sm, bd, ql, fun σ2 ρ2 r2 n => ⟨ρ2, _, r2, n, fun σ3 H4 ρ3 k4 r3 n3 => ⟨kk.tr k4, ρ3, r3, n3⟩, fun v H4 s k4 => h2 v H4 s (k0.tr (kk.tr k4)), fun σ3 H4 ρ3 k4 r3 n3 => h1 _ _ ρ3 (k0.tr (kk.tr k4)) r3 n3, fun σ3 H4 ρ3 k4 r3 n3 => ⟨kk.tr k4, ρ3, r3, n3⟩⟩⟩
  · rw [List.drop_length] at ql
    exact h1 _ _ ρ' (k0.tr k) r' ql
theorem ds_while (hp : PassesOwn (model X.prog X.w) X.A X.env X.xe) (hc : PT X c (tT L tc)) (hb : PSs X body (tS L tb)) : PS X (.While c body [] pos) (tS L (dWhile tc tb)) := (ps_while hp hc hb).less fun D σ H q => by
  obtain ⟨ρ, De, r, ⟨W, ⟨m0, w0⟩, turn⟩, h1, h2, h3, h4⟩ := q
  refine ⟨fun m σ' H' => Keep H H' ∧ ∃ ρ', Rel L H' σ' ρ' ∧ W m ρ', ⟨m0, Keep.rfl' H, ρ, r, w0⟩, fun m σ' H' ⟨k, ρ', r', w⟩ => ?_⟩
  refine ⟨ρ', _, r', turn m ρ' w, fun b H2 ρ2 go r2 n => ?_⟩
  have kk := k.tr (go.keep r')
  cases b with
  | false =>
    refine iteF ?_
    exact h1 _ _ ρ2 kk r2 (by simpa using n)
  | true =>
    refine iteT ?_
    refine ⟨fun σ3 H3 => ∃ m', m' < m ∧ Keep H H3 ∧ ∃ ρ3, Rel L H3 σ3 ρ3 ∧ W m' ρ3, fun σ3 H3 ⟨m', hm, z⟩ => ⟨m', hm, z⟩, ρ2, { nx := fun ρ' => ∃ m', m' < m ∧ W m' ρ', ct := fun ρ' => ∃ m', m' < m ∧ W m' ρ', bk := De.nx, rt := De.rt }, r2, by simpa using n, fun σ3 H3 ρ3 k3 r3 ⟨m', hm, w3⟩ => ⟨m', hm, kk.tr k3, ρ3, r3, w3⟩, fun v H3 s k3 => h2 v H3 s (kk.tr k3), fun σ3 H3 ρ3 k3 r3 n3 => h1 _ _ ρ3 (kk.tr k3) r3 n3, fun σ3 H3 ρ3 k3 r3 ⟨m', hm, w3⟩ => ⟨m', hm, kk.tr k3, ρ3, r3, w3⟩⟩
end
end GB

namespace GB
open PySem PySem.Spec PyProof.Rows L2

/-! methods of lists of one's own -/
def dAppend (i : Nat) (t : TEd) : TEd := fun ρ Q => (∃ ys, ρ[i]? = some (.own ys)) ∧ t ρ fun s ρ1 => ∃ x xs, s = .d x ∧ ρ1[i]? = some (.own xs) ∧ xs.length < sizeLine ∧ Q (.d .none) (ρ1.set i (.own (xs ++ [x])))
def dPop (i : Nat) : TEd := fun ρ Q => ∃ xs x, ρ[i]? = some (.own xs) ∧ xs[xs.length - 1]? = some x ∧ Q (.d x) (ρ.set i (.own xs.dropLast))
def dPopAt (i : Nat) (t : TEd) : TEd := fun ρ Q => (∃ ys, ρ[i]? = some (.own ys)) ∧ t ρ fun s ρ1 => ∃ j k x xs, s = .d (.int j) ∧ ρ1[i]? = some (.own xs) ∧ -(2 ^ 62) < j ∧ j < 2 ^ 62 ∧ seqIndex? j xs.length = some k ∧ xs[k]? = some x ∧ Q (.d x) (ρ1.set i (.own (xs.eraseIdx k)))
def dExtend (i : Nat) (t : TEd) : TEd := fun ρ Q => (∃ ys, ρ[i]? = some (.own ys)) ∧ t ρ fun s ρ1 => ∃ zs xs, s = .d (.list zs) ∧ ρ1[i]? = some (.own xs) ∧ xs.length + zs.length ≤ sizeLine ∧ Q (.d .none) (ρ1.set i (.own (xs ++ zs)))
section
variable {L : Lay} {H H1 : Hp} {σ : L2.St} {ρ ρ1 : En}
theorem Go.putW (go : Go σ ρ ρ1 H H1) {i : Nat} {xs ys zs : Ow} {l : Addr} {w : HO} (h0 : ρ[i]? = some (.ow zs)) (h : ρ1[i]? = some (.ow xs)) (hi : σ[i]? = some (some (.ref l))) :
    Go σ ρ (ρ1.set i (.ow ys)) H (upd H1 l w) := by
  refine ⟨fun a o q n => ?_, fun j as q => ?_, fun a q => ?_⟩
  · rw [upd_ne (fun z => n i zs h0 (by rw [z]; exact hi))]; exact go.stay a o q n
  · by_cases hj : i = j
    · subst hj; exact ⟨zs, h0⟩
    · rw [get_set, if_neg hj] at q; exact go.less j as q
  · by_cases z : a = l
    · rw [z, upd_same] at q; cases q
    · rw [upd_ne z] at q; exact go.dom a q
theorem Go.put (go : Go σ ρ ρ1 H H1) {i : Nat} {xs ys zs : List PyData} {l : Addr} {vs ws : List V} (h0 : ρ[i]? = some (.own zs)) (h : ρ1[i]? = some (.own xs)) (hi : σ[i]? = some (some (.ref l))) (hl : H1 l = some (.lst vs)) :
    Go σ ρ (ρ1.set i (.own ys)) H (upd H1 l (.lst ws)) := go.putW h0 h hi
end
section
variable {X : Cx} {L : Lay} {pos p apos cpos : Pos} {o e : Expr} {t : TEd} {i : Nat}
theorem own_ty {pins : List (Addr × Obj)} {K : PySem.W.Frag} {H : Hp} {l : Addr} {vs : List V} (h : H l = some (.lst vs)) : tyV K "list" (.ref l) H := .inl ⟨rfl, _, .inl (.inl h)⟩
theorem mr_of {id : String} {r : V → List V → Hp → VK → Prop} (h : MtM X id r) : MtR X id r := h
theorem de_append (ho : PE X o (tVar i)) (he : PE X e (tE L t)) (hs : starEach [e] X.env = (false, eval e X.env) :: starEach [] X.env := by rfl) (hbase : attributeBase o "append" X.env (eval o X.env) = eval o X.env := by rfl)
    (hfew : ((backTo cpos (starEach [e] X.env)).all (fun x => !x.1) && (backToKw cpos (keywordEach [] X.env)).all (fun x => x.1.isSome) && decide ([e].length + ([] : List Keyword).length + (if ([] : List Keyword).isEmpty then 0 else 1) < 30)) = true := by rfl)
    (hline : (apos.endLine == cpos.line) = true := by rfl) (hpl : (backTo cpos (starEach [] X.env)).any (·.1) = false := by rfl) : PE X (.Call (.Attribute o "append" apos) [e] [] cpos) (tE L (dAppend i t)) :=
  (pe_bm PySem.F.plainAttrs_list PySem.F.slot_list_append PySem.F.type_list_append mt_append ho (pa_cons he pa_nil hs) hbase hfew hline hs hpl).less fun σ H Q' q => by
    obtain ⟨ρ, Q, r, ⟨⟨ys, ey⟩, q⟩, fin⟩ := q
    obtain ⟨l, vs, hi, hl, _⟩ := r.getO ey
    refine ⟨_, hi, own_ty (pins := []) hl, ρ, _, r, q, fun v H1 s ρ1 go r1 hv q1 => ?_⟩
    obtain ⟨x, xs, rfl, ex, hz, q2⟩ := q1
    obtain ⟨l', ws, hi', hl', hb, _⟩ := r1.getO ex
    rw [hi] at hi'; cases hi'
    obtain ⟨r2, k2⟩ := r1.put ex hi hl' (hb.app (BrA.one hv))
    exact ⟨l, ws, v, rfl, rfl, hl', by rw [hb.len]; exact hz, fin .non _ (.d .none) _ (go.put ey ex hi hl') r2 .non q2⟩
theorem de_pop (ho : PE X o (tVar i)) (hbase : attributeBase o "pop" X.env (eval o X.env) = eval o X.env := by rfl) (hline : (apos.endLine == cpos.line) = true := by rfl) : PE X (.Call (.Attribute o "pop" apos) [] [] cpos) (tE L (dPop i)) :=
  (pe_bm0 PySem.F.plainAttrs_list PySem.F.slot_list_pop PySem.F.type_list_pop mt_pop ho hbase hline).less fun σ H Q' q => by
    obtain ⟨ρ, Q, r, ⟨xs, x, ex, hx, q⟩, fin⟩ := q
    obtain ⟨l, vs, hi, hl, hb, _⟩ := r.getO ex
    obtain ⟨v, hv, bv⟩ := hb.get hx
    obtain ⟨r2, k2⟩ := r.put ex hi hl hb.dropLast
    refine ⟨_, hi, own_ty (pins := []) hl, l, vs, v, rfl, rfl, hl, by rw [hb.len]; exact hv, fin v _ (.d x) _ (Go.rf.put ex ex hi hl) r2 (Br.keep k2 _ _ bv) q⟩
theorem de_popAt (ho : PE X o (tVar i)) (he : PE X e (tE L t)) (hs : starEach [e] X.env = (false, eval e X.env) :: starEach [] X.env := by rfl) (hbase : attributeBase o "pop" X.env (eval o X.env) = eval o X.env := by rfl)
    (hfew : ((backTo cpos (starEach [e] X.env)).all (fun x => !x.1) && (backToKw cpos (keywordEach [] X.env)).all (fun x => x.1.isSome) && decide ([e].length + ([] : List Keyword).length + (if ([] : List Keyword).isEmpty then 0 else 1) < 30)) = true := by rfl)
    (hline : (apos.endLine == cpos.line) = true := by rfl) (hpl : (backTo cpos (starEach [] X.env)).any (·.1) = false := by rfl) : PE X (.Call (.Attribute o "pop" apos) [e] [] cpos) (tE L (dPopAt i t)) :=
  (pe_bm PySem.F.plainAttrs_list PySem.F.slot_list_pop PySem.F.type_list_pop mt_popAt ho (pa_cons he pa_nil hs) hbase hfew hline hs hpl).less fun σ H Q' q => by
    obtain ⟨ρ, Q, r, ⟨⟨ys, ey⟩, q⟩, fin⟩ := q
    obtain ⟨l, vs, hi, hl, _⟩ := r.getO ey
    refine ⟨_, hi, own_ty (pins := []) hl, ρ, _, r, q, fun v H1 s ρ1 go r1 hv q1 => ?_⟩
    obtain ⟨j, k, x, xs, rfl, ex, b1, b2, hk, hx, q2⟩ := q1
    have hv : Br L.K H1 v (.int j) := hv
    cases hv
    obtain ⟨l', ws, hi', hl', hb, _⟩ := r1.getO ex
    rw [hi] at hi'; cases hi'
    obtain ⟨v, hv, bv⟩ := hb.get hx
    obtain ⟨r2, k2⟩ := r1.put ex hi hl' (hb.erase k)
    exact ⟨l, ws, j, k, v, rfl, rfl, hl', by omega, by omega, by rw [hb.len]; exact hk, hv, fin v _ (.d x) _ (go.put ey ex hi hl') r2 (Br.keep k2 _ _ bv) q2⟩
end

/-! a, b = x, y with plain local names -/
def dPar (i j : Nat) (t1 t2 : TEd) : TSd := fun D ρ => t1 ρ fun s1 ρ1 => t2 ρ1 fun s2 ρ2 => D.nx ((ρ2.set i s1).set j s2)
section
variable {L : Lay} {H H1 H2 : Hp} {σ : L2.St} {ρ ρ1 ρ2 : En}
theorem VR.later (r : Rel L H σ ρ) (g1 : Go σ ρ ρ1 H H1) (r1 : Rel L H1 σ ρ1) (g2 : Go σ ρ1 ρ2 H1 H2) {v : V} {s : S} (h : VR L H H1 v s) : VR L H H2 v s := by
  cases s with
  | un => exact h
  | d x => exact Br.keep (g2.keep r1) _ _ h
  | ob t => exact FR.keep (s := .ob t) (g2.keep r1) h
  | ow xs =>
    obtain ⟨hw, hn⟩ := h
    refine ⟨hw.keep (g2.keep r1) fun l u el h1 => g2.stay l _ h1 fun i ys e z => ?_, hn⟩
    subst el
    obtain ⟨zs, e'⟩ := g1.less i ys e
    obtain ⟨l', vs', q1, q2, _⟩ := r.getW e'
    rw [q1] at z; cases z
    rw [hn l rfl] at q2; cases q2
/-- the slots' own lists stood at Hs already -/
def Old (Hs : Hp) (σ : L2.St) (ρ : En) : Prop := ∀ (k : Nat) (ys : Ow), ρ[k]? = some (.ow ys) → ∀ l, σ[k]? = some (some (.ref l)) → Hs l ≠ none
theorem Rel.old (r : Rel L H σ ρ) (g : Go σ ρ ρ1 H H1) : Old H σ ρ1 := fun k ys e l hl hn => by
  obtain ⟨zs, e'⟩ := g.less k ys e
  obtain ⟨l', vs', q1, q2, _⟩ := r.getW e'
  rw [hl] at q1; cases q1
  rw [hn] at q2; cases q2
theorem Rel.put1 {Hs : Hp} {σ' : L2.St} {ρ' : En} (r : Rel L H2 σ' ρ') (o : Old Hs σ' ρ') {j : Nat} {v : V} {s : S} (h : VR L Hs H2 v s) : Rel L H2 (σ'.set j (some v)) (ρ'.set j s) := by
  cases s with
  | un => exact h.elim
  | d x => exact r.setF h
  | ob t => exact r.setF h
  | ow xs =>
    refine r.setO h.1 fun k ys e z => ?_
    obtain ⟨l, vs, rfl, _⟩ := h.1.any
    exact o k ys e l z (h.2 l rfl)
theorem Old.set {Hs Hm : Hp} {σ' : L2.St} {ρ' : En} (o : Old Hs σ' ρ') (up : ∀ a, Hm a = none → Hs a = none) {i : Nat} {v : V} {s : S} (h : ∀ l, v = .ref l → ∀ xs, s = .ow xs → Hm l ≠ none) : Old Hm (σ'.set i (some v)) (ρ'.set i s) := fun k ys e l z => by
  by_cases hk : i = k
  · subst hk
    rw [get_set, if_pos rfl] at e z
    split at e
    · split at z
      · cases e; cases z
        exact h l rfl ys rfl
      · cases z
    · cases e
  · rw [get_set, if_neg hk] at e z
    exact fun q => o k ys e l z (up l q)
theorem VR.there {Hs Hm : Hp} {v : V} {s : S} (h : VR L Hs Hm v s) : ∀ l, v = .ref l → ∀ xs, s = .ow xs → Hm l ≠ none := fun l e xs es q => by
  subst es
  obtain ⟨l', vs, e2, h1, _⟩ := h.1.any
  rw [e2] at e; cases e
  rw [q] at h1; cases h1
end
section
variable {X : Cx} {L : Lay} {a b : Expr} {t1 t2 : TEd} {pos : Pos}
theorem ds_par {i j : Nat} {x y : Str} {px py pt : Pos} {kt k2 pt2} (g : Good X) (hi : X.N[i]? = some x) (hj : X.N[j]? = some y) (hij : i ≠ j) (hx : X.env.scope.names.lookup x = some .local) (hy : X.env.scope.names.lookup y = some .local)
    (ha : PE X a (tE L t1)) (hb : PE X b (tE L t2)) (hw : swappedStores [.Tuple [.Name x px, .Name y py] kt pt] (.Tuple [a, b] k2 pt2) X.env = pure (some [x, y]))
    (h1 : starEach [a, b] X.env = (false, eval a X.env) :: starEach [b] X.env := by rfl) (h2 : starEach [b] X.env = (false, eval b X.env) :: starEach [] X.env := by rfl)
    (hs : swapsWithSole [.Tuple [.Name x px, .Name y py] kt pt] (.Tuple [a, b] k2 pt2) pos.line X.env = pure false := by rfl) :
    PS X (.Assign [.Tuple [.Name x px, .Name y py] kt pt] (.Tuple [a, b] k2 pt2) pos) (tS L (dPar i j t1 t2)) :=
  (ps_par g.calm g.nd hi hj hij hx hy (pa_cons ha (pa_cons hb pa_nil h2) h1) hw hs).less fun D σ H q => by
    obtain ⟨ρ, De, r, q, n1, _⟩ := q
    refine ⟨ρ, _, r, q, fun v H1 s ρ1 go r1 hv q1 => ⟨ρ1, _, r1, q1, fun w H2 s2 ρ2 go2 r2 hw q2 => ⟨v, w, rfl, ?_⟩⟩⟩
    have hv2 := hv.later r go r1 go2
    have ra := r2.put1 (j := i) (r.old (go.tr go2)) hv2
    have rb := ra.put1 (j := j) ((r.old (go.tr go2)).set (Hm := H1) (go.dom) hv.there) hw
    exact n1 _ _ _ ((go.tr go2).keep r) rb q2
end
end GB

namespace GB
open PySem PySem.Spec PyProof.Rows L2

/-! comprehensions -/
def wipeD (ρ : En) : List Nat → En
  | [] => ρ
  | v :: vs => (wipeD ρ vs).set v .un
theorem wipeD_get (ρ : En) (j : Nat) : ∀ vs : List Nat, (wipeD ρ vs)[j]? = if j ∈ vs then (if j < ρ.length then some .un else none) else ρ[j]?
  | [] => by simp [wipeD]
  | v :: vs => by
    have hl : ∀ vs : List Nat, (wipeD ρ vs).length = ρ.length := fun vs => by
      induction vs with
      | nil => rfl
      | cons a r ih => simp [wipeD, ih]
    unfold wipeD
    rw [get_set, hl, wipeD_get ρ j vs]
    by_cases h : v = j
    · subst h; simp
    · have : ¬ j = v := fun e => h e.symm
      simp [h, this]
theorem wipeD_len (ρ : En) : ∀ vs : List Nat, (wipeD ρ vs).length = ρ.length
  | [] => rfl
  | v :: vs => by simp [wipeD, wipeD_len ρ vs]
theorem wipe_get (σ : L2.St) (j : Nat) : ∀ vs : List Nat, (wipe σ vs)[j]? = if j ∈ vs then (if j < σ.length then some none else none) else σ[j]?
  | [] => by simp [wipe]
  | v :: vs => by
    unfold wipe
    rw [get_set, wipe_length, wipe_get σ j vs]
    by_cases h : v = j
    · subst h; simp
    · have : ¬ j = v := fun e => h e.symm
      simp [h, this]
section
variable {L : Lay} {H H' : Hp} {σ σ' : L2.St} {ρ : En} {vs : List Nat}
/-- only what is not forgotten counts -/
theorem Rel.move (r : Rel L H σ (wipeD ρ vs)) (hl : σ'.length = σ.length) (h : ∀ j, j ∉ vs → σ'[j]? = σ[j]?) : Rel L H σ' (wipeD ρ vs) := by
  have out : ∀ (j : Nat) (s : S), (wipeD ρ vs)[j]? = some s → s ≠ .un → j ∉ vs := fun j s e n m => by
    rw [wipeD_get, if_pos m] at e
    split at e
    · cases e; exact n rfl
    · cases e
  refine ⟨by rw [hl]; exact r.len, fun j s e => ?_, fun i j xs ys e1 e2 e3 => ?_, r.same⟩
  · by_cases hs : s = .un
    · subst hs; trivial
    · rw [h j (out j s e hs)]; exact r.at' j s e
  · rw [h i (out i _ e1 (by intro z; cases z)), h j (out j _ e2 (by intro z; cases z))] at e3
    exact r.sep i j xs ys e1 e2 e3
theorem Rel.wiped (r : Rel L H σ ρ) : Rel L H σ (wipeD ρ vs) := by
  have sub : ∀ (j : Nat) (s : S), (wipeD ρ vs)[j]? = some s → s = .un ∨ ρ[j]? = some s := fun j s e => by
    rw [wipeD_get] at e
    split at e
    · split at e
      · cases e; exact .inl rfl
      · cases e
    · exact .inr e
  refine ⟨by rw [wipeD_len]; exact r.len, fun j s e => ?_, fun i j xs ys e1 e2 e3 => ?_, r.same⟩
  · rcases sub j s e with rfl | e
    · trivial
    · exact r.at' j s e
  · rcases sub i _ e1 with q | q1
    · cases q
    · rcases sub j _ e2 with q | q2
      · cases q
      · exact r.sep i j xs ys q1 q2 e3
theorem wipe_out (σ : L2.St) (vs : List Nat) : ∀ j, j ∉ vs → (wipe σ vs)[j]? = σ[j]? := fun j h => by rw [wipe_get, if_neg h]
/-- outside of the lists that slots own -/
theorem Go.wiped (go : Go σ ρ ρ H H') : Go σ ρ (wipeD ρ vs) H H' := ⟨go.stay, fun i xs e => by
  rw [wipeD_get] at e
  split at e
  · split at e <;> cases e
  · exact ⟨xs, e⟩, go.dom⟩
end
def dLcGo (vs : List Nat) (g : DTG) (tt : TTd) (te : TEd) (ρw : En) (Q : List PyData → Prop) : List PyData → List PyData → Prop
  | [], acc => Q acc
  | d :: ds, acc => g d ρw fun ρ2 => wipeD ρ2 vs = ρw ∧ tt ρ2 fun b ρ3 => ρ3 = ρ2 ∧ if b = true then te ρ2 fun s ρ4 => ρ4 = ρ2 ∧ ∃ y, s = .d y ∧ dLcGo vs g tt te ρw Q ds (acc ++ [y]) else dLcGo vs g tt te ρw Q ds acc
def dLc (ti : TId) (vs : List Nat) (g : DTG) (tt : TTd) (te : TEd) : TEd := fun ρ Q => ti ρ fun ds ρ1 => ds.length ≤ sizeLine ∧ dLcGo vs g tt te (wipeD ρ1 vs) (fun acc => Q (.own acc) (wipeD ρ1 vs)) ds []
def dYes : TTd := fun ρ Q => Q true ρ
theorem _root_.L2.PTs.less {X : Cx} {e : List Expr} {t t2 : TT} (h : PTs X e t) (w : ∀ σ H Q, t2 σ H Q → t σ H Q) : PTs X e t2 := ⟨fun pins s σ H Q I q => h.run pins s σ H Q I (w _ _ _ q)⟩
theorem dts_nil {X : Cx} {L : Lay} : PTs X [] (tT L dYes) := pts_nil.less fun σ H Q' h => by
  obtain ⟨ρ, Q, r, q, fin⟩ := h
  exact fin true H ρ Go.rf r q
theorem dts_one {X : Cx} {L : Lay} {c : Expr} {t : TTd} (h : PT X c (tT L t)) : PTs X [c] (tT L t) := pts_one h
section
variable {L : Lay} {ti : TId} {vs : List Nat} {g : DTG} {tt : TTd} {te : TEd}
/-- in these slots there is no list of one's own -/
def NoOwn (vs : List Nat) (ρ : En) : Prop := ∀ j, j ∈ vs → ∀ xs, ρ[j]? ≠ some (.ow xs)
theorem noOwn_wiped (ρ : En) : NoOwn vs (wipeD ρ vs) := fun j hj xs e => by
  rw [wipeD_get, if_pos hj] at e
  split at e <;> cases e
/-- target assignments touch no slot but the block's own -/
def GOwn (L : Lay) (vs : List Nat) (tg : TG) (g : DTG) : Prop := ∀ {H : Hp} {σ : L2.St} {ρ : En} {v : V} {d : PyData} {Q : En → Prop} {Q' : L2.St → Hp → Prop}, Rel L H σ ρ → NoOwn vs ρ → Br L.K H v d → g d ρ Q →
  (∀ σ' ρ', Rel L H σ' ρ' → NoOwn vs ρ' → Q ρ' → wipe σ' vs = wipe σ vs → Q' σ' H) → tg v σ H Q'
theorem wipe_set {σ : L2.St} {i : Nat} {o : Option V} (h : i ∈ vs) : wipe (σ.set i o) vs = wipe σ vs := by
  apply List.ext_getElem?
  intro j
  rw [wipe_get, wipe_get, List.length_set]
  split
  · rfl
  · rename_i hj
    rw [get_set, if_neg (show ¬ i = j from fun e => hj (e ▸ h))]
theorem gown_name {i : Nat} (h : i ∈ vs) : GOwn L vs (gName i) (dgName i) := fun r n b q fin => by
  refine fin _ _ (r.setF (s := .d _) b) (fun j hj xs e => ?_) q (wipe_set h)
  by_cases hij : i = j
  · subst hij; rw [get_set, if_pos rfl] at e; split at e <;> cases e
  · rw [get_set, if_neg hij] at e; exact n j hj xs e
def GOwns (L : Lay) (vs : List Nat) (tg : TGs) (g : DTGs) : Prop := ∀ {H : Hp} {σ : L2.St} {ρ : En} {us : List V} {ds : List PyData} {Q : En → Prop} {Q' : L2.St → Hp → Prop}, Rel L H σ ρ → NoOwn vs ρ → BrA L.K H us ds → g ds ρ Q →
  (∀ σ' ρ', Rel L H σ' ρ' → NoOwn vs ρ' → Q ρ' → wipe σ' vs = wipe σ vs → Q' σ' H) → tg us σ H Q'
theorem gowns_nil : GOwns L vs gNil dgNil := fun r n b q fin => by
  obtain ⟨rfl, q⟩ := q
  cases b
  exact ⟨rfl, fin _ _ r n q rfl⟩
theorem gowns_cons {tg : TG} {tgs : TGs} {g : DTG} {gs : DTGs} (h : GOwn L vs tg g) (h2 : GOwns L vs tgs gs) : GOwns L vs (gCons tg tgs) (dgCons g gs) := fun r n b q fin => by
  obtain ⟨d, rs, rfl, q⟩ := q
  cases b with
  | cons b1 b2 => exact ⟨_, _, rfl, h r n b1 q fun σ' ρ' r' n' q' e => h2 r' n' b2 q' fun σ2 ρ2 r2 n2 q2 e2 => fin σ2 ρ2 r2 n2 q2 (e2.trans e)⟩
theorem gown_tup {k : Nat} {tgs : TGs} {gs : DTGs} (h : GOwns L vs tgs gs) : GOwn L vs (gTup L.K k tgs) (dgTup k gs) := fun r n b q fin => by
  obtain ⟨ds, rfl, hl, q⟩ := q
  cases b with
  | tup h1 h2 => exact ⟨_, _, rfl, h1, by rw [h2.len]; exact hl, h r n h2 q fin⟩
theorem Rel.other {H : Hp} {σ : L2.St} {ρ : En} (r : Rel L H σ ρ) {l : Addr} {us ws : List V} (hl : H l = some (.lst us)) (h0 : L.H0 l = none) (hs : ∀ (i : Nat) (ys : Ow), ρ[i]? = some (.ow ys) → σ[i]? ≠ some (some (.ref l))) : Rel L (upd H l (.lst ws)) σ ρ := by
  have k : Keep H (upd H l (.lst ws)) := keep_put hl trivial
  refine ⟨r.len, fun j z e => ?_, r.sep, same_fix r.same h0⟩
  have q := r.at' j z e
  cases z with
  | un => trivial
  | d x => obtain ⟨v, e2, q⟩ := q; exact ⟨v, e2, Br.keep k _ _ q⟩
  | ow zs =>
    obtain ⟨v, e2, q⟩ := q
    refine ⟨v, e2, q.keep k fun m u' em hu => (upd_ne fun z => ?_).trans hu⟩
    subst em; subst z
    obtain ⟨w, e4, _⟩ := r.get e
    rw [e4] at e2
    refine hs j zs e ?_
    rw [e4]
    exact congrArg some (show w = some (V.ref m) from e2)
  | ob t => obtain ⟨a, e2, q⟩ := q; exact ⟨a, e2, L.J.keep _ _ _ _ k q⟩
theorem lc_read {gt : TG} (hg : GOwn L vs gt g) : ∀ σ H Q', tE L (dLc ti vs g tt te) σ H Q' → tLc (tI L ti) gt (tT L tt) (tE L te) vs σ H Q' := by
  intro σ H Q' q
  obtain ⟨ρ, Q, r, q, fin⟩ := q
  refine ⟨ρ, _, r, q, fun J H1 ds ρ1 go r1 q1 it D hD => ?_⟩
  obtain ⟨hz, q1⟩ := q1
  obtain ⟨G, Y, wk, g0, gk, step⟩ := it
  have rw1 : Rel L H1 (wipe σ vs) (wipeD ρ1 vs) := r1.wiped.move (wipe_length σ vs) (wipe_out σ vs)
  have sD := same_new (o := .lst []) hD
  have d0 : L.H0 D = none := r1.same.free hD
  have dSlot : ∀ (i : Nat) (ys : Ow), (wipeD ρ1 vs)[i]? = some (.ow ys) → (wipe σ vs)[i]? ≠ some (some (.ref D)) := fun i ys e z => by
    obtain ⟨l', us', q1, q2, _⟩ := rw1.getW e
    rw [z] at q1; cases q1
    rw [hD] at q2; cases q2
  refine lc_it wk (fun i H2 => i ≤ ds.length ∧ Keep H1 H2 ∧ Go (wipe σ vs) (wipeD ρ1 vs) (wipeD ρ1 vs) H1 H2 ∧ Rel L H2 (wipe σ vs) (wipeD ρ1 vs) ∧ ∃ acc us, H2 D = some (.lst us) ∧ BrA L.K H2 us acc ∧ acc.length ≤ i ∧ dLcGo vs g tt te (wipeD ρ1 vs) (fun acc => Q (.own acc) (wipeD ρ1 vs)) (ds.drop i) acc)
    ⟨Nat.zero_le _, keep_of_same sD, Go.sm sD, rw1.go sD, [], [], upd_same, .nil, Nat.le_refl _, q1⟩ (fun i H2 _ ⟨_, k, _⟩ => gk _ _ k g0) (fun i x H2 H3 hi ⟨_, k, goi, r2, acc, us, hDl, hb, hacc, ql⟩ hy => ?_) fun H2 ⟨_, k, goi, r2, acc, us, hDl, hb, hacc, ql⟩ => ?_
  · obtain ⟨sm, d, hd, bd⟩ := step i H2 x H3 hi k (gk _ _ k g0) hy
    have e : ds.drop i = d :: ds.drop (i + 1) := by
      obtain ⟨hi', e⟩ := List.getElem?_eq_some_iff.mp hd
      rw [List.drop_eq_getElem_cons hi', e]
    rw [e] at ql
    refine hg (r2.go sm) (noOwn_wiped ρ1) bd ql fun σ2 ρ2 r3 no2 q3 ew => ⟨?_, ?_⟩
    · rw [ew]
      apply List.ext_getElem?
      intro j
      rw [wipe_get, wipe_length, wipe_get]
      split <;> rfl
    · obtain ⟨e2, q3⟩ := q3
      have ew2 : wipe σ2 vs = wipe σ vs := by
        rw [ew]
        apply List.ext_getElem?
        intro j
        rw [wipe_get, wipe_length, wipe_get]
        split <;> rfl
      have lw : σ2.length = σ.length := by
        have := congrArg List.length ew2
        rw [wipe_length, wipe_length] at this; exact this
      have outw : ∀ j, j ∉ vs → (wipe σ vs)[j]? = σ2[j]? := fun j hj => by
        rw [← ew2]; exact wipe_out σ2 vs j hj
      have goback : ∀ {H4 : Hp}, Go σ2 ρ2 ρ2 H3 H4 → Rel L H4 σ2 ρ2 → Go (wipe σ vs) (wipeD ρ1 vs) (wipeD ρ1 vs) H1 H4 ∧ Rel L H4 (wipe σ vs) (wipeD ρ1 vs) ∧ H4 D = some (.lst us) := fun {H4} g4 r4 => by
        have own2 : ∀ (j : Nat) (xs : Ow), ρ2[j]? = some (.ow xs) → j ∉ vs ∧ (wipeD ρ1 vs)[j]? = some (.ow xs) := fun j xs ej => by
          have nj : j ∉ vs := fun m => no2 j m xs ej
          exact ⟨nj, by rw [← e2, wipeD_get, if_neg nj]; exact ej⟩
        refine ⟨⟨fun a o h n => ?_, fun j xs ej => ⟨xs, ej⟩, fun a h => goi.dom a (sm.free (g4.dom a h))⟩, ?_, ?_⟩
        · refine g4.stay a o (sm a o (goi.stay a o h n)) fun j xs ej z => ?_
          obtain ⟨nj, ej'⟩ := own2 j xs ej
          exact n j xs ej' (by rw [outw j nj]; exact z)
        · have := (r4.wiped (vs := vs)).move (σ' := wipe σ vs) (by rw [wipe_length, lw]) outw
          rw [e2] at this; exact this
        · refine g4.stay D _ (sm D _ hDl) fun j xs ej z => ?_
          obtain ⟨nj, ej'⟩ := own2 j xs ej
          exact dSlot j xs ej' (by rw [outw j nj]; exact z)
      refine ⟨ρ2, _, r3, q3, fun b H4 ρ3 go4 r4 q4 => ?_⟩
      obtain ⟨e3, q4⟩ := q4
      subst e3
      obtain ⟨goA, rA, dA⟩ := goback go4 r4
      have k4 : Keep H2 H4 := (keep_of_same sm).tr (go4.keep r3)
      cases b with
      | false => exact iteF ⟨hi, k.tr k4, goA, rA, acc, us, dA, BrA.keep k4 _ _ hb, by omega, by simpa using q4⟩
      | true =>
        refine iteT ⟨ρ3, _, r4, by simpa using q4, fun y H5 s ρ4 go5 r5 hv q5 => ?_⟩
        obtain ⟨e4, y', rfl, q6⟩ := q5
        subst e4
        obtain ⟨goB, rB, dB⟩ := goback (go4.tr go5) r5
        have k5 : Keep H2 H5 := k4.tr (go5.keep r4)
        have kD : Keep H5 (upd H5 D (.lst (us ++ [y]))) := keep_put dB trivial
        have lu := hb.len
        refine ⟨us, dB, by omega, hi, (k.tr k5).tr kD, ⟨fun a o h n => ?_, fun j xs ej => ⟨xs, ej⟩, fun a h => ?_⟩, rB.other dB d0 dSlot, acc ++ [y'], us ++ [y], upd_same, ((BrA.keep (k5.tr kD) _ _ hb).app (BrA.one (Br.keep kD _ _ hv))), by simp; omega, q6⟩
        · rw [upd_ne (fun z => by rw [z, hD] at h; cases h)]; exact goB.stay a o h n
        · by_cases z : a = D
          · rw [z]; exact hD
          · rw [upd_ne z] at h; exact goB.dom a h
  · rw [List.drop_length] at ql
    have goF : Go σ ρ1 (wipeD ρ1 vs) H1 H2 := ⟨fun a o h n => goi.stay a o h fun j xs ej z => by
        by_cases nj : j ∈ vs
        · exact noOwn_wiped ρ1 j nj xs ej
        · rw [wipeD_get, if_neg nj] at ej
          rw [wipe_out σ vs j nj] at z
          exact n j xs ej z, fun j xs ej => by
        by_cases nj : j ∈ vs
        · exact absurd ej (noOwn_wiped ρ1 j nj xs)
        · rw [wipeD_get, if_neg nj] at ej; exact ⟨xs, ej⟩, goi.dom⟩
    exact fin (.ref D) H2 (.own acc) _ (go.tr goF) (r2.move (wipe_length σ vs).symm fun j hj => (wipe_out σ vs j hj).symm) ⟨⟨D, us, rfl, hDl, hb, d0⟩, fun l e => by cases e; exact go.dom _ hD⟩ ql
end
section
variable {X : Cx} {L : Lay} {elt tg iter : Expr} {ifs : List Expr} {scope : Scope} {own : List (Str × Nat)} {pos : Pos} {ti : TId} {g : DTG} {gt : TG} {tt : TTd} {te : TEd}
theorem de_lc (gd : Good X) (hi : PI X tg iter (tI L ti)) (ok : BlkOk X.N X.env.scope scope own)
    (hg : ∀ (s : Shared) (H : Hp) (C : Addr) (cl : List (Str × Addr)) (fp : List Addr), PG (X.blk s H scope (compEnvC scope cl C X.env) fp) tg gt) (ho : GOwn L (own.map (·.2)) gt g)
    (ht : ∀ (s : Shared) (H : Hp) (C : Addr) (cl : List (Str × Addr)) (fp : List Addr), Good (X.blk s H scope (compEnvC scope cl C X.env) fp) → PTs (X.blk s H scope (compEnvC scope cl C X.env) fp) ifs (tT L tt))
    (he : ∀ (s : Shared) (H : Hp) (C : Addr) (cl : List (Str × Addr)) (fp : List Addr), Good (X.blk s H scope (compEnvC scope cl C X.env) fp) → PE (X.blk s H scope (compEnvC scope cl C X.env) fp) elt (tE L te))
    (hs : ∀ x, foldedSetIterable iter X.env x = pure x := by intro _; rfl) : PE X (.ListComp elt [⟨tg, iter, ifs, 0⟩] scope pos) (tE L (dLc ti (own.map (·.2)) g tt te)) :=
  (pe_lc gd.calm gd.nd hi ok hg (fun s H C cl fp => ht s H C cl fp ⟨gd.calm, gd.gd, gd.sys, gd.un, gd.nd⟩) (fun s H C cl fp => he s H C cl fp ⟨gd.calm, gd.gd, gd.sys, gd.un, gd.nd⟩) hs).less (lc_read ho)
theorem ds_setLc {i : Nat} {y : Str} {py spos : Pos} (gd : Good X) (hy : X.N[i]? = some y) (hyl : X.env.scope.names.lookup y = some .local) (hsw : swapsWith (.ListComp elt [⟨tg, iter, ifs, 0⟩] scope pos) (some (.Name y py)) spos.line X.env = pure true)
    (hi : PI X tg iter (tI L ti)) (ok : BlkOk X.N X.env.scope scope own)
    (hg : ∀ (s : Shared) (H : Hp) (C : Addr) (cl : List (Str × Addr)) (fp : List Addr), PG (X.blk s H scope (compEnvC scope cl C X.env) fp) tg gt) (ho : GOwn L (own.map (·.2)) gt g)
    (ht : ∀ (s : Shared) (H : Hp) (C : Addr) (cl : List (Str × Addr)) (fp : List Addr), Good (X.blk s H scope (compEnvC scope cl C X.env) fp) → PTs (X.blk s H scope (compEnvC scope cl C X.env) fp) ifs (tT L tt))
    (he : ∀ (s : Shared) (H : Hp) (C : Addr) (cl : List (Str × Addr)) (fp : List Addr), Good (X.blk s H scope (compEnvC scope cl C X.env) fp) → PE (X.blk s H scope (compEnvC scope cl C X.env) fp) elt (tE L te))
    (hs : ∀ x, foldedSetIterable iter X.env x = pure x := by intro _; rfl) : PS X (.Assign [.Name y py] (.ListComp elt [⟨tg, iter, ifs, 0⟩] scope pos) spos) (tS L (dSet i (dLc ti (own.map (·.2)) g tt te))) :=
  (ps_setLc gd.calm gd.nd hy hyl hsw hi ok hg (fun s H C cl fp => ht s H C cl fp ⟨gd.calm, gd.gd, gd.sys, gd.un, gd.nd⟩) (fun s H C cl fp => he s H C cl fp ⟨gd.calm, gd.gd, gd.sys, gd.un, gd.nd⟩) hs).less fun D σ H q => by
    obtain ⟨ρ, De, r, q, n1, _⟩ := q
    exact lc_read ho σ H _ ⟨ρ, _, r, q, fun v H' s ρ' go r' hv n => n1 _ _ _ (go.keep r) (r.set r' go hv) n⟩
end
end GB

namespace GB
open PySem PySem.Spec PyProof.Rows L2

/-- the script: a firm list of ints, or one of the written part -/
def ScrOk (K : PySem.W.Frag) (a : Addr) (ns : List Int) (H : Hp) : Prop := (∃ o, H a = some (.frz o (.lst (ns.map V.int)))) ∨ SqL K (fun _ => none) a (ns.map V.int)
theorem sq_scr {K : PySem.W.Frag} {a : Addr} {ns : List Int} {H : Hp} (h : ScrOk K a ns H) : SqL K H a (ns.map V.int) := by
  rcases h with ⟨o, h⟩ | h
  · exact .inl (.inr ⟨o, h⟩)
  · rcases h with (h | ⟨o, h⟩) | h
    · cases h
    · cases h
    · exact .inr h
/-- the store's fact, the script's -/
def mkJar (K : PySem.W.Frag) (j : Addr → Hp → Prop) (hj : ∀ a H H', Keep H H' → j a H → j a H') : Jar where
  ok := fun t a H => match t with
    | .jar => j a H
    | .scr ns => ScrOk K a ns H
    | .more _ => False
  keep := fun t a H H' k h => by
    cases t with
    | jar => exact hj a H H' k h
    | scr ns =>
      rcases h with ⟨o, h⟩ | h
      · exact .inl ⟨o, k _ _ h trivial⟩
      · exact .inr h
    | more _ => exact h
section
variable {P : Program} {w : World} {K : PySem.W.Frag} {mg mb : Str → Option Value} {k : Nat} {fa a : Addr} {fd : FuncData} {x : Str} {J : Jar} {F : FnD} {s1 : Shared} {vs : List Value} {ns : List Int}
theorem end_call (KX : K.In s1.heap) (hns : s1.heap.Ns mainGlobals mg) (hb : s1.heap.Ns builtinsNs mb) (hbb : ∀ y : Str, y ≠ "__name__" → mb y = bootBuiltins y) (hlim : s1.heap.NoLimit) (sy : ∃ mm, s1.heap.Ns sysModules mm) (hg : s1.gens = #[])
    (ha : s1.heap.get? a = some { cls := .type "list", data := .seq vs.toArray }) (hi : IntsAre vs ns) (hl : ns.length ≤ sizeLine) (hr : Room k callerA)
    (hF : ∀ base : Heap, K.In base → base.Ns mainGlobals mg → (∃ o, base.get? sysModules = some o) → FnG P w K mg base CX0 k fa fd [x] (spD K J 1 F))
    (hbind : ∀ (s : Shared) (u : Value), BindsTo s fd ⟨[u], []⟩ [(x, u)]) (hJ : ∀ H, ScrOk K a ns H → J.ok (.scr ns) a H)
    (go : F [.ob (.scr ns)] fun s => s = .d (.bool true)) :
    codeAny (model P w) callerA (.call (.ref fa) ⟨[.ref a], []⟩) (fun r s' => r = .ok (.ret (.bool true)) ∧ OldK s1.heap s'.heap ∧ s'.os = s1.os ∧ AllBare s'.gens) s1 := by
  have rv := vals_ints hi
  have lv := hi.length
  have main : ∀ H : Hp, Only H → ScrOk K a ns H → HOk P w H s1.heap → (∀ b, H b ≠ none → b = a) → (H a ≠ none → K.lookup a = none) →
      codeAny (model P w) callerA (.call (.ref fa) ⟨[.ref a], []⟩) (fun r s' => r = .ok (.ret (.bool true)) ∧ OldK s1.heap s'.heap ∧ s'.os = s1.os ∧ AllBare s'.gens) s1 := by
    intro H hO hS ok hA hK
    have low : ∀ {b : Addr} {o : Obj}, s1.heap.get? b = some o → H b = none → (hidT s1.heap H).get? b = some o := fun e n => hidT_get e n
    have dictFree : ∀ {b : Addr} {o : Obj} {es : Array DictEntry} {ep : Nat}, s1.heap.get? b = some o → o.data = .dict es ep → H b = none := fun {b o es ep} e d => by
      cases q : H b with
      | none => rfl
      | some u =>
        obtain rfl : b = a := hA b (by rw [q]; simp)
        rw [ha] at e; cases e; cases d
    have ns0 : ∀ {b : Addr} {m : Str → Option Value}, s1.heap.Ns b m → (hidT s1.heap H).Ns b m := fun {b m} ⟨o, es, ep, e, d, r⟩ => ⟨o, es, ep, low e (dictFree e d), d, r⟩
    have kin : K.In (hidT s1.heap H) := fun b o e => low (KX b o e) (by
      cases q : H b with
      | none => rfl
      | some u =>
        obtain rfl : b = a := hA b (by rw [q]; simp)
        rw [hK (by rw [q]; simp)] at e; cases e)
    have md : Mod K mg (hidT s1.heap H) := ⟨kin, ns0 hns, ⟨mb, ns0 hb, hbb⟩, let ⟨mc, h1, h2⟩ := hlim; ⟨mc, ns0 h1, h2⟩⟩
    have sm : ∃ o, (hidT s1.heap H).get? sysModules = some o := let ⟨mm, q⟩ := sy; let ⟨o, _, _, e, _⟩ := ns0 q; ⟨o, e⟩
    have e0 : Env0 P w K mg (hidT s1.heap H) callerA [] s1 H := ⟨rfl, md, fun b o e => of_hidT e, Nat.le_of_eq (hidT_size _ _), trivial, fun b hb => (nomatch hb), ok, .of_eq hg⟩
    refine codeAny_mono ((hF _ kin (ns0 hns) sm).go callerA [] s1 H ⟨[.ref a], []⟩ [.ref a] [.ref a] (fun v _ => v = .bl true) (fun _ _ _ => False) rfl hr e0 (hbind s1 (.ref a)) (.cons rfl .nil) ⟨[.ob (.scr ns)], _, .cons ⟨a, rfl, hJ H hS⟩ .nil, rfl, go, fun v H' s _ rr e => ?_⟩) fun r s' h => ?_
    · subst e
      have rr : Br K H' v (.bool true) := rr
      cases rr; rfl
    match r, h with
    | .error e, h => exact False.elim h
    | .ok .next, h => exact False.elim h
    | .ok .brk, h => exact False.elim h
    | .ok .cont, h => exact False.elim h
    | .ok (.ret u), h =>
      obtain ⟨v, H', os, bare, un, hok', r', q⟩ := h
      obtain rfl : v = .bl true := q
      obtain rfl : u = Value.bool true := r'
      refine ⟨rfl, OldK.of_keep fun b o e => ?_, os, bare⟩
      cases q : H b with
      | none => exact un.keep b o e q (fun z => nomatch z) (fun z => nomatch z)
      | some u =>
        rcases hO b with z | ⟨ob, xs, z⟩
        · rw [q] at z; cases z
        · obtain ⟨e1, _⟩ := ok b _ z
          obtain ⟨e2, _⟩ := hok' b _ (un.frzs b ob _ z)
          rw [e] at e1; cases e1
          exact e2
  cases hk : K.lookup a with
  | some o =>
    have e := KX a o hk
    rw [ha] at e; cases e
    exact main (fun _ => none) (fun _ => .inl rfl) (.inr (.inr ⟨_, vs.toArray, _, hk, rfl, rfl, rfl, by rw [List.size_toArray, lv]; exact hl, by simpa using rv⟩)) (fun b u z => (nomatch z)) (fun b z => absurd rfl z) fun z => absurd rfl z
  | none =>
    refine main (upd (fun _ => none) a (.frz { cls := .type "list", data := .seq vs.toArray } (.lst (ns.map V.int)))) (fun b => ?_) (.inl ⟨_, upd_same⟩) (fun b u z => ?_) (fun b z => ?_) fun _ => hk
    · by_cases hb : b = a
      · subst hb; exact .inr ⟨_, _, upd_same⟩
      · exact .inl (upd_ne hb)
    · by_cases hb : b = a
      · subst hb
        rw [upd_same] at z; cases z
        exact ⟨ha, by rw [List.length_map]; exact hl, vs, _, rv, ha⟩
      · rw [upd_ne hb] at z; cases z
    · by_cases hb : b = a
      · exact hb
      · rw [upd_ne hb] at z; exact absurd rfl z
end
/-- THE END of a law's row -/
theorem end_of {l : PySem.W.OpenLaw} {n k : Nat} {q : Program} {loose : List Str} {XP : (Str → Option Value) → Heap → Prop} {YP : World → Heap → Prop} {d : DefRec} {Kp : Params → PySem.W.Frag} {x : Str} {J : World → Jar} {F : FnD}
    (hn : l.most = some n) (hn2 : n ≤ sizeLine) (hdf : d.params.defaults = []) (hr : Room k callerA) (hq : importsNone q = true) (hY : ∀ (w : World) (h : Heap), YP w h → (Kp w.params).In h)
    (hF : ∀ (w : World) (mg : Str → Option Value) (fa : Addr) (h : Heap), (Kp w.params).In h → h.Ns mainGlobals mg → mg d.name = some (.ref fa) → ∃ fd : FuncData, (∀ (s : Shared) (u : Value), BindsTo s fd ⟨[u], []⟩ [(x, u)]) ∧
      ∀ base : Heap, (Kp w.params).In base → base.Ns mainGlobals mg → (∃ o, base.get? sysModules = some o) → FnG l.prog w (Kp w.params) mg base CX0 k fa fd [x] (spD (Kp w.params) (J w) 1 F))
    (hJ : ∀ w a ns H, ScrOk (Kp w.params) a ns H → (J w).ok (.scr ns) a H) (go : ∀ ns : List Int, ns.length ≤ n → F [.ob (.scr ns)] fun s => s = .d (.bool true)) :
    PySem.W.WalkO q loose XP YP l.row.toRowW d [] (fun f vs => PySem.call f vs) := by
  refine Att.attach_call hn hdf fun w s0 s1 mg mb fa o pm cd doc a vs ns G Y ho hd hcd hmg hobj hints hlen hg => ?_
  obtain ⟨fd, hb, hF'⟩ := hF w mg fa _ (hY w _ Y) G.T.g hmg
  exact end_call (hY w _ Y) G.T.g G.T.b G.T.builtins G.T.nolimit (let ⟨mm, q, _⟩ := (G.T.seer hq).mods; ⟨mm, q⟩) hg hobj hints (Nat.le_trans hlen hn2) hr hF' hb (hJ _ a ns) (go ns hlen)
end GB

namespace GB
open PySem PySem.Spec PyProof.Rows L2

/-! slices -/
def cutD {α : Type} (xs : List α) (lo hi : Option Int) : List α := (xs.drop (HT.sIx xs.length 0 lo)).take (HT.sIx xs.length xs.length hi - HT.sIx xs.length 0 lo)
abbrev F3 := PyData → Option Int → Option Int → (S → Prop) → Prop
def fCut : F3 := fun x lo hi Q => match x with
  | .list xs => Q (.own (cutD xs lo hi))
  | .tuple xs => Q (.d (.tuple (cutD xs lo hi)))
  | _ => False
abbrev TOd := En → (Option Int → En → Prop) → Prop
def tO (L : Lay) (t : TOd) : TO := fun σ H Q' => ∃ ρ Q, Rel L H σ ρ ∧ t ρ Q ∧ ∀ o H' ρ', Go σ ρ ρ' H H' → Rel L H' σ ρ' → Q o ρ' → Q' o H'
theorem _root_.L2.PO.less {X : Cx} {e : Option Expr} {t t2 : TO} (h : PO X e t) (w : ∀ σ H Q, t2 σ H Q → t σ H Q) : PO X e t2 := ⟨fun pins s σ H Q I q => h.run pins s σ H Q I (w _ _ _ q)⟩
def dONone : TOd := fun ρ Q => Q none ρ
def dOSome (t : TEd) : TOd := fun ρ Q => t ρ fun s ρ1 => ∃ i, s = .d (.int i) ∧ Q (some i) ρ1
def dCut (t : TEd) (l u : TOd) : TEd := fun ρ Q => t ρ fun s ρ1 => l ρ1 fun lo ρ2 => u ρ2 fun hi ρ3 => ∃ x, s = .d x ∧ fCut x lo hi fun s => Q s ρ3
def dCutO (i : Nat) (l u : TOd) : TEd := fun ρ Q => (∃ ys, ρ[i]? = some (.own ys)) ∧ l ρ fun lo ρ2 => u ρ2 fun hi ρ3 => ∃ xs, ρ3[i]? = some (.own xs) ∧ Q (.own (cutD xs lo hi)) ρ3
section
variable {X : Cx} {L : Lay} {pos p2 p px : Pos} {e o : Expr} {lo hi : Option Expr} {t : TEd} {l u : TOd}
theorem do_none : PO X none (tO L dONone) := po_none.less fun σ H Q' q => by
  obtain ⟨ρ, Q, r, q, fin⟩ := q
  exact fin none H ρ Go.rf r q
theorem do_some (h : PE X e (tE L t)) : PO X (some e) (tO L (dOSome t)) := (po_some h).less fun σ H Q' q => by
  obtain ⟨ρ, Q, r, q, fin⟩ := q
  refine ⟨ρ, _, r, q, fun v H1 s ρ1 go r1 hv q1 => ?_⟩
  obtain ⟨i, rfl, q2⟩ := q1
  have hv : Br L.K H1 v (.int i) := hv
  cases hv
  exact ⟨i, rfl, fin (some i) H1 ρ1 go r1 q2⟩
theorem cut_br {K : PySem.W.Frag} {H : Hp} {vs : List V} {xs : List PyData} (h : BrA K H vs xs) (lo hi : Option Int) : BrA K H (cutV vs lo hi) (cutD xs lo hi) := by
  unfold cutV cutD
  rw [h.len]
  exact (h.drop _).take _
theorem sl_fin {H1 H2 H3 : Hp} {σ : L2.St} {ρ ρ3 : En} {H : Hp} {x : PyData} {v : V} {a b : Option Int} {Q : S → En → Prop} {Q' : VK} (hK : L.K = X.K) (r3 : Rel L H3 σ ρ3) (go : Go σ ρ ρ3 H H3) (hv : Bk L H3 v x) (q : fCut x a b fun s => Q s ρ3)
    (fin : ∀ (v : V) (H' : Hp) (s : S) (ρ' : En), Go σ ρ ρ' H H' → Rel L H' σ ρ' → VR L H H' v s → Q s ρ' → Q' v H') : rSlL X.K v a b H3 Q' ∨ rSlA X.K v a b H3 Q' := by
  cases x with
  | list xs =>
    obtain ⟨al, vs, rfl, h1, h3⟩ := list_sq hK hv
    refine .inl ⟨al, vs, rfl, h1, fun p hp => ?_⟩
    exact fin _ _ (.own _) ρ3 (go.tr (Go.sm (same_new hp))) (r3.go (same_new hp)) (NR.vr (s := .own _) r3 (same_new hp) go ⟨p, _, rfl, hp, upd_same, BrA.keep (keep_of_same (same_new hp)) _ _ (cut_br h3 a b)⟩) q
  | tuple xs =>
    have hv : Br L.K H3 v (.tuple xs) := hv
    cases hv with
    | tup h1 h3 =>
      rename_i al vs
      have h1' := h1
      rw [hK] at h1
      refine .inr ⟨al, vs, rfl, h1, fun hw => ?_, fun hw p hp => ?_⟩
      · have e : cutD xs a b = xs := by
          unfold cutD
          rw [← h3.len, hw.1, hw.2]
          simp [h3.len]
        have q : Q (.d (.tuple (cutD xs a b))) ρ3 := q
        rw [e] at q
        exact fin _ _ (.d (.tuple xs)) ρ3 go r3 (.tup h1' h3) q
      · exact fin _ _ (.d _) ρ3 (go.tr (Go.sm (same_new hp))) (r3.go (same_new hp)) (.tup (.of upd_same) (BrA.keep (keep_of_same (same_new hp)) _ _ (cut_br h3 a b))) q
  | _ => exact False.elim q
theorem de_cut (hK : L.K = X.K) (he : PE X e (tE L t)) (hl : PO X lo (tO L l)) (hu : PO X hi (tO L u)) : PE X (.Subscript e (.Slice lo hi none p2) pos) (tE L (dCut t l u)) :=
  (pe_slice (sl_list.or sl_tupA) he hl hu).less fun σ H Q' q => by
    obtain ⟨ρ, Q, r, q, fin⟩ := q
    refine ⟨ρ, _, r, q, fun v H1 s ρ1 g1 r1 hv q1 => ⟨ρ1, _, r1, q1, fun a H2 ρ2 g2 r2 q2 => ⟨ρ2, _, r2, q2, fun b H3 ρ3 g3 r3 q3 => ?_⟩⟩⟩
    obtain ⟨x, rfl, q4⟩ := q3
    exact sl_fin (H1 := H1) (H2 := H2) hK r3 ((g1.tr g2).tr g3) (Bk.of (Br.keep ((g2.tr g3).keep r1) _ _ hv)) q4 fin
theorem de_cutO {i : Nat} (hK : L.K = X.K) (he : PE X e (tVar i)) (hl : PO X lo (tO L l)) (hu : PO X hi (tO L u)) : PE X (.Subscript e (.Slice lo hi none p2) pos) (tE L (dCutO i l u)) :=
  (pe_slice (sl_list.or sl_tupA) he hl hu).less fun σ H Q' q => by
    obtain ⟨ρ, Q, r, ⟨⟨ys, ey⟩, q⟩, fin⟩ := q
    obtain ⟨la, vs, h1, _⟩ := r.getO ey
    refine ⟨_, h1, ρ, _, r, q, fun a H2 ρ2 g2 r2 q2 => ⟨ρ2, _, r2, q2, fun b H3 ρ3 g3 r3 q3 => ?_⟩⟩
    obtain ⟨xs, ex, q4⟩ := q3
    obtain ⟨v, h2, hv⟩ := pk_own r3 ex
    rw [h1] at h2; cases h2
    exact sl_fin (H1 := H) (H2 := H2) (x := .list xs) hK r3 (g2.tr g3) hv q4 fin
/-! isinstance of one built-in class -/
def kindOf : PyData → String
  | .none => "NoneType"
  | .bool _ => "bool"
  | .int _ => "int"
  | .str _ => "str"
  | .list _ => "list"
  | .tuple _ => "tuple"
  | .dict _ => "dict"
def isK (T : String) (x : PyData) : Bool := (kitB (kindOf x) T).getD false
theorem ty_of (hK : L.K = X.K) {H : Hp} {v : V} {x : PyData} (h : Bk L H v x) : TyX X.K H v (.type (kindOf x)) := by
  cases x with
  | none => cases h; exact .base .non
  | bool b => cases h; exact .base (.bl b)
  | int i => cases h; exact .base (.int i)
  | str z => cases h; exact .base (.str z)
  | list xs =>
    obtain ⟨a, vs, rfl, h1, _⟩ := h
    rcases h1 with h1 | ⟨o, h1⟩
    · exact .base (.lst h1)
    · exact .base (.frz h1)
  | tuple xs =>
    cases h with
    | tup h1 h2 =>
      rw [hK] at h1
      rcases h1 with (h1 | ⟨o, h1⟩) | ⟨o, its, n, h1, h3, _⟩
      · exact .base (.tup h1)
      · exact .fTuple h1
      · exact .kTuple h1 h3
  | dict kvs => cases h with | dct h1 _ _ => exact .fDict h1
def dIsi (T : String) (t : TEd) : TEd := fun ρ Q => t ρ fun s ρ1 => ∃ x, s = .d x ∧ Q (.d (.bool (isK T x))) ρ1
theorem kit_all {T : String} (h : T = "int" ∨ T = "bool" ∨ T = "str" ∨ T = "tuple" ∨ T = "list" ∨ T = "dict") (x : PyData) : kitB (kindOf x) T = some (isK T x) := by
  have dk : ∀ a ∈ ["NoneType", "bool", "int", "str", "list", "tuple", "dict"], ∀ b ∈ ["int", "bool", "str", "tuple", "list", "dict"], (kitB a b).isSome = true := by decide +kernel
  have hx : kindOf x ∈ ["NoneType", "bool", "int", "str", "list", "tuple", "dict"] := by cases x <;> simp [kindOf]
  have hT : T ∈ ["int", "bool", "str", "tuple", "list", "dict"] := by rcases h with h | h | h | h | h | h <;> subst h <;> simp
  have q := dk _ hx _ hT
  unfold isK
  cases e : kitB (kindOf x) T with
  | none => rw [e] at q; cases q
  | some b => rfl
theorem de_isi {T : Str} {Ts : String} (hK : L.K = X.K) (hg : Gl X "isinstance") (hm : X.mg "isinstance" = none) (hgT : Gl X T) (hmT : X.mg T = none) (hvT : bootBuiltins T = some (.type Ts)) (hT : Ts = "int" ∨ Ts = "bool" ∨ Ts = "str" ∨ Ts = "tuple" ∨ Ts = "list" ∨ Ts = "dict")
    (he : PE X e (tE L t)) (hv : bootBuiltins "isinstance" = some (.builtin "isinstance") := by decide +kernel) (hnT : T ≠ "__name__" := by decide) (hdT : (T == ("__debug__" : Str)) = false := by decide)
    (h1 : starEach (e :: [.Name T px]) X.env = (false, eval e X.env) :: starEach [.Name T px] X.env := by rfl) (h2 : starEach ([.Name T px]) X.env = (false, eval (.Name T px) X.env) :: starEach [] X.env := by rfl)
    (hpl : (backTo pos (starEach [.Name T px] X.env)).any (·.1) = false := by rfl) : PE X (.Call (.Name "isinstance" p) [e, .Name T px] [] pos) (tE L (dIsi Ts t)) :=
  (pe_callB call_isi hg hm hv (pa_cons he (pa_cons (pe_bltn (v := .ty Ts) hgT hmT hvT rfl hnT hdT) pa_nil h2) h1) (by decide) (by decide) h1 hpl).less fun σ H Q' q => by
    obtain ⟨ρ, Q, r, q, fin⟩ := q
    refine ⟨ρ, _, r, q, fun v H1 s ρ1 go r1 hv q1 => ?_⟩
    obtain ⟨x, rfl, q2⟩ := q1
    exact ⟨v, .ty Ts, .type (kindOf x), .type Ts, _, rfl, .ty Ts, ty_of hK (Bk.of hv), kit_ty (kit_all hT x), fin _ H1 (.d (.bool _)) ρ1 go r1 (.bl _) q2⟩
/-! a op b op' c -/
variable {a b c : Expr} {ta tb tc : TEd} {op op' : CmpOp} {f f' : F2}
def dChain (f f' : F2) (ta tb tc : TEd) : TEd := fun ρ Q => ta ρ fun s1 ρ1 => tb ρ1 fun s2 ρ2 => ∃ x y, s1 = .d x ∧ s2 = .d y ∧ f x y fun s => ∃ k, s = .d (.bool k) ∧
  if k = true then tc ρ2 fun s3 ρ3 => ∃ z, s3 = .d z ∧ f' y z fun s => Q s ρ3 else Q (.d (.bool false)) ρ2
theorem chain_read : ∀ σ H Q, tE L (dChain f f' ta tb tc) σ H Q → tChain (rD L f) (rD L f') (tE L ta) (tE L tb) (tE L tc) σ H Q := fun σ H Q' q => by
  obtain ⟨ρ, Q, r, q, fin⟩ := q
  refine ⟨ρ, _, r, q, fun v H1 s ρ1 k1 r1 hv q1 => ⟨ρ1, _, r1, q1, fun u H2 s2 ρ2 k2 r2 hu q2 => ?_⟩⟩
  obtain ⟨x, y, rfl, rfl, q3⟩ := q2
  refine ⟨x, y, _, Bk.of (Br.keep (k2.keep r1) _ _ hv), Bk.of hu, q3, fun w H3 s3 sm nr q4 => ?_⟩
  obtain ⟨k, rfl, q5⟩ := q4
  have nr : Br L.K H3 w (.bool k) := nr
  cases nr
  have g3 := (k1.tr k2).tr (Go.sm sm)
  have r3 := r2.go sm
  refine ⟨k, rfl, ?_⟩
  cases k with
  | false => exact iteF (fin _ H3 (.d (.bool false)) ρ2 g3 r3 (.bl _) (by simpa using q5))
  | true =>
    refine iteT ⟨ρ2, _, r3, by simpa using q5, fun z H4 s4 ρ4 k4 r4 hz q6 => ?_⟩
    obtain ⟨zd, rfl, q7⟩ := q6
    exact ⟨y, zd, _, Bk.of (Br.keep ((keep_of_same sm).tr (k4.keep r3)) _ _ hu), Bk.of hz, q7, fun w5 H5 s5 sm5 nr5 q8 => fin w5 H5 s5 ρ4 ((g3.tr k4).tr (Go.sm sm5)) (r4.go sm5) (nr5.vr r4 sm5 (g3.tr k4)) q8⟩
theorem de_chain (ho : OpR X (compareOp op) (rD L f)) (ho' : OpR X (compareOp op') (rD L f')) (ha : PE X a (tE L ta)) (hb : PE X b (tE L tb)) (hc : PE X c (tE L tc)) (hm : lastMarks [op, op'] [b, c] = false := by with_unfolding_all rfl) :
    PE X (.Compare a [op, op'] [b, c] pos) (tE L (dChain f f' ta tb tc)) := (pe_chain ho ho' ha hb hc hm).less chain_read
theorem dt_chain (ho : OpR X (compareOp op) (rD L f)) (ho' : OpR X (compareOp op') (rD L f')) (ha : PE X a (tE L ta)) (hb : PE X b (tE L tb)) (hc : PE X c (tE L tc)) (hm : lastMarks [op, op'] [b, c] = false := by with_unfolding_all rfl) :
    PT X (.Compare a [op, op'] [b, c] pos) (tT L (dB (dChain f f' ta tb tc))) := (pt_chain ho ho' ha hb hc hm).less (tT_of chain_read)
/-! -x -/
def dNeg (t : TEd) : TEd := fun ρ Q => t ρ fun s ρ1 => ∃ i, s = .d (.int i) ∧ Q (.d (.int (-i))) ρ1
theorem de_neg (h : PE X e (tE L t)) : PE X (.UnaryOp .USub e pos) (tE L (dNeg t)) := (pe_un un_neg h).less fun σ H Q' q => by
  obtain ⟨ρ, Q, r, q, fin⟩ := q
  refine ⟨ρ, _, r, q, fun v H1 s ρ1 go r1 hv q1 => ?_⟩
  obtain ⟨i, rfl, q2⟩ := q1
  have hv : Br L.K H1 v (.int i) := hv
  cases hv
  exact ⟨i, rfl, fin _ H1 (.d (.int (-i))) ρ1 go r1 (.int _) q2⟩
end
/-! what else lists do -/
section
variable {X : Cx} {L : Lay} {apos cpos : Pos} {o e e2 : Expr} {t t2 : TEd} {i : Nat}
def rExt (L : Lay) : V → List V → Hp → VK → Prop := fun x vs H Q => ∃ l xs z zs zv, x = .ref l ∧ vs = [z] ∧ H l = some (.lst xs) ∧ Bk L H z (.list zs) ∧ xs.length + zs.length ≤ sizeLine ∧ (∀ ws, BrA L.K H ws zs → ws.length = zs.length → zv = ws → Q .non (upd H l (.lst (xs ++ ws))))
theorem m_extend (hK : L.K = X.K) : MtM X "list.extend" (fun x vs H Q => ∃ l xs z zs, x = .ref l ∧ vs = [z] ∧ H l = some (.lst xs) ∧ Bk L H z (.list zs) ∧ xs.length + zs.length ≤ sizeLine ∧ ∀ ws, BrA L.K H ws zs → Q .non (upd H l (.lst (xs ++ ws)))) := by
  intro pins s σ H x vs v us Q I rx rv h
  obtain ⟨l, xs, z, zs, rfl, rfl, hH, hb, hz, q⟩ := h
  cases rx
  obtain ⟨u, rfl, ru⟩ := rv.one
  obtain ⟨b, ws, its2, n2, rfl, b2, r2, e2, z2⟩ := list_at hK I hb
  cases ru
  obtain ⟨z1, its, n, r, hl, e1⟩ := I.lstM hH
  have l2 := r2.length
  have lb := b2.len
  have hsz : its.toArray.size + its2.toArray.size ≤ sizeLine := by rw [List.size_toArray, List.size_toArray]; omega
  refine call_meets F.slot_list_extend ⟨_, e1, rfl⟩ F.entry_list_extend (F.args_list_extend_2 _ _)
    (AutoSeq1.list_extend_list_list_0 l its.toArray n b its2.toArray n2 (by rw [notLongL hsz, Bool.and_false]; exact Bool.false_ne_true) (by rw [List.size_toArray]; omega) (by omega)) ⟨e1, e2, ?_⟩
  exact ⟨.non, _, I.lset (its' := its ++ its2) hH e1 (by simp) (r.append r2) (by rw [List.length_append]; omega), rfl, q ws b2⟩
theorem de_extend (hK : L.K = X.K) (ho : PE X o (tVar i)) (he : PE X e (tE L t)) (hs : starEach [e] X.env = (false, eval e X.env) :: starEach [] X.env := by rfl) (hbase : attributeBase o "extend" X.env (eval o X.env) = eval o X.env := by rfl)
    (hfew : ((backTo cpos (starEach [e] X.env)).all (fun x => !x.1) && (backToKw cpos (keywordEach [] X.env)).all (fun x => x.1.isSome) && decide ([e].length + ([] : List Keyword).length + (if ([] : List Keyword).isEmpty then 0 else 1) < 30)) = true := by rfl)
    (hline : (apos.endLine == cpos.line) = true := by rfl) (hpl : (backTo cpos (starEach [] X.env)).any (·.1) = false := by rfl) : PE X (.Call (.Attribute o "extend" apos) [e] [] cpos) (tE L (dExtend i t)) :=
  (pe_bm PySem.F.plainAttrs_list PySem.F.slot_list_extend PySem.F.type_list_extend (mr_of (m_extend hK)) ho (pa_cons he pa_nil hs) hbase hfew hline hs hpl).less fun σ H Q' q => by
    obtain ⟨ρ, Q, r, ⟨⟨ys, ey⟩, q⟩, fin⟩ := q
    obtain ⟨l, vs, hi, hl, _⟩ := r.getO ey
    refine ⟨_, hi, own_ty (pins := []) hl, ρ, _, r, q, fun v H1 s ρ1 go r1 hv q1 => ?_⟩
    obtain ⟨zs, xs, rfl, ex, hz, q2⟩ := q1
    obtain ⟨l', ws, hi', hl', hb, _⟩ := r1.getO ex
    rw [hi] at hi'; cases hi'
    refine ⟨l, ws, v, zs, rfl, rfl, hl', Bk.of hv, by rw [hb.len]; exact hz, fun us hu => ?_⟩
    obtain ⟨r2, k2⟩ := r1.put ex hi hl' (hb.app hu)
    exact fin .non _ (.d .none) _ (go.put ey ex hi hl') r2 .non q2
def dInsert (i : Nat) (t t2 : TEd) : TEd := fun ρ Q => (∃ ys, ρ[i]? = some (.own ys)) ∧ t ρ fun s ρ1 => t2 ρ1 fun s2 ρ2 => ∃ j x xs, s = .d (.int j) ∧ s2 = .d x ∧ ρ2[i]? = some (.own xs) ∧ xs.length < sizeLine ∧ 0 ≤ j ∧ j < 2 ^ 62 ∧ Q (.d .none) (ρ2.set i (.own (xs.take j.toNat ++ [x] ++ xs.drop j.toNat)))
end
end GB

namespace GB
open PySem PySem.Spec PyProof.Rows L2

/-! the draws' store: a dict of one list and one int, known by name alone outside of the draws -/
def Shy : HO → Prop
  | .lst _ => True
  | .dK _ => True
  | .dT _ => True
  | .ext _ => True
  | _ => False
theorem swap_inv {X : Cx} {pins : List (Addr × Obj)} {σ : L2.St} {H : Hp} {s : Shared} (I : Inv X pins σ H s) {a : Addr} {u v : HO} (h : H a = some u) (l : Shy u) (new : ObjOk X.prog X.w (upd H a v) s.heap a v) : Inv X pins σ (upd H a v) s := by
  have nt : ∀ c xs, H c = some (.tup xs) → c ≠ a := fun c xs q z => by rw [z, h] at q; cases q; exact l
  have no : ∀ c y, H c = some (.own y) → c ≠ a := fun c y q z => by rw [z, h] at q; cases q; exact l
  have nf : ∀ c o' u', H c = some (.frz o' u') → c ≠ a := fun c o' u' q z => by rw [z, h] at q; cases q; exact l
  have nb : ∀ c ps, H c = some (.tbl ps) → c ≠ a := fun c ps q z => by rw [z, h] at q; cases q; exact l
  have un : Un X.fs [] H (upd H a v) s.heap s.heap := by
    refine ⟨fun b ob q _ _ _ => q, fun b ob q _ _ _ => ⟨ob.slots, q⟩, fun b ob q n _ => ?_, fun b ob q _ => ⟨ob, q⟩, fun b xs q => ?_, fun b ob xs q => ?_, fun b ps q => ⟨#[], ?_⟩⟩
    · rw [upd_ne (fun z => by rw [z, h] at n; cases n)]; exact n
    · rw [upd_ne (nt _ _ q)]; exact q
    · rw [upd_ne (nf _ _ _ q)]; exact q
    · rw [upd_ne (nb _ _ q), q]; simp
  have hok : HOk X.prog X.w (upd H a v) s.heap := fun b z q => by
    by_cases hb : b = a
    · subst hb
      rw [upd_same] at q; cases q
      exact new
    · rw [upd_ne hb] at q
      refine (I.hok b z q).stay (fun _ _ _ z => z) (fun c q => ?_) fun c xs q => ?_
      · rw [upd_ne (no _ _ q)]; exact q
      · rw [upd_ne (nt _ _ q)]; exact q
  exact I.un (t' := s.toks) un hok
/-- the store's dict, the list's place in it -/
def kvJ (nd ns : Str) (l : Addr) (st : Int) : List (Key × V) := [(.inr nd, .ref l), (.inr ns, .int st)]
def hoD (P : Program) (w : World) (nd ns : Str) (a l : Addr) : HO := .ext fun h => ∃ st : Int, (kvJ nd ns l st).length ≤ sizeLine ∧ (a == sysModules) = false ∧ ∃ vs, KV (kvJ nd ns l st) vs ∧ h.DictOf (mixKind P w) a vs
def hoL (l : Addr) : HO := .ext fun h => ∃ is : List Int, is.length ≤ sizeLine ∧ ∃ (its : List Value) (n : Nat), Vals (is.map V.int) its ∧ h.get? l = some { cls := .type "list", data := .seq its.toArray n }
section
variable {P : Program} {w : World} {nd ns : Str} {a l : Addr} {H : Hp} {h : Heap}
theorem hoD_ok {st : Int} (q : ObjOk P w H h a (.dK (kvJ nd ns l st))) : ObjOk P w H h a (hoD P w nd ns a l) := by
  obtain ⟨z, hs, vs, r, o, es, ep, e, c⟩ := q
  refine ⟨⟨st, z, hs, vs, r, o, es, ep, e, c⟩, ⟨o, e⟩, fun h1 h2 ⟨st', z', hs', vs', r', o', es', ep', e', c'⟩ k => ⟨st', z', hs', vs', r', o', es', ep', k _ e', c'⟩⟩
theorem hoL_ok {is : List Int} (q : ObjOk P w H h l (.lst (is.map V.int))) : ObjOk P w H h l (hoL l) := by
  obtain ⟨z, its, n, r, e⟩ := q
  rw [List.length_map] at z
  exact ⟨⟨is, z, its, n, r, e⟩, ⟨_, e⟩, fun h1 h2 ⟨is', z', its', n', r', e'⟩ k => ⟨is', z', its', n', r', k _ e'⟩⟩
end
/-- the store's fact -/
def JarOk (P : Program) (w : World) (nd ns : Str) (a : Addr) (H : Hp) : Prop := ∃ l, H a = some (hoD P w nd ns a l) ∧ H l = some (hoL l) ∧ l ≠ a
theorem jar_keep {P : Program} {w : World} {nd ns : Str} : ∀ a H H', Keep H H' → JarOk P w nd ns a H → JarOk P w nd ns a H' := fun a H H' k ⟨l, h1, h2, h3⟩ => ⟨l, k _ _ h1 trivial, k _ _ h2 trivial, h3⟩
section
variable {X : Cx} {nd ns : Str} {sts : List Stmt} {t : TS}
/-- a body that works on the store: opened at its begin, closed where it returns -/
def tOpen (P : Program) (w : World) (nd ns : Str) (t : TS) : TS := fun D σ H => ∃ a l, H a = some (hoD P w nd ns a l) ∧ H l = some (hoL l) ∧ l ≠ a ∧ ∀ (st : Int) (is : List Int),
  t { nx := fun _ _ => False, bk := fun _ _ => False, ct := fun _ _ => False, rt := fun v H' => (∃ (st' : Int) (is' : List Int), H' a = some (.dK (kvJ nd ns l st')) ∧ H' l = some (.lst (is'.map V.int))) ∧ D.rt v (upd (upd H' a (hoD P w nd ns a l)) l (hoL l)) } σ
    (upd (upd H a (.dK (kvJ nd ns l st))) l (.lst (is.map V.int)))
theorem close_inv {pins : List (Addr × Obj)} {σ : L2.St} {H : Hp} {s : Shared} (I : Inv X pins σ H s) {a l : Addr} {st : Int} {is : List Int} (h1 : H a = some (.dK (kvJ nd ns l st))) (h2 : H l = some (.lst (is.map V.int))) :
    Inv X pins σ (upd (upd H a (hoD X.prog X.w nd ns a l)) l (hoL l)) s := by
  have ne : l ≠ a := fun z => by rw [z, h1] at h2; cases h2
  have I1 := swap_inv I (v := hoD X.prog X.w nd ns a l) h1 trivial (hoD_ok (st := st) ((I.hok a _ h1).stay (fun _ _ _ z => z) (fun c q => by rw [upd_ne (fun z => by rw [z, h1] at q; cases q)]; exact q) fun c xs q => by rw [upd_ne (fun z => by rw [z, h1] at q; cases q)]; exact q))
  have e2 : (upd H a (hoD X.prog X.w nd ns a l)) l = some (.lst (is.map V.int)) := by rw [upd_ne ne]; exact h2
  exact swap_inv I1 (v := hoL l) e2 trivial (hoL_ok (is := is) ((I1.hok l _ e2).stay (fun _ _ _ z => z) (fun c q => by rw [upd_ne (fun z => by rw [z, e2] at q; cases q)]; exact q) fun c xs q => by rw [upd_ne (fun z => by rw [z, e2] at q; cases q)]; exact q))
theorem pss_open (h : PSs X sts t) : PSs X sts (tOpen X.prog X.w nd ns t) := by
  constructor
  intro pins s σ H D I q
  obtain ⟨a, l, ha, hl, ne, q⟩ := q
  obtain ⟨⟨st, z1, z2, vs, z3, o, es, ep, z4, z5⟩, _⟩ := I.hok a _ ha
  have I1 := swap_inv I (v := .dK (kvJ nd ns l st)) ha trivial ⟨z1, z2, vs, z3, o, es, ep, z4, z5⟩
  have e2 : (upd H a (.dK (kvJ nd ns l st))) l = some (hoL l) := by rw [upd_ne ne]; exact hl
  obtain ⟨⟨is, y1, its, n, y2, y3⟩, _⟩ := I1.hok l _ e2
  have I2 := swap_inv I1 (v := .lst (is.map V.int)) e2 trivial ⟨by rw [List.length_map]; exact y1, its, n, y2, y3⟩
  refine thn (h.run pins s σ _ _ I2 (q st is)) fun f s1 z => ?_
  match f, z with
  | .next, ⟨_, _, _, z⟩ => exact z.elim
  | .brk, ⟨_, _, _, z⟩ => exact z.elim
  | .cont, ⟨_, _, _, z⟩ => exact z.elim
  | .ret u, ⟨v, σ', H', I', rv, ⟨st', is', h1, h2⟩, q'⟩ => exact ⟨v, σ', _, close_inv I' h1 h2, rv, q'⟩
/-- a body that makes the store and returns it -/
def tMake (P : Program) (w : World) (nd ns : Str) (t : TS) : TS := fun D σ H =>
  t { nx := fun _ _ => False, bk := fun _ _ => False, ct := fun _ _ => False, rt := fun v H' => ∃ (a l : Addr) (st' : Int) (is' : List Int), v = .ref a ∧ H' a = some (.dK (kvJ nd ns l st')) ∧ H' l = some (.lst (is'.map V.int)) ∧ D.rt v (upd (upd H' a (hoD P w nd ns a l)) l (hoL l)) } σ H
theorem pss_make (h : PSs X sts t) : PSs X sts (tMake X.prog X.w nd ns t) := by
  constructor
  intro pins s σ H D I q
  refine thn (h.run pins s σ _ _ I q) fun f s1 z => ?_
  match f, z with
  | .next, ⟨_, _, _, z⟩ => exact z.elim
  | .brk, ⟨_, _, _, z⟩ => exact z.elim
  | .cont, ⟨_, _, _, z⟩ => exact z.elim
  | .ret u, ⟨v, σ', H', I', rv, a, l, st', is', e, h1, h2, q'⟩ => exact ⟨v, σ', _, close_inv I' h1 h2, rv, q'⟩
end
end GB

namespace GB
open PySem PySem.Spec PyProof.Rows L2

/-! more assignments -/
def dAsg (t : TEd) (g : DTG) : TSd := fun D ρ => t ρ fun s ρ1 => ∃ x, s = .d x ∧ g x ρ1 D.nx
def dPar3 (i j l : Nat) (t1 t2 t3 : TEd) : TSd := fun D ρ => t1 ρ fun s1 ρ1 => t2 ρ1 fun s2 ρ2 => t3 ρ2 fun s3 ρ3 => D.nx (((ρ3.set i s1).set j s2).set l s3)
section
variable {X : Cx} {L : Lay} {pos : Pos} {tg e a b c : Expr} {t t1 t2 t3 : TEd} {g : DTG}
theorem ds_asg (he : PE X e (tE L t)) (hg : PG X tg (tG L g)) (hw : swappedStores [tg] e X.env = pure none := by rfl) (hs : swapsWithSole [tg] e pos.line X.env = pure false := by rfl) (h1 : (assignEach [tg] X.env).map (·.2) = [assign tg X.env] := by rfl) :
    PS X (.Assign [tg] e pos) (tS L (dAsg t g)) := (ps_asg he hg hs hw h1).less fun D σ H q => by
  obtain ⟨ρ, De, r, q, n1, _⟩ := q
  refine ⟨ρ, _, r, q, fun v H1 s ρ1 go r1 hv q1 => ?_⟩
  obtain ⟨x, rfl, q2⟩ := q1
  exact ⟨ρ1, x, _, r1, hv, q2, fun σ' ρ' r' n => n1 _ _ _ (go.keep r) r' n⟩
theorem ds_par3 {i j l : Nat} {x y z : Str} {px py pz pt : Pos} {kt k2 pt2} (gd : Good X) (hi : X.N[i]? = some x) (hj : X.N[j]? = some y) (hl : X.N[l]? = some z) (hij : i ≠ j) (hil : i ≠ l) (hjl : j ≠ l)
    (hx : X.env.scope.names.lookup x = some .local) (hy : X.env.scope.names.lookup y = some .local) (hz : X.env.scope.names.lookup z = some .local) (ha : PE X a (tE L t1)) (hb : PE X b (tE L t2)) (hc : PE X c (tE L t3))
    (hw : swappedStores [.Tuple [.Name x px, .Name y py, .Name z pz] kt pt] (.Tuple [a, b, c] k2 pt2) X.env = pure (some [x, y, z]))
    (h1 : starEach [a, b, c] X.env = (false, eval a X.env) :: starEach [b, c] X.env := by rfl) (h2 : starEach [b, c] X.env = (false, eval b X.env) :: starEach [c] X.env := by rfl) (h3 : starEach [c] X.env = (false, eval c X.env) :: starEach [] X.env := by rfl)
    (hs : swapsWithSole [.Tuple [.Name x px, .Name y py, .Name z pz] kt pt] (.Tuple [a, b, c] k2 pt2) pos.line X.env = pure false := by rfl) :
    PS X (.Assign [.Tuple [.Name x px, .Name y py, .Name z pz] kt pt] (.Tuple [a, b, c] k2 pt2) pos) (tS L (dPar3 i j l t1 t2 t3)) :=
  (ps_par3 gd.calm gd.nd hi hj hl hij hil hjl hx hy hz (pa_cons ha (pa_cons hb (pa_cons hc pa_nil h3) h2) h1) hw hs).less fun D σ H q => by
    obtain ⟨ρ, De, r, q, n1, _⟩ := q
    refine ⟨ρ, _, r, q, fun v H1 s ρ1 go r1 hv q1 => ⟨ρ1, _, r1, q1, fun w H2 s2 ρ2 go2 r2 hw q2 => ⟨ρ2, _, r2, q2, fun u H3 s3 ρ3 go3 r3 hu q3 => ⟨v, w, u, rfl, ?_⟩⟩⟩⟩
    have gg := (go.tr go2).tr go3
    have hv3 := hv.later r go r1 (go2.tr go3)
    have hw3 := hw.later r1 go2 r2 go3
    have ra := r3.put1 (j := i) (r.old gg) hv3
    have oa := (r.old gg).set (Hm := H1) (i := i) go.dom hv.there
    have rb := ra.put1 (j := j) oa hw3
    have ob := oa.set (Hm := H2) (i := j) go2.dom hw.there
    have rc := rb.put1 (j := l) ob hu
    exact n1 _ _ _ (gg.keep r) rc q3
/-! rows of numbers -/
def dListRng (t : TEd) : TEd := fun ρ Q => t ρ fun s ρ1 => ∃ n, s = .d (.int n) ∧ 0 ≤ n ∧ n ≤ 16777216 ∧ Q (.own (irow 0 n.toNat)) ρ1
theorem rg_br {K : PySem.W.Frag} {H : Hp} : ∀ (is : List Nat) (lo : Int), BrA K H (is.map fun i => V.int (lo + (i : Nat))) (is.map fun (i : Nat) => PyData.int (lo + i))
  | [], _ => .nil
  | _ :: is, lo => .cons (.int _) (rg_br is lo)
theorem de_listRng {p p2 pos pos2 : Pos} (gd : Good X) (hl : Gl X "list") (ml : X.mg "list" = none) (hg : Gl X "range") (hm : X.mg "range" = none) (he : PE X e (tE L t)) (na : starEach [e] X.env = (false, eval e X.env) :: starEach [] X.env := by rfl)
    (nb : starEach [.Call (.Name "range" p) [e] [] pos] X.env = (false, eval (.Call (.Name "range" p) [e] [] pos) X.env) :: starEach [] X.env := by rfl) : PE X (.Call (.Name "list" p2) [.Call (.Name "range" p) [e] [] pos] [] pos2) (tE L (dListRng t)) :=
  (pe_listRg gd.calm hl ml (prg_1 hg hm he na) nb).less fun σ H Q' q => by
    obtain ⟨ρ, Q, r, q, fin⟩ := q
    refine ⟨ρ, _, r, q, fun v H1 s ρ1 go r1 hv q1 => ?_⟩
    obtain ⟨n, rfl, h0, hn, q2⟩ := q1
    have hv : Br L.K H1 v (.int n) := hv
    cases hv
    refine ⟨n, rfl, ?_⟩
    · refine ⟨.of_le (by omega) hn (by omega) h0, fun p hp => ?_⟩
      have e : rgV 0 n = (List.range n.toNat).map fun i => V.int (0 + (i : Nat)) := by unfold rgV; rw [Int.sub_zero]
      exact fin _ _ (.own _) ρ1 (go.tr (Go.sm (same_new hp))) (r1.go (same_new hp)) (NR.vr (s := .own _) r1 (same_new hp) go ⟨p, _, rfl, hp, upd_same, by rw [e]; exact rg_br _ 0⟩) q2
end
/-! dicts as they stand -/
def dDict0 : TEd := fun ρ Q => Q (.d (.dict [])) ρ
def dDict1 (k : Str) (t : TEd) : TEd := fun ρ Q => t ρ fun s ρ1 => ∃ x, s = .d x ∧ Q (.d (.dict [(.str k, x)])) ρ1
section
variable {X : Cx} {L : Lay} {pos p2 : Pos} {e : Expr} {t : TEd} {σ : L2.St} {ρ : En} {H : Hp}
theorem Rel.fixNew {l : Addr} {u : HO} {o : Obj} (r : Rel L H σ ρ) (hn : H l = none) : Rel L (upd H l (.frz o u)) σ ρ ∧ Same H (upd H l (.frz o u)) := ⟨r.go (same_new hn), same_new hn⟩
theorem de_dict0 (gd : Good X) : PE X (.Dict [] [] pos) (tE L dDict0) := by
  constructor
  intro pins s σ H Q' I q
  obtain ⟨ρ, Q, r, q, fin⟩ := q
  refine thn (pe_dnewK.run pins s σ H (fun v H1 => ∃ p, v = .ref p ∧ H p = none ∧ H1 = upd H p (.dK [])) I fun p hp => ⟨p, rfl, hp, rfl⟩) fun u s1 z => ?_
  obtain ⟨v, H1, I1, rv, p, rfl, hp, rfl⟩ := z
  obtain ⟨o, I2⟩ := fix_inv I1 upd_same trivial
  rw [upd_upd] at I2
  obtain ⟨r2, sm⟩ := r.fixNew (u := .dK []) (o := o) hp
  exact ⟨.ref p, _, I2, rv, fin _ _ (.d (.dict [])) ρ (Go.sm sm) r2 (.dct upd_same rfl .nil) q⟩
theorem de_dict1 {k : Str} {j : Nat} (gd : Good X) (h : PE X e (tE L t)) : PE X (.Dict [some (.Constant (.str k) j p2)] [e] pos) (tE L (dDict1 k t)) := by
  constructor
  intro pins s σ H Q' I q
  obtain ⟨ρ, Q, r, q, fin⟩ := q
  have core := (pe_disp (pos := pos) (pps_cons (pos := pos) (pe_str (x := k) (j := j) (pos := p2)) h pps_nil) rfl rfl (by simp) (by simp)).run pins s σ H
    (fun v H1 => ∃ p w x ρ' H2, v = .ref p ∧ H p = none ∧ H1 = upd H2 p (.dK [(.inr k, w)]) ∧ H2 p = some (.dK []) ∧ Go σ ρ ρ' (upd H p (.dK [])) H2 ∧ Rel L H2 σ ρ' ∧ Br L.K H2 w x ∧ Q (.d (.dict [(.str k, x)])) ρ') I fun p hp => ?_
  · refine thn core fun u s1 z => ?_
    obtain ⟨v, H1, I1, rv, p, w, x, ρ', H2, rfl, hp, rfl, h2, go, r2, hw, q2⟩ := z
    obtain ⟨o, I2⟩ := fix_inv I1 upd_same trivial
    rw [upd_upd] at I2
    have kp : Keep H2 (upd H2 p (.frz o (.dK [(.inr k, w)]))) := keep_put h2 trivial
    have h0 : L.H0 p = none := r.same.free hp
    have out : ∀ (i : Nat) (ys : Ow), ρ'[i]? = some (.ow ys) → σ[i]? ≠ some (some (.ref p)) := fun i ys e z => by
      obtain ⟨zs, e'⟩ := go.less i ys e
      obtain ⟨l', vs', q1, q2, _⟩ := r.getW e'
      rw [z] at q1; cases q1
      rw [hp] at q2; cases q2
    have rel : Rel L (upd H2 p (.frz o (.dK [(.inr k, w)]))) σ ρ' := by
      refine ⟨r2.len, fun j z e => ?_, r2.sep, same_fix r2.same h0⟩
      have q := r2.at' j z e
      cases z with
      | un => trivial
      | d x => obtain ⟨v, e2, q⟩ := q; exact ⟨v, e2, Br.keep kp _ _ q⟩
      | ow zs =>
        obtain ⟨v, e2, q⟩ := q
        refine ⟨v, e2, q.keep kp fun m u' em hu => (upd_ne fun z => ?_).trans hu⟩
        subst em; subst z
        obtain ⟨w', e4, _⟩ := r2.get e
        rw [e4] at e2
        refine out j zs e ?_
        rw [e4]
        exact congrArg some (show w' = some (V.ref m) from e2)
      | ob t => obtain ⟨a, e2, q⟩ := q; exact ⟨a, e2, L.J.keep _ _ _ _ kp q⟩
    refine ⟨.ref p, _, I2, rv, fin _ _ (.d (.dict [(.str k, x)])) ρ' ⟨fun a o' q n => ?_, go.less, fun a q => ?_⟩ rel (.dct upd_same rfl (.cons (Br.keep kp _ _ hw) .nil)) q2⟩
    · have ne : a ≠ p := fun z => by rw [z, hp] at q; cases q
      rw [upd_ne ne]
      exact go.stay a o' (by rw [upd_ne ne]; exact q) n
    · by_cases z : a = p
      · rw [z]; exact hp
      · rw [upd_ne z] at q
        have := go.dom a q
        rw [upd_ne z] at this; exact this
  · refine ⟨ρ, _, r.go (same_new hp), q, fun w H2 s ρ' go r2 hw q2 => ?_⟩
    obtain ⟨x, rfl, q3⟩ := q2
    have h2 : H2 p = some (.dK []) := go.stay p _ upd_same fun i ys e z => by
      obtain ⟨l', vs', q1, q2, _⟩ := r.getW e
      rw [z] at q1; cases q1
      rw [hp] at q2; cases q2
    exact ⟨h2, [(.inr k, w)], rfl, by simp, p, w, x, ρ', H2, rfl, hp, rfl, h2, go, r2, hw, q3⟩
end
end GB

namespace GB
open PySem PySem.Spec PyProof.Rows L2

/-! the draws' store: a dict with one list of ints and some ints; closed (known by name alone) outside of each step -/
def KvOk (nd : Str) (ks : List Str) (l : Addr) (kvs : List (Key × V)) : Prop := kvs.length ≤ 15 ∧ valV kvs (.inr nd) = some (.ref l) ∧ ∀ k ∈ ks, ∃ n : Int, valV kvs (.inr k) = some (.int n)
def hoQ (P : Program) (w : World) (nd : Str) (ks : List Str) (a l : Addr) : HO := .ext fun h => ∃ kvs, KvOk nd ks l kvs ∧ (a == sysModules) = false ∧ ∃ vs, KV kvs vs ∧ h.DictOf (mixKind P w) a vs
def StoOk (P : Program) (w : World) (nd : Str) (ks : List Str) (a : Addr) (H : Hp) : Prop := ∃ l, H a = some (hoQ P w nd ks a l) ∧ H l = some (hoL l) ∧ l ≠ a
theorem sto_keep {P : Program} {w : World} {nd : Str} {ks : List Str} : ∀ a H H', Keep H H' → StoOk P w nd ks a H → StoOk P w nd ks a H' := fun a H H' k ⟨l, h1, h2, h3⟩ => ⟨l, k _ _ h1 trivial, k _ _ h2 trivial, h3⟩
theorem le_line {n : Nat} (h : n ≤ 15) : n ≤ sizeLine := Nat.le_trans h (by decide)
theorem hoQ_ok {P : Program} {w : World} {nd : Str} {ks : List Str} {a l : Addr} {H : Hp} {h : Heap} {kvs : List (Key × V)} (k : KvOk nd ks l kvs) (q : ObjOk P w H h a (.dK kvs)) : ObjOk P w H h a (hoQ P w nd ks a l) := by
  obtain ⟨z, hs, vs, r, o, es, ep, e, c⟩ := q
  refine ⟨⟨kvs, k, hs, vs, r, o, es, ep, e, c⟩, ⟨o, e⟩, fun h1 h2 ⟨kvs', k', hs', vs', r', o', es', ep', e', c'⟩ kk => ⟨kvs', k', hs', vs', r', o', es', ep', kk _ e', c'⟩⟩
def opn (H : Hp) (a l : Addr) (kvs : List (Key × V)) (is : List Int) : Hp := upd (upd H a (.dK kvs)) l (.lst (is.map V.int))
def cls (P : Program) (w : World) (nd : Str) (ks : List Str) (H : Hp) (a l : Addr) : Hp := upd (upd H a (hoQ P w nd ks a l)) l (hoL l)
/-- the store stands open at a, l -/
structure Opn (nd : Str) (ks : List Str) (H : Hp) (a l : Addr) (kvs : List (Key × V)) (is : List Int) : Prop where
  ha : H a = some (.dK kvs)
  hl : H l = some (.lst (is.map V.int))
  kv : KvOk nd ks l kvs
theorem Opn.ne {nd : Str} {ks : List Str} {H : Hp} {a l : Addr} {kvs : List (Key × V)} {is : List Int} (o : Opn nd ks H a l kvs is) : l ≠ a := fun z => by
  have h := o.hl
  rw [z, o.ha] at h; cases h
section
variable {X : Cx} {nd : Str} {ks : List Str} {e : Expr} {st : Stmt} {sts : List Stmt} {t : TE} {tt : TT} {ts : TS}
theorem close_of {pins : List (Addr × Obj)} {σ : L2.St} {H : Hp} {s : Shared} (I : Inv X pins σ H s) {a l : Addr} {kvs : List (Key × V)} {is : List Int} (o : Opn nd ks H a l kvs is) : Inv X pins σ (cls X.prog X.w nd ks H a l) s := by
  have h1 := o.ha
  have h2 := o.hl
  have ne := o.ne
  have I1 := swap_inv I (v := hoQ X.prog X.w nd ks a l) h1 trivial (hoQ_ok o.kv ((I.hok a _ h1).stay (fun _ _ _ z => z) (fun c q => by rw [upd_ne (fun z => by rw [z, h1] at q; cases q)]; exact q) fun c xs q => by rw [upd_ne (fun z => by rw [z, h1] at q; cases q)]; exact q))
  have e2 : (upd H a (hoQ X.prog X.w nd ks a l)) l = some (.lst (is.map V.int)) := by rw [upd_ne ne]; exact h2
  exact swap_inv I1 (v := hoL l) e2 trivial (hoL_ok (is := is) ((I1.hok l _ e2).stay (fun _ _ _ z => z) (fun c q => by rw [upd_ne (fun z => by rw [z, e2] at q; cases q)]; exact q) fun c xs q => by rw [upd_ne (fun z => by rw [z, e2] at q; cases q)]; exact q))
theorem open_of {pins : List (Addr × Obj)} {σ : L2.St} {H : Hp} {s : Shared} (I : Inv X pins σ H s) {a l : Addr} (ha : H a = some (hoQ X.prog X.w nd ks a l)) (hl : H l = some (hoL l)) (ne : l ≠ a) :
    ∃ kvs is, KvOk nd ks l kvs ∧ is.length ≤ sizeLine ∧ Inv X pins σ (opn H a l kvs is) s := by
  obtain ⟨⟨kvs, z1, z2, vs, z3, o, es, ep, z4, z5⟩, _⟩ := I.hok a _ ha
  have I1 := swap_inv I (v := .dK kvs) ha trivial ⟨le_line z1.1, z2, vs, z3, o, es, ep, z4, z5⟩
  have e2 : (upd H a (.dK kvs)) l = some (hoL l) := by rw [upd_ne ne]; exact hl
  obtain ⟨⟨is, y1, its, n, y2, y3⟩, _⟩ := I1.hok l _ e2
  have I2 := swap_inv I1 (v := .lst (is.map V.int)) e2 trivial ⟨by rw [List.length_map]; exact y1, its, n, y2, y3⟩
  exact ⟨kvs, is, z1, y1, I2⟩
/-- what is read of an opened store -/
def Opens (P : Program) (w : World) (nd : Str) (ks : List Str) (H : Hp) (go : Hp → Addr → Addr → List (Key × V) → List Int → Prop) : Prop :=
  ∃ a l, H a = some (hoQ P w nd ks a l) ∧ H l = some (hoL l) ∧ l ≠ a ∧ ∀ kvs is, is.length ≤ sizeLine → Opn nd ks (opn H a l kvs is) a l kvs is → go (opn H a l kvs is) a l kvs is
theorem opens_inv {pins : List (Addr × Obj)} {σ : L2.St} {H : Hp} {s : Shared} (I : Inv X pins σ H s) {go : Hp → Addr → Addr → List (Key × V) → List Int → Prop} (h : Opens X.prog X.w nd ks H go) :
    ∃ a l kvs is, Inv X pins σ (opn H a l kvs is) s ∧ go (opn H a l kvs is) a l kvs is := by
  obtain ⟨a, l, ha, hl, ne, q⟩ := h
  obtain ⟨kvs, is, k, z, I2⟩ := open_of I ha hl ne
  exact ⟨a, l, kvs, is, I2, q kvs is z ⟨by unfold opn; rw [upd_ne (Ne.symm ne), upd_same], upd_same, k⟩⟩
theorem pe_open (h : PE X e t) : PE X e (fun σ H Q => Opens X.prog X.w nd ks H fun H1 _ _ _ _ => t σ H1 Q) := ⟨fun pins s σ H Q I q => by
  obtain ⟨a, l, kvs, is, I2, q⟩ := opens_inv I q
  exact h.run pins s σ _ Q I2 q⟩
theorem pe_opened (h : PE X e t) : PE X e (fun σ H Q => t σ H fun v H1 => Opens X.prog X.w nd ks H1 fun H2 _ _ _ _ => Q v H2) := ⟨fun pins s σ H Q I q => by
  refine thn (h.run pins s σ H _ I q) fun u s1 z => ?_
  obtain ⟨v, H1, I1, rv, q1⟩ := z
  obtain ⟨a, l, kvs, is, I2, q2⟩ := opens_inv I1 q1
  exact ⟨v, _, I2, rv, q2⟩⟩
theorem pe_closed (h : PE X e t) : PE X e (fun σ H Q => t σ H fun v H1 => ∃ a l kvs is, Opn nd ks H1 a l kvs is ∧ Q v (cls X.prog X.w nd ks H1 a l)) := ⟨fun pins s σ H Q I q => by
  refine thn (h.run pins s σ H _ I q) fun u s1 z => ?_
  obtain ⟨v, H1, I1, rv, a, l, kvs, is, o, q2⟩ := z
  exact ⟨v, _, close_of I1 o, rv, q2⟩⟩
theorem pss_closing (h : PSs X sts ts) : PSs X sts (fun D σ H => ∃ a l kvs is, Opn nd ks H a l kvs is ∧ ts D σ (cls X.prog X.w nd ks H a l)) := ⟨fun pins s σ H D I q => by
  obtain ⟨a, l, kvs, is, o, q⟩ := q
  exact h.run pins s σ _ D (close_of I o) q⟩
theorem ps_open (h : PS X st ts) : PS X st (fun D σ H => Opens X.prog X.w nd ks H fun H1 _ _ _ _ => ts D σ H1) := ⟨fun pins s σ H D I q => by
  obtain ⟨a, l, kvs, is, I2, q⟩ := opens_inv I q
  exact h.run pins s σ _ D I2 q⟩
theorem ps_closed (h : PS X st ts) : PS X st (fun D σ H => ts { D with nx := fun σ1 H1 => ∃ a l kvs is, Opn nd ks H1 a l kvs is ∧ D.nx σ1 (cls X.prog X.w nd ks H1 a l) } σ H) := ⟨fun pins s σ H D I q => by
  refine thn (h.run pins s σ H _ I q) fun f s1 z => ?_
  match f, z with
  | .next, ⟨σ1, H1, I1, a, l, kvs, is, o, q2⟩ => exact ⟨σ1, _, close_of I1 o, q2⟩
  | .brk, z => exact z
  | .cont, z => exact z
  | .ret u, z => exact z⟩
end
/-- closed again: the heap as it was, but for what is new -/
theorem cls_opn {P : Program} {w : World} {nd : Str} {ks : List Str} {H H1 : Hp} {a l : Addr} (ha : H a = some (hoQ P w nd ks a l)) (hl : H l = some (hoL l)) (h : ∀ b, b ≠ a → b ≠ l → H1 b = H b) : cls P w nd ks H1 a l = H := by
  funext b
  unfold cls
  by_cases h1 : b = l
  · subst h1; rw [upd_same, hl]
  · rw [upd_ne h1]
    by_cases h2 : b = a
    · subst h2; rw [upd_same, ha]
    · rw [upd_ne h2]; exact h b h2 h1
theorem opn_off {H : Hp} {a l : Addr} {kvs : List (Key × V)} {is : List Int} {b : Addr} (h1 : b ≠ a) (h2 : b ≠ l) : opn H a l kvs is b = H b := by unfold opn; rw [upd_ne h2, upd_ne h1]
end GB

namespace GB
open PySem PySem.Spec PyProof.Rows L2

theorem ints_lay : ∀ is : List Int, PyData.canLayAll0 (is.map PyData.int) = true
  | [] => rfl
  | i :: is => by simp [PyData.canLayAll0, PyData.canLay0, ints_lay is]
theorem ints_deep : ∀ is : List Int, PyData.depthAll (is.map PyData.int) ≤ 1
  | [] => by simp [PyData.depthAll]
  | i :: is => by have := ints_deep is; simp [PyData.depthAll, PyData.depth]; omega
theorem ints_shaped (is : List Int) : SeqAt.shaped (.list (is.map PyData.int)) = true := by
  have := ints_deep is
  simp [SeqAt.shaped, PyData.canLay0, PyData.depth, ints_lay is]; omega
theorem ints_dp {K : PySem.W.Frag} {H : Hp} : ∀ is : List Int, DpAll K H (is.map V.int) (is.map PyData.int)
  | [] => .nil
  | _ :: is => .cons (.int _) (ints_dp is)
theorem ints_empty : ∀ is : List Int, PyData.eqv (.list (is.map PyData.int)) (.list []) = is.isEmpty
  | [] => rfl
  | _ :: _ => rfl
/-- a number of the store -/
def dJInt (i : Nat) : TEd := fun ρ Q => ρ[i]? = some (.ob .jar) ∧ ∀ n : Int, Q (.d (.int n)) ρ
/-- a number put into the store -/
def dJPut (i : Nat) (t : TEd) : TSd := fun D ρ => t ρ fun s ρ1 => ∃ n, s = .d (.int n) ∧ ρ1[i]? = some (.ob .jar) ∧ D.nx ρ1
/-- a digit of the store's last (first) number, where there is one -/
def dJPop (i iw im : Nat) (tb : TSd) : TSd := fun D ρ => ρ[i]? = some (.ob .jar) ∧ (∃ m : Int, ρ[im]? = some (.d (.int m)) ∧ 0 < m ∧ m < 1073741824) ∧ iw < ρ.length ∧ iw ≠ i ∧ iw ≠ im ∧ (∀ n : Int, tb { D with nx := fun _ => False } (ρ.set iw (.d (.int n)))) ∧ D.nx ρ
section
variable {X : Cx} {L : Lay} {nd : Str} {ks : List Str} {e o o1 o2 o3 : Expr} {pos p1 p2 : Pos} {i j : Nat} {t : TEd} {H : Hp} {σ : L2.St} {ρ : En}
theorem de_jint {k : Str} (gd : Good X) (hJ : ∀ a H, L.J.ok .jar a H → StoOk X.prog X.w nd ks a H) (hk : k ∈ ks) (ho : PE X o (tVar i)) (hs : NoSl (.Constant (.str k) j p1) := by intro _ _; rfl) : PE X (.Subscript o (.Constant (.str k) j p1) pos) (tE L (dJInt i)) :=
  (pe_open (nd := nd) (ks := ks) (pe_closed (nd := nd) (ks := ks) (pe_dget (by have := gd.un; omega) ho pe_str hs))).less fun σ H Q' q => by
    obtain ⟨ρ, Q, r, ⟨ej, q⟩, fin⟩ := q
    obtain ⟨o, e2, a, rfl, ja⟩ := r.get ej
    obtain ⟨l, ha, hl, ne⟩ := hJ a H ja
    refine ⟨a, l, ha, hl, ne, fun kvs is z op => ?_⟩
    obtain ⟨n, hn⟩ := op.kv.2.2 k hk
    refine ⟨.ref a, e2, a, .int n, rfl, ?_, a, l, kvs, is, op, ?_⟩
    · rw [← hn]; exact DGet.k (k := .inr k) op.ha
    · rw [cls_opn ha hl fun b h1 h2 => opn_off h1 h2]
      exact fin _ _ (.d (.int n)) ρ Go.rf r (.int n) (q n)
theorem kv_put {l : Addr} {kvs : List (Key × V)} {k : Str} {n : Int} (h : KvOk nd ks l kvs) (hk : k ∈ ks) (hn : k ≠ nd) : KvOk nd ks l (putK kvs (.inr k) (.int n)) := by
  obtain ⟨h1, h2, h3⟩ := h
  obtain ⟨n0, e0⟩ := h3 k hk
  refine ⟨?_, ?_, fun k' hk' => ?_⟩
  · unfold putK; rw [if_pos (by rw [valV_any, e0]; rfl), List.length_map]; exact h1
  · rw [valV_put, if_neg (fun z => by cases z; exact hn rfl)]; exact h2
  · rw [valV_put]
    split
    · exact ⟨n, rfl⟩
    · exact h3 k' hk'
theorem ds_jput {k : Str} {v : Expr} (gd : Good X) (hJ : ∀ a H, L.J.ok .jar a H → StoOk X.prog X.w nd ks a H) (hk : k ∈ ks) (hn : k ≠ nd) (ho : PE X o (tVar i)) (hv : PE X v (tE L t))
    (hw : swapsWith v (some (.Subscript o (.Constant (.str k) j p1) p2)) pos.line X.env = pure false := by rfl) (hs : NoSl (.Constant (.str k) j p1) := by intro _ _; rfl) :
    PS X (.Assign [.Subscript o (.Constant (.str k) j p1) p2] v pos) (tS L (dJPut i t)) :=
  (ps_closed (nd := nd) (ks := ks) (ps_dput (by have := gd.un; omega) ho pe_str (pe_opened (nd := nd) (ks := ks) hv) hw)).less fun D σ H q => by
    obtain ⟨ρ, De, r, q, n1, _⟩ := q
    refine ⟨ρ, _, r, q, fun v H1 s ρ1 go r1 hv q1 => ?_⟩
    obtain ⟨n, rfl, ej, q2⟩ := q1
    have hv : Br L.K H1 v (.int n) := hv
    cases hv
    obtain ⟨o, e2, a, rfl, ja⟩ := r1.get ej
    obtain ⟨l, ha, hl, ne⟩ := hJ a H1 ja
    refine ⟨a, l, ha, hl, ne, fun kvs is z op => ⟨.ref a, e2, a, _, rfl, DPut.k (k := .inr k) op.ha (Nat.lt_of_le_of_lt op.kv.1 (by decide)), a, l, _, is, ⟨upd_same, by rw [upd_ne op.ne]; exact op.hl, kv_put op.kv hk hn⟩, ?_⟩⟩
    rw [cls_opn ha hl fun b h1 h2 => by rw [upd_ne h1]; exact opn_off h1 h2]
    exact n1 _ _ _ (go.keep r) r1 q2
/-- what comes behind the digit -/
theorem jpop_end {P : Program} {w : World} (r : Rel L H σ ρ) {a l p : Addr} {kvs : List (Key × V)} {is js : List Int} {iw : Nat} {n : Int} {H3 : Hp} {tb : TSd} {D : Ends} {De : EndsD} (ha : H a = some (hoQ P w nd ks a l)) (hl : H l = some (hoL l)) (op : Opn nd ks (opn H a l kvs is) a l kvs is) (hp : opn H a l kvs is p = none)
    (h3 : H3 = upd (upd (opn H a l kvs is) p (.lst [])) l (.lst (js.map V.int))) (qn : tb { De with nx := fun _ => False } (ρ.set iw (.d (.int n))))
    (n2 : ∀ v H' s, Keep H H' → Same L.H0 H' → RR L H' v s → De.rt s → D.rt v H') (n3 : ∀ σ' H' ρ', Keep H H' → Rel L H' σ' ρ' → De.bk ρ' → D.bk σ' H') (n4 : ∀ σ' H' ρ', Keep H H' → Rel L H' σ' ρ' → De.ct ρ' → D.ct σ' H') (nx : L2.St → Hp → Prop) :
    ∃ a l kvs is, Opn nd ks H3 a l kvs is ∧ tS L tb { D with nx := nx } (σ.set iw (some (.int n))) (cls P w nd ks H3 a l) := by
  have pa : p ≠ a := fun z => by rw [z, op.ha] at hp; cases hp
  have pl : p ≠ l := fun z => by rw [z, op.hl] at hp; cases hp
  have hp0 : H p = none := (opn_off pa pl).symm.trans hp
  refine ⟨a, l, kvs, js, ⟨?_, ?_, op.kv⟩, ?_⟩
  · rw [h3, upd_ne (Ne.symm op.ne), upd_ne (Ne.symm pa)]; exact op.ha
  · rw [h3, upd_same]
  · have ec : cls P w nd ks H3 a l = upd H p (.lst []) := cls_opn (H := upd H p (.lst [])) (by rw [upd_ne (Ne.symm pa)]; exact ha) (by rw [upd_ne (Ne.symm pl)]; exact hl) fun b h1 h2 => by
      rw [h3, upd_ne h2]
      by_cases hb : b = p
      · subst hb; rw [upd_same, upd_same]
      · rw [upd_ne hb, upd_ne hb]; exact opn_off h1 h2
    have sm : Same H (upd H p (.lst [])) := same_new hp0
    have kp : Keep H (upd H p (.lst [])) := keep_of_same sm
    rw [ec]
    exact ⟨_, _, (r.go sm).setF (s := .d (.int n)) (.int n), qn, fun _ _ _ _ _ n => n.elim, fun v H' s k => n2 v H' s (kp.tr k), fun σ' H' ρ' k => n3 σ' H' ρ' (kp.tr k), fun σ' H' ρ' k => n4 σ' H' ρ' (kp.tr k)⟩
end
end GB

namespace GB
open PySem PySem.Spec PyProof.Rows L2

section
variable {X : Cx} {L : Lay} {nd x : Str} {ks : List Str} {o1 o2 o3 w1 m1 w2 m2 : Expr} {pos p1 p2 p3 p4 p5 p6 p7 p8 p9 p10 p11 p12 p13 p14 p15 p16 p17 p18 p19 p20 : Pos} {i j1 j2 j3 j4 j5 iw im : Nat} {rest : List Stmt} {tb : TSd}
/-- while there is a great number, a digit of the last one -/
theorem ds_jpop (gd : Good X) (hJ : ∀ a H, L.J.ok .jar a H → StoOk X.prog X.w nd ks a H) (hx : X.N[iw]? = some x) (hxl : X.env.scope.names.lookup x = some .local)
    (ho1 : PE X o1 (tVar i)) (ho2 : PE X o2 (tVar i)) (ho3 : PE X o3 (tVar i)) (hw1 : PE X w1 (tVar iw)) (hm1 : PE X m1 (tVar im)) (hw2 : PE X w2 (tVar iw)) (hm2 : PE X m2 (tVar im)) (hr : PSs X rest (tS L tb))
    (hn1 : NoSl (.Constant (.str nd) j1 p1) := by intro _ _; rfl) (hn2 : NoSl (.Constant (.str nd) j2 p6) := by intro _ _; rfl) (hn3 : NoSl (.Constant (.str nd) j3 p12) := by intro _ _; rfl)
    (hb1 : attributeBase (.Subscript o2 (.Constant (.str nd) j2 p6) p7) "pop" X.env (eval (.Subscript o2 (.Constant (.str nd) j2 p6) p7) X.env) = eval (.Subscript o2 (.Constant (.str nd) j2 p6) p7) X.env := by rfl) (li1 : (p8.endLine == p9.line) = true := by rfl)
    (hb2 : attributeBase (.Subscript o3 (.Constant (.str nd) j3 p12) p13) "append" X.env (eval (.Subscript o3 (.Constant (.str nd) j3 p12) p13) X.env) = eval (.Subscript o3 (.Constant (.str nd) j3 p12) p13) X.env := by rfl)
    (fw2 : ((backTo p16 (starEach [.BinOp w2 .FloorDiv m2 p15] X.env)).all (fun x => !x.1) && (backToKw p16 (keywordEach [] X.env)).all (fun x => x.1.isSome) && decide (([.BinOp w2 .FloorDiv m2 p15] : List Expr).length + ([] : List Keyword).length + (if ([] : List Keyword).isEmpty then 0 else 1) < 30)) = true := by rfl)
    (li2 : (p14.endLine == p16.line) = true := by rfl) (st2 : starEach [.BinOp w2 .FloorDiv m2 p15] X.env = (false, eval (.BinOp w2 .FloorDiv m2 p15) X.env) :: starEach [] X.env := by rfl) (pl2 : (backTo p16 (starEach [] X.env)).any (·.1) = false := by rfl)
    (sw1 : swapsWith (.Call (.Attribute (.Subscript o2 (.Constant (.str nd) j2 p6) p7) "pop" p8) [] [] p9) (some (.Name x p5)) p10.line X.env = pure false := by rfl)
    (sw2 : swapsWith (.Call (.Attribute (.Subscript o3 (.Constant (.str nd) j3 p12) p13) "append" p14) [.BinOp w2 .FloorDiv m2 p15] [] p16) none p17.line X.env = pure false := by rfl) :
    PS X (.If (.Compare (.Subscript o1 (.Constant (.str nd) j1 p1) p2) [.NotEq] [.List [] p3] p4)
      (.Assign [.Name x p5] (.Call (.Attribute (.Subscript o2 (.Constant (.str nd) j2 p6) p7) "pop" p8) [] [] p9) p10 ::
        .If (.Compare w1 [.GtE] [m1] p11) [.Expr (.Call (.Attribute (.Subscript o3 (.Constant (.str nd) j3 p12) p13) "append" p14) [.BinOp w2 .FloorDiv m2 p15] [] p16) p17] [] p18 :: rest) [] pos)
      (tS L (dJPop i iw im tb)) :=
  (ps_open (nd := nd) (ks := ks) (ps_closed (nd := nd) (ks := ks) (ps_if (pt_cmpR (op_neD (by have := gd.un; omega)) (pe_dget (by have := gd.un; omega) ho1 pe_str hn1) (pe_lst pa_nil) (nomark _))
    (pss_cons (ps_set (i := iw) gd.nd hx (.inl hxl) (pe_bm0 PySem.F.plainAttrs_list PySem.F.slot_list_pop PySem.F.type_list_pop mt_pop (pe_dget (by have := gd.un; omega) ho2 pe_str hn2) hb1 li1) sw1 (.inr hxl))
      (pss_cons (ps_if (pt_cmpR op_ge hw1 hm1 (nomark _)) (pss_one (ps_expr (pe_bm PySem.F.plainAttrs_list PySem.F.slot_list_append PySem.F.type_list_append mt_append (pe_dget (by have := gd.un; omega) ho3 pe_str hn3) (pa_cons (pe_op op_fdiv hw2 hm2) pa_nil st2) hb2 fw2 li2 st2 pl2) sw2)) pss_nil) (pss_closing (nd := nd) (ks := ks) hr))) pss_nil))).less fun D σ H q => by
    obtain ⟨ρ, De, r, ⟨ej, ⟨m, em, m0, m1⟩, hlen, hi, hm, qn, qx⟩, n1, n2, n3, n4⟩ := q
    obtain ⟨ov, e2, a, rfl, ja⟩ := r.get ej
    obtain ⟨vm, em2, bm⟩ := r.getD em
    cases bm
    obtain ⟨l, ha, hl, ne⟩ := hJ a H ja
    refine ⟨a, l, ha, hl, ne, fun kvs is z op => ?_⟩
    have rd : DGet (opn H a l kvs is) a (.str nd) (some (.ref l)) := by
      have q := DGet.k (k := .inr nd) op.ha
      rw [op.kv.2.1] at q; exact q
    refine ⟨.ref a, e2, a, .ref l, rfl, rd, Nat.zero_le _, fun p hp => ?_⟩
    have pa : p ≠ a := fun z => by rw [z, op.ha] at hp; cases hp
    have pl : p ≠ l := fun z => by rw [z, op.hl] at hp; cases hp
    refine ⟨.list (is.map .int), .list [], .lst (.inl (.inl (by rw [upd_ne (Ne.symm pl)]; exact op.hl))) (ints_dp is), .lst (.inl (.inl upd_same)) .nil, ints_shaped is, rfl, _, rfl, ?_⟩
    rw [ints_empty]
    have hl1 : (upd (opn H a l kvs is) p (.lst [])) l = some (.lst (is.map V.int)) := by rw [upd_ne (Ne.symm pl)]; exact op.hl
    have ha1 : (upd (opn H a l kvs is) p (.lst [])) a = some (.dK kvs) := by rw [upd_ne (Ne.symm pa)]; exact op.ha
    have rd2 : ∀ {H2 : Hp}, H2 a = some (.dK kvs) → DGet H2 a (.str nd) (some (.ref l)) := fun h => by
      have q := DGet.k (k := .inr nd) h
      rw [op.kv.2.1] at q; exact q
    cases is with
    | nil =>
      have hp0 : H p = none := (opn_off pa pl).symm.trans hp
      have sm : Same H (upd H p (.lst [])) := same_new hp0
      refine ⟨a, l, kvs, [], ⟨ha1, hl1, op.kv⟩, ?_⟩
      have ec : cls X.prog X.w nd ks (upd (opn H a l kvs []) p (.lst [])) a l = upd H p (.lst []) := cls_opn (H := upd H p (.lst [])) (by rw [upd_ne (Ne.symm pa)]; exact ha) (by rw [upd_ne (Ne.symm pl)]; exact hl) fun b h1 h2 => by
        by_cases hb : b = p
        · subst hb; rw [upd_same, upd_same]
        · rw [upd_ne hb, upd_ne hb]; exact opn_off h1 h2
      rw [ec]
      exact n1 _ _ _ (keep_of_same sm) (r.go sm) qx
    | cons y is =>
      have hne : (y :: is).map V.int ≠ [] := by simp
      have hlast : ((y :: is).map V.int)[((y :: is).map V.int).length - 1]? = some (.int ((y :: is).getLast (by simp))) := by
        rw [List.length_map, List.getElem?_map, ← List.getLast?_eq_getElem?, List.getLast?_eq_getLast (by simp)]; rfl
      refine ⟨.ref a, e2, ?_⟩
      refine ⟨a, .ref l, rfl, rd2 ha1, own_ty (pins := []) hl1, l, _, _, rfl, rfl, hl1, hlast, ?_⟩
      have ei : (σ.set iw (some (V.int ((y :: is).getLast (by simp)))))[i]? = some (some (.ref a)) := by
        rw [List.getElem?_set_ne hi]; exact e2
      have ew : (σ.set iw (some (V.int ((y :: is).getLast (by simp)))))[iw]? = some (some (V.int ((y :: is).getLast (by simp)))) := List.getElem?_set_self (by rw [r.len]; exact hlen)
      have emm : (σ.set iw (some (V.int ((y :: is).getLast (by simp)))))[im]? = some (some (.int m)) := by
        rw [List.getElem?_set_ne hm]; exact em2
      have dl : ((y :: is).map V.int).dropLast = ((y :: is).dropLast).map V.int := by rw [List.map_dropLast]
      have hl2 : (upd (upd (opn H a l kvs (y :: is)) p (.lst [])) l (.lst ((y :: is).map V.int).dropLast)) l = some (.lst (((y :: is).dropLast).map V.int)) := by rw [upd_same, dl]
      have ha2 : (upd (upd (opn H a l kvs (y :: is)) p (.lst [])) l (.lst ((y :: is).map V.int).dropLast)) a = some (.dK kvs) := by rw [upd_ne (Ne.symm op.ne)]; exact ha1
      refine ⟨_, ew, _, emm, _, m, rfl, rfl, _, rfl, ite2 (fun _ => ?_) fun _ => ?_⟩
      · refine ⟨.ref a, ei, a, .ref l, rfl, rd2 ha2, own_ty (pins := []) hl2, _, ew, _, emm, _, m, rfl, rfl, ⟨m0, m1⟩, l, _, _, rfl, rfl, hl2, ?_, ?_⟩
        · rw [List.length_map, List.length_dropLast]
          have : (y :: is).length ≤ sizeLine := z
          have : 0 < (y :: is).length := by simp
          omega
        · refine jpop_end (js := (y :: is).dropLast ++ [(y :: is).getLast (by simp) / m]) r ha hl op hp ?_ (qn _) n2 n3 n4 _
          rw [upd_upd, List.map_append]; rfl
      · exact jpop_end (js := (y :: is).dropLast) r ha hl op hp (by rw [dl]) (qn _) n2 n3 n4 _
/-- the same with the first one -/
theorem ds_jpop0 (gd : Good X) (hJ : ∀ a H, L.J.ok .jar a H → StoOk X.prog X.w nd ks a H) (hx : X.N[iw]? = some x) (hxl : X.env.scope.names.lookup x = some .local)
    (ho1 : PE X o1 (tVar i)) (ho2 : PE X o2 (tVar i)) (ho3 : PE X o3 (tVar i)) (hw1 : PE X w1 (tVar iw)) (hm1 : PE X m1 (tVar im)) (hw2 : PE X w2 (tVar iw)) (hm2 : PE X m2 (tVar im)) (hr : PSs X rest (tS L tb))
    (hn1 : NoSl (.Constant (.str nd) j1 p1) := by intro _ _; rfl) (hn2 : NoSl (.Constant (.str nd) j2 p6) := by intro _ _; rfl) (hn3 : NoSl (.Constant (.str nd) j3 p12) := by intro _ _; rfl)
    (hb1 : attributeBase (.Subscript o2 (.Constant (.str nd) j2 p6) p7) "pop" X.env (eval (.Subscript o2 (.Constant (.str nd) j2 p6) p7) X.env) = eval (.Subscript o2 (.Constant (.str nd) j2 p6) p7) X.env := by rfl) (li1 : (p8.endLine == p9.line) = true := by rfl)
    (hb2 : attributeBase (.Subscript o3 (.Constant (.str nd) j3 p12) p13) "insert" X.env (eval (.Subscript o3 (.Constant (.str nd) j3 p12) p13) X.env) = eval (.Subscript o3 (.Constant (.str nd) j3 p12) p13) X.env := by rfl)
    (fw2 : ((backTo p16 (starEach [.Constant (.int 0) j5 p20, .BinOp w2 .FloorDiv m2 p15] X.env)).all (fun x => !x.1) && (backToKw p16 (keywordEach [] X.env)).all (fun x => x.1.isSome) && decide (([.Constant (.int 0) j5 p20, .BinOp w2 .FloorDiv m2 p15] : List Expr).length + ([] : List Keyword).length + (if ([] : List Keyword).isEmpty then 0 else 1) < 30)) = true := by rfl)
    (li2 : (p14.endLine == p16.line) = true := by rfl) (st2 : starEach [.BinOp w2 .FloorDiv m2 p15] X.env = (false, eval (.BinOp w2 .FloorDiv m2 p15) X.env) :: starEach [] X.env := by rfl) (st3 : starEach [.Constant (.int 0) j5 p20, .BinOp w2 .FloorDiv m2 p15] X.env = (false, eval (.Constant (.int 0) j5 p20) X.env) :: starEach [.BinOp w2 .FloorDiv m2 p15] X.env := by rfl) (pl2 : (backTo p16 (starEach [.BinOp w2 .FloorDiv m2 p15] X.env)).any (·.1) = false := by rfl)
    (fw1 : ((backTo p9 (starEach [.Constant (.int 0) j4 p19] X.env)).all (fun x => !x.1) && (backToKw p9 (keywordEach [] X.env)).all (fun x => x.1.isSome) && decide (([.Constant (.int 0) j4 p19] : List Expr).length + ([] : List Keyword).length + (if ([] : List Keyword).isEmpty then 0 else 1) < 30)) = true := by rfl)
    (st1 : starEach [.Constant (.int 0) j4 p19] X.env = (false, eval (.Constant (.int 0) j4 p19) X.env) :: starEach [] X.env := by rfl) (pl1 : (backTo p9 (starEach [] X.env)).any (·.1) = false := by rfl)
    (sw1 : swapsWith (.Call (.Attribute (.Subscript o2 (.Constant (.str nd) j2 p6) p7) "pop" p8) [.Constant (.int 0) j4 p19] [] p9) (some (.Name x p5)) p10.line X.env = pure false := by rfl)
    (sw2 : swapsWith (.Call (.Attribute (.Subscript o3 (.Constant (.str nd) j3 p12) p13) "insert" p14) [.Constant (.int 0) j5 p20, .BinOp w2 .FloorDiv m2 p15] [] p16) none p17.line X.env = pure false := by rfl) :
    PS X (.If (.Compare (.Subscript o1 (.Constant (.str nd) j1 p1) p2) [.NotEq] [.List [] p3] p4)
      (.Assign [.Name x p5] (.Call (.Attribute (.Subscript o2 (.Constant (.str nd) j2 p6) p7) "pop" p8) [.Constant (.int 0) j4 p19] [] p9) p10 ::
        .If (.Compare w1 [.GtE] [m1] p11) [.Expr (.Call (.Attribute (.Subscript o3 (.Constant (.str nd) j3 p12) p13) "insert" p14) [.Constant (.int 0) j5 p20, .BinOp w2 .FloorDiv m2 p15] [] p16) p17] [] p18 :: rest) [] pos)
      (tS L (dJPop i iw im tb)) :=
  (ps_open (nd := nd) (ks := ks) (ps_closed (nd := nd) (ks := ks) (ps_if (pt_cmpR (op_neD (by have := gd.un; omega)) (pe_dget (by have := gd.un; omega) ho1 pe_str hn1) (pe_lst pa_nil) (nomark _))
    (pss_cons (ps_set (i := iw) gd.nd hx (.inl hxl) (pe_bm PySem.F.plainAttrs_list PySem.F.slot_list_pop PySem.F.type_list_pop mt_popAt (pe_dget (by have := gd.un; omega) ho2 pe_str hn2) (pa_cons pe_int pa_nil st1) hb1 fw1 li1 st1 pl1) sw1 (.inr hxl))
      (pss_cons (ps_if (pt_cmpR op_ge hw1 hm1 (nomark _)) (pss_one (ps_expr (pe_bm PySem.F.plainAttrs_list PySem.F.slot_list_insert PySem.F.type_list_insert mt_insert (pe_dget (by have := gd.un; omega) ho3 pe_str hn3) (pa_cons pe_int (pa_cons (pe_op op_fdiv hw2 hm2) pa_nil st2) st3) hb2 fw2 li2 st3 pl2) sw2)) pss_nil) (pss_closing (nd := nd) (ks := ks) hr))) pss_nil))).less fun D σ H q => by
    obtain ⟨ρ, De, r, ⟨ej, ⟨m, em, m0, m1⟩, hlen, hi, hm, qn, qx⟩, n1, n2, n3, n4⟩ := q
    obtain ⟨ov, e2, a, rfl, ja⟩ := r.get ej
    obtain ⟨vm, em2, bm⟩ := r.getD em
    cases bm
    obtain ⟨l, ha, hl, ne⟩ := hJ a H ja
    refine ⟨a, l, ha, hl, ne, fun kvs is z op => ?_⟩
    have rd : DGet (opn H a l kvs is) a (.str nd) (some (.ref l)) := by
      have q := DGet.k (k := .inr nd) op.ha
      rw [op.kv.2.1] at q; exact q
    refine ⟨.ref a, e2, a, .ref l, rfl, rd, Nat.zero_le _, fun p hp => ?_⟩
    have pa : p ≠ a := fun z => by rw [z, op.ha] at hp; cases hp
    have pl : p ≠ l := fun z => by rw [z, op.hl] at hp; cases hp
    refine ⟨.list (is.map .int), .list [], .lst (.inl (.inl (by rw [upd_ne (Ne.symm pl)]; exact op.hl))) (ints_dp is), .lst (.inl (.inl upd_same)) .nil, ints_shaped is, rfl, _, rfl, ?_⟩
    rw [ints_empty]
    have hl1 : (upd (opn H a l kvs is) p (.lst [])) l = some (.lst (is.map V.int)) := by rw [upd_ne (Ne.symm pl)]; exact op.hl
    have ha1 : (upd (opn H a l kvs is) p (.lst [])) a = some (.dK kvs) := by rw [upd_ne (Ne.symm pa)]; exact op.ha
    have rd2 : ∀ {H2 : Hp}, H2 a = some (.dK kvs) → DGet H2 a (.str nd) (some (.ref l)) := fun h => by
      have q := DGet.k (k := .inr nd) h
      rw [op.kv.2.1] at q; exact q
    cases is with
    | nil =>
      have hp0 : H p = none := (opn_off pa pl).symm.trans hp
      have sm : Same H (upd H p (.lst [])) := same_new hp0
      refine ⟨a, l, kvs, [], ⟨ha1, hl1, op.kv⟩, ?_⟩
      have ec : cls X.prog X.w nd ks (upd (opn H a l kvs []) p (.lst [])) a l = upd H p (.lst []) := cls_opn (H := upd H p (.lst [])) (by rw [upd_ne (Ne.symm pa)]; exact ha) (by rw [upd_ne (Ne.symm pl)]; exact hl) fun b h1 h2 => by
        by_cases hb : b = p
        · subst hb; rw [upd_same, upd_same]
        · rw [upd_ne hb, upd_ne hb]; exact opn_off h1 h2
      rw [ec]
      exact n1 _ _ _ (keep_of_same sm) (r.go sm) qx
    | cons y is =>
      have hne : (y :: is).map V.int ≠ [] := by simp
      refine ⟨.ref a, e2, ?_⟩
      refine ⟨a, .ref l, rfl, rd2 ha1, own_ty (pins := []) hl1, l, _, 0, 0, .int y, rfl, rfl, hl1, by decide, by decide, by simp [seqIndex?], by simp, ?_⟩
      have ei : (σ.set iw (some (V.int y)))[i]? = some (some (.ref a)) := by
        rw [List.getElem?_set_ne hi]; exact e2
      have ew : (σ.set iw (some (V.int y)))[iw]? = some (some (V.int y)) := List.getElem?_set_self (by rw [r.len]; exact hlen)
      have emm : (σ.set iw (some (V.int y)))[im]? = some (some (.int m)) := by
        rw [List.getElem?_set_ne hm]; exact em2
      have dl : ((y :: is).map V.int).eraseIdx 0 = is.map V.int := rfl
      have hl2 : (upd (upd (opn H a l kvs (y :: is)) p (.lst [])) l (.lst (((y :: is).map V.int).eraseIdx 0))) l = some (.lst (is.map V.int)) := by rw [upd_same, dl]
      have ha2 : (upd (upd (opn H a l kvs (y :: is)) p (.lst [])) l (.lst (((y :: is).map V.int).eraseIdx 0))) a = some (.dK kvs) := by rw [upd_ne (Ne.symm op.ne)]; exact ha1
      refine ⟨_, ew, _, emm, _, m, rfl, rfl, _, rfl, ite2 (fun _ => ?_) fun _ => ?_⟩
      · refine ⟨.ref a, ei, a, .ref l, rfl, rd2 ha2, own_ty (pins := []) hl2, _, ew, _, emm, _, m, rfl, rfl, ⟨m0, m1⟩, l, _, 0, _, rfl, rfl, hl2, ?_, by decide, by decide, ?_⟩
        · rw [List.length_map]
          have : (y :: is).length ≤ sizeLine := z
          simp at this; omega
        · refine jpop_end (js := (y / m) :: is) r ha hl op hp ?_ (qn _) n2 n3 n4 _
          rw [upd_upd]; rfl
      · exact jpop_end (js := is) r ha hl op hp (by rw [dl]) (qn _) n2 n3 n4 _
end
end GB

namespace GB
open PySem PySem.Spec PyProof.Rows L2

theorem BrA.put {K : PySem.W.Frag} {H : Hp} : ∀ {vs : List V} {ds : List PyData} (j : Nat) {v : V} {x : PyData}, BrA K H vs ds → Br K H v x → BrA K H (vs.set j v) (ds.set j x)
  | _, _, _, _, _, .nil, _ => .nil
  | _, _, 0, _, _, .cons _ h2, b => .cons b h2
  | _, _, j + 1, _, _, .cons h1 h2, b => .cons h1 (BrA.put j h2 b)
/-- an item of a list of one's own put in another's place -/
def dPutAt (i : Nat) (ti tv : TEd) : TSd := fun D ρ => tv ρ fun s ρ1 => ∃ x ys, s = .d x ∧ ρ1[i]? = some (.own ys) ∧ ti ρ1 fun s2 ρ2 => ∃ k j xs, s2 = .d (.int k) ∧ ρ2[i]? = some (.own xs) ∧ ixN xs.length k = some j ∧ D.nx (ρ2.set i (.own (xs.set j x)))
section
variable {X : Cx} {L : Lay} {o ix v : Expr} {pos p1 : Pos} {i : Nat} {ti tv : TEd}
theorem ds_putAt (ho : PE X o (tVar i)) (hi : PE X ix (tE L ti)) (hv : PE X v (tE L tv)) (hw : swappedStores [.Subscript o ix p1] v X.env = pure none := by rfl) (hs : swapsWithSole [.Subscript o ix p1] v pos.line X.env = pure false := by rfl)
    (h1 : (assignEach [.Subscript o ix p1] X.env).map (·.2) = [assign (.Subscript o ix p1) X.env] := by rfl)
    (ha : ∀ v, assign (.Subscript o ix p1) X.env v = (do
      let ov ← holding [v] (eval o X.env)
      let iv ← holding [v, ov] (eval ix X.env)
      standAt p1
      holding [v, ov, iv] (setItem ov iv v)
      release [v, ov, iv] []) := by intro _; rfl) :
    PS X (.Assign [.Subscript o ix p1] v pos) (tS L (dPutAt i ti tv)) :=
  (ps_asg hv (pg_sub ho hi set_list ha) hs hw h1).less fun D σ H q => by
    obtain ⟨ρ, De, r, q, n1, _⟩ := q
    refine ⟨ρ, _, r, q, fun v H1 s ρ1 go r1 hv q1 => ?_⟩
    obtain ⟨x, ys, rfl, ey, q2⟩ := q1
    obtain ⟨l, us, hi, hl, _⟩ := r1.getO ey
    refine ⟨.ref l, hi, ρ1, _, r1, q2, fun u H2 s2 ρ2 go2 r2 hu q3 => ?_⟩
    obtain ⟨k, j, xs, rfl, ex, hj, q4⟩ := q3
    have hu : Br L.K H2 u (.int k) := hu
    cases hu
    obtain ⟨l', ws, hi', hl', hb, _⟩ := r2.getO ex
    rw [hi] at hi'; cases hi'
    have hv2 : Br L.K H2 v x := Br.keep (go2.keep r1) _ _ hv
    obtain ⟨r3, k3⟩ := r2.put ex hi hl' (hb.put j hv2)
    exact ⟨l, ws, k, j, rfl, rfl, hl', by rw [hb.len]; exact hj, n1 _ _ _ (((go.keep r).tr (go2.keep r1)).tr k3) r3 q4⟩
end
end GB

namespace GB
open PySem PySem.Spec PyProof.Rows L2

/-! what is given by name -/
def pick {α : Type} (is : List Nat) (l : List α) : List α := is.filterMap fun i => l[i]?
theorem pick_vals {is : List Nat} {zs : List V} {ws : List Value} (h : Vals zs ws) : Vals (pick is zs) (pick is ws) := by
  induction is with
  | nil => exact .nil
  | cons i is ih =>
    unfold pick at ih ⊢
    rw [List.filterMap_cons, List.filterMap_cons]
    cases e : zs[i]? with
    | none =>
      have : ws[i]? = none := by
        rw [List.getElem?_eq_none_iff] at e ⊢
        rw [← h.length]; exact e
      rw [this]; exact ih
    | some v =>
      obtain ⟨u, hu, r⟩ := h.get e
      rw [hu]; exact .cons r ih
theorem fr_get {L : Lay} {H : Hp} {vs : List V} {ss : List S} (h : FRs L H vs ss) : ∀ (i : Nat) (v : V), vs[i]? = some v → ∃ s, ss[i]? = some s ∧ FR L H v s := by
  induction h with
  | nil => intro i v e; simp at e
  | @cons v vs s ss h1 h2 ih =>
    intro i w e
    cases i with
    | zero => simp at e; subst e; exact ⟨s, rfl, h1⟩
    | succ i => simp at e ⊢; exact ih i w e
theorem pick_frs {L : Lay} {H : Hp} {is : List Nat} {vs : List V} {ss : List S} (h : FRs L H vs ss) : FRs L H (pick is vs) (pick is ss) := by
  induction is with
  | nil => exact .nil
  | cons i is ih =>
    unfold pick at ih ⊢
    rw [List.filterMap_cons, List.filterMap_cons]
    cases e : vs[i]? with
    | none =>
      have : ss[i]? = none := by
        rw [List.getElem?_eq_none_iff] at e ⊢
        rw [← h.len]; exact e
      rw [this]; exact ih
    | some v =>
      obtain ⟨u, hu, r⟩ := fr_get h i v e
      rw [hu]; exact .cons r ih
theorem perm_mk {K : PySem.W.Frag} {fd : FuncData} {ps ks : List Str} {is : List Nat} (h : ∀ (s : Shared) (us : List Value), (pick is us).length = ps.length → BindsTo s fd ⟨[], ks.zip us⟩ (ps.zip (pick is us))) :
    Perm K fd ps ks (pick is) (pick is) (pick is) := ⟨h, pick_vals, pick_frs⟩
end GB

namespace GB
open PySem PySem.Spec PyProof.Rows L2

/-! kinds -/
def kTuple : PyData → Bool
  | .tuple _ => true
  | _ => false
def kBool : PyData → Bool
  | .bool _ => true
  | _ => false
def kInt : PyData → Bool
  | .int _ => true
  | _ => false
def kStr : PyData → Bool
  | .str _ => true
  | _ => false
theorem isK_tuple (x : PyData) : isK "tuple" x = kTuple x := by
  cases x with
  | none => exact (by decide +kernel : (kitB "NoneType" "tuple").getD false = false)
  | bool _ => exact (by decide +kernel : (kitB "bool" "tuple").getD false = false)
  | int _ => exact (by decide +kernel : (kitB "int" "tuple").getD false = false)
  | str _ => exact (by decide +kernel : (kitB "str" "tuple").getD false = false)
  | list _ => exact (by decide +kernel : (kitB "list" "tuple").getD false = false)
  | tuple _ => exact (by decide +kernel : (kitB "tuple" "tuple").getD false = true)
  | dict _ => exact (by decide +kernel : (kitB "dict" "tuple").getD false = false)
theorem isK_bool (x : PyData) : isK "bool" x = kBool x := by
  cases x with
  | none => exact (by decide +kernel : (kitB "NoneType" "bool").getD false = false)
  | bool _ => exact (by decide +kernel : (kitB "bool" "bool").getD false = true)
  | int _ => exact (by decide +kernel : (kitB "int" "bool").getD false = false)
  | str _ => exact (by decide +kernel : (kitB "str" "bool").getD false = false)
  | list _ => exact (by decide +kernel : (kitB "list" "bool").getD false = false)
  | tuple _ => exact (by decide +kernel : (kitB "tuple" "bool").getD false = false)
  | dict _ => exact (by decide +kernel : (kitB "dict" "bool").getD false = false)
theorem isK_str (x : PyData) : isK "str" x = kStr x := by
  cases x with
  | none => exact (by decide +kernel : (kitB "NoneType" "str").getD false = false)
  | bool _ => exact (by decide +kernel : (kitB "bool" "str").getD false = false)
  | int _ => exact (by decide +kernel : (kitB "int" "str").getD false = false)
  | str _ => exact (by decide +kernel : (kitB "str" "str").getD false = true)
  | list _ => exact (by decide +kernel : (kitB "list" "str").getD false = false)
  | tuple _ => exact (by decide +kernel : (kitB "tuple" "str").getD false = false)
  | dict _ => exact (by decide +kernel : (kitB "dict" "str").getD false = false)
theorem isK_int (x : PyData) : isK "int" x = (kInt x || kBool x) := by
  cases x with
  | none => exact (by decide +kernel : (kitB "NoneType" "int").getD false = false)
  | bool _ => exact (by decide +kernel : (kitB "bool" "int").getD false = true)
  | int _ => exact (by decide +kernel : (kitB "int" "int").getD false = true)
  | str _ => exact (by decide +kernel : (kitB "str" "int").getD false = false)
  | list _ => exact (by decide +kernel : (kitB "list" "int").getD false = false)
  | tuple _ => exact (by decide +kernel : (kitB "tuple" "int").getD false = false)
  | dict _ => exact (by decide +kernel : (kitB "dict" "int").getD false = false)
theorem ex_nil {P : List PyData → Prop} : (∃ xs, ([] : List S) = xs.map S.d ∧ P xs) ↔ P [] := by
  constructor
  · intro ⟨xs, e, p⟩
    cases xs with
    | nil => exact p
    | cons _ _ => cases e
  · intro p; exact ⟨[], rfl, p⟩
theorem ex_cons {P : List PyData → Prop} {a : PyData} {ss : List S} : (∃ xs, (S.d a :: ss) = xs.map S.d ∧ P xs) ↔ ∃ xs, ss = xs.map S.d ∧ P (a :: xs) := by
  constructor
  · intro ⟨xs, e, p⟩
    cases xs with
    | nil => cases e
    | cons b xs =>
      simp only [List.map_cons, List.cons.injEq, S.d.injEq] at e
      obtain ⟨rfl, e⟩ := e
      exact ⟨xs, e, p⟩
  · intro ⟨xs, e, p⟩; exact ⟨a :: xs, by simp [e], p⟩
/-! rows that are walked -/
def pairsFrom (k : Int) : List PyData → List PyData
  | [] => []
  | x :: xs => .tuple [.int k, x] :: pairsFrom (k + 1) xs
theorem pairsFrom_get : ∀ (xs : List PyData) (k : Int) (i : Nat), (pairsFrom k xs)[i]? = xs[i]?.map fun x => .tuple [.int (k + i), x]
  | [], k, i => by simp [pairsFrom]
  | x :: xs, k, 0 => by simp [pairsFrom]
  | x :: xs, k, i + 1 => by
    simp only [pairsFrom, List.getElem?_cons_succ, pairsFrom_get xs (k + 1) i]
    congr 1; funext y; congr 3; omega
theorem pairsOf_eq (xs : List PyData) : GB.pairsOf xs = pairsFrom 0 xs := by
  apply List.ext_getElem?
  intro i
  rw [pairsFrom_get]
  unfold GB.pairsOf
  rw [List.getElem?_map]
  by_cases h : i < xs.length
  · rw [List.getElem?_range h]; simp [h]
  · rw [List.getElem?_eq_none (by simpa using h), List.getElem?_eq_none (by omega)]; rfl
theorem irow_zero (lo : Int) : irow lo 0 = [] := rfl
theorem irow_succ (lo : Int) (n : Nat) : irow lo (n + 1) = .int lo :: irow (lo + 1) n := by
  unfold irow
  rw [List.range_succ_eq_map, List.map_cons, List.map_map]
  rw [List.cons.injEq]
  refine ⟨by simp, List.map_congr_left fun i _ => ?_⟩
  simp; omega
theorem irow_mem {lo : Int} {n : Nat} {x : PyData} (h : x ∈ irow lo n) : ∃ i : Int, x = .int i ∧ lo ≤ i ∧ i < lo + n := by
  simp only [irow, List.mem_map, List.mem_range] at h
  obtain ⟨i, hi, rfl⟩ := h
  exact ⟨_, rfl, by omega, by omega⟩
theorem atI_mem {xs : List PyData} {r : Int} (h0 : 0 ≤ r) (h1 : r < xs.length) : ∃ v, atI xs r = some v ∧ v ∈ xs := by
  have hn : r.toNat < xs.length := by omega
  refine ⟨xs[r.toNat], ?_, List.getElem_mem hn⟩
  unfold atI ixN
  rw [if_pos h0, if_pos (by omega)]
  simp [hn]
theorem dgCons_cons {g : DTG} {gs : DTGs} {d : PyData} {r : List PyData} {ρ : En} {Q : En → Prop} : dgCons g gs (d :: r) ρ Q ↔ g d ρ fun ρ1 => gs r ρ1 Q := by
  constructor
  · intro ⟨d', r', e, q⟩; cases e; exact q
  · intro q; exact ⟨d, r, rfl, q⟩
theorem dgNil_nil {ρ : En} {Q : En → Prop} : dgNil [] ρ Q ↔ Q ρ := ⟨fun q => q.2, fun q => ⟨rfl, q⟩⟩
theorem dgTup_tup {n : Nat} {gs : DTGs} {ds : List PyData} {ρ : En} {Q : En → Prop} : dgTup n gs (.tuple ds) ρ Q ↔ ds.length = n ∧ gs ds ρ Q := by
  constructor
  · intro ⟨d', e, q⟩; cases e; exact q
  · intro q; exact ⟨ds, rfl, q⟩
theorem rb {R : S → Prop} {a b : Bool} (h : R (.d (.bool a))) (e : a = b) : R (.d (.bool b)) := e ▸ h
theorem ri {R : S → Prop} {a b : Int} (h : R (.d (.int a))) (e : a = b) : R (.d (.int b)) := e ▸ h
theorem eqOk_str (a b : Str) : eqOk (.str a) (.str b) = true := rfl
theorem eqOk_int (a b : Int) : eqOk (.int a) (.int b) = true := rfl
theorem eqOk_bool (a b : Bool) : eqOk (.bool a) (.bool b) = true := rfl
theorem str_eqv (s : Str) : PyData.eqv (.str s) (.str s) = true := by simp [PyData.eqv]
theorem int_eqv (a b : Int) : PyData.eqv (.int a) (.int b) = decide (a = b) := by
  by_cases h : a = b
  · subst h; simp [PyData.eqv]
  · simp [PyData.eqv, h]
theorem tup_nil_eqv (xs : List PyData) : PyData.eqv (.tuple xs) (.tuple []) = xs.isEmpty := by cases xs <;> rfl
theorem lst_nil_eqv (xs : List PyData) : PyData.eqv (.list xs) (.list []) = xs.isEmpty := by cases xs <;> rfl
theorem cutD_mem {α : Type} {xs : List α} {lo hi : Option Int} {x : α} (h : x ∈ cutD xs lo hi) : x ∈ xs := List.mem_of_mem_drop (List.mem_of_mem_take h)
theorem cutD_len {α : Type} (xs : List α) (lo hi : Option Int) : (cutD xs lo hi).length ≤ xs.length := by
  unfold cutD
  rw [List.length_take, List.length_drop]; omega
theorem cutD_to {α : Type} (xs : List α) (n : Nat) : cutD xs none (some (n : Int)) = xs.take n := by
  unfold cutD
  rw [HT.sIx_none, HT.sIx_nat, List.drop_zero, Nat.sub_zero]
  exact (List.take_eq_take_min).symm
theorem rep_flat {α : Type} (n : Nat) (x : α) : (List.replicate n [x]).flatten = List.replicate n x := by
  induction n with
  | zero => rfl
  | succ n ih => rw [List.replicate_succ, List.flatten_cons, ih]; rfl
theorem cmul_r {i j : Int} (h1 : -(2 ^ 64) < j) (h2 : j < 2 ^ 64) : CMul i j ∨ CMulW i j := .inl (.inr ⟨h1, h2⟩)
theorem cmul_l {i j : Int} (h1 : -(2 ^ 64) < i) (h2 : i < 2 ^ 64) : CMul i j ∨ CMulW i j := .inl (.inl ⟨h1, h2⟩)
theorem pow2000 {k : Int} (h : k < 2 ^ 64) : k < 2 ^ 2000 := Int.lt_of_lt_of_le h (by decide +kernel)
end GB

namespace GB
open PySem PySem.Spec PyProof.Rows L2

/-! readings, step by step from without: what is looked at stands first -/
def atK (ρ : En) (i : Nat) (k : S → Prop) : Prop := ∃ s, ρ[i]? = some s ∧ k s
def setK (f : En → Prop) (ρ : En) (i : Nat) (s : S) : Prop := f (ρ.set i s)
def fzK (s : S) (k : S → Prop) : Prop := k s.fz
def oneK (s : S) (k : PyData → Prop) : Prop := ∃ x, s = .d x ∧ k x
def intK (s : S) (k : Int → Prop) : Prop := ∃ i, s = .d (.int i) ∧ k i
def boolK (s : S) (k : Bool → Prop) : Prop := ∃ b, s = .d (.bool b) ∧ k b
def dsK (ss : List S) (k : List PyData → Prop) : Prop := ∃ xs, ss = xs.map S.d ∧ k xs
def seqK (s : S) (k : List PyData → Prop) : Prop := ∃ ds, (s = .d (.list ds) ∨ s = .d (.tuple ds)) ∧ k ds
def ownK (s : S) (k : List PyData → Prop) : Prop := ∃ xs, s = .own xs ∧ k xs
def iteK (b : Bool) (p q : Prop) : Prop := if b = true then p else q
section
variable {ρ : En} {Q : S → En → Prop} {QB : Bool → En → Prop} {QA : List S → En → Prop} {D : EndsD} {k : S → Prop} {i j : Nat} {t ta tb : TEd} {tt tu : TTd} {as : TAd} {g : DTG} {gs : DTGs}
theorem ex1 {α : Type} {a : α} {p : α → Prop} : (∃ x, a = x ∧ p x) ↔ p a := ⟨fun ⟨x, e, h⟩ => e ▸ h, fun h => ⟨a, rfl, h⟩⟩

theorem at0 {a0 : S} {r : En} {k : S → Prop} : atK (a0 :: r) 0 k ↔ k a0 := ⟨fun ⟨s, e, h⟩ => by cases e; exact h, fun h => ⟨_, rfl, h⟩⟩
theorem set0 {a0 : S} {r : En} {s : S} {f : En → Prop} : setK f (a0 :: r) 0 s ↔ f (s :: r) := Iff.rfl
theorem at1 {a0 a1 : S} {r : En} {k : S → Prop} : atK (a0 :: a1 :: r) 1 k ↔ k a1 := ⟨fun ⟨s, e, h⟩ => by cases e; exact h, fun h => ⟨_, rfl, h⟩⟩
theorem set1 {a0 a1 : S} {r : En} {s : S} {f : En → Prop} : setK f (a0 :: a1 :: r) 1 s ↔ f (a0 :: s :: r) := Iff.rfl
theorem at2 {a0 a1 a2 : S} {r : En} {k : S → Prop} : atK (a0 :: a1 :: a2 :: r) 2 k ↔ k a2 := ⟨fun ⟨s, e, h⟩ => by cases e; exact h, fun h => ⟨_, rfl, h⟩⟩
theorem set2 {a0 a1 a2 : S} {r : En} {s : S} {f : En → Prop} : setK f (a0 :: a1 :: a2 :: r) 2 s ↔ f (a0 :: a1 :: s :: r) := Iff.rfl
theorem at3 {a0 a1 a2 a3 : S} {r : En} {k : S → Prop} : atK (a0 :: a1 :: a2 :: a3 :: r) 3 k ↔ k a3 := ⟨fun ⟨s, e, h⟩ => by cases e; exact h, fun h => ⟨_, rfl, h⟩⟩
theorem set3 {a0 a1 a2 a3 : S} {r : En} {s : S} {f : En → Prop} : setK f (a0 :: a1 :: a2 :: a3 :: r) 3 s ↔ f (a0 :: a1 :: a2 :: s :: r) := Iff.rfl
theorem at4 {a0 a1 a2 a3 a4 : S} {r : En} {k : S → Prop} : atK (a0 :: a1 :: a2 :: a3 :: a4 :: r) 4 k ↔ k a4 := ⟨fun ⟨s, e, h⟩ => by cases e; exact h, fun h => ⟨_, rfl, h⟩⟩
theorem set4 {a0 a1 a2 a3 a4 : S} {r : En} {s : S} {f : En → Prop} : setK f (a0 :: a1 :: a2 :: a3 :: a4 :: r) 4 s ↔ f (a0 :: a1 :: a2 :: a3 :: s :: r) := Iff.rfl
theorem at5 {a0 a1 a2 a3 a4 a5 : S} {r : En} {k : S → Prop} : atK (a0 :: a1 :: a2 :: a3 :: a4 :: a5 :: r) 5 k ↔ k a5 := ⟨fun ⟨s, e, h⟩ => by cases e; exact h, fun h => ⟨_, rfl, h⟩⟩
theorem set5 {a0 a1 a2 a3 a4 a5 : S} {r : En} {s : S} {f : En → Prop} : setK f (a0 :: a1 :: a2 :: a3 :: a4 :: a5 :: r) 5 s ↔ f (a0 :: a1 :: a2 :: a3 :: a4 :: s :: r) := Iff.rfl
theorem at6 {a0 a1 a2 a3 a4 a5 a6 : S} {r : En} {k : S → Prop} : atK (a0 :: a1 :: a2 :: a3 :: a4 :: a5 :: a6 :: r) 6 k ↔ k a6 := ⟨fun ⟨s, e, h⟩ => by cases e; exact h, fun h => ⟨_, rfl, h⟩⟩
theorem set6 {a0 a1 a2 a3 a4 a5 a6 : S} {r : En} {s : S} {f : En → Prop} : setK f (a0 :: a1 :: a2 :: a3 :: a4 :: a5 :: a6 :: r) 6 s ↔ f (a0 :: a1 :: a2 :: a3 :: a4 :: a5 :: s :: r) := Iff.rfl
theorem at7 {a0 a1 a2 a3 a4 a5 a6 a7 : S} {r : En} {k : S → Prop} : atK (a0 :: a1 :: a2 :: a3 :: a4 :: a5 :: a6 :: a7 :: r) 7 k ↔ k a7 := ⟨fun ⟨s, e, h⟩ => by cases e; exact h, fun h => ⟨_, rfl, h⟩⟩
theorem set7 {a0 a1 a2 a3 a4 a5 a6 a7 : S} {r : En} {s : S} {f : En → Prop} : setK f (a0 :: a1 :: a2 :: a3 :: a4 :: a5 :: a6 :: a7 :: r) 7 s ↔ f (a0 :: a1 :: a2 :: a3 :: a4 :: a5 :: a6 :: s :: r) := Iff.rfl
theorem at8 {a0 a1 a2 a3 a4 a5 a6 a7 a8 : S} {r : En} {k : S → Prop} : atK (a0 :: a1 :: a2 :: a3 :: a4 :: a5 :: a6 :: a7 :: a8 :: r) 8 k ↔ k a8 := ⟨fun ⟨s, e, h⟩ => by cases e; exact h, fun h => ⟨_, rfl, h⟩⟩
theorem set8 {a0 a1 a2 a3 a4 a5 a6 a7 a8 : S} {r : En} {s : S} {f : En → Prop} : setK f (a0 :: a1 :: a2 :: a3 :: a4 :: a5 :: a6 :: a7 :: a8 :: r) 8 s ↔ f (a0 :: a1 :: a2 :: a3 :: a4 :: a5 :: a6 :: a7 :: s :: r) := Iff.rfl
theorem at9 {a0 a1 a2 a3 a4 a5 a6 a7 a8 a9 : S} {r : En} {k : S → Prop} : atK (a0 :: a1 :: a2 :: a3 :: a4 :: a5 :: a6 :: a7 :: a8 :: a9 :: r) 9 k ↔ k a9 := ⟨fun ⟨s, e, h⟩ => by cases e; exact h, fun h => ⟨_, rfl, h⟩⟩
theorem set9 {a0 a1 a2 a3 a4 a5 a6 a7 a8 a9 : S} {r : En} {s : S} {f : En → Prop} : setK f (a0 :: a1 :: a2 :: a3 :: a4 :: a5 :: a6 :: a7 :: a8 :: a9 :: r) 9 s ↔ f (a0 :: a1 :: a2 :: a3 :: a4 :: a5 :: a6 :: a7 :: a8 :: s :: r) := Iff.rfl
theorem at10 {a0 a1 a2 a3 a4 a5 a6 a7 a8 a9 a10 : S} {r : En} {k : S → Prop} : atK (a0 :: a1 :: a2 :: a3 :: a4 :: a5 :: a6 :: a7 :: a8 :: a9 :: a10 :: r) 10 k ↔ k a10 := ⟨fun ⟨s, e, h⟩ => by cases e; exact h, fun h => ⟨_, rfl, h⟩⟩
theorem set10 {a0 a1 a2 a3 a4 a5 a6 a7 a8 a9 a10 : S} {r : En} {s : S} {f : En → Prop} : setK f (a0 :: a1 :: a2 :: a3 :: a4 :: a5 :: a6 :: a7 :: a8 :: a9 :: a10 :: r) 10 s ↔ f (a0 :: a1 :: a2 :: a3 :: a4 :: a5 :: a6 :: a7 :: a8 :: a9 :: s :: r) := Iff.rfl
theorem at11 {a0 a1 a2 a3 a4 a5 a6 a7 a8 a9 a10 a11 : S} {r : En} {k : S → Prop} : atK (a0 :: a1 :: a2 :: a3 :: a4 :: a5 :: a6 :: a7 :: a8 :: a9 :: a10 :: a11 :: r) 11 k ↔ k a11 := ⟨fun ⟨s, e, h⟩ => by cases e; exact h, fun h => ⟨_, rfl, h⟩⟩
theorem set11 {a0 a1 a2 a3 a4 a5 a6 a7 a8 a9 a10 a11 : S} {r : En} {s : S} {f : En → Prop} : setK f (a0 :: a1 :: a2 :: a3 :: a4 :: a5 :: a6 :: a7 :: a8 :: a9 :: a10 :: a11 :: r) 11 s ↔ f (a0 :: a1 :: a2 :: a3 :: a4 :: a5 :: a6 :: a7 :: a8 :: a9 :: a10 :: s :: r) := Iff.rfl
theorem at12 {a0 a1 a2 a3 a4 a5 a6 a7 a8 a9 a10 a11 a12 : S} {r : En} {k : S → Prop} : atK (a0 :: a1 :: a2 :: a3 :: a4 :: a5 :: a6 :: a7 :: a8 :: a9 :: a10 :: a11 :: a12 :: r) 12 k ↔ k a12 := ⟨fun ⟨s, e, h⟩ => by cases e; exact h, fun h => ⟨_, rfl, h⟩⟩
theorem set12 {a0 a1 a2 a3 a4 a5 a6 a7 a8 a9 a10 a11 a12 : S} {r : En} {s : S} {f : En → Prop} : setK f (a0 :: a1 :: a2 :: a3 :: a4 :: a5 :: a6 :: a7 :: a8 :: a9 :: a10 :: a11 :: a12 :: r) 12 s ↔ f (a0 :: a1 :: a2 :: a3 :: a4 :: a5 :: a6 :: a7 :: a8 :: a9 :: a10 :: a11 :: s :: r) := Iff.rfl
theorem at13 {a0 a1 a2 a3 a4 a5 a6 a7 a8 a9 a10 a11 a12 a13 : S} {r : En} {k : S → Prop} : atK (a0 :: a1 :: a2 :: a3 :: a4 :: a5 :: a6 :: a7 :: a8 :: a9 :: a10 :: a11 :: a12 :: a13 :: r) 13 k ↔ k a13 := ⟨fun ⟨s, e, h⟩ => by cases e; exact h, fun h => ⟨_, rfl, h⟩⟩
theorem set13 {a0 a1 a2 a3 a4 a5 a6 a7 a8 a9 a10 a11 a12 a13 : S} {r : En} {s : S} {f : En → Prop} : setK f (a0 :: a1 :: a2 :: a3 :: a4 :: a5 :: a6 :: a7 :: a8 :: a9 :: a10 :: a11 :: a12 :: a13 :: r) 13 s ↔ f (a0 :: a1 :: a2 :: a3 :: a4 :: a5 :: a6 :: a7 :: a8 :: a9 :: a10 :: a11 :: a12 :: s :: r) := Iff.rfl
theorem at14 {a0 a1 a2 a3 a4 a5 a6 a7 a8 a9 a10 a11 a12 a13 a14 : S} {r : En} {k : S → Prop} : atK (a0 :: a1 :: a2 :: a3 :: a4 :: a5 :: a6 :: a7 :: a8 :: a9 :: a10 :: a11 :: a12 :: a13 :: a14 :: r) 14 k ↔ k a14 := ⟨fun ⟨s, e, h⟩ => by cases e; exact h, fun h => ⟨_, rfl, h⟩⟩
theorem set14 {a0 a1 a2 a3 a4 a5 a6 a7 a8 a9 a10 a11 a12 a13 a14 : S} {r : En} {s : S} {f : En → Prop} : setK f (a0 :: a1 :: a2 :: a3 :: a4 :: a5 :: a6 :: a7 :: a8 :: a9 :: a10 :: a11 :: a12 :: a13 :: a14 :: r) 14 s ↔ f (a0 :: a1 :: a2 :: a3 :: a4 :: a5 :: a6 :: a7 :: a8 :: a9 :: a10 :: a11 :: a12 :: a13 :: s :: r) := Iff.rfl
theorem at15 {a0 a1 a2 a3 a4 a5 a6 a7 a8 a9 a10 a11 a12 a13 a14 a15 : S} {r : En} {k : S → Prop} : atK (a0 :: a1 :: a2 :: a3 :: a4 :: a5 :: a6 :: a7 :: a8 :: a9 :: a10 :: a11 :: a12 :: a13 :: a14 :: a15 :: r) 15 k ↔ k a15 := ⟨fun ⟨s, e, h⟩ => by cases e; exact h, fun h => ⟨_, rfl, h⟩⟩
theorem set15 {a0 a1 a2 a3 a4 a5 a6 a7 a8 a9 a10 a11 a12 a13 a14 a15 : S} {r : En} {s : S} {f : En → Prop} : setK f (a0 :: a1 :: a2 :: a3 :: a4 :: a5 :: a6 :: a7 :: a8 :: a9 :: a10 :: a11 :: a12 :: a13 :: a14 :: a15 :: r) 15 s ↔ f (a0 :: a1 :: a2 :: a3 :: a4 :: a5 :: a6 :: a7 :: a8 :: a9 :: a10 :: a11 :: a12 :: a13 :: a14 :: s :: r) := Iff.rfl

theorem fz_d {x : PyData} : fzK (.d x) k ↔ k (.d x) := Iff.rfl
theorem fz_own {xs : List PyData} : fzK (.own xs) k ↔ k (.d (.list xs)) := Iff.rfl
theorem fz_ob {t : Tk} : fzK (.ob t) k ↔ k (.ob t) := Iff.rfl
theorem one_d {x : PyData} {k : PyData → Prop} : oneK (.d x) k ↔ k x := ⟨fun ⟨y, e, h⟩ => by cases e; exact h, fun h => ⟨_, rfl, h⟩⟩
theorem int_d {x : Int} {k : Int → Prop} : intK (.d (.int x)) k ↔ k x := ⟨fun ⟨y, e, h⟩ => by cases e; exact h, fun h => ⟨_, rfl, h⟩⟩
theorem bool_d {x : Bool} {k : Bool → Prop} : boolK (.d (.bool x)) k ↔ k x := ⟨fun ⟨y, e, h⟩ => by cases e; exact h, fun h => ⟨_, rfl, h⟩⟩
theorem own_o {xs : List PyData} {k : List PyData → Prop} : ownK (.own xs) k ↔ k xs := ⟨fun ⟨y, e, h⟩ => by cases e; exact h, fun h => ⟨_, rfl, h⟩⟩
theorem ds_nil {k : List PyData → Prop} : dsK [] k ↔ k [] := ex_nil
theorem ds_cons {a : PyData} {r : List S} {k : List PyData → Prop} : dsK (.d a :: r) k ↔ dsK r fun xs => k (a :: xs) := ex_cons
theorem seq_l {xs : List PyData} {k : List PyData → Prop} : seqK (.d (.list xs)) k ↔ k xs := ⟨fun ⟨y, e, h⟩ => by rcases e with e | e <;> cases e; exact h, fun h => ⟨_, .inl rfl, h⟩⟩
theorem seq_t {xs : List PyData} {k : List PyData → Prop} : seqK (.d (.tuple xs)) k ↔ k xs := ⟨fun ⟨y, e, h⟩ => by rcases e with e | e <;> cases e; exact h, fun h => ⟨_, .inr rfl, h⟩⟩
theorem ite_t {p q : Prop} : iteK true p q ↔ p := Iff.rfl
theorem ite_f {p q : Prop} : iteK false p q ↔ q := by simp [iteK]
theorem ite_dec {c : Prop} [Decidable c] {p q : Prop} : iteK (decide c) p q ↔ ((c → p) ∧ (¬ c → q)) := by
  unfold iteK
  by_cases h : c <;> simp [h]
theorem ite_ndec {c : Prop} [Decidable c] {p q : Prop} : iteK (!decide c) p q ↔ ((¬ c → p) ∧ (c → q)) := by
  unfold iteK
  by_cases h : c <;> simp [h]
theorem itK_not {b : Bool} {p q : Prop} : iteK (!b) p q ↔ iteK b q p := by cases b <;> simp [iteK]
theorem ite_bool {b : Bool} {p q : Prop} : iteK b p q ↔ ((b = true → p) ∧ (b = false → q)) := by cases b <;> simp [iteK]
theorem iteI {c : Prop} [Decidable c] {p q : Prop} (h1 : c → p) (h2 : ¬ c → q) : iteK (decide c) p q := ite_dec.mpr ⟨h1, h2⟩
theorem iteB {b : Bool} {p q : Prop} (h1 : b = true → p) (h2 : b = false → q) : iteK b p q := ite_bool.mpr ⟨h1, h2⟩
/-! statements -/
theorem e_next : dNext D ρ ↔ D.nx ρ := Iff.rfl
theorem e_seq {a b : TSd} : dSeq a b D ρ ↔ a { D with nx := b D } ρ := Iff.rfl
theorem e_set : dSet i t D ρ ↔ t ρ fun s ρ1 => setK D.nx ρ1 i s := Iff.rfl
theorem e_drop : dDrop t D ρ ↔ t ρ fun _ ρ1 => D.nx ρ1 := Iff.rfl
theorem e_ret : dRet t D ρ ↔ t ρ fun s _ => D.rt s := Iff.rfl
theorem e_ifs {a b : TSd} : dIfS tt a b D ρ ↔ tt ρ fun c ρ1 => iteK c (a D ρ1) (b D ρ1) := Iff.rfl
theorem e_brk : dBrk D ρ ↔ D.bk ρ := Iff.rfl
theorem e_cnt : dCnt D ρ ↔ D.ct ρ := Iff.rfl
theorem e_fixs {a : TSd} : dFixS i a D ρ ↔ atK ρ i fun s => ownK s fun xs => setK (a D) ρ i (.d (.list xs)) := by
  constructor
  · intro ⟨xs, e, q⟩; exact ⟨_, e, xs, rfl, q⟩
  · intro ⟨_, e, xs, z, q⟩; exact ⟨xs, z ▸ e, q⟩
theorem e_par : dPar i j ta tb D ρ ↔ ta ρ fun s1 ρ1 => tb ρ1 fun s2 ρ2 => setK (fun ρ3 => setK D.nx ρ3 j s2) ρ2 i s1 := Iff.rfl
theorem e_par3 {l : Nat} {tc : TEd} : dPar3 i j l ta tb tc D ρ ↔ ta ρ fun s1 ρ1 => tb ρ1 fun s2 ρ2 => tc ρ2 fun s3 ρ3 => setK (fun ρ4 => setK (fun ρ5 => setK D.nx ρ5 l s3) ρ4 j s2) ρ3 i s1 := Iff.rfl
theorem e_asg : dAsg t g D ρ ↔ t ρ fun s ρ1 => oneK s fun x => g x ρ1 D.nx := Iff.rfl
theorem e_for {ti : TId} {b : TSd} : dFor ti g b D ρ ↔ ti ρ fun ds ρ1 => dLoop g b D ds ρ1 := Iff.rfl
theorem e_putAt : dPutAt i ta tb D ρ ↔ tb ρ fun s ρ1 => oneK s fun x => atK ρ1 i fun o => ownK o fun _ => ta ρ1 fun s2 ρ2 => intK s2 fun n => atK ρ2 i fun o => ownK o fun xs => ∃ j, ixN xs.length n = some j ∧ setK D.nx ρ2 i (.own (xs.set j x)) := by
  have e : ∀ (s2 : S) (ρ2 : En) (x : PyData), (∃ k j xs, s2 = .d (.int k) ∧ ρ2[i]? = some (.own xs) ∧ ixN xs.length k = some j ∧ D.nx (ρ2.set i (.own (xs.set j x)))) ↔ (intK s2 fun n => atK ρ2 i fun o => ownK o fun xs => ∃ j, ixN xs.length n = some j ∧ setK D.nx ρ2 i (.own (xs.set j x))) := by
    intro s2 ρ2 x
    constructor
    · intro ⟨k, j, xs, e1, e2, e3, q⟩; exact ⟨k, e1, _, e2, xs, rfl, j, e3, q⟩
    · intro ⟨k, e1, _, e2, xs, z, j, e3, q⟩; exact ⟨k, j, xs, e1, z ▸ e2, e3, q⟩
  have e2 : ∀ (s : S) (ρ1 : En), (∃ x ys, s = .d x ∧ ρ1[i]? = some (.own ys) ∧ ta ρ1 fun s2 ρ2 => ∃ k j xs, s2 = .d (.int k) ∧ ρ2[i]? = some (.own xs) ∧ ixN xs.length k = some j ∧ D.nx (ρ2.set i (.own (xs.set j x)))) ↔
      (oneK s fun x => atK ρ1 i fun o => ownK o fun _ => ta ρ1 fun s2 ρ2 => intK s2 fun n => atK ρ2 i fun o => ownK o fun xs => ∃ j, ixN xs.length n = some j ∧ setK D.nx ρ2 i (.own (xs.set j x))) := by
    intro s ρ1
    simp only [e]
    constructor
    · intro ⟨x, ys, e1, e2, q⟩; exact ⟨x, e1, _, e2, ys, rfl, q⟩
    · intro ⟨x, e1, _, e2, ys, z, q⟩; exact ⟨x, ys, e1, z ▸ e2, q⟩
  unfold dPutAt
  simp only [e2]
theorem e_jput : dJPut i t D ρ ↔ t ρ fun s ρ1 => intK s fun _ => ρ1[i]? = some (.ob .jar) ∧ D.nx ρ1 := Iff.rfl
/-! expressions -/
theorem e_var : dVar i ρ Q ↔ atK ρ i fun s => s.firm ∧ Q s ρ := Iff.rfl
theorem e_k {x : PyData} : dK x ρ Q ↔ Q (.d x) ρ := Iff.rfl
theorem e_fz : dFz t ρ Q ↔ t ρ fun s ρ1 => fzK s fun s => Q s ρ1 := Iff.rfl
theorem e_op {f : F2} : dOp f ta tb ρ Q ↔ ta ρ fun s1 ρ1 => tb ρ1 fun s2 ρ2 => oneK s1 fun x => oneK s2 fun y => f x y fun s => Q s ρ2 := by
  have e : ∀ (s1 s2 : S) (ρ2 : En), (∃ x y, s1 = .d x ∧ s2 = .d y ∧ f x y fun s => Q s ρ2) ↔ (oneK s1 fun x => oneK s2 fun y => f x y fun s => Q s ρ2) := fun s1 s2 ρ2 => ⟨fun ⟨x, y, a, b, h⟩ => ⟨x, a, y, b, h⟩, fun ⟨x, a, y, b, h⟩ => ⟨x, y, a, b, h⟩⟩
  unfold dOp
  simp only [e]
theorem e_opL {f : F2} : dOpL i f tb ρ Q ↔ (atK ρ i fun o => ownK o fun _ => tb ρ fun s2 ρ2 => oneK s2 fun y => atK ρ2 i fun o => ownK o fun xs => f (.list xs) y fun s => Q s ρ2) := by
  have e : ∀ (s2 : S) (ρ2 : En), (∃ xs y, ρ2[i]? = some (.own xs) ∧ s2 = .d y ∧ f (.list xs) y fun s => Q s ρ2) ↔ (oneK s2 fun y => atK ρ2 i fun o => ownK o fun xs => f (.list xs) y fun s => Q s ρ2) := fun s2 ρ2 => ⟨fun ⟨x, y, a, b, h⟩ => ⟨y, b, .own x, a, x, rfl, h⟩, fun ⟨y, b, _, a, x, e, h⟩ => ⟨x, y, e ▸ a, b, h⟩⟩
  unfold dOpL
  simp only [e]
  exact ⟨fun ⟨⟨ys, a⟩, h⟩ => ⟨.own ys, a, ys, rfl, h⟩, fun ⟨_, a, ys, e, h⟩ => ⟨⟨ys, e ▸ a⟩, h⟩⟩
theorem e_opR {f : F2} : dOpR f ta i ρ Q ↔ ta ρ fun s1 ρ1 => oneK s1 fun x => atK ρ1 i fun o => ownK o fun ys => f x (.list ys) fun s => Q s ρ1 := by
  have e : ∀ (s1 : S) (ρ1 : En), (∃ x ys, s1 = .d x ∧ ρ1[i]? = some (.own ys) ∧ f x (.list ys) fun s => Q s ρ1) ↔ (oneK s1 fun x => atK ρ1 i fun o => ownK o fun ys => f x (.list ys) fun s => Q s ρ1) := fun s1 ρ1 => ⟨fun ⟨x, y, a, b, h⟩ => ⟨x, a, .own y, b, y, rfl, h⟩, fun ⟨x, a, _, b, y, e, h⟩ => ⟨x, y, a, e ▸ b, h⟩⟩
  unfold dOpR
  simp only [e]
theorem e_n {f : FN} : dN f as ρ Q ↔ as ρ fun ss ρ1 => dsK ss fun xs => f xs fun s => Q s ρ1 := Iff.rfl
theorem e_n1 {f : FN} : dN1 f i ρ Q ↔ atK ρ i fun o => ownK o fun xs => f [.list xs] fun s => Q s ρ := ⟨fun ⟨xs, a, h⟩ => ⟨.own xs, a, xs, rfl, h⟩, fun ⟨_, a, xs, e, h⟩ => ⟨xs, e ▸ a, h⟩⟩
theorem e_nil : dNil ρ QA ↔ QA [] ρ := Iff.rfl
theorem e_cons : dCons t as ρ QA ↔ t ρ fun s ρ1 => s.firm ∧ as ρ1 fun ss ρ2 => QA (s :: ss) ρ2 := Iff.rfl
theorem e_tup : dTup as ρ Q ↔ as ρ fun ss ρ1 => dsK ss fun xs => xs.length ≤ sizeLine ∧ Q (.d (.tuple xs)) ρ1 := Iff.rfl
theorem e_lst : dLst as ρ Q ↔ as ρ fun ss ρ1 => dsK ss fun xs => xs.length ≤ sizeLine ∧ Q (.own xs) ρ1 := Iff.rfl
theorem e_b : dB t ρ QB ↔ t ρ fun s ρ1 => boolK s fun b => QB b ρ1 := Iff.rfl
theorem e_not : dNot tt ρ QB ↔ tt ρ fun b ρ1 => QB (!b) ρ1 := Iff.rfl
theorem e_and : dAnd tt tu ρ QB ↔ tt ρ fun b ρ1 => iteK b (tu ρ1 QB) (QB false ρ1) := Iff.rfl
theorem e_or : dOr tt tu ρ QB ↔ tt ρ fun b ρ1 => iteK b (QB true ρ1) (tu ρ1 QB) := Iff.rfl
theorem e_andV : dAndV ta tb ρ Q ↔ ta ρ fun s ρ1 => boolK s fun b => iteK b (tb ρ1 Q) (Q (.d (.bool false)) ρ1) := Iff.rfl
theorem e_orV : dOrV ta tb ρ Q ↔ ta ρ fun s ρ1 => boolK s fun b => iteK b (Q (.d (.bool true)) ρ1) (tb ρ1 Q) := Iff.rfl
theorem e_notV : dNotV ta ρ Q ↔ ta ρ fun s ρ1 => boolK s fun b => Q (.d (.bool (!b))) ρ1 := Iff.rfl
theorem e_if : dIf tt ta tb ρ Q ↔ tt ρ fun b ρ1 => iteK b (ta ρ1 Q) (tb ρ1 Q) := Iff.rfl
theorem e_isi {T : String} : dIsi T t ρ Q ↔ t ρ fun s ρ1 => oneK s fun x => Q (.d (.bool (isK T x))) ρ1 := Iff.rfl
theorem e_neg : dNeg t ρ Q ↔ t ρ fun s ρ1 => intK s fun i => Q (.d (.int (-i))) ρ1 := Iff.rfl
theorem e_chain {f f' : F2} {tc : TEd} : dChain f f' ta tb tc ρ Q ↔ ta ρ fun s1 ρ1 => tb ρ1 fun s2 ρ2 => oneK s1 fun x => oneK s2 fun y => f x y fun s => boolK s fun b => iteK b (tc ρ2 fun s3 ρ3 => oneK s3 fun z => f' y z fun s => Q s ρ3) (Q (.d (.bool false)) ρ2) := by
  have e : ∀ (s1 s2 : S) (ρ2 : En) (P : PyData → PyData → Prop), (∃ x y, s1 = .d x ∧ s2 = .d y ∧ P x y) ↔ (oneK s1 fun x => oneK s2 fun y => P x y) := fun s1 s2 ρ2 P => ⟨fun ⟨x, y, a, b, h⟩ => ⟨x, a, y, b, h⟩, fun ⟨x, a, y, b, h⟩ => ⟨x, y, a, b, h⟩⟩
  unfold dChain
  simp only [e _ _ ρ]
  exact Iff.rfl
theorem e_call {F : FnD} {n : Nat} : dCall F n as ρ Q ↔ as ρ fun ss ρ1 => ss.length = n ∧ F ss fun s => Q s ρ1 := Iff.rfl
theorem e_callK {F : FnD} {n : Nat} {gS : List S → List S} : dCallK F n gS as ρ Q ↔ as ρ fun ss ρ1 => (gS ss).length = n ∧ F (gS ss) fun s => Q s ρ1 := Iff.rfl
theorem e_jint : dJInt i ρ Q ↔ (atK ρ i fun s => s = .ob .jar ∧ ∀ n : Int, Q (.d (.int n)) ρ) := ⟨fun ⟨e, h⟩ => ⟨_, e, rfl, h⟩, fun ⟨_, e, z, h⟩ => ⟨z ▸ e, h⟩⟩
theorem e_dict0 : dDict0 ρ Q ↔ Q (.d (.dict [])) ρ := Iff.rfl
theorem e_dict1 {z : Str} : dDict1 z t ρ Q ↔ t ρ fun s ρ1 => oneK s fun x => Q (.d (.dict [(.str z, x)])) ρ1 := Iff.rfl
theorem e_listRng : dListRng t ρ Q ↔ t ρ fun s ρ1 => intK s fun n => 0 ≤ n ∧ n ≤ 16777216 ∧ Q (.own (irow 0 n.toNat)) ρ1 := Iff.rfl
theorem e_append : dAppend i t ρ Q ↔ (atK ρ i fun o => ownK o fun _ => t ρ fun s ρ1 => oneK s fun x => atK ρ1 i fun o => ownK o fun xs => xs.length < sizeLine ∧ setK (Q (.d .none)) ρ1 i (.own (xs ++ [x]))) := by
  have e : ∀ (s : S) (ρ1 : En), (∃ x xs, s = .d x ∧ ρ1[i]? = some (.own xs) ∧ xs.length < sizeLine ∧ Q (.d .none) (ρ1.set i (.own (xs ++ [x])))) ↔ (oneK s fun x => atK ρ1 i fun o => ownK o fun xs => xs.length < sizeLine ∧ setK (Q (.d .none)) ρ1 i (.own (xs ++ [x]))) := fun s ρ1 => ⟨fun ⟨x, y, a, b, h⟩ => ⟨x, a, .own y, b, y, rfl, h⟩, fun ⟨x, a, _, b, y, e, h⟩ => ⟨x, y, a, e ▸ b, h⟩⟩
  unfold dAppend
  simp only [e]
  exact ⟨fun ⟨⟨ys, a⟩, h⟩ => ⟨.own ys, a, ys, rfl, h⟩, fun ⟨_, a, ys, e, h⟩ => ⟨⟨ys, e ▸ a⟩, h⟩⟩
theorem e_cut {l u : TOd} : dCut t l u ρ Q ↔ t ρ fun s ρ1 => l ρ1 fun lo ρ2 => u ρ2 fun hi ρ3 => oneK s fun x => fCut x lo hi fun s => Q s ρ3 := Iff.rfl
theorem e_cutO {l u : TOd} : dCutO i l u ρ Q ↔ (atK ρ i fun o => ownK o fun _ => l ρ fun lo ρ2 => u ρ2 fun hi ρ3 => atK ρ3 i fun o => ownK o fun xs => Q (.own (cutD xs lo hi)) ρ3) := by
  have e : ∀ (lo hi : Option Int) (ρ3 : En), (∃ xs, ρ3[i]? = some (.own xs) ∧ Q (.own (cutD xs lo hi)) ρ3) ↔ (atK ρ3 i fun o => ownK o fun xs => Q (.own (cutD xs lo hi)) ρ3) := fun lo hi ρ3 => ⟨fun ⟨x, a, h⟩ => ⟨.own x, a, x, rfl, h⟩, fun ⟨_, a, x, e, h⟩ => ⟨x, e ▸ a, h⟩⟩
  unfold dCutO
  simp only [e]
  exact ⟨fun ⟨⟨ys, a⟩, h⟩ => ⟨.own ys, a, ys, rfl, h⟩, fun ⟨_, a, ys, e, h⟩ => ⟨⟨ys, e ▸ a⟩, h⟩⟩
theorem e_onone {QO : Option Int → En → Prop} : dONone ρ QO ↔ QO none ρ := Iff.rfl
theorem e_osome {QO : Option Int → En → Prop} : dOSome t ρ QO ↔ t ρ fun s ρ1 => intK s fun i => QO (some i) ρ1 := Iff.rfl
theorem e_iseq {QI : List PyData → En → Prop} : dISeq t ρ QI ↔ t ρ fun s ρ1 => seqK s fun ds => QI ds ρ1 := Iff.rfl
theorem e_ienum {QI : List PyData → En → Prop} : dIEnum t ρ QI ↔ t ρ fun s ρ1 => seqK s fun ds => QI (pairsFrom 0 ds) ρ1 := by
  unfold dIEnum
  simp only [pairsOf_eq]
  exact Iff.rfl
theorem e_irng {QI : List PyData → En → Prop} : dIRng t ρ QI ↔ t ρ fun s ρ1 => intK s fun j => j < 2 ^ 60 ∧ -(2 ^ 60) < j ∧ QI (irow 0 j.toNat) ρ1 := Iff.rfl
theorem e_gname {d : PyData} {f : En → Prop} : dgName i d ρ f ↔ setK f ρ i (.d d) := Iff.rfl
theorem e_lnil {b : TSd} : dLoop g b D [] ρ ↔ D.nx ρ := Iff.rfl
theorem e_lcons {b : TSd} {d : PyData} {ds : List PyData} : dLoop g b D (d :: ds) ρ ↔ g d ρ fun ρ1 => b { nx := dLoop g b D ds, ct := dLoop g b D ds, bk := D.nx, rt := D.rt } ρ1 := Iff.rfl
theorem e_lc {ti : TId} {vs : List Nat} : dLc ti vs g tt t ρ Q ↔ ti ρ fun ds ρ1 => ds.length ≤ sizeLine ∧ dLcGo vs g tt t (wipeD ρ1 vs) (fun acc => Q (.own acc) (wipeD ρ1 vs)) ds [] := Iff.rfl
theorem e_yes : dYes ρ QB ↔ QB true ρ := Iff.rfl
/-! what is worked out -/
theorem f_addI {a b : Int} : fAdd (.int a) (.int b) k ↔ k (.d (.int (a + b))) := Iff.rfl
theorem f_addS {a b : Str} : fAdd (.str a) (.str b) k ↔ a.length + b.length ≤ sizeLine ∧ k (.d (.str (a ++ b))) := Iff.rfl
theorem f_addT {a b : List PyData} : fAdd (.tuple a) (.tuple b) k ↔ a.length + b.length ≤ sizeLine ∧ k (.d (.tuple (a ++ b))) := Iff.rfl
theorem f_addL {a b : List PyData} : fAdd (.list a) (.list b) k ↔ a.length + b.length ≤ sizeLine ∧ k (.own (a ++ b)) := Iff.rfl
theorem f_i2 {g : Int → Int → PyData} {c : Int → Int → Prop} {a b : Int} : fI2 g c (.int a) (.int b) k ↔ c a b ∧ k (.d (g a b)) := ⟨fun ⟨_, _, e1, e2, h⟩ => by cases e1; cases e2; exact h, fun h => ⟨_, _, rfl, rfl, h⟩⟩
theorem f_mulI {a b : Int} : fMul (.int a) (.int b) k ↔ (CMul a b ∨ CMulW a b) ∧ k (.d (.int (a * b))) := Iff.rfl
theorem f_mulT {a : List PyData} {n : Int} : fMul (.tuple a) (.int n) k ↔ -(2 ^ 62) < n ∧ n < 2 ^ 62 ∧ a.length * n.toNat ≤ sizeLine ∧ k (.d (.tuple (List.replicate n.toNat a).flatten)) := Iff.rfl
theorem f_mulL {a : List PyData} {n : Int} : fMul (.list a) (.int n) k ↔ -(2 ^ 62) < n ∧ n < 2 ^ 62 ∧ a.length * n.toNat ≤ sizeLine ∧ k (.own (List.replicate n.toNat a).flatten) := Iff.rfl
theorem f_eq {x y : PyData} : fEq x y k ↔ eqOk x y = true ∧ k (.d (.bool (PyData.eqv x y))) := Iff.rfl
theorem f_ne {x y : PyData} : fNe x y k ↔ eqOk x y = true ∧ k (.d (.bool (!PyData.eqv x y))) := Iff.rfl
theorem f_is {x : PyData} : fIs x .none k ↔ k (.d (.bool (isNon x))) := ⟨fun h => h.2, fun h => ⟨rfl, h⟩⟩
theorem f_isnot {x : PyData} : fIsNot x .none k ↔ k (.d (.bool (!isNon x))) := ⟨fun h => h.2, fun h => ⟨rfl, h⟩⟩
theorem f_in {x c : PyData} : fIn x c k ↔ ∃ b, inD x c = some b ∧ k (.d (.bool b)) := Iff.rfl
theorem f_notin {x c : PyData} : fNotIn x c k ↔ ∃ b, inD x c = some b ∧ k (.d (.bool (!b))) := Iff.rfl
theorem f_ixL {xs : List PyData} {n : Int} : fIx (.list xs) (.int n) k ↔ ∃ v, atI xs n = some v ∧ k (.d v) := ⟨fun ⟨_, e, h⟩ => by cases e; exact h, fun h => ⟨_, rfl, h⟩⟩
theorem f_ixT {xs : List PyData} {n : Int} : fIx (.tuple xs) (.int n) k ↔ ∃ v, atI xs n = some v ∧ k (.d v) := ⟨fun ⟨_, e, h⟩ => by cases e; exact h, fun h => ⟨_, rfl, h⟩⟩
theorem f_lenL {xs : List PyData} : fLen [.list xs] k ↔ k (.d (.int xs.length)) := Iff.rfl
theorem f_lenT {xs : List PyData} : fLen [.tuple xs] k ↔ k (.d (.int xs.length)) := Iff.rfl
theorem f_lenS {z : Str} : fLen [.str z] k ↔ z.length ≤ sizeLine ∧ k (.d (.int z.length)) := Iff.rfl
theorem f_abs {n : Int} : fAbs [.int n] k ↔ k (.d (.int n.natAbs)) := ⟨fun ⟨_, e, h⟩ => by cases e; exact h, fun h => ⟨_, rfl, h⟩⟩
theorem f_intI {n : Int} : fInt [.int n] k ↔ k (.d (.int n)) := Iff.rfl
theorem f_intB {b : Bool} : fInt [.bool b] k ↔ k (.d (.int (if b then 1 else 0))) := Iff.rfl
theorem f_tupL {xs : List PyData} : fTuple [.list xs] k ↔ k (.d (.tuple xs)) := Iff.rfl
theorem f_tupT {xs : List PyData} : fTuple [.tuple xs] k ↔ k (.d (.tuple xs)) := Iff.rfl
theorem f_lstL {xs : List PyData} : fList [.list xs] k ↔ k (.own xs) := Iff.rfl
theorem f_lstT {xs : List PyData} : fList [.tuple xs] k ↔ k (.own xs) := Iff.rfl
theorem f_repr {x : PyData} : fRepr [x] k ↔ x.showable = true ∧ x.shown.length ≤ sizeLine ∧ x.depth ≤ 60 ∧ k (.d (.str x.shown)) := ⟨fun ⟨_, e, h⟩ => by cases e; exact h, fun h => ⟨_, rfl, h⟩⟩
theorem f_cutL {xs : List PyData} {lo hi : Option Int} : fCut (.list xs) lo hi k ↔ k (.own (cutD xs lo hi)) := Iff.rfl
theorem f_cutT {xs : List PyData} {lo hi : Option Int} : fCut (.tuple xs) lo hi k ↔ k (.d (.tuple (cutD xs lo hi))) := Iff.rfl
theorem firm_d {x : PyData} : S.firm (.d x) ↔ True := Iff.rfl
theorem firm_ob {t : Tk} : S.firm (.ob t) ↔ True := Iff.rfl
end
end GB

namespace GB
open PySem PySem.Spec PyProof.Rows L2

/-! comprehensions of two clauses -/
theorem walk_it {J : It} {n : Nat} {G : Hp → Prop} {Y : Nat → Hp → V → Hp → Prop} (w : Walk J n G Y) {Body : (Hp → Prop) → V → Hp → Prop} {Qd : Hp → Prop} {H0 : Hp} (Pv : Nat → Hp → Prop) (h0 : Pv 0 H0) (hG : ∀ i H, i ≤ n → Pv i H → G H)
    (hs : ∀ i x H H', i < n → Pv i H → Y i H x H' → Body (Pv (i + 1)) x H') (hd : ∀ H, Pv n H → Qd H) :
    ∃ W : Nat → Nat → Hp → Prop, (∃ m, W 0 m H0) ∧ ∀ i m H, W i m H → (J.stop i H ∧ Qd H) ∨ (J.go i H ∧ ∃ Nx : Hp → Prop, (∀ H', Nx H' → ∃ m', m' < m ∧ W (i + 1) m' H') ∧ ∀ x H', J.yld i H x H' → Body Nx x H') := by
  refine ⟨fun i m H => m = n - i ∧ i ≤ n ∧ Pv i H, ⟨n, by simp, Nat.zero_le _, h0⟩, ?_⟩
  rintro i m H ⟨rfl, hi, p⟩
  have q := hG i H hi p
  by_cases hlt : i < n
  · exact .inr ⟨w.goes i H hlt q, Pv (i + 1), fun H' p' => ⟨n - (i + 1), by omega, rfl, hlt, p'⟩, fun x H' y => hs i x H H' hlt p (w.yields i H x H' hlt q y)⟩
  · have e : i = n := by omega
    subst e
    exact .inl ⟨w.stops H q, hd H p⟩
def dInGo (vs : List Nat) (g : DTG) (tt : TTd) (te : TEd) (ρw : En) (K : List PyData → Prop) : List PyData → List PyData → Prop
  | [], acc => K acc
  | d :: ds, acc => g d ρw fun ρ2 => wipeD ρ2 vs = ρw ∧ tt ρ2 fun b ρ3 => ρ3 = ρ2 ∧ if b = true then te ρ2 fun s ρ4 => ρ4 = ρ2 ∧ ∃ y, s = .d y ∧ acc.length < sizeLine ∧ dInGo vs g tt te ρw K ds (acc ++ [y]) else dInGo vs g tt te ρw K ds acc
def dLc2Go (vs vs1 : List Nat) (g : DTG) (tt : TTd) (ti1 : TId) (g1 : DTG) (tt1 : TTd) (te : TEd) (ρw : En) (Q : List PyData → Prop) : List PyData → List PyData → Prop
  | [], acc => Q acc
  | d :: ds, acc => g d ρw fun ρ2 => wipeD ρ2 vs = ρw ∧ tt ρ2 fun b ρ3 => ρ3 = ρ2 ∧ if b = true then ti1 ρ2 fun ds1 ρ4 => ρ4 = ρ2 ∧ dInGo vs1 g1 tt1 te (wipeD ρ2 vs1) (fun acc => dLc2Go vs vs1 g tt ti1 g1 tt1 te ρw Q ds acc) ds1 acc else dLc2Go vs vs1 g tt ti1 g1 tt1 te ρw Q ds acc
def dLc2 (ti : TId) (vs vs1 : List Nat) (g : DTG) (tt : TTd) (ti1 : TId) (g1 : DTG) (tt1 : TTd) (te : TEd) : TEd := fun ρ Q => ti ρ fun ds ρ1 => dLc2Go vs vs1 g tt ti1 g1 tt1 te (wipeD ρ1 vs) (fun acc => Q (.own acc) (wipeD ρ1 vs)) ds []
section
variable {L : Lay}
theorem wipe_wipe {σ : L2.St} {vs : List Nat} : wipe (wipe σ vs) vs = wipe σ vs := by
  apply List.ext_getElem?
  intro j
  rw [wipe_get, wipe_length, wipe_get]
  split <;> rfl
theorem back {σ2 σw : L2.St} {ρw ρ2 : En} {vs : List Nat} {H1 H3 H4 : Hp} {D : Addr} {o : HO} (e2 : wipeD ρ2 vs = ρw) (no2 : NoOwn vs ρ2) (ew : wipe σ2 vs = σw) (dS : ∀ (i : Nat) (ys : Ow), ρw[i]? = some (.ow ys) → σw[i]? ≠ some (some (.ref D)))
    (goi : Go σw ρw ρw H1 H3) (hD : H3 D = some o) (g4 : Go σ2 ρ2 ρ2 H3 H4) (r4 : Rel L H4 σ2 ρ2) : Go σw ρw ρw H1 H4 ∧ Rel L H4 σw ρw ∧ H4 D = some o := by
  subst ew
  have outw : ∀ j, j ∉ vs → (wipe σ2 vs)[j]? = σ2[j]? := fun j hj => GB.wipe_out σ2 vs j hj
  have own2 : ∀ (j : Nat) (xs : Ow), ρ2[j]? = some (.ow xs) → j ∉ vs ∧ ρw[j]? = some (.ow xs) := fun j xs ej => by
    have nj : j ∉ vs := fun m => no2 j m xs ej
    exact ⟨nj, by rw [← e2, wipeD_get, if_neg nj]; exact ej⟩
  refine ⟨⟨fun a o h n => ?_, fun j xs ej => ⟨xs, ej⟩, fun a h => goi.dom a (g4.dom a h)⟩, ?_, ?_⟩
  · refine g4.stay a o (goi.stay a o h n) fun j xs ej z => ?_
    obtain ⟨nj, ej'⟩ := own2 j xs ej
    exact n j xs ej' (by rw [outw j nj]; exact z)
  · have := (r4.wiped (vs := vs)).move (σ' := wipe σ2 vs) (wipe_length σ2 vs) outw
    rw [e2] at this; exact this
  · refine g4.stay D _ hD fun j xs ej z => ?_
    obtain ⟨nj, ej'⟩ := own2 j xs ej
    exact dS j xs ej' (by rw [outw j nj]; exact z)
theorem wipeD_in {ρ : En} {vs vs1 : List Nat} (hv : ∀ i ∈ vs1, i ∈ vs) : wipeD (wipeD ρ vs1) vs = wipeD ρ vs := by
  apply List.ext_getElem?
  intro j
  rw [wipeD_get, wipeD_get, wipeD_len, wipeD_get]
  by_cases h : j ∈ vs
  · rw [if_pos h, if_pos h]
  · rw [if_neg h, if_neg h, if_neg fun m => h (hv j m)]
theorem Go.shift {σ σ' : L2.St} {ρ ρ' : En} {H H' : Hp} (go : Go σ ρ ρ H H') (h : ∀ (i : Nat) (xs : Ow), ρ[i]? = some (.ow xs) → ρ'[i]? = some (.ow xs) ∧ σ'[i]? = σ[i]?) : Go σ' ρ' ρ' H H' :=
  ⟨fun a o e n => go.stay a o e fun i xs q z => n i xs (h i xs q).1 ((h i xs q).2.trans z), fun i xs e => ⟨xs, e⟩, go.dom⟩
theorem app_go {σw : L2.St} {ρw : En} {H1 H : Hp} {D : Addr} {ws : List V} (go : Go σw ρw ρw H1 H) (hD : H1 D = none) : Go σw ρw ρw H1 (upd H D (.lst ws)) := by
  refine ⟨fun a o h n => ?_, fun j xs ej => ⟨xs, ej⟩, fun a h => ?_⟩
  · rw [upd_ne (fun z => by rw [z, hD] at h; cases h)]; exact go.stay a o h n
  · by_cases z : a = D
    · rw [z]; exact hD
    · rw [upd_ne z] at h; exact go.dom a h
variable {ti ti1 : TId} {vs vs1 : List Nat} {g g1 : DTG} {tt tt1 : TTd} {te : TEd}
theorem lc2_read {gt gt1 : TG} (hv : ∀ i ∈ vs1, i ∈ vs) (hg : GOwn L vs gt g) (hg1 : GOwn L vs1 gt1 g1) : ∀ σ H Q', tE L (dLc2 ti vs vs1 g tt ti1 g1 tt1 te) σ H Q' → tLc2 (tI L ti) gt (tT L tt) (tI L ti1) gt1 (tT L tt1) (tE L te) vs vs1 σ H Q' := by
  intro σ H Q' q
  obtain ⟨ρ, Q, r, q, fin⟩ := q
  refine ⟨ρ, _, r, q, fun J H1 ds ρ1 go r1 q1 it D hD => ?_⟩
  obtain ⟨G, Y, wk, g0, gk, step⟩ := it
  have rw1 : Rel L H1 (wipe σ vs) (wipeD ρ1 vs) := r1.wiped.move (wipe_length σ vs) (GB.wipe_out σ vs)
  have sD := same_new (o := .lst []) hD
  have d0 : L.H0 D = none := r1.same.free hD
  have dSlot : ∀ (i : Nat) (ys : Ow), (wipeD ρ1 vs)[i]? = some (.ow ys) → (wipe σ vs)[i]? ≠ some (some (.ref D)) := fun i ys e z => by
    obtain ⟨l', us', q1, q2, _⟩ := rw1.getW e
    rw [z] at q1; cases q1
    rw [hD] at q2; cases q2
  refine walk_it wk (fun i H2 => Keep H1 H2 ∧ Go (wipe σ vs) (wipeD ρ1 vs) (wipeD ρ1 vs) H1 H2 ∧ Rel L H2 (wipe σ vs) (wipeD ρ1 vs) ∧ ∃ acc us, H2 D = some (.lst us) ∧ BrA L.K H2 us acc ∧ dLc2Go vs vs1 g tt ti1 g1 tt1 te (wipeD ρ1 vs) (fun acc => Q (.own acc) (wipeD ρ1 vs)) (ds.drop i) acc)
    ⟨keep_of_same sD, Go.sm sD, rw1.go sD, [], [], upd_same, .nil, q1⟩ (fun i H2 _ ⟨k, _⟩ => gk _ _ k g0) (fun i x H2 H3 hi ⟨k, goi, r2, acc, us, hDl, hb, ql⟩ hy => ?_) fun H2 ⟨k, goi, r2, acc, us, hDl, hb, ql⟩ => ?_
  · obtain ⟨sm, d, hd, bd⟩ := step i H2 x H3 hi k (gk _ _ k g0) hy
    have e : ds.drop i = d :: ds.drop (i + 1) := by
      obtain ⟨hi', e⟩ := List.getElem?_eq_some_iff.mp hd
      rw [List.drop_eq_getElem_cons hi', e]
    rw [e] at ql
    have go3 : Go (wipe σ vs) (wipeD ρ1 vs) (wipeD ρ1 vs) H1 H3 := goi.tr (Go.sm sm)
    have hD3 : H3 D = some (.lst us) := sm D _ hDl
    refine hg (r2.go sm) (noOwn_wiped ρ1) bd ql fun σ2 ρ2 r3 no2 q3 ew => ⟨?_, ?_⟩
    · rw [ew, wipe_wipe]
    · obtain ⟨e2, q3⟩ := q3
      have ew2 : wipe σ2 vs = wipe σ vs := by rw [ew, wipe_wipe]
      refine ⟨ρ2, _, r3, q3, fun b H4 ρ3 go4 r4 q4 => ?_⟩
      obtain ⟨e3, q4⟩ := q4
      subst e3
      obtain ⟨goA, rA, dA⟩ := back e2 no2 ew2 dSlot go3 hD3 go4 r4
      have k4 : Keep H2 H4 := (keep_of_same sm).tr (go4.keep r3)
      cases b with
      | false => exact iteF ⟨k.tr k4, goA, rA, acc, us, dA, BrA.keep k4 _ _ hb, by simpa using q4⟩
      | true =>
        refine iteT ⟨ρ3, _, r4, by simpa using q4, fun J1 H5 ds1 ρ4 go5 r5 q5 it1 => ?_⟩
        obtain ⟨e4, q5⟩ := q5
        subst e4
        obtain ⟨goB, rB, dB⟩ := back e2 no2 ew2 dSlot go3 hD3 (go4.tr go5) r5
        have k5 : Keep H2 H5 := k4.tr (go5.keep r4)
        obtain ⟨G1, Y1, wk1, g01, gk1, step1⟩ := it1
        have rin : Rel L H5 (wipe σ2 vs1) (wipeD ρ4 vs1) := r5.wiped.move (wipe_length σ2 vs1) (GB.wipe_out σ2 vs1)
        have dSl2 : ∀ (i : Nat) (ys : Ow), ρ4[i]? = some (.ow ys) → σ2[i]? ≠ some (some (.ref D)) := fun j ys ej z => by
          have nj : j ∉ vs := fun m => no2 j m ys ej
          have ej' : (wipeD ρ1 vs)[j]? = some (.ow ys) := by rw [← e2, wipeD_get, if_neg nj]; exact ej
          exact dSlot j ys ej' (by rw [← ew2, GB.wipe_out σ2 vs j nj]; exact z)
        have dSin : ∀ (i : Nat) (ys : Ow), (wipeD ρ4 vs1)[i]? = some (.ow ys) → (wipe σ2 vs1)[i]? ≠ some (some (.ref D)) := fun j ys ej z => by
          have nj : j ∉ vs1 := fun m => noOwn_wiped (vs := vs1) ρ4 j m ys ej
          rw [wipeD_get, if_neg nj] at ej
          rw [GB.wipe_out σ2 vs1 j nj] at z
          exact dSl2 j ys ej z
        have out2 : ∀ (i : Nat) (xs : Ow), (wipeD ρ1 vs)[i]? = some (.ow xs) → (wipeD ρ4 vs1)[i]? = some (.ow xs) ∧ (wipe σ2 vs1)[i]? = (wipe σ vs)[i]? := fun j xs ej => by
          have nj : j ∉ vs := fun m => noOwn_wiped (vs := vs) ρ1 j m xs ej
          have nj1 : j ∉ vs1 := fun m => nj (hv j m)
          rw [← e2, wipeD_get, if_neg nj] at ej
          refine ⟨by rw [wipeD_get, if_neg nj1]; exact ej, by rw [GB.wipe_out σ2 vs1 j nj1, ← GB.wipe_out σ2 vs j nj, ew2]⟩
        have in2 : ∀ (i : Nat) (xs : Ow), (wipeD ρ4 vs1)[i]? = some (.ow xs) → (wipeD ρ1 vs)[i]? = some (.ow xs) ∧ (wipe σ vs)[i]? = (wipe σ2 vs1)[i]? := fun j xs ej => by
          have nj1 : j ∉ vs1 := fun m => noOwn_wiped (vs := vs1) ρ4 j m xs ej
          rw [wipeD_get, if_neg nj1] at ej
          have nj : j ∉ vs := fun m => no2 j m xs ej
          refine ⟨by rw [← e2, wipeD_get, if_neg nj]; exact ej, by rw [GB.wipe_out σ2 vs1 j nj1, ← GB.wipe_out σ2 vs j nj, ew2]⟩
        refine walk_it wk1 (fun j H6 => Keep H5 H6 ∧ Go (wipe σ2 vs1) (wipeD ρ4 vs1) (wipeD ρ4 vs1) H1 H6 ∧ Rel L H6 (wipe σ2 vs1) (wipeD ρ4 vs1) ∧ ∃ acc us, H6 D = some (.lst us) ∧ BrA L.K H6 us acc ∧
            dInGo vs1 g1 tt1 te (wipeD ρ4 vs1) (fun acc => dLc2Go vs vs1 g tt ti1 g1 tt1 te (wipeD ρ1 vs) (fun acc => Q (.own acc) (wipeD ρ1 vs)) (ds.drop (i + 1)) acc) (ds1.drop j) acc)
          ⟨Keep.rfl' H5, goB.shift out2, rin, acc, us, dB, BrA.keep k5 _ _ hb, q5⟩ (fun j H6 _ ⟨k6, _⟩ => gk1 _ _ k6 g01) (fun j x1 H6 H7 hj ⟨k6, goD, rD, acc6, us6, hD6, hb6, ql6⟩ hy1 => ?_) fun H6 ⟨k6, goD, rD, acc6, us6, hD6, hb6, ql6⟩ => ?_
        · obtain ⟨sm1, d1, hd1, bd1⟩ := step1 j H6 x1 H7 hj k6 (gk1 _ _ k6 g01) hy1
          have e1 : ds1.drop j = d1 :: ds1.drop (j + 1) := by
            obtain ⟨hj', e⟩ := List.getElem?_eq_some_iff.mp hd1
            rw [List.drop_eq_getElem_cons hj', e]
          rw [e1] at ql6
          have go7 : Go (wipe σ2 vs1) (wipeD ρ4 vs1) (wipeD ρ4 vs1) H1 H7 := goD.tr (Go.sm sm1)
          have hD7 : H7 D = some (.lst us6) := sm1 D _ hD6
          refine hg1 (rD.go sm1) (noOwn_wiped ρ4) bd1 ql6 fun σ3 ρ5 r7 no3 q7 ew3 => ⟨?_, ?_⟩
          · rw [ew3, wipe_wipe]
          · obtain ⟨e5, q7⟩ := q7
            have ew4 : wipe σ3 vs1 = wipe σ2 vs1 := by rw [ew3, wipe_wipe]
            refine ⟨ρ5, _, r7, q7, fun b H8 ρ6 go8 r8 q8 => ?_⟩
            obtain ⟨e6, q8⟩ := q8
            subst e6
            obtain ⟨goE, rE, dE⟩ := back e5 no3 ew4 dSin go7 hD7 go8 r8
            have k8 : Keep H6 H8 := (keep_of_same sm1).tr (go8.keep r7)
            cases b with
            | false => exact iteF ⟨k6.tr k8, goE, rE, acc6, us6, dE, BrA.keep k8 _ _ hb6, by simpa using q8⟩
            | true =>
              refine iteT ⟨ρ6, _, r8, by simpa using q8, fun y H9 s ρ7 go9 r9 hvv q9 => ?_⟩
              obtain ⟨e7, y', rfl, hz, q10⟩ := q9
              subst e7
              obtain ⟨goG, rG, dG⟩ := back e5 no3 ew4 dSin go7 hD7 (go8.tr go9) r9
              have k9 : Keep H6 H9 := k8.tr (go9.keep r8)
              have kD : Keep H9 (upd H9 D (.lst (us6 ++ [y]))) := keep_put dG trivial
              have lu := hb6.len
              exact ⟨us6, dG, by omega, (k6.tr k9).tr kD, app_go goG hD, rG.other dG d0 dSin, acc6 ++ [y'], us6 ++ [y], upd_same, ((BrA.keep (k9.tr kD) _ _ hb6).app (BrA.one (Br.keep kD _ _ hvv))), q10⟩
        · rw [List.drop_length] at ql6
          refine ⟨(k.tr k5).tr k6, goD.shift in2, ?_, acc6, us6, hD6, hb6, ql6⟩
          have h := (rD.wiped (vs := vs)).move (σ' := wipe σ vs) (by rw [wipe_length, wipe_length, ← wipe_length σ vs, ← ew2, wipe_length]) fun j hj => by
            rw [GB.wipe_out σ2 vs1 j (fun m => hj (hv j m)), ← GB.wipe_out σ2 vs j hj, ew2]
          rw [wipeD_in hv, e2] at h; exact h
  · rw [List.drop_length] at ql
    have goF : Go σ ρ1 (wipeD ρ1 vs) H1 H2 := ⟨fun a o h n => goi.stay a o h fun j xs ej z => by
        by_cases nj : j ∈ vs
        · exact noOwn_wiped ρ1 j nj xs ej
        · rw [wipeD_get, if_neg nj] at ej
          rw [GB.wipe_out σ vs j nj] at z
          exact n j xs ej z, fun j xs ej => by
        by_cases nj : j ∈ vs
        · exact absurd ej (noOwn_wiped ρ1 j nj xs)
        · rw [wipeD_get, if_neg nj] at ej; exact ⟨xs, ej⟩, goi.dom⟩
    exact fin (.ref D) H2 (.own acc) _ (go.tr goF) (r2.move (wipe_length σ vs).symm fun j hj => (GB.wipe_out σ vs j hj).symm) ⟨⟨D, us, rfl, hDl, hb, d0⟩, fun l e => by cases e; exact go.dom _ hD⟩ ql
end
section
variable {X : Cx} {L : Lay} {elt tg iter tg1 iter1 : Expr} {ifs ifs1 : List Expr} {scope : Scope} {own : List (Str × Nat)} {vs1 : List Nat} {pos : Pos} {ti ti1 : TId} {g g1 : DTG} {gt gt1 : TG} {tt tt1 : TTd} {te : TEd}
theorem de_lc2 (gd : Good X) (hi : PI X tg iter (tI L ti)) (ok : BlkOk X.N X.env.scope scope own) (hv : ∀ i ∈ vs1, i ∈ own.map (·.2))
    (hg : ∀ (s : Shared) (H : Hp) (C : Addr) (cl : List (Str × Addr)) (fp : List Addr), PG (X.blk s H scope (compEnvC scope cl C X.env) fp) tg gt) (ho : GOwn L (own.map (·.2)) gt g) (ht : ∀ (s : Shared) (H : Hp) (C : Addr) (cl : List (Str × Addr)) (fp : List Addr), Good (X.blk s H scope (compEnvC scope cl C X.env) fp) → PTs (X.blk s H scope (compEnvC scope cl C X.env) fp) ifs (tT L tt))
    (hi1 : ∀ (s : Shared) (H : Hp) (C : Addr) (cl : List (Str × Addr)) (fp : List Addr), Good (X.blk s H scope (compEnvC scope cl C X.env) fp) → PI (X.blk s H scope (compEnvC scope cl C X.env) fp) tg1 iter1 (tI L ti1)) (hg1 : ∀ (s : Shared) (H : Hp) (C : Addr) (cl : List (Str × Addr)) (fp : List Addr), PG (X.blk s H scope (compEnvC scope cl C X.env) fp) tg1 gt1) (ho1 : GOwn L vs1 gt1 g1) (ht1 : ∀ (s : Shared) (H : Hp) (C : Addr) (cl : List (Str × Addr)) (fp : List Addr), Good (X.blk s H scope (compEnvC scope cl C X.env) fp) → PTs (X.blk s H scope (compEnvC scope cl C X.env) fp) ifs1 (tT L tt1))
    (he : ∀ (s : Shared) (H : Hp) (C : Addr) (cl : List (Str × Addr)) (fp : List Addr), Good (X.blk s H scope (compEnvC scope cl C X.env) fp) → PE (X.blk s H scope (compEnvC scope cl C X.env) fp) elt (tE L te)) (hs : ∀ x, foldedSetIterable iter X.env x = pure x := by intro _; rfl) (hs1 : ∀ env x, foldedSetIterable iter1 env x = pure x := by intro _ _; rfl) : PE X (.ListComp elt [⟨tg, iter, ifs, 0⟩, ⟨tg1, iter1, ifs1, 0⟩] scope pos) (tE L (dLc2 ti (own.map (·.2)) vs1 g tt ti1 g1 tt1 te)) :=
  (pe_lc2 gd.calm gd.nd hi ok hv hg (fun s H C cl fp => ht s H C cl fp ⟨gd.calm, gd.gd, gd.sys, gd.un, gd.nd⟩) (fun s H C cl fp => hi1 s H C cl fp ⟨gd.calm, gd.gd, gd.sys, gd.un, gd.nd⟩) hg1 (fun s H C cl fp => ht1 s H C cl fp ⟨gd.calm, gd.gd, gd.sys, gd.un, gd.nd⟩) (fun s H C cl fp => he s H C cl fp ⟨gd.calm, gd.gd, gd.sys, gd.un, gd.nd⟩) hs hs1).less (lc2_read hv ho ho1)
theorem ds_setLc2 {i : Nat} {y : Str} {py spos : Pos} (gd : Good X) (hy : X.N[i]? = some y) (hyl : X.env.scope.names.lookup y = some .local) (hsw : swapsWith (.ListComp elt [⟨tg, iter, ifs, 0⟩, ⟨tg1, iter1, ifs1, 0⟩] scope pos) (some (.Name y py)) spos.line X.env = pure true) (hi : PI X tg iter (tI L ti)) (ok : BlkOk X.N X.env.scope scope own) (hv : ∀ i ∈ vs1, i ∈ own.map (·.2))
    (hg : ∀ (s : Shared) (H : Hp) (C : Addr) (cl : List (Str × Addr)) (fp : List Addr), PG (X.blk s H scope (compEnvC scope cl C X.env) fp) tg gt) (ho : GOwn L (own.map (·.2)) gt g) (ht : ∀ (s : Shared) (H : Hp) (C : Addr) (cl : List (Str × Addr)) (fp : List Addr), Good (X.blk s H scope (compEnvC scope cl C X.env) fp) → PTs (X.blk s H scope (compEnvC scope cl C X.env) fp) ifs (tT L tt))
    (hi1 : ∀ (s : Shared) (H : Hp) (C : Addr) (cl : List (Str × Addr)) (fp : List Addr), Good (X.blk s H scope (compEnvC scope cl C X.env) fp) → PI (X.blk s H scope (compEnvC scope cl C X.env) fp) tg1 iter1 (tI L ti1)) (hg1 : ∀ (s : Shared) (H : Hp) (C : Addr) (cl : List (Str × Addr)) (fp : List Addr), PG (X.blk s H scope (compEnvC scope cl C X.env) fp) tg1 gt1) (ho1 : GOwn L vs1 gt1 g1) (ht1 : ∀ (s : Shared) (H : Hp) (C : Addr) (cl : List (Str × Addr)) (fp : List Addr), Good (X.blk s H scope (compEnvC scope cl C X.env) fp) → PTs (X.blk s H scope (compEnvC scope cl C X.env) fp) ifs1 (tT L tt1))
    (he : ∀ (s : Shared) (H : Hp) (C : Addr) (cl : List (Str × Addr)) (fp : List Addr), Good (X.blk s H scope (compEnvC scope cl C X.env) fp) → PE (X.blk s H scope (compEnvC scope cl C X.env) fp) elt (tE L te)) (hs : ∀ x, foldedSetIterable iter X.env x = pure x := by intro _; rfl) (hs1 : ∀ env x, foldedSetIterable iter1 env x = pure x := by intro _ _; rfl) :
    PS X (.Assign [.Name y py] (.ListComp elt [⟨tg, iter, ifs, 0⟩, ⟨tg1, iter1, ifs1, 0⟩] scope pos) spos) (tS L (dSet i (dLc2 ti (own.map (·.2)) vs1 g tt ti1 g1 tt1 te))) :=
  (ps_setLc2 gd.calm gd.nd hy hyl hsw hi ok hv hg (fun s H C cl fp => ht s H C cl fp ⟨gd.calm, gd.gd, gd.sys, gd.un, gd.nd⟩) (fun s H C cl fp => hi1 s H C cl fp ⟨gd.calm, gd.gd, gd.sys, gd.un, gd.nd⟩) hg1 (fun s H C cl fp => ht1 s H C cl fp ⟨gd.calm, gd.gd, gd.sys, gd.un, gd.nd⟩) (fun s H C cl fp => he s H C cl fp ⟨gd.calm, gd.gd, gd.sys, gd.un, gd.nd⟩) hs hs1).less fun D σ H q => by
    obtain ⟨ρ, De, r, q, n1, _⟩ := q
    exact lc2_read hv ho ho1 _ _ _ ⟨ρ, _, r, q, fun v H' s ρ' go r' hv n => n1 _ _ _ (go.keep r) (r.set r' go hv) n⟩
theorem e_lc2 {ρ : En} {Q : S → En → Prop} {vs : List Nat} : dLc2 ti vs vs1 g tt ti1 g1 tt1 te ρ Q ↔ ti ρ fun ds ρ1 => dLc2Go vs vs1 g tt ti1 g1 tt1 te (wipeD ρ1 vs) (fun acc => Q (.own acc) (wipeD ρ1 vs)) ds [] := Iff.rfl
end
end GB

namespace GB
open PySem PySem.Spec PyProof.Rows L2

/-! x, y = a, b with names that a block captures: the pair is built and taken apart -/
section
variable {X : Cx} {L : Lay} {a b : Expr} {t1 t2 : TEd} {pos : Pos}
theorem ds_parT {i j : Nat} {x y : Str} {px py pt : Pos} {kt k2 pt2} (g : Good X) (hK : L.K = X.K) (hi : X.N[i]? = some x) (hj : X.N[j]? = some y) (hij : i ≠ j) (hx : Loc X.env.scope x) (hy : Loc X.env.scope y)
    (ha : PE X a (tE L t1)) (hb : PE X b (tE L t2))
    (hfx : X.fn x = true ∨ X.env.scope.names.lookup x = some .local := by first | exact .inl rfl | exact .inr rfl) (hfy : X.fn y = true ∨ X.env.scope.names.lookup y = some .local := by first | exact .inl rfl | exact .inr rfl)
    (hw : swappedStores [.Tuple [.Name x px, .Name y py] kt pt] (.Tuple [a, b] k2 pt2) X.env = pure none := by rfl)
    (h1 : starEach [a, b] X.env = (false, eval a X.env) :: starEach [b] X.env := by rfl) (h2 : starEach [b] X.env = (false, eval b X.env) :: starEach [] X.env := by rfl)
    (e1 : (assignEach [.Name x px, .Name y py] X.env).map (·.2) = assign (.Name x px) X.env :: (assignEach [.Name y py] X.env).map (·.2) := by rfl) (e2 : (assignEach [.Name y py] X.env).map (·.2) = assign (.Name y py) X.env :: (assignEach [] X.env).map (·.2) := by rfl)
    (e3 : (assignEach [.Name x px, .Name y py] X.env).length = 2 := by rfl) (e4 : (assignEach [.Name x px, .Name y py] X.env).findIdx? (·.1) = none := by rfl)
    (e5 : (assignEach [.Tuple [.Name x px, .Name y py] kt pt] X.env).map (·.2) = [assign (.Tuple [.Name x px, .Name y py] kt pt) X.env] := by rfl)
    (hs : swapsWithSole [.Tuple [.Name x px, .Name y py] kt pt] (.Tuple [a, b] k2 pt2) pos.line X.env = pure false := by rfl) :
    PS X (.Assign [.Tuple [.Name x px, .Name y py] kt pt] (.Tuple [a, b] k2 pt2) pos) (tS L (dPar i j t1 t2)) :=
  (ps_asg (pe_tup (pa_cons ha (pa_cons hb pa_nil h2) h1)) (pg_tup g.calm (pgs_cons (pg_name g.nd hi hx hfx) (pgs_cons (pg_name g.nd hj hy hfy) pgs_nil e2) e1) e3 e4) hs hw e5).less fun D σ H q => by
    obtain ⟨ρ, De, r, q, n1, _⟩ := q
    refine ⟨ρ, _, r, q, fun v H1 s ρ1 go r1 hv q1 => ⟨ρ1, _, r1, q1, fun w H2 s2 ρ2 go2 r2 hw q2 => ⟨(show (2 : Nat) ≤ sizeLine by decide), fun p hp => ?_⟩⟩⟩
    have sm : Same H2 (upd H2 p (.tup [v, w])) := same_new hp
    have r3 := r2.go sm
    have g3 : Go σ ρ2 ρ2 H2 (upd H2 p (.tup [v, w])) := Go.sm sm
    have hv3 := (hv.later r go r1 go2).later r (go.tr go2) r2 g3
    have hw3 := hw.later r1 go2 r2 g3
    have ra := r3.put1 (j := i) (r.old (go.tr go2)) hv3
    have rb := ra.put1 (j := j) ((r.old (go.tr go2)).set (Hm := H1) (go.dom) hv.there) hw3
    exact ⟨p, [v, w], rfl, .inl (.inl upd_same), rfl, v, [w], rfl, w, [], rfl, rfl, n1 _ _ _ (((go.tr go2).keep r).tr (keep_of_same sm)) rb q2⟩
end
end GB

namespace GB
open PySem PySem.Spec PyProof.Rows L2 HT

/-! a row backwards: t[::-1] -/
section
variable {prog : Program} {w : World} {A : Around} {E : Value → Shared → Prop} {s : Shared}
theorem rev_places (n : Nat) : Builtin.Slice.slicePlaces ((n : Int) - 1) (-1) (-1) = n := by
  unfold Builtin.Slice.slicePlaces
  have h1 : ¬ ((-1 : Int) > 0) := by decide
  simp only [h1, if_false]
  by_cases h : (n : Int) - 1 > -1
  · rw [if_pos h, show (- -1 : Int) = 1 by decide, Int.ediv_one]; omega
  · rw [if_neg h]; omega
theorem fm_congr {α β : Type} {f g : α → Option β} : ∀ {xs : List α}, (∀ x ∈ xs, f x = g x) → xs.filterMap f = xs.filterMap g
  | [], _ => rfl
  | x :: xs, h => by
    rw [List.filterMap_cons, List.filterMap_cons, h x (by simp), fm_congr fun y hy => h y (by simp [hy])]
theorem rev_pick (xs : Array Value) : ((List.range xs.size).filterMap fun (m : Nat) => xs[((xs.size : Int) - 1 + (m : Int) * (-1)).toNat]?).toArray = xs.toList.reverse.toArray := by
  have e : (List.range xs.size).filterMap (fun (m : Nat) => xs[((xs.size : Int) - 1 + (m : Int) * (-1)).toNat]?) = ((List.range xs.size).map fun k => xs.size - 1 - k).filterMap (xs[·]?) := by
    rw [List.filterMap_map]
    refine fm_congr fun m hm => ?_
    have := List.mem_range.mp hm
    have q : ((xs.size : Int) - 1 + (m : Int) * (-1)).toNat = xs.size - 1 - m := by omega
    rw [q]; rfl
  rw [e, PySem.W.krv_range, List.filterMap_reverse, PySem.W.krv_all]
theorem applied_rev {sl : Addr} {vs : Value} {n : Nat} {Q : Int × Int × Nat → Shared → Prop} (hs : s.heap.IsSliceOf sl .none .none vs) (ps : IsPart vs (some (-1)))
    (h : Q ((n : Int) - 1, -1, n) s) : wpAny (model prog w) A (Builtin.Slice.sliceApplied (.ref sl) (pure (n : Int))) Q E s := by
  obtain ⟨os, hos, hcs, hds⟩ := id hs
  unfold Builtin.Slice.sliceApplied Builtin.Slice.sliceFields
  refine wpAny_bind (wpAny_bind (wpAny_field hos hds (x := .none) rfl (wpAny_bind (wpAny_field hos hds (x := .none) rfl (wpAny_bind (wpAny_field hos hds (x := vs) rfl (wpAny_pure ?_)))))))
  refine wpAny_bind (slicePart_ ps ?_)
  show wpAny _ _ (if ((-1 : Int) == 0) = true then _ else _) _ _ s
  rw [if_neg (by decide)]
  refine wpAny_bind (slicePart_none (wpAny_bind (slicePart_none (wpAny_bind (wpAny_pure ?_)))))
  show wpAny _ _ (pure ((n : Int) - 1, (-1 : Int), Builtin.Slice.slicePlaces ((n : Int) - 1) (-1) (-1))) _ _ s
  rw [rev_places]
  exact wpAny_pure h
theorem get_tup_rev {t sl : Addr} {items : Array Value} {vs : Value} {Q : Value → Shared → Prop} (ht : IsTup s.heap t items) (hs : s.heap.IsSliceOf sl .none .none vs) (ps : IsPart vs (some (-1)))
    (h : Q (.ref s.heap.objs.size) { s with heap := s.heap.push { cls := .type "tuple", data := .seq items.toList.reverse.toArray } }) (hsz : items.size ≤ sizeLine) : wpAny (model prog w) A (getItem (.ref t) (.ref sl)) Q E s := by
  have hmade : sizeOk (.seq items.toList.reverse.toArray) := by
    show items.toList.reverse.toArray.size ≤ sizeLine
    rw [List.size_toArray, List.length_reverse, Array.length_toList]; exact hsz
  obtain ⟨os, hos, hcs, hds⟩ := id hs
  have hTs : s.TypeIs (.ref sl) "slice" := ⟨os, hos, hcs⟩
  unfold getItem
  try with_reducible refine wpAny_holding ?_
  first | refine wpAny_bind (wpAny_pure ?_) | skip
  refine wpAny_bind (wpAny_sequenceKey ht.typeIs (by decide) ?_)
  refine wpAny_bind (wpAny_callSpecial?_slot (name := Str.ofString "__getitem__") ht.typeIs PyProof.Rows.slot_tuple_getitem
    (wpAny_call_entry PyProof.Rows.slot_tuple_getitem ht.typeIs PyProof.Rows.entry_tuple_getitem ?_ (PyProof.Rows.args_tuple_getitem _ _)))
  show wpAny _ _ (Builtin.Tuple.tupleItemsOf (.ref t) >>= _) _ _ s
  refine wpAny_bind (tupleItemsOf_ ht ?_)
  refine wpAny_bind (wpAny_typeOf hTs ?_)
  rw [if_pos (by decide)]
  refine wpAny_bind (applied_rev hs ps ?_)
  have hno : ¬ (((((items.size : Nat) : Int) - 1) == 0 && (-1 : Int) == 1 && items.size == items.size) = true) := by simp
  show wpAny _ _ (if ((((items.size : Nat) : Int) - 1) == 0 && (-1 : Int) == 1 && items.size == items.size) = true then _ else _) _ _ s
  rw [if_neg hno, rev_pick]
  first
    | exact wpAny_bind (m := Builtin.Tuple.tupleExact _) (wpAny_newObj_type (wpAny_pure ⟨_, rfl, wpAny_pure h⟩) hmade)
    | exact wpAny_bind (m := Builtin.Tuple.tupleExact _) (wpAny_newObj_type (wpAny_bind (wpAny_pure (wpAny_pure ⟨_, rfl, wpAny_pure h⟩))) hmade)
    | exact wpAny_bind (wpAny_bind (m := Builtin.Tuple.tupleExact _) (wpAny_newObj_type (wpAny_pure (wpAny_pure ⟨_, rfl, wpAny_pure h⟩)) hmade))
    | exact wpAny_bind (wpAny_bind (m := Builtin.Tuple.tupleExact _) (wpAny_newObj_type (wpAny_pure ⟨_, rfl, wpAny_pure h⟩) hmade))
end
def tRevT (K : PySem.W.Frag) (te : TE) : TE := fun σ H Q => te σ H fun x H1 => ∃ a xs, x = .ref a ∧ SqT K H1 a xs ∧ ∀ p, H1 p = none → Q (.ref p) (upd H1 p (.tup xs.reverse))
theorem pe_revT {X : Cx} {e : Expr} {te : TE} {k : Nat} {p1 p2 p3 pos : Pos} (he : PE X e te) : PE X (.Subscript e (.Slice none none (some (.UnaryOp .USub (.Constant (.int 1) k p1) p2)) p3) pos) (tRevT X.K te) := by
  refine ⟨fun pins s σ H Q I h => ?_⟩
  refine Subscript_ (thn (he.run pins s σ H _ I h) fun v s1 ⟨x, H1, I1, r1, q1⟩ => ?_)
  obtain ⟨a, xs, ex, hx, q⟩ := q1
  subst ex
  cases r1
  have hst : PO X (some (.UnaryOp .USub (.Constant (.int 1) k p1) p2)) (tPart (tUn (rU fun i => .int (-i)) (tC (.int 1)))) := po_some (pe_un un_neg pe_int)
  refine wpAny_Slice (thn (po_none.run pins s1 σ H1 (fun o H2 => o = none ∧ H2 = H1) I1 ⟨rfl, rfl⟩) fun vl s2 ⟨l, H2, I2, pl, el, e2⟩ => ?_)
  subst el e2
  refine thn (po_none.run pins s2 σ H2 (fun o H3 => o = none ∧ H3 = H2) I2 ⟨rfl, rfl⟩) fun vu s3 ⟨u, H3, I3, pu, eu, e3⟩ => ?_
  subst eu e3
  refine thn (hst.run pins s3 σ H3 (fun o H4 => o = some (-1) ∧ H4 = H3) I3 ⟨1, rfl, -1, rfl, rfl, rfl⟩) fun vs s4 ⟨o, H4, I4, ps, eo, e4⟩ => ?_
  subst eo e4
  cases pl
  cases pu
  have I5 : Inv X pins σ H4 { s4 with heap := s4.heap.push { cls := .type "slice", data := .fields #[.none, .none, vs] } } := I4.kept (t' := s4.toks) fun b ob q => Heap.get?_push_of_some _ q
  obtain ⟨its, r, ht, hz⟩ := I5.tuple hx
  have hlen := r.length
  show wpAny (model X.prog X.w) X.A (subscriptTail e (.Slice none none (some (.UnaryOp .USub (.Constant (.int 1) k p1) p2)) p3) (.ref a) (.ref s4.heap.objs.size)) (EP X pins σ Q) X.xe { s4 with heap := s4.heap.push { cls := .type "slice", data := .fields #[.none, .none, vs] } }
  refine tail_any (ops := [.ref a, .ref s4.heap.objs.size]) ht.typeIs (PyProof.Rows.slot_tuple_getitem.lookup) ?_ (by with_unfolding_all rfl)
  refine get_tup_rev ht (Heap.IsSliceOf.new _ .none .none vs) ps ?_ (by rw [List.size_toArray]; omega)
  refine ⟨.ref _, _, I5.laid (t' := s4.toks) (o := .tup xs.reverse) (fun b ob q => Heap.get?_push_of_some _ q) (Nat.le_refl _) ?_, rfl, q _ (I5.hok.fresh (Nat.le_refl _))⟩
  exact ⟨by rw [List.length_reverse]; exact hz, _, r.reverse, IsTup.new _ _⟩
/-- backwards, of data -/
def dRev (t : TEd) : TEd := fun ρ Q => t ρ fun s ρ1 => ∃ xs, s = .d (.tuple xs) ∧ Q (.d (.tuple xs.reverse)) ρ1
theorem BrA.rev {K : PySem.W.Frag} {H : Hp} {vs : List V} {ds : List PyData} (h : BrA K H vs ds) : BrA K H vs.reverse ds.reverse := by
  induction ds generalizing vs with
  | nil => cases h; exact .nil
  | cons d ds ih =>
    cases h with
    | cons h1 h2 =>
      rw [List.reverse_cons, List.reverse_cons]
      exact (ih h2).app (.cons h1 .nil)
theorem de_rev {X : Cx} {L : Lay} {e : Expr} {t : TEd} {k : Nat} {p1 p2 p3 pos : Pos} (hK : L.K = X.K) (he : PE X e (tE L t)) : PE X (.Subscript e (.Slice none none (some (.UnaryOp .USub (.Constant (.int 1) k p1) p2)) p3) pos) (tE L (dRev t)) :=
  (pe_revT he).less fun σ H Q' q => by
    obtain ⟨ρ, Q, r, q, fin⟩ := q
    refine ⟨ρ, _, r, q, fun v H1 s ρ1 go r1 hv q1 => ?_⟩
    obtain ⟨xs, rfl, q2⟩ := q1
    have hv : Br L.K H1 v (.tuple xs) := hv
    cases hv with
    | @tup a ws _ h1 h3 =>
      refine ⟨_, _, rfl, by rw [← hK]; exact h1, fun p hp => ?_⟩
      have sm := same_new (o := .tup ws.reverse) hp
      exact fin (.ref p) _ (.d (.tuple xs.reverse)) ρ1 (go.tr (Go.sm sm)) (r1.go sm) (.tup (.inl (.inl upd_same)) (BrA.keep (keep_of_same sm) _ _ h3.rev)) q2
theorem e_rev {t : TEd} {ρ : En} {Q : S → En → Prop} : dRev t ρ Q ↔ t ρ fun s ρ1 => oneK s fun x => ∃ xs, x = .tuple xs ∧ Q (.d (.tuple xs.reverse)) ρ1 := by
  have e : ∀ (s : S) (ρ1 : En), (∃ xs, s = .d (.tuple xs) ∧ Q (.d (.tuple xs.reverse)) ρ1) ↔ (oneK s fun x => ∃ xs, x = .tuple xs ∧ Q (.d (.tuple xs.reverse)) ρ1) := fun s ρ1 => ⟨fun ⟨xs, a, h⟩ => ⟨_, a, xs, rfl, h⟩, fun ⟨x, a, xs, e, h⟩ => ⟨xs, e ▸ a, h⟩⟩
  unfold dRev
  simp only [e]
end GB

namespace GB
open PySem PySem.Spec PyProof.Rows L2

/-! sorted rows of ints -/
def fSorted : FN := fun xs Q => ∃ ns : List Int, xs = [.list (ns.map .int)] ∧ ∀ ns' : List Int, ns'.Perm ns → ns'.Pairwise (· ≤ ·) → Q (.own (ns'.map .int))
theorem br_ints {K : PySem.W.Frag} {H : Hp} : ∀ {ns : List Int} {vs : List V}, BrA K H vs (ns.map PyData.int) → vs = ns.map V.int
  | [], _, h => by cases h; rfl
  | n :: ns, _, h => by
    cases h with
    | cons h1 h2 => cases h1; rw [br_ints h2]; rfl
theorem ints_br {K : PySem.W.Frag} {H : Hp} : ∀ ns : List Int, BrA K H (ns.map V.int) (ns.map PyData.int)
  | [] => .nil
  | _ :: ns => .cons (.int _) (ints_br ns)
theorem c_sorted {X : Cx} {L : Lay} (hK : L.K = X.K) : CallR X (.builtin "sorted") (rN L fSorted) := by
  intro pins s σ H vs us Q' I r q
  obtain ⟨xs, Q, b, ⟨ns, rfl, q⟩, fin⟩ := q
  obtain ⟨v, rfl, b1⟩ := brA1 hK b
  obtain ⟨a, ws, rfl, h1, h3⟩ := list_sq hK b1
  obtain rfl := br_ints h3
  refine cr_sortedI pins s σ H _ us Q' I r ⟨a, ns, rfl, h1, fun ns' p hp hs hl => ?_⟩
  exact fin _ _ (.own _) (same_new hl) ⟨_, _, rfl, hl, upd_same, ints_br ns'⟩ (q ns' hp hs)
end GB

namespace GB
open PySem PySem.Spec PyProof.Rows L2 RZ

/-! two rows side by side -/
def zipOf (ds es : List PyData) : List PyData := (ds.zip es).map fun p => .tuple [p.1, p.2]
def dIZip (t u : TEd) : TId := fun ρ Q => t ρ fun s ρ1 => u ρ1 fun s2 ρ2 => ∃ ds es, ((s = .d (.list ds) ∧ s2 = .d (.list es)) ∨ (s = .d (.tuple ds) ∧ s2 = .d (.tuple es))) ∧ Q (zipOf ds es) ρ2
section
variable {L : Lay} {H : Hp} {a b : Addr} {vs ws : List V} {ds es : List PyData}
theorem zip_len (hb : BrA L.K H vs ds) (hc : BrA L.K H ws es) : (zipOf ds es).length = min vs.length ws.length := by simp [zipOf, hb.len, hc.len]
theorem yp_zip {i : Nat} {H1 H2 : Hp} {x : V} (hb : BrA L.K H vs ds) (hc : BrA L.K H ws es) (k : Keep H H1) (y : YPair (fun i => vs[i]?) (fun i => ws[i]?) i H1 x H2) : Same H1 H2 ∧ ∃ d, (zipOf ds es)[i]? = some d ∧ Br L.K H2 x d := by
  obtain ⟨T, z, u, rfl, hT, rfl, hz, hu⟩ := y
  obtain ⟨d, e1, bd⟩ := hb.getV hz
  obtain ⟨e, e2, be⟩ := hc.getV hu
  have sm := same_new (o := .tup [z, u]) hT
  refine ⟨sm, .tuple [d, e], ?_, .tup (.of upd_same) (.cons (Br.keep (k.tr (keep_of_same sm)) _ _ bd) (.cons (Br.keep (k.tr (keep_of_same sm)) _ _ be) .nil))⟩
  unfold zipOf
  rw [List.getElem?_map, (List.getElem?_zip_eq_some (z := (d, e))).mpr ⟨e1, e2⟩]; rfl
theorem walk_zT {K : PySem.W.Frag} : Walk (ItzT K a b) (min vs.length ws.length) (fun H => SqT K H a vs ∧ SqT K H b ws) (YPair (fun i => vs[i]?) (fun i => ws[i]?)) := by
  refine ⟨fun i _ hi q => ⟨vs, ws, vs[i]'(by omega), ws[i]'(by omega), q.1, q.2, by simp [show i < vs.length by omega], by simp [show i < ws.length by omega]⟩, fun _ q => ⟨vs, ws, q.1, q.2, by omega⟩, fun i H v H' _ q y => ?_⟩
  obtain ⟨T, x, z, h1, h2, h3, h4, h5⟩ := y
  exact ⟨T, x, z, h1, h2, h3, h4 vs q.1, h5 ws q.2⟩
theorem it_zT (h1 : SqT L.K H a vs) (h2 : SqT L.K H b ws) (hb : BrA L.K H vs ds) (hc : BrA L.K H ws es) : ItD L (ItzT L.K a b) H (zipOf ds es) := by
  refine ⟨fun H1 => SqT L.K H1 a vs ∧ SqT L.K H1 b ws, _, ?_, ⟨h1, h2⟩, fun H1 H2 k q => ⟨sqT_keep k q.1, sqT_keep k q.2⟩, fun i H1 x H2 hi k q y => yp_zip hb hc k y⟩
  rw [zip_len hb hc]; exact walk_zT
theorem it_zF {o o2 : Obj} (h1 : H a = some (.frz o (.lst vs))) (h2 : H b = some (.frz o2 (.lst ws))) (hb : BrA L.K H vs ds) (hc : BrA L.K H ws es) : ItD L (Itz L.K a b) H (zipOf ds es) := by
  refine ⟨fun H1 => H1 a = some (.frz o (.lst vs)) ∧ H1 b = some (.frz o2 (.lst ws)), _, ?_, ⟨h1, h2⟩, fun H1 H2 k q => ⟨k _ _ q.1 trivial, k _ _ q.2 trivial⟩, fun i H1 x H2 hi k q y => yp_zip hb hc k y⟩
  rw [zip_len hb hc]
  exact (walk_zip (K := L.K) (a := a) (b := b) (xs := vs) (ys := ws) rfl).mono (fun H q => ⟨.inl (.inr ⟨o, q.1⟩), .inl (.inr ⟨o2, q.2⟩)⟩) fun i H x H' _ _ y => y
end
section
variable {X : Cx} {L : Lay} {e e2 : Expr} {t u : TEd} {p pos tpos : Pos} {elts : List Expr} {kk : Nat}
theorem di_zip (hK : L.K = X.K) (hg : Gl X "zip") (hm : X.mg "zip" = none) (h1 : PE X e (tE L t)) (h2 : PE X e2 (tE L u)) (n2 : starEach [e2] X.env = (false, eval e2 X.env) :: starEach [] X.env := by rfl)
    (hs : starEach [e, e2] X.env = (false, eval e X.env) :: starEach [e2] X.env := by rfl) (hpl : (backTo pos (starEach [e2] X.env)).any (·.1) = false := by rfl) :
    PI X (.Tuple elts kk tpos) (.Call (.Name "zip" p) [e, e2] [] pos) (tI L (dIZip t u)) :=
  (pi_zipA hg hm (pa_cons h1 (pa_cons h2 pa_nil n2) hs) hs hpl).less fun σ H R q => by
    obtain ⟨ρ, Q, r, q, fin⟩ := q
    refine ⟨ρ, _, r, q, fun v H1 s ρ1 go r1 hv q1 => ⟨ρ1, _, r1, q1, fun w H2 s2 ρ2 go2 r2 hw q2 => ?_⟩⟩
    obtain ⟨ds, es, hd, q3⟩ := q2
    rcases hd with ⟨rfl, rfl⟩ | ⟨rfl, rfl⟩
    · have hv : Br L.K H2 v (.list ds) := Br.keep (go2.keep r1) _ _ hv
      have hw : Br L.K H2 w (.list es) := hw
      cases hv with
      | lst a1 a2 a3 =>
        cases hw with
        | lst b1 b2 b3 =>
          have it := fin _ H2 _ ρ2 (go.tr go2) r2 q3 (it_zF a1 b1 a3 b3)
          rw [hK] at it
          exact ⟨_, _, _, _, rfl, .inl ⟨.inl (.inr ⟨_, a1⟩), .inl (.inr ⟨_, b1⟩), it⟩⟩
    · have hv : Br L.K H2 v (.tuple ds) := Br.keep (go2.keep r1) _ _ hv
      have hw : Br L.K H2 w (.tuple es) := hw
      cases hv with
      | tup a1 a3 =>
        cases hw with
        | tup b1 b3 =>
          have it := fin _ H2 _ ρ2 (go.tr go2) r2 q3 (it_zT a1 b1 a3 b3)
          rw [hK] at it a1 b1
          exact ⟨_, _, _, _, rfl, .inr ⟨a1, b1, it⟩⟩
end
end GB

namespace GB
open PySem PySem.Spec PyProof.Rows L2

/-! more steps from without -/
def zipK (s s2 : S) (k : List PyData → List PyData → Prop) : Prop := ∃ ds es, ((s = .d (.list ds) ∧ s2 = .d (.list es)) ∨ (s = .d (.tuple ds) ∧ s2 = .d (.tuple es))) ∧ k ds es
section
variable {ρ : En} {Q : S → En → Prop} {k : S → Prop} {t u : TEd} {tt tt1 : TTd} {g g1 : DTG} {ti1 : TId}
theorem zip_l {a b : List PyData} {k : List PyData → List PyData → Prop} : zipK (.d (.list a)) (.d (.list b)) k ↔ k a b := by
  constructor
  · intro ⟨_, _, e, h⟩
    rcases e with ⟨e1, e2⟩ | ⟨e1, e2⟩
    · cases e1; cases e2; exact h
    · cases e1
  · intro h; exact ⟨_, _, .inl ⟨rfl, rfl⟩, h⟩
theorem zip_t {a b : List PyData} {k : List PyData → List PyData → Prop} : zipK (.d (.tuple a)) (.d (.tuple b)) k ↔ k a b := by
  constructor
  · intro ⟨_, _, e, h⟩
    rcases e with ⟨e1, e2⟩ | ⟨e1, e2⟩
    · cases e1
    · cases e1; cases e2; exact h
  · intro h; exact ⟨_, _, .inr ⟨rfl, rfl⟩, h⟩
theorem e_izip {QI : List PyData → En → Prop} : dIZip t u ρ QI ↔ t ρ fun s ρ1 => u ρ1 fun s2 ρ2 => zipK s s2 fun ds es => QI (zipOf ds es) ρ2 := Iff.rfl
theorem zip_cons {d e : PyData} {ds es : List PyData} : zipOf (d :: ds) (e :: es) = .tuple [d, e] :: zipOf ds es := rfl
theorem zip_nil1 {es : List PyData} : zipOf [] es = [] := rfl
theorem zip_nil2 {ds : List PyData} : zipOf ds [] = [] := by simp [zipOf]
theorem ints_inj : ∀ {a b : List Int}, a.map PyData.int = b.map PyData.int → a = b
  | [], [], _ => rfl
  | [], _ :: _, h => by cases h
  | _ :: _, [], h => by cases h
  | x :: a, y :: b, h => by
    simp only [List.map_cons, List.cons.injEq, PyData.int.injEq] at h
    rw [h.1, ints_inj h.2]
theorem f_sorted {ns : List Int} : fSorted [.list (ns.map .int)] k ↔ ∀ ns' : List Int, ns'.Perm ns → ns'.Pairwise (· ≤ ·) → k (.own (ns'.map .int)) := by
  constructor
  · intro ⟨ms, e, h⟩
    simp only [List.cons.injEq, PyData.list.injEq, and_true] at e
    rw [ints_inj e]; exact h
  · intro h; exact ⟨ns, rfl, h⟩
theorem e_lcn {vs : List Nat} {R : List PyData → Prop} {acc : List PyData} : dLcGo vs g tt t ρ R [] acc ↔ R acc := Iff.rfl
theorem e_lcc {vs : List Nat} {R : List PyData → Prop} {acc ds : List PyData} {d : PyData} : dLcGo vs g tt t ρ R (d :: ds) acc ↔ g d ρ fun ρ2 => wipeD ρ2 vs = ρ ∧ tt ρ2 fun b ρ3 => ρ3 = ρ2 ∧ iteK b (t ρ2 fun s ρ4 => ρ4 = ρ2 ∧ oneK s fun y => dLcGo vs g tt t ρ R ds (acc ++ [y])) (dLcGo vs g tt t ρ R ds acc) := Iff.rfl
theorem e_inn {vs : List Nat} {R : List PyData → Prop} {acc : List PyData} : dInGo vs g tt t ρ R [] acc ↔ R acc := Iff.rfl
theorem e_inc {vs : List Nat} {R : List PyData → Prop} {acc ds : List PyData} {d : PyData} : dInGo vs g tt t ρ R (d :: ds) acc ↔ g d ρ fun ρ2 => wipeD ρ2 vs = ρ ∧ tt ρ2 fun b ρ3 => ρ3 = ρ2 ∧ iteK b (t ρ2 fun s ρ4 => ρ4 = ρ2 ∧ oneK s fun y => acc.length < sizeLine ∧ dInGo vs g tt t ρ R ds (acc ++ [y])) (dInGo vs g tt t ρ R ds acc) := by
  have e : ∀ (s : S), (∃ y, s = .d y ∧ acc.length < sizeLine ∧ dInGo vs g tt t ρ R ds (acc ++ [y])) ↔ (oneK s fun y => acc.length < sizeLine ∧ dInGo vs g tt t ρ R ds (acc ++ [y])) := fun s => Iff.rfl
  exact Iff.rfl
theorem e_l2n {vs vs1 : List Nat} {R : List PyData → Prop} {acc : List PyData} : dLc2Go vs vs1 g tt ti1 g1 tt1 t ρ R [] acc ↔ R acc := Iff.rfl
theorem e_l2c {vs vs1 : List Nat} {R : List PyData → Prop} {acc ds : List PyData} {d : PyData} : dLc2Go vs vs1 g tt ti1 g1 tt1 t ρ R (d :: ds) acc ↔ g d ρ fun ρ2 => wipeD ρ2 vs = ρ ∧ tt ρ2 fun b ρ3 => ρ3 = ρ2 ∧
    iteK b (ti1 ρ2 fun ds1 ρ4 => ρ4 = ρ2 ∧ dInGo vs1 g1 tt1 t (wipeD ρ2 vs1) (fun acc => dLc2Go vs vs1 g tt ti1 g1 tt1 t ρ R ds acc) ds1 acc) (dLc2Go vs vs1 g tt ti1 g1 tt1 t ρ R ds acc) := Iff.rfl
theorem e_pop {i : Nat} : dPop i ρ Q ↔ (atK ρ i fun o => ownK o fun xs => ∃ x, xs[xs.length - 1]? = some x ∧ setK (Q (.d x)) ρ i (.own xs.dropLast)) := by
  constructor
  · intro ⟨xs, x, e, h1, h2⟩; exact ⟨.own xs, e, xs, rfl, x, h1, h2⟩
  · intro ⟨_, e, xs, z, x, h1, h2⟩; exact ⟨xs, x, z ▸ e, h1, h2⟩
theorem e_popAt {i : Nat} : dPopAt i t ρ Q ↔ (atK ρ i fun o => ownK o fun _ => t ρ fun s ρ1 => intK s fun j => atK ρ1 i fun o => ownK o fun xs => -(2 ^ 62) < j ∧ j < 2 ^ 62 ∧ ∃ n x, seqIndex? j xs.length = some n ∧ xs[n]? = some x ∧ setK (Q (.d x)) ρ1 i (.own (xs.eraseIdx n))) := by
  have e : ∀ (s : S) (ρ1 : En), (∃ j n x xs, s = .d (.int j) ∧ ρ1[i]? = some (.own xs) ∧ -(2 ^ 62) < j ∧ j < 2 ^ 62 ∧ seqIndex? j xs.length = some n ∧ xs[n]? = some x ∧ Q (.d x) (ρ1.set i (.own (xs.eraseIdx n)))) ↔
      (intK s fun j => atK ρ1 i fun o => ownK o fun xs => -(2 ^ 62) < j ∧ j < 2 ^ 62 ∧ ∃ n x, seqIndex? j xs.length = some n ∧ xs[n]? = some x ∧ setK (Q (.d x)) ρ1 i (.own (xs.eraseIdx n))) := fun s ρ1 =>
    ⟨fun ⟨j, n, x, xs, a, b, c, d, h1, h2, h3⟩ => ⟨j, a, .own xs, b, xs, rfl, c, d, n, x, h1, h2, h3⟩, fun ⟨j, a, _, b, xs, z, c, d, n, x, h1, h2, h3⟩ => ⟨j, n, x, xs, a, z ▸ b, c, d, h1, h2, h3⟩⟩
  unfold dPopAt
  simp only [e]
  exact ⟨fun ⟨⟨ys, a⟩, h⟩ => ⟨.own ys, a, ys, rfl, h⟩, fun ⟨_, a, ys, z, h⟩ => ⟨⟨ys, z ▸ a⟩, h⟩⟩
theorem e_extend {i : Nat} : dExtend i t ρ Q ↔ (atK ρ i fun o => ownK o fun _ => t ρ fun s ρ1 => oneK s fun z => ∃ zs, z = .list zs ∧ atK ρ1 i fun o => ownK o fun xs => xs.length + zs.length ≤ sizeLine ∧ setK (Q (.d .none)) ρ1 i (.own (xs ++ zs))) := by
  have e : ∀ (s : S) (ρ1 : En), (∃ zs xs, s = .d (.list zs) ∧ ρ1[i]? = some (.own xs) ∧ xs.length + zs.length ≤ sizeLine ∧ Q (.d .none) (ρ1.set i (.own (xs ++ zs)))) ↔
      (oneK s fun z => ∃ zs, z = .list zs ∧ atK ρ1 i fun o => ownK o fun xs => xs.length + zs.length ≤ sizeLine ∧ setK (Q (.d .none)) ρ1 i (.own (xs ++ zs))) := fun s ρ1 =>
    ⟨fun ⟨zs, xs, a, b, c, h⟩ => ⟨_, a, zs, rfl, .own xs, b, xs, rfl, c, h⟩, fun ⟨_, a, zs, y, _, b, xs, z, c, h⟩ => ⟨zs, xs, y ▸ a, z ▸ b, c, h⟩⟩
  unfold dExtend
  simp only [e]
  exact ⟨fun ⟨⟨ys, a⟩, h⟩ => ⟨.own ys, a, ys, rfl, h⟩, fun ⟨_, a, ys, z, h⟩ => ⟨⟨ys, z ▸ a⟩, h⟩⟩
end
end GB

namespace GB
open PySem PySem.Spec PyProof.Rows L2

/-! loops and comprehensions by what holds at their turns -/
section
variable {g : DTG} {b : TSd} {D : EndsD}
theorem loopI (I : List PyData → En → Prop) (hn : ∀ ρ, I [] ρ → D.nx ρ) (hc : ∀ d ds ρ (K : En → Prop), (∀ ρ', I ds ρ' → K ρ') → I (d :: ds) ρ → g d ρ fun ρ1 => b { nx := K, ct := K, bk := D.nx, rt := D.rt } ρ1) : ∀ ds ρ, I ds ρ → dLoop g b D ds ρ
  | [], ρ, h => hn ρ h
  | d :: ds, ρ, h => e_lcons.mpr (hc d ds ρ _ (fun ρ' h' => loopI I hn hc ds ρ' h') h)
theorem loopP (I : Int → List PyData → En → Prop) (hn : ∀ k ρ, I k [] ρ → D.nx ρ) (hc : ∀ k y ys ρ (K : En → Prop), (∀ ρ', I (k + 1) ys ρ' → K ρ') → I k (y :: ys) ρ → g (.tuple [.int k, y]) ρ fun ρ1 => b { nx := K, ct := K, bk := D.nx, rt := D.rt } ρ1) : ∀ ys k ρ, I k ys ρ → dLoop g b D (pairsFrom k ys) ρ
  | [], k, ρ, h => hn k ρ h
  | y :: ys, k, ρ, h => e_lcons.mpr (hc k y ys ρ _ (fun ρ' h' => loopP I hn hc ys (k + 1) ρ' h') h)
theorem loopR (I : Int → Nat → En → Prop) (hn : ∀ k ρ, I k 0 ρ → D.nx ρ) (hc : ∀ k n ρ (K : En → Prop), (∀ ρ', I (k + 1) n ρ' → K ρ') → I k (n + 1) ρ → g (.int k) ρ fun ρ1 => b { nx := K, ct := K, bk := D.nx, rt := D.rt } ρ1) : ∀ n k ρ, I k n ρ → dLoop g b D (irow k n) ρ
  | 0, k, ρ, h => hn k ρ h
  | n + 1, k, ρ, h => by
    rw [irow_succ]
    exact e_lcons.mpr (hc k n ρ _ (fun ρ' h' => loopR I hn hc n (k + 1) ρ' h') h)
variable {vs : List Nat} {tt : TTd} {te : TEd} {ρw : En} {R : List PyData → Prop}
theorem lcI (I : List PyData → List PyData → Prop) (hn : ∀ acc, I [] acc → R acc) (hc : ∀ d ds acc (K : List PyData → Prop), (∀ acc', I ds acc' → K acc') → I (d :: ds) acc → g d ρw fun ρ2 => wipeD ρ2 vs = ρw ∧ tt ρ2 fun b ρ3 => ρ3 = ρ2 ∧ iteK b (te ρ2 fun s ρ4 => ρ4 = ρ2 ∧ oneK s fun y => K (acc ++ [y])) (K acc)) :
    ∀ ds acc, I ds acc → dLcGo vs g tt te ρw R ds acc
  | [], acc, h => hn acc h
  | d :: ds, acc, h => e_lcc.mpr (hc d ds acc _ (fun acc' h' => lcI I hn hc ds acc' h') h)
theorem lcR (I : Int → Nat → List PyData → Prop) (hn : ∀ k acc, I k 0 acc → R acc) (hc : ∀ k n acc (K : List PyData → Prop), (∀ acc', I (k + 1) n acc' → K acc') → I k (n + 1) acc → g (.int k) ρw fun ρ2 => wipeD ρ2 vs = ρw ∧ tt ρ2 fun b ρ3 => ρ3 = ρ2 ∧ iteK b (te ρ2 fun s ρ4 => ρ4 = ρ2 ∧ oneK s fun y => K (acc ++ [y])) (K acc)) :
    ∀ n k acc, I k n acc → dLcGo vs g tt te ρw R (irow k n) acc
  | 0, k, acc, h => hn k acc h
  | n + 1, k, acc, h => by
    rw [irow_succ]
    exact e_lcc.mpr (hc k n acc _ (fun acc' h' => lcR I hn hc n (k + 1) acc' h') h)
end
end GB

namespace GB
open PySem PySem.Spec PyProof.Rows L2

/-! comprehensions of three clauses: one turn of one clause -/
abbrev noE : Value → Shared → Prop := fun _ _ => False
def tests (fs : List Expr) (en : Env) : Sem Bool := forIn fs true fun cc z => if z = true then do let y ← isTrue cc en (eval cc en); pure (ForInStep.yield y) else pure (ForInStep.yield z)
def midRun (t i' : Expr) (p : Pos) (fs : List Expr) (it : Value) (en : Env) (nxt : Value → Code) (more : Code) : Sem Fin := do
  standAt p
  match ← pyNext it with
  | none => pure (.done .next)
  | some v =>
    letOwnedTupleGo t it v
    assign t en v
    let mut good := true
    for cc in fs do
      if good then good ← isTrue cc en (eval cc en)
    if good then
      let y ← eval i' en
      standAt i'.pos
      let y ← foldedSetIterable i' en y
      let _ ← runOwn (nxt (← holding [y] (pyIter y))) en
    again more
def inRun (t el : Expr) (p : Pos) (fs : List Expr) (it li : Value) (en : Env) (more : Code) : Sem Fin := do
  standAt p
  match ← pyNext it with
  | none => pure (.done .next)
  | some v =>
    letOwnedTupleGo t it v
    assign t en v
    let mut good := true
    for cc in fs do
      if good then good ← isTrue cc en (eval cc en)
    if good then
      (do let _ ← call (.builtin "list.append") [li, ← eval el en])
    again more
section
variable (el t0 i0 t1 i1 t2 i2 : Expr) (f0 f1 f2 : List Expr) (sc : Scope) (p : Pos) (it li : Value) (en : Env)
theorem turn3_0 : compTurn (.ListComp el [⟨t0, i0, f0, 0⟩, ⟨t1, i1, f1, 0⟩, ⟨t2, i2, f2, 0⟩] sc p) 0 it li en = midRun t0 i1 i0.pos f0 it en (fun v => .compStart (.ListComp el [⟨t0, i0, f0, 0⟩, ⟨t1, i1, f1, 0⟩, ⟨t2, i2, f2, 0⟩] sc p) 1 v li en) (.compLoop (.ListComp el [⟨t0, i0, f0, 0⟩, ⟨t1, i1, f1, 0⟩, ⟨t2, i2, f2, 0⟩] sc p) 0 it li en) := by rfl
theorem turn3_1 : compTurn (.ListComp el [⟨t0, i0, f0, 0⟩, ⟨t1, i1, f1, 0⟩, ⟨t2, i2, f2, 0⟩] sc p) 1 it li en = midRun t1 i2 i1.pos f1 it en (fun v => .compStart (.ListComp el [⟨t0, i0, f0, 0⟩, ⟨t1, i1, f1, 0⟩, ⟨t2, i2, f2, 0⟩] sc p) 2 v li en) (.compLoop (.ListComp el [⟨t0, i0, f0, 0⟩, ⟨t1, i1, f1, 0⟩, ⟨t2, i2, f2, 0⟩] sc p) 1 it li en) := by rfl
theorem turn3_2 : compTurn (.ListComp el [⟨t0, i0, f0, 0⟩, ⟨t1, i1, f1, 0⟩, ⟨t2, i2, f2, 0⟩] sc p) 2 it li en = inRun t2 el i2.pos f2 it li en (.compLoop (.ListComp el [⟨t0, i0, f0, 0⟩, ⟨t1, i1, f1, 0⟩, ⟨t2, i2, f2, 0⟩] sc p) 2 it li en) := by rfl
end
section
variable (prog : Program) (w : World) (A : Around)
/-- the source is asked, what comes is stored and tested; body is what a good one leads to -/
def Turn1 (t : Expr) (fs : List Expr) (it : Value) (en : Env) (body : (Shared → Prop) → Shared → Prop) (done back : Shared → Prop) (s : Shared) : Prop :=
  wpAny (model prog w) A (pyNext it) (fun r s1 => match r with
    | none => done s1
    | some v => wpAny (model prog w) A (letOwnedTupleGo t it v) (fun _ s2 => wpAny (model prog w) A (assign t en v) (fun _ s3 => wpAny (model prog w) A (tests fs en) (fun z s4 => if z = true then body back s4 else back s4) noE s3) noE s2) noE s1) noE s
def bodyMid (i' : Expr) (en : Env) (nxt : Value → Code) : (Shared → Prop) → Shared → Prop := fun back s =>
  wpAny (model prog w) A (eval i' en) (fun x s1 => wpAny (model prog w) A (pyIter x) (fun it1 s2 => codeAny (model prog w) A (nxt it1) (fun r s' => match r with
    | .ok _ => back s'
    | .error _ => False) s2) noE s1) noE s
def bodyIn (el : Expr) (en : Env) (li : Value) : (Shared → Prop) → Shared → Prop := fun back s =>
  wpAny (model prog w) A (eval el en) (fun x s1 => wpAny (model prog w) A (call (.builtin "list.append") [li, x]) (fun _ s2 => back s2) noE s1) noE s
/-- a clause's loop, by an invariant -/
def LoopOk (e : Expr) (k : Nat) (li : Value) (t : Expr) (fs : List Expr) (en : Env) (body : (Shared → Prop) → Shared → Prop) : Prop :=
  ∀ (it : Value) (R : Result → Shared → Prop) (I : Nat → Shared → Prop), (∀ n s, I n s → Turn1 prog w A t fs it en body (R (.ok .next)) (fun s' => ∃ m, m < n ∧ I m s') s) → ∀ n s, I n s → codeAny (model prog w) A (.compLoop e k it li en) R s
def StartOk (e : Expr) (k : Nat) (li : Value) (en : Env) : Prop :=
  ∀ (it : Value) (R : Result → Shared → Prop) (s : Shared), codeAny (model prog w) A (.compLoop e k it li en) R s → wpAny (model prog w) A (pyIter it) (fun it' s' => codeAny (model prog w) A (.compLoop e k it' li en) R s') noE s → codeAny (model prog w) A (.compStart e k it li en) R s
end
section
variable {prog : Program} {w : World} {A : Around}
theorem wk {α : Type} {m : Sem α} {Q Q' : α → Shared → Prop} {E : Value → Shared → Prop} {s : Shared} (h : wpAny (model prog w) A m Q noE s) (q : ∀ a s', Q a s' → Q' a s') : wpAny (model prog w) A m Q' E s := wpAny_mono h q fun _ _ z => z.elim
theorem mid_loop {el t i' : Expr} {cs : List Comprehension} {sc : Scope} {pp : Pos} {k : Nat} {p : Pos} {fs : List Expr} {li : Value} {en : Env} {nxt : Value → Code} (hE : ∀ it, compTurn (.ListComp el cs sc pp) k it li en = midRun t i' p fs it en nxt (.compLoop (.ListComp el cs sc pp) k it li en)) (hs : ∀ x, foldedSetIterable i' en x = pure x) : LoopOk prog w A (.ListComp el cs sc pp) k li t fs en (bodyMid prog w A i' en nxt) := by
  intro it R I turn n s h
  refine codeAny_loop rfl I (fun n s hI => ?_) n h
  show wpAny (model prog w) A ((compTurn (.ListComp el cs sc pp) k it li en).onRaise fun x => do noteFrame x en; theTreesLotGoes x) _ _ s
  refine wpAny_noted ?_
  rw [hE it]
  unfold midRun
  refine wpAny_bind (wpAny_standAt (wpAny_bind (wk (turn n s hI) fun r s1 h1 => ?_)))
  cases r with
  | none => exact wpAny_pure h1
  | some v =>
    refine wpAny_bind (wk h1 fun _ s2 h2 => wpAny_bind (wk h2 fun _ s3 h3 => wpAny_bind (wk h3 fun z s4 h4 => ?_)))
    cases z with
    | false => exact wpAny_pure ⟨rfl, h4⟩
    | true =>
      refine wpAny_bind (wk h4 fun x s5 h5 => wpAny_bind (wpAny_standAt (wpAny_bind (wpAny_of_eq (hs x) (wpAny_bind (wpAny_holding (wk h5 fun it1 s6 h6 => ?_)))))))
      refine wpAny_bind (wpAny_runOwn ?_)
      rw [Around.mark_none]
      refine codeAny_mono h6 fun r s' hr => ?_
      cases r with
      | ok f => first | exact wpAny_pure ⟨rfl, hr⟩ | exact wpAny_bind (wpAny_pure (wpAny_pure ⟨rfl, hr⟩))
      | error x => exact hr.elim
theorem in_loop {el t : Expr} {cs : List Comprehension} {sc : Scope} {pp : Pos} {k : Nat} {p : Pos} {fs : List Expr} {li : Value} {en : Env} (hE : ∀ it, compTurn (.ListComp el cs sc pp) k it li en = inRun t el p fs it li en (.compLoop (.ListComp el cs sc pp) k it li en)) : LoopOk prog w A (.ListComp el cs sc pp) k li t fs en (bodyIn prog w A el en li) := by
  intro it R I turn n s h
  refine codeAny_loop rfl I (fun n s hI => ?_) n h
  show wpAny (model prog w) A ((compTurn (.ListComp el cs sc pp) k it li en).onRaise fun x => do noteFrame x en; theTreesLotGoes x) _ _ s
  refine wpAny_noted ?_
  rw [hE it]
  unfold inRun
  refine wpAny_bind (wpAny_standAt (wpAny_bind (wk (turn n s hI) fun r s1 h1 => ?_)))
  cases r with
  | none => exact wpAny_pure h1
  | some v =>
    refine wpAny_bind (wk h1 fun _ s2 h2 => wpAny_bind (wk h2 fun _ s3 h3 => wpAny_bind (wk h3 fun z s4 h4 => ?_)))
    cases z with
    | false => exact wpAny_pure ⟨rfl, h4⟩
    | true => exact wpAny_bind (wpAny_bind (wk h4 fun x s5 h5 => wpAny_bind (wk h5 fun _ s6 h6 => wpAny_pure (wpAny_pure ⟨rfl, h6⟩))))
theorem start_any {el : Expr} {cs : List Comprehension} {sc : Scope} {pp : Pos} {k : Nat} {li : Value} {en : Env} {c : Comprehension} (hc : cs[k]? = some c) (ha : (c.is_async != 0) = false) : StartOk prog w A (.ListComp el cs sc pp) k li en := by
  intro it R s h0 h
  refine codeAny_of_tree (show wpAny _ _ ((compStart (.ListComp el cs sc pp) k it li en).onRaise fun x => do noteFrame x en; standAt theWindowsPlace) _ _ s from wpAny_notedAt ?_)
  unfold compStart
  show wpAny _ _ (if (cs[k]?).elim false (·.is_async != 0) = true then _ else _) _ _ s
  rw [hc]
  have e : ((some c).elim false fun x => x.is_async != 0) = false := ha
  rw [if_neg (by rw [e]; decide)]
  refine wpAny_bind (wpAny_askSetting (wpAny_ite ?_)) (A := A)
  split
  · first | exact wpAny_pure ⟨rfl, h0⟩ | exact wpAny_bind (wpAny_pure (wpAny_pure ⟨rfl, h0⟩))
  · refine wpAny_bind (wpAny_rule ?_)
    have e2 : (clausesOf (el.ListComp cs sc pp))[k]? = some c := hc
    rw [e2]
    exact wpAny_bind (wpAny_standAt (wpAny_bind (wk h fun it' s' h' => wpAny_pure ⟨rfl, h'⟩)))
end
end GB

namespace GB
open PySem PySem.Spec PyProof.Rows L2

/-! comprehensions of three clauses: the levels -/
def Kn (σ' σ : L2.St) : Prop := σ'.length = σ.length ∧ ∀ (i : Nat) (v : V), σ'[i]? = some (some v) → σ[i]? = some (some v)
theorem kn_wipe {σ : L2.St} {vs : List Nat} : Kn (wipe σ vs) σ := ⟨wipe_length σ vs, fun i v e => (wipe_some e).1⟩
theorem kn_in {σ : L2.St} {vs vb : List Nat} (hv : ∀ i ∈ vb, i ∈ vs) : Kn (wipe σ vs) (wipe σ vb) :=
  ⟨by rw [wipe_length, wipe_length], fun i v e => by
    obtain ⟨e1, e2⟩ := wipe_some e
    rw [GB.wipe_out σ vb i fun z => e2 (hv i z)]; exact e1⟩
theorem Kn.tr {a b c : L2.St} (h : Kn a b) (k : Kn b c) : Kn a c := ⟨h.1.trans k.1, fun i v e => k.2 i v (h.2 i v e)⟩
abbrev TB := L2.St → Hp → (Hp → Prop) → Prop
def BodyOk (Y : Cx) (vb : List Nat) (tb : TB) (body : (Shared → Prop) → Shared → Prop) : Prop :=
  ∀ (pins : List (Addr × Obj)) (σ : L2.St) (H : Hp) (s : Shared) (Nx : Hp → Prop) (Φ : Shared → Prop), L2.Inv Y pins σ H s → tb σ H Nx → (∀ σ' H' s', L2.Inv Y pins σ' H' s' → Kn (wipe σ vb) σ' → Nx H' → Φ s') → body Φ s
def tWalk (J : It) (g : TG) (tt : TT) (tb : TB) (vs : List Nat) (σw : L2.St) (W : Nat → Nat → Hp → Prop) (Stop : Hp → Prop) : Prop :=
  ∀ i m H, W i m H → (J.stop i H ∧ Stop H) ∨ (J.go i H ∧ ∃ Nx : Hp → Prop, (∀ H', Nx H' → ∃ m', m' < m ∧ W (i + 1) m' H') ∧ ∀ x H', J.yld i H x H' → g x σw H' fun σ2 H2 => wipe σ2 vs = σw ∧ tt σ2 H2 fun b H3 => if b = true then tb σ2 H3 Nx else Nx H3)
def tMid (wi : TI) (g : TG) (tt : TT) (tb : TB) (vs : List Nat) : TB := fun σ H Nx => wi σ H fun J H1 => ∃ W : Nat → Nat → Hp → Prop, (∃ m, W 0 m H1) ∧ tWalk J g tt tb vs (wipe σ vs) W Nx
def tIn (te : TE) (D : Addr) : TB := fun σ H Nx => te σ H fun y H' => ∃ acc, H' D = some (.lst acc) ∧ acc.length < sizeLine ∧ Nx (upd H' D (.lst (acc ++ [y])))
def tLc3 (wi : TI) (g : TG) (tt : TT) (wi1 : TI) (g1 : TG) (tt1 : TT) (wi2 : TI) (g2 : TG) (tt2 : TT) (te : TE) (vs vs1 vs2 : List Nat) : TE := fun σ H Q => wi σ H fun J H1 => ∀ D, H1 D = none →
  ∃ W : Nat → Nat → Hp → Prop, (∃ m, W 0 m (upd H1 D (.lst []))) ∧ tWalk J g tt (tMid wi1 g1 tt1 (tMid wi2 g2 tt2 (tIn te D) vs2) vs1) vs (wipe σ vs) W (Q (.ref D))
section
variable {Y : Cx} {pins : List (Addr × Obj)} {t : Expr} {fs : List Expr} {g : TG} {tt : TT} {tb : TB} {vs vb : List Nat} {body : (Shared → Prop) → Shared → Prop}
theorem turn_done {prog : Program} {w : World} {A : Around} {it : Value} {en : Env} {d d' b : Shared → Prop} {s : Shared} (h : Turn1 prog w A t fs it en body d b s) (q : ∀ s, d s → d' s) : Turn1 prog w A t fs it en body d' b s := by
  refine wk h fun r s1 h1 => ?_
  cases r with
  | none => exact q _ h1
  | some v => exact h1
theorem level (hc : Y.calm = true) (hx : Y.xe = noE) {σw : L2.St} {J : It} {fp : List Addr} {it : Addr} {tn : Nat → Heap → Prop} {W : Nat → Nat → Hp → Prop} {Stop : Hp → Prop}
    (T : Turn Y.prog Y.w Y.K t J fp it tn) (pg : PG Y t g) (pt : PTs Y fs tt) (hb : BodyOk Y vb tb body) (hv : ∀ i ∈ vb, i ∈ vs)
    (stat : ∀ {σ' : L2.St} {H' : Hp} {s' : Shared}, L2.Inv Y pins σ' H' s' → (∀ b ∈ fp, H' b = none) → ∀ b ∈ fp, FpOk Y pins H' b) (wl : tWalk J g tt tb vs σw W Stop) (n : Nat) (s : Shared)
    (h : ∃ i H, L2.Inv Y pins σw H s ∧ tn i s.heap ∧ (∀ b ∈ fp, H b = none) ∧ W i n H) :
    Turn1 Y.prog Y.w Y.A t fs (.ref it) Y.env body (fun s' => ∃ H', L2.Inv Y pins σw H' s' ∧ Stop H') (fun s' => ∃ m, m < n ∧ ∃ i H, L2.Inv Y pins σw H s' ∧ tn i s'.heap ∧ (∀ b ∈ fp, H b = none) ∧ W i m H) s := by
  obtain ⟨i, H, I, st, nf, w0⟩ := h
  rcases wl i n H w0 with ⟨stop, qq⟩ | ⟨go, Nx, hN, step⟩
  · refine wk (T.done Y rfl rfl rfl hc i pins s σw H noE I (stat I nf) st stop) fun r s' hr => ?_
    obtain ⟨hr, I'⟩ := hr
    cases hr
    exact ⟨H, I', qq⟩
  · refine wk (T.item Y rfl rfl rfl hc i pins s σw H noE I (stat I nf) st go) fun r s1 h1 => ?_
    obtain ⟨u, hr, h1⟩ := h1
    cases hr
    refine wk h1 fun _ s2 h2 => ?_
    obtain ⟨x, H2, I2, r2, y2, st2, n2⟩ := h2
    have e1 := pg.run _ s2 _ H2 x u _ (I2.pinned (stat I2 n2) (T.obj _ _ st2)) r2 (step x H2 y2)
    rw [hx] at e1
    refine wk e1 fun _ s3 h3 => ?_
    obtain ⟨σ3, H3, I3, hw3, q3⟩ := h3
    have e2 := pt.run _ s3 σ3 H3 _ I3 q3
    rw [hx] at e2
    refine wk e2 fun b s4 h4 => ?_
    obtain ⟨H4, I4, q4⟩ := h4
    have fin : ∀ {σ' : L2.St} {H' : Hp} {s' : Shared}, L2.Inv Y (pins ++ pinsAt fp s2.heap) σ' H' s' → Kn σw σ' → Nx H' → ∃ m, m < n ∧ ∃ i H, L2.Inv Y pins σw H s' ∧ tn i s'.heap ∧ (∀ b ∈ fp, H b = none) ∧ W i m H := fun {σ' H' s'} I' kn nx => by
      obtain ⟨m', hm, w'⟩ := hN H' nx
      have held : ∀ b ∈ fp, ∀ o, s2.heap.get? b = some o → s'.heap.get? b = some o ∧ H' b = none := fun b hb o e => by
        have z := I'.pin (b, o) (List.mem_append_right _ (List.mem_append_right _ (mem_pinsAt hb e)))
        exact ⟨z.1, z.2.1⟩
      refine ⟨m', hm, i + 1, H', I'.unpinned.weak kn.1 kn.2, T.keep _ _ _ st2 fun b hb o e => (held b hb o e).1, fun b hb => ?_, w'⟩
      obtain ⟨o, e, _⟩ := T.obj _ _ st2 b hb
      exact (held b hb o e).2
    cases b with
    | false => exact fin I4 (hw3 ▸ kn_wipe) (by simpa using q4)
    | true => exact hb _ _ _ _ Nx _ I4 (by simpa using q4) fun σ' H' s' I' kn nx => fin I' (Kn.tr (hw3 ▸ kn_in hv) kn) nx
theorem body_in {el : Expr} {te : TE} {D : Addr} (hx : Y.xe = noE) (pe : PE Y el te) : BodyOk Y [] (tIn te D) (bodyIn Y.prog Y.w Y.A el Y.env (.ref D)) := by
  intro pins σ H s Nx Φ I h k
  have e := pe.run pins s σ H _ I h
  rw [hx] at e
  refine wk e fun z s1 h1 => ?_
  obtain ⟨y, H1, I1, r1, acc, hD, hz, nx⟩ := h1
  exact app_ok I1 hD hz r1 fun s2 I2 => k σ _ s2 I2 ⟨rfl, fun _ _ e => e⟩ nx
theorem body_mid {e i' : Expr} {k : Nat} {li : Value} {wi : TI} (hc : Y.calm = true) (hx : Y.xe = noE) (pi : PI Y t i' wi) (hl : LoopOk Y.prog Y.w Y.A e k li t fs Y.env body) (hst : StartOk Y.prog Y.w Y.A e k li Y.env)
    (pg : PG Y t g) (pt : PTs Y fs tt) (hb : BodyOk Y vb tb body) (hv : ∀ i ∈ vb, i ∈ vs) : BodyOk Y vs (tMid wi g tt tb vs) (bodyMid Y.prog Y.w Y.A i' Y.env fun v => .compStart e k v li Y.env) := by
  intro pins σ H s Nx Φ I h kk
  have e0 := pi.run pins s σ H _ I h
  simp only [hx] at e0
  refine wk e0 fun xv s1 h1 => wk h1 fun itv s2 h2 => ?_
  obtain ⟨it, fp, tn, J, H2, ei, I2, T, st2, f2, W, ⟨m0, w0⟩, wl⟩ := h2
  subst ei
  have loop : codeAny (model Y.prog Y.w) Y.A (.compLoop e k (.ref it) li Y.env) (fun r s' => match r with
      | .ok _ => Φ s'
      | .error _ => False) s2 := hl (.ref it) _ (fun n s' => ∃ i H', L2.Inv Y pins (wipe σ vs) H' s' ∧ tn i s'.heap ∧ (∀ b ∈ fp, H' b = none) ∧ W i n H')
    (fun n s' hI => turn_done (level hc hx T pg pt hb hv (fun I' nf b hb => ⟨nf b hb, (f2 b hb).2⟩) wl n s' hI) fun s'' hd => by
      obtain ⟨H', I', nx⟩ := hd
      exact kk _ _ _ I' ⟨rfl, fun _ _ e => e⟩ nx) m0 s2 ⟨0, H2, I2.weak kn_wipe.1 kn_wipe.2, st2, fun b hb => (f2 b hb).1, w0⟩
  exact hst (.ref it) _ s2 loop (T.self Y.A 0 _ _ _ st2 loop)
end
end GB

namespace GB
open PySem PySem.Spec PyProof.Rows L2

/-! comprehensions of three clauses: the block -/
/-- of every context of the block -/
def OfBlk (X : Cx) (scope : Scope) (F : Cx → Prop) : Prop := ∀ (s : Shared) (H : Hp) (C : Addr) (cl : List (Str × Addr)) (fp : List Addr), F (X.blk s H scope (compEnvC scope cl C X.env) fp)
section
variable {X : Cx} {el tg it0 tg1 it1 tg2 it2 : Expr} {f0 f1 f2 : List Expr} {scope : Scope} {own : List (Str × Nat)} {vs1 vs2 : List Nat} {pos : Pos} {wi wi1 wi2 : TI} {g g1 g2 : TG} {tt tt1 tt2 : TT} {te : TE}
set_option maxHeartbeats 4000000 in
theorem lc3_core {pins : List (Addr × Obj)} {s : Shared} {σ : L2.St} {H : Hp} {Q : VK} {pos' : Pos} {use : Option (Value → Sem Unit)} {Qf : Value → Shared → Prop} (cal : X.calm = true) (nd : X.N.Nodup) (I : L2.Inv X pins σ H s) (src : PI X tg it0 wi) (ok : BlkOk X.N X.env.scope scope own)
    (v1 : ∀ i ∈ vs1, i ∈ own.map (·.2)) (v2 : ∀ i ∈ vs2, i ∈ vs1) (b0 : OfBlk X scope fun Y => PG Y tg g) (c0 : OfBlk X scope fun Y => PTs Y f0 tt) (a1 : OfBlk X scope fun Y => PI Y tg1 it1 wi1) (b1 : OfBlk X scope fun Y => PG Y tg1 g1) (c1 : OfBlk X scope fun Y => PTs Y f1 tt1)
    (a2 : OfBlk X scope fun Y => PI Y tg2 it2 wi2) (b2 : OfBlk X scope fun Y => PG Y tg2 g2) (c2 : OfBlk X scope fun Y => PTs Y f2 tt2) (lst : OfBlk X scope fun Y => PE Y el te)
    (n0 : ∀ x, foldedSetIterable it0 X.env x = pure x) (n1 : ∀ env x, foldedSetIterable it1 env x = pure x) (n2 : ∀ env x, foldedSetIterable it2 env x = pure x)
    (h : tLc3 wi g tt wi1 g1 tt1 wi2 g2 tt2 te (own.map (·.2)) vs1 vs2 σ H Q)
    (out : ∀ D C s' m H', L2.Inv X pins σ H' s' → Q (.ref D) H' → s'.heap.Ns C m → FpOk X pins H' C → compPost (model X.prog X.w) X.A X.xe use Qf (.ref D) C (.ok .next) s') :
    wpAny (model X.prog X.w) X.A (comprehension (.ListComp el [⟨tg, it0, f0, 0⟩, ⟨tg1, it1, f1, 0⟩, ⟨tg2, it2, f2, 0⟩] scope pos) scope X.env pos' (newList []) false (eval it0 X.env) use) Qf X.xe s := by
  have fr : ∀ y ∈ scope.names, y.2 = .free → ∃ c, X.env.cells.lookup y.1 = some c := fun y hy e => (ok.free y hy e).elim (fun k => I.ok.has _ (.inl k)) fun k => I.ok.has _ (.inr k)
  refine wpAny_comprehension_free (use := use) rfl n0 (closure_ok fr) ok.kind (fun y hy e => by rw [ok.uniq y hy, e]) (thn (src.run pins s σ H _ I h) fun xv s1 hx => thn hx fun itv s2 h2 => ?_)
  obtain ⟨it, fp, tn, J, H2, ei, I2, T, st2, fp2, q⟩ := h2
  subst ei
  refine wpAny_newObj_type (newEnv_comp ?_) (by show 0 ≤ sizeLine; decide)
  generalize eD : s2.heap.objs.size = D0
  have un : H2 D0 = none := I2.hok.fresh (Nat.le_of_eq eD)
  obtain ⟨W, ⟨m0, w0⟩, wl⟩ := q D0 un
  generalize e3 : ({ s2 with heap := s2.heap.push { cls := .type "list", data := .seq ([] : List Value).toArray } } : Shared) = s3
  have I3 : L2.Inv X pins σ (upd H2 D0 (.lst [])) s3 := by
    rw [← e3]
    refine I2.laid (t' := s2.toks) (fun b o e => Heap.get?_push_of_some _ e) (Nat.le_of_eq eD) ⟨Nat.zero_le _, [], 0, .nil, by rw [← eD]; exact Heap.get?_push_size _ rfl⟩
  have hp3 : s3.heap = s2.heap.push { cls := .type "list", data := .seq ([] : List Value).toArray } := by rw [← e3]
  have old : ∀ b ∈ fp, b < s2.heap.objs.size := fun b hb => by
    obtain ⟨o, e, _⟩ := T.obj _ _ st2 b hb
    exact Heap.lt_size e
  have fp3 : ∀ b ∈ fp, FpOk X pins (upd H2 D0 (.lst [])) b ∧ b < s3.heap.objs.size := fun b hb => by
    have lt := old b hb
    refine ⟨⟨?_, (fp2 b hb).2⟩, by rw [hp3, Heap.size_push]; exact Nat.lt_succ_of_lt lt⟩
    rw [upd_ne (by rw [← eD]; exact Nat.ne_of_lt lt)]; exact (fp2 b hb).1
  have st3 : tn 0 s3.heap := T.keep _ _ _ st2 fun b _ o e => by rw [hp3]; exact Heap.get?_push_of_some _ e
  have I4 := block_start I3 ok nd fp3
  generalize eH : upd H2 D0 (.lst []) = H3 at I3 I4 w0 fp3
  have k0 := b0 s3 H3 s3.heap.objs.size (cellsFrom (s3.heap.objs.size + 1) scope.names (cloFrom X.env.cells scope.names [])) fp
  have k1 := c0 s3 H3 s3.heap.objs.size (cellsFrom (s3.heap.objs.size + 1) scope.names (cloFrom X.env.cells scope.names [])) fp
  have k2 := a1 s3 H3 s3.heap.objs.size (cellsFrom (s3.heap.objs.size + 1) scope.names (cloFrom X.env.cells scope.names [])) fp
  have k3 := b1 s3 H3 s3.heap.objs.size (cellsFrom (s3.heap.objs.size + 1) scope.names (cloFrom X.env.cells scope.names [])) fp
  have k4 := c1 s3 H3 s3.heap.objs.size (cellsFrom (s3.heap.objs.size + 1) scope.names (cloFrom X.env.cells scope.names [])) fp
  have k5 := a2 s3 H3 s3.heap.objs.size (cellsFrom (s3.heap.objs.size + 1) scope.names (cloFrom X.env.cells scope.names [])) fp
  have k6 := b2 s3 H3 s3.heap.objs.size (cellsFrom (s3.heap.objs.size + 1) scope.names (cloFrom X.env.cells scope.names [])) fp
  have k7 := c2 s3 H3 s3.heap.objs.size (cellsFrom (s3.heap.objs.size + 1) scope.names (cloFrom X.env.cells scope.names [])) fp
  have k8 := lst s3 H3 s3.heap.objs.size (cellsFrom (s3.heap.objs.size + 1) scope.names (cloFrom X.env.cells scope.names [])) fp
  show codeAny _ _ (.compStart (.ListComp el [⟨tg, it0, f0, 0⟩, ⟨tg1, it1, f1, 0⟩, ⟨tg2, it2, f2, 0⟩] scope pos) 0 (.ref it) (.ref D0) (compEnvC scope (cellsFrom (s3.heap.objs.size + 1) scope.names (cloFrom X.env.cells scope.names [])) s3.heap.objs.size X.env)) (compPost (model X.prog X.w) X.A X.xe use Qf (.ref D0) s3.heap.objs.size) _
  generalize ec : compEnvC scope (cellsFrom (s3.heap.objs.size + 1) scope.names (cloFrom X.env.cells scope.names [])) s3.heap.objs.size X.env = ce at I4 k0 k1 k2 k3 k4 k5 k6 k7 k8 ⊢
  have cl : ce.locals = s3.heap.objs.size := by subst ec; rfl
  generalize e4 : ({ s3 with heap := pushCells (s3.heap.push { cls := .type "dict", data := .dict #[] }) scope.names } : Shared) = s4 at I4 ⊢
  have st4 : tn 0 s4.heap := T.keep _ _ _ st3 fun b _ o e => by rw [← e4]; exact pushCells_keeps _ _ _ _ (Heap.get?_push_of_some _ e)
  have nfp : ∀ b ∈ fp, H3 b = none := fun b hb => (fp3 b hb).1.1
  let Y : Cx := X.blk s3 H3 scope ce fp
  have stat : ∀ {σ' : L2.St} {H' : Hp} {s' : Shared}, L2.Inv Y [] σ' H' s' → (∀ b ∈ fp, H' b = none) → ∀ b ∈ fp, FpOk Y [] H' b := fun {σ' H' s'} I' hn b hb =>
    ⟨hn b hb, (I'.ok.exf b hb).1, I'.ok.exfs b hb, .inl hb, fun x c e => (I'.ok.exf b hb).2 x c e, fun p hp => absurd (show p ∈ ([] : List (Addr × Obj)) ++ [] from hp) (by simp)⟩
  have l2 : LoopOk X.prog X.w X.A (.ListComp el [⟨tg, it0, f0, 0⟩, ⟨tg1, it1, f1, 0⟩, ⟨tg2, it2, f2, 0⟩] scope pos) 2 (.ref D0) tg2 f2 ce (bodyIn X.prog X.w X.A el ce (.ref D0)) := in_loop fun it => turn3_2 ..
  have m2 : BodyOk Y vs2 (tMid wi2 g2 tt2 (tIn te D0) vs2) (bodyMid X.prog X.w X.A it2 ce fun v => .compStart (.ListComp el [⟨tg, it0, f0, 0⟩, ⟨tg1, it1, f1, 0⟩, ⟨tg2, it2, f2, 0⟩] scope pos) 2 v (.ref D0) ce) :=
    body_mid (Y := Y) cal rfl k5 l2 (start_any (c := ⟨tg2, it2, f2, 0⟩) rfl rfl) k6 k7 (body_in (Y := Y) rfl k8) (fun i hi => (nomatch hi))
  have l1 : LoopOk X.prog X.w X.A (.ListComp el [⟨tg, it0, f0, 0⟩, ⟨tg1, it1, f1, 0⟩, ⟨tg2, it2, f2, 0⟩] scope pos) 1 (.ref D0) tg1 f1 ce (bodyMid X.prog X.w X.A it2 ce fun v => .compStart (.ListComp el [⟨tg, it0, f0, 0⟩, ⟨tg1, it1, f1, 0⟩, ⟨tg2, it2, f2, 0⟩] scope pos) 2 v (.ref D0) ce) := mid_loop (fun it => turn3_1 ..) (n2 ce)
  have m1 : BodyOk Y vs1 (tMid wi1 g1 tt1 (tMid wi2 g2 tt2 (tIn te D0) vs2) vs1) (bodyMid X.prog X.w X.A it1 ce fun v => .compStart (.ListComp el [⟨tg, it0, f0, 0⟩, ⟨tg1, it1, f1, 0⟩, ⟨tg2, it2, f2, 0⟩] scope pos) 1 v (.ref D0) ce) :=
    body_mid (Y := Y) cal rfl k2 l1 (start_any (c := ⟨tg1, it1, f1, 0⟩) rfl rfl) k3 k4 m2 v2
  have l0 : LoopOk X.prog X.w X.A (.ListComp el [⟨tg, it0, f0, 0⟩, ⟨tg1, it1, f1, 0⟩, ⟨tg2, it2, f2, 0⟩] scope pos) 0 (.ref D0) tg f0 ce (bodyMid X.prog X.w X.A it1 ce fun v => .compStart (.ListComp el [⟨tg, it0, f0, 0⟩, ⟨tg1, it1, f1, 0⟩, ⟨tg2, it2, f2, 0⟩] scope pos) 1 v (.ref D0) ce) := mid_loop (fun it => turn3_0 ..) (n1 ce)
  have lv := level (Y := Y) (pins := []) (vb := vs1) cal rfl T k0 k1 m1 v1 stat wl
  have loop : codeAny (model X.prog X.w) X.A (.compLoop (.ListComp el [⟨tg, it0, f0, 0⟩, ⟨tg1, it1, f1, 0⟩, ⟨tg2, it2, f2, 0⟩] scope pos) 0 (.ref it) (.ref D0) ce) (compPost (model X.prog X.w) X.A X.xe use Qf (.ref D0) s3.heap.objs.size) s4 := by
    refine l0 (.ref it) _ (fun n s' => ∃ i H', L2.Inv Y [] (wipe σ (own.map (·.2))) H' s' ∧ tn i s'.heap ∧ (∀ b ∈ fp, H' b = none) ∧ W i n H') (fun n s' hI => turn_done (lv n s' hI) fun s'' hd => ?_) m0 s4 ⟨0, H3, I4, st4, nfp, w0⟩
    obtain ⟨H5, I6, qq⟩ := hd
    have I7 : L2.Inv X pins σ H5 s'' := I3.call' (ch := fp) I6.os I6.base I6.hok I6.bare fun b hb => ⟨(fp3 b hb).1.2.2.2.1, (fp3 b hb).1.2.1, (fp3 b hb).1.2.2.2.2.1, (fp3 b hb).1.2.2.2.2.2⟩
    have z : H5 ce.locals = none := I6.free
    obtain ⟨m, hn, _⟩ := I6.loc
    have hn : s''.heap.Ns ce.locals m := hn
    rw [cl] at z hn
    exact out D0 s3.heap.objs.size s'' m H5 I7 qq hn (I3.fpOk (Nat.le_refl _) z)
  exact codeAny_compStart_list loop (T.self X.A 0 _ _ _ st4 loop)
theorem ps_setLc3 {i : Nat} {y : Str} {py spos : Pos} (cal : X.calm = true) (nd : X.N.Nodup) (hy : X.N[i]? = some y) (hyl : X.env.scope.names.lookup y = some .local)
    (sw : swapsWith (.ListComp el [⟨tg, it0, f0, 0⟩, ⟨tg1, it1, f1, 0⟩, ⟨tg2, it2, f2, 0⟩] scope pos) (some (.Name y py)) spos.line X.env = pure true) (src : PI X tg it0 wi) (ok : BlkOk X.N X.env.scope scope own)
    (v1 : ∀ i ∈ vs1, i ∈ own.map (·.2)) (v2 : ∀ i ∈ vs2, i ∈ vs1) (b0 : OfBlk X scope fun Y => PG Y tg g) (c0 : OfBlk X scope fun Y => PTs Y f0 tt) (a1 : OfBlk X scope fun Y => PI Y tg1 it1 wi1) (b1 : OfBlk X scope fun Y => PG Y tg1 g1) (c1 : OfBlk X scope fun Y => PTs Y f1 tt1)
    (a2 : OfBlk X scope fun Y => PI Y tg2 it2 wi2) (b2 : OfBlk X scope fun Y => PG Y tg2 g2) (c2 : OfBlk X scope fun Y => PTs Y f2 tt2) (lst : OfBlk X scope fun Y => PE Y el te)
    (n0 : ∀ x, foldedSetIterable it0 X.env x = pure x) (n1 : ∀ env x, foldedSetIterable it1 env x = pure x) (n2 : ∀ env x, foldedSetIterable it2 env x = pure x) :
    PS X (.Assign [.Name y py] (.ListComp el [⟨tg, it0, f0, 0⟩, ⟨tg1, it1, f1, 0⟩, ⟨tg2, it2, f2, 0⟩] scope pos) spos) (tAsg (tLc3 wi g tt wi1 g1 tt1 wi2 g2 tt2 te (own.map (·.2)) vs1 vs2) (gName i)) := by
  refine ⟨fun pins s σ H D I h => ?_⟩
  rw [exec_Assign_Name_used _ _ _ _ sw]
  refine wpAny_bind (wpAny_standAt (wpAny_bind ?_))
  show wpAny _ X.A (do let _ ← comprehension (.ListComp el [⟨tg, it0, f0, 0⟩, ⟨tg1, it1, f1, 0⟩, ⟨tg2, it2, f2, 0⟩] scope pos) scope X.env (firstIterPos [⟨tg, it0, f0, 0⟩, ⟨tg1, it1, f1, 0⟩, ⟨tg2, it2, f2, 0⟩] pos) (newList []) false (eval it0 X.env) (some (assign (.Name y py) X.env))) _ _ s
  have h : tLc3 wi g tt wi1 g1 tt1 wi2 g2 tt2 te (own.map (·.2)) vs1 vs2 σ H (fun x H1 => gName i x σ H1 D.nx) := h
  refine wpAny_bind (thn (lc3_core (Qf := fun _ s' => SP X pins D .next s') cal nd I src ok v1 v2 b0 c0 a1 b1 c1 a2 b2 c2 lst n0 n1 n2 h fun L C s' m H' I' q hn f => ?_) fun _ s' hq => wpAny_pure (wpAny_pure hq))
  show wpAny _ _ (assign (.Name y py) X.env (.ref L)) _ _ _
  obtain ⟨q0, q1, q2, q3, q4, q5⟩ := f
  refine wpAny_assign_Name (store_ok2 (v := V.ref L) I' nd hy (.inl hyl) rfl (fun s2 I2 hs2 => ?_) (.inr hyl))
  obtain ⟨a, sb, ha⟩ := hs2
  have far : C ≠ a := ha.elim (fun z => by rw [z]; exact q1) fun z e => q4 y a z e.symm
  exact ⟨m, hn.sameBut sb far, fun h3 sb3 => ⟨_, H', I2.turned (t' := s2.toks) (fun b o hb e => (sb3.2 b hb).trans e) q0 q1 q3 q4 q5, q⟩⟩
end
end GB

namespace GB
open PySem PySem.Spec PyProof.Rows L2

/-! comprehensions of three clauses: data -/
abbrev DB := En → (List PyData → Prop) → List PyData → Prop
def dGo (vs : List Nat) (g : DTG) (tt : TTd) (db : DB) (ρw : En) (K : List PyData → Prop) : List PyData → List PyData → Prop
  | [], acc => K acc
  | d :: ds, acc => g d ρw fun ρ2 => wipeD ρ2 vs = ρw ∧ tt ρ2 fun b ρ3 => ρ3 = ρ2 ∧ if b = true then db ρ2 (fun acc => dGo vs g tt db ρw K ds acc) acc else dGo vs g tt db ρw K ds acc
def dbIn (te : TEd) : DB := fun ρ K acc => te ρ fun s ρ4 => ρ4 = ρ ∧ ∃ y, s = .d y ∧ acc.length < sizeLine ∧ K (acc ++ [y])
def dbMid (ti : TId) (vs : List Nat) (g : DTG) (tt : TTd) (db : DB) : DB := fun ρ K acc => ti ρ fun ds ρ4 => ρ4 = ρ ∧ dGo vs g tt db (wipeD ρ vs) K ds acc
def dLc3 (ti : TId) (vs vs1 vs2 : List Nat) (g : DTG) (tt : TTd) (ti1 : TId) (g1 : DTG) (tt1 : TTd) (ti2 : TId) (g2 : DTG) (tt2 : TTd) (te : TEd) : TEd :=
  fun ρ Q => ti ρ fun ds ρ1 => dGo vs g tt (dbMid ti1 vs1 g1 tt1 (dbMid ti2 vs2 g2 tt2 (dbIn te))) (wipeD ρ1 vs) (fun acc => Q (.own acc) (wipeD ρ1 vs)) ds []
section
variable {L : Lay} {H1 : Hp} {D : Addr}
/-- no own slot holds D -/
def Apart (D : Addr) (σ : L2.St) (ρ : En) : Prop := ∀ (i : Nat) (ys : Ow), ρ[i]? = some (.ow ys) → σ[i]? ≠ some (some (.ref D))
def LsAt (L : Lay) (D : Addr) (H : Hp) (acc : List PyData) : Prop := ∃ us, H D = some (.lst us) ∧ BrA L.K H us acc
def DbOk (L : Lay) (H1 : Hp) (D : Addr) (vb : List Nat) (db : DB) (tb : TB) : Prop :=
  ∀ (σ : L2.St) (ρ : En) (H : Hp) (acc : List PyData) (K : List PyData → Prop) (Nx : Hp → Prop), NoOwn vb ρ → Go σ ρ ρ H1 H → Rel L H σ ρ → Apart D σ ρ → LsAt L D H acc → db ρ K acc →
    (∀ H' acc', Keep H H' → Go (wipe σ vb) (wipeD ρ vb) (wipeD ρ vb) H1 H' → Rel L H' (wipe σ vb) (wipeD ρ vb) → LsAt L D H' acc' → K acc' → Nx H') → tb σ H Nx
theorem own_in {vs : List Nat} {ρ : En} {j : Nat} {ys : Ow} (e : (wipeD ρ vs)[j]? = some (.ow ys)) : j ∉ vs ∧ ρ[j]? = some (.ow ys) := by
  have nj : j ∉ vs := fun m => noOwn_wiped (vs := vs) ρ j m ys e
  rw [wipeD_get, if_neg nj] at e
  exact ⟨nj, e⟩
theorem own_out {vs : List Nat} {ρ : En} {j : Nat} {ys : Ow} (no : NoOwn vs ρ) (e : ρ[j]? = some (.ow ys)) : j ∉ vs ∧ (wipeD ρ vs)[j]? = some (.ow ys) := by
  have nj : j ∉ vs := fun m => no j m ys e
  exact ⟨nj, by rw [wipeD_get, if_neg nj]; exact e⟩
theorem apart_wipe {σ : L2.St} {ρ : En} {vs : List Nat} (h : Apart D σ ρ) : Apart D (wipe σ vs) (wipeD ρ vs) := fun j ys e z => by
  obtain ⟨nj, e'⟩ := own_in e
  exact h j ys e' (by rw [← GB.wipe_out σ vs j nj]; exact z)
theorem walk_lv {vs vb : List Nat} {gt : TG} {g : DTG} {tt : TTd} {db : DB} {tb : TB} {J : It} {ds : List PyData} {G : Hp → Prop} {Yy : Nat → Hp → V → Hp → Prop} {σw : L2.St} {ρw : En} {Hs : Hp} {acc : List PyData} {K : List PyData → Prop} {Stop : Hp → Prop}
    (hg : GOwn L vs gt g) (bok : DbOk L H1 D vb db tb) (hv : ∀ i ∈ vb, i ∈ vs) (d1 : H1 D = none)
    (wk : Walk J ds.length G Yy) (g0 : G Hs) (gk : ∀ H H', Keep H H' → G H → G H') (step : ∀ i H x H', i < ds.length → Keep Hs H → G H → Yy i H x H' → Same H H' ∧ ∃ d, ds[i]? = some d ∧ Br L.K H' x d)
    (nw : NoOwn vs ρw) (ew : wipe σw vs = σw) (go : Go σw ρw ρw H1 Hs) (r : Rel L Hs σw ρw) (ap : Apart D σw ρw) (ls : LsAt L D Hs acc) (q : dGo vs g tt db ρw K ds acc)
    (fin : ∀ H' acc', Keep Hs H' → Go σw ρw ρw H1 H' → Rel L H' σw ρw → LsAt L D H' acc' → K acc' → Stop H') :
    ∃ W : Nat → Nat → Hp → Prop, (∃ m, W 0 m Hs) ∧ tWalk J gt (tT L tt) tb vs σw W Stop := by
  refine walk_it (Body := fun Nx x H' => gt x σw H' fun σ2 H2 => wipe σ2 vs = σw ∧ tT L tt σ2 H2 fun b H3 => if b = true then tb σ2 H3 Nx else Nx H3) wk
    (fun i H2 => Keep Hs H2 ∧ Go σw ρw ρw H1 H2 ∧ Rel L H2 σw ρw ∧ ∃ acc, LsAt L D H2 acc ∧ dGo vs g tt db ρw K (ds.drop i) acc) ⟨Keep.rfl' Hs, go, r, acc, ls, q⟩ (fun i H2 _ h => gk _ _ h.1 g0) (fun i x H2 H3 hi hP hy => ?_) fun H2 hP => ?_
  · obtain ⟨k, go2, r2, acc2, ⟨us, hD2, hb2⟩, ql⟩ := hP
    obtain ⟨sm, d, hd, bd⟩ := step i H2 x H3 hi k (gk _ _ k g0) hy
    have e : ds.drop i = d :: ds.drop (i + 1) := by
      obtain ⟨hi', e⟩ := List.getElem?_eq_some_iff.mp hd
      rw [List.drop_eq_getElem_cons hi', e]
    rw [e] at ql
    have go3 : Go σw ρw ρw H1 H3 := go2.tr (Go.sm sm)
    have hD3 : H3 D = some (.lst us) := sm D _ hD2
    refine hg (r2.go sm) nw bd ql fun σ2 ρ2 r3 no2 q3 e2w => ⟨by rw [e2w, ew], ?_⟩
    obtain ⟨e2, q3⟩ := q3
    have ew2 : wipe σ2 vs = σw := by rw [e2w, ew]
    refine ⟨ρ2, _, r3, q3, fun b H4 ρ3 go4 r4 q4 => ?_⟩
    obtain ⟨e3, q4⟩ := q4
    subst e3
    have k4 : Keep H2 H4 := (keep_of_same sm).tr (go4.keep r3)
    obtain ⟨goA, rA, dA⟩ := back e2 no2 ew2 ap go3 hD3 go4 r4
    cases b with
    | false =>
      rw [if_neg (by decide)] at q4 ⊢
      exact ⟨k.tr k4, goA, rA, acc2, ⟨us, dA, BrA.keep k4 _ _ hb2⟩, q4⟩
    | true =>
      rw [if_pos rfl] at q4 ⊢
      have outw : ∀ (i : Nat) (xs : Ow), ρw[i]? = some (.ow xs) → ρ3[i]? = some (.ow xs) ∧ σ2[i]? = σw[i]? := fun j xs ej => by
        rw [← e2] at ej
        obtain ⟨nj, ej'⟩ := own_in ej
        exact ⟨ej', by rw [← ew2, GB.wipe_out σ2 vs j nj]⟩
      have ap2 : Apart D σ2 ρ3 := fun j ys ej z => by
        obtain ⟨nj, ej'⟩ := own_out no2 ej
        rw [e2] at ej'
        exact ap j ys ej' (by rw [← ew2, GB.wipe_out σ2 vs j nj]; exact z)
      refine bok σ2 ρ3 H4 acc2 _ _ (fun j m xs ej => no2 j (hv j m) xs ej) ((go3.shift outw).tr go4) r4 ap2 ⟨us, dA, BrA.keep k4 _ _ hb2⟩ q4 fun H' acc' kk go' r' hl' qk => ⟨(k.tr k4).tr kk, go'.shift fun j xs ej => ?_, ?_, acc', hl', qk⟩
      · obtain ⟨nj1, ej1⟩ := own_in ej
        obtain ⟨nj, ej2⟩ := own_out no2 ej1
        rw [e2] at ej2
        exact ⟨ej2, by rw [GB.wipe_out σ2 vb j nj1, ← ew2, GB.wipe_out σ2 vs j nj]⟩
      · have h := (r'.wiped (vs := vs)).move (σ' := σw) (by rw [wipe_length, ← ew2, wipe_length]) fun j hj => by
          rw [GB.wipe_out σ2 vb j (fun m => hj (hv j m)), ← ew2, GB.wipe_out σ2 vs j hj]
        rw [wipeD_in hv, e2] at h
        exact h
  · obtain ⟨k, go2, r2, acc2, hl2, ql⟩ := hP
    rw [List.drop_length] at ql
    exact fin H2 acc2 k go2 r2 hl2 ql
theorem db_in {te : TEd} (d1 : H1 D = none) (d0 : L.H0 D = none) : DbOk L H1 D [] (dbIn te) (tIn (tE L te) D) := by
  intro σ ρ H acc K Nx _ go r ap hl q fin
  obtain ⟨us, hD, hb⟩ := hl
  refine ⟨ρ, _, r, q, fun y H9 s ρ7 go9 r9 hvv q9 => ?_⟩
  obtain ⟨e7, y', rfl, hz, q10⟩ := q9
  subst e7
  have dG : H9 D = some (.lst us) := go9.stay D _ hD fun j xs ej z => ap j xs ej z
  have k9 : Keep H H9 := go9.keep r
  have kD : Keep H9 (upd H9 D (.lst (us ++ [y]))) := keep_put dG trivial
  have lu := hb.len
  exact ⟨us, dG, by omega, fin _ (acc ++ [y']) (k9.tr kD) (app_go (go.tr go9) d1) (r9.other dG d0 ap) ⟨us ++ [y], upd_same, (BrA.keep (k9.tr kD) _ _ hb).app (BrA.one (Br.keep kD _ _ hvv))⟩ q10⟩
theorem db_mid {vs vb : List Nat} {ti : TId} {gt : TG} {g : DTG} {tt : TTd} {db : DB} {tb : TB} (hg : GOwn L vs gt g) (bok : DbOk L H1 D vb db tb) (hv : ∀ i ∈ vb, i ∈ vs) (d1 : H1 D = none) :
    DbOk L H1 D vs (dbMid ti vs g tt db) (tMid (tI L ti) gt (tT L tt) tb vs) := by
  intro σ ρ H acc K Nx no go r ap hl q fin
  obtain ⟨us, hD, hb⟩ := hl
  refine ⟨ρ, _, r, q, fun J H5 ds ρ4 go5 r5 q5 it => ?_⟩
  obtain ⟨e4, q5⟩ := q5
  subst e4
  obtain ⟨G, Yy, wk, g0, gk, step⟩ := it
  have k5 : Keep H H5 := go5.keep r
  have d5 : H5 D = some (.lst us) := go5.stay D _ hD fun j xs ej z => ap j xs ej z
  refine walk_lv hg bok hv d1 wk g0 gk step (noOwn_wiped ρ4) wipe_wipe ((go.tr go5).shift fun j xs ej => ?_) (r5.wiped.move (wipe_length σ vs) (GB.wipe_out σ vs)) (apart_wipe ap) ⟨us, d5, BrA.keep k5 _ _ hb⟩ q5 fun H' acc' kk go' r' hl' qk => fin H' acc' (k5.tr kk) go' r' hl' qk
  obtain ⟨nj, ej'⟩ := own_out no ej
  exact ⟨ej', GB.wipe_out σ vs j nj⟩
theorem lc3_read {ti ti1 ti2 : TId} {vs vs1 vs2 : List Nat} {gt gt1 gt2 : TG} {g g1 g2 : DTG} {tt tt1 tt2 : TTd} {te : TEd} (h1 : ∀ i ∈ vs1, i ∈ vs) (h2 : ∀ i ∈ vs2, i ∈ vs1) (hg : GOwn L vs gt g) (hg1 : GOwn L vs1 gt1 g1) (hg2 : GOwn L vs2 gt2 g2) :
    ∀ σ H Q', tE L (dLc3 ti vs vs1 vs2 g tt ti1 g1 tt1 ti2 g2 tt2 te) σ H Q' → tLc3 (tI L ti) gt (tT L tt) (tI L ti1) gt1 (tT L tt1) (tI L ti2) gt2 (tT L tt2) (tE L te) vs vs1 vs2 σ H Q' := by
  intro σ H Q' q
  obtain ⟨ρ, Q, r, q, fin⟩ := q
  refine ⟨ρ, _, r, q, fun J H1 ds ρ1 go r1 q1 it D hD => ?_⟩
  obtain ⟨G, Yy, wk, g0, gk, step⟩ := it
  have sD := same_new (o := .lst []) hD
  have d0 : L.H0 D = none := r1.same.free hD
  have rw1 : Rel L H1 (wipe σ vs) (wipeD ρ1 vs) := r1.wiped.move (wipe_length σ vs) (GB.wipe_out σ vs)
  have ap : Apart D (wipe σ vs) (wipeD ρ1 vs) := fun i ys e z => by
    obtain ⟨l', us', q1, q2, _⟩ := rw1.getW e
    rw [z] at q1; cases q1
    rw [hD] at q2; cases q2
  refine walk_lv (H1 := H1) (D := D) hg (db_mid hg1 (db_mid hg2 (db_in hD d0) (fun _ m => (nomatch m)) hD) h2 hD) h1 hD wk (gk _ _ (keep_of_same sD) g0) gk (fun i H2 x H3 hi k gg hy => step i H2 x H3 hi ((keep_of_same sD).tr k) gg hy) (noOwn_wiped ρ1) wipe_wipe (Go.sm sD) (rw1.go sD) ap ⟨[], upd_same, .nil⟩ q1 fun H2 acc k goi r2 hl ql => ?_
  obtain ⟨us, hDl, hb⟩ := hl
  have goF : Go σ ρ1 (wipeD ρ1 vs) H1 H2 := ⟨fun a o h n => goi.stay a o h fun j xs ej z => by
      obtain ⟨nj, ej'⟩ := own_in ej
      rw [GB.wipe_out σ vs j nj] at z
      exact n j xs ej' z, fun j xs ej => ⟨xs, (own_in ej).2⟩, goi.dom⟩
  exact fin (.ref D) H2 (.own acc) _ (go.tr goF) (r2.move (wipe_length σ vs).symm fun j hj => (GB.wipe_out σ vs j hj).symm) ⟨⟨D, us, rfl, hDl, hb, d0⟩, fun l e => by cases e; exact go.dom _ hD⟩ ql
end
end GB

namespace GB
open PySem PySem.Spec PyProof.Rows L2

/-! comprehensions of three clauses: as a row of a def; steps from without -/
section
variable {X : Cx} {L : Lay} {el tg it0 tg1 it1 tg2 it2 : Expr} {f0 f1 f2 : List Expr} {scope : Scope} {own : List (Str × Nat)} {vs1 vs2 : List Nat} {pos : Pos} {ti ti1 ti2 : TId} {g g1 g2 : DTG} {gt gt1 gt2 : TG} {tt tt1 tt2 : TTd} {te : TEd}
theorem ds_setLc3 {i : Nat} {y : Str} {py spos : Pos} (gd : Good X) (hy : X.N[i]? = some y) (hyl : X.env.scope.names.lookup y = some .local)
    (sw : swapsWith (.ListComp el [⟨tg, it0, f0, 0⟩, ⟨tg1, it1, f1, 0⟩, ⟨tg2, it2, f2, 0⟩] scope pos) (some (.Name y py)) spos.line X.env = pure true) (src : PI X tg it0 (tI L ti)) (ok : BlkOk X.N X.env.scope scope own)
    (v1 : ∀ i ∈ vs1, i ∈ own.map (·.2)) (v2 : ∀ i ∈ vs2, i ∈ vs1) (b0 : OfBlk X scope fun Y => PG Y tg gt) (o0 : GOwn L (own.map (·.2)) gt g) (c0 : OfBlk X scope fun Y => Good Y → PTs Y f0 (tT L tt))
    (a1 : OfBlk X scope fun Y => Good Y → PI Y tg1 it1 (tI L ti1)) (b1 : OfBlk X scope fun Y => PG Y tg1 gt1) (o1 : GOwn L vs1 gt1 g1) (c1 : OfBlk X scope fun Y => Good Y → PTs Y f1 (tT L tt1))
    (a2 : OfBlk X scope fun Y => Good Y → PI Y tg2 it2 (tI L ti2)) (b2 : OfBlk X scope fun Y => PG Y tg2 gt2) (o2 : GOwn L vs2 gt2 g2) (c2 : OfBlk X scope fun Y => Good Y → PTs Y f2 (tT L tt2))
    (lst : OfBlk X scope fun Y => Good Y → PE Y el (tE L te)) (n0 : ∀ x, foldedSetIterable it0 X.env x = pure x := by intro _; rfl) (n1 : ∀ env x, foldedSetIterable it1 env x = pure x := by intro _ _; rfl) (n2 : ∀ env x, foldedSetIterable it2 env x = pure x := by intro _ _; rfl) :
    PS X (.Assign [.Name y py] (.ListComp el [⟨tg, it0, f0, 0⟩, ⟨tg1, it1, f1, 0⟩, ⟨tg2, it2, f2, 0⟩] scope pos) spos) (tS L (dSet i (dLc3 ti (own.map (·.2)) vs1 vs2 g tt ti1 g1 tt1 ti2 g2 tt2 te))) := by
  have good : ∀ {s : Shared} {H : Hp} {C : Addr} {cl : List (Str × Addr)} {fp : List Addr}, Good (X.blk s H scope (compEnvC scope cl C X.env) fp) := ⟨gd.calm, gd.gd, gd.sys, gd.un, gd.nd⟩
  refine (ps_setLc3 gd.calm gd.nd hy hyl sw src ok v1 v2 b0 (fun s H C cl fp => c0 s H C cl fp good) (fun s H C cl fp => a1 s H C cl fp good) b1 (fun s H C cl fp => c1 s H C cl fp good) (fun s H C cl fp => a2 s H C cl fp good) b2 (fun s H C cl fp => c2 s H C cl fp good)
    (fun s H C cl fp => lst s H C cl fp good) n0 n1 n2).less fun D σ H q => ?_
  obtain ⟨ρ, De, r, q, m1, _⟩ := q
  exact lc3_read v1 v2 o0 o1 o2 _ _ _ ⟨ρ, _, r, q, fun v H' s ρ' go r' hv n => m1 _ _ _ (go.keep r) (r.set r' go hv) n⟩
end
section
variable {ti ti1 ti2 : TId} {vs vs1 vs2 : List Nat} {g g1 g2 : DTG} {tt tt1 tt2 : TTd} {te : TEd} {ρ : En} {db : DB} {K : List PyData → Prop} {acc ds : List PyData} {d : PyData}
theorem e_lc3 {Q : S → En → Prop} : dLc3 ti vs vs1 vs2 g tt ti1 g1 tt1 ti2 g2 tt2 te ρ Q ↔ ti ρ fun ds ρ1 => dGo vs g tt (dbMid ti1 vs1 g1 tt1 (dbMid ti2 vs2 g2 tt2 (dbIn te))) (wipeD ρ1 vs) (fun acc => Q (.own acc) (wipeD ρ1 vs)) ds [] := Iff.rfl
theorem e_gon : dGo vs g tt db ρ K [] acc ↔ K acc := Iff.rfl
theorem e_goc : dGo vs g tt db ρ K (d :: ds) acc ↔ g d ρ fun ρ2 => wipeD ρ2 vs = ρ ∧ tt ρ2 fun b ρ3 => ρ3 = ρ2 ∧ iteK b (db ρ2 (fun acc => dGo vs g tt db ρ K ds acc) acc) (dGo vs g tt db ρ K ds acc) := Iff.rfl
theorem e_dbMid : dbMid ti vs g tt db ρ K acc ↔ ti ρ fun ds ρ4 => ρ4 = ρ ∧ dGo vs g tt db (wipeD ρ vs) K ds acc := Iff.rfl
theorem e_dbIn : dbIn te ρ K acc ↔ te ρ fun s ρ4 => ρ4 = ρ ∧ oneK s fun y => acc.length < sizeLine ∧ K (acc ++ [y]) := Iff.rfl
end
end GB

namespace GB
open PySem PySem.Spec PyProof.Rows L2 SeqAt

/-! a tuple of anything beside the empty one -/
def fNeU : F2 := fun x y Q => ∃ xs, x = .tuple xs ∧ y = .tuple [] ∧ Q (.d (.bool (!xs.isEmpty)))
theorem f_neu {xs : List PyData} {k : S → Prop} : fNeU (.tuple xs) (.tuple []) k ↔ k (.d (.bool (!xs.isEmpty))) :=
  ⟨fun ⟨_, e, _, h⟩ => by cases e; exact h, fun h => ⟨xs, rfl, rfl, h⟩⟩
section
variable {X : Cx} {L : Lay}
theorem o_neu (hK : L.K = X.K) (g : Good X) : OpR X (compareOp .NotEq) (rD L fNeU) := by
  intro pins s σ H x y v u Q' I rx ry q
  obtain ⟨dx, dy, Q, bx, by_, ⟨xs, rfl, rfl, q⟩, fin⟩ := q
  obtain ⟨as, r1⟩ := Bk.reads hK I bx rx
  obtain ⟨bs, r2⟩ := Bk.reads hK I by_ ry
  cases r1 with
  | @tuple l o vs n _ as1 h1 h2 h3 h4 =>
    cases r2 with
    | @tuple l' o' vs' n' _ bs1 k1 k2 k3 k4 =>
      have n1 : vs.size = xs.length := by simpa using ReadsAll.length _ _ _ h4
      have n2 : vs'.size = 0 := by simpa using ReadsAll.length _ _ _ k4
      have e : (!((List.range (min vs.size vs'.size)).all (fun _ => true) && vs.size == vs'.size)) = !xs.isEmpty := by
        rw [n2, n1]
        cases xs <;> simp
      refine RcNeAt.tuples (e := fun _ => true) ⟨_, h1, h2, _, h3⟩ ⟨_, k1, k2, _, k3⟩ (by have := g.un; omega) (fun j j1 j2 => absurd j2 (by omega)) X.prog X.w _ _ ?_
      rw [e]
      exact ⟨.bl _, H, I, rfl, fin _ H _ (Same.refl H) (nr_d (.bl _)) q⟩
end
end GB

namespace GB
open PySem PySem.Spec PyProof.Rows L2 SeqAt

/-! texts and tuples beside tables: never equal -/
theorem tup_no_dict (l b : Addr) (vs : Array Value) (n m : Nat) (es : Array DictEntry) (d1 d2 : Option Addr) (z1 z2 : Array (Option Value)) :
    Meets (Builtin.«tuple.__eq__» ⟨[.ref l, .ref b], []⟩) (fun _ R s => s.heap.get? l = some { cls := .type "tuple", dict := d1, data := .seq vs n, slots := z1 } ∧ s.heap.get? b = some { cls := .type "dict", dict := d2, data := .dict es m, slots := z2 } ∧ R (.ok (.ret .notImplemented)) s) :=
  .of_wp fun prog w A R s h => by obtain ⟨hp, g, d, tk, os⟩ := s; obtain ⟨hl, hb, h⟩ := h; have f1 := F.sub_dict_tuple; wp_walk using wpAny_loadPart' hl, wpAny_loadPart' hb; exact ⟨_, rfl, h⟩
theorem dict_no_tup (l b : Addr) (vs : Array Value) (n m : Nat) (es : Array DictEntry) (d1 d2 : Option Addr) (z1 z2 : Array (Option Value)) :
    Meets (Builtin.«dict.__eq__» ⟨[.ref b, .ref l], []⟩) (fun _ R s => s.heap.get? l = some { cls := .type "tuple", dict := d1, data := .seq vs n, slots := z1 } ∧ s.heap.get? b = some { cls := .type "dict", dict := d2, data := .dict es m, slots := z2 } ∧ R (.ok (.ret .notImplemented)) s) :=
  .of_wp fun prog w A R s h => by obtain ⟨hp, g, d, tk, os⟩ := s; obtain ⟨hl, hb, h⟩ := h; have f1 := F.sub_tuple_dict; wp_walk using wpAny_loadPart' hl, wpAny_loadPart' hb; exact ⟨_, rfl, h⟩
theorem str_no_dict (x : Str) (t : Tok) (b : Addr) (m : Nat) (es : Array DictEntry) (d2 : Option Addr) (z2 : Array (Option Value)) :
    Meets (Builtin.«str.__eq__» ⟨[.str x t, .ref b], []⟩) (fun _ R s => s.heap.get? b = some { cls := .type "dict", dict := d2, data := .dict es m, slots := z2 } ∧ R (.ok (.ret .notImplemented)) s) :=
  .of_wp fun prog w A R s h => by obtain ⟨hp, g, d, tk, os⟩ := s; obtain ⟨hb, h⟩ := h; wp_walk using wpAny_loadPart' hb, wpAny_load hb; exact ⟨_, rfl, h⟩
theorem dict_no_str (x : Str) (t : Tok) (b : Addr) (m : Nat) (es : Array DictEntry) (d2 : Option Addr) (z2 : Array (Option Value)) :
    Meets (Builtin.«dict.__eq__» ⟨[.ref b, .str x t], []⟩) (fun _ R s => s.heap.get? b = some { cls := .type "dict", dict := d2, data := .dict es m, slots := z2 } ∧ R (.ok (.ret .notImplemented)) s) :=
  .of_wp fun prog w A R s h => by obtain ⟨hp, g, d, tk, os⟩ := s; obtain ⟨hb, h⟩ := h; have f1 := F.sub_str_dict; wp_walk using wpAny_loadPart' hb, wpAny_load hb; exact ⟨_, rfl, h⟩
end GB

namespace GB
open PySem PySem.Spec PyProof.Rows L2 SeqAt

/-! plain things beside anything -/
def IsTab (h : Heap) (b : Addr) : Prop := ∃ o es n, h.get? b = some o ∧ o.cls = .type "dict" ∧ o.data = .dict es n
section
variable {A : Around} {s : Shared}
theorem ne_tab {l b : Addr} {vs : Array Value} (hl : s.heap.IsTuple l vs) (hb : IsTab s.heap b) : l ≠ b := fun e => by
  subst e
  obtain ⟨o, ho, hc, _⟩ := hl
  obtain ⟨o2, _, _, ho2, hc2, _⟩ := hb
  rw [ho] at ho2; cases ho2
  rw [hc] at hc2; exact absurd hc2 (by simp)
theorem rc_tup_tab {l b : Addr} {vs : Array Value} (hl : s.heap.IsTuple l vs) (hb : IsTab s.heap b) (hu : A.units < cLine) : RcAt A s (.ref l) (.ref b) false := fun prog w E Q h => by
  have hne := ne_tab hl hb
  obtain ⟨⟨cls, dd, data, sl⟩, ho, hc, n, hd⟩ := id hl
  obtain ⟨⟨cls2, dd2, data2, sl2⟩, es, m, ho2, hc2, hd2⟩ := id hb
  simp only at hc hd hc2 hd2
  subst hc hd hc2 hd2
  exact (rc_eq_decline_or (k := false) ⟨_, ho, rfl⟩ ⟨_, ho2, rfl⟩ (by decide) F.sub_dict_tuple F.slot_tuple_eq F.slot_dict_eq_refl
    (fun _ hq => call_meets F.slot_tuple_eq ⟨_, ho, rfl⟩ F.entry_tuple_eq (F.args_tuple_eq_2 _ _) (tup_no_dict l b vs n m es dd dd2 sl sl2) ⟨ho, ho2, hq⟩)
    (fun _ hq => call_meets F.slot_dict_eq_refl ⟨_, ho2, rfl⟩ F.entry_dict_eq (F.args_dict_eq_2 _ _) (dict_no_tup l b vs n m es dd dd2 sl sl2) ⟨ho, ho2, hq⟩)
    (fun _ hq => wpAny_isSame_ref_other' hne ho ho2 (by simp) hq) (.inr hu) h)
theorem rc_str_tab {x : Str} {t : Tok} {b : Addr} (hb : IsTab s.heap b) (hu : A.units < cLine) : RcAt A s (.str x t) (.ref b) false := fun prog w E Q h => by
  obtain ⟨⟨cls2, dd2, data2, sl2⟩, es, m, ho2, hc2, hd2⟩ := id hb
  simp only at hc2 hd2
  subst hc2 hd2
  exact (rc_eq_decline_or (k := false) (typeIs_str s x t) ⟨_, ho2, rfl⟩ (by decide) F.sub_dict_str F.slot_str_eq F.slot_dict_eq_refl
    (fun _ hq => call_meets F.slot_str_eq (typeIs_str s x t) F.entry_str_eq (F.args_str_eq_2 _ _) (str_no_dict x t b m es dd2 sl2) ⟨ho2, hq⟩)
    (fun _ hq => call_meets F.slot_dict_eq_refl ⟨_, ho2, rfl⟩ F.entry_dict_eq (F.args_dict_eq_2 _ _) (dict_no_str x t b m es dd2 sl2) ⟨ho2, hq⟩)
    (fun _ hq => wpAny_of_eq (rfl : isSame (.str x t) (.ref b) = pure false) hq) (.inr hu) h)
theorem eq_str_tab {x : Str} {t : Tok} {b : Addr} (hb : IsTab s.heap b) (hu : A.units < cLine) : EqAt A s (.str x t) (.ref b) false := fun prog w E Q h => by
  unfold eqBool
  refine wpAny_holding (wpAny_ite_split (fun hab => absurd (eq_of_beq hab) nofun) fun _ => ?_)
  exact wpAny_bind (rc_str_tab hb hu prog w E _ (wpAny_truthy_bool h))
def strB : PyData → Bool
  | .str _ => true
  | _ => false
def plainB : PyData → Bool
  | .str _ => true
  | .tuple zs => zs.all strB
  | _ => false
theorem eq_str_any {x : Str} {t : Tok} {u : Value} {d : PyData} {as : List Addr} (r : Reads s.heap u d as) (hu : A.units < cLine) : EqAt A s (.str x t) u (PyData.eqv (.str x) d) := by
  cases r with
  | none => exact EqAt.str_none x t
  | bool y => exact EqAt.str_bool x t y
  | int y u => exact EqAt.str_int x t y u
  | str y u => exact EqAt.str_str x t y u
  | list k1 k2 k3 k4 => exact EqAt.str_list x t ⟨_, k1, k2, _, k3⟩ hu
  | tuple k1 k2 k3 k4 => exact EqAt.str_tuple x t ⟨_, k1, k2, _, k3⟩ hu
  | dict k1 k2 k3 k4 k5 => exact eq_str_tab ⟨_, _, _, k1, k2, k3⟩ hu
theorem strs_any : ∀ (xs ys : List PyData) (vs ws : List Value) (as bs : List Addr), xs.all strB = true → ReadsAll s.heap vs xs as → ReadsAll s.heap ws ys bs → A.units < cLine → ∀ j (h1 : j < vs.length) (h2 : j < ws.length), EqAt A s vs[j] ws[j] (pairEq xs ys j)
  | [], _, _, _, _, _, _, ra, _, _, j, h1, _ => by cases ra; exact absurd h1 (Nat.not_lt_zero _)
  | _ :: _, [], _, _, _, _, _, _, rb, _, j, _, h2 => by cases rb; exact absurd h2 (Nat.not_lt_zero _)
  | x :: xs, y :: ys, _, _, _, _, h, ra, rb, hu, j, h1, h2 => by
    rw [List.all_cons, Bool.and_eq_true] at h
    cases ra with
    | cons r rs =>
      cases rb with
      | cons r' rs' =>
        cases j with
        | zero =>
          cases x with
          | str z =>
            cases r with
            | str _ t => exact eq_str_any r' hu
          | _ => exact absurd h.1 (by simp [strB])
        | succ j => exact strs_any xs ys _ _ _ _ h.2 rs rs' hu j (by simpa using h1) (by simpa using h2)
theorem strs_lay : ∀ {xs : List PyData}, xs.all strB = true → (xs.all fun z => z.canLay0) = true → PyData.canLayAll0 xs = true
  | [], _, _ => rfl
  | x :: xs, h, h' => by
    rw [List.all_cons, Bool.and_eq_true] at h h'
    simp [PyData.canLayAll0, h'.1, strs_lay h.2 h'.2]
theorem eq_plain_any {z d : PyData} {v u : Value} {as bs : List Addr} (hp : plainB z = true) (hl : z.canLay0 = true) (ra : Reads s.heap v z as) (rb : Reads s.heap u d bs) (hu : A.in1.units < cLine) (hu0 : A.units < cLine) : EqAt A s v u (PyData.eqv z d) := by
  cases ra with
  | str x t => exact eq_str_any rb hu0
  | @tuple l o vs n xs as1 h1 h2 h3 h4 =>
    have ht : s.heap.IsTuple l vs := ⟨_, h1, h2, _, h3⟩
    cases rb with
    | none => exact EqAt.tuple_none ht hu0
    | bool y => exact EqAt.tuple_bool y ht hu0
    | int y u => exact EqAt.tuple_int y u ht hu0
    | str y u => exact EqAt.tuple_str y u ht hu0
    | list k1 k2 k3 k4 => exact EqAt.tuple_list ht ⟨_, k1, k2, _, k3⟩ hu0
    | dict k1 k2 k3 k4 k5 => exact EqAt.of_refs (ne_tab ht ⟨_, _, _, k1, k2, k3⟩) (rc_tup_tab ht ⟨_, _, _, k1, k2, k3⟩ hu0)
    | @tuple l' o' vs' n' ys bs1 k1 k2 k3 k4 =>
      have ht' : s.heap.IsTuple l' vs' := ⟨_, k1, k2, _, k3⟩
      have n1 : vs.size = xs.length := by simpa using ReadsAll.length _ _ _ h4
      have n2 : vs'.size = ys.length := by simpa using ReadsAll.length _ _ _ k4
      show EqAt A s (.ref l) (.ref l') (PyData.eqvAll xs ys)
      by_cases hll : l = l'
      · subst hll
        have e : PyData.tuple xs = PyData.tuple ys := Reads.unique (.tuple xs) (.tuple ys) _ _ _ hl (.tuple h1 h2 h3 h4) (.tuple k1 k2 k3 k4)
        injection e with e
        subst e
        rw [eqvAll_refl xs hl]
        exact EqAt.same _
      · rw [← eqvAll_eq xs ys, ← n1, ← n2]
        refine EqAt.of_refs hll (RcAt.tuples ht ht' hu0 fun j j1 j2 => ?_)
        have := strs_any (A := A.in1) xs ys vs.toList vs'.toList _ _ hp h4 k4 hu j (by simpa using j1) (by simpa using j2)
        simpa using this
  | _ => exact absurd hp (by simp [plainB])
end
/-- x in c, c a tuple of plain things, x anything -/
def plains (zs : List PyData) : Bool := zs.all fun z => plainB z && z.canLay0
def fInP : F2 := fun x c Q => ∃ zs, c = .tuple zs ∧ plains zs = true ∧ Q (.d (.bool (zs.any fun z => PyData.eqv z x)))
def fNotInP : F2 := fun x c Q => ∃ zs, c = .tuple zs ∧ plains zs = true ∧ Q (.d (.bool (!zs.any fun z => PyData.eqv z x)))
def fGeS : F2 := fun x y Q => ∃ a b, x = .str a ∧ y = .str b ∧ Q (.d (.bool (!PySem.W.dataLt (.str a) (.str b))))
theorem f_inP {x : PyData} {zs : List PyData} {k : S → Prop} : fInP x (.tuple zs) k ↔ plains zs = true ∧ k (.d (.bool (zs.any fun z => PyData.eqv z x))) :=
  ⟨fun ⟨_, e, h⟩ => by cases e; exact h, fun h => ⟨_, rfl, h⟩⟩
theorem f_notInP {x : PyData} {zs : List PyData} {k : S → Prop} : fNotInP x (.tuple zs) k ↔ plains zs = true ∧ k (.d (.bool (!zs.any fun z => PyData.eqv z x))) :=
  ⟨fun ⟨_, e, h⟩ => by cases e; exact h, fun h => ⟨_, rfl, h⟩⟩
theorem f_geS {a b : Str} {k : S → Prop} : fGeS (.str a) (.str b) k ↔ k (.d (.bool (!PySem.W.dataLt (.str a) (.str b)))) :=
  ⟨fun ⟨_, _, e1, e2, h⟩ => by cases e1; cases e2; exact h, fun h => ⟨_, _, rfl, rfl, h⟩⟩
theorem plains_lay : ∀ {zs : List PyData}, plains zs = true → PyData.canLayAll0 zs = true
  | [], _ => rfl
  | z :: zs, h => by
    unfold plains at h
    rw [List.all_cons, Bool.and_eq_true, Bool.and_eq_true] at h
    simp [PyData.canLayAll0, h.1.2, plains_lay (zs := zs) h.2]
theorem plains_mem {h : Heap} : ∀ {zs : List PyData} {vs : List Value} {as : List Addr}, plains zs = true → ReadsAll h vs zs as → ∀ y ∈ vs, ∃ z bs, Reads h y z bs ∧ plainB z = true ∧ z.canLay0 = true
  | [], _, _, _, r, y, hy => by cases r; cases hy
  | z :: zs, _, _, h, r, y, hy => by
    unfold plains at h
    rw [List.all_cons, Bool.and_eq_true, Bool.and_eq_true] at h
    cases r with
    | cons r rs =>
      rcases List.mem_cons.mp hy with rfl | hy
      · exact ⟨z, _, r, h.1.1, h.1.2⟩
      · exact plains_mem h.2 rs y hy
section
variable {X : Cx} {L : Lay}
theorem in_plain (hK : L.K = X.K) (g : Good X) {pins : List (Addr × Obj)} {s : Shared} {σ : L2.St} {H : Hp} {x y : V} {v u : Value} {dx : PyData} {zs : List PyData} (I : L2.Inv X pins σ H s) (rx : L2.RelV x v) (ry : L2.RelV y u) (bx : Bk L H x dx) (by_ : Bk L H y (.tuple zs)) (hz : plains zs = true)
    {E Q : Value → Shared → Prop} : (Q (.bool (zs.any fun z => PyData.eqv z dx)) s → wpAny (model X.prog X.w) X.A (compareOp .In v u) Q E s) ∧ (Q (.bool (!zs.any fun z => PyData.eqv z dx)) s → wpAny (model X.prog X.w) X.A (compareOp .NotIn v u) Q E s) := by
  obtain ⟨as, r1⟩ := Bk.reads hK I bx rx
  obtain ⟨bs, r2⟩ := Bk.reads hK I by_ ry
  have un := g.un
  cases r2 with
  | @tuple l o vs n _ as1 h1 h2 h3 h4 =>
    have each : ∀ y, y ∈ vs → EqAt X.A.in1 s y v (PyData.eqv (readOf s.heap y) dx) := fun y hy => by
      obtain ⟨z, cs, rz, p1, p2⟩ := plains_mem hz h4 y (by simpa using hy)
      rw [readOf_eq p2 rz]
      exact eq_plain_any p1 p2 rz r1 (by show X.A.units + 1 + 1 < cLine; omega) (by show X.A.units + 1 < cLine; omega)
    have e := any_by_data (vs := vs) (d := dx) h4 (plains_lay hz)
    exact ⟨fun h => in_tupleAt _ ⟨_, h1, h2, _, h3⟩ each (by rw [e]; exact h), fun h => notIn_tupleAt _ ⟨_, h1, h2, _, h3⟩ each (by rw [e]; exact h)⟩
theorem o_inP (hK : L.K = X.K) (g : Good X) : OpR X (compareOp .In) (rD L fInP) := by
  intro pins s σ H x y v u Q' I rx ry q
  obtain ⟨dx, dy, Q, bx, by_, ⟨zs, rfl, hz, q⟩, fin⟩ := q
  exact (in_plain hK g I rx ry bx by_ hz).1 ⟨.bl _, H, I, rfl, fin _ H _ (Same.refl H) (nr_d (.bl _)) q⟩
theorem o_notInP (hK : L.K = X.K) (g : Good X) : OpR X (compareOp .NotIn) (rD L fNotInP) := by
  intro pins s σ H x y v u Q' I rx ry q
  obtain ⟨dx, dy, Q, bx, by_, ⟨zs, rfl, hz, q⟩, fin⟩ := q
  exact (in_plain hK g I rx ry bx by_ hz).2 ⟨.bl _, H, I, rfl, fin _ H _ (Same.refl H) (nr_d (.bl _)) q⟩
theorem o_geS (hK : L.K = X.K) (g : Good X) : OpR X (compareOp .GtE) (rD L fGeS) := by
  intro pins s σ H x y v u Q' I rx ry q
  obtain ⟨dx, dy, Q, bx, by_, ⟨a, b, rfl, rfl, q⟩, fin⟩ := q
  obtain ⟨as, r1⟩ := Bk.reads hK I bx rx
  obtain ⟨bs, r2⟩ := Bk.reads hK I by_ ry
  exact PySem.W.ge_data r1 r2 rfl (by simp) (by have := g.un; simp only [PyData.depth]; omega) ⟨.bl _, H, I, rfl, fin _ H _ (Same.refl H) (nr_d (.bl _)) q⟩
end
end GB

set_option maxRecDepth 100000
namespace GB
open PySem PySem.Spec PyProof.Rows L2
/-! a dict of the top, texts to ints -/
def dDct (d : List (Str × Int)) (t : TEd) : TEd := fun ρ Q => t ρ fun s ρ1 => ∃ z n, s = .d (.str z) ∧ d.lookup z = some n ∧ Q (.d (.int n)) ρ1
def DctOk (K : PySem.W.Frag) (w : World) (a : Addr) (d : List (Str × Int)) : Prop := ∀ z n, d.lookup z = some n → KDct K w a z (.int n)
theorem de_dct {X : Cx} {L : Lay} {x : Str} {a : Addr} {d : List (Str × Int)} {t : TEd} {b : Expr} {p pos : Pos} (hg : Gl X x) (hm : X.mg x = some (.ref a)) (T : DctOk X.K X.w a d) (hb : PE X b (tE L t)) (hs : PlainIx b)
    (hd : (x == ("__debug__" : Str)) = false := by decide) : PE X (.Subscript (.Name x p) b pos) (tE L (dDct d t)) :=
  (pe_ix ix_kdict (pe_glob (v := .ref a) hg hm rfl hd) hb hs).less fun σ H Q' h => by
    obtain ⟨ρ, Q, r, q, fin⟩ := h
    refine (show tE L t σ H _ from ⟨ρ, _, r, q, fun u H2 s2 ρ2 k2 r2 hu q2 => ?_⟩)
    obtain ⟨z, n, rfl, e, q3⟩ := q2
    have hu : Br L.K H2 u (.str z) := hu
    cases hu
    exact ⟨a, z, .int n, rfl, rfl, T z n e, fin _ H2 (.d (.int n)) ρ2 k2 r2 (.int n) q3⟩
theorem dctOk_nil {K : PySem.W.Frag} {w : World} {a : Addr} : DctOk K w a [] := fun _ _ h => by cases h
theorem dctOk_cons {K : PySem.W.Frag} {w : World} {a : Addr} {k : Str} {i : Int} {d : List (Str × Int)} (h : KDct K w a k (.int i)) (r : DctOk K w a d) : DctOk K w a ((k, i) :: d) := fun z n e => by
  rw [List.lookup_cons] at e
  split at e
  · rename_i q
    cases e
    rw [eq_of_beq q]; exact h
  · exact r z n e
end GB

set_option maxRecDepth 100000
set_option maxHeartbeats 1000000
namespace GB
open PySem PySem.Spec PyProof.Rows L2 SrtO Srt
/-! sorted of texts, of a tuple or a list -/
section
variable {prog : Program} {w : World} {A : Around} {E : Value → Shared → Prop} {s : Shared}
def ltSv (v u : Value) : Bool := decide ((strOf v).cps.toList < (strOf u).cps.toList)
theorem swo_str : Swo ltSv := by
  refine ⟨fun x y h => ?_, fun x y z h1 h2 => ?_⟩
  · exact decide_eq_false (List.lt_asymm (of_decide_eq_true h))
  · have a := of_decide_eq_false h1
    have b := of_decide_eq_false h2
    exact decide_eq_false (fun c => (List.le_trans (List.not_lt.mp a) (List.not_lt.mp b)) c)
theorem str_cmp {vs : List Value} {ss : List Str} (hS : StrsAre vs ss) : Cmp prog w A s oneType' (fun p => p.1 ∈ vs) (lt2 ltSv) := by
  intro p q hm hm'
  obtain ⟨a, t, e⟩ := hS.all _ hm
  obtain ⟨b, u, e'⟩ := hS.all _ hm'
  show wpAny (model prog w) A (keyLt' oneType' p.1 q.1) (fun r s' => s' = s ∧ r = ltSv p.1 q.1) (fun _ _ => False) s
  rw [e, e', keyLt'_oneType]
  exact oneLt_str ⟨rfl, rfl⟩
theorem strs_sortable {a : Addr} {vs : List Value} {ss : List Str} (hS : StrsAre vs ss) (h2 : 2 ≤ vs.length) : SortableO prog w A s a vs ltSv := by
  intro h' _
  refine ⟨oneType', fun Q E hq => ?_, str_cmp hS⟩
  match vs, hS, h2 with
  | v1 :: v2 :: rest, hS, _ =>
    rw [keyKind_strs hS]
    exact wpAny_pure hq
  | [], _, h => exact absurd h (by decide)
  | [v], _, h => exact absurd h (by simp)
theorem collect_sq {l : Addr} {T : String} {o : Obj} {n : Nat} {vs : List Value} {Q : List Value → Shared → Prop} (hT : T = "list" ∨ T = "tuple") (ho : s.heap.get? l = some o) (hc : o.cls = .type T) (hd : o.data = .seq vs.toArray n)
    (h : Q vs { s with heap := (s.heap.push (seqObj "list" #[] 0)).update s.heap.objs.size (Obj.mapSeq (· ++ vs.toArray)) }) (hsz : vs.length ≤ sizeLine) :
    wpAny (model prog w) A (collect (.ref l)) Q E s := by
  unfold collect
  refine wpAny_bind (wpAny_runValue (codeAny_builtin entry_proto_collect' ?_))
  show wpAny _ _ (do again (.builtin "list.__iadd__" ⟨[← newList [], .ref l], []⟩)) _ _ s
  refine wpAny_bind (wpAny_newList (wpAny_pure ⟨Code.quiet_builtin _ (by decide +kernel), codeAny_builtin entry_list_iadd' ?_⟩))
  show wpAny _ _ (Builtin.List.listExtendWith (.ref s.heap.objs.size) (.ref l) (.ref s.heap.objs.size)) _ _ { s with heap := s.heap.push (seqObj "list" #[] 0) }
  unfold Builtin.List.listExtendWith
  have ho' : (s.heap.push (seqObj "list" #[] 0)).get? l = some o := Heap.get?_push_of_some _ ho
  refine wpAny_bind (wpAny_typeOf (T := T) ⟨o, ho', hc⟩ ?_)
  have ht1 : (Value.type "list" == Value.type "list") = true := by rfl
  have ht2 : (Value.type "tuple" == Value.type "tuple") = true := by rfl
  rw [if_pos (by rcases hT with rfl | rfl <;> simp [ht1, ht2])]
  refine wpAny_bind (listItems_at ho' hd ?_)
  refine wpAny_bind (listItems_at (xs := #[]) (n := 0) (Heap.get?_push_size _ rfl) rfl ?_)
  rw [if_neg (by simp)]
  refine wpAny_bind (listUpdate_at (xs := #[]) (n := 0) (Heap.get?_push_size _ rfl) rfl ?_ (Nat.zero_le _) (by show (#[] ++ vs.toArray).size ≤ sizeLine + 1; simp only [Array.size_append, List.size_toArray, List.length_nil]; omega))
  refine wpAny_pure ?_
  show wpAny (model prog w) A (do
      let o ← load s.heap.objs.size
      match o.data with
      | .seq xs _ => pure xs.toList
      | _ => unsupported "internal:collect") Q E { s with heap := (s.heap.push (seqObj "list" #[] 0)).update s.heap.objs.size (Obj.mapSeq (· ++ vs.toArray)) }
  refine wpAny_bind (wpAny_load (get?_update_seq (Heap.get?_push_size _ rfl) _) ?_)
  show wpAny _ _ (pure ((#[] : Array Value) ++ vs.toArray).toList) Q E _
  rw [show ((#[] : Array Value) ++ vs.toArray).toList = vs by simp]
  exact wpAny_pure h
theorem sorted_sq {l : Addr} {T : String} {o : Obj} {n : Nat} {vs : List Value} {ltv : Value → Value → Bool} {Q : Value → Shared → Prop} (O : Swo ltv) (hT : T = "list" ∨ T = "tuple") (ho : s.heap.get? l = some o) (hc : o.cls = .type T) (hd : o.data = .seq vs.toArray n) (hz : vs.length ≤ sizeLine)
    (hS : 2 ≤ vs.length → ∀ (h₁ : Heap) (a : Addr), SortableO prog w A.in1.in1 { s with heap := h₁ } a vs ltv)
    (h : ∀ out : List Value, Srtd ltv out → Stb ltv out vs → Q (.ref (s.heap.objs.size + 1)) { s with heap := sortedAll s.heap vs out.toArray }) :
    wpAny (model prog w) A (call (.builtin "sorted") [.ref l]) Q E s := by
  refine Calls.call_function_entry kind_sorted plain_sorted entry_sorted (args_sorted1 _) ?_
  unfold Builtin.«sorted»
  refine wpAny_bind (m := checkCount "sorted" 1 1 _) (wpAny_pure ?_)
  refine wpAny_bind (collect_sq hT ho hc hd ?_ hz)
  refine wpAny_bind (wpAny_newList ?_ hz)
  have hsz : ((s.heap.push (seqObj "list" #[] 0)).update s.heap.objs.size (Obj.mapSeq (· ++ vs.toArray))).objs.size = s.heap.objs.size + 1 := by
    rw [Heap.size_update, size_push']
  have hoL : (((s.heap.push (seqObj "list" #[] 0)).update s.heap.objs.size (Obj.mapSeq (· ++ vs.toArray))).push (seqObj "list" vs.toArray 0)).get? (s.heap.objs.size + 1) = some (seqObj "list" vs.toArray 0) := by
    rw [← hsz]; exact Heap.get?_push_size _ rfl
  show wpAny _ _ _ _ _ { s with heap := ((s.heap.push (seqObj "list" #[] 0)).update s.heap.objs.size (Obj.mapSeq (· ++ vs.toArray))).push (seqObj "list" vs.toArray 0) }
  rw [hsz]
  refine wpAny_bind (wpAny_holding (wpAny_call_entry slot_list_sort ⟨_, hoL, rfl⟩ entry_list_sort (list_sort_ord O hoL hz (fun h2 => hS h2 _ _) fun out hs hb => ⟨_, rfl, ?_⟩) (args_list_sort _)))
  exact wpAny_pure ⟨_, rfl, h out hs hb⟩
end
def strLe (x y : Str) : Prop := ¬ (y.cps.toList < x.cps.toList)
instance (x y : Str) : Decidable (strLe x y) := by unfold strLe; infer_instance
theorem strLe_anti {x y : Str} (h1 : strLe x y) (h2 : strLe y x) : x = y := by
  have e : x.cps.toList = y.cps.toList := List.le_antisymm (List.not_lt.mp h1) (List.not_lt.mp h2)
  cases x; cases y; simp at e; simp [e]
theorem sorted_one {l m n : List Str} (h1 : l.Perm n) (h2 : m.Perm n) (p1 : l.Pairwise strLe) (p2 : m.Pairwise strLe) : l = m :=
  List.Perm.eq_of_pairwise (fun _ _ _ _ a b => strLe_anti a b) p1 p2 (h1.trans h2.symm)
def fSortS : FN := fun xs Q => ∃ ss tt : List Str, (xs = [.tuple (ss.map .str)] ∨ xs = [.list (ss.map .str)]) ∧ tt.Perm ss ∧ tt.Pairwise strLe ∧ Q (.own (tt.map .str))
theorem br_strs {K : PySem.W.Frag} {H : Hp} : ∀ {ns : List Str} {vs : List V}, BrA K H vs (ns.map PyData.str) → vs = ns.map V.str
  | [], _, h => by cases h; rfl
  | n :: ns, _, h => by
    cases h with
    | cons h1 h2 => cases h1; rw [br_strs h2]; rfl
theorem strs_br {K : PySem.W.Frag} {H : Hp} : ∀ ns : List Str, BrA K H (ns.map V.str) (ns.map PyData.str)
  | [] => .nil
  | _ :: ns => .cons (.str _) (strs_br ns)
theorem vals_strsAre : ∀ {ss : List Str} {vs : List Value}, Vals (ss.map V.str) vs → StrsAre vs ss
  | [], _, h => by cases h; exact .nil
  | _ :: _, _, h => by
    cases h with
    | cons r h2 => obtain ⟨t, rfl⟩ := r; exact .cons _ t (vals_strsAre h2)
theorem strsAre_vals : ∀ {ss : List Str} {vs : List Value}, StrsAre vs ss → Vals (ss.map V.str) vs
  | _, _, .nil => .nil
  | _, _, .cons x t h => .cons ⟨t, rfl⟩ (strsAre_vals h)
theorem c_sortedS {X : Cx} {L : Lay} (hK : L.K = X.K) : CallR X (.builtin "sorted") (rN L fSortS) := by
  intro pins s σ H vs us Q' I r q
  obtain ⟨xs, Q, b, ⟨ss, tt, hx, hp, ho, q⟩, fin⟩ := q
  have go : ∀ (a : Addr) (T : String) (its : List Value) (o : Obj) (n : Nat), T = "list" ∨ T = "tuple" → s.heap.get? a = some o → o.cls = .type T → o.data = .seq its.toArray n → Vals (ss.map V.str) its → (ss.map V.str).length ≤ sizeLine →
      wpAny (model X.prog X.w) X.A (call (.builtin "sorted") [.ref a]) (EP X pins σ Q') X.xe s := by
    intro a T its o n hT h1 h2 h3 rv hz
    have hS := vals_strsAre rv
    refine sorted_sq swo_str hT h1 h2 h3 (by rw [← rv.length]; exact hz) (fun h2 h₁ a' => strs_sortable hS h2) fun out k1 k2 => ?_
    have hO : StrsAre out (out.map strOf) := strsAre_map out fun v hv => hS.all v (k2.perm.mem_iff.mp hv)
    have hP : (out.map strOf).Perm ss := by
      have q := k2.perm.map strOf
      rw [hS.strs] at q; exact q
    have hW : (out.map strOf).Pairwise strLe := List.pairwise_map.mpr (k1.imp fun {x y} h => of_decide_eq_false h)
    have e := sorted_one hP hp hW ho
    rw [e] at hO
    obtain ⟨ep, he'⟩ := PyProof.Rows.sortedAll_at s.heap its out.toArray
    have hlen : (tt.map V.str).length ≤ sizeLine := by
      rw [List.length_map, hp.length_eq]
      rw [List.length_map] at hz
      exact hz
    refine ⟨.ref _, upd H (s.heap.objs.size + 1) (.lst (tt.map V.str)), I.laid (t' := s.toks) (fun _ _ => PyProof.Rows.sortedAll_old) (Nat.le_succ _) ⟨hlen, out, ep, strsAre_vals hO, he'⟩, rfl, ?_⟩
    have hl := I.hok.fresh (Nat.le_succ s.heap.objs.size)
    exact fin _ _ (.own _) (same_new hl) ⟨_, _, rfl, hl, upd_same, strs_br tt⟩ q
  rcases hx with rfl | rfl
  · obtain ⟨v, rfl, b1⟩ := brA1 hK b
    have b1 : Br X.K H v (.tuple (ss.map .str)) := hK ▸ b1
    cases b1 with
    | tup h1 h3 =>
      obtain rfl := br_strs h3
      obtain ⟨its, rv, ⟨o, e1, e2, n, e3⟩, hz⟩ := I.tuple h1
      rw [Vals.ref1 r]
      exact go _ _ its o n (.inr rfl) e1 e2 e3 rv hz
  · obtain ⟨v, rfl, b1⟩ := brA1 hK b
    obtain ⟨a, ws, rfl, h1, h3⟩ := list_sq hK b1
    obtain rfl := br_strs h3
    obtain ⟨its, rv, ⟨o, n, e1, e2, _, e3⟩, hz⟩ := I.list h1
    rw [Vals.ref1 r]
    exact go _ _ its o n (.inl rfl) e1 e2 e3 rv hz
end GB

set_option maxRecDepth 100000
namespace GB
open PySem PySem.Spec PyProof.Rows L2
/-! the truth of a tuple -/
def dTu (t : TEd) : TTd := fun ρ Q => t ρ fun s ρ1 => ∃ xs, s = .d (.tuple xs) ∧ Q (!xs.isEmpty) ρ1
theorem dt_tu {X : Cx} {L : Lay} {e : Expr} {t : TEd} (hK : L.K = X.K) (h : PE X e (tE L t)) (he : ∀ whole, isTrue e X.env whole = (do let v ← whole; standAt e.pos; holding [v] (truthy v)) := by intro _; rfl) : PT X e (tT L (dTu t)) :=
  (pt_truth h he).less fun σ H Q' h => by
    obtain ⟨ρ, Q, r0, q, fin⟩ := h
    refine (show tE L t σ H _ from ⟨ρ, _, r0, q, fun v H1 s ρ1 k1 r1 hv q1 => ?_⟩)
    obtain ⟨xs, rfl, q2⟩ := q1
    have hv : Br L.K H1 v (.tuple xs) := hv
    cases hv with
    | @tup a vs _ h1 h3 =>
      have e : vs.isEmpty = xs.isEmpty := by
        have := h3.len
        cases vs <;> cases xs <;> first | rfl | simp at this
      refine ⟨!vs.isEmpty, .inr (.inl ⟨vs, hK ▸ h1, rfl⟩), ?_⟩
      rw [e]
      exact fin _ H1 ρ1 k1 r1 q2
end GB

set_option maxRecDepth 100000
namespace GB
open PySem PySem.Spec PyProof.Rows L2
/-! any, of a list of bools -/
def fAny : FN := fun xs Q => ∃ bs : List Bool, xs = [.list (bs.map .bool)] ∧ Q (.d (.bool (bs.any id)))
theorem br_bls {K : PySem.W.Frag} {H : Hp} : ∀ {bs : List Bool} {vs : List V}, BrA K H vs (bs.map PyData.bool) → vs = bs.map V.bl
  | [], _, h => by cases h; rfl
  | n :: ns, _, h => by
    cases h with
    | cons h1 h2 => cases h1; rw [br_bls h2]; rfl
theorem c_any {X : Cx} {L : Lay} (hK : L.K = X.K) (gd : Good X) : CallR X (.builtin "any") (rN L fAny) := by
  intro pins s σ H vs us Q' I r q
  obtain ⟨xs, Q, b, ⟨bs, rfl, q⟩, fin⟩ := q
  obtain ⟨v, rfl, b1⟩ := brA1 hK b
  obtain ⟨a, ws, rfl, h1, h3⟩ := list_sq hK b1
  obtain rfl := br_bls h3
  exact cr_any gd.calm pins s σ H _ us Q' I r ⟨a, bs, rfl, h1, fin _ H (.d (.bool (bs.any id))) (Same.refl H) (.bl _) q⟩
end GB

set_option maxRecDepth 100000
namespace GB
open PySem PySem.Spec PyProof.Rows L2
/-! the truth of a list -/
def dLu (t : TEd) : TTd := fun ρ Q => t ρ fun s ρ1 => ∃ xs, s = .d (.list xs) ∧ Q (!xs.isEmpty) ρ1
theorem dt_lu {X : Cx} {L : Lay} {e : Expr} {t : TEd} (hK : L.K = X.K) (h : PE X e (tE L t)) (he : ∀ whole, isTrue e X.env whole = (do let v ← whole; standAt e.pos; holding [v] (truthy v)) := by intro _; rfl) : PT X e (tT L (dLu t)) :=
  (pt_truth h he).less fun σ H Q' h => by
    obtain ⟨ρ, Q, r0, q, fin⟩ := h
    refine (show tE L t σ H _ from ⟨ρ, _, r0, q, fun v H1 s ρ1 k1 r1 hv q1 => ?_⟩)
    obtain ⟨xs, rfl, q2⟩ := q1
    have hv : Br L.K H1 v (.list xs) := hv
    cases hv with
    | @lst a o vs _ h1 h2 h3 =>
      have e : vs.isEmpty = xs.isEmpty := by
        have := h3.len
        cases vs <;> cases xs <;> first | rfl | simp at this
      refine ⟨!vs.isEmpty, .inl ⟨vs, .inl (.inr ⟨o, h1⟩), rfl⟩, ?_⟩
      rw [e]
      exact fin _ H1 ρ1 k1 r1 q2
end GB

set_option maxRecDepth 100000
namespace GB
open PySem PySem.Spec PyProof.Rows L2
/-! sum of ints -/
def fSum : FN := fun xs Q => ∃ ns : List Int, xs = [.list (ns.map .int)] ∧ Q (.d (.int ns.sum))
theorem c_sum {X : Cx} {L : Lay} (hK : L.K = X.K) (gd : Good X) : CallR X (.builtin "sum") (rN L fSum) := by
  intro pins s σ H vs us Q' I r q
  obtain ⟨xs, Q, b, ⟨ns, rfl, q⟩, fin⟩ := q
  obtain ⟨v, rfl, b1⟩ := brA1 hK b
  obtain ⟨a, ws, rfl, h1, h3⟩ := list_sq hK b1
  obtain rfl := br_ints h3
  exact cr_sum gd.calm pins s σ H _ us Q' I r ⟨a, ns, rfl, h1, fin _ H (.d (.int ns.sum)) (Same.refl H) (.int _) q⟩
/-! the draws' store as a list: a list of ints (closed), a list of ints (for good), two ints -/
def vsS (l0 l1 : Addr) (s t : Int) : List V := [.ref l0, .ref l1, .int s, .int t]
def hoS (a l0 l1 : Addr) : HO := .ext fun h => ∃ s t : Int, ∃ (its : List Value) (n : Nat), Vals (vsS l0 l1 s t) its ∧ h.get? a = some { cls := .type "list", data := .seq its.toArray n }
theorem hoS_ok {P : Program} {w : World} {H : Hp} {h : Heap} {a l0 l1 : Addr} {s t : Int} (q : ObjOk P w H h a (.lst (vsS l0 l1 s t))) : ObjOk P w H h a (hoS a l0 l1) := by
  obtain ⟨z, its, n, r, e⟩ := q
  exact ⟨⟨s, t, its, n, r, e⟩, ⟨_, e⟩, fun h1 h2 ⟨s', t', its', n', r', e'⟩ k => ⟨s', t', its', n', r', k _ e'⟩⟩
def StoS (a : Addr) (H : Hp) : Prop := ∃ l0 l1 o is, H a = some (hoS a l0 l1) ∧ H l0 = some (hoL l0) ∧ l0 ≠ a ∧ H l1 = some (.frz o (.lst (is.map V.int))) ∧ is ≠ []
theorem stoS_keep : ∀ a H H', Keep H H' → StoS a H → StoS a H' := fun a H H' k ⟨l0, l1, o, is, h1, h2, h3, h4, h5⟩ => ⟨l0, l1, o, is, k _ _ h1 trivial, k _ _ h2 trivial, h3, k _ _ h4 trivial, h5⟩
def opnS (H : Hp) (a l0 l1 : Addr) (s t : Int) (js : List Int) : Hp := upd (upd H a (.lst (vsS l0 l1 s t))) l0 (.lst (js.map V.int))
def clsS (H : Hp) (a l0 l1 : Addr) : Hp := upd (upd H a (hoS a l0 l1)) l0 (hoL l0)
structure OpnS (H : Hp) (a l0 l1 : Addr) (s t : Int) (js : List Int) : Prop where
  ha : H a = some (.lst (vsS l0 l1 s t))
  hl : H l0 = some (.lst (js.map V.int))
  ne : l0 ≠ a
theorem clsS_opn {H H1 : Hp} {a l0 l1 : Addr} (ha : H a = some (hoS a l0 l1)) (hl : H l0 = some (hoL l0)) (h : ∀ b, b ≠ a → b ≠ l0 → H1 b = H b) : clsS H1 a l0 l1 = H := by
  funext b
  unfold clsS
  by_cases h1 : b = l0
  · subst h1; rw [upd_same, hl]
  · rw [upd_ne h1]
    by_cases h2 : b = a
    · subst h2; rw [upd_same, ha]
    · rw [upd_ne h2]; exact h b h2 h1
theorem opnS_off {H : Hp} {a l0 l1 : Addr} {s t : Int} {js : List Int} {b : Addr} (h1 : b ≠ a) (h2 : b ≠ l0) : opnS H a l0 l1 s t js b = H b := by unfold opnS; rw [upd_ne h2, upd_ne h1]
section
variable {X : Cx} {e : Expr} {st : Stmt} {sts : List Stmt} {t : TE} {tt : TT} {ts : TS}
theorem closeS_of {pins : List (Addr × Obj)} {σ : L2.St} {H : Hp} {s : Shared} (I : Inv X pins σ H s) {a l0 l1 : Addr} {x y : Int} {js : List Int} (o : OpnS H a l0 l1 x y js) : Inv X pins σ (clsS H a l0 l1) s := by
  have h1 := o.ha
  have h2 := o.hl
  have ne := o.ne
  have I1 := swap_inv I (v := hoS a l0 l1) h1 trivial (hoS_ok (s := x) (t := y) ((I.hok a _ h1).stay (fun _ _ _ z => z) (fun c q => by rw [upd_ne (fun z => by rw [z, h1] at q; cases q)]; exact q) fun c xs q => by rw [upd_ne (fun z => by rw [z, h1] at q; cases q)]; exact q))
  have e2 : (upd H a (hoS a l0 l1)) l0 = some (.lst (js.map V.int)) := by rw [upd_ne ne]; exact h2
  exact swap_inv I1 (v := hoL l0) e2 trivial (hoL_ok (is := js) ((I1.hok l0 _ e2).stay (fun _ _ _ z => z) (fun c q => by rw [upd_ne (fun z => by rw [z, e2] at q; cases q)]; exact q) fun c xs q => by rw [upd_ne (fun z => by rw [z, e2] at q; cases q)]; exact q))
theorem openS_of {pins : List (Addr × Obj)} {σ : L2.St} {H : Hp} {s : Shared} (I : Inv X pins σ H s) {a l0 l1 : Addr} (ha : H a = some (hoS a l0 l1)) (hl : H l0 = some (hoL l0)) (ne : l0 ≠ a) :
    ∃ x y js, js.length ≤ sizeLine ∧ Inv X pins σ (opnS H a l0 l1 x y js) s := by
  obtain ⟨⟨x, y, its, n, z1, z2⟩, _⟩ := I.hok a _ ha
  have I1 := swap_inv I (v := .lst (vsS l0 l1 x y)) ha trivial ⟨(show (4 : Nat) ≤ sizeLine by decide), its, n, z1, z2⟩
  have e2 : (upd H a (.lst (vsS l0 l1 x y))) l0 = some (hoL l0) := by rw [upd_ne ne]; exact hl
  obtain ⟨⟨js, y1, its2, n2, y2, y3⟩, _⟩ := I1.hok l0 _ e2
  have I2 := swap_inv I1 (v := .lst (js.map V.int)) e2 trivial ⟨by rw [List.length_map]; exact y1, its2, n2, y2, y3⟩
  exact ⟨x, y, js, y1, I2⟩
def OpensS (H : Hp) (go : Hp → Addr → Addr → Addr → Int → Int → List Int → Prop) : Prop :=
  ∃ a l0 l1, H a = some (hoS a l0 l1) ∧ H l0 = some (hoL l0) ∧ l0 ≠ a ∧ ∀ x y js, js.length ≤ sizeLine → OpnS (opnS H a l0 l1 x y js) a l0 l1 x y js → go (opnS H a l0 l1 x y js) a l0 l1 x y js
theorem opensS_inv {pins : List (Addr × Obj)} {σ : L2.St} {H : Hp} {s : Shared} (I : Inv X pins σ H s) {go : Hp → Addr → Addr → Addr → Int → Int → List Int → Prop} (h : OpensS H go) :
    ∃ a l0 l1 x y js, Inv X pins σ (opnS H a l0 l1 x y js) s ∧ go (opnS H a l0 l1 x y js) a l0 l1 x y js := by
  obtain ⟨a, l0, l1, ha, hl, ne, q⟩ := h
  obtain ⟨x, y, js, z, I2⟩ := openS_of I ha hl ne
  exact ⟨a, l0, l1, x, y, js, I2, q x y js z ⟨by unfold opnS; rw [upd_ne (Ne.symm ne), upd_same], by unfold opnS; exact upd_same, ne⟩⟩
theorem pe_openS (h : PE X e t) : PE X e (fun σ H Q => OpensS H fun H1 _ _ _ _ _ _ => t σ H1 Q) := ⟨fun pins s σ H Q I q => by
  obtain ⟨a, l0, l1, x, y, js, I2, q⟩ := opensS_inv I q
  exact h.run pins s σ _ Q I2 q⟩
theorem pe_openedS (h : PE X e t) : PE X e (fun σ H Q => t σ H fun v H1 => OpensS H1 fun H2 _ _ _ _ _ _ => Q v H2) := ⟨fun pins s σ H Q I q => by
  refine thn (h.run pins s σ H _ I q) fun u s1 z => ?_
  obtain ⟨v, H1, I1, rv, q1⟩ := z
  obtain ⟨a, l0, l1, x, y, js, I2, q2⟩ := opensS_inv I1 q1
  exact ⟨v, _, I2, rv, q2⟩⟩
theorem pe_closedS (h : PE X e t) : PE X e (fun σ H Q => t σ H fun v H1 => ∃ a l0 l1 x y js, OpnS H1 a l0 l1 x y js ∧ Q v (clsS H1 a l0 l1)) := ⟨fun pins s σ H Q I q => by
  refine thn (h.run pins s σ H _ I q) fun u s1 z => ?_
  obtain ⟨v, H1, I1, rv, a, l0, l1, x, y, js, o, q2⟩ := z
  exact ⟨v, _, closeS_of I1 o, rv, q2⟩⟩
theorem pss_closingS (h : PSs X sts ts) : PSs X sts (fun D σ H => ∃ a l0 l1 x y js, OpnS H a l0 l1 x y js ∧ ts D σ (clsS H a l0 l1)) := ⟨fun pins s σ H D I q => by
  obtain ⟨a, l0, l1, x, y, js, o, q⟩ := q
  exact h.run pins s σ _ D (closeS_of I o) q⟩
theorem ps_openS (h : PS X st ts) : PS X st (fun D σ H => OpensS H fun H1 _ _ _ _ _ _ => ts D σ H1) := ⟨fun pins s σ H D I q => by
  obtain ⟨a, l0, l1, x, y, js, I2, q⟩ := opensS_inv I q
  exact h.run pins s σ _ D I2 q⟩
theorem ps_closedS (h : PS X st ts) : PS X st (fun D σ H => ts { D with nx := fun σ1 H1 => ∃ a l0 l1 x y js, OpnS H1 a l0 l1 x y js ∧ D.nx σ1 (clsS H1 a l0 l1) } σ H) := ⟨fun pins s σ H D I q => by
  refine thn (h.run pins s σ H _ I q) fun f s1 z => ?_
  match f, z with
  | .next, ⟨σ1, H1, I1, a, l0, l1, x, y, js, o, q2⟩ => exact ⟨σ1, _, closeS_of I1 o, q2⟩
  | .brk, z => exact z
  | .cont, z => exact z
  | .ret u, z => exact z⟩
end
section
variable {X : Cx} {L : Lay} {o o1 o2 o3 w1 w2 m1 m2 : Expr} {pos p1 p2 p3 p4 p5 p6 p7 p8 p9 p10 p11 p12 p13 p14 p15 p16 p17 p18 : Pos} {i j j1 j2 j3 it iw im : Nat} {t : TEd} {tb : TSd} {rest : List Stmt} {x : Str}
theorem at_S {l0 l1 : Addr} {a b : Int} : atI (vsS l0 l1 a b) 0 = some (.ref l0) ∧ atI (vsS l0 l1 a b) 1 = some (.ref l1) ∧ atI (vsS l0 l1 a b) 2 = some (.int a) ∧ atI (vsS l0 l1 a b) 3 = some (.int b) :=
  ⟨atI_nat (j := 0) rfl, atI_nat (j := 1) rfl, atI_nat (j := 2) rfl, atI_nat (j := 3) rfl⟩
/-- a number of the store: its places 2 and 3 -/
theorem de_sint {k : Int} (hJ : ∀ a H, L.J.ok .jar a H → StoS a H) (hk : k = 2 ∨ k = 3) (ho : PE X o (tVar i)) : PE X (.Subscript o (.Constant (.int k) j p1) pos) (tE L (dJInt i)) :=
  (pe_openS (pe_closedS (pe_ix ix_list ho pe_int fun _ _ => rfl))).less fun σ H Q' q => by
    obtain ⟨ρ, Q, r, ⟨ej, q⟩, fin⟩ := q
    obtain ⟨o, e2, a, rfl, ja⟩ := r.get ej
    obtain ⟨l0, l1, o', is, ha, hl, ne, hl1, _⟩ := hJ a H ja
    refine ⟨a, l0, l1, ha, hl, ne, fun x y js z op => ?_⟩
    have fin' : ∀ n : Int, Q' (.int n) (clsS (opnS H a l0 l1 x y js) a l0 l1) := fun n => by
      rw [clsS_opn ha hl fun b h1 h2 => opnS_off h1 h2]
      exact fin _ _ (.d (.int n)) ρ Go.rf r (.int n) (q n)
    refine ⟨.ref a, e2, ?_⟩
    rcases hk with rfl | rfl
    · exact ⟨a, _, _, _, rfl, rfl, .inl (.inl op.ha), at_S.2.2.1, a, l0, l1, x, y, js, op, fin' _⟩
    · exact ⟨a, _, _, _, rfl, rfl, .inl (.inl op.ha), at_S.2.2.2, a, l0, l1, x, y, js, op, fin' _⟩
/-- a number put into the store, at its place 3 -/
theorem ds_sput {v : Expr} (hJ : ∀ a H, L.J.ok .jar a H → StoS a H) (ho : PE X o (tVar i)) (hv : PE X v (tE L t))
    (hw : swappedStores [.Subscript o (.Constant (.int 3) j p1) p2] v X.env = pure none := by rfl) (hs : swapsWithSole [.Subscript o (.Constant (.int 3) j p1) p2] v pos.line X.env = pure false := by rfl)
    (h1 : (assignEach [.Subscript o (.Constant (.int 3) j p1) p2] X.env).map (·.2) = [assign (.Subscript o (.Constant (.int 3) j p1) p2) X.env] := by rfl)
    (ha : ∀ v, assign (.Subscript o (.Constant (.int 3) j p1) p2) X.env v = (do
      let ov ← holding [v] (eval o X.env)
      let iv ← holding [v, ov] (eval (.Constant (.int 3) j p1) X.env)
      standAt p2
      holding [v, ov, iv] (setItem ov iv v)
      release [v, ov, iv] []) := by intro _; rfl) :
    PS X (.Assign [.Subscript o (.Constant (.int 3) j p1) p2] v pos) (tS L (dJPut i t)) :=
  (ps_closedS (ps_asg (pe_openedS hv) (pg_sub ho pe_int set_list ha) hs hw h1)).less fun D σ H q => by
    obtain ⟨ρ, De, r, q, n1, _⟩ := q
    refine ⟨ρ, _, r, q, fun v H1 s ρ1 go r1 hv q1 => ?_⟩
    obtain ⟨n, rfl, ej, q2⟩ := q1
    have hv : Br L.K H1 v (.int n) := hv
    cases hv
    obtain ⟨o, e2, a, rfl, ja⟩ := r1.get ej
    obtain ⟨l0, l1, o', is, ha, hl, ne, hl1, _⟩ := hJ a H1 ja
    refine ⟨a, l0, l1, ha, hl, ne, fun x y js z op => ⟨.ref a, e2, a, _, 3, 3, rfl, rfl, op.ha, rfl, a, l0, l1, x, n, js, ⟨upd_same, by rw [upd_ne op.ne]; exact op.hl, op.ne⟩, ?_⟩⟩
    rw [clsS_opn ha hl fun b h1 h2 => by rw [upd_ne h1]; exact opnS_off h1 h2]
    exact n1 _ _ _ (go.keep r) r1 q2
/-- a number of the list that stays -/
def dJMix (i it : Nat) : TEd := fun ρ Q => ρ[i]? = some (.ob .jar) ∧ (∃ m : Int, ρ[it]? = some (.d (.int m))) ∧ ∀ n : Int, Q (.d (.int n)) ρ
theorem de_smix (hJ : ∀ a H, L.J.ok .jar a H → StoS a H) (ho1 : PE X o1 (tVar i)) (ho2 : PE X o2 (tVar i)) (hw1 : PE X w1 (tVar it))
    (gi : Gl X "int") (mi : X.mg "int" = none) (gl : Gl X "len") (ml : X.mg "len" = none)
    (s1 : starEach [w1] X.env = (false, eval w1 X.env) :: starEach [] X.env := by rfl) (s2 : starEach [.Subscript o2 (.Constant (.int 1) j2 p3) p4] X.env = (false, eval (.Subscript o2 (.Constant (.int 1) j2 p3) p4) X.env) :: starEach [] X.env := by rfl)
    (b1 : (backTo p6 (starEach [] X.env)).any (·.1) = false := by rfl) (b2 : (backTo p8 (starEach [] X.env)).any (·.1) = false := by rfl)
    (hp : PlainIx (.BinOp (.Call (.Name "int" p5) [w1] [] p6) .Mod (.Call (.Name "len" p7) [.Subscript o2 (.Constant (.int 1) j2 p3) p4] [] p8) p9) := by exact fun _ _ => rfl) :
    PE X (.Subscript (.Subscript o1 (.Constant (.int 1) j1 p1) p2) (.BinOp (.Call (.Name "int" p5) [w1] [] p6) .Mod (.Call (.Name "len" p7) [.Subscript o2 (.Constant (.int 1) j2 p3) p4] [] p8) p9) pos) (tE L (dJMix i it)) :=
  (pe_openS (pe_closedS (pe_ix ix_list (pe_ix ix_list ho1 pe_int fun _ _ => rfl) (pe_op op_mod (pe_callTy call_int1 gi mi (by decide +kernel) (pa_cons hw1 pa_nil s1) (by decide) (by decide) s1 b1) (pe_callB call_len_seq gl ml (by decide +kernel) (pa_cons (pe_ix ix_list ho2 pe_int fun _ _ => rfl) pa_nil s2) (by decide) (by decide) s2 b2)) hp))).less fun σ H Q' q => by
    obtain ⟨ρ, Q, r, ⟨ej, ⟨m, em⟩, q⟩, fin⟩ := q
    obtain ⟨o, e2, a, rfl, ja⟩ := r.get ej
    obtain ⟨vm, em2, bm⟩ := r.getD em
    cases bm
    obtain ⟨l0, l1, o', is, ha, hl, ne, hl1, hne⟩ := hJ a H ja
    refine ⟨a, l0, l1, ha, hl, ne, fun x y js z op => ?_⟩
    have n1a : l1 ≠ a := fun z => by rw [z, ha] at hl1; cases hl1
    have n10 : l1 ≠ l0 := fun z => by rw [z, hl] at hl1; cases hl1
    have q1 : SqL X.K (opnS H a l0 l1 x y js) l1 (is.map V.int) := .inl (.inr ⟨o', by rw [opnS_off n1a n10]; exact hl1⟩)
    have hpos : 0 < is.length := List.length_pos_iff.mpr hne
    have hp2 : (0 : Int) < ((is.map V.int).length : Nat) := by rw [List.length_map]; omega
    have c0 := Int.emod_nonneg m (show (((is.map V.int).length : Nat) : Int) ≠ 0 by omega)
    have c1 := Int.emod_lt_of_pos m hp2
    have c2 : (m % (((is.map V.int).length : Nat) : Int)).toNat < (is.map V.int).length := by omega
    have c3 : (m % (((is.map V.int).length : Nat) : Int)).toNat < is.length := by rw [List.length_map] at c2; rw [List.length_map]; exact c2
    have g1 : atI (is.map V.int) (m % (((is.map V.int).length : Nat) : Int)) = some (.int is[(m % (((is.map V.int).length : Nat) : Int)).toNat]) := by
      have h := atI_nat (xs := is.map V.int) (j := (m % (((is.map V.int).length : Nat) : Int)).toNat) (v := .int is[(m % (((is.map V.int).length : Nat) : Int)).toNat]) (by rw [List.getElem?_map, List.getElem?_eq_getElem c3]; rfl)
      rw [show (((m % (((is.map V.int).length : Nat) : Int)).toNat : Nat) : Int) = m % (((is.map V.int).length : Nat) : Int) by omega] at h
      exact h
    refine ⟨.ref a, e2, a, _, _, _, rfl, rfl, .inl (.inl op.ha), at_S.2.1, _, em2, .inl ⟨m, rfl, .ref a, e2, a, _, _, _, rfl, rfl, .inl (.inl op.ha), at_S.2.1, l1, _, rfl, .inl q1, _, _, rfl, rfl, hp2, l1, _, _, _, rfl, rfl, q1, g1, a, l0, l1, x, y, js, op, ?_⟩⟩
    rw [clsS_opn ha hl fun b h1 h2 => opnS_off h1 h2]
    exact fin _ _ (.d (.int _)) ρ Go.rf r (.int _) (q _)
/-- what comes behind the digit -/
theorem spop_end {H : Hp} {σ : L2.St} {ρ : En} (r : Rel L H σ ρ) {a l0 l1 p : Addr} {x y : Int} {js ks : List Int} {iw : Nat} {n : Int} {H3 : Hp} {tb : TSd} {D : Ends} {De : EndsD} (ha : H a = some (hoS a l0 l1)) (hl : H l0 = some (hoL l0)) (op : OpnS (opnS H a l0 l1 x y js) a l0 l1 x y js) (hp : opnS H a l0 l1 x y js p = none)
    (h3 : H3 = upd (upd (opnS H a l0 l1 x y js) p (.lst [])) l0 (.lst (ks.map V.int))) (qn : tb { De with nx := fun _ => False } (ρ.set iw (.d (.int n))))
    (n2 : ∀ v H' s, Keep H H' → Same L.H0 H' → RR L H' v s → De.rt s → D.rt v H') (n3 : ∀ σ' H' ρ', Keep H H' → Rel L H' σ' ρ' → De.bk ρ' → D.bk σ' H') (n4 : ∀ σ' H' ρ', Keep H H' → Rel L H' σ' ρ' → De.ct ρ' → D.ct σ' H') (nx : L2.St → Hp → Prop) :
    ∃ a l0 l1 x y js, OpnS H3 a l0 l1 x y js ∧ tS L tb { D with nx := nx } (σ.set iw (some (.int n))) (clsS H3 a l0 l1) := by
  have pa : p ≠ a := fun z => by rw [z, op.ha] at hp; cases hp
  have pl : p ≠ l0 := fun z => by rw [z, op.hl] at hp; cases hp
  have hp0 : H p = none := (opnS_off pa pl).symm.trans hp
  refine ⟨a, l0, l1, x, y, ks, ⟨?_, ?_, op.ne⟩, ?_⟩
  · rw [h3, upd_ne (Ne.symm op.ne), upd_ne (Ne.symm pa)]; exact op.ha
  · rw [h3, upd_same]
  · have ec : clsS H3 a l0 l1 = upd H p (.lst []) := clsS_opn (H := upd H p (.lst [])) (by rw [upd_ne (Ne.symm pa)]; exact ha) (by rw [upd_ne (Ne.symm pl)]; exact hl) fun b h1 h2 => by
      rw [h3, upd_ne h2]
      by_cases hb : b = p
      · subst hb; rw [upd_same, upd_same]
      · rw [upd_ne hb, upd_ne hb]; exact opnS_off h1 h2
    have sm : Same H (upd H p (.lst [])) := same_new hp0
    have kp : Keep H (upd H p (.lst [])) := keep_of_same sm
    rw [ec]
    exact ⟨_, _, (r.go sm).setF (s := .d (.int n)) (.int n), qn, fun _ _ _ _ _ n => n.elim, fun v H' s k => n2 v H' s (kp.tr k), fun σ' H' ρ' k => n3 σ' H' ρ' (kp.tr k), fun σ' H' ρ' k => n4 σ' H' ρ' (kp.tr k)⟩
/-- while there is a great number, a digit of the last one -/
theorem ds_spop (gd : Good X) (hJ : ∀ a H, L.J.ok .jar a H → StoS a H) (hx : X.N[iw]? = some x) (hxl : X.env.scope.names.lookup x = some .local)
    (ho1 : PE X o1 (tVar i)) (ho2 : PE X o2 (tVar i)) (ho3 : PE X o3 (tVar i)) (hw1 : PE X w1 (tVar iw)) (hm1 : PE X m1 (tVar im)) (hw2 : PE X w2 (tVar iw)) (hm2 : PE X m2 (tVar im)) (hr : PSs X rest (tS L tb))
    (hb1 : attributeBase (.Subscript o2 (.Constant (.int 0) j2 p6) p7) "pop" X.env (eval (.Subscript o2 (.Constant (.int 0) j2 p6) p7) X.env) = eval (.Subscript o2 (.Constant (.int 0) j2 p6) p7) X.env := by rfl) (li1 : (p8.endLine == p9.line) = true := by rfl)
    (hb2 : attributeBase (.Subscript o3 (.Constant (.int 0) j3 p12) p13) "append" X.env (eval (.Subscript o3 (.Constant (.int 0) j3 p12) p13) X.env) = eval (.Subscript o3 (.Constant (.int 0) j3 p12) p13) X.env := by rfl)
    (fw2 : ((backTo p16 (starEach [.BinOp w2 .FloorDiv m2 p15] X.env)).all (fun x => !x.1) && (backToKw p16 (keywordEach [] X.env)).all (fun x => x.1.isSome) && decide (([.BinOp w2 .FloorDiv m2 p15] : List Expr).length + ([] : List Keyword).length + (if ([] : List Keyword).isEmpty then 0 else 1) < 30)) = true := by rfl)
    (li2 : (p14.endLine == p16.line) = true := by rfl) (st2 : starEach [.BinOp w2 .FloorDiv m2 p15] X.env = (false, eval (.BinOp w2 .FloorDiv m2 p15) X.env) :: starEach [] X.env := by rfl) (pl2 : (backTo p16 (starEach [] X.env)).any (·.1) = false := by rfl)
    (sw1 : swapsWith (.Call (.Attribute (.Subscript o2 (.Constant (.int 0) j2 p6) p7) "pop" p8) [] [] p9) (some (.Name x p5)) p10.line X.env = pure false := by rfl)
    (sw2 : swapsWith (.Call (.Attribute (.Subscript o3 (.Constant (.int 0) j3 p12) p13) "append" p14) [.BinOp w2 .FloorDiv m2 p15] [] p16) none p17.line X.env = pure false := by rfl) :
    PS X (.If (.Compare (.Subscript o1 (.Constant (.int 0) j1 p1) p2) [.NotEq] [.List [] p3] p4)
      (.Assign [.Name x p5] (.Call (.Attribute (.Subscript o2 (.Constant (.int 0) j2 p6) p7) "pop" p8) [] [] p9) p10 ::
        .If (.Compare w1 [.GtE] [m1] p11) [.Expr (.Call (.Attribute (.Subscript o3 (.Constant (.int 0) j3 p12) p13) "append" p14) [.BinOp w2 .FloorDiv m2 p15] [] p16) p17] [] p18 :: rest) [] pos)
      (tS L (dJPop i iw im tb)) :=
  (ps_openS (ps_closedS (ps_if (pt_cmpR (op_neD (by have := gd.un; omega)) (pe_ix ix_list ho1 pe_int fun _ _ => rfl) (pe_lst pa_nil) (nomark _))
    (pss_cons (ps_set (i := iw) gd.nd hx (.inl hxl) (pe_bm0 PySem.F.plainAttrs_list PySem.F.slot_list_pop PySem.F.type_list_pop mt_pop (pe_ix ix_list ho2 pe_int fun _ _ => rfl) hb1 li1) sw1 (.inr hxl))
      (pss_cons (ps_if (pt_cmpR op_ge hw1 hm1 (nomark _)) (pss_one (ps_expr (pe_bm PySem.F.plainAttrs_list PySem.F.slot_list_append PySem.F.type_list_append mt_append (pe_ix ix_list ho3 pe_int fun _ _ => rfl) (pa_cons (pe_op op_fdiv hw2 hm2) pa_nil st2) hb2 fw2 li2 st2 pl2) sw2)) pss_nil) (pss_closingS hr))) pss_nil))).less fun D σ H q => by
    obtain ⟨ρ, De, r, ⟨ej, ⟨m, em, m0, m1⟩, hlen, hi, hm, qn, qx⟩, n1, n2, n3, n4⟩ := q
    obtain ⟨ov, e2, a, rfl, ja⟩ := r.get ej
    obtain ⟨vm, em2, bm⟩ := r.getD em
    cases bm
    obtain ⟨l0, l1, o', ks, ha, hl, ne, hl1', _⟩ := hJ a H ja
    refine ⟨a, l0, l1, ha, hl, ne, fun x y is z op => ?_⟩
    refine ⟨.ref a, e2, a, _, _, _, rfl, rfl, .inl (.inl op.ha), at_S.1, Nat.zero_le _, fun p hp => ?_⟩
    have pa : p ≠ a := fun z => by rw [z, op.ha] at hp; cases hp
    have pl : p ≠ l0 := fun z => by rw [z, op.hl] at hp; cases hp
    refine ⟨.list (is.map .int), .list [], .lst (.inl (.inl (by rw [upd_ne (Ne.symm pl)]; exact op.hl))) (ints_dp is), .lst (.inl (.inl upd_same)) .nil, ints_shaped is, rfl, _, rfl, ?_⟩
    rw [ints_empty]
    have hl1 : (upd (opnS H a l0 l1 x y is) p (.lst [])) l0 = some (.lst (is.map V.int)) := by rw [upd_ne (Ne.symm pl)]; exact op.hl
    have ha1 : (upd (opnS H a l0 l1 x y is) p (.lst [])) a = some (.lst (vsS l0 l1 x y)) := by rw [upd_ne (Ne.symm pa)]; exact op.ha
    cases is with
    | nil =>
      have hp0 : H p = none := (opnS_off pa pl).symm.trans hp
      have sm : Same H (upd H p (.lst [])) := same_new hp0
      refine ⟨a, l0, l1, x, y, [], ⟨ha1, hl1, op.ne⟩, ?_⟩
      have ec : clsS (upd (opnS H a l0 l1 x y []) p (.lst [])) a l0 l1 = upd H p (.lst []) := clsS_opn (H := upd H p (.lst [])) (by rw [upd_ne (Ne.symm pa)]; exact ha) (by rw [upd_ne (Ne.symm pl)]; exact hl) fun b h1 h2 => by
        by_cases hb : b = p
        · subst hb; rw [upd_same, upd_same]
        · rw [upd_ne hb, upd_ne hb]; exact opnS_off h1 h2
      rw [ec]
      exact n1 _ _ _ (keep_of_same sm) (r.go sm) qx
    | cons y0 is =>
      have hlast : ((y0 :: is).map V.int)[((y0 :: is).map V.int).length - 1]? = some (.int ((y0 :: is).getLast (by simp))) := by
        rw [List.length_map, List.getElem?_map, ← List.getLast?_eq_getElem?, List.getLast?_eq_getLast (by simp)]; rfl
      refine ⟨.ref a, e2, ?_⟩
      refine ⟨a, _, _, .ref l0, rfl, rfl, .inl (.inl ha1), at_S.1, own_ty (pins := []) hl1, l0, _, _, rfl, rfl, hl1, hlast, ?_⟩
      have ei : (σ.set iw (some (V.int ((y0 :: is).getLast (by simp)))))[i]? = some (some (.ref a)) := by
        rw [List.getElem?_set_ne hi]; exact e2
      have ew : (σ.set iw (some (V.int ((y0 :: is).getLast (by simp)))))[iw]? = some (some (V.int ((y0 :: is).getLast (by simp)))) := List.getElem?_set_self (by rw [r.len]; exact hlen)
      have emm : (σ.set iw (some (V.int ((y0 :: is).getLast (by simp)))))[im]? = some (some (.int m)) := by
        rw [List.getElem?_set_ne hm]; exact em2
      have dl : ((y0 :: is).map V.int).dropLast = ((y0 :: is).dropLast).map V.int := by rw [List.map_dropLast]
      have hl2 : (upd (upd (opnS H a l0 l1 x y (y0 :: is)) p (.lst [])) l0 (.lst ((y0 :: is).map V.int).dropLast)) l0 = some (.lst (((y0 :: is).dropLast).map V.int)) := by rw [upd_same, dl]
      have ha2 : (upd (upd (opnS H a l0 l1 x y (y0 :: is)) p (.lst [])) l0 (.lst ((y0 :: is).map V.int).dropLast)) a = some (.lst (vsS l0 l1 x y)) := by rw [upd_ne (Ne.symm op.ne)]; exact ha1
      refine ⟨_, ew, _, emm, _, m, rfl, rfl, _, rfl, ite2 (fun _ => ?_) fun _ => ?_⟩
      · refine ⟨.ref a, ei, a, _, _, .ref l0, rfl, rfl, .inl (.inl ha2), at_S.1, own_ty (pins := []) hl2, _, ew, _, emm, _, m, rfl, rfl, ⟨m0, m1⟩, l0, _, _, rfl, rfl, hl2, ?_, ?_⟩
        · rw [List.length_map, List.length_dropLast]
          have : (y0 :: is).length ≤ sizeLine := z
          have : 0 < (y0 :: is).length := by simp
          omega
        · refine spop_end (ks := (y0 :: is).dropLast ++ [(y0 :: is).getLast (by simp) / m]) r ha hl op hp ?_ (qn _) n2 n3 n4 _
          rw [upd_upd, List.map_append]; rfl
      · exact spop_end (ks := (y0 :: is).dropLast) r ha hl op hp (by rw [dl]) (qn _) n2 n3 n4 _
/-- the store is made and handed out -/
def dStock (t0 t1 t2 : TEd) : TSd := fun D ρ => t0 ρ fun s0 ρ1 => t1 ρ1 fun s1 ρ2 => t2 ρ2 fun s2 _ => ∃ (is0 is1 : List Int) (n : Int), s0 = .own (is0.map .int) ∧ s1 = .own (is1.map .int) ∧ is1 ≠ [] ∧ s2 = .d (.int n) ∧ D.rt (.ob .jar)
theorem pe_madeS {e : Expr} {t : TE} (h : PE X e t) : PE X e (fun σ H Q => t σ H fun v H1 => ∃ a l0 l1 x y js, ∃ ks : List Int, v = .ref a ∧ OpnS H1 a l0 l1 x y js ∧ H1 l1 = some (.lst (ks.map V.int)) ∧ l1 ≠ l0 ∧ ∀ o, Q v (clsS (upd H1 l1 (.frz o (.lst (ks.map V.int)))) a l0 l1)) := ⟨fun pins s σ H Q I q => by
  refine thn (h.run pins s σ H _ I q) fun u s1 z => ?_
  obtain ⟨v, H1, I1, rv, a, l0, l1, x, y, js, ks, ev, o, h1, n10, q2⟩ := z
  obtain ⟨ob, I2⟩ := fix_inv I1 h1 trivial
  have n1a : l1 ≠ a := fun z => by
    have h := o.ha
    rw [← z, h1] at h
    cases ks with
    | nil => cases h
    | cons k ks => cases h
  exact ⟨v, _, closeS_of I2 (x := x) (y := y) (js := js) ⟨by rw [upd_ne (Ne.symm n1a)]; exact o.ha, by rw [upd_ne (Ne.symm n10)]; exact o.hl, o.ne⟩, rv, q2 ob⟩⟩
theorem ds_stock {e0 e1 e2 : Expr} {t0 t1 t2 : TEd} (hJ : ∀ a H, StoS a H → L.J.ok .jar a H) (h0 : PE X e0 (tE L t0)) (h1 : PE X e1 (tE L t1)) (h2 : PE X e2 (tE L t2))
    (s0 : starEach [e0, e1, e2, .Constant (.int 0) j p1] X.env = (false, eval e0 X.env) :: starEach [e1, e2, .Constant (.int 0) j p1] X.env := by rfl) (s1 : starEach [e1, e2, .Constant (.int 0) j p1] X.env = (false, eval e1 X.env) :: starEach [e2, .Constant (.int 0) j p1] X.env := by rfl)
    (s2 : starEach [e2, .Constant (.int 0) j p1] X.env = (false, eval e2 X.env) :: starEach [.Constant (.int 0) j p1] X.env := by rfl) (s3 : starEach [.Constant (.int 0) j p1] X.env = (false, eval (.Constant (.int 0) j p1) X.env) :: starEach [] X.env := by rfl) :
    PS X (.Return (some (.List [e0, e1, e2, .Constant (.int 0) j p1] p2)) pos) (tS L (dStock t0 t1 t2)) :=
  (ps_ret (pe_madeS (pe_lst (pa_cons h0 (pa_cons h1 (pa_cons h2 (pa_cons pe_int pa_nil s3) s2) s1) s0)))).less fun D σ H q => by
    obtain ⟨ρ, De, r, q, n1, n2, n3, n4⟩ := q
    refine ⟨ρ, _, r, q, fun v0 H1 x0 ρ1 g1 r1 hv0 q1 => ⟨ρ1, _, r1, q1, fun v1 H2 x1 ρ2 g2 r2 hv1 q2 => ⟨ρ2, _, r2, q2, fun v2 H3 x2 ρ3 g3 r3 hv2 q3 => ?_⟩⟩⟩
    obtain ⟨is0, is1, n, rfl, rfl, hne, rfl, q4⟩ := q3
    have hv2 : Br L.K H3 v2 (.int n) := hv2
    cases hv2
    have a0 := hv0.later r g1 r1 (g2.tr g3)
    have a1 := hv1.later r1 g2 r2 g3
    obtain ⟨⟨l0, vs0, rfl, b0, b1, b2⟩, b3⟩ := a0
    obtain ⟨⟨l1, vs1, rfl, c0, c1, c2⟩, c3⟩ := a1
    obtain rfl := br_ints b1
    obtain rfl := br_ints c1
    have n10 : l1 ≠ l0 := fun z => by
      have h := c3 l1 rfl
      have h' := hv0.there l0 rfl _ rfl
      rw [z] at h; exact h' h
    refine ⟨(show (4 : Nat) ≤ sizeLine by decide), fun a na => ?_⟩
    have na0 : l0 ≠ a := ne_of_none b0 na
    have na1 : l1 ≠ a := ne_of_none c0 na
    refine ⟨a, l0, l1, n, 0, is0, is1, rfl, ⟨upd_same, by rw [upd_ne na0]; exact b0, na0⟩, by rw [upd_ne na1]; exact c0, n10, fun ob => ?_⟩
    have hs : StoS a (clsS (upd (upd H3 a (.lst (vsS l0 l1 n 0))) l1 (.frz ob (.lst (is1.map V.int)))) a l0 l1) := by
      refine ⟨l0, l1, ob, is1, ?_, ?_, na0, ?_, hne⟩
      · unfold clsS; rw [upd_ne (Ne.symm na0), upd_same]
      · unfold clsS; rw [upd_same]
      · unfold clsS; rw [upd_ne n10, upd_ne na1, upd_same]
    refine n2 (.ref a) _ (.ob .jar) (fun b o hb f => ?_) (fun b o hb => ?_) ⟨a, rfl, hJ _ _ hs⟩ q4
    · have h3 := ((g1.tr g2).tr g3).keep r b o hb f
      unfold clsS
      have e0 : b ≠ l0 := fun z => by rw [z, b0] at h3; cases h3; exact f
      have e1 : b ≠ l1 := fun z => by rw [z, c0] at h3; cases h3; exact f
      rw [upd_ne e0, upd_ne (ne_of_none h3 na), upd_ne e1, upd_ne (ne_of_none h3 na)]; exact h3
    · have h3 := r3.same b o hb
      unfold clsS
      rw [upd_ne (ne_of_none hb b2), upd_ne (ne_of_none h3 na), upd_ne (ne_of_none hb c2), upd_ne (ne_of_none h3 na)]; exact h3
theorem cutV_map (ns : List Int) (lo hi : Option Int) : cutV (ns.map V.int) lo hi = (cutD ns lo hi).map V.int := by
  unfold cutV cutD
  rw [List.map_take, List.map_drop, List.length_map]
/-- the script's first items -/
def dScr (i : Nat) (k : Int) : TEd := fun ρ Q => ∃ ns, ρ[i]? = some (.ob (.scr ns)) ∧ Q (.own ((cutD ns none (some k)).map .int)) ρ
theorem de_scr {k : Int} {j2 : Nat} (hK : L.K = X.K) (hS : ∀ a ns H, L.J.ok (.scr ns) a H → ScrOk L.K a ns H) (ho : PE X o (tVar i)) : PE X (.Subscript o (.Slice none (some (.Constant (.int k) j2 p1)) none p2) pos) (tE L (dScr i k)) :=
  (pe_slice sl_list ho po_none (po_some pe_int)).less fun σ H Q' q => by
    obtain ⟨ρ, Q, r, ⟨ns, ej, q⟩, fin⟩ := q
    obtain ⟨o, e2, a, rfl, ja⟩ := r.get ej
    have sq := sq_scr (hS a ns H ja)
    rw [hK] at sq
    refine ⟨.ref a, e2, k, rfl, a, ns.map V.int, rfl, sq, fun c nc => ?_⟩
    rw [cutV_map]
    have sm := same_new (o := .lst ((cutD ns none (some k)).map V.int)) nc
    exact fin _ _ (.own _) ρ (Go.sm sm) (r.go sm) ⟨⟨c, _, rfl, upd_same, ints_br _, r.same.free nc⟩, fun l e => by cases e; exact nc⟩ q
end
end GB

set_option maxRecDepth 100000
namespace GB
open PySem PySem.Spec PyProof.Rows L2
/-! is, is not, of bools -/
def fIsB : F2 := fun x y Q => ∃ a b : Bool, x = .bool a ∧ y = .bool b ∧ Q (.d (.bool (a == b)))
def fIsNotB : F2 := fun x y Q => ∃ a b : Bool, x = .bool a ∧ y = .bool b ∧ Q (.d (.bool (!(a == b))))
theorem f_isB {a b : Bool} {k : S → Prop} : fIsB (.bool a) (.bool b) k ↔ k (.d (.bool (a == b))) := ⟨fun ⟨_, _, e, e', h⟩ => by cases e; cases e'; exact h, fun h => ⟨_, _, rfl, rfl, h⟩⟩
theorem f_isNotB {a b : Bool} {k : S → Prop} : fIsNotB (.bool a) (.bool b) k ↔ k (.d (.bool (!(a == b)))) := ⟨fun ⟨_, _, e, e', h⟩ => by cases e; cases e'; exact h, fun h => ⟨_, _, rfl, rfl, h⟩⟩
theorem o_isB {X : Cx} {L : Lay} : OpR X (compareOp .Is) (rD L fIsB) := by
  intro pins s σ H x y v u Q' I rx ry q
  obtain ⟨dx, dy, Q, bx, by_, ⟨a, b, rfl, rfl, q⟩, fin⟩ := q
  have bx : Br L.K H x (.bool a) := bx
  have by_ : Br L.K H y (.bool b) := by_
  cases bx; cases by_; cases rx; cases ry
  exact is_bool (fin_bl I (fin _ H (.d (.bool (a == b))) (Same.refl H) (.bl _) q) rfl)
theorem o_isNotB {X : Cx} {L : Lay} : OpR X (compareOp .IsNot) (rD L fIsNotB) := by
  intro pins s σ H x y v u Q' I rx ry q
  obtain ⟨dx, dy, Q, bx, by_, ⟨a, b, rfl, rfl, q⟩, fin⟩ := q
  have bx : Br L.K H x (.bool a) := bx
  have by_ : Br L.K H y (.bool b) := by_
  cases bx; cases by_; cases rx; cases ry
  exact isnot_bool (fin_bl I (fin _ H (.d (.bool (!(a == b)))) (Same.refl H) (.bl _) q) rfl)
end GB

set_option maxRecDepth 100000
namespace GB
open PySem PySem.Spec PyProof.Rows L2
/-! an own exception class without own __init__, called without arguments -/
section
variable {X : Cx} {C : Addr} {bmB : List Value} {B newId initId : String}
theorem pmk_own0 {x : Str} {p pos : Pos} (F : ExcBaseFacts B newId initId bmB) (q : PySem.W.excIn X.K C bmB newId = true) (gC : X.mg x = some (.ref C)) (kC : PySem.W.keepIn X.K (.ref C) = true) (r : Raises X (.ref C)) (hg : Gl X x)
    (hdb : (x == ("__debug__" : Str)) = false := by decide) : PMk X (.Call (.Name x p) [] [] pos) (fun _ H Q => Q (.ref C) none H) := by
  intro pins s σ H Q I h
  refine wpAny_Call_Name_kw (ld_glob I hg gC ?_ hdb)
  refine PySem.W.callWith_K0 I.kIn kC ?_
  obtain ⟨bm, N, nm, qn, bs, hdct, sn, sub, ab, col, dd, k0, k1, k2, k3, k5, mN, hC, hN, hni, T⟩ := exc_obj I.kIn q
  refine wpAny_call_exc_subT F T hC hN hni (fun h' e hm => ?_) (Nat.zero_le _)
  exact mk_of I hm r h (I.hok.gone hm.new)
end
/-- a class of the program that is raised -/
structure ExC (K : PySem.W.Frag) (mg : Str → Option Value) (x : Str) (C : Addr) : Prop where
  gC : mg x = some (.ref C)
  kC : PySem.W.keepIn K (.ref C) = true
  xC : ∃ bm, ExcBaseFacts "ValueError" "ValueError.__new__" "ValueError.__init__" bm ∧ PySem.W.excIn K C bm "ValueError.__new__" = true
  bC : PySem.W.subIn K (.ref C) (.type "BaseException") = some true
  tC : PySem.W.typeIn K (.ref C) = some (.type "type")
  eC : PySem.W.exmOne K (.ref C) (.ref C) = some true
/-! a raise -/
def dRaise (Z : Prop) : TSd := fun _ _ => Z
section
variable {X : Cx} {L : Lay} {C : Addr} {W : WX} {x : Str} {p pos pos2 : Pos} {Z : Prop}
theorem ds_raise (g : Good X) (tk : Takes X W) (hK : L.K = X.K) (c : ExC X.K X.mg x C) (hg : Gl X x) (hz : ∀ σ H, Same L.H0 H → Z → W (.ref C) none σ H) (hdb : (x == ("__debug__" : Str)) = false := by decide) :
    PS X (.Raise (some (.Call (.Name x p) [] [] pos)) none pos2) (tS L (dRaise Z)) := by
  obtain ⟨bm, F, q⟩ := c.xC
  refine (ps_raise g.calm tk (pmk_own0 F q c.gC c.kC (raises_own c.bC c.tC) hg hdb)).less fun D σ H h => ?_
  obtain ⟨ρ, De, r, z, _⟩ := h
  exact hz σ H r.same z
end
/-! defs that raise an error of one class, without payload -/
abbrev FnE := List S → (S → Prop) → Prop → Prop
def spX (K : PySem.W.Frag) (J : Jar) (n : Nat) (C : Addr) (F : FnE) : Sp := fun vs H Q E => ∃ ss R Z, FRs (lay K J H) H vs ss ∧ ss.length = n ∧ F ss R Z ∧ (∀ v H' s, Same H H' → RR (lay K J H) H' v s → R s → Q v H') ∧ (Z → ∀ H', Same H H' → E (.ref C) none H')
section
variable {P : Program} {w : World} {K : PySem.W.Frag} {mg : Str → Option Value} {base : Heap} {J : Jar}
theorem good_of' {CX : CXT} {N : List Str} {qual : Str} {scope : Scope} {f : Addr} {cdv : Value} {A : Around} {outer : List Env} {s : Shared} {H : Hp} {E : XK} {k : Nat} (hs : ∃ o, base.get? sysModules = some o) (nd : N.Nodup) (hg : A.guards = some [])
    (hr : Room k (A.deeper (envOfC qual scope s.heap.objs.size f cdv))) : Good (cxOf CX P w K mg base N qual scope f cdv A outer s H E) := ⟨rfl, hg, hs, by have := hr.un; show (A.deeper (envOfC qual scope s.heap.objs.size f cdv)).units + 200 < cLine; omega, nd⟩
theorem fnx_ok {f C : Addr} {fd : FuncData} {x qual : Str} {st : Stmt} {N ps : List Str} {k : Nat} {F : FnE} {t : Prop → TSd} (Fn : Fun K x qual st f fd) (S0 : FnScope N ps (defScope st)) (hs : ∃ o, base.get? sysModules = some o)
    (body : ∀ (cdv : Value) (A : Around) (outer : List Env) (s : Shared) (H : Hp) (E : XK) (Z : Prop), A.guards = some [] → Room k (A.deeper (envOfC qual (defScope st) s.heap.objs.size f cdv)) → Good (cxOf (L2.CX P w) P w K mg base N qual (defScope st) f cdv A outer s H E) →
      PassesOwn (model P w) (cxOf (L2.CX P w) P w K mg base N qual (defScope st) f cdv A outer s H E).A (cxOf (L2.CX P w) P w K mg base N qual (defScope st) f cdv A outer s H E).env (cxOf (L2.CX P w) P w K mg base N qual (defScope st) f cdv A outer s H E).xe →
      Takes (cxOf (L2.CX P w) P w K mg base N qual (defScope st) f cdv A outer s H E) (fun cls d _ H' => E cls d H') → (∀ H', Same H H' → Z → E (.ref C) none H') →
      PSs (cxOf (L2.CX P w) P w K mg base N qual (defScope st) f cdv A outer s H E) (defBody st) (tS (lay K J H) (t Z)))
    (math : ∀ ss R Z, ss.length = ps.length → F ss R Z → t Z { nx := fun _ => R (.d .none), rt := R } (ss ++ List.replicate (N.length - ps.length) .un)) :
    FnG P w K mg base (L2.CX P w) (k + 1) f fd ps (spX K J ps.length C F) := by
  refine fng_of Fn S0 (fun vs H Q E h => ?_) fun cdv A outer s H vs Q E hg hr h => ?_
  · obtain ⟨ss, R, Z, fr, hl, _⟩ := h
    rw [fr.len, hl]
  · obtain ⟨ss, R, Z, fr, hl, hF, fin, hz⟩ := h
    refine ⟨_, body cdv A outer s H E Z hg hr (good_of' hs S0.nd hg hr) (passes_of rfl) (takes_of rfl rfl rfl rfl) (fun H' sm z => hz z H' sm), ss ++ List.replicate (N.length - ps.length) .un, { nx := fun _ => R (.d .none), rt := R }, ?_, math ss R Z hl hF, fun σ' H' ρ' k r n => ?_, fun v H' s k sm rr n => fin v H' s sm rr n, fun _ _ _ _ _ n => n, fun _ _ _ _ _ n => n⟩
    · have hv := fr.len
      unfold L2.start
      rw [hv, hl]
      exact brA_start fr rfl
    · exact fin .non H' (.d .none) r.same .non n
end
/-! calls of such defs, in the body of a try -/
def tEX (L : Lay) (C : Addr) (W : WX) (t : (En → Prop) → TEd) : TE := fun σ H Q' => ∃ ρ Q Z, Rel L H σ ρ ∧ t Z ρ Q ∧ (∀ v H' s ρ', Go σ ρ ρ' H H' → Rel L H' σ ρ' → VR L H H' v s → Q s ρ' → Q' v H') ∧ (∀ H' ρ', Go σ ρ ρ' H H' → Rel L H' σ ρ' → Z ρ' → W (.ref C) none σ H')
def tSX (L : Lay) (C : Addr) (W : WX) (t : (En → Prop) → TSd) : TS := fun D σ H => ∃ ρ De Z, Rel L H σ ρ ∧ t Z De ρ ∧ (∀ σ' H' ρ', Keep H H' → Rel L H' σ' ρ' → De.nx ρ' → D.nx σ' H') ∧ (∀ v H' s, Keep H H' → Same L.H0 H' → RR L H' v s → De.rt s → D.rt v H') ∧
  (∀ σ' H' ρ', Keep H H' → Rel L H' σ' ρ' → De.bk ρ' → D.bk σ' H') ∧ (∀ σ' H' ρ', Keep H H' → Rel L H' σ' ρ' → De.ct ρ' → D.ct σ' H') ∧ (∀ σ' H' ρ', Keep H H' → Rel L H' σ' ρ' → Z ρ' → W (.ref C) none σ' H')
def dCallX (F : FnE) (n : Nat) (Z : En → Prop) (ta : TAd) : TEd := fun ρ Q => ta ρ fun ss ρ1 => ss.length = n ∧ F ss (fun s => Q s ρ1) (Z ρ1)
def dCallKX (F : FnE) (n : Nat) (gS : List S → List S) (Z : En → Prop) (ta : TAd) : TEd := fun ρ Q => ta ρ fun ss ρ1 => (gS ss).length = n ∧ F (gS ss) (fun s => Q s ρ1) (Z ρ1)
section
variable {X : Cx} {L : Lay} {C : Addr} {W : WX} {pos p : Pos} {e c a b : Expr} {es : List Expr} {tas tks : TAd} {F : FnE} {x : Str} {f : Addr} {fd : FuncData} {ps ks : List Str} {k : Nat} {kws : List Keyword} {te : TEd} {tq : TTd} {ta tb : (En → Prop) → TEd}
theorem g_callS {sp : Sp} {E : L2.St → XK} {t : TA} (Fn : FnG X.prog X.w X.K X.mg X.base (L2.CX X.prog X.w) k f fd ps sp) (hr : Room k X.A) (gd : X.A.guards = some []) (hg : Gl X x) (hm : X.mg x = some (.ref f)) (hk : PySem.W.keepIn X.K (.ref f) = true) (hb : Binds X.K fd ps []) (hx : ∀ σ, PassesAt (L2.CX X.prog X.w) X σ (E σ))
    (ha : PA X (e :: es) t) (hdb : (x == ("__debug__" : Str)) = false := by decide) (he : starEach (e :: es) X.env = (false, eval e X.env) :: starEach es X.env := by rfl)
    (hpl : (backTo pos (starEach es X.env)).any (·.1) = false := by rfl) : PE X (.Call (.Name x p) (e :: es) [] pos) (fun σ H Q => t σ H fun vs H1 => sp vs H1 Q (E σ)) := by
  constructor
  intro pins s σ H Q I h
  refine wpAny_Call_Name_kw (ld_glob I hg hm ?_ hdb)
  refine PySem.W.callWith_K (h₀ := X.base) I.ok.mod.kin hk (thn (ha.run pos pins s σ H _ I h) fun us s1 z => ?_) he hpl
  obtain ⟨vs, H1, I1, r, q⟩ := z
  refine ⟨I1.kIn, ?_⟩
  have hl : us.length = ps.length := by rw [← r.length]; exact Fn.arity _ _ _ _ q
  have bb := hb s1 us I1.kIn (by simpa using hl)
  rw [List.append_nil] at bb
  refine wpAny_call (codeAny_mono (Fn.go X.A X.stack s1 H1 ⟨us, []⟩ us vs Q (E σ) gd hr I1.env0 bb r q) fun r2 s' hq => ?_)
  match r2, hq with
  | .error e, hq => exact hx σ pins H1 s1 e s' I1 hq
  | .ok (.ret u), hq => exact I1.after hq
  | .ok .next, hq => exact False.elim hq
  | .ok .brk, hq => exact False.elim hq
  | .ok .cont, hq => exact False.elim hq
theorem g_kwS {gV : List V → List V} {g : List Value → List Value} {sp : Sp} {E : L2.St → XK} {tk : TA} (Fn : FnG X.prog X.w X.K X.mg X.base (L2.CX X.prog X.w) k f fd ps sp) (hr : Room k X.A) (gd : X.A.guards = some []) (hg : Gl X x) (hm : X.mg x = some (.ref f)) (hk : PySem.W.keepIn X.K (.ref f) = true)
    (hto : ∀ (s : Shared) (ws : List Value), (g ws).length = ps.length → BindsTo s fd ⟨[], ks.zip ws⟩ (ps.zip (g ws))) (hrel : ∀ {zs : List V} {ws : List Value}, Vals zs ws → Vals (gV zs) (g ws)) (hx : ∀ σ, PassesAt (L2.CX X.prog X.w) X σ (E σ)) (hkw : PK X kws tk) (hall : (backToKw pos (keywordEach kws X.env)).all (·.1.isSome) = true := by rfl)
    (hks : (backToKw pos (keywordEach kws X.env)).filterMap (·.1) = ks := by rfl) (hdb : (x == ("__debug__" : Str)) = false := by decide)
    (hpl : ((backTo pos (starEach [] X.env)).any (·.1) || (backToKw pos (keywordEach kws X.env)).any (·.1.isNone)) = false := by rfl) :
    PE X (.Call (.Name x p) [] kws pos) fun σ H Q => tk σ H fun zs H2 => sp (gV zs) H2 Q (E σ) := by
  constructor
  intro pins s σ H Q I h
  refine wpAny_Call_Name_kw (ld_glob I hg hm ?_ hdb)
  refine PySem.W.callWith_KW0 (h₀ := X.base) I.ok.mod.kin hk hall (thn (hkw.run pos pins s σ H _ I h) fun ws s2 z => ?_) hpl
  obtain ⟨zs, H2, I2, rz, q⟩ := z
  refine ⟨I2.kIn, ?_⟩
  rw [hks]
  have r2 := hrel rz
  have hl : (g ws).length = ps.length := by rw [← r2.length]; exact Fn.arity _ _ _ _ q
  refine wpAny_call (codeAny_mono (Fn.go X.A X.stack s2 H2 ⟨[], ks.zip ws⟩ (g ws) (gV zs) Q (E σ) gd hr I2.env0 (hto s2 ws hl) r2 q) fun r3 s' hq => ?_)
  match r3, hq with
  | .error e, hq => exact hx σ pins H2 s2 e s' I2 hq
  | .ok (.ret u), hq => exact I2.after hq
  | .ok .next, hq => exact False.elim hq
  | .ok .brk, hq => exact False.elim hq
  | .ok .cont, hq => exact False.elim hq
theorem de_liftX (h : PE X e (tE L te)) : PE X e (tEX L C W fun _ => te) := h.less fun σ H Q' q => by
  obtain ⟨ρ, Q, Z, r, q, fin, _⟩ := q
  exact ⟨ρ, Q, r, q, fin⟩
theorem de_callX (hK : L.K = X.K) (Fn : FnG X.prog X.w X.K X.mg X.base (L2.CX X.prog X.w) k f fd ps (spX X.K L.J ps.length C F)) (hr : Room k X.A) (g : Good X) (hg : Gl X x) (hm : X.mg x = some (.ref f)) (hk : PySem.W.keepIn X.K (.ref f) = true) (hb : Binds X.K fd ps [])
    (tk : Takes X W) (ha : PA X (e :: es) (tA L tas)) (hdb : (x == ("__debug__" : Str)) = false := by decide) (he : starEach (e :: es) X.env = (false, eval e X.env) :: starEach es X.env := by rfl)
    (hpl : (backTo pos (starEach es X.env)).any (·.1) = false := by rfl) : PE X (.Call (.Name x p) (e :: es) [] pos) (tEX L C W fun Z => dCallX F ps.length Z tas) :=
  (g_callS (E := WE W) Fn hr g.gd hg hm hk hb (fun σ => passAt tk σ) ha hdb he hpl).less fun σ H Q' h => by
    obtain ⟨ρ, Q, Z, r, q, fin, hz⟩ := h
    refine ⟨ρ, _, r, q, fun vs H1 ss ρ1 go r1 hv q1 => ?_⟩
    refine ⟨ss, _, _, ?_, q1.1, q1.2, fun v H2 s sm rr q2 => fin v H2 s ρ1 (go.tr (Go.sm sm)) (r1.go sm) (rr_vr r1 go (by rw [hK]; exact rr)) q2, fun z H2 sm => hz H2 ρ1 (go.tr (Go.sm sm)) (r1.go sm) z⟩
    rw [← hK]; exact hv.lay
theorem de_callKX {gV : List V → List V} {g : List Value → List Value} {gS : List S → List S} (hK : L.K = X.K) (Fn : FnG X.prog X.w X.K X.mg X.base (L2.CX X.prog X.w) k f fd ps (spX X.K L.J ps.length C F)) (hr : Room k X.A) (gd : Good X) (hg : Gl X x) (hm : X.mg x = some (.ref f)) (hk : PySem.W.keepIn X.K (.ref f) = true)
    (hb : Perm X.K fd ps ks g gV gS) (tk : Takes X W) (hkw : PK X kws (tA L tks)) (hall : (backToKw pos (keywordEach kws X.env)).all (·.1.isSome) = true := by rfl)
    (hks : (backToKw pos (keywordEach kws X.env)).filterMap (·.1) = ks := by rfl) (hdb : (x == ("__debug__" : Str)) = false := by decide)
    (hpl : ((backTo pos (starEach [] X.env)).any (·.1) || (backToKw pos (keywordEach kws X.env)).any (·.1.isNone)) = false := by rfl) :
    PE X (.Call (.Name x p) [] kws pos) (tEX L C W fun Z => dCallKX F ps.length gS Z tks) :=
  (g_kwS (E := WE W) Fn hr gd.gd hg hm hk hb.to hb.rel (fun σ => passAt tk σ) hkw hall hks hdb hpl).less fun σ H Q' h => by
    obtain ⟨ρ, Q, Z, r, q, fin, hz⟩ := h
    refine ⟨ρ, _, r, q, fun vs H1 ss ρ1 go r1 hv q1 => ?_⟩
    refine ⟨gS ss, _, _, ?_, q1.1, q1.2, fun v H2 s sm rr q2 => fin v H2 s ρ1 (go.tr (Go.sm sm)) (r1.go sm) (rr_vr r1 go (by rw [hK]; exact rr)) q2, fun z H2 sm => hz H2 ρ1 (go.tr (Go.sm sm)) (r1.go sm) z⟩
    rw [← hK]; exact hb.fr hv.lay
theorem de_ifX (h : PT X c (tT L tq)) (ha : PE X a (tEX L C W ta)) (hb : PE X b (tEX L C W tb)) : PE X (.IfExp c a b pos) (tEX L C W fun Z => dIf tq (ta Z) (tb Z)) := by
  refine (pe_ifExp h ha hb).less fun σ H Q' h => ?_
  obtain ⟨ρ, Q, Z, r0, q, fin, hz⟩ := h
  refine ⟨ρ, _, r0, q, fun b H1 ρ1 k1 r1 q1 => ?_⟩
  cases b with
  | true => exact ⟨ρ1, _, Z, r1, by simpa using q1, fun v H2 s ρ2 k2 r2 hv q2 => fin v H2 s ρ2 (k1.tr k2) r2 (hv.back k1) q2, fun H2 ρ2 k2 r2 z => hz H2 ρ2 (k1.tr k2) r2 z⟩
  | false => exact ⟨ρ1, _, Z, r1, by simpa using q1, fun v H2 s ρ2 k2 r2 hv q2 => fin v H2 s ρ2 (k1.tr k2) r2 (hv.back k1) q2, fun H2 ρ2 k2 r2 z => hz H2 ρ2 (k1.tr k2) r2 z⟩
theorem ds_retX (he : PE X e (tEX L C W ta)) : PS X (.Return (some e) pos) (tSX L C W fun Z => dRet (ta Z)) := (ps_ret he).less fun D σ H q => by
  obtain ⟨ρ, De, Z, r, q, h1, h2, h3, h4, hz⟩ := q
  exact ⟨ρ, _, Z, r, q, fun v H' s ρ' go r' hv n => h2 _ _ _ (go.keep r) r'.same hv.rr n, fun H' ρ' go r' z => hz σ H' ρ' (go.keep r) r' z⟩
theorem ds_setX {i : Nat} {x : Str} {pos' : Pos} (g : Good X) (hi : X.N[i]? = some x) (hx : Loc X.env.scope x) (he : PE X e (tEX L C W ta)) (hs : swapsWith e (some (.Name x pos')) pos.line X.env = pure false := by rfl)
    (hf : X.fn x = true ∨ X.env.scope.names.lookup x = some .local := by first | exact .inl rfl | exact .inr rfl | assumption) : PS X (.Assign [.Name x pos'] e pos) (tSX L C W fun Z => dSet i (ta Z)) :=
  (ps_set g.nd hi hx he hs hf).less fun D σ H q => by
    obtain ⟨ρ, De, Z, r, q, h1, h2, h3, h4, hz⟩ := q
    exact ⟨ρ, _, Z, r, q, fun v H' s ρ' go r' hv n => h1 _ _ _ (go.keep r) (r.set r' go hv) n, fun H' ρ' go r' z => hz σ H' ρ' (go.keep r) r' z⟩
end
/-! try: body, except C as n: suite -/
def dTry (t : (En → Prop) → TSd) (i : Nat) (u : TSd) : TSd := fun D ρ => t (fun ρ1 => i < ρ1.length ∧ u { nx := fun ρ2 => D.nx (ρ2.set i .un), rt := D.rt, bk := fun ρ2 => D.bk (ρ2.set i .un), ct := fun ρ2 => D.ct (ρ2.set i .un) } (ρ1.set i .un)) D ρ
theorem Rel.setU {L : Lay} {H : Hp} {σ : L2.St} {ρ : En} (r : Rel L H σ ρ) (i : Nat) (v : Option V) : Rel L H (σ.set i v) (ρ.set i .un) := by
  have sub : ∀ (j : Nat) (s : S), (ρ.set i .un)[j]? = some s → s = .un ∨ (j ≠ i ∧ ρ[j]? = some s) := fun j s e => by
    by_cases h : i = j
    · subst h
      by_cases hl : i < ρ.length
      · rw [List.getElem?_set_self hl] at e; cases e; exact .inl rfl
      · rw [List.getElem?_eq_none (by simpa using hl)] at e; cases e
    · rw [List.getElem?_set_ne h] at e
      exact .inr ⟨Ne.symm h, e⟩
  refine ⟨by simp [r.len], fun j s e => ?_, fun j k xs ys e1 e2 e3 => ?_, r.same⟩
  · rcases sub j s e with rfl | ⟨n, e⟩
    · trivial
    · rw [List.getElem?_set_ne (Ne.symm n)]
      exact r.at' j s e
  · rcases sub j _ e1 with q | ⟨n1, q1⟩
    · cases q
    · rcases sub k _ e2 with q | ⟨n2, q2⟩
      · cases q
      · rw [List.getElem?_set_ne (Ne.symm n1), List.getElem?_set_ne (Ne.symm n2)] at e3
        exact r.sep j k xs ys q1 q2 e3
/-- what a suite knows of its error -/
def sG (i : Nat) (a C : Addr) (cls : Value) (d : Option Addr) (σ : L2.St) : Prop := σ[i]? = some (some (.ref a)) ∧ cls = .ref C ∧ d = none
section
variable {X : Cx} {L : Lay} {C : Addr} {x n : Str} {i : Nat} {body suite : List Stmt} {b₀ : Stmt} {np pos pos' : Pos} {t : (En → Prop) → TSd} {u : TSd}
theorem ds_try (g : Good X) (hs : X.stack = X.env :: X.outer) (hf : X.env.frame = some X.env.locals) (hi : X.N[i]? = some n) (hln : X.env.kindOf n = some .local) (c : ExC X.K X.mg x C) (hg : Gl X x) 
    (hb : ∀ (W : WX) (pn : List (Addr × Obj)) (xe : Value → Shared → Prop), Good (X.tr pn xe) → Takes (X.tr pn xe) W → PassesOwn (model X.prog X.w) X.A X.env xe → PSs (X.tr pn xe) body (tSX L C W t))
    (hsu : ∀ (a : Addr) (oe : Obj) (cls : Value) (d : Option Addr) (pn : List (Addr × Obj)), Zc cls d oe → (∃ vs, oe.data = .fields vs) → PSs (X.suite a ((a, oe) :: pn)) (b₀ :: suite) (fun D σ H => sG i a C cls d σ ∧ tS L u D σ H)) (hdb : (x == ("__debug__" : Str)) = false := by decide) :
    PS X (.Try body [.ExceptHandler (some (.Name x np)) (some n) (b₀ :: suite) pos'] [] [] pos) (tS L (dTry t i u)) :=
  (ps_try_as (i := i) (tb := fun W => tSX L C W t) (ts := fun a cls d D σ H => sG i a C cls d σ ∧ tS L u D σ H) (Wout := fun _ _ _ _ => False) hs hf g.nd hi hln ⟨hg, hdb, .inl c.gC⟩ takes0
    (fun W pn xe tk po => hb W pn xe ⟨g.calm, g.gd, g.sys, g.un, g.nd⟩ tk po) hsu).less fun D σ H q => by
    obtain ⟨ρ, De, r, q, h1, h2, h3, h4⟩ := q
    refine ⟨ρ, De, _, r, q, h1, h2, h3, h4, fun σ' H' ρ' k r' z => ⟨true, c.eC, fun _ a ha => ?_, fun z => nomatch z⟩⟩
    obtain ⟨hl, z⟩ := z
    refine ⟨⟨by rw [List.getElem?_set_self (by rw [r'.len]; exact hl)], rfl, rfl⟩, ρ'.set i .un, _, r'.setU i _, z, fun σ2 H2 ρ2 k2 r2 n => h1 _ _ _ (k.tr k2) (r2.setU i none) n, fun v H2 s k2 sm rr n => h2 v H2 s (k.tr k2) sm rr n, fun σ2 H2 ρ2 k2 r2 n => h3 _ _ _ (k.tr k2) (r2.setU i none) n, fun σ2 H2 ρ2 k2 r2 n => h4 _ _ _ (k.tr k2) (r2.setU i none) n⟩
end
/-! the suite's expressions -/
structure ExI (K : PySem.W.Frag) (C G : Addr) : Prop where
  hcl : (PySem.W.clsIn K C).isSome = true
  ga : PySem.W.findIn K (.ref C) "__getattribute__" = some (some (.builtin "BaseException.__getattribute__"))
  gg : ∃ gt, PySem.W.findIn K (.ref C) "__getattr__" = some gt
  ha : PySem.W.findIn K (.ref C) "__class__" = some (some (.builtin "object.__class__"))
  hn : PySem.W.specialIn K (.builtin "object.__class__") "__get__" = some (some (.builtin "getset_descriptor.__get__"))
  htk : PySem.W.takesIn K (.builtin "object.__class__") = some true
  hm : PySem.W.mroIn K C (.type "object") = some true
  bC : PySem.W.subIn K (.ref C) (.type "BaseException") = some true
  one : PySem.W.kitOne K (.ref C) (.ref G) = some true
def tGu (g : L2.St → Prop) (t : TE) : TE := fun σ H Q => g σ ∧ t σ H Q
def tGuT (g : L2.St → Prop) (t : TT) : TT := fun σ H Q => g σ ∧ t σ H Q
def tGuA (g : L2.St → Prop) (t : TA) : TA := fun σ H Q => g σ ∧ t σ H Q
section
variable {X : Cx} {L : Lay} {g : L2.St → Prop} {pos p : Pos} {e a b c : Expr} {es : List Expr} {tas : TAd} {te ta tb : TEd} {tq : TTd}
theorem di_lift {t : TE} (h : PE X e t) : PE X e (tGu g t) := h.less fun _ _ _ q => q.2
theorem dit_lift {t : TT} (h : PT X e t) : PT X e (tGuT g t) := h.less fun _ _ _ q => q.2
theorem dit_val (h : PE X e (tGu g (tE L te))) (he : ∀ whole, isTrue e X.env whole = (do let v ← whole; standAt e.pos; holding [v] (truthy v)) := by intro _; rfl) : PT X e (tGuT g (tT L (dB te))) :=
  (pt_val h he).less fun σ H Q' q => by
    obtain ⟨hg, ρ, Q, r, q, fin⟩ := q
    refine ⟨hg, ρ, _, r, q, fun v H1 s ρ1 k1 r1 hv q1 => ?_⟩
    obtain ⟨b, rfl, q2⟩ := q1
    have hv : Br L.K H1 v (.bool b) := hv
    cases hv
    exact ⟨b, rfl, fin b H1 ρ1 k1 r1 q2⟩
theorem dit_if (h : PT X c (tGuT g (tT L tq))) (ha : PE X a (tGu g (tE L ta))) (hb : PE X b (tGu g (tE L tb))) : PE X (.IfExp c a b pos) (tGu g (tE L (dIf tq ta tb))) := by
  refine (pe_ifExp h ha hb).less fun σ H Q' h => ?_
  obtain ⟨hg, ρ, Q, r0, q, fin⟩ := h
  refine ⟨hg, ρ, _, r0, q, fun b H1 ρ1 k1 r1 q1 => ?_⟩
  cases b with
  | true => exact ⟨hg, ρ1, _, r1, by simpa using q1, fun v H2 s ρ2 k2 r2 hv q2 => fin v H2 s ρ2 (k1.tr k2) r2 (hv.back k1) q2⟩
  | false => exact ⟨hg, ρ1, _, r1, by simpa using q1, fun v H2 s ρ2 k2 r2 hv q2 => fin v H2 s ρ2 (k1.tr k2) r2 (hv.back k1) q2⟩
theorem dia_nil : PA X [] (tGuA g (tA L dNil)) := (da_nil (L := L)).less fun _ _ _ q => q.2
theorem dia_cons (h : PE X e (tGu g (tE L te))) (hr : PA X es (tGuA g (tA L tas))) (hs : starEach (e :: es) X.env = (false, eval e X.env) :: starEach es X.env := by rfl) : PA X (e :: es) (tGuA g (tA L (dCons te tas))) := by
  refine (pa_cons h hr hs).less fun σ H Q' h => ?_
  obtain ⟨hg, ρ, Q, r0, q, fin⟩ := h
  refine ⟨hg, ρ, _, r0, q, fun v H1 s ρ1 k1 r1 hv q1 => ?_⟩
  obtain ⟨f, q2⟩ := q1
  refine ⟨hg, ρ1, _, r1, q2, fun vs H2 ss ρ2 k2 r2 hvs q3 => ?_⟩
  exact fin (v :: vs) H2 (s :: ss) ρ2 (k1.tr k2) r2 (.cons ((fr_of f hv).keep (k2.keep r1)) hvs) q3
theorem dia_lst (h : PA X es (tGuA g (tA L tas))) : PE X (.List es pos) (tGu g (tE L (dLst tas))) := by
  refine (pe_lst h).less fun σ H Q' h => ?_
  obtain ⟨hg, ρ, Q, r0, q, fin⟩ := h
  refine ⟨hg, ρ, _, r0, q, fun vs H1 ss ρ1 k1 r1 hv q1 => ?_⟩
  obtain ⟨xs, rfl, hz, q2⟩ := q1
  have hb := frs_brA hv
  refine ⟨by rw [hb.len]; exact hz, fun p hp => ?_⟩
  have sm := same_new (o := .lst vs) hp
  exact fin _ _ (.own xs) ρ1 (k1.tr (Go.sm sm)) (r1.go sm) (NR.vr (s := .own xs) r1 sm k1 ⟨p, vs, rfl, hp, upd_same, BrA.keep (keep_of_same sm) _ _ hb⟩) q2
theorem dis_ret (h : PE X e (tGu g (tE L te))) : PSs X [.Return (some e) pos] (fun D σ H => g σ ∧ tS L (dRet te) D σ H) := (pss_one (ps_ret h)).less fun D σ H q => by
  obtain ⟨hg, ρ, De, r, q, h1, h2, h3, h4⟩ := q
  exact ⟨hg, ρ, _, r, q, fun v H' s ρ' go r' hv n => h2 _ _ _ (go.keep r) r'.same hv.rr n⟩
end
section
variable {X : Cx} {L : Lay} {i : Nat} {a C G : Addr} {oe : Obj} {cls : Value} {d : Option Addr} {pn : List (Addr × Obj)} {n x : Str} {p p1 p2 pos : Pos}
theorem call_isx (hz : Zc cls d oe) (hf : ∃ vs, oe.data = .fields vs) (c : ExI X.K C G) : CallR (X.suite a ((a, oe) :: pn)) (.builtin "isinstance") (fun xs H Q => xs = [.ref a, .ref G] ∧ cls = .ref C ∧ d = none ∧ Q (.bl true) H) := by
  intro pins s σ H xs us Q I r h
  obtain ⟨rfl, ec, ed, q⟩ := h
  obtain ⟨u1, u2, rfl, r1, r2⟩ := vals2 r
  cases (show u1 = Value.ref a from r1)
  cases (show u2 = Value.ref G from r2)
  subst ec
  subst ed
  obtain ⟨ha, _⟩ := I.pin (a, oe) (List.mem_append_left _ List.mem_cons_self)
  obtain ⟨vs, hd⟩ := hf
  have J : PySem.W.InstAt s.heap a oe C none := ⟨ha, hz.1, by unfold PySem.W.notCls; rw [hd] <;> rfl, by rw [hz.2]; trivial⟩
  obtain ⟨gt, gg⟩ := c.gg
  exact PySem.W.kia_one (PySem.W.kitx_exc (x := a) (ox := oe) (od := none) c.hcl c.ga gg c.bC c.ha c.hn c.htk c.hm) I.kIn J c.one (fun z => nomatch z) fun tk => ⟨.bl true, H, I.tok tk, rfl, q⟩
theorem dis_isx (hz : Zc cls d oe) (hf : ∃ vs, oe.data = .fields vs) (c : ExI X.K C G) (hN : X.N[i]? = some n) (hv : Vis X.env.scope n) (hg : Gl (X.suite a ((a, oe) :: pn)) "isinstance") (hm : X.mg "isinstance" = none) (hgG : Gl (X.suite a ((a, oe) :: pn)) x) (hmG : X.mg x = some (.ref G))
    (hdn : (n == ("__debug__" : Str)) = false := by decide) (hcd : (n == ("__classdict__" : Str)) = false := by decide) (hdx : (x == ("__debug__" : Str)) = false := by decide) (hb : bootBuiltins "isinstance" = some (.builtin "isinstance") := by decide +kernel)
    (h1 : starEach ((.Name n p1) :: [.Name x p2]) X.env = (false, eval (.Name n p1) X.env) :: starEach [.Name x p2] X.env := by rfl) (h2 : starEach ([.Name x p2]) X.env = (false, eval (.Name x p2) X.env) :: starEach [] X.env := by rfl)
    (hpl : (backTo pos (starEach [.Name x p2] X.env)).any (·.1) = false := by rfl) :
    PE (X.suite a ((a, oe) :: pn)) (.Call (.Name "isinstance" p) [.Name n p1, .Name x p2] [] pos) (tGu (sG i a C cls d) (tE L (dK (.bool true)))) :=
  (pe_callB (X := X.suite a ((a, oe) :: pn)) (call_isx (X := X) (pn := pn) hz hf c) hg hm hb (pa_cons (pe_var (X := X.suite a ((a, oe) :: pn)) hN hv hdn hcd) (pa_cons (pe_glob (X := X.suite a ((a, oe) :: pn)) (v := .ref G) hgG hmG rfl hdx) pa_nil h2) h1) (by decide) (by decide) h1 hpl).less fun σ H Q' q => by
    obtain ⟨⟨e, ec, ed⟩, ρ, Q, r, q, fin⟩ := q
    exact ⟨.ref a, e, rfl, ec, ed, fin _ H (.d (.bool true)) ρ Go.rf r (.bl _) q⟩
end
/-! a def that raises, where it doesn't -/
theorem FnG.calm {P : Program} {w : World} {K : PySem.W.Frag} {mg : Str → Option Value} {base : Heap} {J : Jar} {k n : Nat} {f C : Addr} {fd : FuncData} {ps : List Str} {F : FnE} (Fn : FnG P w K mg base (L2.CX P w) k f fd ps (spX K J n C F)) :
    FnG P w K mg base CX0 k f fd ps (spD K J n fun ss R => F ss R False) := by
  have up : ∀ vs H Q E, spD K J n (fun ss R => F ss R False) vs H Q E → spX K J n C F vs H Q (fun _ _ _ => False) := fun vs H Q E h => by
    obtain ⟨ss, R, fr, hl, hF, fin⟩ := h
    exact ⟨ss, R, False, fr, hl, hF, fin, fun z => z.elim⟩
  refine ⟨fun vs H Q E h => Fn.arity vs H Q _ (up vs H Q E h), fun A outer s H args us vs Q E hg hr he hb hv h => codeAny_mono (Fn.go A outer s H args us vs Q _ hg hr he hb hv (up vs H Q E h)) fun r s' hq => ?_⟩
  cases r with
  | error e =>
    obtain ⟨_, _, _, _, _, _, _, _, _, _, _, _, z⟩ := (show L2.CX P w outer H s (fun _ _ _ => False) e s' from hq)
    exact z.elim
  | ok fl => cases fl <;> exact hq
theorem exm_own {K : PySem.W.Frag} {C : Addr} (h1 : PySem.W.subIn K (.ref C) (.type "BaseException") = some true) (h2 : PySem.W.isClsIn K C = true) (h3 : PySem.W.typeIn K (.ref C) = some (.type "type")) (h4 : PySem.W.subIn K (.ref C) (.ref C) = some true) :
    PySem.W.exmOne K (.ref C) (.ref C) = some true := by
  have e1 : (PySem.W.subIn K (.ref C) (.type "BaseException") == some true) = true := by rw [h1] <;> rfl
  have e2 : ((PySem.W.clsIn K C).isSome && PySem.W.typeIn K (.ref C) == some (.type "type")) = true := by
    have h2' : (PySem.W.clsIn K C).isSome = true := h2
    rw [h2', h3] <;> rfl
  show (if (PySem.W.subIn K (.ref C) (.type "BaseException") == some true) = true then (if ((PySem.W.clsIn K C).isSome && PySem.W.typeIn K (.ref C) == some (.type "type")) = true then PySem.W.subIn K (.ref C) (.ref C) else none) else none) = some true
  rw [if_pos e1, if_pos e2]
  exact h4
theorem exC_mk {K : PySem.W.Frag} {mg : Str → Option Value} {x : Str} {C : Addr} (gC : mg x = some (.ref C)) (kC : PySem.W.keepIn K (.ref C) = true) (xC : PySem.W.excIn K C [.type "ValueError", .type "Exception", .type "BaseException", .type "object"] "ValueError.__new__" = true)
    (bC : PySem.W.subIn K (.ref C) (.type "BaseException") = some true) (tC : PySem.W.typeIn K (.ref C) = some (.type "type")) (iC : PySem.W.isClsIn K C = true) (sC : PySem.W.subIn K (.ref C) (.ref C) = some true) : ExC K mg x C :=
  ⟨gC, kC, ⟨_, PySem.F.excBase_ValueError, xC⟩, bC, tC, exm_own bC iC tC sC⟩
/-! not of a tuple -/
def dNotTu (t : TEd) : TEd := fun ρ Q => t ρ fun s ρ1 => ∃ xs, s = .d (.tuple xs) ∧ Q (.d (.bool xs.isEmpty)) ρ1
theorem de_notTu {X : Cx} {L : Lay} {e : Expr} {t : TEd} {pos : Pos} (hK : L.K = X.K) (h : PE X e (tE L t)) : PE X (.UnaryOp .Not e pos) (tE L (dNotTu t)) :=
  (pe_notT h).less fun σ H Q' h => by
    obtain ⟨ρ, Q, r0, q, fin⟩ := h
    refine (show tE L t σ H _ from ⟨ρ, _, r0, q, fun v H1 s ρ1 k1 r1 hv q1 => ?_⟩)
    obtain ⟨xs, rfl, q2⟩ := q1
    have hv : Br L.K H1 v (.tuple xs) := hv
    cases hv with
    | @tup a vs _ h1 h3 =>
      have e : vs.isEmpty = xs.isEmpty := by
        have := h3.len
        cases vs <;> cases xs <;> first | rfl | simp at this
      refine ⟨!vs.isEmpty, .inr (.inl ⟨vs, hK ▸ h1, rfl⟩), ?_⟩
      rw [Bool.not_not, e]
      exact fin _ H1 (.d (.bool xs.isEmpty)) ρ1 k1 r1 (.bl _) q2
section
variable {t : TEd} {as : TAd} {ρ : En} {D : EndsD} {Q : S → En → Prop}
theorem e_raise {Z : Prop} : dRaise Z D ρ ↔ Z := Iff.rfl
theorem e_try {u : (En → Prop) → TSd} {i : Nat} {v : TSd} : dTry u i v D ρ ↔ u (fun ρ1 => i < ρ1.length ∧ v { nx := fun ρ2 => D.nx (ρ2.set i .un), rt := D.rt, bk := fun ρ2 => D.bk (ρ2.set i .un), ct := fun ρ2 => D.ct (ρ2.set i .un) } (ρ1.set i .un)) D ρ := Iff.rfl
theorem e_callX {F : FnE} {n : Nat} {Z : En → Prop} : dCallX F n Z as ρ Q ↔ as ρ fun ss ρ1 => ss.length = n ∧ F ss (fun s => Q s ρ1) (Z ρ1) := Iff.rfl
theorem e_callKX {F : FnE} {n : Nat} {gS : List S → List S} {Z : En → Prop} : dCallKX F n gS Z as ρ Q ↔ as ρ fun ss ρ1 => (gS ss).length = n ∧ F (gS ss) (fun s => Q s ρ1) (Z ρ1) := Iff.rfl
theorem e_notTu {Q : S → En → Prop} : dNotTu t ρ Q ↔ t ρ fun s ρ1 => ∃ xs, s = .d (.tuple xs) ∧ Q (.d (.bool xs.isEmpty)) ρ1 := Iff.rfl
end
end GB

set_option maxRecDepth 100000
namespace GB
open PySem PySem.Spec PyProof.Rows L2
/-! all, of a list of bools -/
def fAll : FN := fun xs Q => ∃ bs : List Bool, xs = [.list (bs.map .bool)] ∧ Q (.d (.bool (bs.all id)))
theorem c_all {X : Cx} {L : Lay} (hK : L.K = X.K) (gd : Good X) : CallR X (.builtin "all") (rN L fAll) := by
  intro pins s σ H vs us Q' I r q
  obtain ⟨xs, Q, b, ⟨bs, rfl, q⟩, fin⟩ := q
  obtain ⟨v, rfl, b1⟩ := brA1 hK b
  obtain ⟨a, ws, rfl, h1, h3⟩ := list_sq hK b1
  obtain rfl := br_bls h3
  exact cr_all gd.calm pins s σ H _ us Q' I r ⟨a, bs, rfl, h1, fin _ H (.d (.bool (bs.all id))) (Same.refl H) (.bl _) q⟩
/-! the truth of an int -/
def dIu (t : TEd) : TTd := fun ρ Q => t ρ fun s ρ1 => ∃ i : Int, s = .d (.int i) ∧ Q (i != 0) ρ1
theorem dt_iu {X : Cx} {L : Lay} {e : Expr} {t : TEd} (hK : L.K = X.K) (h : PE X e (tE L t)) (he : ∀ whole, isTrue e X.env whole = (do let v ← whole; standAt e.pos; holding [v] (truthy v)) := by intro _; rfl) : PT X e (tT L (dIu t)) :=
  (pt_truth h he).less fun σ H Q' h => by
    obtain ⟨ρ, Q, r0, q, fin⟩ := h
    refine (show tE L t σ H _ from ⟨ρ, _, r0, q, fun v H1 s ρ1 k1 r1 hv q1 => ?_⟩)
    obtain ⟨i, rfl, q2⟩ := q1
    have hv : Br L.K H1 v (.int i) := hv
    cases hv
    exact ⟨i != 0, (show (i != 0) = (i != 0) from rfl), fin _ H1 ρ1 k1 r1 q2⟩
theorem e_iu {t : TEd} {ρ : En} {Q : Bool → En → Prop} : dIu t ρ Q ↔ t ρ fun s ρ1 => intK s fun i => Q (i != 0) ρ1 := Iff.rfl
theorem e_irng2 {t u : TEd} {ρ : En} {QI : List PyData → En → Prop} : dIRng2 t u ρ QI ↔ t ρ fun s ρ1 => u ρ1 fun s2 ρ2 => intK s fun i => intK s2 fun j => (-(2 ^ 60) < i ∧ i < 2 ^ 60 ∧ -(2 ^ 60) < j ∧ j < 2 ^ 60) ∧ QI (irow i (j - i).toNat) ρ2 := by
  have e : ∀ (s1 s2 : S) (P : Int → Int → Prop), (∃ x y, s1 = .d (.int x) ∧ s2 = .d (.int y) ∧ P x y) ↔ (intK s1 fun x => intK s2 fun y => P x y) := fun s1 s2 P => ⟨fun ⟨x, y, a, b, h⟩ => ⟨x, a, y, b, h⟩, fun ⟨x, a, y, b, h⟩ => ⟨x, y, a, b, h⟩⟩
  unfold dIRng2
  simp only [e]
end GB

set_option maxRecDepth 100000
namespace GB
open PySem PySem.Spec PyProof.Rows L2
/-! a conditional as a test -/
theorem pt_cond {X : Cx} {c a b : Expr} {pos : Pos} {tc ta tb : TT} (hc : PT X c tc) (ha : PT X a ta) (hb : PT X b tb) : PT X (.IfExp c a b pos) (fun σ H Q => tc σ H fun k H1 => if k = true then ta σ H1 Q else tb σ H1 Q) := by
  constructor
  intro pins s σ H Q I h
  show wpAny _ _ (isTrue c X.env (eval c X.env) >>= fun k => if k = true then isTrue a X.env (eval a X.env) else isTrue b X.env (eval b X.env)) _ _ s
  refine wpAny_bind (thn (hc.run pins s σ H _ I h) fun k s1 z => ?_)
  obtain ⟨H1, I1, q1⟩ := z
  cases k with
  | true => exact ha.run pins s1 σ H1 Q I1 q1
  | false => exact hb.run pins s1 σ H1 Q I1 q1
def dIfT (t ta tb : TTd) : TTd := fun ρ Q => t ρ fun k ρ1 => if k = true then ta ρ1 Q else tb ρ1 Q
theorem dt_cond {X : Cx} {L : Lay} {c a b : Expr} {pos : Pos} {t ta tb : TTd} (hc : PT X c (tT L t)) (ha : PT X a (tT L ta)) (hb : PT X b (tT L tb)) : PT X (.IfExp c a b pos) (tT L (dIfT t ta tb)) := by
  refine (pt_cond hc ha hb).less fun σ H Q' h => ?_
  obtain ⟨ρ, Q, r0, q, fin⟩ := h
  refine ⟨ρ, _, r0, q, fun k H1 ρ1 k1 r1 q1 => ?_⟩
  cases k with
  | true => exact ⟨ρ1, _, r1, by simpa using q1, fun b H2 ρ2 k2 r2 q2 => fin b H2 ρ2 (k1.tr k2) r2 q2⟩
  | false => exact ⟨ρ1, _, r1, by simpa using q1, fun b H2 ρ2 k2 r2 q2 => fin b H2 ρ2 (k1.tr k2) r2 q2⟩
theorem e_ifT {t ta tb : TTd} {ρ : En} {Q : Bool → En → Prop} : dIfT t ta tb ρ Q ↔ t ρ fun b ρ1 => iteK b (ta ρ1 Q) (tb ρ1 Q) := Iff.rfl

/-! dicts, keys ints and texts -/
def lookD (kvs : List (Key × PyData)) (k : Key) : Option PyData := (kvs.find? fun p => decide (p.1 = k)).map (·.2)
def putD (kvs : List (Key × PyData)) (k : Key) (x : PyData) : List (Key × PyData) := if (kvs.any fun p => decide (p.1 = k)) = true then kvs.map (fun p => if p.1 = k then (p.1, x) else p) else kvs ++ [(k, x)]
abbrev dctD (kvs : List (Key × PyData)) : PyData := .dict (kvs.map fun p => (keyD p.1, p.2))
def keyO : PyData → Option Key
  | .int i => some (.inl i)
  | .str z => some (.inr z)
  | _ => none
theorem keyD_inj {a b : Key} (h : keyD a = keyD b) : a = b := by
  cases a <;> cases b <;> simp [keyD] at h <;> simp [h]
theorem keys_inj : ∀ {as bs : List Key}, as.map keyD = bs.map keyD → as = bs
  | [], [], _ => rfl
  | [], _ :: _, h => by simp at h
  | _ :: _, [], h => by simp at h
  | a :: as, b :: bs, h => by
    simp only [List.map_cons, List.cons.injEq] at h
    rw [keyD_inj h.1, keys_inj h.2]
theorem kvs_inj : ∀ {xs ys : List (Key × PyData)}, xs.map (fun p => (keyD p.1, p.2)) = ys.map (fun p => (keyD p.1, p.2)) → xs = ys
  | [], [], _ => rfl
  | [], _ :: _, h => by simp at h
  | _ :: _, [], h => by simp at h
  | p :: xs, q :: ys, h => by
    simp only [List.map_cons, List.cons.injEq, Prod.mk.injEq] at h
    obtain ⟨⟨h1, h2⟩, h3⟩ := h
    rw [kvs_inj h3]
    congr 1
    exact Prod.ext (keyD_inj h1) h2
theorem dctD_inj {xs ys : List (Key × PyData)} (h : dctD xs = dctD ys) : xs = ys := kvs_inj (PyData.dict.inj h)
def DR (L : Lay) (H : Hp) (a : Addr) (kvs : List (Key × PyData)) : Prop := ∃ vks : List (Key × V), Rd H a (.dK vks) ∧ kvs.map (·.1) = vks.map (·.1) ∧ BrA L.K H (vks.map (·.2)) (kvs.map (·.2))
section
variable {L : Lay} {H H' : Hp} {a : Addr} {kvs : List (Key × PyData)} {σ : L2.St} {ρ : En}
theorem look_rel {K : PySem.W.Frag} (k : Key) : ∀ {kvs : List (Key × PyData)} {vks : List (Key × V)}, kvs.map (·.1) = vks.map (·.1) → BrA K H (vks.map (·.2)) (kvs.map (·.2)) → (∀ x, lookD kvs k = some x → ∃ v, valV vks k = some v ∧ Br K H v x) ∧ (lookD kvs k = none → valV vks k = none)
  | [], [], _, _ => ⟨fun _ h => (nomatch h), fun _ => rfl⟩
  | [], _ :: _, h, _ => by simp at h
  | _ :: _, [], h, _ => by simp at h
  | p :: kvs, q :: vks, h, b => by
    simp only [List.map_cons, List.cons.injEq] at h
    cases b with
    | cons b1 b2 =>
      have ih := look_rel k h.2 b2
      unfold lookD valV
      rw [List.find?_cons, List.find?_cons, ← h.1]
      by_cases e : p.1 = k
      · rw [decide_eq_true e]
        exact ⟨fun x hx => ⟨q.2, rfl, by simp at hx; rw [← hx]; exact b1⟩, fun hx => by simp at hx⟩
      · rw [decide_eq_false e]
        exact ih
theorem DR.get (h : DR L H a kvs) (k : Key) : (∀ x, lookD kvs k = some x → ∃ v, DGet H a (kV k) (some v) ∧ Br L.K H v x) ∧ (lookD kvs k = none → DGet H a (kV k) none) := by
  obtain ⟨vks, h1, h2, h3⟩ := h
  obtain ⟨q1, q2⟩ := look_rel k h2 h3
  refine ⟨fun x hx => ?_, fun hx => .inl ⟨vks, k, h1, rfl, (q2 hx).symm⟩⟩
  obtain ⟨v, e, b⟩ := q1 x hx
  exact ⟨v, .inl ⟨vks, k, h1, rfl, e.symm⟩, b⟩
theorem DR.isD (h : DR L H a kvs) : IsD H a := by
  obtain ⟨vks, h1, _⟩ := h
  exact .inl ⟨vks, h1⟩
theorem dr_frz {v : V} (h : Br L.K H v (dctD kvs)) : ∃ a, v = .ref a ∧ DR L H a kvs := by
  cases h with
  | @dct a o vks _ h1 h2 h3 =>
    refine ⟨a, rfl, vks, .inr ⟨o, h1⟩, ?_, ?_⟩
    · refine keys_inj ?_
      rw [List.map_map, List.map_map]
      rw [List.map_map] at h2
      exact h2
    · rw [List.map_map] at h3
      exact h3
theorem dr_own (r : Rel L H σ ρ) {i : Nat} (h : ρ[i]? = some (.od kvs)) : ∃ a, ∃ vks : List (Key × V), σ[i]? = some (some (.ref a)) ∧ H a = some (.dK vks) ∧ kvs.map (·.1) = vks.map (·.1) ∧ BrA L.K H (vks.map (·.2)) (kvs.map (·.2)) ∧ L.H0 a = none := by
  obtain ⟨o, e, v, e2, l, vks, e3, h1, h2, h3⟩ := r.get h
  exact ⟨l, vks, by rw [e, e2, e3], h1, h2.1, h2.2, h3⟩
theorem key_br {u : V} {y : PyData} {k : Key} {K : PySem.W.Frag} (h : Br K H u y) (e : keyO y = some k) : u = kV k := by
  cases h <;> simp [keyO] at e <;> subst e <;> rfl
theorem put_rel {K : PySem.W.Frag} {k : Key} {x : PyData} {v : V} (b : Br K H v x) {kvs : List (Key × PyData)} {vks : List (Key × V)} (e : kvs.map (·.1) = vks.map (·.1)) (h : BrA K H (vks.map (·.2)) (kvs.map (·.2))) :
    (putD kvs k x).map (·.1) = (putK vks k v).map (·.1) ∧ BrA K H ((putK vks k v).map (·.2)) ((putD kvs k x).map (·.2)) := by
  have an : (kvs.any fun p => decide (p.1 = k)) = (vks.any fun p => decide (p.1 = k)) := by
    have q : (kvs.map (·.1)).any (fun j => decide (j = k)) = (vks.map (·.1)).any (fun j => decide (j = k)) := by rw [e]
    rw [List.any_map, List.any_map] at q
    exact q
  unfold putD putK
  rw [an]
  by_cases hk : (vks.any fun p => decide (p.1 = k)) = true
  · rw [if_pos hk, if_pos hk]
    clear an hk
    induction kvs generalizing vks with
    | nil => cases vks with
      | nil => exact ⟨rfl, .nil⟩
      | cons _ _ => simp at e
    | cons p kvs ih => cases vks with
      | nil => simp at e
      | cons q vks =>
        simp only [List.map_cons, List.cons.injEq] at e
        cases h with
        | cons h1 h2 =>
          obtain ⟨i1, i2⟩ := ih e.2 h2
          simp only [List.map_cons]
          have eq : q.1 = p.1 := e.1.symm
          by_cases z : p.1 = k
          · rw [if_pos z, if_pos (eq.trans z)]
            exact ⟨by simp only [e.1]; rw [i1], .cons b i2⟩
          · rw [if_neg z, if_neg (fun w => z (eq.symm.trans w))]
            exact ⟨by simp only [e.1]; rw [i1], .cons h1 i2⟩
  · rw [if_neg hk, if_neg hk]
    exact ⟨by rw [List.map_append, List.map_append, e]; rfl, by rw [List.map_append, List.map_append]; exact h.app (BrA.one b)⟩
end
/-! own dicts: readings -/
def dNewD : TEd := fun ρ Q => Q (.od []) ρ
def dPutO (i : Nat) (ti tv : TEd) : TSd := fun D ρ => tv ρ fun s ρ1 => ∃ x, s = .d x ∧ (∃ kvs, ρ1[i]? = some (.od kvs)) ∧ ti ρ1 fun s2 ρ2 => ∃ y, s2 = .d y ∧ ∃ k, keyO y = some k ∧ ∃ kvs, ρ2[i]? = some (.od kvs) ∧ kvs.length < sizeLine ∧ D.nx (ρ2.set i (.od (putD kvs k x)))
def dFixK (i : Nat) (t : TSd) : TSd := fun D ρ => ∃ kvs, ρ[i]? = some (.od kvs) ∧ t D (ρ.set i (.d (dctD kvs)))
/-- what is done with a dict and a key -/
abbrev GD := List (Key × PyData) → Key → (S → Prop) → Prop
def gItem : GD := fun kvs k Q => ∃ x, lookD kvs k = some x ∧ Q (.d x)
def gGet : GD := fun kvs k Q => Q (.d ((lookD kvs k).getD .none))
def gIn : GD := fun kvs k Q => Q (.d (.bool (lookD kvs k).isSome))
def gNotIn : GD := fun kvs k Q => Q (.d (.bool (!(lookD kvs k).isSome)))
/-- the dict ahead of the key: own, or firm -/
def dDkO (g : GD) (i : Nat) (ty : TEd) : TEd := fun ρ Q => (∃ kvs, ρ[i]? = some (.od kvs)) ∧ ty ρ fun s ρ1 => ∃ y, s = .d y ∧ ∃ k, keyO y = some k ∧ ∃ kvs, ρ1[i]? = some (.od kvs) ∧ g kvs k fun s => Q s ρ1
def dDkF (g : GD) (td ty : TEd) : TEd := fun ρ Q => td ρ fun s ρ1 => ∃ kvs, s = .d (dctD kvs) ∧ ty ρ1 fun s2 ρ2 => ∃ y, s2 = .d y ∧ ∃ k, keyO y = some k ∧ g kvs k fun s => Q s ρ2
/-- the key ahead of the dict -/
def dKdO (g : GD) (ty : TEd) (i : Nat) : TEd := fun ρ Q => ty ρ fun s ρ1 => ∃ y, s = .d y ∧ ∃ k, keyO y = some k ∧ ∃ kvs, ρ1[i]? = some (.od kvs) ∧ g kvs k fun s => Q s ρ1
def dKdF (g : GD) (ty td : TEd) : TEd := fun ρ Q => ty ρ fun s ρ1 => ∃ y, s = .d y ∧ ∃ k, keyO y = some k ∧ td ρ1 fun s2 ρ2 => ∃ kvs, s2 = .d (dctD kvs) ∧ g kvs k fun s => Q s ρ2
def dGet2O (i : Nat) (ty tz : TEd) : TEd := fun ρ Q => (∃ kvs, ρ[i]? = some (.od kvs)) ∧ ty ρ fun s ρ1 => ∃ y, s = .d y ∧ ∃ k, keyO y = some k ∧ tz ρ1 fun s2 ρ2 => ∃ z, s2 = .d z ∧ ∃ kvs, ρ2[i]? = some (.od kvs) ∧ Q (.d ((lookD kvs k).getD z)) ρ2
def dGet2F (td ty tz : TEd) : TEd := fun ρ Q => td ρ fun s ρ1 => ∃ kvs, s = .d (dctD kvs) ∧ ty ρ1 fun s2 ρ2 => ∃ y, s2 = .d y ∧ ∃ k, keyO y = some k ∧ tz ρ2 fun s3 ρ3 => ∃ z, s3 = .d z ∧ Q (.d ((lookD kvs k).getD z)) ρ3
section
variable {X : Cx} {L : Lay} {o e f iE v : Expr} {pos p1 apos cpos : Pos} {i : Nat} {td ty tz ti tv t : TEd}
theorem de_newD : PE X (.Dict [] [] pos) (tE L dNewD) := pe_dnewK.less fun σ H Q' q p hp => by
  obtain ⟨ρ, Q, r, q, fin⟩ := q
  have sm := same_new (o := .dK []) hp
  exact fin _ _ (.od []) ρ (Go.sm sm) (r.go sm) ⟨⟨p, [], rfl, upd_same, ⟨rfl, .nil⟩, r.same.free hp⟩, fun l e => by cases e; exact hp⟩ q
theorem ds_putO (gd : Good X) (ho : PE X o (tVar i)) (hi : PE X iE (tE L ti)) (hv : PE X v (tE L tv)) (hs : swapsWith v (some (.Subscript o iE p1)) pos.line X.env = pure false := by rfl) :
    PS X (.Assign [.Subscript o iE p1] v pos) (tS L (dPutO i ti tv)) :=
  (ps_dput (by have := gd.un; omega) ho hi hv hs).less fun D σ H q => by
    obtain ⟨ρ, De, r, q, n1, _⟩ := q
    refine ⟨ρ, _, r, q, fun v H1 s ρ1 go r1 hv q1 => ?_⟩
    obtain ⟨x, rfl, ⟨kvs0, e0⟩, q2⟩ := q1
    obtain ⟨a, vks0, ha, _⟩ := dr_own r1 e0
    refine ⟨.ref a, ha, ρ1, _, r1, q2, fun u H2 s2 ρ2 go2 r2 hu q3 => ?_⟩
    obtain ⟨y, rfl, k, hk, kvs, ek, hl, q4⟩ := q3
    obtain ⟨a', vks, ha', h1, h2, h3, h0⟩ := dr_own r2 ek
    rw [ha] at ha'; cases ha'
    have hu := key_br hu hk
    subst hu
    have hv2 : Br L.K H2 v x := Br.keep (go2.keep r1) _ _ hv
    have len : vks.length = kvs.length := by have := congrArg List.length h2; simpa using this.symm
    refine ⟨a, _, rfl, DPut.k h1 (by rw [len]; exact hl), ?_⟩
    obtain ⟨r3, k3⟩ := r2.putW (w := .dK (putK vks k v)) (ys := .k (putD kvs k x)) ek ha h1 trivial fun kk _ => by
      obtain ⟨g1, g2⟩ := put_rel (k := k) hv2 h2 h3
      exact ⟨a, _, rfl, upd_same, ⟨g1, BrA.keep kk _ _ g2⟩, h0⟩
    exact n1 _ _ _ (((go.keep r).tr (go2.keep r1)).tr k3) r3 q4
theorem dss_fixK (g : Good X) {sts : List Stmt} {t : TSd} (i : Nat) (h : PSs X sts (tS L t)) : PSs X sts (tS L (dFixK i t)) := by
  constructor
  intro pins s σ H D I q
  obtain ⟨ρ, De, r, ⟨kvs, e, q⟩, h1, h2, h3, h4⟩ := q
  obtain ⟨l, vks, hi, hl, _⟩ := dr_own r e
  obtain ⟨o, I2⟩ := fix_inv I hl trivial
  obtain ⟨r2, b2⟩ := r.fixInK (o := o) e hi hl
  have k := keep_fix (o := o) hl trivial
  exact h.run pins s σ _ D I2 ⟨_, De, r2, q, fun σ2 H2 ρ2 k2 => h1 σ2 H2 ρ2 (k.tr k2), fun v H2 s k2 => h2 v H2 s (k.tr k2), fun σ2 H2 ρ2 k2 => h3 σ2 H2 ρ2 (k.tr k2), fun σ2 H2 ρ2 k2 => h4 σ2 H2 ρ2 (k.tr k2)⟩
/-- one answer for all four looks -/
theorem look_item {H : Hp} {a : Addr} {kvs : List (Key × PyData)} {k : Key} {Q : S → Prop} (d : DR L H a kvs) (q : gItem kvs k Q) : ∃ v, DGet H a (kV k) (some v) ∧ ∃ x, Br L.K H v x ∧ Q (.d x) := by
  obtain ⟨x, hx, q⟩ := q
  obtain ⟨v, g, b⟩ := (d.get k).1 x hx
  exact ⟨v, g, x, b, q⟩
theorem look_get {H : Hp} {a : Addr} {kvs : List (Key × PyData)} (k : Key) (d : DR L H a kvs) {z : PyData} {vz : V} (bz : Br L.K H vz z) : ∃ o, DGet H a (kV k) o ∧ Br L.K H (o.getD vz) ((lookD kvs k).getD z) ∧ o.isSome = (lookD kvs k).isSome := by
  cases h : lookD kvs k with
  | none => exact ⟨none, (d.get k).2 h, bz, rfl⟩
  | some x =>
    obtain ⟨v, g, b⟩ := (d.get k).1 x h
    exact ⟨some v, g, b, rfl⟩
theorem own_dr {H : Hp} {σ : L2.St} {ρ : En} (r : Rel L H σ ρ) {kvs : List (Key × PyData)} {a : Addr} (e : ρ[i]? = some (.od kvs)) (ha : σ[i]? = some (some (.ref a))) : DR L H a kvs := by
  obtain ⟨a', vks, ha', h1, h2, h3, _⟩ := dr_own r e
  rw [ha] at ha'; cases ha'
  exact ⟨vks, .inl h1, h2, h3⟩
theorem DR.keep {H H' : Hp} {v : V} {kvs : List (Key × PyData)} (k : Keep H H') (h : Br L.K H v (dctD kvs)) : ∃ a, v = .ref a ∧ DR L H' a kvs := dr_frz (Br.keep k _ _ h)
theorem de_itemO (gd : Good X) (ho : PE X o (tVar i)) (hi : PE X iE (tE L ty)) (hs : NoSl iE := by intro _ _; rfl) : PE X (.Subscript o iE pos) (tE L (dDkO gItem i ty)) :=
  (pe_dget (by have := gd.un; omega) ho hi hs).less fun σ H Q' q => by
    obtain ⟨ρ, Q, r, ⟨⟨kvs0, e0⟩, q⟩, fin⟩ := q
    obtain ⟨a, vks0, ha, _⟩ := dr_own r e0
    refine ⟨.ref a, ha, ρ, _, r, q, fun u H2 s2 ρ2 go2 r2 hu q3 => ?_⟩
    obtain ⟨y, rfl, k, hk, kvs, ek, q4⟩ := q3
    have hu := key_br hu hk
    subst hu
    obtain ⟨v, g, x, b, q5⟩ := look_item (own_dr r2 ek ha) q4
    exact ⟨a, v, rfl, g, fin v H2 (.d x) ρ2 go2 r2 b q5⟩
theorem de_itemF (gd : Good X) (ho : PE X o (tE L td)) (hi : PE X iE (tE L ty)) (hs : NoSl iE := by intro _ _; rfl) : PE X (.Subscript o iE pos) (tE L (dDkF gItem td ty)) :=
  (pe_dget (by have := gd.un; omega) ho hi hs).less fun σ H Q' q => by
    obtain ⟨ρ, Q, r, q, fin⟩ := q
    refine ⟨ρ, _, r, q, fun w H1 s1 ρ1 go1 r1 hw q1 => ?_⟩
    obtain ⟨kvs, rfl, q2⟩ := q1
    refine ⟨ρ1, _, r1, q2, fun u H2 s2 ρ2 go2 r2 hu q3 => ?_⟩
    obtain ⟨y, rfl, k, hk, q4⟩ := q3
    have hu := key_br hu hk
    subst hu
    obtain ⟨a, rfl, d⟩ := DR.keep (go2.keep r1) hw
    obtain ⟨v, g, x, b, q5⟩ := look_item d q4
    exact ⟨a, v, rfl, g, fin v H2 (.d x) ρ2 (go1.tr go2) r2 b q5⟩
theorem de_getO (gd : Good X) (ho : PE X o (tVar i)) (hi : PE X e (tE L ty)) (m : M1 X o "get" apos e cpos := by exact ⟨rfl, rfl, rfl, rfl⟩) : PE X (.Call (.Attribute o "get" apos) [e] [] cpos) (tE L (dDkO gGet i ty)) :=
  (pe_dget1 (by have := gd.un; omega) ho hi m).less fun σ H Q' q => by
    obtain ⟨ρ, Q, r, ⟨⟨kvs0, e0⟩, q⟩, fin⟩ := q
    obtain ⟨a, vks0, ha, _⟩ := dr_own r e0
    refine ⟨.ref a, ha, a, rfl, (own_dr r e0 ha).isD, ρ, _, r, q, fun u H2 s2 ρ2 go2 r2 hu q3 => ?_⟩
    obtain ⟨y, rfl, k, hk, kvs, ek, q4⟩ := q3
    have hu := key_br hu hk
    subst hu
    obtain ⟨o, g, b, _⟩ := look_get k (own_dr r2 ek ha) .non
    exact ⟨o, g, fin _ H2 (.d _) ρ2 go2 r2 b q4⟩
theorem de_getF (gd : Good X) (ho : PE X o (tE L td)) (hi : PE X e (tE L ty)) (m : M1 X o "get" apos e cpos := by exact ⟨rfl, rfl, rfl, rfl⟩) : PE X (.Call (.Attribute o "get" apos) [e] [] cpos) (tE L (dDkF gGet td ty)) :=
  (pe_dget1 (by have := gd.un; omega) ho hi m).less fun σ H Q' q => by
    obtain ⟨ρ, Q, r, q, fin⟩ := q
    refine ⟨ρ, _, r, q, fun w H1 s1 ρ1 go1 r1 hw q1 => ?_⟩
    obtain ⟨kvs, rfl, q2⟩ := q1
    obtain ⟨a, rfl, d1⟩ := dr_frz hw
    refine ⟨a, rfl, d1.isD, ρ1, _, r1, q2, fun u H2 s2 ρ2 go2 r2 hu q3 => ?_⟩
    obtain ⟨y, rfl, k, hk, q4⟩ := q3
    have hu := key_br hu hk
    subst hu
    obtain ⟨a', ea, d⟩ := DR.keep (go2.keep r1) hw
    cases ea
    obtain ⟨o, g, b, _⟩ := look_get k d .non
    exact ⟨o, g, fin _ H2 (.d _) ρ2 (go1.tr go2) r2 b q4⟩
theorem de_get2O (gd : Good X) (ho : PE X o (tVar i)) (hi : PE X e (tE L ty)) (hf : PE X f (tE L tz)) (m : M2 X o "get" apos e f cpos := by exact ⟨rfl, rfl, rfl, rfl⟩) : PE X (.Call (.Attribute o "get" apos) [e, f] [] cpos) (tE L (dGet2O i ty tz)) :=
  (pe_dget2 (by have := gd.un; omega) ho hi hf m).less fun σ H Q' q => by
    obtain ⟨ρ, Q, r, ⟨⟨kvs0, e0⟩, q⟩, fin⟩ := q
    obtain ⟨a, vks0, ha, _⟩ := dr_own r e0
    refine ⟨.ref a, ha, a, rfl, (own_dr r e0 ha).isD, ρ, _, r, q, fun u H2 s2 ρ2 go2 r2 hu q3 => ?_⟩
    obtain ⟨y, rfl, k, hk, q4⟩ := q3
    have hu := key_br hu hk
    subst hu
    refine ⟨ρ2, _, r2, q4, fun vz H3 s3 ρ3 go3 r3 hz q5 => ?_⟩
    obtain ⟨z, rfl, kvs, ek, q6⟩ := q5
    obtain ⟨o, g, b, _⟩ := look_get k (own_dr r3 ek ha) hz
    exact ⟨o, g, fin _ H3 (.d _) ρ3 (go2.tr go3) r3 b q6⟩
theorem de_get2F (gd : Good X) (ho : PE X o (tE L td)) (hi : PE X e (tE L ty)) (hf : PE X f (tE L tz)) (m : M2 X o "get" apos e f cpos := by exact ⟨rfl, rfl, rfl, rfl⟩) : PE X (.Call (.Attribute o "get" apos) [e, f] [] cpos) (tE L (dGet2F td ty tz)) :=
  (pe_dget2 (by have := gd.un; omega) ho hi hf m).less fun σ H Q' q => by
    obtain ⟨ρ, Q, r, q, fin⟩ := q
    refine ⟨ρ, _, r, q, fun w H1 s1 ρ1 go1 r1 hw q1 => ?_⟩
    obtain ⟨kvs, rfl, q2⟩ := q1
    obtain ⟨a, rfl, d1⟩ := dr_frz hw
    refine ⟨a, rfl, d1.isD, ρ1, _, r1, q2, fun u H2 s2 ρ2 go2 r2 hu q3 => ?_⟩
    obtain ⟨y, rfl, k, hk, q4⟩ := q3
    have hu := key_br hu hk
    subst hu
    refine ⟨ρ2, _, r2, q4, fun vz H3 s3 ρ3 go3 r3 hz q5 => ?_⟩
    obtain ⟨z, rfl, q6⟩ := q5
    obtain ⟨a', ea, d⟩ := DR.keep ((go2.tr go3).keep r1) hw
    cases ea
    obtain ⟨o, g, b, _⟩ := look_get k d hz
    exact ⟨o, g, fin _ H3 (.d _) ρ3 ((go1.tr go2).tr go3) r3 b q6⟩
theorem kd_own {Q' : VK} {σ : L2.St} {H : Hp} (g : GD) (F : Bool → Bool) (hg : ∀ kvs k Q, g kvs k Q → Q (.d (.bool (F (lookD kvs k).isSome)))) (q : tE L (dKdO g ty i) σ H Q') :
    tE L ty σ H fun y H1 => tVar i σ H1 fun x H2 => ∃ a o, x = .ref a ∧ DGet H2 a y o ∧ Q' (.bl (F o.isSome)) H2 := by
  obtain ⟨ρ, Q, r, q, fin⟩ := q
  refine ⟨ρ, _, r, q, fun u H2 s2 ρ2 go2 r2 hu q3 => ?_⟩
  obtain ⟨y, rfl, k, hk, kvs, ek, q4⟩ := q3
  have hu := key_br hu hk
  subst hu
  obtain ⟨a, vks, ha, _⟩ := dr_own r2 ek
  obtain ⟨o, g', _, e⟩ := look_get k (own_dr r2 ek ha) (z := .none) .non
  exact ⟨.ref a, ha, a, o, rfl, g', fin _ H2 (.d (.bool (F o.isSome))) ρ2 go2 r2 (.bl _) (by rw [e]; exact hg _ _ _ q4)⟩
theorem kd_frz {Q' : VK} {σ : L2.St} {H : Hp} (g : GD) (F : Bool → Bool) (hg : ∀ kvs k Q, g kvs k Q → Q (.d (.bool (F (lookD kvs k).isSome)))) (q : tE L (dKdF g ty td) σ H Q') :
    tE L ty σ H fun y H1 => tE L td σ H1 fun x H2 => ∃ a o, x = .ref a ∧ DGet H2 a y o ∧ Q' (.bl (F o.isSome)) H2 := by
  obtain ⟨ρ, Q, r, q, fin⟩ := q
  refine ⟨ρ, _, r, q, fun u H1 s1 ρ1 go1 r1 hu q3 => ?_⟩
  obtain ⟨y, rfl, k, hk, q4⟩ := q3
  have hu := key_br hu hk
  subst hu
  refine ⟨ρ1, _, r1, q4, fun w H2 s2 ρ2 go2 r2 hw q5 => ?_⟩
  obtain ⟨kvs, rfl, q6⟩ := q5
  obtain ⟨a, rfl, d⟩ := dr_frz hw
  obtain ⟨o, g', _, e⟩ := look_get k d (z := .none) .non
  exact ⟨a, o, rfl, g', fin _ H2 (.d (.bool (F o.isSome))) ρ2 (go1.tr go2) r2 (.bl _) (by rw [e]; exact hg _ _ _ q6)⟩
theorem de_inO (gd : Good X) (hi : PE X e (tE L ty)) (ho : PE X o (tVar i)) (hm : behindInMarks .In o = false := by rfl) : PE X (.Compare e [.In] [o] pos) (tE L (dKdO gIn ty i)) := (pe_cmp (pc_din (by have := gd.un; omega) hi ho) hm).less fun _ _ _ q => kd_own gIn id (fun _ _ _ h => h) q
theorem de_notInO (gd : Good X) (hi : PE X e (tE L ty)) (ho : PE X o (tVar i)) (hm : behindInMarks .NotIn o = false := by rfl) : PE X (.Compare e [.NotIn] [o] pos) (tE L (dKdO gNotIn ty i)) := (pe_cmp (pc_dnotin (by have := gd.un; omega) hi ho) hm).less fun _ _ _ q => kd_own gNotIn (fun b => !b) (fun _ _ _ h => h) q
theorem de_inF (gd : Good X) (hi : PE X e (tE L ty)) (ho : PE X o (tE L td)) (hm : behindInMarks .In o = false := by rfl) : PE X (.Compare e [.In] [o] pos) (tE L (dKdF gIn ty td)) := (pe_cmp (pc_din (by have := gd.un; omega) hi ho) hm).less fun _ _ _ q => kd_frz gIn id (fun _ _ _ h => h) q
theorem de_notInF (gd : Good X) (hi : PE X e (tE L ty)) (ho : PE X o (tE L td)) (hm : behindInMarks .NotIn o = false := by rfl) : PE X (.Compare e [.NotIn] [o] pos) (tE L (dKdF gNotIn ty td)) := (pe_cmp (pc_dnotin (by have := gd.un; omega) hi ho) hm).less fun _ _ _ q => kd_frz gNotIn (fun b => !b) (fun _ _ _ h => h) q
theorem dt_inO (gd : Good X) (hi : PE X e (tE L ty)) (ho : PE X o (tVar i)) (hm : behindInMarks .In o = false := by rfl) : PT X (.Compare e [.In] [o] pos) (tT L (dB (dKdO gIn ty i))) := (pt_cmp (pc_din (by have := gd.un; omega) hi ho) hm).less (tT_of fun _ _ _ q => kd_own gIn id (fun _ _ _ h => h) q)
theorem dt_notInO (gd : Good X) (hi : PE X e (tE L ty)) (ho : PE X o (tVar i)) (hm : behindInMarks .NotIn o = false := by rfl) : PT X (.Compare e [.NotIn] [o] pos) (tT L (dB (dKdO gNotIn ty i))) := (pt_cmp (pc_dnotin (by have := gd.un; omega) hi ho) hm).less (tT_of fun _ _ _ q => kd_own gNotIn (fun b => !b) (fun _ _ _ h => h) q)
theorem dt_inF (gd : Good X) (hi : PE X e (tE L ty)) (ho : PE X o (tE L td)) (hm : behindInMarks .In o = false := by rfl) : PT X (.Compare e [.In] [o] pos) (tT L (dB (dKdF gIn ty td))) := (pt_cmp (pc_din (by have := gd.un; omega) hi ho) hm).less (tT_of fun _ _ _ q => kd_frz gIn id (fun _ _ _ h => h) q)
theorem dt_notInF (gd : Good X) (hi : PE X e (tE L ty)) (ho : PE X o (tE L td)) (hm : behindInMarks .NotIn o = false := by rfl) : PT X (.Compare e [.NotIn] [o] pos) (tT L (dB (dKdF gNotIn ty td))) := (pt_cmp (pc_dnotin (by have := gd.un; omega) hi ho) hm).less (tT_of fun _ _ _ q => kd_frz gNotIn (fun b => !b) (fun _ _ _ h => h) q)
/-- an own thing is handed back as it is -/
def dRetO (i : Nat) : TSd := fun D ρ => ∃ o, ρ[i]? = some (.ow o) ∧ D.rt (.ow o)
theorem ds_retO (h : PE X e (tVar i)) : PS X (.Return (some e) pos) (tS L (dRetO i)) := (ps_ret h).less fun D σ H q => by
  obtain ⟨ρ, De, r, ⟨o, e, q⟩, h1, h2, h3, h4⟩ := q
  obtain ⟨_, e1, v, e2, w⟩ := r.get e
  exact ⟨v, by rw [e1, e2], h2 v H (.ow o) (Keep.rfl' H) r.same w q⟩
end
end GB

set_option maxRecDepth 100000
namespace GB
open PySem PySem.Spec PyProof.Rows L2
/-! dicts as they are gone through: list(d), sorted(d), len(d) -/
def ListD (f : List (Key × PyData) → (S → Prop) → Prop) (i : Nat) : TEd := fun ρ Q => ∃ kvs, ρ[i]? = some (.od kvs) ∧ f kvs fun s => Q s ρ
def ListF (f : List (Key × PyData) → (S → Prop) → Prop) (t : TEd) : TEd := fun ρ Q => t ρ fun s ρ1 => ∃ kvs, s = .d (dctD kvs) ∧ f kvs fun s => Q s ρ1
def hList (kvs : List (Key × PyData)) (Q : S → Prop) : Prop := Q (.own (kvs.map fun p => keyD p.1))
def hLen (kvs : List (Key × PyData)) (Q : S → Prop) : Prop := Q (.d (.int kvs.length))
def hSort (kvs : List (Key × PyData)) (Q : S → Prop) : Prop := ∃ ks : List Int, kvs.map (·.1) = ks.map Sum.inl ∧ ks.length < 64 ∧ ∀ ys : List Int, ys.Perm ks → ys.Pairwise (· ≤ ·) → Q (.own (ys.map .int))
def rDct (L : Lay) (f : List (Key × PyData) → (S → Prop) → Prop) : List V → Hp → VK → Prop := fun vs H Q' => ∃ a kvs Q, vs = [.ref a] ∧ DR L H a kvs ∧ f kvs Q ∧ ∀ w H' s, Same H H' → NR L H H' w s → Q s → Q' w H'
section
variable {X : Cx} {L : Lay} {pos p : Pos} {e : Expr} {i : Nat} {t : TEd} {f : List (Key × PyData) → (S → Prop) → Prop}
theorem dct_own {r : List V → Hp → VK → Prop} (hr : ∀ v H Q, rDct L f v H Q → r v H Q) : ∀ σ H Q, tE L (ListD f i) σ H Q → tCB r (tCons (tVar i) tNil) σ H Q := fun σ H Q' h => by
  obtain ⟨ρ, Q, r0, ⟨kvs, ek, q⟩, fin⟩ := h
  obtain ⟨a, vks, ha, _⟩ := dr_own r0 ek
  exact ⟨.ref a, ha, hr _ _ _ ⟨a, kvs, _, rfl, own_dr r0 ek ha, q, fun w H2 s sm nr q3 => fin w H2 s ρ (Go.sm sm) (r0.go sm) (nr.vr r0 sm Go.rf) q3⟩⟩
theorem dct_frz {r : List V → Hp → VK → Prop} (hr : ∀ v H Q, rDct L f v H Q → r v H Q) : ∀ σ H Q, tE L (ListF f t) σ H Q → tCB r (tCons (tE L t) tNil) σ H Q := fun σ H Q' h => by
  obtain ⟨ρ, Q, r0, q, fin⟩ := h
  refine ⟨ρ, _, r0, q, fun w H1 s1 ρ1 go1 r1 hw q1 => ?_⟩
  obtain ⟨kvs, rfl, q2⟩ := q1
  obtain ⟨a, rfl, d⟩ := dr_frz hw
  exact hr _ _ _ ⟨a, kvs, _, rfl, d, q2, fun w H2 s sm nr q3 => fin w H2 s ρ1 (go1.tr (Go.sm sm)) (r1.go sm) (nr.vr r1 sm go1) q3⟩
theorem br_keys {K : PySem.W.Frag} {H : Hp} : ∀ {kvs : List (Key × PyData)} {vks : List (Key × V)}, kvs.map (·.1) = vks.map (·.1) → BrA K H (vks.map fun q => kV q.1) (kvs.map fun q => keyD q.1)
  | [], [], _ => .nil
  | [], _ :: _, h => by simp at h
  | _ :: _, [], h => by simp at h
  | p :: kvs, q :: vks, h => by
    simp only [List.map_cons, List.cons.injEq] at h
    refine .cons (show Br K H (kV q.1) (keyD p.1) from ?_) (br_keys h.2)
    rw [h.1]
    rcases q with ⟨k, w⟩
    cases k with
    | inl i => exact .int i
    | inr z => exact .str z
theorem c_listD (gd : Good X) : CallR X (.type "list") (rDct L hList) := by
  intro pins s σ H vs us Q' I r q
  obtain ⟨a, kvs, Q, rfl, ⟨vks, h1, h2, h3⟩, q, fin⟩ := q
  exact call_listD gd.calm pins s σ H _ us Q' I r ⟨a, vks, rfl, h1, fun p hp => fin _ _ (.own _) (same_new hp) ⟨p, _, rfl, hp, upd_same, br_keys h2⟩ q⟩
theorem br_intsD {K : PySem.W.Frag} {H : Hp} : ∀ ys : List Int, BrA K H (ys.map V.int) (ys.map PyData.int)
  | [] => .nil
  | y :: ys => .cons (.int y) (br_intsD ys)
theorem c_sortD (gd : Good X) : CallR X (.builtin "sorted") (rDct L hSort) := by
  intro pins s σ H vs us Q' I r q
  obtain ⟨a, kvs, Q, rfl, ⟨vks, h1, h2, h3⟩, ⟨ks, k1, k2, q⟩, fin⟩ := q
  exact call_sortedDI gd.calm pins s σ H _ us Q' I r ⟨a, vks, ks, rfl, h1, by rw [← h2, k1], k2, fun ys p y1 y2 hp => fin _ _ (.own (ys.map .int)) (same_new hp) ⟨p, _, rfl, hp, upd_same, br_intsD ys⟩ (q ys y1 y2)⟩
theorem de_listO (gd : Good X) (hg : Gl X "list") (hm : X.mg "list" = none) (hx : PE X e (tVar i)) (h1 : starEach (e :: []) X.env = (false, eval e X.env) :: starEach [] X.env := by rfl) (hpl : (backTo pos (starEach [] X.env)).any (·.1) = false := by rfl) :
    PE X (.Call (.Name "list" p) [e] [] pos) (tE L (ListD hList i)) := (pe_callTy (c_listD (L := L) gd) hg hm (by decide +kernel) (pa_cons hx pa_nil h1) (by decide) (by decide) h1 hpl).less (dct_own fun _ _ _ q => q)
theorem de_listF (gd : Good X) (hg : Gl X "list") (hm : X.mg "list" = none) (hx : PE X e (tE L t)) (h1 : starEach (e :: []) X.env = (false, eval e X.env) :: starEach [] X.env := by rfl) (hpl : (backTo pos (starEach [] X.env)).any (·.1) = false := by rfl) :
    PE X (.Call (.Name "list" p) [e] [] pos) (tE L (ListF hList t)) := (pe_callTy (c_listD (L := L) gd) hg hm (by decide +kernel) (pa_cons hx pa_nil h1) (by decide) (by decide) h1 hpl).less (dct_frz fun _ _ _ q => q)
theorem de_sortO (gd : Good X) (hg : Gl X "sorted") (hm : X.mg "sorted" = none) (hx : PE X e (tVar i)) (h1 : starEach (e :: []) X.env = (false, eval e X.env) :: starEach [] X.env := by rfl) (hpl : (backTo pos (starEach [] X.env)).any (·.1) = false := by rfl) :
    PE X (.Call (.Name "sorted" p) [e] [] pos) (tE L (ListD hSort i)) := (pe_callB (c_sortD (L := L) gd) hg hm (by decide +kernel) (pa_cons hx pa_nil h1) (by decide) (by decide) h1 hpl).less (dct_own fun _ _ _ q => q)
theorem de_sortF (gd : Good X) (hg : Gl X "sorted") (hm : X.mg "sorted" = none) (hx : PE X e (tE L t)) (h1 : starEach (e :: []) X.env = (false, eval e X.env) :: starEach [] X.env := by rfl) (hpl : (backTo pos (starEach [] X.env)).any (·.1) = false := by rfl) :
    PE X (.Call (.Name "sorted" p) [e] [] pos) (tE L (ListF hSort t)) := (pe_callB (c_sortD (L := L) gd) hg hm (by decide +kernel) (pa_cons hx pa_nil h1) (by decide) (by decide) h1 hpl).less (dct_frz fun _ _ _ q => q)
end
/-! from without -/
def odK (s : S) (k : List (Key × PyData) → Prop) : Prop := ∃ kvs, s = .od kvs ∧ k kvs
def dctK (s : S) (k : List (Key × PyData) → Prop) : Prop := ∃ kvs, s = .d (dctD kvs) ∧ k kvs
def keyK (y : PyData) (p : Key → Prop) : Prop := ∃ k, keyO y = some k ∧ p k
section
variable {ρ : En} {Q : S → En → Prop} {D : EndsD} {i : Nat} {t ty td tz tv ti : TEd} {g : GD} {f : List (Key × PyData) → (S → Prop) → Prop}
theorem od_o {kvs : List (Key × PyData)} {k : List (Key × PyData) → Prop} : odK (.od kvs) k ↔ k kvs := ⟨fun ⟨_, e, h⟩ => by cases e; exact h, fun h => ⟨_, rfl, h⟩⟩
theorem dct_d {kvs : List (Key × PyData)} {k : List (Key × PyData) → Prop} : dctK (.d (dctD kvs)) k ↔ k kvs := ⟨fun ⟨_, e, h⟩ => by rw [dctD_inj (S.d.inj e)]; exact h, fun h => ⟨_, rfl, h⟩⟩
theorem key_int {n : Int} {p : Key → Prop} : keyK (.int n) p ↔ p (.inl n) := ⟨fun ⟨_, e, h⟩ => by cases e; exact h, fun h => ⟨_, rfl, h⟩⟩
theorem key_str {n : Str} {p : Key → Prop} : keyK (.str n) p ↔ p (.inr n) := ⟨fun ⟨_, e, h⟩ => by cases e; exact h, fun h => ⟨_, rfl, h⟩⟩
theorem e_newD : dNewD ρ Q ↔ Q (.od []) ρ := Iff.rfl
theorem e_retO : dRetO i D ρ ↔ atK ρ i fun s => ∃ o, s = .ow o ∧ D.rt (.ow o) := ⟨fun ⟨o, e, h⟩ => ⟨_, e, o, rfl, h⟩, fun ⟨_, e, o, z, h⟩ => ⟨o, z ▸ e, h⟩⟩
theorem ow_ex {o : Ow} {k : S → Prop} : (∃ o', S.ow o = .ow o' ∧ k (.ow o')) ↔ k (.ow o) := ⟨fun ⟨_, e, h⟩ => by cases e; exact h, fun h => ⟨_, rfl, h⟩⟩
theorem e_fixK {a : TSd} : dFixK i a D ρ ↔ atK ρ i fun s => odK s fun kvs => setK (a D) ρ i (.d (dctD kvs)) := ⟨fun ⟨kvs, e, h⟩ => ⟨_, e, kvs, rfl, h⟩, fun ⟨_, e, kvs, z, h⟩ => ⟨kvs, z ▸ e, h⟩⟩
theorem at_od {k : List (Key × PyData) → Prop} : (∃ kvs, ρ[i]? = some (.od kvs) ∧ k kvs) ↔ atK ρ i fun s => odK s k := ⟨fun ⟨kvs, e, h⟩ => ⟨_, e, kvs, rfl, h⟩, fun ⟨_, e, kvs, z, h⟩ => ⟨kvs, z ▸ e, h⟩⟩
theorem at_od0 : (∃ kvs, ρ[i]? = some (.od kvs)) ↔ atK ρ i fun s => odK s fun _ => True := ⟨fun ⟨kvs, e⟩ => ⟨_, e, kvs, rfl, trivial⟩, fun ⟨_, e, kvs, z, h⟩ => ⟨kvs, z ▸ e⟩⟩
theorem e_putO : dPutO i ti tv D ρ ↔ tv ρ fun s ρ1 => oneK s fun x => (atK ρ1 i fun o => odK o fun _ => True) ∧ ti ρ1 fun s2 ρ2 => oneK s2 fun y => keyK y fun k => atK ρ2 i fun o => odK o fun kvs => kvs.length < sizeLine ∧ setK D.nx ρ2 i (.od (putD kvs k x)) := by
  unfold dPutO
  simp only [at_od, at_od0]
  exact Iff.rfl
theorem e_dkO : dDkO g i ty ρ Q ↔ (atK ρ i fun o => odK o fun _ => True) ∧ ty ρ fun s ρ1 => oneK s fun y => keyK y fun k => atK ρ1 i fun o => odK o fun kvs => g kvs k fun s => Q s ρ1 := by
  unfold dDkO
  simp only [at_od, at_od0]
  exact Iff.rfl
theorem e_dkF : dDkF g td ty ρ Q ↔ td ρ fun s ρ1 => dctK s fun kvs => ty ρ1 fun s2 ρ2 => oneK s2 fun y => keyK y fun k => g kvs k fun s => Q s ρ2 := Iff.rfl
theorem e_kdO : dKdO g ty i ρ Q ↔ ty ρ fun s ρ1 => oneK s fun y => keyK y fun k => atK ρ1 i fun o => odK o fun kvs => g kvs k fun s => Q s ρ1 := by
  unfold dKdO
  simp only [at_od]
  exact Iff.rfl
theorem e_kdF : dKdF g ty td ρ Q ↔ ty ρ fun s ρ1 => oneK s fun y => keyK y fun k => td ρ1 fun s2 ρ2 => dctK s2 fun kvs => g kvs k fun s => Q s ρ2 := Iff.rfl
theorem e_get2O : dGet2O i ty tz ρ Q ↔ (atK ρ i fun o => odK o fun _ => True) ∧ ty ρ fun s ρ1 => oneK s fun y => keyK y fun k => tz ρ1 fun s2 ρ2 => oneK s2 fun z => atK ρ2 i fun o => odK o fun kvs => Q (.d ((lookD kvs k).getD z)) ρ2 := by
  unfold dGet2O
  simp only [at_od, at_od0]
  exact Iff.rfl
theorem e_get2F : dGet2F td ty tz ρ Q ↔ td ρ fun s ρ1 => dctK s fun kvs => ty ρ1 fun s2 ρ2 => oneK s2 fun y => keyK y fun k => tz ρ2 fun s3 ρ3 => oneK s3 fun z => Q (.d ((lookD kvs k).getD z)) ρ3 := Iff.rfl
theorem e_ListD : ListD f i ρ Q ↔ atK ρ i fun s => odK s fun kvs => f kvs fun s => Q s ρ := at_od
theorem e_ListF : ListF f t ρ Q ↔ t ρ fun s ρ1 => dctK s fun kvs => f kvs fun s => Q s ρ1 := Iff.rfl
theorem g_item {kvs : List (Key × PyData)} {k : Key} {p : S → Prop} : gItem kvs k p ↔ ∃ x, lookD kvs k = some x ∧ p (.d x) := Iff.rfl
theorem g_get {kvs : List (Key × PyData)} {k : Key} {p : S → Prop} : gGet kvs k p ↔ p (.d ((lookD kvs k).getD .none)) := Iff.rfl
theorem g_in {kvs : List (Key × PyData)} {k : Key} {p : S → Prop} : gIn kvs k p ↔ p (.d (.bool (lookD kvs k).isSome)) := Iff.rfl
theorem g_notin {kvs : List (Key × PyData)} {k : Key} {p : S → Prop} : gNotIn kvs k p ↔ p (.d (.bool (!(lookD kvs k).isSome))) := Iff.rfl
theorem h_list {kvs : List (Key × PyData)} {p : S → Prop} : hList kvs p ↔ p (.own (kvs.map fun p => keyD p.1)) := Iff.rfl
theorem fz_od {kvs : List (Key × PyData)} {k : S → Prop} : fzK (.od kvs) k ↔ k (.d (dctD kvs)) := Iff.rfl
end
end GB

set_option maxRecDepth 100000
set_option maxHeartbeats 2000000
namespace GB
open PySem PySem.Spec PyProof.Rows L2
/-! sets of ints, by a comprehension: the machine's side -/
section
variable {prog : Program} {w : World} {A : Around} {R : Result → Shared → Prop} {s : Shared} {env : Env}
abbrev oneGen (tg it : Expr) (ifs : List Expr) : List Comprehension := [⟨tg, it, ifs, 0⟩]
theorem set_eval (el : Expr) (gs : List Comprehension) (sc : Scope) (at' : Pos) : eval (.SetComp el gs sc at') env = comprehension (.SetComp el gs sc at') sc env (firstIterPos gs at') (newSet (.type "set")) (firstAsync gs) (firstIter gs env) := rfl
theorem set_start {el tg it : Expr} {ifs : List Expr} {sc : Scope} {at' : Pos} {iv D : Value} (h0 : codeAny (model prog w) A (.compLoop (.SetComp el (oneGen tg it ifs) sc at') 0 iv D env) R s)
    (h1 : wpAny (model prog w) A (pyIter iv) (fun iv2 s2 => codeAny (model prog w) A (.compLoop (.SetComp el (oneGen tg it ifs) sc at') 0 iv2 D env) R s2) (notedBy (model prog w) A env fun x s2 => R (.error x) s2) s) :
    codeAny (model prog w) A (.compStart (.SetComp el (oneGen tg it ifs) sc at') 0 iv D env) R s := PpSet.codeAny_compStart_set h0 h1
end
section
variable {X : Cx}
/-- what the block of a set of ints asks: it is at D, S its members, n how many -/
def tSi (w : World) (wi : TI) (g : TG) (tt : TT) (te : TE) (vs : List Nat) : TE := fun σ H Q => wi σ H fun J H1 => ∀ D, H1 D = none → ∃ W : Nat → Nat → Hp → Prop, (∃ m, W 0 m (upd H1 D (SetO w D (fun _ => false) 0))) ∧
  ∀ i m H, W i m H → (J.stop i H ∧ Q (.ref D) H) ∨ (J.go i H ∧ ∃ Nx : Hp → Prop, (∀ H', Nx H' → ∃ m', m' < m ∧ W (i + 1) m' H') ∧ ∀ x H', J.yld i H x H' → g x (wipe σ vs) H' fun σ2 H2 => wipe σ2 vs = wipe σ vs ∧
    tt σ2 H2 fun b H3 => if b = true then te σ2 H3 fun y H4 => ∃ (c : Int) (S : Int → Bool) (n : Nat), y = .int c ∧ H4 D = some (SetO w D S n) ∧ n + 1 < scanBound ∧ Nx (upd H4 D (SetO w D (fun j => S j || decide (j = c)) (if S c = true then n else n + 1))) else Nx H3)
theorem add_int {pins : List (Addr × Obj)} {σ : L2.St} {H : Hp} {s : Shared} {E : Value → Shared → Prop} {D : Addr} {S : Int → Bool} {n : Nat} {c : Int} {tok : Tok} {Q : Value → Shared → Prop} (I : Inv X pins σ H s) (at' : H D = some (SetO X.w D S n)) (room : n + 1 < scanBound)
    (k : ∀ s2, Inv X pins σ (upd H D (SetO X.w D (fun j => S j || decide (j = c)) (if S c = true then n else n + 1))) s2 → Q .none s2) : wpAny (model X.prog X.w) X.A (call (.builtin "set.add") [.ref D, .int c tok]) Q E s := by
  refine setR_add (setO_get I at') room fun h2 only now => ?_
  have ⟨o, _, _, _, there, _⟩ := now
  exact k _ (I.write (e := D) (t' := s.toks + 1) (by rw [at']; trivial) (.inl rfl) (fun b u ne hu => (only.2 b ne).trans hu) ⟨o, there⟩ (setO_new now))
theorem si_core {pins : List (Addr × Obj)} {s : Shared} {σ : L2.St} {H : Hp} {Q : VK} {el tg it : Expr} {ifs : List Expr} {sc : Scope} {own : List (Str × Nat)} {p1 p2 : Pos} {wi : TI} {g : TG} {tt : TT} {te : TE} {use : Option (Value → Sem Unit)} {Qf : Value → Shared → Prop}
    (calm : X.calm = true) (nd : X.N.Nodup) (I : Inv X pins σ H s) (src : PI X tg it wi) (blk : BlkOk X.N X.env.scope sc own)
    (tgt : ∀ (s : Shared) (H : Hp) (C : Addr) (cl : List (Str × Addr)) (fp : List Addr), PG (X.blk s H sc (compEnvC sc cl C X.env) fp) tg g)
    (tst : ∀ (s : Shared) (H : Hp) (C : Addr) (cl : List (Str × Addr)) (fp : List Addr), PTs (X.blk s H sc (compEnvC sc cl C X.env) fp) ifs tt)
    (elm : ∀ (s : Shared) (H : Hp) (C : Addr) (cl : List (Str × Addr)) (fp : List Addr), PE (X.blk s H sc (compEnvC sc cl C X.env) fp) el te) (plain : ∀ x, foldedSetIterable it X.env x = pure x)
    (h : tSi X.w wi g tt te (own.map (·.2)) σ H Q)
    (back : ∀ D C s' m H', Inv X pins σ H' s' → Q (.ref D) H' → s'.heap.Ns C m → FpOk X pins H' C → compPost (model X.prog X.w) X.A X.xe use Qf (.ref D) C (.ok .next) s') :
    wpAny (model X.prog X.w) X.A (comprehension (.SetComp el [⟨tg, it, ifs, 0⟩] sc p1) sc X.env p2 (newSet (.type "set")) false (eval it X.env) use) Qf X.xe s := by
  have frees : ∀ y ∈ sc.names, y.2 = .free → ∃ c, X.env.cells.lookup y.1 = some c := fun y hy e => (blk.free y hy e).elim (fun z => I.ok.has _ (.inl z)) fun z => I.ok.has _ (.inr z)
  refine wpAny_comprehension_free (use := use) rfl plain (closure_ok frees) blk.kind (fun y hy e => by rw [blk.uniq y hy, e])
    (thn (src.run pins s σ H _ I h) fun xv s1 hx => thn hx fun iv s2 h2 => ?_)
  obtain ⟨itA, fp, tn, J, H2, rfl, I2, T, st2, f2, q⟩ := h2
  refine PpSet.newSet_ok (newEnv_comp ?_)
  generalize dEq : s2.heap.objs.size = D
  obtain ⟨W, ⟨m0, w0⟩, turn⟩ := q D (I2.hok.fresh (Nat.le_of_eq dEq))
  generalize eq3 : ({ s2 with heap := s2.heap.push { cls := .type "set", dict := none, data := .set #[] 0 (.fresh 0 0 (!X.w.params.followText "set-order")) } } : Shared) = s3
  have heap3 : s3.heap = s2.heap.push { cls := .type "set", dict := none, data := .set #[] 0 (.fresh 0 0 (!X.w.params.followText "set-order")) } := by rw [← eq3]
  have I3 : Inv X pins σ (upd H2 D (SetO X.w D (fun _ => false) 0)) s3 := by
    rw [← eq3]
    exact I2.laid (t' := s2.toks) (fun b o e => Heap.get?_push_of_some _ e) (Nat.le_of_eq dEq) (by rw [← dEq]; exact setO_new (setR_fresh X.w))
  have small : ∀ b ∈ fp, b < s2.heap.objs.size := fun b hb => let ⟨_, e, _⟩ := T.obj _ _ st2 b hb; Heap.lt_size e
  have f3 : ∀ b ∈ fp, FpOk X pins (upd H2 D (SetO X.w D (fun _ => false) 0)) b ∧ b < s3.heap.objs.size := fun b hb => by
    have lt := small b hb
    exact ⟨⟨by rw [upd_ne (by rw [← dEq]; exact Nat.ne_of_lt lt)]; exact (f2 b hb).1, (f2 b hb).2⟩, by rw [heap3, Heap.size_push]; exact Nat.lt_succ_of_lt lt⟩
  have st3 : tn 0 s3.heap := T.keep _ _ _ st2 fun b _ o e => by rw [heap3]; exact Heap.get?_push_of_some _ e
  have I4 := block_start I3 blk nd f3
  have PGb := tgt s3 (upd H2 D (SetO X.w D (fun _ => false) 0)) s3.heap.objs.size (cellsFrom (s3.heap.objs.size + 1) sc.names (cloFrom X.env.cells sc.names [])) fp
  have PTb := tst s3 (upd H2 D (SetO X.w D (fun _ => false) 0)) s3.heap.objs.size (cellsFrom (s3.heap.objs.size + 1) sc.names (cloFrom X.env.cells sc.names [])) fp
  have PEb := elm s3 (upd H2 D (SetO X.w D (fun _ => false) 0)) s3.heap.objs.size (cellsFrom (s3.heap.objs.size + 1) sc.names (cloFrom X.env.cells sc.names [])) fp
  have out : ∀ b ∈ fp, (upd H2 D (SetO X.w D (fun _ => false) 0)) b = none := fun b hb => (f3 b hb).1.1
  show codeAny _ _ (.compStart (.SetComp el (oneGen tg it ifs) sc p1) 0 (.ref itA) (.ref D) (compEnvC sc (cellsFrom (s3.heap.objs.size + 1) sc.names (cloFrom X.env.cells sc.names [])) s3.heap.objs.size X.env)) (compPost (model X.prog X.w) X.A X.xe use Qf (.ref D) s3.heap.objs.size) { s3 with heap := pushCells (s3.heap.push { cls := .type "dict", data := .dict #[] }) sc.names }
  generalize hBE : compEnvC sc (cellsFrom (s3.heap.objs.size + 1) sc.names (cloFrom X.env.cells sc.names [])) s3.heap.objs.size X.env = be at I4 PGb PTb PEb ⊢
  have hloc : be.locals = s3.heap.objs.size := by subst hBE; rfl
  generalize hH3 : upd H2 D (SetO X.w D (fun _ => false) 0) = H3 at I3 I4 PGb PTb PEb w0 out f3
  generalize eq4 : ({ s3 with heap := pushCells (s3.heap.push { cls := .type "dict", data := .dict #[] }) sc.names } : Shared) = s4 at I4 ⊢
  have st4 : tn 0 s4.heap := T.keep _ _ _ st3 fun b _ o e => by rw [← eq4]; exact pushCells_keeps _ _ _ _ (Heap.get?_push_of_some _ e)
  have fpb : ∀ {σ' : L2.St} {H' : Hp} {s' : Shared}, Inv (X.blk s3 H3 sc be fp) [] σ' H' s' → (∀ b ∈ fp, H' b = none) → ∀ b ∈ fp, FpOk (X.blk s3 H3 sc be fp) [] H' b := fun {σ' H' s'} I' n b hb =>
    ⟨n b hb, (I'.ok.exf b hb).1, I'.ok.exfs b hb, .inl hb, fun x c e => (I'.ok.exf b hb).2 x c e, fun z hz => absurd (show z ∈ ([] : List (Addr × Obj)) ++ [] from hz) (by simp)⟩
  have loop : codeAny (model X.prog X.w) X.A (.compLoop (.SetComp el (oneGen tg it ifs) sc p1) 0 (.ref itA) (.ref D) be) (compPost (model X.prog X.w) X.A X.xe use Qf (.ref D) s3.heap.objs.size) s4 := by
    refine PpSet.compLoopS_any (fun n s' => ∃ i H', Inv (X.blk s3 H3 sc be fp) [] (wipe σ (own.map (·.2))) H' s' ∧ tn i s'.heap ∧ (∀ b ∈ fp, H' b = none) ∧ W i n H') ?_ m0 ⟨0, H3, I4, st4, out, w0⟩
    rintro n s5 ⟨i, H5, I5, st5, n5, w5⟩
    rcases turn i n H5 w5 with ⟨stop, fine⟩ | ⟨go, Nx, less, step⟩
    · refine thnF (T.done (X.blk s3 H3 sc be fp) rfl rfl rfl calm i [] s5 _ H5 (fun _ _ => False) I5 (fpb I5 n5) st5 stop) fun r s6 ⟨er, I6⟩ => ?_
      subst er
      have I7 : Inv X pins σ H5 s6 := I3.call' (ch := fp) I6.os I6.base I6.hok I6.bare fun b hb => ⟨(f3 b hb).1.2.2.2.1, (f3 b hb).1.2.1, (f3 b hb).1.2.2.2.2.1, (f3 b hb).1.2.2.2.2.2⟩
      have free5 : H5 s3.heap.objs.size = none := by rw [← hloc]; exact I6.free
      obtain ⟨m, hns, _⟩ := I6.loc
      refine back D s3.heap.objs.size s6 m H5 I7 fine ?_ (I3.fpOk (Nat.le_refl _) free5)
      rw [← hloc]; exact hns
    · refine thnF (T.item (X.blk s3 H3 sc be fp) rfl rfl rfl calm i [] s5 _ H5 (fun _ _ => False) I5 (fpb I5 n5) st5 go) fun r s6 ⟨u, er, h6⟩ => ?_
      subst er
      refine thnF h6 fun _ s7 ⟨x, H7, I7, r7, y7, st7, n7⟩ => ?_
      have I8 := I7.pinned (fpb I7 n7) (T.obj _ _ st7)
      refine thnF (PGb.run _ s7 _ H7 x u _ I8 r7 (step x H7 y7)) fun _ s8 ⟨σ8, H8, I9, same8, q8⟩ => ?_
      refine thnF (PTb.run _ s8 σ8 H8 _ I9 q8) fun b s9 ⟨H9, I10, q9⟩ => ?_
      have again : ∀ {s' : Shared} {H' : Hp}, Inv (X.blk s3 H3 sc be fp) ([] ++ pinsAt fp s7.heap) σ8 H' s' → Nx H' → ∃ m, m < n ∧ ∃ i H', Inv (X.blk s3 H3 sc be fp) [] (wipe σ (own.map (·.2))) H' s' ∧ tn i s'.heap ∧ (∀ b ∈ fp, H' b = none) ∧ W i m H' := fun {s' H'} I' nx => by
        obtain ⟨m', lt, w'⟩ := less H' nx
        have held : ∀ b ∈ fp, ∀ o, s7.heap.get? b = some o → s'.heap.get? b = some o ∧ H' b = none := fun b hb o e => (I'.pin (b, o) (List.mem_append_right _ (List.mem_append_right _ (mem_pinsAt hb e)))).imp_right fun z => z.1
        refine ⟨m', lt, i + 1, H', (I'.unpinned (pins := [])).weak (by rw [← same8, wipe_length]) (fun j v e => (wipe_some (same8.symm ▸ e)).1), T.keep _ _ _ st7 fun b hb o e => (held b hb o e).1, fun b hb => ?_, w'⟩
        obtain ⟨o, e, _⟩ := T.obj _ _ st7 b hb
        exact (held b hb o e).2
      cases b with
      | false =>
        simp only [Bool.false_eq_true, if_false] at q9 ⊢
        exact again I10 q9
      | true =>
        simp only [if_true] at q9 ⊢
        refine thnF (PEb.run _ s9 σ8 H9 _ I10 q9) fun z s10 ⟨yv, H10, I11, r10, c, S0, n0, ey, atD, lt, nx⟩ => ?_
        subst ey
        obtain ⟨tok, rfl⟩ : ∃ tok, z = Value.int c tok := r10
        exact add_int (X := X.blk s3 H3 sc be fp) I11 atD lt fun s11 I12 => again I12 nx
  exact set_start loop (T.self X.A 0 _ _ _ st4 loop)
theorem pe_si {el tg it : Expr} {ifs : List Expr} {sc : Scope} {own : List (Str × Nat)} {p1 : Pos} {wi : TI} {g : TG} {tt : TT} {te : TE} (calm : X.calm = true) (nd : X.N.Nodup) (src : PI X tg it wi) (blk : BlkOk X.N X.env.scope sc own)
    (tgt : ∀ (s : Shared) (H : Hp) (C : Addr) (cl : List (Str × Addr)) (fp : List Addr), PG (X.blk s H sc (compEnvC sc cl C X.env) fp) tg g)
    (tst : ∀ (s : Shared) (H : Hp) (C : Addr) (cl : List (Str × Addr)) (fp : List Addr), PTs (X.blk s H sc (compEnvC sc cl C X.env) fp) ifs tt)
    (elm : ∀ (s : Shared) (H : Hp) (C : Addr) (cl : List (Str × Addr)) (fp : List Addr), PE (X.blk s H sc (compEnvC sc cl C X.env) fp) el te) (plain : ∀ x, foldedSetIterable it X.env x = pure x := by intro _; rfl) :
    PE X (.SetComp el [⟨tg, it, ifs, 0⟩] sc p1) (tSi X.w wi g tt te (own.map (·.2))) := by
  constructor
  intro pins s σ H Q I h
  rw [set_eval]
  refine si_core calm nd I src blk tgt tst elm plain h fun D C s' m H' I' q hn f => ⟨m, hn, fun h2 only => ?_⟩
  exact ⟨.ref D, H', I'.turned (t' := s'.toks) (fun b o ne e => (only.2 b ne).trans e) f.1 f.2.1 f.2.2.2.1 f.2.2.2.2.1 f.2.2.2.2.2, rfl, q⟩
end
end GB

set_option maxRecDepth 100000
namespace GB
open PySem PySem.Spec PyProof.Rows L2
/-! sets of ints, by a comprehension, sorted: data -/
/-- tuples and frozen things stay -/
def Keep0 (H H' : Hp) : Prop := ∀ a o, H a = some o → ((∃ xs, o = .tup xs) ∨ ∃ q u, o = .frz q u) → H' a = some o
theorem sqT_keep0 {K : PySem.W.Frag} {H H' : Hp} (k : Keep0 H H') {a : Addr} {vs : List V} (h : SqT K H a vs) : SqT K H' a vs := by
  rcases h with (h | ⟨o, h⟩) | h
  · exact .inl (.inl (k _ _ h (.inl ⟨_, rfl⟩)))
  · exact .inl (.inr ⟨o, k _ _ h (.inr ⟨_, _, rfl⟩)⟩)
  · exact .inr h
mutual
theorem Br.keep0 {K : PySem.W.Frag} {H H' : Hp} (k : Keep0 H H') : ∀ (d : PyData) (v : V), Br K H v d → Br K H' v d
  | .none, _, h => by cases h; exact .non
  | .bool _, _, h => by cases h; exact .bl _
  | .int _, _, h => by cases h; exact .int _
  | .str _, _, h => by cases h; exact .str _
  | .tuple ds, _, h => by cases h with | tup h1 h2 => exact .tup (sqT_keep0 k h1) (BrA.keep0 k ds _ h2)
  | .list ds, _, h => by cases h with | lst h1 h2 h3 => exact .lst (k _ _ h1 (.inr ⟨_, _, rfl⟩)) h2 (BrA.keep0 k ds _ h3)
  | .dict kvs, _, h => by cases h with | dct h1 h2 h3 => exact .dct (k _ _ h1 (.inr ⟨_, _, rfl⟩)) h2 (BrK.keep0 k kvs _ h3)
theorem BrA.keep0 {K : PySem.W.Frag} {H H' : Hp} (k : Keep0 H H') : ∀ (ds : List PyData) (vs : List V), BrA K H vs ds → BrA K H' vs ds
  | [], _, h => by cases h; exact .nil
  | d :: ds, _, h => by cases h with | cons h1 h2 => exact .cons (Br.keep0 k d _ h1) (BrA.keep0 k ds _ h2)
theorem BrK.keep0 {K : PySem.W.Frag} {H H' : Hp} (k : Keep0 H H') : ∀ (kvs : List (PyData × PyData)) (vs : List V), BrA K H vs (kvs.map (·.2)) → BrA K H' vs (kvs.map (·.2))
  | [], _, h => by cases h; exact .nil
  | (_, d) :: kvs, _, h => by cases h with | cons h1 h2 => exact .cons (Br.keep0 k d _ h1) (BrK.keep0 k kvs _ h2)
end
section
variable {L : Lay} {H H' H1 : Hp} {σ : L2.St} {ρ : En}
theorem OR.keep0 (k : Keep0 H H') {v : V} {xs : Ow} (h : OR L H v xs) (hv : ∀ l u, v = .ref l → H l = some u → H' l = some u) : OR L H' v xs := by
  cases xs with
  | l xs =>
    obtain ⟨l, vs, e, h1, h2, h3⟩ := h
    exact ⟨l, vs, e, hv l _ e h1, BrA.keep0 k _ _ h2, h3⟩
  | k kvs =>
    obtain ⟨l, vs, e, h1, h2, h3⟩ := h
    exact ⟨l, vs, e, hv l _ e h1, ⟨h2.1, BrA.keep0 k _ _ h2.2⟩, h3⟩
  | io m xs =>
    obtain ⟨l, vs, e, h1, h2, h3⟩ := h
    exact ⟨l, vs, e, hv l _ e h1, ⟨BrA.keep0 k _ _ h2.1, h2.2⟩, h3⟩
theorem Rel.swap (r1 : Rel L H1 σ ρ) (r : Rel L H σ ρ) (k1 : Keep H1 H') (k : Keep0 H H') (own : ∀ (i : Nat) (xs : Ow), ρ[i]? = some (.ow xs) → ∀ l, σ[i]? = some (some (.ref l)) → H' l = H l) (sm : Same L.H0 H') : Rel L H' σ ρ := by
  refine ⟨r.len, fun j z e => ?_, r.sep, sm⟩
  have q := r.at' j z e
  cases z with
  | un => trivial
  | d x => obtain ⟨v, e2, q⟩ := q; exact ⟨v, e2, Br.keep0 k _ _ q⟩
  | ow xs =>
    obtain ⟨v, e2, q⟩ := q
    refine ⟨v, e2, q.keep0 k fun l u el hl => ?_⟩
    subst el
    obtain ⟨w, e4, _⟩ := r.get e
    rw [e4] at e2
    rw [own j xs e l (by rw [e4]; exact congrArg some (show w = some (V.ref l) from e2))]
    exact hl
  | ob t =>
    obtain ⟨a, e2, _⟩ := q
    obtain ⟨a', e3, q⟩ := r1.at' j (.ob t) e
    rw [e2] at e3; cases e3
    exact ⟨a, e2, L.J.keep _ _ _ _ k1 q⟩
end
/-- an element that is an int from 0 to 62 -/
def dI63 (te : TEd) : TEd := fun ρ Q => te ρ fun s ρ1 => ∃ i : Nat, s = .d (.int i) ∧ i < 63 ∧ Q (.d (.int i)) ρ1
def dSs (ti : TId) (vs : List Nat) (g : DTG) (tt : TTd) (te : TEd) : TEd := fun ρ Q => ti ρ fun ds ρ1 => dLcGo vs g tt (dI63 te) (wipeD ρ1 vs) (fun acc => ∀ ns : List Int, ns.Pairwise (· < ·) → (∀ k, k ∈ ns ↔ PyData.int k ∈ acc) → Q (.own (ns.map .int)) (wipeD ρ1 vs)) ds []
def SetAt (w : World) (D : Addr) (H : Hp) (acc : List PyData) : Prop := ∃ (S : Int → Bool) (n : Nat) (ms : List Int), H D = some (SetO w D S n) ∧ (∀ k, S k = true ↔ PyData.int k ∈ acc) ∧ ms.Nodup ∧ ms.length = n ∧ (∀ k, k ∈ ms ↔ S k = true) ∧ ∀ k, k ∈ ms → 0 ≤ k ∧ k < 63
theorem sub_len {α : Type} [DecidableEq α] : ∀ {ms l : List α}, ms.Nodup → (∀ k ∈ ms, k ∈ l) → ms.length ≤ l.length
  | [], _, _, _ => Nat.zero_le _
  | m :: ms, l, h1, h2 => by
    obtain ⟨a, b⟩ := List.nodup_cons.mp h1
    have h := sub_len (l := l.erase m) b fun k hk => (List.mem_erase_of_ne (fun z => a (by rw [← z]; exact hk))).mpr (h2 k (List.mem_cons_of_mem _ hk))
    have hm := h2 m (List.mem_cons_self ..)
    rw [List.length_erase_of_mem hm] at h
    have := List.length_pos_of_mem hm
    rw [List.length_cons]
    omega
theorem few {ms : List Int} (h1 : ms.Nodup) (h2 : ∀ k, k ∈ ms → 0 ≤ k ∧ k < 63) : ms.length ≤ 63 := by
  have := sub_len (l := (List.range 63).map (fun i : Nat => (i : Int))) h1 fun k hk => by
    obtain ⟨a, b⟩ := h2 k hk
    exact List.mem_map.mpr ⟨k.toNat, List.mem_range.mpr (by omega), by omega⟩
  simpa using this
section
variable {L : Lay} {ti : TId} {vs : List Nat} {g : DTG} {tt : TTd} {te : TEd} {w : World}
theorem si_read {gt : TG} (hg : GOwn L vs gt g) : ∀ (σ : L2.St) (H : Hp) (Q' : VK), (∃ ρ Q, Rel L H σ ρ ∧ dSs ti vs g tt te ρ Q ∧ ∀ v H' s ρ', Go σ ρ ρ' H H' → Rel L H' σ ρ' → VR L H H' v s → Q s ρ' → Q' v H') →
    tSi w (tI L ti) gt (tT L tt) (tE L te) vs σ H fun v H1 => rSortedSet w [v] H1 Q' := by
  intro σ H Q' q
  obtain ⟨ρ, Q, r, q, fin⟩ := q
  refine ⟨ρ, _, r, q, fun J H1 ds ρ1 go r1 q1 it D hD => ?_⟩
  obtain ⟨G, Y, wk, g0, gk, step⟩ := it
  have rw1 : Rel L H1 (wipe σ vs) (wipeD ρ1 vs) := r1.wiped.move (wipe_length σ vs) (GB.wipe_out σ vs)
  have sD := same_new (o := SetO w D (fun _ => false) 0) hD
  have dSlot : ∀ (i : Nat) (ys : Ow), (wipeD ρ1 vs)[i]? = some (.ow ys) → (wipe σ vs)[i]? ≠ some (some (.ref D)) := fun i ys e z => by
    obtain ⟨l', us', q1, q2, _⟩ := rw1.getW e
    rw [z] at q1; cases q1
    rw [hD] at q2; cases q2
  refine walk_it wk (fun i H2 => Keep H1 H2 ∧ Go (wipe σ vs) (wipeD ρ1 vs) (wipeD ρ1 vs) H1 H2 ∧ Rel L H2 (wipe σ vs) (wipeD ρ1 vs) ∧ ∃ acc, SetAt w D H2 acc ∧
      dLcGo vs g tt (dI63 te) (wipeD ρ1 vs) (fun acc => ∀ ns : List Int, ns.Pairwise (· < ·) → (∀ k, k ∈ ns ↔ PyData.int k ∈ acc) → Q (.own (ns.map .int)) (wipeD ρ1 vs)) (ds.drop i) acc)
    ⟨keep_of_same sD, Go.sm sD, rw1.go sD, [], ⟨fun _ => false, 0, [], upd_same, fun k => by simp, List.nodup_nil, rfl, fun _ => by simp, fun _ h => nomatch h⟩, q1⟩ (fun i H2 _ ⟨k, _⟩ => gk _ _ k g0) (fun i' x H2 H3 hi ⟨k, goi, r2, acc, ⟨S, n, ms, hDl, hS, nd, hn, hmS, hm⟩, ql⟩ hy => ?_) fun H2 ⟨k, goi, r2, acc, ⟨S, n, ms, hDl, hS, nd, hn, hmS, hm⟩, ql⟩ => ?_
  · obtain ⟨sm, d, hd, bd⟩ := step i' H2 x H3 hi k (gk _ _ k g0) hy
    have e : ds.drop i' = d :: ds.drop (i' + 1) := by
      obtain ⟨hi', e⟩ := List.getElem?_eq_some_iff.mp hd
      rw [List.drop_eq_getElem_cons hi', e]
    rw [e] at ql
    have go3 : Go (wipe σ vs) (wipeD ρ1 vs) (wipeD ρ1 vs) H1 H3 := goi.tr (Go.sm sm)
    have hD3 : H3 D = some (SetO w D S n) := sm D _ hDl
    refine hg (r2.go sm) (noOwn_wiped ρ1) bd ql fun σ2 ρ2 r3 no2 q3 ew => ⟨by rw [ew, wipe_wipe], ?_⟩
    obtain ⟨e2, q3⟩ := q3
    have ew2 : wipe σ2 vs = wipe σ vs := by rw [ew, wipe_wipe]
    refine ⟨ρ2, _, r3, q3, fun b H4 ρ3 go4 r4 q4 => ?_⟩
    obtain ⟨e3, q4⟩ := q4
    subst e3
    obtain ⟨goA, rA, dA⟩ := back e2 no2 ew2 dSlot go3 hD3 go4 r4
    have k4 : Keep H2 H4 := (keep_of_same sm).tr (go4.keep r3)
    cases b with
    | false => exact iteF ⟨k.tr k4, goA, rA, acc, ⟨S, n, ms, dA, hS, nd, hn, hmS, hm⟩, by simpa using q4⟩
    | true =>
      rw [if_pos rfl] at q4
      have q4 : te ρ3 fun s ρ1' => ∃ i : Nat, s = .d (.int i) ∧ i < 63 ∧ (ρ1' = ρ3 ∧ ∃ y, GB.S.d (.int i) = .d y ∧ dLcGo vs g tt (dI63 te) (wipeD ρ1 vs) (fun acc => ∀ ns : List Int, ns.Pairwise (· < ·) → (∀ k, k ∈ ns ↔ PyData.int k ∈ acc) → Q (.own (ns.map .int)) (wipeD ρ1 vs)) (ds.drop (i' + 1)) (acc ++ [y])) := q4
      refine iteT ⟨ρ3, _, r4, q4, fun y H5 s ρ4 go5 r5 hv q5 => ?_⟩
      obtain ⟨c, rfl, c63, e4, y', ey, q6⟩ := q5
      subst e4
      cases ey
      have hv : Br L.K H5 y (.int (c : Int)) := hv
      cases hv
      obtain ⟨goB, rB, dB⟩ := back e2 no2 ew2 dSlot go3 hD3 (go4.tr go5) r5
      have k5 : Keep H2 H5 := k4.tr (go5.keep r4)
      have n63 := few nd hm
      have kk : Keep H1 (upd H5 D (SetO w D (fun j => S j || decide (j = (c : Int))) (if S c = true then n else n + 1))) := fun a o h f => by
        rw [upd_ne (fun z => by rw [z, hD] at h; cases h)]
        exact (k.tr k5) a o h f
      have k0 : Keep0 H5 (upd H5 D (SetO w D (fun j => S j || decide (j = (c : Int))) (if S c = true then n else n + 1))) := fun a o h f => by
        rw [upd_ne (fun z => ?_)]
        · exact h
        · rw [z, dB] at h
          cases h
          rcases f with ⟨_, f⟩ | ⟨_, _, f⟩ <;> cases f
      have goF : Go (wipe σ vs) (wipeD ρ1 vs) (wipeD ρ1 vs) H1 (upd H5 D (SetO w D (fun j => S j || decide (j = (c : Int))) (if S c = true then n else n + 1))) := by
        refine ⟨fun a o h n => ?_, fun j xs ej => ⟨xs, ej⟩, fun a h => ?_⟩
        · rw [upd_ne (fun z => by rw [z, hD] at h; cases h)]; exact goB.stay a o h n
        · by_cases z : a = D
          · rw [z]; exact hD
          · rw [upd_ne z] at h; exact goB.dom a h
      refine ⟨c, S, n, rfl, dB, by have : scanBound = 4096 := rfl; omega, kk, goF, rw1.swap rB kk k0 (fun j xs ej l el => upd_ne fun z => dSlot j xs ej (by rw [← z]; exact el)) ?_, acc ++ [.int c], ⟨_, _, if S c = true then ms else (c : Int) :: ms, upd_same, fun j => ?_, ?_, ?_, ?_, ?_⟩, q6⟩
      · intro a o h
        have ne : a ≠ D := fun z => by
          have h1 := r1.same a o h
          rw [z, hD] at h1
          cases h1
        rw [upd_ne ne]
        exact rB.same a o h
      · simp only [Bool.or_eq_true, decide_eq_true_eq, List.mem_append, List.mem_singleton, PyData.int.injEq, hS]
      · split
        · exact nd
        · rename_i hc
          refine List.nodup_cons.mpr ⟨fun m => ?_, nd⟩
          rw [hmS] at m
          contradiction
      · split
        · exact hn
        · rw [List.length_cons, hn]
      · intro j
        have hj := hmS j
        rw [Bool.or_eq_true, decide_eq_true_eq]
        split
        · rename_i hc
          exact ⟨fun z => .inl (hj.mp z), fun z => z.elim hj.mpr fun z => by rw [z, hmS]; exact hc⟩
        · rw [List.mem_cons]
          exact ⟨fun z => z.elim .inr fun z => .inl (hj.mp z), fun z => z.elim (fun z => .inr (hj.mpr z)) .inl⟩
      · split
        · exact hm
        · intro j hj
          rcases List.mem_cons.mp hj with rfl | hj
          · omega
          · exact hm j hj
  · rw [List.drop_length] at ql
    refine ⟨D, S, n, rfl, hDl, by have := few nd hm; omega, fun ns p h1 h2 h3 hp => ?_⟩
    have goF : Go σ ρ1 (wipeD ρ1 vs) H1 H2 := ⟨fun a o h n => goi.stay a o h fun j xs ej z => by
        by_cases nj : j ∈ vs
        · exact noOwn_wiped ρ1 j nj xs ej
        · rw [wipeD_get, if_neg nj] at ej
          rw [GB.wipe_out σ vs j nj] at z
          exact n j xs ej z, fun j xs ej => by
        by_cases nj : j ∈ vs
        · exact absurd ej (noOwn_wiped ρ1 j nj xs)
        · rw [wipeD_get, if_neg nj] at ej; exact ⟨xs, ej⟩, goi.dom⟩
    have sm := same_new (o := .lst (ns.map V.int)) hp
    have rF := r2.move (σ' := σ) (wipe_length σ vs).symm fun j hj => (GB.wipe_out σ vs j hj).symm
    refine fin (.ref p) _ (.own (ns.map .int)) _ ((go.tr goF).tr (Go.sm sm)) (rF.go sm) ⟨⟨p, _, rfl, upd_same, br_intsD ns, rF.same.free hp⟩, fun l e => by cases e; exact go.dom _ (goF.dom _ hp)⟩ (ql ns h1 fun k => (h2 k).trans (hS k))
end
section
variable {X : Cx} {L : Lay} {elt tg iter : Expr} {ifs : List Expr} {scope : Scope} {own : List (Str × Nat)} {pos pc p : Pos} {ti : TId} {g : DTG} {gt : TG} {tt : TTd} {te : TEd}
theorem de_sortSet (gd : Good X) (hgS : Gl X "sorted") (hmS : X.mg "sorted" = none) (hi : PI X tg iter (tI L ti)) (ok : BlkOk X.N X.env.scope scope own)
    (hg : ∀ (s : Shared) (H : Hp) (C : Addr) (cl : List (Str × Addr)) (fp : List Addr), PG (X.blk s H scope (compEnvC scope cl C X.env) fp) tg gt) (ho : GOwn L (own.map (·.2)) gt g)
    (ht : ∀ (s : Shared) (H : Hp) (C : Addr) (cl : List (Str × Addr)) (fp : List Addr), Good (X.blk s H scope (compEnvC scope cl C X.env) fp) → PTs (X.blk s H scope (compEnvC scope cl C X.env) fp) ifs (tT L tt))
    (he : ∀ (s : Shared) (H : Hp) (C : Addr) (cl : List (Str × Addr)) (fp : List Addr), Good (X.blk s H scope (compEnvC scope cl C X.env) fp) → PE (X.blk s H scope (compEnvC scope cl C X.env) fp) elt (tE L te))
    (hs : ∀ x, foldedSetIterable iter X.env x = pure x := by intro _; rfl) (h1 : starEach ((.SetComp elt [⟨tg, iter, ifs, 0⟩] scope pos) :: []) X.env = (false, eval (.SetComp elt [⟨tg, iter, ifs, 0⟩] scope pos) X.env) :: starEach [] X.env := by rfl) (hpl : (backTo pc (starEach [] X.env)).any (·.1) = false := by rfl) :
    PE X (.Call (.Name "sorted" p) [.SetComp elt [⟨tg, iter, ifs, 0⟩] scope pos] [] pc) (tE L (dSs ti (own.map (·.2)) g tt te)) :=
  (pe_callB (cr_sortedSet gd.calm) hgS hmS (by decide +kernel) (pa_cons (pe_si gd.calm gd.nd hi ok hg (fun s H C cl fp => ht s H C cl fp ⟨gd.calm, gd.gd, gd.sys, gd.un, gd.nd⟩) (fun s H C cl fp => he s H C cl fp ⟨gd.calm, gd.gd, gd.sys, gd.un, gd.nd⟩) hs) pa_nil h1) (by decide) (by decide) h1 hpl).less fun σ H Q' q => by
    exact si_read (w := X.w) ho σ H Q' q
end
end GB

set_option maxRecDepth 100000
namespace GB
open PySem PySem.Spec PyProof.Rows L2
/-! the truth of any plain thing -/
def truK : PyData → (Bool → Prop) → Prop
  | .none, k => k false
  | .bool b, k => k b
  | .int i, k => k (i != 0)
  | .str z, k => z.length ≤ sizeLine ∧ k ((z.length : Int) != 0)
  | .list xs, k => k (!xs.isEmpty)
  | .tuple xs, k => k (!xs.isEmpty)
  | .dict _, _ => False
def dTr (t : TEd) : TTd := fun ρ Q => t ρ fun s ρ1 => ∃ x, s = .d x ∧ truK x fun b => Q b ρ1
def dTrO (i : Nat) : TTd := fun ρ Q => ∃ xs, ρ[i]? = some (.own xs) ∧ Q (!xs.isEmpty) ρ
def dTrK (i : Nat) : TTd := fun ρ Q => ∃ kvs, ρ[i]? = some (.od kvs) ∧ Q (!kvs.isEmpty) ρ
theorem len_emp {α β : Type} {xs : List α} {ys : List β} (h : xs.length = ys.length) : xs.isEmpty = ys.isEmpty := by cases xs <;> cases ys <;> first | rfl | simp at h
section
variable {X : Cx} {L : Lay} {e : Expr} {t : TEd} {i : Nat} {ρ : En}
theorem dt_tr (hK : L.K = X.K) (h : PE X e (tE L t)) (he : ∀ whole, isTrue e X.env whole = (do let v ← whole; standAt e.pos; holding [v] (truthy v)) := by intro _; rfl) : PT X e (tT L (dTr t)) :=
  (pt_truth h he).less fun σ H Q' h => by
    obtain ⟨ρ, Q, r0, q, fin⟩ := h
    refine (show tE L t σ H _ from ⟨ρ, _, r0, q, fun v H1 s ρ1 k1 r1 hv q1 => ?_⟩)
    obtain ⟨x, rfl, q2⟩ := q1
    have hv : Br L.K H1 v x := hv
    cases hv with
    | non => exact ⟨false, rfl, fin _ H1 ρ1 k1 r1 q2⟩
    | bl b => exact ⟨b, rfl, fin _ H1 ρ1 k1 r1 q2⟩
    | int n => exact ⟨n != 0, rfl, fin _ H1 ρ1 k1 r1 q2⟩
    | str z => exact ⟨_, ⟨q2.1, rfl⟩, fin _ H1 ρ1 k1 r1 q2.2⟩
    | @lst a o vs xs h1 h2 h3 => exact ⟨!vs.isEmpty, .inl ⟨vs, .inl (.inr ⟨o, h1⟩), rfl⟩, by rw [len_emp h3.len]; exact fin _ H1 ρ1 k1 r1 q2⟩
    | @tup a vs xs h1 h3 => exact ⟨!vs.isEmpty, .inr (.inl ⟨vs, hK ▸ h1, rfl⟩), by rw [len_emp h3.len]; exact fin _ H1 ρ1 k1 r1 q2⟩
    | dct h1 h2 h3 => exact q2.elim
theorem dt_trO (h : PE X e (tVar i)) (he : ∀ whole, isTrue e X.env whole = (do let v ← whole; standAt e.pos; holding [v] (truthy v)) := by intro _; rfl) : PT X e (tT L (dTrO i)) :=
  (pt_truth h he).less fun σ H Q' h => by
    obtain ⟨ρ, Q, r0, ⟨xs, ex, q⟩, fin⟩ := h
    obtain ⟨l, vs, h1, h2, h3, _⟩ := r0.getO ex
    exact ⟨_, h1, !vs.isEmpty, .inl ⟨vs, .inl (.inl h2), rfl⟩, by rw [len_emp h3.len]; exact fin _ H ρ Go.rf r0 q⟩
theorem dt_trK (h : PE X e (tVar i)) (he : ∀ whole, isTrue e X.env whole = (do let v ← whole; standAt e.pos; holding [v] (truthy v)) := by intro _; rfl) : PT X e (tT L (dTrK i)) :=
  (pt_truth h he).less fun σ H Q' h => by
    obtain ⟨ρ, Q, r0, ⟨kvs, ek, q⟩, fin⟩ := h
    obtain ⟨a, vks, ha, h1, h2, h3, _⟩ := dr_own r0 ek
    refine ⟨_, ha, !vks.isEmpty, .inr (.inr ⟨vks, h1, rfl⟩), ?_⟩
    have : vks.isEmpty = kvs.isEmpty := len_emp (by have := congrArg List.length h2; simpa using this.symm)
    rw [this]; exact fin _ H ρ Go.rf r0 q
theorem e_tr {Q : Bool → En → Prop} : dTr t ρ Q ↔ t ρ fun s ρ1 => oneK s fun x => truK x fun b => Q b ρ1 := Iff.rfl
theorem e_trO {Q : Bool → En → Prop} : dTrO i ρ Q ↔ atK ρ i fun s => ownK s fun xs => Q (!xs.isEmpty) ρ := ⟨fun ⟨xs, e, h⟩ => ⟨_, e, xs, rfl, h⟩, fun ⟨_, e, xs, z, h⟩ => ⟨xs, z ▸ e, h⟩⟩
theorem e_trK {Q : Bool → En → Prop} : dTrK i ρ Q ↔ atK ρ i fun s => odK s fun xs => Q (!xs.isEmpty) ρ := at_od
theorem tru_b {b : Bool} {k : Bool → Prop} : truK (.bool b) k ↔ k b := Iff.rfl
theorem tru_n {k : Bool → Prop} : truK .none k ↔ k false := Iff.rfl
theorem tru_i {n : Int} {k : Bool → Prop} : truK (.int n) k ↔ k (n != 0) := Iff.rfl
theorem tru_l {xs : List PyData} {k : Bool → Prop} : truK (.list xs) k ↔ k (!xs.isEmpty) := Iff.rfl
theorem tru_t {xs : List PyData} {k : Bool → Prop} : truK (.tuple xs) k ↔ k (!xs.isEmpty) := Iff.rfl
theorem tru_s {z : Str} {k : Bool → Prop} : truK (.str z) k ↔ z.length ≤ sizeLine ∧ k ((z.length : Int) != 0) := Iff.rfl
/-- from without: sets -/
def n63K (s : S) (k : Nat → Prop) : Prop := ∃ i : Nat, s = .d (.int i) ∧ i < 63 ∧ k i
theorem e_i63 {Q : S → En → Prop} : dI63 t ρ Q ↔ t ρ fun s ρ1 => n63K s fun i => Q (.d (.int i)) ρ1 := Iff.rfl
theorem n63_d {n : Nat} {k : Nat → Prop} : n63K (.d (.int n)) k ↔ n < 63 ∧ k n := by
  constructor
  · rintro ⟨i, e, h⟩
    have e : (n : Int) = i := by simpa using e
    have e : n = i := by omega
    subst e
    exact h
  · intro h
    exact ⟨_, rfl, h⟩
theorem e_ss {ti : TId} {vs : List Nat} {g : DTG} {tt : TTd} {te : TEd} {Q : S → En → Prop} : dSs ti vs g tt te ρ Q ↔ ti ρ fun ds ρ1 => dLcGo vs g tt (dI63 te) (wipeD ρ1 vs) (fun acc => ∀ ns : List Int, ns.Pairwise (· < ·) → (∀ k, k ∈ ns ↔ PyData.int k ∈ acc) → Q (.own (ns.map .int)) (wipeD ρ1 vs)) ds [] := Iff.rfl
end
/-! x, y, z = a, b, c with names that a block captures -/
section
variable {X : Cx} {L : Lay} {a b c : Expr} {t1 t2 t3 : TEd} {pos : Pos}
theorem ds_parT3 {i j l : Nat} {x y z : Str} {px py pz pt : Pos} {kt k2 pt2} (g : Good X) (hK : L.K = X.K) (hi : X.N[i]? = some x) (hj : X.N[j]? = some y) (hl : X.N[l]? = some z) (hx : Loc X.env.scope x) (hy : Loc X.env.scope y) (hz : Loc X.env.scope z)
    (ha : PE X a (tE L t1)) (hb : PE X b (tE L t2)) (hc : PE X c (tE L t3))
    (hfx : X.fn x = true ∨ X.env.scope.names.lookup x = some .local := by first | exact .inl rfl | exact .inr rfl) (hfy : X.fn y = true ∨ X.env.scope.names.lookup y = some .local := by first | exact .inl rfl | exact .inr rfl) (hfz : X.fn z = true ∨ X.env.scope.names.lookup z = some .local := by first | exact .inl rfl | exact .inr rfl)
    (hw : swappedStores [.Tuple [.Name x px, .Name y py, .Name z pz] kt pt] (.Tuple [a, b, c] k2 pt2) X.env = pure none := by rfl)
    (h1 : starEach [a, b, c] X.env = (false, eval a X.env) :: starEach [b, c] X.env := by rfl) (h2 : starEach [b, c] X.env = (false, eval b X.env) :: starEach [c] X.env := by rfl) (h3 : starEach [c] X.env = (false, eval c X.env) :: starEach [] X.env := by rfl)
    (e1 : (assignEach [.Name x px, .Name y py, .Name z pz] X.env).map (·.2) = assign (.Name x px) X.env :: (assignEach [.Name y py, .Name z pz] X.env).map (·.2) := by rfl) (e2 : (assignEach [.Name y py, .Name z pz] X.env).map (·.2) = assign (.Name y py) X.env :: (assignEach [.Name z pz] X.env).map (·.2) := by rfl)
    (e22 : (assignEach [.Name z pz] X.env).map (·.2) = assign (.Name z pz) X.env :: (assignEach [] X.env).map (·.2) := by rfl)
    (e3 : (assignEach [.Name x px, .Name y py, .Name z pz] X.env).length = 3 := by rfl) (e4 : (assignEach [.Name x px, .Name y py, .Name z pz] X.env).findIdx? (·.1) = none := by rfl)
    (e5 : (assignEach [.Tuple [.Name x px, .Name y py, .Name z pz] kt pt] X.env).map (·.2) = [assign (.Tuple [.Name x px, .Name y py, .Name z pz] kt pt) X.env] := by rfl)
    (hs : swapsWithSole [.Tuple [.Name x px, .Name y py, .Name z pz] kt pt] (.Tuple [a, b, c] k2 pt2) pos.line X.env = pure false := by rfl) :
    PS X (.Assign [.Tuple [.Name x px, .Name y py, .Name z pz] kt pt] (.Tuple [a, b, c] k2 pt2) pos) (tS L (dPar3 i j l t1 t2 t3)) :=
  (ps_asg (pe_tup (pa_cons ha (pa_cons hb (pa_cons hc pa_nil h3) h2) h1)) (pg_tup g.calm (pgs_cons (pg_name g.nd hi hx hfx) (pgs_cons (pg_name g.nd hj hy hfy) (pgs_cons (pg_name g.nd hl hz hfz) pgs_nil e22) e2) e1) e3 e4) hs hw e5).less fun D σ H q => by
    obtain ⟨ρ, De, r, q, n1, _⟩ := q
    refine ⟨ρ, _, r, q, fun v H1 s ρ1 go r1 hv q1 => ⟨ρ1, _, r1, q1, fun w H2 s2 ρ2 go2 r2 hw q2 => ⟨ρ2, _, r2, q2, fun u H3 s3 ρ3 go3 r3 hu q3 => ⟨(show (3 : Nat) ≤ sizeLine by decide), fun p hp => ?_⟩⟩⟩⟩
    have sm : Same H3 (upd H3 p (.tup [v, w, u])) := same_new hp
    have r4 := r3.go sm
    have g4 : Go σ ρ3 ρ3 H3 (upd H3 p (.tup [v, w, u])) := Go.sm sm
    have gg := (go.tr go2).tr go3
    have hv4 := (hv.later r go r1 (go2.tr go3)).later r gg r3 g4
    have hw4 := (hw.later r1 go2 r2 go3).later r1 (go2.tr go3) r3 g4
    have hu4 := hu.later r2 go3 r3 g4
    have ra := r4.put1 (j := i) (r.old gg) hv4
    have oa := (r.old gg).set (Hm := H1) (i := i) go.dom hv.there
    have rb := ra.put1 (j := j) oa hw4
    have ob := oa.set (Hm := H2) (i := j) go2.dom hw.there
    have rc := rb.put1 (j := l) ob hu4
    exact ⟨p, [v, w, u], rfl, .inl (.inl upd_same), rfl, v, [w, u], rfl, w, [u], rfl, u, [], rfl, rfl, n1 _ _ _ ((gg.keep r).tr (keep_of_same sm)) rc q3⟩
end
end GB

set_option maxRecDepth 100000
namespace GB
open PySem PySem.Spec PyProof.Rows L2
/-! comprehensions of two clauses by what holds at their turns -/
section
variable {vs vs1 : List Nat} {g g1 : DTG} {tt tt1 : TTd} {ti1 : TId} {te : TEd} {ρw : En} {R : List PyData → Prop}
theorem lc2I (I : List PyData → List PyData → Prop) (hn : ∀ acc, I [] acc → R acc)
    (hc : ∀ d ds acc (K : List PyData → Prop), (∀ acc', I ds acc' → K acc') → I (d :: ds) acc → g d ρw fun ρ2 => wipeD ρ2 vs = ρw ∧ tt ρ2 fun b ρ3 => ρ3 = ρ2 ∧ iteK b (ti1 ρ2 fun ds1 ρ4 => ρ4 = ρ2 ∧ dInGo vs1 g1 tt1 te (wipeD ρ2 vs1) K ds1 acc) (K acc)) :
    ∀ ds acc, I ds acc → dLc2Go vs vs1 g tt ti1 g1 tt1 te ρw R ds acc
  | [], acc, h => hn acc h
  | d :: ds, acc, h => hc d ds acc _ (fun acc' h' => lc2I I hn hc ds acc' h') h
theorem inI (I : List PyData → List PyData → Prop) {K : List PyData → Prop} (hn : ∀ acc, I [] acc → K acc)
    (hc : ∀ d ds acc (K' : List PyData → Prop), (∀ acc', I ds acc' → K' acc') → I (d :: ds) acc → g1 d ρw fun ρ2 => wipeD ρ2 vs1 = ρw ∧ tt1 ρ2 fun b ρ3 => ρ3 = ρ2 ∧ iteK b (te ρ2 fun s ρ4 => ρ4 = ρ2 ∧ oneK s fun y => acc.length < sizeLine ∧ K' (acc ++ [y])) (K' acc)) :
    ∀ ds acc, I ds acc → dInGo vs1 g1 tt1 te ρw K ds acc
  | [], acc, h => hn acc h
  | d :: ds, acc, h => hc d ds acc _ (fun acc' h' => inI I hn hc ds acc' h') h
/-- the inner items, as they are -/
theorem in_id {K : List PyData → Prop} {ds acc : List PyData} (hl : acc.length + ds.length ≤ sizeLine) (hK : K (acc ++ ds)) (hc : ∀ d (P : En → Prop), (∀ ρ2, wipeD ρ2 vs1 = ρw → te ρ2 (fun s ρ4 => ρ4 = ρ2 ∧ s = .d d) → (∀ Q : S → En → Prop, Q (.d d) ρ2 → te ρ2 Q) → P ρ2) → g1 d ρw P) :
    dInGo vs1 g1 dYes te ρw K ds acc := by
  refine inI (fun es ac => ac.length + es.length ≤ sizeLine ∧ ac ++ es = acc ++ ds) (fun ac h => ?_) (fun d es ac K' hK' h => ?_) ds acc ⟨hl, rfl⟩
  · have := h.2
    rw [List.append_nil] at this
    rw [this]; exact hK
  · refine hc d _ fun ρ2 w t q => ⟨w, rfl, q _ ⟨rfl, _, rfl, ?_, hK' _ ⟨?_, ?_⟩⟩⟩
    · have := h.1; rw [List.length_cons] at this; omega
    · have := h.1; rw [List.length_cons] at this; rw [List.length_append, List.length_singleton]; omega
    · rw [List.append_assoc]; exact h.2
/-- all pieces, one behind another -/
theorem flat_run {f : PyData → List PyData} {ds : List PyData} {m : Nat} (hm : ds.length * m ≤ sizeLine) (hf : ∀ d ∈ ds, (f d).length ≤ m) (hn : R (ds.flatMap f))
    (hc : ∀ d ∈ ds, ∀ (acc : List PyData) (K : List PyData → Prop), acc.length + (f d).length ≤ sizeLine → K (acc ++ f d) → g d ρw fun ρ2 => wipeD ρ2 vs = ρw ∧ tt ρ2 fun b ρ3 => ρ3 = ρ2 ∧ iteK b (ti1 ρ2 fun ds1 ρ4 => ρ4 = ρ2 ∧ dInGo vs1 g1 tt1 te (wipeD ρ2 vs1) K ds1 acc) (K acc)) :
    dLc2Go vs vs1 g tt ti1 g1 tt1 te ρw R ds [] := by
  refine lc2I (fun es acc => (∀ d ∈ es, d ∈ ds) ∧ acc.length + es.length * m ≤ ds.length * m ∧ acc ++ es.flatMap f = ds.flatMap f) (fun acc h => ?_) (fun d es acc K hK h => ?_) ds [] ⟨fun _ h => h, by simp, rfl⟩
  · have := h.2.2
    simp at this
    rw [this]; exact hn
  · obtain ⟨h0, h1, h2⟩ := h
    have hd := h0 d (by simp)
    have hfd := hf d hd
    rw [List.length_cons, Nat.add_mul, Nat.one_mul] at h1
    have h3 : acc.length + es.length * m + m ≤ ds.length * m := by omega
    refine hc d hd acc K (by omega) (hK _ ⟨fun z hz => h0 z (by simp [hz]), ?_, ?_⟩)
    · rw [List.length_append]; omega
    · rw [List.append_assoc, ← h2]; simp
end
/-! for: all pieces, one behind another -/
/-- strictly ascending ints with the same members are the same -/
theorem asc_eq : ∀ {xs ys : List Int}, xs.Pairwise (· < ·) → ys.Pairwise (· < ·) → (∀ k, k ∈ xs ↔ k ∈ ys) → xs = ys
  | [], [], _, _, _ => rfl
  | [], y :: ys, _, _, h => by have := (h y).mpr (by simp); cases this
  | x :: xs, [], _, _, h => by have := (h x).mp (by simp); cases this
  | x :: xs, y :: ys, hx, hy, h => by
    obtain ⟨x1, x2⟩ := List.pairwise_cons.mp hx
    obtain ⟨y1, y2⟩ := List.pairwise_cons.mp hy
    have e : x = y := by
      rcases List.mem_cons.mp ((h x).mp (by simp)) with q | q
      · exact q
      · rcases List.mem_cons.mp ((h y).mpr (by simp)) with r | r
        · exact r.symm
        · have a := y1 x q; have b := x1 y r; omega
    subst e
    rw [asc_eq x2 y2 fun k => ?_]
    constructor
    · intro hk
      rcases List.mem_cons.mp ((h k).mp (by simp [hk])) with q | q
      · have := x1 k hk; omega
      · exact q
    · intro hk
      rcases List.mem_cons.mp ((h k).mpr (by simp [hk])) with q | q
      · have := y1 k hk; omega
      · exact q
theorem filt_asc (n : Nat) (p : Nat → Bool) : (((List.range n).filter p).map fun i : Nat => (i : Int)).Pairwise (· < ·) := by
  rw [List.pairwise_map]
  exact (List.Pairwise.sublist List.filter_sublist List.pairwise_lt_range).imp fun h => by omega
end GB

set_option maxRecDepth 100000
set_option maxHeartbeats 3200000
/-! a set of the ints of a list, sorted -/
namespace GB
open PySem PySem.Spec PyProof.Rows L2
abbrev noneIn (w : World) : Obj := { cls := .type "set", dict := none, data := .set #[] 0 (.fresh 0 0 (!w.params.followText "set-order")) }
section
variable {P : Program} {w : World} {A : Around} {E : Value → Shared → Prop} {s : Shared}
abbrev SetDone (w : World) (s : Shared) (ks : List Int) (s2 : Shared) : Prop := ∃ g tk c, s2 = { s with heap := g, toks := tk } ∧ SetR w g s.heap.objs.size (fun j => decide (j ∈ ks)) c ∧ c ≤ ks.length ∧ ∀ b o, s.heap.get? b = some o → g.get? b = some o
/-- what set.__init__ does with a list of ints -/
theorem set_fill {l : Addr} {us : Array Value} (ks : List Int) {Kf : PySem.Fin → Shared → Prop} {Ke : Value → Shared → Prop} (hh : A.handled = none) (il : s.heap.IsList l us) (iv : IntsAre us.toList ks) (few : ks.length + 1 < scanBound)
    (fin : ∀ s2, SetDone w s ks s2 → Kf (.done (.ret .none)) s2) :
    wpAny (model P w) A (Builtin.«set.__init__» ⟨[.ref s.heap.objs.size, .ref l], []⟩) Kf Ke { s with heap := s.heap.push (noneIn w) } := by
  have many : us.size = ks.length := by have q := IntsAre.length iv; simpa using q
  obtain ⟨⟨cl, dc, da, sl⟩, there, c1, n, c2⟩ := id il
  simp only at c1 c2
  subst c1 c2
  have here : (s.heap.push (noneIn w)).get? s.heap.objs.size = some (noneIn w) := Heap.get?_push_size _ rfl
  have there1 : (s.heap.push (noneIn w)).get? l = some { cls := .type "list", dict := dc, data := .seq us n, slots := sl } := Heap.get?_push_of_some _ there
  have il1 : (s.heap.push (noneIn w)).IsList l us := ⟨_, there1, rfl, n, rfl⟩
  have ll : l < s.heap.objs.size := Heap.lt_size there
  have size1 : (s.heap.push (noneIn w)).objs.size = s.heap.objs.size + 1 := Heap.size_push ..
  have isSet : Shared.TypeIs { s with heap := s.heap.push (noneIn w) } (.ref s.heap.objs.size) "set" := ⟨_, here, rfl⟩
  have q1 := PySem.F.sub_list_set
  have q2 := PySem.F.sub_list_frozenset
  have q3 : (Value.type "list" == Value.type "dict") = false := by decide
  unfold Builtin.«set.__init__» noKeywords Builtin.Frozenset.updateFrom
  generalize hp : pyIter = goes
  wp_walk
  subst hp
  refine wpAny_pyIter_list il1 ?_
  refine wpAny_bind (wpAny_runValue ?_)
  have ne1 : l ≠ (s.heap.push (noneIn w)).objs.size := fun z => by
    exact Nat.ne_of_lt (Nat.lt_succ_of_lt ll) (z.trans size1)
  have fresh1 : s.heap.objs.size ∉ [(s.heap.push (noneIn w)).objs.size, l] := fun m => by
    rw [size1] at m
    rcases List.mem_cons.mp m with e | m
    · exact Nat.ne_of_lt (Nat.lt_succ_self _) e
    · exact Nat.ne_of_gt ll (List.mem_singleton.mp m)
  have each : ∀ (i : Nat) (v : Value), us[i]? = some v → ∃ k t, ks[i]? = some k ∧ v = .int k t := fun i v e => by
    obtain ⟨t, et⟩ := IntsAre.int_at iv i v (by rw [Array.getElem?_toList]; exact e)
    have il : i < ks.length := by rw [← many]; exact (Array.getElem?_eq_some_iff.mp e).1
    exact ⟨ks.getD i 0, t, by rw [List.getD_eq_getElem?_getD, List.getElem?_eq_getElem il]; rfl, et⟩
  refine set_update_ints ((Walks.list (by simp [hh]) _ l ne1 us).toS) s.heap.objs.size fresh1 ks many few each (us.size - 0) 0 _ (by omega) (Nat.zero_le _) ⟨⟨_, Heap.get?_push_size _ rfl, rfl, rfl⟩, il1.push _⟩ ⟨0, Nat.le_refl 0, setR_new_at (Heap.get?_push_of_some _ here)⟩ fun s2 c mv cl rs => ?_
  have out : SetDone w s ks s2 := by
    obtain ⟨g, gs, dr, tk, os⟩ := s2
    have e1 : gs = s.gens := mv.gens
    have e2 : dr = s.drawn := mv.drawn
    have e3 : os = s.os := mv.os
    subst e1 e2 e3
    refine ⟨g, tk, c, rfl, rs, by omega, fun b o e => mv.heap b o (fun m => ?_) (Heap.get?_push_of_some _ (Heap.get?_push_of_some _ e))⟩
    have lb := Heap.lt_size e
    rcases List.mem_cons.mp m with z | m
    · exact Nat.ne_of_lt lb z
    · exact Nat.ne_of_lt (Nat.lt_succ_of_lt lb) ((List.mem_singleton.mp m).trans size1)
  exact wpAny_pure (wpAny_pure (fin s2 out))
/-- set(l) -/
theorem set_made {l : Addr} {us : Array Value} (ks : List Int) {Q : Value → Shared → Prop} (hh : A.handled = none) (il : s.heap.IsList l us) (iv : IntsAre us.toList ks) (few : ks.length + 1 < scanBound)
    (fin : ∀ s2, SetDone w s ks s2 → Q (.ref s.heap.objs.size) s2) : wpAny (model P w) A (call (.type "set") [.ref l]) Q E s := by
  obtain ⟨_, _, z1⟩ := PySem.F.called_set.mro
  have z2 := PySem.F.called_set.made
  have z3 := PySem.F.called_set.sub
  have z4 := PySem.F.called_set.notType
  have z5 := PySem.F.called_set.canCreate
  have z6 := PySem.F.typeCall_set_1 (.ref l)
  refine wpAny_call (codeAny_of_tree ?_)
  show wpAny _ _ (callAny (.type "set") _) _ _ _
  refine wpAny_pure ⟨Code.quiet_builtin _ (by decide +kernel), codeAny_builtin PySem.F.entry_type_call ?_⟩
  rw [Around.under_plain (weight_type_call_type "set" [.ref l] []) rfl]
  repeat (any_goals (first | assumption | wp_step))
  refine codeAny_mono (code_set_led1 (.ref l) (E := E) (Q₁ := fun o s1 => o = .ref s.heap.objs.size ∧ s1 = { s with heap := s.heap.push (noneIn w) }) ⟨rfl, rfl⟩) fun r s1 got => ?_
  rcases r with e | fl
  · exact got
  cases fl with
  | ret o =>
    obtain ⟨rfl, rfl⟩ := got
    have isSet : Shared.TypeIs { s with heap := s.heap.push (noneIn w) } (.ref s.heap.objs.size) "set" := ⟨_, Heap.get?_push_size _ rfl, rfl⟩
    have z7 := PySem.F.called_set.init.lookup
    have z8 := PySem.F.called_set.init.bind (.ref s.heap.objs.size)
    repeat (any_goals (first | assumption | wp_step))
    refine codeAny_mono (codeAny_call_builtin (R := wants (fun r s2 => r = .none ∧ SetDone w s ks s2) E) PySem.F.called_set.init.plain PySem.F.entry_set_init (check_set_init_1 isSet ?_)) fun r s2 got => ?_
    · exact set_fill ks (by simp [hh]) il iv few fun s2 d => ⟨rfl, d⟩
    · rcases r with e | fl
      · exact got
      cases fl with
      | ret r =>
        obtain ⟨rfl, d⟩ := got
        repeat (any_goals (first | assumption | wp_step))
        exact fin _ d
      | _ => exact got.elim
  | _ => exact got.elim
end
def rSetI (w : World) (K : PySem.W.Frag) : List V → Hp → VK → Prop := fun vs H Q => ∃ (a : Addr) (ks : List Int), vs = [.ref a] ∧ SqL K H a (ks.map V.int) ∧ ks.length + 1 < scanBound ∧
  ∀ (p : Addr) (ms : List Int), H p = none → ms.Nodup → (∀ k, k ∈ ms ↔ k ∈ ks) → Q (.ref p) (upd H p (SetO w p (fun j => decide (j ∈ ks)) ms.length))
theorem cr_setI {X : Cx} (hc : X.calm = true) : CallR X (.type "set") (rSetI X.w X.K) := by
  intro pins s σ H vs us Q I r h
  obtain ⟨a, ks, rfl, hs, few, q⟩ := h
  obtain ⟨its, rv, hl, hz⟩ := I.list hs
  rw [Vals.ref1 r]
  refine set_made ks (I.ok.hd hc) hl.isList (by simpa using rv.ints) few fun s2 ⟨g, tk, c, e, R, _, kept⟩ => ?_
  subst e
  obtain ⟨o, es, ep, t, h1, h2, h3, h4, h5, h6, h7, h8, h9, h10⟩ := id R
  refine ⟨.ref s.heap.objs.size, upd H s.heap.objs.size (SetO X.w s.heap.objs.size (fun j => decide (j ∈ ks)) c), I.laid (t' := tk) kept (Nat.le_refl _) (setO_new R), rfl, ?_⟩
  have q := q s.heap.objs.size (es.toList.map keyOf) (I.hok.fresh (Nat.le_refl _)) h5 fun k => by rw [← h6 k, decide_eq_true_iff]
  rw [List.length_map, Array.length_toList, h9] at q
  exact q
/-- sorted(set(x)), x a list of one's own of ints from 0 to 62 -/
def dSsL (i : Nat) : TEd := fun ρ Q => ∃ ks : List Int, ρ[i]? = some (.own (ks.map .int)) ∧ (∀ k ∈ ks, 0 ≤ k ∧ k < 63) ∧ ks.length < 4000 ∧ ∀ ns : List Int, ns.Pairwise (· < ·) → (∀ k, k ∈ ns ↔ k ∈ ks) → Q (.own (ns.map .int)) ρ
section
variable {X : Cx} {L : Lay} {e : Expr} {i : Nat} {p p2 pc q : Pos}
theorem de_ssL (gd : Good X) (hgS : Gl X "sorted") (hmS : X.mg "sorted" = none) (hgT : Gl X "set") (hmT : X.mg "set" = none) (hx : PE X e (tVar i))
    (h0 : starEach (e :: []) X.env = (false, eval e X.env) :: starEach [] X.env := by rfl) (hp0 : (backTo q (starEach [] X.env)).any (·.1) = false := by rfl)
    (h1 : starEach ((.Call (.Name "set" p2) [e] [] q) :: []) X.env = (false, eval (.Call (.Name "set" p2) [e] [] q) X.env) :: starEach [] X.env := by rfl) (hpl : (backTo pc (starEach [] X.env)).any (·.1) = false := by rfl) :
    PE X (.Call (.Name "sorted" p) [.Call (.Name "set" p2) [e] [] q] [] pc) (tE L (dSsL i)) :=
  (pe_callB (cr_sortedSet gd.calm) hgS hmS (by decide +kernel) (pa_cons (pe_callTy (cr_setI gd.calm) hgT hmT (by decide +kernel) (pa_cons hx pa_nil h0) (by decide) (by decide) h0 hp0) pa_nil h1) (by decide) (by decide) h1 hpl).less fun σ H Q' z => by
    obtain ⟨ρ, Q, r, ⟨ks, ek, hk, hl, q⟩, fin⟩ := z
    obtain ⟨o, e1, v, e2, l, vs, e3, h1, h2, h3⟩ := r.get ek
    have ev := br_ints h2
    subst ev
    refine ⟨v, by rw [e1, e2], ?_⟩
    subst e3
    refine ⟨l, ks, rfl, .inl (.inl h1), by have : scanBound = 4096 := rfl; omega, fun p ms hp nd hm => ?_⟩
    have m63 := few nd fun k h => hk k ((hm k).mp h)
    refine ⟨p, fun j => decide (j ∈ ks), ms.length, rfl, upd_same, by omega, fun ns p2 a1 a2 a3 hp2 => ?_⟩
    have sm := (same_new (o := SetO X.w p (fun j => decide (j ∈ ks)) ms.length) hp)
    have sm2 := sm.trans (same_new (o := .lst (ns.map V.int)) hp2)
    have nr : NR L H (upd (upd H p (SetO X.w p (fun j => decide (j ∈ ks)) ms.length)) p2 (.lst (ns.map V.int))) (.ref p2) (.own (ns.map .int)) := ⟨p2, _, rfl, sm.free hp2, upd_same, br_intsD ns⟩
    exact fin _ _ _ ρ (Go.sm sm2) (r.go sm2) (nr.vr r sm2 Go.rf) (q ns a1 fun k => by rw [a2 k, decide_eq_true_iff])
end
theorem e_ssL {ρ : En} {i : Nat} {Q : S → En → Prop} : dSsL i ρ Q ↔ atK ρ i fun s => ownK s fun xs => ∃ ks : List Int, xs = ks.map .int ∧ (∀ k ∈ ks, 0 ≤ k ∧ k < 63) ∧ ks.length < 4000 ∧ ∀ ns : List Int, ns.Pairwise (· < ·) → (∀ k, k ∈ ns ↔ k ∈ ks) → Q (.own (ns.map .int)) ρ :=
  ⟨fun ⟨ks, e, h⟩ => ⟨_, e, _, rfl, ks, rfl, h⟩, fun ⟨_, e, _, z, ks, w, h⟩ => ⟨ks, by rw [e, z, w], h⟩⟩
/-- sorted(set(x)), x a firm list -/
def dSsF (t : TEd) : TEd := fun ρ Q => t ρ fun s ρ1 => ∃ ks : List Int, s = .d (.list (ks.map .int)) ∧ (∀ k ∈ ks, 0 ≤ k ∧ k < 63) ∧ ks.length < 4000 ∧ ∀ ns : List Int, ns.Pairwise (· < ·) → (∀ k, k ∈ ns ↔ k ∈ ks) → Q (.own (ns.map .int)) ρ1
section
variable {X : Cx} {L : Lay} {e : Expr} {t : TEd} {p p2 pc q : Pos}
theorem de_ssF (hK : L.K = X.K) (gd : Good X) (hgS : Gl X "sorted") (hmS : X.mg "sorted" = none) (hgT : Gl X "set") (hmT : X.mg "set" = none) (hx : PE X e (tE L t))
    (h0 : starEach (e :: []) X.env = (false, eval e X.env) :: starEach [] X.env := by rfl) (hp0 : (backTo q (starEach [] X.env)).any (·.1) = false := by rfl)
    (h1 : starEach ((.Call (.Name "set" p2) [e] [] q) :: []) X.env = (false, eval (.Call (.Name "set" p2) [e] [] q) X.env) :: starEach [] X.env := by rfl) (hpl : (backTo pc (starEach [] X.env)).any (·.1) = false := by rfl) :
    PE X (.Call (.Name "sorted" p) [.Call (.Name "set" p2) [e] [] q] [] pc) (tE L (dSsF t)) :=
  (pe_callB (cr_sortedSet gd.calm) hgS hmS (by decide +kernel) (pa_cons (pe_callTy (cr_setI gd.calm) hgT hmT (by decide +kernel) (pa_cons hx pa_nil h0) (by decide) (by decide) h0 hp0) pa_nil h1) (by decide) (by decide) h1 hpl).less fun σ H Q' z => by
    obtain ⟨ρ, Q, r, q, fin⟩ := z
    refine ⟨ρ, _, r, q, fun v H1 s ρ1 go1 r1 hv q1 => ?_⟩
    obtain ⟨ks, rfl, hk, hl, q⟩ := q1
    have hv : Br L.K H1 v (.list (ks.map .int)) := hv
    obtain ⟨l, vs, rfl, h1, h3⟩ := list_sq hK (Bk.of hv)
    obtain rfl := br_ints h3
    refine ⟨l, ks, rfl, h1, by have : scanBound = 4096 := rfl; omega, fun p ms hp nd hm => ?_⟩
    have m63 := few nd fun k h => hk k ((hm k).mp h)
    refine ⟨p, fun j => decide (j ∈ ks), ms.length, rfl, upd_same, by omega, fun ns p2 a1 a2 a3 hp2 => ?_⟩
    have sm := (same_new (o := SetO X.w p (fun j => decide (j ∈ ks)) ms.length) hp)
    have sm2 := sm.trans (same_new (o := .lst (ns.map V.int)) hp2)
    have nr : NR L H1 (upd (upd H1 p (SetO X.w p (fun j => decide (j ∈ ks)) ms.length)) p2 (.lst (ns.map V.int))) (.ref p2) (.own (ns.map .int)) := ⟨p2, _, rfl, sm.free hp2, upd_same, br_intsD ns⟩
    exact fin _ _ _ ρ1 (go1.tr (Go.sm sm2)) (r1.go sm2) (nr.vr r1 sm2 go1) (q ns a1 fun k => by rw [a2 k, decide_eq_true_iff])
end
theorem e_ssF {ρ : En} {t : TEd} {Q : S → En → Prop} : dSsF t ρ Q ↔ t ρ fun s ρ1 => ∃ ks : List Int, s = .d (.list (ks.map .int)) ∧ (∀ k ∈ ks, 0 ≤ k ∧ k < 63) ∧ ks.length < 4000 ∧ ∀ ns : List Int, ns.Pairwise (· < ·) → (∀ k, k ∈ ns ↔ k ∈ ks) → Q (.own (ns.map .int)) ρ1 := Iff.rfl
/-- what never is come to -/
def dNever : TSd := fun _ _ => False
theorem ds_never {X : Cx} {L : Lay} {st : Stmt} : PS X st (tS L dNever) := by
  constructor
  intro pins s σ H D I q
  obtain ⟨ρ, De, r, q, _⟩ := q
  exact q.elim
theorem e_never {D : EndsD} {ρ : En} : dNever D ρ ↔ False := Iff.rfl
end GB

set_option maxRecDepth 100000
/-! dict displays with text keys; looking into dicts of the top -/
namespace GB
open PySem PySem.Spec PyProof.Rows L2
def dVals : List TEd → En → (List PyData → En → Prop) → Prop
  | [], ρ, Q => Q [] ρ
  | t :: ts, ρ, Q => t ρ fun s ρ1 => ∃ x, s = .d x ∧ dVals ts ρ1 fun xs ρ2 => Q (x :: xs) ρ2
def putAll (kvs : List (Key × PyData)) (more : List (Key × PyData)) : List (Key × PyData) := more.foldl (fun acc p => putD acc p.1 p.2) kvs
/-- {k: v, ..} -/
def dDisp (ks : List Str) (ts : List TEd) : TEd := fun ρ Q => dVals ts ρ fun xs ρ1 => Q (.od (putAll [] ((ks.map Sum.inr).zip xs))) ρ1
def trsOf (L : Lay) : List Str → List TEd → List (TE × TE)
  | k :: ks, t :: ts => (tC (.str k), tE L t) :: trsOf L ks ts
  | _, _ => []
section
variable {L : Lay}
theorem merge_rel {K : PySem.W.Frag} {H : Hp} : ∀ {more : List (Key × PyData)} {vmore : List (Key × V)} {kvs : List (Key × PyData)} {vks : List (Key × V)}, more.map (·.1) = vmore.map (·.1) → BrA K H (vmore.map (·.2)) (more.map (·.2)) → kvs.map (·.1) = vks.map (·.1) → BrA K H (vks.map (·.2)) (kvs.map (·.2)) →
    (putAll kvs more).map (·.1) = (mergeK vks vmore).map (·.1) ∧ BrA K H ((mergeK vks vmore).map (·.2)) ((putAll kvs more).map (·.2))
  | [], [], _, _, _, _, h3, h4 => ⟨h3, h4⟩
  | [], _ :: _, _, _, h, _, _, _ => by simp at h
  | _ :: _, [], _, _, h, _, _, _ => by simp at h
  | (k, x) :: more, (k', v) :: vmore, kvs, vks, h1, h2, h3, h4 => by
    simp only [List.map_cons, List.cons.injEq] at h1
    obtain ⟨rfl, h1⟩ := h1
    cases h2 with
    | cons b bs =>
      obtain ⟨a1, a2⟩ := put_rel (k := k) b h3 h4
      exact merge_rel (more := more) (vmore := vmore) (kvs := putD kvs k x) (vks := putK vks k v) h1 bs a1 a2
theorem vals_run : ∀ {ks : List Str} {ts : List TEd} {σ : L2.St} {ρ : En} {H : Hp} {QQ : List PyData → En → Prop} {Q' : List (V × V) → Hp → Prop}, ks.length = ts.length → Rel L H σ ρ → dVals ts ρ QQ →
    (∀ (vs : List V) (xs : List PyData) (ρ' : En) (H' : Hp), vs.length = ks.length → Go σ ρ ρ' H H' → Rel L H' σ ρ' → BrA L.K H' vs xs → QQ xs ρ' → Q' ((ks.zip vs).map fun z => (V.str z.1, z.2)) H') → tPairs (trsOf L ks ts) σ H Q'
  | [], [], σ, ρ, H, QQ, Q', _, r, q, fin => fin [] [] ρ H rfl Go.rf r .nil q
  | [], _ :: _, _, _, _, _, _, h, _, _, _ => by simp at h
  | _ :: _, [], _, _, _, _, _, h, _, _, _ => by simp at h
  | k :: ks, t :: ts, σ, ρ, H, QQ, Q', hl, r, q, fin => by
    refine ⟨ρ, _, r, q, fun w H1 s ρ1 go1 r1 hw q1 => ?_⟩
    obtain ⟨x, rfl, q2⟩ := q1
    refine vals_run (ks := ks) (ts := ts) (by simpa using hl) r1 q2 fun vs xs ρ' H' lv go2 r2 b q3 => ?_
    exact fin (w :: vs) (x :: xs) ρ' H' (by simp [lv]) (go1.tr go2) r2 (.cons (Br.keep (go2.keep r1) _ _ hw) b) q3
theorem de_disp {X : Cx} {pos : Pos} {keys : List (Option Expr)} {values : List Expr} {ks : List Str} {ts : List TEd} (h : PPs X pos keys values (trsOf L ks ts)) (hl : ks.length = ts.length) (h15 : ks.length ≤ 15) (hall : keys.all (·.isSome) = true := by rfl) (hl2 : keys.length = values.length := by rfl) (h0 : keys ≠ [] := by simp) (k15 : keys.length ≤ 15 := by decide) :
    PE X (.Dict keys values pos) (tE L (dDisp ks ts)) := (pe_disp h hall hl2 h0 k15).less fun σ H Q' q => by
  obtain ⟨ρ, Q, r, q, fin⟩ := q
  intro p hp
  refine vals_run hl (r.go (same_new hp)) q fun vs xs ρ' H2 lv go r2 b q2 => ?_
  have h2 : H2 p = some (.dK []) := go.stay p _ upd_same fun i ys e z => by
    obtain ⟨l', vs', q1, q2, _⟩ := r.getW e
    rw [z] at q1; cases q1
    rw [hp] at q2; cases q2
  have h0 : L.H0 p = none := r.same.free hp
  have lx : xs.length = vs.length := by have := b.len; omega
  obtain ⟨m1, m2⟩ := merge_rel (K := L.K) (H := H2) (more := (ks.map Sum.inr).zip xs) (vmore := (ks.map Sum.inr).zip vs) (kvs := []) (vks := []) (by rw [List.map_fst_zip (by simp; omega), List.map_fst_zip (by simp; omega)]) (by rw [List.map_snd_zip (by simp; omega), List.map_snd_zip (by simp; omega)]; exact b) rfl .nil
  have kp : Keep H2 (upd H2 p (.dK (mergeK [] ((ks.map Sum.inr).zip vs)))) := keep_put h2 trivial
  refine ⟨h2, (ks.map Sum.inr).zip vs, ?_, by simp; omega, fin (.ref p) _ (.od (putAll [] ((ks.map Sum.inr).zip xs))) ρ' ⟨fun a o' q n => ?_, go.less, fun a q => ?_⟩ ?_ ⟨⟨p, _, rfl, upd_same, ⟨m1, BrA.keep kp _ _ m2⟩, h0⟩, fun l e => by cases e; exact hp⟩ q2⟩
  · rw [List.zip_map_left, List.map_map]; rfl
  · have ne : a ≠ p := fun z => by rw [z, hp] at q; cases q
    rw [upd_ne ne]
    exact go.stay a o' (by rw [upd_ne ne]; exact q) n
  · by_cases z : a = p
    · rw [z]; exact hp
    · rw [upd_ne z] at q
      have := go.dom a q
      rw [upd_ne z] at this; exact this
  · have out : ∀ (i : Nat) (ys : Ow), ρ'[i]? = some (.ow ys) → σ[i]? ≠ some (some (.ref p)) := fun i ys e z => by
      obtain ⟨zs, e'⟩ := go.less i ys e
      obtain ⟨l', vs', q1, q2, _⟩ := r.getW e'
      rw [z] at q1; cases q1
      rw [hp] at q2; cases q2
    refine ⟨r2.len, fun j z e => ?_, r2.sep, fun a o h => ?_⟩
    · have q := r2.at' j z e
      cases z with
      | un => trivial
      | d x => obtain ⟨v, e2, q⟩ := q; exact ⟨v, e2, Br.keep kp _ _ q⟩
      | ow zs =>
        obtain ⟨v, e2, q⟩ := q
        refine ⟨v, e2, q.keep kp fun m u' em hu => (upd_ne fun z => ?_).trans hu⟩
        subst em; subst z
        obtain ⟨w', e4, _⟩ := r2.get e
        rw [e4] at e2
        refine out j zs e ?_
        rw [e4]
        exact congrArg some (show w' = some (V.ref m) from e2)
      | ob t => obtain ⟨a, e2, q⟩ := q; exact ⟨a, e2, L.J.keep _ _ _ _ kp q⟩
    · have ne : a ≠ p := fun z => by rw [z, h0] at h; cases h
      rw [upd_ne ne]; exact r2.same a o h
end
end GB

set_option maxRecDepth 100000
/-! a dict of the top, texts to plain things: d.get(k, z) -/
namespace GB
open PySem PySem.Spec PyProof.Rows L2
def KeysAre (es : List DictEntry) (ks : List Str) : Bool := es.all fun e => (!e.refKey) && ks.any fun k => e.key.isStr k
def KNo (K : PySem.W.Frag) (w : World) (a : Addr) (z : Str) : Prop := ∃ es n, K.lookup a = some ⟨.type "dict", none, .dict es n, #[]⟩ ∧ PySem.W.KeysLit w.params es.toList ∧ PySem.W.nsIn K a z = some none
structure DctG (K : PySem.W.Frag) (w : World) (a : Addr) (D : List (Str × PyData)) : Prop where
  y : ∀ z d, D.lookup z = some d → ∃ v, KDct K w a z v ∧ ∀ H, Br K H v d
  n : ∀ z, D.lookup z = none → KNo K w a z
  o : (a == sysModules) = false
theorem no_key {K : PySem.W.Frag} {w : World} {a : Addr} {es : Array DictEntry} {n : Nat} (hl : K.lookup a = some ⟨.type "dict", none, .dict es n, #[]⟩) (hk : PySem.W.KeysLit w.params es.toList) {ks : List Str} (h : KeysAre es.toList ks = true) {z : Str} (hz : z ∉ ks) : KNo K w a z := by
  refine ⟨es, n, hl, hk, ?_⟩
  unfold PySem.W.nsIn
  rw [hl]
  unfold KeysAre at h
  rw [List.all_eq_true] at h
  have e1 : es.toList.find? (·.key.isStr z) = none := by
    rw [List.find?_eq_none]
    intro e he q
    have := h e he
    rw [Bool.and_eq_true, List.any_eq_true] at this
    obtain ⟨_, k, hk, e2⟩ := this
    have : z = k := by
      cases hkey : e.key with
      | str x t =>
        rw [hkey] at q e2
        have a1 : (x == z) = true := q
        have a2 : (x == k) = true := e2
        rw [← eq_of_beq a1, ← eq_of_beq a2]
      | _ => rw [hkey] at q; cases q
    exact hz (this ▸ hk)
  have e2 : es.toList.any (·.refKey) = false := by
    rw [List.any_eq_false]
    intro e he q
    have := h e he
    rw [Bool.and_eq_true, q] at this
    exact absurd this.1 (by decide)
  dsimp only
  rw [e1, e2]
  rfl
/-- D.get(k, z), D a dict of the top -/
def dKGet (D : List (Str × PyData)) (ty tz : TEd) : TEd := fun ρ Q => ty ρ fun s ρ1 => ∃ z, s = .d (.str z) ∧ tz ρ1 fun s2 ρ2 => ∃ x, s2 = .d x ∧ Q (.d ((D.lookup z).getD x)) ρ2
section
variable {X : Cx} {L : Lay} {x : Str} {q : Addr} {D : List (Str × PyData)} {e f : Expr} {ty tz : TEd} {p apos cpos : Pos}
theorem de_kget (hK : L.K = X.K) (hg : Gl X x) (hm : X.mg x = some (.ref q)) (T : DctG X.K X.w q D) (he : PE X e (tE L ty)) (hf : PE X f (tE L tz)) (m : M2 X (.Name x p) "get" apos e f cpos := by exact ⟨rfl, rfl, rfl, rfl⟩) (hd : (x == ("__debug__" : Str)) = false := by decide) :
    PE X (.Call (.Attribute (.Name x p) "get" apos) [e, f] [] cpos) (tE L (dKGet D ty tz)) := by
  refine ⟨fun pins s σ H Q' I h => ?_⟩
  obtain ⟨ρ, Q, r, q0, fin⟩ := h
  have ho : PE X (.Name x p) _ := pe_glob (v := .ref q) hg hm rfl hd
  refine wpAny_Call_method m.base m.few m.line PySem.F.plainAttrs_dict PySem.F.slot_dict_get PySem.F.type_dict_get (thn (ho.run pins s σ H (fun v H1 => v = .ref q ∧ H1 = H) I ⟨rfl, rfl⟩) fun u s1 ⟨y, H1, I1, ry, ey, eH⟩ => ?_)
  subst ey eH
  obtain rfl : u = Value.ref q := ry
  obtain ⟨es0, n0, hl0, hk0⟩ : ∃ es n, X.K.lookup q = some ⟨.type "dict", none, .dict es n, #[]⟩ ∧ PySem.W.KeysLit X.w.params es.toList := by
    cases hz : D.lookup ("" : Str) with
    | some d => obtain ⟨v, ⟨es, n, u, a, b, _⟩, _⟩ := T.y ("" : Str) d hz; exact ⟨es, n, a, b⟩
    | none => obtain ⟨es, n, a, b, _⟩ := T.n ("" : Str) hz; exact ⟨es, n, a, b⟩
  have hob := I1.kIn _ _ hl0
  refine ⟨⟨_, hob, rfl⟩, fun a e => by cases e; exact ⟨_, hob, rfl⟩, ?_⟩
  rw [m.trees]
  refine wpAny_dict_get2 (knd := strKind X.prog X.w) T.o (thn (he.run pins s1 σ H1 (fun y H2 => ∃ zt, y = .str zt ∧ ∃ ρ1, Go σ ρ ρ1 H1 H2 ∧ Rel L H2 σ ρ1 ∧ tz ρ1 fun s2 ρ2 => ∃ x, s2 = .d x ∧ Q (.d ((D.lookup zt).getD x)) ρ2) I1 ⟨ρ, _, r, q0, fun w H2 s2 ρ1 go1 r1 hw q1 => ?_⟩) fun ku s2 ⟨y, H2, I2, ry, zt, ey, ρ1, go1, r1, q1⟩ => ?_)
  · obtain ⟨zt, rfl, q2⟩ := q1
    have hw : Br L.K H2 w (.str zt) := hw
    cases hw
    exact ⟨zt, rfl, ρ1, go1, r1, q2⟩
  subst ey
  obtain ⟨tk, rfl⟩ := ry
  refine thn (hf.run pins s2 σ H2 (fun z H3 => ∃ x ρ2, Go σ ρ ρ2 H1 H3 ∧ Rel L H3 σ ρ2 ∧ Br L.K H3 z x ∧ Q (.d ((D.lookup zt).getD x)) ρ2) I2 ⟨ρ1, _, r1, q1, fun w H3 s3 ρ2 go2 r2 hw q2 => ?_⟩) fun zu s3 ⟨z, H3, I3, rz, x, ρ2, go2, r2, hz, q2⟩ => ?_
  · obtain ⟨x, rfl, q3⟩ := q2
    exact ⟨x, ρ2, go1.tr go2, r2, hw, q3⟩
  refine ⟨zt, _, strKind_is X.prog X.w zt tk, PySem.W.mapOf_K I3.kIn hl0 hk0, ?_⟩
  cases hlk : D.lookup zt with
  | none =>
    obtain ⟨es, n, a, b, c⟩ := T.n zt hlk
    rw [hl0] at a
    cases a
    rw [PySem.W.find_K hl0 c]
    rw [hlk] at q2
    exact ⟨z, H3, I3.tok _, rz, fin z H3 (.d x) ρ2 go2 r2 hz q2⟩
  | some d =>
    obtain ⟨v, ⟨es, n, u, a, b, c, ru⟩, bv⟩ := T.y zt d hlk
    rw [hl0] at a
    cases a
    rw [PySem.W.find_K hl0 c]
    rw [hlk] at q2
    exact ⟨v, H3, I3.tok _, ru, fin v H3 (.d d) ρ2 go2 r2 (by show Br L.K H3 v d; rw [hK]; exact bv H3) q2⟩
end
theorem dctG_mk {K : PySem.W.Frag} {w : World} {a : Addr} {es : Array DictEntry} {n : Nat} (hl : K.lookup a = some ⟨.type "dict", none, .dict es n, #[]⟩) (hk : PySem.W.KeysLit w.params es.toList) {D : List (Str × PyData)} (h : KeysAre es.toList (D.map (·.1)) = true) (ho : (a == sysModules) = false)
    (hy : ∀ z d, D.lookup z = some d → ∃ v, KDct K w a z v ∧ ∀ H, Br K H v d) : DctG K w a D := by
  refine ⟨hy, fun z hz => no_key hl hk h fun m => ?_, ho⟩
  obtain ⟨p, hp, rfl⟩ := List.mem_map.mp m
  have : ∀ {D : List (Str × PyData)}, p ∈ D → D.lookup p.1 ≠ none := by
    intro D
    induction D with
    | nil => intro h; cases h
    | cons q r ih =>
      intro h e
      rw [List.lookup_cons] at e
      split at e
      · cases e
      · rename_i ne
        rcases List.mem_cons.mp h with rfl | h
        · simp at ne
        · exact ih h e
  exact this hp hz
theorem dctG_nil {K : PySem.W.Frag} {w : World} {a : Addr} : ∀ z d, ([] : List (Str × PyData)).lookup z = some d → ∃ v, KDct K w a z v ∧ ∀ H, Br K H v d := fun _ _ h => by cases h
theorem dctG_cons {K : PySem.W.Frag} {w : World} {a : Addr} {k : Str} {x : PyData} {v : V} {D : List (Str × PyData)} (h : KDct K w a k v) (b : ∀ H, Br K H v x) (r : ∀ z d, D.lookup z = some d → ∃ v, KDct K w a z v ∧ ∀ H, Br K H v d) : ∀ z d, ((k, x) :: D).lookup z = some d → ∃ v, KDct K w a z v ∧ ∀ H, Br K H v d := fun z d e => by
  rw [List.lookup_cons] at e
  split at e
  · rename_i q
    cases e
    rw [eq_of_beq q]; exact ⟨v, h, b⟩
  · exact r z d e
theorem e_kget {D : List (Str × PyData)} {ty tz : TEd} {ρ : En} {Q : S → En → Prop} : dKGet D ty tz ρ Q ↔ ty ρ fun s ρ1 => ∃ z, s = .d (.str z) ∧ tz ρ1 fun s2 ρ2 => oneK s2 fun x => Q (.d ((D.lookup z).getD x)) ρ2 := Iff.rfl
theorem str_ex {z : Str} {p : Str → Prop} : (∃ y, S.d (.str z) = .d (.str y) ∧ p y) ↔ p z := ⟨fun ⟨_, e, h⟩ => by cases e; exact h, fun h => ⟨_, rfl, h⟩⟩
theorem e_disp {ks : List Str} {ts : List TEd} {ρ : En} {Q : S → En → Prop} : dDisp ks ts ρ Q ↔ dVals ts ρ fun xs ρ1 => Q (.od (putAll [] ((ks.map Sum.inr).zip xs))) ρ1 := Iff.rfl
theorem e_vnil {ρ : En} {Q : List PyData → En → Prop} : dVals [] ρ Q ↔ Q [] ρ := Iff.rfl
theorem e_vcons {t : TEd} {ts : List TEd} {ρ : En} {Q : List PyData → En → Prop} : dVals (t :: ts) ρ Q ↔ t ρ fun s ρ1 => oneK s fun x => dVals ts ρ1 fun xs ρ2 => Q (x :: xs) ρ2 := Iff.rfl
end GB

namespace GB
open PySem PySem.Spec PyProof.Rows L2 SeqAt
/-! a tuple of anything beside the empty one: == -/
def fEqU : F2 := fun x y Q => ∃ xs, x = .tuple xs ∧ y = .tuple [] ∧ Q (.d (.bool xs.isEmpty))
theorem f_equ {xs : List PyData} {k : S → Prop} : fEqU (.tuple xs) (.tuple []) k ↔ k (.d (.bool xs.isEmpty)) :=
  ⟨fun ⟨_, e, _, h⟩ => by cases e; exact h, fun h => ⟨xs, rfl, rfl, h⟩⟩
theorem o_equ {X : Cx} {L : Lay} (hK : L.K = X.K) (g : Good X) : OpR X (compareOp .Eq) (rD L fEqU) := by
  intro pins s σ H x y v u Q' I rx ry q
  obtain ⟨dx, dy, Q, bx, by_, ⟨xs, rfl, rfl, q⟩, fin⟩ := q
  obtain ⟨as, r1⟩ := Bk.reads hK I bx rx
  obtain ⟨bs, r2⟩ := Bk.reads hK I by_ ry
  cases r1 with
  | @tuple l o vs n _ as1 h1 h2 h3 h4 =>
    cases r2 with
    | @tuple l' o' vs' n' _ bs1 k1 k2 k3 k4 =>
      have n1 : vs.size = xs.length := by simpa using ReadsAll.length _ _ _ h4
      have n2 : vs'.size = 0 := by simpa using ReadsAll.length _ _ _ k4
      have e : ((List.range (min vs.size vs'.size)).all (fun _ => true) && vs.size == vs'.size) = xs.isEmpty := by
        rw [n2, n1]
        cases xs <;> simp
      refine RcAt.tuples (e := fun _ => true) ⟨_, h1, h2, _, h3⟩ ⟨_, k1, k2, _, k3⟩ (by have := g.un; omega) (fun j j1 j2 => absurd j2 (by omega)) X.prog X.w _ _ ?_
      rw [e]
      exact ⟨.bl _, H, I, rfl, fin _ H _ (Same.refl H) (nr_d (.bl _)) q⟩
end GB

namespace GK
open PySem PySem.Spec PyProof.Rows L2 GB

/-! small data -/
structure Sm (D W : Nat) (x : PyData) : Prop where
  sh : x.showable = true
  ls : x.leavesShort 40 = true
  dp : x.depth ≤ D
  bk : x.bulk ≤ W
theorem Sm.mono {D W D' W' : Nat} {x : PyData} (h : Sm D W x) (h1 : D ≤ D') (h2 : W ≤ W') : Sm D' W' x := ⟨h.sh, h.ls, Nat.le_trans h.dp h1, Nat.le_trans h.bk h2⟩
theorem Sm.fits {D W : Nat} {x : PyData} (h : Sm D W x) (hw : W ≤ 300000) : x.shown.length ≤ sizeLine := by
  have q := PyData.shown_le_bulk 40 (by decide) x h.ls
  have := h.bk
  have e : sizeLine = 16777216 := by decide
  rw [e]; omega
theorem sm_all {D W : Nat} : ∀ {xs : List PyData}, (∀ x ∈ xs, Sm D W x) → PyData.showableAll xs = true ∧ PyData.leavesShortAll 40 xs = true ∧ PyData.depthAll xs ≤ D ∧ PyData.bulkAll xs ≤ xs.length * (W + 1)
  | [], _ => ⟨rfl, rfl, by simp [PyData.depthAll], by simp [PyData.bulkAll]⟩
  | x :: xs, h => by
    have h0 := h x (by simp)
    obtain ⟨h1, h2, h3, h4⟩ := sm_all (xs := xs) fun y hy => h y (by simp [hy])
    refine ⟨by simp [PyData.showableAll, h0.sh, h1], by simp [PyData.leavesShortAll, h0.ls, h2], ?_, ?_⟩
    · have := h0.dp; simp only [PyData.depthAll]; omega
    · have := h0.bk
      simp only [PyData.bulkAll, List.length_cons]
      have e : (xs.length + 1) * (W + 1) = xs.length * (W + 1) + (W + 1) := by rw [Nat.add_mul, Nat.one_mul]
      rw [e]; omega
theorem sm_tup {D W n : Nat} {xs : List PyData} (h : ∀ x ∈ xs, Sm D W x) (hn : xs.length ≤ n) : Sm (D + 1) (n * (W + 1)) (.tuple xs) := by
  obtain ⟨h1, h2, h3, h4⟩ := sm_all h
  refine ⟨by simpa [PyData.showable] using h1, by simpa [PyData.leavesShort] using h2, by simp only [PyData.depth]; omega, ?_⟩
  simp only [PyData.bulk]
  exact Nat.le_trans h4 (Nat.mul_le_mul_right _ hn)
theorem sm_lst {D W n : Nat} {xs : List PyData} (h : ∀ x ∈ xs, Sm D W x) (hn : xs.length ≤ n) : Sm (D + 1) (n * (W + 1)) (.list xs) := by
  obtain ⟨h1, h2, h3, h4⟩ := sm_all h
  refine ⟨by simpa [PyData.showable] using h1, by simpa [PyData.leavesShort] using h2, by simp only [PyData.depth]; omega, ?_⟩
  simp only [PyData.bulk]
  exact Nat.le_trans h4 (Nat.mul_le_mul_right _ hn)
def smB (D W : Nat) (x : PyData) : Bool := x.showable && x.leavesShort 40 && decide (x.depth ≤ D) && decide (x.bulk ≤ W)
theorem sm_of {D W : Nat} {x : PyData} (h : smB D W x = true) : Sm D W x := by
  simp only [smB, Bool.and_eq_true, decide_eq_true_eq] at h
  exact ⟨h.1.1.1, h.1.1.2, h.1.2, h.2⟩
/-- rows, counted together -/
structure SmL (D W : Nat) (xs : List PyData) : Prop where
  sh : PyData.showableAll xs = true
  ls : PyData.leavesShortAll 40 xs = true
  dp : PyData.depthAll xs ≤ D
  bk : PyData.bulkAll xs ≤ W
theorem sml_tup {D W : Nat} {xs : List PyData} (h : SmL D W xs) : Sm (D + 1) W (.tuple xs) :=
  ⟨by simpa [PyData.showable] using h.sh, by simpa [PyData.leavesShort] using h.ls, by have := h.dp; simp only [PyData.depth]; omega, by simpa only [PyData.bulk] using h.bk⟩
theorem sml_lst {D W : Nat} {xs : List PyData} (h : SmL D W xs) : Sm (D + 1) W (.list xs) :=
  ⟨by simpa [PyData.showable] using h.sh, by simpa [PyData.leavesShort] using h.ls, by have := h.dp; simp only [PyData.depth]; omega, by simpa only [PyData.bulk] using h.bk⟩
theorem tup_sml {D W : Nat} {xs : List PyData} (h : Sm D W (.tuple xs)) : SmL D W xs :=
  ⟨by simpa [PyData.showable] using h.sh, by simpa [PyData.leavesShort] using h.ls, by have := h.dp; simp only [PyData.depth] at this; omega, by simpa only [PyData.bulk] using h.bk⟩
theorem sml_nil {D W : Nat} : SmL D W [] := ⟨rfl, rfl, by simp [PyData.depthAll], by simp [PyData.bulkAll]⟩
theorem sml_cons {D W1 W2 W : Nat} {x : PyData} {xs : List PyData} (h : Sm D W1 x) (k : SmL D W2 xs) (hw : W1 + 1 + W2 ≤ W) : SmL D W (x :: xs) :=
  ⟨by simp [PyData.showableAll, h.sh, k.sh], by simp [PyData.leavesShortAll, h.ls, k.ls], by have := h.dp; have := k.dp; simp only [PyData.depthAll]; omega, by have := h.bk; have := k.bk; simp only [PyData.bulkAll]; omega⟩
theorem sml_un {D W : Nat} {x : PyData} {xs : List PyData} (h : SmL D W (x :: xs)) : Sm D W x ∧ SmL D W xs := by
  obtain ⟨h1, h2, h3, h4⟩ := h
  simp only [PyData.showableAll, PyData.leavesShortAll, PyData.depthAll, PyData.bulkAll, Bool.and_eq_true] at h1 h2 h3 h4
  exact ⟨⟨h1.1, h2.1, by omega, by omega⟩, ⟨h1.2, h2.2, by omega, by omega⟩⟩
theorem sml_mem {D W : Nat} : ∀ {xs : List PyData}, SmL D W xs → ∀ x ∈ xs, Sm D W x
  | [], _, _, hx => nomatch hx
  | y :: ys, h, x, hx => by
    obtain ⟨h1, h2⟩ := sml_un h
    rcases List.mem_cons.mp hx with rfl | hx
    · exact h1
    · exact sml_mem h2 x hx
theorem SmL.mono {D W D' W' : Nat} {xs : List PyData} (h : SmL D W xs) (h1 : D ≤ D') (h2 : W ≤ W') : SmL D' W' xs := ⟨h.sh, h.ls, Nat.le_trans h.dp h1, Nat.le_trans h.bk h2⟩
theorem bulk_app : ∀ (xs ys : List PyData), PyData.bulkAll (xs ++ ys) = PyData.bulkAll xs + PyData.bulkAll ys
  | [], ys => by simp [PyData.bulkAll]
  | x :: xs, ys => by simp only [List.cons_append, PyData.bulkAll, bulk_app xs ys]; omega
theorem sml_app {D W1 W2 W : Nat} {xs ys : List PyData} (h : SmL D W1 xs) (k : SmL D W2 ys) (hw : W1 + W2 ≤ W) : SmL D W (xs ++ ys) := by
  refine ⟨?_, ?_, ?_, by rw [bulk_app]; have := h.bk; have := k.bk; omega⟩
  · have h1 := h.sh
    have h2 := k.sh
    clear h k
    induction xs with
    | nil => exact h2
    | cons x xs ih =>
      simp only [PyData.showableAll, Bool.and_eq_true] at h1
      simp [PyData.showableAll, h1.1, ih h1.2]
  · have h1 := h.ls
    have h2 := k.ls
    clear h k
    induction xs with
    | nil => exact h2
    | cons x xs ih =>
      simp only [PyData.leavesShortAll, Bool.and_eq_true] at h1
      simp [PyData.leavesShortAll, h1.1, ih h1.2]
  · have h1 := h.dp
    have h2 := k.dp
    clear h k
    induction xs with
    | nil => exact h2
    | cons x xs ih =>
      simp only [List.cons_append, PyData.depthAll] at h1 ⊢
      have := ih (by omega)
      omega
theorem sml_drop {D W : Nat} : ∀ {xs : List PyData} (n : Nat), SmL D W xs → SmL D W (xs.drop n)
  | xs, 0, h => h
  | [], _ + 1, h => h
  | x :: xs, n + 1, h => sml_drop n (sml_un h).2
theorem sml_take {D W : Nat} : ∀ {xs : List PyData} (n : Nat), SmL D W xs → SmL D W (xs.take n)
  | xs, 0, h => sml_nil
  | [], _ + 1, h => h
  | x :: xs, n + 1, h => by
    obtain ⟨h1, h2⟩ := sml_un h
    have hb := h.bk
    simp only [PyData.bulkAll] at hb
    have h3 : SmL D (PyData.bulkAll xs) xs := ⟨h2.sh, h2.ls, h2.dp, Nat.le_refl _⟩
    exact sml_cons (W1 := x.bulk) ⟨h1.sh, h1.ls, h1.dp, Nat.le_refl _⟩ (sml_take n h3) (by omega)
theorem sml_cut {D W : Nat} {xs : List PyData} {a b : Option Int} (h : SmL D W xs) : SmL D W (GB.cutD xs a b) := sml_take _ (sml_drop _ h)
/-! books -/
def isTup (l m : Int) : PyData → Bool
  | .tuple xs => decide (l ≤ xs.length ∧ (xs.length : Int) ≤ m)
  | _ => false
def tripB : PyData → Bool
  | .tuple [.tuple [_, _, _], .tuple [_, _, _]] => true
  | _ => false
def formB : PyData → Bool
  | .tuple [w, r, m, _, _] => tripB w && (tripB r && isTup 2 2 m)
  | _ => false
def GRD : List PyData := [.tuple [], .tuple [.str "again"], .tuple [.str "again", .str "new"], .tuple [.str "again", .str "new", .str "old"], .tuple [.str "again", .str "old"], .tuple [.str "new"], .tuple [.str "new", .str "old"], .tuple [.str "old"]]
def MDE : List PyData := [.str "white", .str "grey", .str "black"]
def grdB (x : PyData) : Bool := GRD.any fun z => PyData.eqv z x
def mdB (x : PyData) : Bool := MDE.any fun z => PyData.eqv z x
def firstBad : List (Bool × PyData) → PyData
  | [] => .none
  | (b, e) :: r => if b = true then firstBad r else e
def eW (p c : Int) : PyData := .tuple [.str "write", .int p, .int c]
def eR (p c : Int) : PyData := .tuple [.str "read", .int p, .int c]
def eM (p : Int) : PyData := .tuple [.str "make", .int p]
def checks (a b c d e f g h i j k l m n la pi : PyData) : List (Bool × PyData) :=
  [(grdB a, eW 0 0), (grdB b, eW 0 1), (grdB c, eW 0 2), (grdB d, eW 1 0), (grdB e, eW 1 1), (grdB f, eW 1 2),
   (kBool g, eR 0 0), (kBool h, eR 0 1), (kBool i, eR 0 2), (kBool j, eR 1 0), (kBool k, eR 1 1), (kBool l, eR 1 2), (mdB m, eM 0), (mdB n, eM 1), (kBool la, .str "last"), (kBool pi, .str "pieces")]
def bf : PyData → PyData
  | .tuple [.tuple [.tuple [a, b, c], .tuple [d, e, f]], .tuple [.tuple [g, h, i], .tuple [j, k, l]], .tuple [m, n], la, pi] => firstBad (checks a b c d e f g h i j k l m n la pi)
  | _ => .str "form"
/-! entries -/
inductive En where
  | last
  | make (p : Nat)
  | read (p c : Nat)
  | write (p c : Nat) (w : Str)
  deriving DecidableEq
def En.d : En → PyData
  | .last => .tuple [.str "last"]
  | .make p => .tuple [.str "make", .int p]
  | .read p c => .tuple [.str "read", .int p, .int c]
  | .write p c w => .tuple [.str "write", .int p, .int c, .str w]
def En.pl : En → List Nat
  | .last => [3]
  | .make p => [2, p]
  | .read p c => [1, p, c]
  | .write p c _ => [0, p, c]
def ENS : List En := [.last, .make 0, .make 1, .read 0 0, .read 0 1, .read 0 2, .read 1 0, .read 1 1, .read 1 2, .write 0 0 "again", .write 0 0 "new", .write 0 0 "old", .write 0 1 "again", .write 0 1 "new", .write 0 1 "old", .write 0 2 "again", .write 0 2 "new", .write 0 2 "old", .write 1 0 "again", .write 1 0 "new", .write 1 0 "old", .write 1 1 "again", .write 1 1 "new", .write 1 1 "old", .write 1 2 "again", .write 1 2 "new", .write 1 2 "old"]
def nD (n : Nat) : PyData := .int n
def itemAt : PyData → List Nat → Option PyData
  | x, [] => some x
  | .tuple xs, n :: ns => match xs[n]? with
    | some y => itemAt y ns
    | none => none
  | _, _ :: _ => none
def hasV : En → PyData → Option Bool
  | .write _ _ w, .tuple gs => inD (.str w) (.tuple gs)
  | .make _, .str z => if eqOk (.str z) (.str "white") = true then some (!PyData.eqv (.str z) (.str "white")) else none
  | .read _ _, .bool b => some b
  | .last, .bool b => some b
  | _, _ => none
def hasE (b : PyData) (e : En) : Option Bool := match itemAt b e.pl with
  | some x => hasV e x
  | none => none
def rep : PyData → List Nat → PyData → Option PyData
  | _, [], it => some it
  | .tuple xs, n :: ns, it => match xs[n]? with
    | some y => match rep y ns it with
      | some z => if xs.length ≤ 1000 then some (.tuple (xs.take n ++ [z] ++ xs.drop (n + 1))) else none
      | none => none
    | none => none
  | _, _ :: _, _ => none
def WE (b : PyData) (e : En) (y : PyData) : Prop := (hasE b e = some true ∧ y = b) ∨ (hasE b e = some false ∧ match e with
  | .write p c w => ∃ ss tt : List Str, itemAt b [0, p, c] = some (.tuple (ss.map .str)) ∧ ss.length ≤ 1000 ∧ tt.Perm (ss ++ [w]) ∧ tt.Pairwise strLe ∧ rep b [0, p, c] (.tuple (tt.map .str)) = some y
  | .make p => rep b [2, p] (.str "black") = some y
  | .read p c => rep b [1, p, c] (.bool true) = some y
  | .last => rep b [3] (.bool true) = some y)
def WO (b : PyData) (e : En) (y : PyData) : Prop := match e with
  | .write p c w => ∃ ss : List Str, itemAt b [0, p, c] = some (.tuple (ss.map .str)) ∧ ss.length ≤ 1000 ∧ rep b [0, p, c] (.tuple ((ss.filter fun z => !PyData.eqv (.str z) (.str w)).map .str)) = some y ∧ (∀ z ∈ ss, eqOk (.str z) (.str w) = true)
  | .make p => rep b [2, p] (.str "white") = some y
  | .read p c => rep b [1, p, c] (.bool false) = some y
  | .last => rep b [3] (.bool false) = some y
def entD (b : PyData) : List PyData := (ENS.filter fun e => hasE b e == some true).map En.d
/-! books -/
structure Bo where
  g : Nat → Nat → Str → Bool
  r : Nat → Nat → Bool
  m : Nat → Str
  l : Bool
  p : Bool
def Bo.has (b : Bo) : En → Bool
  | .last => b.l
  | .make q => !(b.m q == "white")
  | .read p c => b.r p c
  | .write p c w => b.g p c w
def gL (f : Str → Bool) : List Str := (["again", "new", "old"] : List Str).filter f
def gdD (f : Str → Bool) : PyData := .tuple ((gL f).map .str)
def Bo.d (b : Bo) : PyData :=
  .tuple [.tuple [.tuple [gdD (b.g 0 0), gdD (b.g 0 1), gdD (b.g 0 2)], .tuple [gdD (b.g 1 0), gdD (b.g 1 1), gdD (b.g 1 2)]], .tuple [.tuple [.bool (b.r 0 0), .bool (b.r 0 1), .bool (b.r 0 2)], .tuple [.bool (b.r 1 0), .bool (b.r 1 1), .bool (b.r 1 2)]], .tuple [.str (b.m 0), .str (b.m 1)], .bool b.l, .bool b.p]
def Bo.tu (b : Bo) (e : En) (v : Bool) : Bo := match e with
  | .last => { b with l := v }
  | .make q => { b with m := fun q' => if q' = q then (if v = true then (if b.m q = "white" then "black" else b.m q) else "white") else b.m q' }
  | .read p c => { b with r := fun p' c' => if p' = p ∧ c' = c then v else b.r p' c' }
  | .write p c w => { b with g := fun p' c' w' => if p' = p ∧ c' = c ∧ w' = w then v else b.g p' c' w' }
def OkB (b : Bo) : Prop := ∀ q, b.m q = "white" ∨ b.m q = "grey" ∨ b.m q = "black"
end GK

set_option maxRecDepth 20000
namespace GK
open PySem PySem.Spec PyProof.Rows L2 GB
theorem line_ge {n : Nat} (h : n ≤ 1000000) : n ≤ sizeLine := Nat.le_trans h (by decide)
theorem all_of {p : PyData → Bool} {xs : List PyData} (h : xs.all p = true) : ∀ x ∈ xs, p x = true := List.all_eq_true.mp h
theorem rows_lay : ∀ {xs : List PyData}, (∀ x ∈ xs, x.canLay0 = true ∧ x.depth ≤ 20) → PyData.canLayAll0 xs = true ∧ PyData.depthAll xs ≤ 20
  | [], _ => ⟨rfl, by simp [PyData.depthAll]⟩
  | x :: xs, h => by
    obtain ⟨a, b⟩ := h x (by simp)
    obtain ⟨c, d⟩ := rows_lay (xs := xs) fun y hy => h y (by simp [hy])
    refine ⟨by simp [PyData.canLayAll0, a, c], by simp only [PyData.depthAll]; omega⟩
theorem shp_list {xs : List PyData} (h : ∀ x ∈ xs, x.canLay0 = true ∧ x.depth ≤ 20) : SeqAt.shaped (.list xs) = true := by
  obtain ⟨a, b⟩ := rows_lay h
  simp [SeqAt.shaped, PyData.canLay0, PyData.depth, a]; omega
theorem shp_tup {xs : List PyData} (h : ∀ x ∈ xs, x.canLay0 = true ∧ x.depth ≤ 20) : SeqAt.shaped (.tuple xs) = true := by
  obtain ⟨a, b⟩ := rows_lay h
  simp [SeqAt.shaped, PyData.canLay0, PyData.depth, a]; omega
theorem list_eqOk {xs ys : List PyData} (h : ∀ x ∈ xs, x.canLay0 = true ∧ x.depth ≤ 20) (h' : ∀ x ∈ ys, x.canLay0 = true ∧ x.depth ≤ 20) : eqOk (.list xs) (.list ys) = true := by
  show (SeqAt.shaped (.list xs) && SeqAt.shaped (.list ys)) = true
  rw [shp_list h, shp_list h']; rfl
theorem irow2 : irow 0 (Int.toNat 2) = [.int 0, .int 1] := rfl
theorem irow3 : irow 0 (Int.toNat 3) = [.int 0, .int 1, .int 2] := rfl
theorem at_n {xs : List PyData} {n : Nat} {v : PyData} (h : xs[n]? = some v) : atI xs (n : Int) = some v := by
  have hl : n < xs.length := (List.getElem?_eq_some_iff.mp h).1
  unfold atI ixN
  rw [if_pos (by omega), if_pos (by omega)]
  simpa using h
theorem ixn {xs : List PyData} {m : Int} {v : PyData} {p : PyData → Prop} (e : atI xs m = some v) : (∃ v, atI xs m = some v ∧ p v) ↔ p v := ⟨fun ⟨_, e', h⟩ => by rw [e] at e'; cases e'; exact h, fun h => ⟨_, e, h⟩⟩
theorem ix0 {a : PyData} {r : List PyData} {p : PyData → Prop} : (∃ v, atI (a :: r) 0 = some v ∧ p v) ↔ p a := ixn (at_n (n := 0) rfl)
theorem ix1 {a b : PyData} {r : List PyData} {p : PyData → Prop} : (∃ v, atI (a :: b :: r) 1 = some v ∧ p v) ↔ p b := ixn (at_n (n := 1) rfl)
theorem ix2 {a b c : PyData} {r : List PyData} {p : PyData → Prop} : (∃ v, atI (a :: b :: c :: r) 2 = some v ∧ p v) ↔ p c := ixn (at_n (n := 2) rfl)
theorem ix3 {a b c d : PyData} {r : List PyData} {p : PyData → Prop} : (∃ v, atI (a :: b :: c :: d :: r) 3 = some v ∧ p v) ↔ p d := ixn (at_n (n := 3) rfl)
theorem ix4 {a b c d f : PyData} {r : List PyData} {p : PyData → Prop} : (∃ v, atI (a :: b :: c :: d :: f :: r) 4 = some v ∧ p v) ↔ p f := ixn (at_n (n := 4) rfl)
theorem t2 : ((2 : Int) < 2 ^ 60) = True := eq_true (by decide)
theorem t2' : (-2 ^ 60 < (2 : Int)) = True := eq_true (by decide)
theorem t3 : ((3 : Int) < 2 ^ 60) = True := eq_true (by decide)
theorem t3' : (-2 ^ 60 < (3 : Int)) = True := eq_true (by decide)
theorem z2 : (2 ≤ sizeLine) = True := eq_true (by decide)
theorem z3 : (3 ≤ sizeLine) = True := eq_true (by decide)
theorem pick_perm {α : Type} : ∀ (l : List α) (i : Nat) (h : i < l.length), (l[i] :: l.eraseIdx i).Perm l
  | [], _, h => nomatch h
  | a :: r, 0, _ => List.Perm.refl _
  | a :: r, i + 1, h => (List.Perm.swap a (r[i]'(by simpa using h)) (r.eraseIdx i)).trans ((pick_perm r i (by simpa using h)).cons a)
theorem exl {α : Type} {a : List PyData} {p : List PyData → Prop} : (∃ zs, PyData.list a = PyData.list zs ∧ p zs) ↔ p a := ⟨fun ⟨_, e, h⟩ => by cases e; exact h, fun h => ⟨_, rfl, h⟩⟩
theorem at_nd {xs : List PyData} {n : Nat} {v : PyData} (h : xs[n]? = some v) : ∃ i, nD n = .int i ∧ atI xs i = some v := ⟨n, rfl, at_n h⟩
theorem item_cons {x y : PyData} {n : Nat} {ns : List Nat} (h : itemAt x (n :: ns) = some y) : ∃ xs v, x = .tuple xs ∧ xs[n]? = some v ∧ itemAt v ns = some y := by
  cases x with
  | tuple xs =>
    unfold itemAt at h
    split at h
    · rename_i v e; exact ⟨xs, v, rfl, e, h⟩
    · cases h
  | _ => cases h
theorem rep_cons {x y it : PyData} {n : Nat} {ns : List Nat} (h : rep x (n :: ns) it = some y) : ∃ xs v z, x = .tuple xs ∧ xs[n]? = some v ∧ rep v ns it = some z ∧ xs.length ≤ 1000 ∧ y = .tuple (xs.take n ++ [z] ++ xs.drop (n + 1)) := by
  cases x with
  | tuple xs =>
    unfold rep at h
    split at h
    · rename_i v e
      split at h
      · rename_i z e2
        split at h
        · rename_i hl; cases h; exact ⟨xs, v, z, rfl, e, e2, hl, rfl⟩
        · cases h
      · cases h
    · cases h
  | _ => cases h
theorem cut_w {a b c d : PyData} : GB.cutD [a, b, c, d] (some 1) (some 3) = [b, c] := rfl
theorem cut_r {a b c : PyData} : GB.cutD [a, b, c] (some 1) (some 3) = [b, c] := rfl
theorem cut_m {a b : PyData} : GB.cutD [a, b] (some 1) (some 3) = [b] := rfl
theorem cut_l {a : PyData} : GB.cutD [a] (some 1) (some 3) = [] := rfl
theorem en_inj {e e' : En} (h : e.d = e'.d) : e = e' := by
  cases e <;> cases e' <;> simp only [En.d, PyData.tuple.injEq, List.cons.injEq, PyData.str.injEq, PyData.int.injEq, and_true, true_and, reduceCtorEq, and_false, false_and] at h
  all_goals first
    | rfl
    | exact absurd h (by decide +kernel)
    | exact absurd h.1 (by decide +kernel)
    | (have : ∀ a b : Nat, (a : Int) = (b : Int) → a = b := fun a b => by omega
       first
         | (obtain ⟨h1, h2, h3⟩ := h; rw [this _ _ h1, this _ _ h2, h3])
         | (obtain ⟨h1, h2⟩ := h; rw [this _ _ h1, this _ _ h2])
         | rw [this _ _ h])
theorem has_of {b : PyData} {e : En} {v : Bool} (h : hasE b e = some v) : ∃ it, itemAt b e.pl = some it ∧ hasV e it = some v := by
  unfold hasE at h
  split at h
  · rename_i x h1; exact ⟨x, h1, h⟩
  · cases h
theorem ev1 : PyData.eqv (.str "write") (.str "write") = true := by decide +kernel
theorem ev2 : PyData.eqv (.str "make") (.str "write") = false := by decide +kernel
theorem ev3 : PyData.eqv (.str "read") (.str "write") = false := by decide +kernel
theorem ev4 : PyData.eqv (.str "last") (.str "write") = false := by decide +kernel
theorem ev5 : PyData.eqv (.str "make") (.str "make") = true := by decide +kernel
theorem ev6 : PyData.eqv (.str "read") (.str "make") = false := by decide +kernel
theorem ev7 : PyData.eqv (.str "last") (.str "make") = false := by decide +kernel
theorem ev8 : PyData.eqv (.str "read") (.str "read") = true := by decide +kernel
theorem ev9 : PyData.eqv (.str "last") (.str "read") = false := by decide +kernel
theorem ev10 : PyData.eqv (.str "make") (.str "read") = false := by decide +kernel
theorem hv_w {p c : Nat} {w : Str} {it : PyData} {v : Bool} (h : hasV (.write p c w) it = some v) : ∃ gs, it = .tuple gs ∧ inD (.str w) (.tuple gs) = some v := by
  cases it with
  | tuple gs => exact ⟨gs, rfl, h⟩
  | _ => exact absurd h (by simp [hasV])
theorem hv_m {p : Nat} {it : PyData} {v : Bool} (h : hasV (.make p) it = some v) : ∃ z, it = .str z ∧ eqOk (.str z) (.str "white") = true ∧ v = !PyData.eqv (.str z) (.str "white") := by
  cases it with
  | str z =>
    have h : (if eqOk (.str z) (.str "white") = true then some (!PyData.eqv (.str z) (.str "white")) else none) = some v := h
    split at h
    · rename_i h1; cases h; exact ⟨z, rfl, h1, rfl⟩
    · cases h
  | _ => cases h
theorem hv_r {p c : Nat} {it : PyData} {v : Bool} (h : hasV (.read p c) it = some v) : it = .bool v := by
  cases it with
  | bool b => cases h; rfl
  | _ => cases h
theorem hv_l {it : PyData} {v : Bool} (h : hasV .last it = some v) : it = .bool v := by
  cases it with
  | bool b => cases h; rfl
  | _ => cases h
theorem o1 {x : PyData} {f : PyData → Prop} (h : f x) : oneK (.d x) f := by
  first
    | exact h
    | exact ⟨_, rfl, h⟩
theorem fx {xs : List PyData} {n : Nat} {v : PyData} {k : S → Prop} (e : xs[n]? = some v) (h : k (.d v)) : fIx (.tuple xs) (.int n) k := ⟨_, rfl, v, at_n e, h⟩
theorem nd_inj : ∀ {a b : List Nat}, a.map nD = b.map nD → a = b
  | [], [], _ => rfl
  | [], _ :: _, h => by cases h
  | _ :: _, [], h => by cases h
  | u :: us, v :: vs, h => by
    simp only [List.map_cons, List.cons.injEq, nD, PyData.int.injEq] at h
    have e1 : u = v := by omega
    have e2 : us = vs := nd_inj h.2
    rw [e1, e2]
theorem nD_app {n : Nat} : nD n = .int n := rfl
theorem cutD_from {α : Type} (xs : List α) (n : Nat) : GB.cutD xs (some (n : Int)) none = xs.drop n := by
  unfold GB.cutD
  rw [HT.sIx_nat]
  show (xs.drop (min n xs.length)).take (xs.length - min n xs.length) = _
  have e : xs.drop (min n xs.length) = xs.drop n := by
    by_cases h : n ≤ xs.length
    · rw [Nat.min_eq_left h]
    · rw [Nat.min_eq_right (by omega), List.drop_length, List.drop_eq_nil_of_le (by omega)]
  rw [e, List.take_of_length_le (by rw [List.length_drop]; omega)]
theorem cut_tail {x : PyData} {xs : List PyData} : GB.cutD (x :: xs) (some 1) none = xs := by
  have := cutD_from (x :: xs) 1
  exact this
theorem tuE {ys : List PyData} {p : List PyData → Prop} : (∃ xs, S.d (.tuple ys) = S.d (.tuple xs) ∧ p xs) ↔ p ys := ⟨fun ⟨_, e, h⟩ => by cases e; exact h, fun h => ⟨_, rfl, h⟩⟩
theorem dcE {d : List (Str × Int)} {a : Str} {p : Int → Prop} : (∃ z n, S.d (.str a) = S.d (.str z) ∧ d.lookup z = some n ∧ p n) ↔ ∃ n, d.lookup a = some n ∧ p n := ⟨fun ⟨_, n, e, h⟩ => by cases e; exact ⟨n, h⟩, fun ⟨n, h⟩ => ⟨_, n, rfl, h⟩⟩
theorem ent_step {b : PyData} {e : En} {es : List En} {acc : List PyData} {T : List PyData} {v : Bool} (h : acc ++ ((e :: es).filter fun e => hasE b e == some true).map En.d = T) (hv : hasE b e = some v) :
    (v = true → (acc ++ [e.d]) ++ (es.filter fun e => hasE b e == some true).map En.d = T) ∧ (v = false → acc ++ (es.filter fun e => hasE b e == some true).map En.d = T) := by
  constructor
  · rintro rfl
    rw [List.filter_cons, hv] at h
    rw [← h]
    simp
  · rintro rfl
    rw [List.filter_cons, hv] at h
    rw [← h]
    simp
/-! guards -/
theorem eqv_s {z w : Str} : PyData.eqv (.str z) (.str w) = (z == w) := by
  simp [PyData.eqv]
theorem gL_sub (f : Str → Bool) : (gL f).Pairwise strLe := List.Pairwise.sublist List.filter_sublist (by decide +kernel)
theorem gL_len (f : Str → Bool) : (gL f).length ≤ 3 := Nat.le_trans (List.length_filter_le _ _) (by decide)
theorem gL_off (f : Str → Bool) (w : Str) : (gL f).filter (fun z => !PyData.eqv (.str z) (.str w)) = gL fun z => if z = w then false else f z := by
  unfold gL
  rw [List.filter_filter]
  refine List.filter_congr fun z _ => ?_
  rw [eqv_s]
  by_cases h : z = w
  · simp [h]
  · simp [h]
def WD3 (w : Str) : Prop := w = "again" ∨ w = "new" ∨ w = "old"
theorem gL_bits (f : Str → Bool) : gL f = (if f "again" = true then ([("again" : Str)] : List Str) else []) ++ ((if f "new" = true then ([("new" : Str)] : List Str) else []) ++ (if f "old" = true then ([("old" : Str)] : List Str) else [])) := by
  unfold gL
  simp only [List.filter_cons, List.filter_nil]
  cases f "again" <;> cases f "new" <;> cases f "old" <;> rfl
theorem nan : ("new" : Str) = "again" ↔ False := iff_of_false (by decide +kernel) id
theorem noan : ("old" : Str) = "again" ↔ False := iff_of_false (by decide +kernel) id
theorem nna : ("again" : Str) = "new" ↔ False := iff_of_false (by decide +kernel) id
theorem noo : ("again" : Str) = "old" ↔ False := iff_of_false (by decide +kernel) id
theorem nno : ("new" : Str) = "old" ↔ False := iff_of_false (by decide +kernel) id
theorem non' : ("old" : Str) = "new" ↔ False := iff_of_false (by decide +kernel) id
theorem gL_put (f : Str → Bool) {w : Str} (hw : WD3 w) (h : f w = false) : (gL fun z => if z = w then true else f z).Perm (gL f ++ [w]) := by
  rw [gL_bits, gL_bits f]
  rcases hw with rfl | rfl | rfl
  · simp only [nan, noan, if_true, if_false, h]
    cases f "new" <;> cases f "old" <;> decide +kernel
  · simp only [nna, non', if_true, if_false, h]
    cases f "again" <;> cases f "old" <;> decide +kernel
  · simp only [noo, nno, if_true, if_false, h]
    cases f "again" <;> cases f "new" <;> decide +kernel
theorem gL_has (f : Str → Bool) {w : Str} (hw : WD3 w) : inD (.str w) (gdD f) = some (f w) := by
  unfold gdD
  rw [gL_bits]
  rcases hw with rfl | rfl | rfl <;> cases f "again" <;> cases f "new" <;> cases f "old" <;> decide +kernel
theorem gL_lay (f : Str → Bool) {w : Str} (hw : WD3 w) : ∀ z ∈ gL f, eqOk (.str z) (.str w) = true := by
  intro z hz
  have hz : z ∈ (["again", "new", "old"] : List Str) := (List.mem_filter.mp hz).1
  simp only [List.mem_cons, List.not_mem_nil, or_false] at hz
  rcases hz with rfl | rfl | rfl <;> rcases hw with rfl | rfl | rfl <;> decide +kernel
/-! entries of a book -/
theorem m_ok {z : Str} (h : z = "white" ∨ z = "grey" ∨ z = "black") : hasV (.make 0) (.str z) = some (!(z == "white")) := by
  rcases h with rfl | rfl | rfl <;> decide +kernel
theorem ens_cases {P : En → Prop} (h1 : P .last) (h2 : ∀ q, q < 2 → P (.make q)) (h3 : ∀ p c, p < 2 → c < 3 → P (.read p c)) (h4 : ∀ p c w, p < 2 → c < 3 → WD3 w → P (.write p c w)) : ∀ e ∈ ENS, P e := by
  intro e he
  simp only [ENS, List.mem_cons, List.not_mem_nil, or_false] at he
  rcases he with rfl | rfl | rfl | rfl | rfl | rfl | rfl | rfl | rfl | rfl | rfl | rfl | rfl | rfl | rfl | rfl | rfl | rfl | rfl | rfl | rfl | rfl | rfl | rfl | rfl | rfl | rfl
  · exact h1
  · exact h2 0 (by decide)
  · exact h2 1 (by decide)
  · exact h3 0 0 (by decide) (by decide)
  · exact h3 0 1 (by decide) (by decide)
  · exact h3 0 2 (by decide) (by decide)
  · exact h3 1 0 (by decide) (by decide)
  · exact h3 1 1 (by decide) (by decide)
  · exact h3 1 2 (by decide) (by decide)
  · exact h4 0 0 _ (by decide) (by decide) (.inl rfl)
  · exact h4 0 0 _ (by decide) (by decide) (.inr (.inl rfl))
  · exact h4 0 0 _ (by decide) (by decide) (.inr (.inr rfl))
  · exact h4 0 1 _ (by decide) (by decide) (.inl rfl)
  · exact h4 0 1 _ (by decide) (by decide) (.inr (.inl rfl))
  · exact h4 0 1 _ (by decide) (by decide) (.inr (.inr rfl))
  · exact h4 0 2 _ (by decide) (by decide) (.inl rfl)
  · exact h4 0 2 _ (by decide) (by decide) (.inr (.inl rfl))
  · exact h4 0 2 _ (by decide) (by decide) (.inr (.inr rfl))
  · exact h4 1 0 _ (by decide) (by decide) (.inl rfl)
  · exact h4 1 0 _ (by decide) (by decide) (.inr (.inl rfl))
  · exact h4 1 0 _ (by decide) (by decide) (.inr (.inr rfl))
  · exact h4 1 1 _ (by decide) (by decide) (.inl rfl)
  · exact h4 1 1 _ (by decide) (by decide) (.inr (.inl rfl))
  · exact h4 1 1 _ (by decide) (by decide) (.inr (.inr rfl))
  · exact h4 1 2 _ (by decide) (by decide) (.inl rfl)
  · exact h4 1 2 _ (by decide) (by decide) (.inr (.inl rfl))
  · exact h4 1 2 _ (by decide) (by decide) (.inr (.inr rfl))
theorem two (q : Nat) (h : q < 2) : q = 0 ∨ q = 1 := by omega
theorem three (q : Nat) (h : q < 3) : q = 0 ∨ q = 1 ∨ q = 2 := by omega
theorem has_d (b : Bo) (ok : OkB b) : ∀ e ∈ ENS, hasE b.d e = some (b.has e) := by
  refine ens_cases rfl ?_ ?_ ?_
  · intro q hq
    rcases two q hq with rfl | rfl
    · exact m_ok (ok 0)
    · exact m_ok (ok 1)
  · intro p c hp hc
    rcases two p hp with rfl | rfl <;> rcases three c hc with rfl | rfl | rfl <;> rfl
  · intro p c w hp hc hw
    rcases two p hp with rfl | rfl <;> rcases three c hc with rfl | rfl | rfl <;> exact gL_has _ hw
theorem tu_same (b : Bo) (e : En) (v : Bool) (h : b.has e = v) : b.tu e v = b := by
  obtain ⟨g, r, m, l, p⟩ := b
  cases e with
  | last => simp only [Bo.has] at h; simp [Bo.tu, h]
  | make q =>
    simp only [Bo.has] at h
    simp only [Bo.tu, Bo.mk.injEq, true_and, and_true]
    funext q'
    by_cases e : q' = q
    · subst e
      rw [if_pos rfl]
      cases v with
      | true =>
        have : ¬ m q' = "white" := fun z => by rw [z] at h; exact absurd h (by decide +kernel)
        simp [this]
      | false =>
        have : m q' = "white" := by simpa using h
        simp [this]
    · rw [if_neg e]
  | read p' c =>
    simp only [Bo.has] at h
    simp only [Bo.tu, Bo.mk.injEq, true_and, and_true]
    funext a d
    by_cases e : a = p' ∧ d = c
    · rw [if_pos e, e.1, e.2, h]
    · rw [if_neg e]
  | write p' c w =>
    simp only [Bo.has] at h
    simp only [Bo.tu, Bo.mk.injEq, true_and, and_true]
    funext a d x
    by_cases e : a = p' ∧ d = c ∧ x = w
    · rw [if_pos e, e.1, e.2.1, e.2.2, h]
    · rw [if_neg e]
theorem ok_tu {b : Bo} (ok : OkB b) (e : En) (v : Bool) : OkB (b.tu e v) := by
  intro q
  cases e with
  | make q0 =>
    have key : (b.tu (.make q0) v).m q = "white" ∨ (b.tu (.make q0) v).m q = "black" ∨ (b.tu (.make q0) v).m q = b.m q0 ∨ (b.tu (.make q0) v).m q = b.m q := by
      by_cases h : q = q0 <;> by_cases hv : v = true <;> by_cases hw : b.m q0 = "white" <;> simp [Bo.tu, h, hv, hw]
    rcases key with e | e | e | e <;> rw [e]
    · exact .inl rfl
    · exact .inr (.inr rfl)
    · exact ok q0
    · exact ok q
  | _ => exact ok q
theorem we_b {b : Bo} (ok : OkB b) {e : En} (he : e ∈ ENS) : WE b.d e (b.tu e true).d := by
  have hd := has_d b ok e he
  cases hv : b.has e with
  | true => exact .inl ⟨by rw [hd, hv], by rw [tu_same b e true hv]⟩
  | false =>
    rw [hv] at hd
    refine ens_cases (P := fun e => b.has e = false → hasE b.d e = some false → WE b.d e (b.tu e true).d) ?_ ?_ ?_ ?_ e he hv hd
    · intro _ hd; exact .inr ⟨hd, rfl⟩
    · intro q hq h hd
      have hm : b.m q = "white" := by simpa [Bo.has] using h
      refine .inr ⟨hd, ?_⟩
      rcases two q hq with rfl | rfl
      · show some _ = some (Bo.d _)
        simp [Bo.tu, Bo.d, hm]
      · show some _ = some (Bo.d _)
        simp [Bo.tu, Bo.d, hm]
    · intro p c hp hc _ hd
      refine .inr ⟨hd, ?_⟩
      rcases two p hp with rfl | rfl <;> rcases three c hc with rfl | rfl | rfl <;> rfl
    · intro p c w hp hc hw h hd
      have e1 : (fun z => if p = p ∧ c = c ∧ z = w then true else b.g p c z) = fun z => if z = w then true else b.g p c z := by funext z; simp
      refine .inr ⟨hd, gL (b.g p c), gL fun z => if p = p ∧ c = c ∧ z = w then true else b.g p c z, ?_, Nat.le_trans (gL_len _) (by decide), by rw [e1]; exact gL_put _ hw h, gL_sub _, ?_⟩
      · rcases two p hp with rfl | rfl <;> rcases three c hc with rfl | rfl | rfl <;> rfl
      · rcases two p hp with rfl | rfl <;> rcases three c hc with rfl | rfl | rfl <;> rfl
theorem wo_b {b : Bo} {e : En} (he : e ∈ ENS) : WO b.d e (b.tu e false).d := by
  refine ens_cases (P := fun e => WO b.d e (b.tu e false).d) ?_ ?_ ?_ ?_ e he
  · rfl
  · intro q hq
    rcases two q hq with rfl | rfl <;> rfl
  · intro p c hp hc
    rcases two p hp with rfl | rfl <;> rcases three c hc with rfl | rfl | rfl <;> rfl
  · intro p c w hp hc hw
    have e1 : (fun z => if p = p ∧ c = c ∧ z = w then false else b.g p c z) = fun z => if z = w then false else b.g p c z := by funext z; simp
    refine ⟨gL (b.g p c), ?_, Nat.le_trans (gL_len _) (by decide), ?_, gL_lay _ hw⟩
    · rcases two p hp with rfl | rfl <;> rcases three c hc with rfl | rfl | rfl <;> rfl
    · rw [gL_off, ← e1]
      rcases two p hp with rfl | rfl <;> rcases three c hc with rfl | rfl | rfl <;> rfl
theorem strs_step {w z : Str} {zs : List Str} {acc T : List PyData} (h : acc ++ ((z :: zs).filter fun x => !PyData.eqv (.str x) (.str w)).map .str = T) :
    (PyData.eqv (.str z) (.str w) = true → acc ++ (zs.filter fun x => !PyData.eqv (.str x) (.str w)).map .str = T) ∧ (PyData.eqv (.str z) (.str w) = false → (acc ++ [PyData.str z]) ++ (zs.filter fun x => !PyData.eqv (.str x) (.str w)).map .str = T) := by
  constructor
  · intro e
    rw [List.filter_cons, e] at h
    rw [← h]; simp
  · intro e
    rw [List.filter_cons, e] at h
    rw [← h]; simp
theorem ev11 : PyData.eqv (.str "last") (.str "last") = true := by decide +kernel
theorem ev12 : PyData.eqv (.str "make") (.str "last") = false := by decide +kernel
theorem ev13 : PyData.eqv (.str "read") (.str "last") = false := by decide +kernel
theorem ev14 : PyData.eqv (.str "write") (.str "last") = false := by decide +kernel
theorem ev15 : PyData.eqv (.str "write") (.str "make") = false := by decide +kernel
theorem ev16 : PyData.eqv (.str "write") (.str "read") = false := by decide +kernel
theorem m_eqok {z : Str} (h : z = "white" ∨ z = "grey" ∨ z = "black") : eqOk (.str z) (.str "white") = true := by
  rcases h with rfl | rfl | rfl <;> decide +kernel
theorem m_eq {z : Str} (h : PyData.eqv (.str z) (.str "white") = true) : z = "white" := by
  rw [eqv_s] at h; exact eq_of_beq h
theorem m_ne {z : Str} (h : PyData.eqv (.str z) (.str "white") = false) : ¬ z = "white" := by
  rw [eqv_s] at h; intro e; rw [e] at h; exact absurd h (by decide +kernel)
theorem gL_on (f : Str → Bool) {w : Str} (hw : WD3 w) : (gL fun z => if z = w then true else f z).Perm ((gL f).filter (fun z => !PyData.eqv (.str z) (.str w)) ++ [w]) := by
  rw [gL_off]
  have h := gL_put (fun z => if z = w then false else f z) hw (by simp)
  have e : (fun z => if z = w then true else (if z = w then false else f z)) = fun z => if z = w then true else f z := by
    funext z
    by_cases h : z = w <;> simp [h]
  rw [e] at h
  exact h
theorem fil_run {w : Str} {ss : List Str} {R : List PyData → Prop} {g : DTG} {tt : TTd} {te : TEd} {ρ : GB.En} {vs : List Nat}
    (hn : R ((ss.filter fun x => !PyData.eqv (.str x) (.str w)).map .str))
    (hc : ∀ z ∈ ss, ∀ (acc : List PyData) (K : List PyData → Prop), (PyData.eqv (.str z) (.str w) = true → K acc) → (PyData.eqv (.str z) (.str w) = false → K (acc ++ [.str z])) → g (.str z) ρ fun ρ2 => wipeD ρ2 vs = ρ ∧ tt ρ2 fun b ρ3 => ρ3 = ρ2 ∧ iteK b (te ρ2 fun s ρ4 => ρ4 = ρ2 ∧ oneK s fun y => K (acc ++ [y])) (K acc)) :
    dLcGo vs g tt te ρ R (ss.map .str) [] := by
  refine lcI (fun ds acc => ∃ zs : List Str, ds = zs.map .str ∧ (∀ z ∈ zs, z ∈ ss) ∧ acc ++ (zs.filter fun x => !PyData.eqv (.str x) (.str w)).map .str = (ss.filter fun x => !PyData.eqv (.str x) (.str w)).map .str) ?_ ?_ _ [] ⟨ss, rfl, fun _ h => h, rfl⟩
  · rintro acc ⟨zs, e, _, h5⟩
    cases zs with
    | nil =>
      have h5 : acc = (ss.filter fun x => !PyData.eqv (.str x) (.str w)).map .str := by rw [← h5]; simp
      subst h5
      exact hn
    | cons a r => cases e
  · rintro d ds acc K hK ⟨zs, e, h9, h5⟩
    cases zs with
    | nil => cases e
    | cons z zs =>
      cases e
      obtain ⟨k1, k2⟩ := strs_step h5
      exact hc z (h9 z (by simp)) acc K (fun a => hK _ ⟨zs, rfl, fun x hx => h9 x (by simp [hx]), k1 a⟩) fun a => hK _ ⟨zs, rfl, fun x hx => h9 x (by simp [hx]), k2 a⟩
theorem ens_or {e : En} (he : e ∈ ENS) : e = .last ∨ (∃ q, q < 2 ∧ e = .make q) ∨ (∃ p c, p < 2 ∧ c < 3 ∧ e = .read p c) ∨ ∃ p c w, p < 2 ∧ c < 3 ∧ WD3 w ∧ e = .write p c w :=
  ens_cases (P := fun e => e = .last ∨ (∃ q, q < 2 ∧ e = .make q) ∨ (∃ p c, p < 2 ∧ c < 3 ∧ e = .read p c) ∨ ∃ p c w, p < 2 ∧ c < 3 ∧ WD3 w ∧ e = .write p c w) (.inl rfl) (fun q hq => .inr (.inl ⟨q, hq, rfl⟩)) (fun p c hp hc => .inr (.inr (.inl ⟨p, c, hp, hc, rfl⟩))) (fun p c w hp hc hw => .inr (.inr (.inr ⟨p, c, w, hp, hc, hw, rfl⟩))) e he
/-! sizes -/
theorem gd_sm (f : Str → Bool) : Sm 1 40 (gdD f) := by
  unfold gdD
  rw [gL_bits]
  cases f "again" <;> cases f "new" <;> cases f "old" <;> exact sm_of (by decide +kernel)
theorem bl_sm (v : Bool) : Sm 0 12 (.bool v) := by cases v <;> exact sm_of (by decide +kernel)
theorem st_sm {z : Str} (h : z = "white" ∨ z = "grey" ∨ z = "black") : Sm 0 12 (.str z) := by rcases h with rfl | rfl | rfl <;> exact sm_of (by decide +kernel)
theorem t3_sm {D W : Nat} {x y z : PyData} (h1 : Sm D W x) (h2 : Sm D W y) (h3 : Sm D W z) : Sm (D + 1) (3 * (W + 1)) (.tuple [x, y, z]) :=
  sm_tup (fun u hu => by simp only [List.mem_cons, List.not_mem_nil, or_false] at hu; rcases hu with rfl | rfl | rfl <;> assumption) (by simp)
theorem t2_sm {D W : Nat} {x y : PyData} (h1 : Sm D W x) (h2 : Sm D W y) : Sm (D + 1) (2 * (W + 1)) (.tuple [x, y]) :=
  sm_tup (fun u hu => by simp only [List.mem_cons, List.not_mem_nil, or_false] at hu; rcases hu with rfl | rfl <;> assumption) (by simp)
theorem l2_sm {D W : Nat} {x y : PyData} (h1 : Sm D W x) (h2 : Sm D W y) : Sm (D + 1) (2 * (W + 1)) (.list [x, y]) :=
  sm_lst (fun u hu => by simp only [List.mem_cons, List.not_mem_nil, or_false] at hu; rcases hu with rfl | rfl <;> assumption) (by simp)
theorem bo_sm {b : Bo} (ok : OkB b) : Sm 5 2000 b.d := by
  have a : ∀ p, Sm 3 300 (.tuple [.tuple [gdD (b.g p 0), gdD (b.g p 1), gdD (b.g p 2)], .tuple [gdD (b.g p 0), gdD (b.g p 1), gdD (b.g p 2)]]) := fun p => (t2_sm (t3_sm (gd_sm _) (gd_sm _) (gd_sm _)) (t3_sm (gd_sm _) (gd_sm _) (gd_sm _))).mono (by decide) (by decide)
  have h1 : Sm 4 399 (.tuple [.tuple [gdD (b.g 0 0), gdD (b.g 0 1), gdD (b.g 0 2)], .tuple [gdD (b.g 1 0), gdD (b.g 1 1), gdD (b.g 1 2)]]) := (t2_sm (t3_sm (gd_sm _) (gd_sm _) (gd_sm _)) (t3_sm (gd_sm _) (gd_sm _) (gd_sm _))).mono (by decide) (by decide)
  have h2 : Sm 4 399 (.tuple [.tuple [.bool (b.r 0 0), .bool (b.r 0 1), .bool (b.r 0 2)], .tuple [.bool (b.r 1 0), .bool (b.r 1 1), .bool (b.r 1 2)]]) := (t2_sm (t3_sm (bl_sm _) (bl_sm _) (bl_sm _)) (t3_sm (bl_sm _) (bl_sm _) (bl_sm _))).mono (by decide) (by decide)
  have h3 : Sm 4 399 (.tuple [.str (b.m 0), .str (b.m 1)]) := (t2_sm (st_sm (ok 0)) (st_sm (ok 1))).mono (by decide) (by decide)
  have h4 : Sm 4 399 (.bool b.l) := (bl_sm _).mono (by decide) (by decide)
  have h5 : Sm 4 399 (.bool b.p) := (bl_sm _).mono (by decide) (by decide)
  exact (sm_tup (n := 5) (fun u hu => by simp only [List.mem_cons, List.not_mem_nil, or_false] at hu; rcases hu with rfl | rfl | rfl | rfl | rfl <;> assumption) (by simp)).mono (by decide) (by decide)
theorem en_sm {e : En} (he : e ∈ ENS) : Sm 1 60 e.d := sm_of (all_of' he)
where all_of' {e : En} (he : e ∈ ENS) : smB 1 60 e.d = true := List.all_eq_true.mp (show ENS.all (fun e => smB 1 60 e.d) = true by decide +kernel) e he
theorem ens_sm (P : En → Bool) : Sm 2 2000 (.tuple ((ENS.filter P).map En.d)) :=
  (sm_tup (n := 27) (fun u hu => by
    obtain ⟨e, h1, rfl⟩ := List.mem_map.mp hu
    exact en_sm (List.mem_filter.mp h1).1) (by rw [List.length_map]; exact List.length_filter_le _ _)).mono (by decide) (by decide)
/-! entries, turned -/
theorem tu_has (b : Bo) (e e' : En) (v : Bool) : (b.tu e v).has e' = if e' = e then v else b.has e' := by
  by_cases h : e' = e
  · subst h
    rw [if_pos rfl]
    cases e' with
    | make q =>
      simp only [Bo.tu, Bo.has, if_true]
      cases v with
      | false => simp
      | true =>
        by_cases hw : b.m q = "white"
        · simp only [hw, if_true]; decide +kernel
        · simp [hw]
    | _ => simp [Bo.tu, Bo.has]
  · rw [if_neg h]
    cases e <;> cases e' <;> simp_all [Bo.tu, Bo.has]
theorem ent_b {b : Bo} (ok : OkB b) : entD b.d = (ENS.filter b.has).map En.d := by
  unfold entD
  congr 1
  refine List.filter_congr fun e he => ?_
  rw [has_d b ok e he]
  cases b.has e <;> rfl
theorem ens_eq {e e' : En} (h : e ∈ ENS) (h' : e' ∈ ENS) : eqOk e.d e'.d = true ∧ PyData.eqv e.d e'.d = decide (e = e') := by
  have k := List.all_eq_true.mp (List.all_eq_true.mp (show ENS.all (fun e => ENS.all fun e' => eqOk e.d e'.d && (PyData.eqv e.d e'.d == decide (e = e'))) = true by decide +kernel) e h) e' h'
  simp only [Bool.and_eq_true, beq_iff_eq] at k
  exact k
theorem ent_run {P : En → Bool} {R : List PyData → Prop} {g : DTG} {tt : TTd} {te : TEd} {ρ : GB.En} {vs : List Nat}
    (hn : R ((ENS.filter P).map En.d))
    (hc : ∀ e ∈ ENS, ∀ (acc : List PyData) (K : List PyData → Prop), (P e = true → K (acc ++ [e.d])) → (P e = false → K acc) → g e.d ρ fun ρ2 => wipeD ρ2 vs = ρ ∧ tt ρ2 fun b ρ3 => ρ3 = ρ2 ∧ iteK b (te ρ2 fun s ρ4 => ρ4 = ρ2 ∧ oneK s fun y => K (acc ++ [y])) (K acc)) :
    dLcGo vs g tt te ρ R (ENS.map En.d) [] := by
  refine lcI (fun ds acc => ∃ es : List En, ds = es.map En.d ∧ (∀ z ∈ es, z ∈ ENS) ∧ acc ++ (es.filter P).map En.d = (ENS.filter P).map En.d) ?_ ?_ _ [] ⟨ENS, rfl, fun _ h => h, rfl⟩
  · rintro acc ⟨es, e, _, h5⟩
    cases es with
    | nil =>
      have h5 : acc = (ENS.filter P).map En.d := by rw [← h5]; simp
      subst h5
      exact hn
    | cons a r => cases e
  · rintro d ds acc K hK ⟨es, e, h9, h5⟩
    cases es with
    | nil => cases e
    | cons z zs =>
      cases e
      refine hc z (h9 z (by simp)) acc K (fun a => hK _ ⟨zs, rfl, fun x hx => h9 x (by simp [hx]), ?_⟩) fun a => hK _ ⟨zs, rfl, fun x hx => h9 x (by simp [hx]), ?_⟩
      · rw [← h5, List.filter_cons, a]; simp
      · rw [← h5, List.filter_cons, a]; simp
theorem eqv_self {z : Str} : PyData.eqv (.str z) (.str z) = true := by rw [eqv_s]; simp
theorem tu_tu (b : Bo) (e : En) (h : b.has e = false) : (b.tu e true).tu e false = b := by
  have e1 : (b.tu e true).tu e false = b.tu e false := by
    cases e with
    | last => rfl
    | make q =>
      simp only [Bo.tu, Bo.mk.injEq, true_and, and_true]
      funext q'
      by_cases h : q' = q <;> simp [h]
    | read p c =>
      simp only [Bo.tu, Bo.mk.injEq, true_and, and_true]
      funext a d
      by_cases h : a = p ∧ d = c <;> simp [h]
    | write p c w =>
      simp only [Bo.tu, Bo.mk.injEq, true_and, and_true]
      funext a d x
      by_cases h : a = p ∧ d = c ∧ x = w <;> simp [h]
  rw [e1, tu_same b e false h]
theorem isS {b : Bo} (ok : OkB b) : ∀ e ∈ ENS, (hasE b.d e).isSome = true := fun e he => by rw [has_d b ok e he]; rfl
/-- lists of guards -/
def GdL (xs : List PyData) : Prop := ∀ x ∈ xs, ∃ f, x = gdD f
theorem six {P : PyData → Prop} {xs : List PyData} (h : xs.length = 6) (hx : ∀ x ∈ xs, P x) : ∃ a b c d e f, xs = [a, b, c, d, e, f] ∧ P a ∧ P b ∧ P c ∧ P d ∧ P e ∧ P f := by
  match xs, h with
  | [a, b, c, d, e, f], _ => exact ⟨a, b, c, d, e, f, rfl, hx a (by simp), hx b (by simp), hx c (by simp), hx d (by simp), hx e (by simp), hx f (by simp)⟩
def pk {α : Type} (a b c d e f : α) (p q : Nat) : α := if p = 0 then (if q = 0 then a else if q = 1 then b else c) else (if q = 0 then d else if q = 1 then e else f)
theorem gd_abc (a n o : Bool) : ∃ f, gdD f = .tuple (((if a = true then ([("again" : Str)] : List Str) else []) ++ ((if n = true then ([("new" : Str)] : List Str) else []) ++ (if o = true then ([("old" : Str)] : List Str) else []))).map .str) := by
  refine ⟨fun z => if z = "again" then a else if z = "new" then n else o, ?_⟩
  unfold gdD
  rw [gL_bits]
  simp only [nan, noan, non', if_true, if_false]
theorem d_ext {b b' : Bo} (h : ∀ e ∈ ENS, b.has e = b'.has e) (h0 : b.m 0 = b'.m 0) (h1 : b.m 1 = b'.m 1) (hp : b.p = b'.p) : b.d = b'.d := by
  have g : ∀ p c, p < 2 → c < 3 → gdD (b.g p c) = gdD (b'.g p c) := fun p c hp hc => by
    have k : ∀ w, WD3 w → b.g p c w = b'.g p c w := fun w hw => by
      refine h (.write p c w) ?_
      rcases two p hp with rfl | rfl <;> rcases three c hc with rfl | rfl | rfl <;> rcases hw with rfl | rfl | rfl <;> simp [ENS]
    unfold gdD
    rw [gL_bits, gL_bits (b'.g p c), k "again" (.inl rfl), k "new" (.inr (.inl rfl)), k "old" (.inr (.inr rfl))]
  have r : ∀ p c, p < 2 → c < 3 → b.r p c = b'.r p c := fun p c hp hc => by
    refine h (.read p c) ?_
    rcases two p hp with rfl | rfl <;> rcases three c hc with rfl | rfl | rfl <;> simp [ENS]
  have l : b.l = b'.l := h .last (by simp [ENS])
  unfold Bo.d
  rw [g 0 0 (by decide) (by decide), g 0 1 (by decide) (by decide), g 0 2 (by decide) (by decide), g 1 0 (by decide) (by decide), g 1 1 (by decide) (by decide), g 1 2 (by decide) (by decide),
    r 0 0 (by decide) (by decide), r 0 1 (by decide) (by decide), r 0 2 (by decide) (by decide), r 1 0 (by decide) (by decide), r 1 1 (by decide) (by decide), r 1 2 (by decide) (by decide), l, h0, h1, hp]
def bare (p : Bool) : Bo := ⟨fun _ _ _ => false, fun _ _ => false, fun _ => "white", false, p⟩
theorem bare_has (p : Bool) (e : En) : (bare p).has e = false := by
  cases e with
  | make q => show (!(("white" : Str) == "white")) = false; decide +kernel
  | _ => rfl
theorem fx4 {b : Bo} {k : S → Prop} (h : k (.d (.bool b.p))) : fIx b.d (.int 4) k := ⟨4, rfl, .bool b.p, rfl, h⟩
theorem m_tu {b : Bo} (h : ∀ q, b.m q = "white" ∨ b.m q = "black") (e : En) : ∀ q, (b.tu e true).m q = "white" ∨ (b.tu e true).m q = "black" := by
  intro q
  cases e with
  | make q0 =>
    have key : (b.tu (.make q0) true).m q = "black" ∨ (b.tu (.make q0) true).m q = b.m q0 ∨ (b.tu (.make q0) true).m q = b.m q := by
      by_cases h : q = q0 <;> by_cases hw : b.m q0 = "white" <;> simp [Bo.tu, h, hw]
    rcases key with e | e | e <;> rw [e]
    · exact .inr rfl
    · exact h q0
    · exact h q
  | _ => exact h q
theorem tu_p (b : Bo) (e : En) (v : Bool) : (b.tu e v).p = b.p := by cases e <;> rfl
def bl (b : Bo) : Bo := { b with m := fun q => if b.m q = "white" then "white" else "black" }
theorem cut5a {a b c d e : PyData} : GB.cutD [a, b, c, d, e] none (some 2) = [a, b] := rfl
theorem cut5b {a b c d e : PyData} : GB.cutD [a, b, c, d, e] (some 3) none = [d, e] := rfl
end GK

namespace GK
open PySem PySem.Spec PyProof.Rows L2 GB
/-! the store of the laws on shields and programs -/
def F_l_deck : FnD := fun ss R => ∃ ns, ss = [.ob (.scr ns)] ∧ ns.length ≤ 63 ∧ R (.ob .jar)
def F_l_draw : FnD := fun ss R => ∃ m : Int, ss = [.ob .jar, .d (.int m)] ∧ m < 1073741824 ∧ ∀ r : Int, 0 ≤ r → (1 ≤ m → r < m) → R (.d (.int r))
def F_l_pick : FnD := fun ss R => ∃ xs : List PyData, ss = [.ob .jar, .d (.list xs)] ∧ xs ≠ [] ∧ xs.length < 1000 ∧ ∀ x ∈ xs, R (.d x)
def F_l_mixed : FnD := fun ss R => ∃ xs : List PyData, ss = [.ob .jar, .d (.list xs)] ∧ xs.length < 1000 ∧ (∀ x ∈ xs, x.canLay0 = true ∧ x.depth ≤ 20) ∧ ∀ ys : List PyData, ys.Perm xs → R (.d (.list ys))
/-! standings: a field is None or a cell below n -/
def Fld (n : Nat) (x : PyData) : Prop := x = .none ∨ ∃ i : Nat, x = .int i ∧ i < n
def Row (n k : Nat) (x : PyData) : Prop := ∃ xs : List PyData, x = .tuple xs ∧ xs.length ≤ k ∧ ∀ y ∈ xs, Fld n y
def Cells (n : Nat) (xs : List PyData) : Prop := ∀ x ∈ xs, ∃ i : Nat, x = .int i ∧ i < n
def F_l_heap : FnD := fun ss R => ∃ (n m : Nat) (us : List PyData), ss = [.ob .jar, .d (.int n), .d (.list us)] ∧ n ≤ 60 ∧ us.length ≤ 60 ∧ Cells m us ∧ ∀ rows : List PyData, rows.length = n → (∀ x ∈ rows, Row m 3 x) → R (.d (.tuple rows))
def F_l_rooms : FnD := fun ss R => ∃ (n m : Nat) (us : List PyData), ss = [.ob .jar, .d (.int n), .d (.list us)] ∧ n ≤ 60 ∧ us.length ≤ 60 ∧ Cells m us ∧ ∀ rows : List PyData, rows.length = n → (∀ x ∈ rows, Row m 4 x) → R (.d (.tuple rows))
def Mark (fs : List PyData) (mk : PyData) : Prop := mk = .str "white" ∨ mk = .str "black" ∨ (mk = .str "free" ∧ fs = []) ∨ ∃ j : Nat, mk = .int j ∧ j < fs.length
def Cel (n : Nat) (c : List PyData × PyData) : Prop := c.1.length ≤ 3 ∧ (∀ y ∈ c.1, Fld n y) ∧ Mark c.1 c.2
def stD (cs : List (List PyData × PyData)) (rm lk : List PyData) : PyData := .tuple [.tuple (cs.map fun c => .tuple c.1), .tuple (cs.map fun c => c.2), .tuple rm, .tuple lk]
def IsB (x : PyData) : Prop := ∃ b, x = .bool b
def F_l_any_standing : FnD := fun ss R => ∃ n k : Nat, ss = [.ob .jar, .d (.int n), .d (.int k)] ∧ n ≤ 60 ∧ k ≤ 60 ∧ ∀ cs rm lk, cs.length = n → (∀ c ∈ cs, Cel n c) → rm.length = k → (∀ x ∈ rm, Row n 4 x) → lk.length = k → (∀ x ∈ lk, IsB x) → R (.d (stD cs rm lk))
/-! chains: what is wrong with a value -/
def cellB (n : Int) : PyData → Bool
  | .int i => decide (0 ≤ i) && decide (i < n)
  | _ => false
def cI : PyData → Nat
  | .int i => i.toNat
  | _ => 0
def mkAt (cs : List (List PyData × PyData)) (i : Nat) : PyData := ((cs[i]?).map (·.2)).getD .none
def fsAt (cs : List (List PyData × PyData)) (i : Nat) : List PyData := ((cs[i]?).map (·.1)).getD []
def greyB : PyData → Bool
  | .int _ => true
  | _ => false
def toGo (fs : List PyData) : PyData → List PyData
  | .int j => GB.cutD fs (some j) none
  | _ => []
def aheadL (cs : List (List PyData × PyData)) (i : Nat) : List PyData := toGo (fsAt cs i) (mkAt cs i)
def mkF (cs : List (List PyData × PyData)) : Int → List Nat → Option Int
  | _, [] => none
  | k, i :: r => if (if k = 0 then greyB (mkAt cs i) else PyData.eqv (mkAt cs i) (.str "white")) = true then mkF cs (k + 1) r else some k
def fdF (cs : List (List PyData × PyData)) : Int → List PyData → List Nat → Option Int
  | _, _, [] => none
  | k, lead, i :: r => if (lead.any fun z => PyData.eqv z (.int i)) = true then fdF cs (k + 1) (fsAt cs i) r else some k
def fEnd (cs : List (List PyData × PyData)) (c : Int) (is : List Nat) : PyData := match fdF cs 1 (aheadL cs (is.headD 0)) is.tail with
  | some k => .tuple [.str "field", .int k]
  | none => if ((is.getLastD 0 : Nat) : Int) = c then .none else .str "end"
def fTail (cs : List (List PyData × PyData)) (c : Int) (is : List Nat) : PyData := match mkF cs 0 is with
  | some k => .tuple [.str "mark", .int k]
  | none => fEnd cs c is
def faultD (cs : List (List PyData × PyData)) (c : Int) : PyData → PyData
  | .tuple vs => if vs.length < 2 ∨ vs.all (cellB cs.length) = false then .str "form" else fTail cs c (vs.map cI)
  | _ => .str "form"
theorem fault_t {cs : List (List PyData × PyData)} {c : Int} {vs : List PyData} : faultD cs c (.tuple vs) = if vs.length < 2 ∨ vs.all (cellB cs.length) = false then .str "form" else fTail cs c (vs.map cI) := rfl
theorem fTail_some {cs : List (List PyData × PyData)} {c k : Int} {is : List Nat} (h : mkF cs 0 is = some k) : fTail cs c is = .tuple [.str "mark", .int k] := by unfold fTail; rw [h]
theorem fTail_none {cs : List (List PyData × PyData)} {c : Int} {is : List Nat} (h : mkF cs 0 is = none) : fTail cs c is = fEnd cs c is := by unfold fTail; rw [h]
theorem fEnd_some {cs : List (List PyData × PyData)} {c k : Int} {is : List Nat} (h : fdF cs 1 (aheadL cs (is.headD 0)) is.tail = some k) : fEnd cs c is = .tuple [.str "field", .int k] := by unfold fEnd; rw [h]
theorem fEnd_none {cs : List (List PyData × PyData)} {c : Int} {is : List Nat} (h : fdF cs 1 (aheadL cs (is.headD 0)) is.tail = none) : fEnd cs c is = if ((is.getLastD 0 : Nat) : Int) = c then .none else .str "end" := by unfold fEnd; rw [h]
def StOk (cs : List (List PyData × PyData)) : Prop := cs.length ≤ 60 ∧ ∀ c ∈ cs, Cel cs.length c
def F_is_integer : FnD := fun ss R => ∃ x, ss = [.d x] ∧ R (.d (.bool (kInt x)))
def F_is_number_below : FnD := fun ss R => ∃ x n, ss = [.d x, .d (.int n)] ∧ R (.d (.bool (cellB n x)))
def F_p_is_grey : FnD := fun ss R => ∃ x, ss = [.d x] ∧ R (.d (.bool (isK "int" x)))
def F_p_still_to_go : FnD := fun ss R => ∃ fs mk, ss = [.d (.tuple fs), .d mk] ∧ Mark fs mk ∧ R (.d (.tuple (toGo fs mk)))
def F_chain_error : FnD := fun ss R => ∃ cs rm lk c v, ss = [.d (stD cs rm lk), .d (.int c), .d v] ∧ StOk cs ∧ (∀ vs, v = .tuple vs → vs.length ≤ 1000) ∧ R (.d (faultD cs c v))
def F_l_is_cell : FnD := fun ss R => ∃ cs rm lk x, ss = [.d (stD cs rm lk), .d x] ∧ R (.d (.bool (cellB cs.length x)))
def F_l_ahead : FnD := fun ss R => ∃ cs rm lk, ∃ i : Nat, ss = [.d (stD cs rm lk), .d (.int i)] ∧ StOk cs ∧ i < cs.length ∧ R (.d (.tuple (aheadL cs i)))
def F_l_fault : FnD := fun ss R => ∃ cs rm lk c v, ss = [.d (stD cs rm lk), .d (.int c), .d v] ∧ StOk cs ∧ (∀ vs, v = .tuple vs → vs.length ≤ 1000) ∧ R (.d (faultD cs c v))
end GK

namespace GK
open PySem PySem.Spec PyProof.Rows L2 GB
/-! what is white, seen, held -/
def whB (cs : List (List PyData × PyData)) (i : Nat) : Bool := PyData.eqv (mkAt cs i) (.str "white")
def memB (row : List PyData) (i : Nat) : Bool := row.any fun z => PyData.eqv z (.int i)
def whN (cs : List (List PyData × PyData)) (row : List PyData) : List Nat := (List.range cs.length).filter fun i => memB row i && whB cs i
def whD (cs : List (List PyData × PyData)) (row : List PyData) : List PyData := (whN cs row).map fun i : Nat => .int (i : Int)
def goneF (fs : List PyData) : PyData → List PyData
  | .str z => if z == "black" then fs else []
  | .int j => GB.cutD fs none (some j)
  | _ => []
def goneL (cs : List (List PyData × PyData)) (i : Nat) : List PyData := goneF (fsAt cs i) (mkAt cs i)
def iOf : PyData → Nat
  | .int i => i.toNat
  | _ => 0
def goneC (c : List PyData × PyData) : List PyData := goneF c.1 c.2
def seenL (cs : List (List PyData × PyData)) : List PyData := cs.flatMap goneC
def rowL : PyData → List PyData
  | .tuple xs => xs
  | _ => []
def onB : PyData → Bool
  | .bool b => b
  | _ => false
def heldP (p : PyData × PyData) : List PyData := if onB p.2 = true then rowL p.1 else []
def heldL (rm lk : List PyData) : List PyData := (rm.zip lk).flatMap heldP
def RmOk (n : Nat) (rm lk : List PyData) : Prop := rm.length ≤ 60 ∧ lk.length = rm.length ∧ (∀ x ∈ rm, Row n 4 x) ∧ ∀ x ∈ lk, IsB x
def F_p_gone_through : FnD := fun ss R => ∃ fs mk, ss = [.d (.tuple fs), .d mk] ∧ Mark fs mk ∧ R (.d (.tuple (goneF fs mk)))
def F_p_white_ones : FnD := fun ss R => ∃ cs row z, ss = [.d (.tuple (cs.map fun c => c.2)), .d z] ∧ (z = .list row ∨ z = .tuple row) ∧ StOk cs ∧ row.length ≤ 100000 ∧ (∀ x ∈ row, Fld cs.length x) ∧ R (.d (.tuple (whD cs row)))
def F_seen_white : FnD := fun ss R => ∃ cs rm lk, ss = [.d (stD cs rm lk)] ∧ StOk cs ∧ R (.d (.tuple (whD cs (seenL cs))))
def F_held_white : FnD := fun ss R => ∃ cs rm lk, ss = [.d (stD cs rm lk)] ∧ StOk cs ∧ RmOk cs.length rm lk ∧ R (.d (.tuple (whD cs (heldL rm lk))))
def F_l_whites : FnD := fun ss R => ∃ cs rm lk row, ss = [.d (stD cs rm lk), .d (.list row)] ∧ StOk cs ∧ row.length ≤ 100000 ∧ (∀ x ∈ row, Fld cs.length x) ∧ R (.d (.list (whD cs row)))
def F_l_gone : FnD := fun ss R => ∃ cs rm lk, ∃ i : Nat, ss = [.d (stD cs rm lk), .d (.int i)] ∧ StOk cs ∧ i < cs.length ∧ R (.d (.tuple (goneL cs i)))
def F_l_seen : FnD := fun ss R => ∃ cs rm lk, ss = [.d (stD cs rm lk)] ∧ StOk cs ∧ R (.d (.list (whD cs (seenL cs))))
def F_l_held : FnD := fun ss R => ∃ cs rm lk, ss = [.d (stD cs rm lk)] ∧ StOk cs ∧ RmOk cs.length rm lk ∧ R (.d (.list (whD cs (heldL rm lk))))
end GK

set_option maxRecDepth 20000
namespace GK
open PySem PySem.Spec PyProof.Rows L2 GB
structure Vz (D W : Nat) (x : PyData) : Prop where
  sh : x.showable = true
  ls : x.leavesShort 60 = true
  dp : x.depth ≤ D
  bk : x.bulk ≤ W
def bndL : PyData → List Int
  | .str z => if z = "drop" then [3] else if z = "copy" then [3, 3] else if z = "make" then [3, 3] else if z = "read" then [3, 2, 3] else if z = "write" then [3, 2, 3] else []
  | _ => []
def bndD (w : PyData) : PyData := .tuple ((bndL w).map .int)
def inB (m : Int) : PyData → Bool
  | .int i => decide (0 ≤ i) && decide (i ≤ m)
  | _ => false
def ownOk (w : PyData) (k : Nat) (m : Int) (x : PyData) : Bool := (GB.isNon x && PyData.eqv w (.str "write") && decide (k = 2)) || inB m x
def restOk (w : PyData) : Nat → List Int → List PyData → Bool
  | _, [], [] => true
  | k, m :: ms, x :: xs => ownOk w k m x && restOk w (k + 1) ms xs
  | _, _, _ => false
def lineOk : PyData → Bool
  | .tuple (w :: r) => !(bndL w).isEmpty && restOk w 0 (bndL w) r
  | _ => false
def lnF : Int → List PyData → PyData
  | _, [] => .none
  | k, x :: xs => if lineOk x = true then lnF (k + 1) xs else .tuple [.str "line", .int k]
def pgF : PyData → PyData
  | .tuple xs => if xs.length ≤ 6 then lnF 0 xs else .str "form"
  | _ => .str "form"
def apF : Int → List PyData → PyData
  | _, [] => .none
  | k, x :: xs => if GB.isNon (pgF x) = true then apF (k + 1) xs else .tuple [.str "program", .int k, pgF x]
def alF (n : Nat) : PyData → PyData
  | .tuple xs => if xs.length = n then apF 0 xs else .str "form"
  | _ => .str "form"
def kindB (x : PyData) (z : Str) : Bool := if z = "many" then cellB 4 x else if z = "field" then cellB 3 x else cellB 4 x || (GB.isNon x && decide (z = "room or nothing"))
def tupB (l m : Int) : PyData → Bool
  | .tuple xs => decide (l ≤ xs.length) && decide ((xs.length : Int) ≤ m)
  | _ => false
def F_l_begin : FnD := fun ss R => ∃ n k m : Nat, ss = [.ob .jar, .d (.int n), .d (.int k), .d (.int m)] ∧ n ≤ 30 ∧ k ≤ 30 ∧ m ≤ 30 ∧ ∀ cs rm lk, cs.length = n + m → StOk cs → RmOk (n + m) rm lk → rm.length = k → R (.d (stD cs rm lk))
def F_l_odd : FnD := fun ss R => ss = [.ob .jar] ∧ ∀ x, Vz 3 10 x → R (.d x)
def F_l_bent_line : FnD := fun ss R => ∃ x D W, ss = [.ob .jar, .d x] ∧ Vz D W x ∧ 2 ≤ D ∧ D ≤ 20 ∧ W ≤ 5000 ∧ ∀ y, Vz (D + 2) (4 * W + 40) y → R (.d y)
def F_l_bent : FnD := fun ss R => ∃ xs D W, ss = [.ob .jar, .d (.tuple xs)] ∧ Vz D W (.tuple xs) ∧ 2 ≤ D ∧ D ≤ 20 ∧ W ≤ 5000 ∧ ∀ y, Vz (D + 3) (7 * W + 100) y → R (.d y)
def F_is_tuple_of : FnD := fun ss R => ∃ x l m, ss = [.d x, .d (.int l), .d (.int m)] ∧ R (.d (.bool (tupB l m x)))
def F_p_is_of_kind : FnD := fun ss R => ∃ x z, ss = [.d x, .d (.str z)] ∧ R (.d (.bool (kindB x z)))
def F_p_is_line : FnD := fun ss R => ∃ x, ss = [.d x] ∧ R (.d (.bool (lineOk x)))
def F_program_error : FnD := fun ss R => ∃ x, ss = [.d x] ∧ R (.d (pgF x))
def F_programs_error : FnD := fun ss R => ∃ cs rm lk x, ss = [.d (stD cs rm lk), .d x] ∧ R (.d (alF rm.length x))
def F_l_bounds : FnD := fun ss R => ∃ w, ss = [.d w] ∧ R (.d (bndD w))
def F_l_is_line : FnD := fun ss R => ∃ x, ss = [.d x] ∧ R (.d (.bool (lineOk x)))
def F_l_faultP : FnD := fun ss R => ∃ x, ss = [.d x] ∧ R (.d (pgF x))
def F_l_fault_of_all : FnD := fun ss R => ∃ (n : Nat) (x : PyData), ss = [.d (.int n), .d x] ∧ R (.d (alF n x))
def F_l_line : FnD := fun ss R => ss = [.ob .jar] ∧ ∀ x, Vz 2 10 x → R (.d x)
def F_l_program : FnD := fun ss R => ss = [.ob .jar] ∧ ∀ xs : List PyData, xs.length ≤ 6 → (∀ x ∈ xs, Vz 2 10 x) → R (.d (.tuple xs))
def F_l_is_told : FnD := fun ss R => ∃ cs rm lk one every b D W, ss = [.d (stD cs rm lk), .d one, .d every, .d (.bool b)] ∧ StOk cs ∧ RmOk cs.length rm lk ∧ Vz D W one ∧ Vz D W every ∧ D ≤ 40 ∧ W ≤ 20000 ∧ R (.d (.bool true))
def F_law : FnD := fun ss R => ∃ ns, ss = [.ob (.scr ns)] ∧ ns.length ≤ 63 ∧ R (.d (.bool true))
theorem go_law (ns : List Int) (h : ns.length ≤ 63) : F_law [.ob (.scr ns)] fun s => s = .d (.bool true) := ⟨ns, rfl, h, rfl⟩
end GK

set_option maxRecDepth 100000
namespace GK
open PySem PySem.Spec PyProof.Rows L2 GB
/-! the text -/
def topS (i : Nat) : Stmt := PySem.Challenge.pw_guardbooks_k63_what_programs_are.main.body.getD i (.Pass ⟨0, 0, 0, 0⟩)
abbrev st_l_deck : Stmt := topS 14
abbrev nm_l_deck : List Str := ["script", "deck", "cell", "sum_of"]
theorem sc_l_deck : FnScope nm_l_deck ["script"] (defScope st_l_deck) := ⟨rfl, rfl, rfl, by decide +kernel, rfl, by decide +kernel, by decide +kernel⟩
abbrev st_l_draw : Stmt := topS 15
abbrev nm_l_draw : List Str := ["deck", "many", "sum_of", "number"]
theorem sc_l_draw : FnScope nm_l_draw ["deck", "many"] (defScope st_l_draw) := ⟨rfl, rfl, rfl, by decide +kernel, rfl, by decide +kernel, by decide +kernel⟩
abbrev st_l_pick : Stmt := topS 16
abbrev nm_l_pick : List Str := ["deck", "items"]
theorem sc_l_pick : FnScope nm_l_pick ["deck", "items"] (defScope st_l_pick) := ⟨rfl, rfl, rfl, by decide +kernel, rfl, by decide +kernel, by decide +kernel⟩
abbrev st_l_heap : Stmt := topS 17
abbrev nm_l_heap : List Str := ["deck", "cells", "target", "heap", "cell", "fields", "field"]
theorem sc_l_heap : FnScope nm_l_heap ["deck", "cells", "target"] (defScope st_l_heap) := ⟨rfl, rfl, rfl, by decide +kernel, rfl, by decide +kernel, by decide +kernel⟩
abbrev st_l_rooms : Stmt := topS 18
abbrev nm_l_rooms : List Str := ["deck", "many", "target", "found", "hand", "room"]
theorem sc_l_rooms : FnScope nm_l_rooms ["deck", "many", "target"] (defScope st_l_rooms) := ⟨rfl, rfl, rfl, by decide +kernel, rfl, by decide +kernel, by decide +kernel⟩
abbrev st_l_begin : Stmt := topS 19
abbrev nm_l_begin : List Str := ["deck", "cells", "many", "more", "heap", "marks"]
theorem sc_l_begin : FnScope nm_l_begin ["deck", "cells", "many", "more"] (defScope st_l_begin) := ⟨rfl, rfl, rfl, by decide +kernel, rfl, by decide +kernel, by decide +kernel⟩
abbrev st_l_odd : Stmt := topS 20
abbrev nm_l_odd : List Str := ["deck", "odd"]
theorem sc_l_odd : FnScope nm_l_odd ["deck"] (defScope st_l_odd) := ⟨rfl, rfl, rfl, by decide +kernel, rfl, by decide +kernel, by decide +kernel⟩
abbrev st_l_bent_line : Stmt := topS 27
abbrev nm_l_bent_line : List Str := ["deck", "line", "spot", "way", "own"]
theorem sc_l_bent_line : FnScope nm_l_bent_line ["deck", "line"] (defScope st_l_bent_line) := ⟨rfl, rfl, rfl, by decide +kernel, rfl, by decide +kernel, by decide +kernel⟩
abbrev st_l_bent : Stmt := topS 28
abbrev nm_l_bent : List Str := ["deck", "value", "spot"]
theorem sc_l_bent : FnScope nm_l_bent ["deck", "value"] (defScope st_l_bent) := ⟨rfl, rfl, rfl, by decide +kernel, rfl, by decide +kernel, by decide +kernel⟩
abbrev st_is_tuple_of : Stmt := topS 6
abbrev nm_is_tuple_of : List Str := ["value", "least", "most"]
theorem sc_is_tuple_of : FnScope nm_is_tuple_of ["value", "least", "most"] (defScope st_is_tuple_of) := ⟨rfl, rfl, rfl, by decide +kernel, rfl, by decide +kernel, by decide +kernel⟩
abbrev st_is_integer : Stmt := topS 4
abbrev nm_is_integer : List Str := ["value"]
theorem sc_is_integer : FnScope nm_is_integer ["value"] (defScope st_is_integer) := ⟨rfl, rfl, rfl, by decide +kernel, rfl, by decide +kernel, by decide +kernel⟩
abbrev st_is_number_below : Stmt := topS 5
abbrev nm_is_number_below : List Str := ["value", "many"]
theorem sc_is_number_below : FnScope nm_is_number_below ["value", "many"] (defScope st_is_number_below) := ⟨rfl, rfl, rfl, by decide +kernel, rfl, by decide +kernel, by decide +kernel⟩
abbrev st_p_is_of_kind : Stmt := topS 12
abbrev nm_p_is_of_kind : List Str := ["value", "kind"]
theorem sc_p_is_of_kind : FnScope nm_p_is_of_kind ["value", "kind"] (defScope st_p_is_of_kind) := ⟨rfl, rfl, rfl, by decide +kernel, rfl, by decide +kernel, by decide +kernel⟩
abbrev st_p_is_line : Stmt := topS 11
abbrev nm_p_is_line : List Str := ["value", "kinds", "number", "kind"]
theorem sc_p_is_line : FnScope nm_p_is_line ["value"] (defScope st_p_is_line) := ⟨rfl, rfl, rfl, by decide +kernel, rfl, by decide +kernel, by decide +kernel⟩
abbrev st_program_error : Stmt := topS 9
abbrev nm_program_error : List Str := ["value", "place", "item"]
theorem sc_program_error : FnScope nm_program_error ["value"] (defScope st_program_error) := ⟨rfl, rfl, rfl, by decide +kernel, rfl, by decide +kernel, by decide +kernel⟩
abbrev st_programs_error : Stmt := topS 10
abbrev nm_programs_error : List Str := ["standing", "value", "many", "hand", "program", "error"]
theorem sc_programs_error : FnScope nm_programs_error ["standing", "value"] (defScope st_programs_error) := ⟨rfl, rfl, rfl, by decide +kernel, rfl, by decide +kernel, by decide +kernel⟩
abbrev st_l_bounds : Stmt := topS 21
abbrev nm_l_bounds : List Str := ["word", "menu"]
theorem sc_l_bounds : FnScope nm_l_bounds ["word"] (defScope st_l_bounds) := ⟨rfl, rfl, rfl, by decide +kernel, rfl, by decide +kernel, by decide +kernel⟩
abbrev st_l_is_line : Stmt := topS 22
abbrev nm_l_is_line : List Str := ["value", "most", "nth", "own"]
theorem sc_l_is_line : FnScope nm_l_is_line ["value"] (defScope st_l_is_line) := ⟨rfl, rfl, rfl, by decide +kernel, rfl, by decide +kernel, by decide +kernel⟩
abbrev st_l_fault : Stmt := topS 23
abbrev nm_l_fault : List Str := ["value", "k", "own"]
theorem sc_l_fault : FnScope nm_l_fault ["value"] (defScope st_l_fault) := ⟨rfl, rfl, rfl, by decide +kernel, rfl, by decide +kernel, by decide +kernel⟩
abbrev st_l_fault_of_all : Stmt := topS 24
abbrev nm_l_fault_of_all : List Str := ["many", "value", "h", "own"]
theorem sc_l_fault_of_all : FnScope nm_l_fault_of_all ["many", "value"] (defScope st_l_fault_of_all) := ⟨rfl, rfl, rfl, by decide +kernel, rfl, by decide +kernel, by decide +kernel⟩
abbrev st_l_is_told : Stmt := topS 29
abbrev nm_l_is_told : List Str := ["standing", "one", "every", "is_named", "known", "due", "told"]
theorem sc_l_is_told : FnScope nm_l_is_told ["standing", "one", "every", "is_named"] (defScope st_l_is_told) := ⟨rfl, rfl, rfl, by decide +kernel, rfl, by decide +kernel, by decide +kernel⟩
abbrev st_l_line : Stmt := topS 25
abbrev nm_l_line : List Str := ["deck", "word", "found", "most"]
theorem sc_l_line : FnScope nm_l_line ["deck"] (defScope st_l_line) := ⟨rfl, rfl, rfl, by decide +kernel, rfl, by decide +kernel, by decide +kernel⟩
abbrev st_l_program : Stmt := topS 26
abbrev nm_l_program : List Str := ["deck", "turn"]
theorem sc_l_program : FnScope nm_l_program ["deck"] (defScope st_l_program) := ⟨rfl, rfl, rfl, by decide +kernel, rfl, by decide +kernel, by decide +kernel⟩
abbrev st_law : Stmt := topS 30
abbrev nm_law : List Str := ["script", "deck", "turn", "many", "standing", "every", "one", "twice", "spot", "others", "nth", "value", "hand"]
theorem sc_law : FnScope nm_law ["script"] (defScope st_law) := ⟨rfl, rfl, rfl, by decide +kernel, rfl, by decide +kernel, by decide +kernel⟩
abbrev c_LINES : List (Str × PyData) := [("drop", .tuple [.str "room"]), ("copy", .tuple [.str "room", .str "room"]), ("make", .tuple [.str "room", .str "many"]), ("read", .tuple [.str "room", .str "field", .str "room"]), ("write", .tuple [.str "room", .str "field", .str "room or nothing"])]
abbrev c_MAX_FIELDS : PyData := .int 3
abbrev c_MAX_PROGRAM : PyData := .int 6
abbrev c_MAX_ROOMS : PyData := .int 4
/-! what the top has written -/
structure Tx (K : PySem.W.Frag) (w : World) (mg : Str → Option Value) where
  a_l_deck : Addr
  d_l_deck : FuncData
  F_l_deck : Fun K "_law_deck" "_law_deck" st_l_deck a_l_deck d_l_deck
  m_l_deck : mg "_law_deck" = some (.ref a_l_deck)
  B_l_deck : Binds K d_l_deck ["script"] []
  a_l_draw : Addr
  d_l_draw : FuncData
  F_l_draw : Fun K "_law_draw" "_law_draw" st_l_draw a_l_draw d_l_draw
  m_l_draw : mg "_law_draw" = some (.ref a_l_draw)
  B_l_draw : Binds K d_l_draw ["deck", "many"] []
  a_l_pick : Addr
  d_l_pick : FuncData
  F_l_pick : Fun K "_law_pick" "_law_pick" st_l_pick a_l_pick d_l_pick
  m_l_pick : mg "_law_pick" = some (.ref a_l_pick)
  B_l_pick : Binds K d_l_pick ["deck", "items"] []
  a_l_heap : Addr
  d_l_heap : FuncData
  F_l_heap : Fun K "_law_heap" "_law_heap" st_l_heap a_l_heap d_l_heap
  m_l_heap : mg "_law_heap" = some (.ref a_l_heap)
  B_l_heap : Binds K d_l_heap ["deck", "cells", "target"] []
  a_l_rooms : Addr
  d_l_rooms : FuncData
  F_l_rooms : Fun K "_law_rooms" "_law_rooms" st_l_rooms a_l_rooms d_l_rooms
  m_l_rooms : mg "_law_rooms" = some (.ref a_l_rooms)
  B_l_rooms : Binds K d_l_rooms ["deck", "many", "target"] []
  a_l_begin : Addr
  d_l_begin : FuncData
  F_l_begin : Fun K "_law_begin" "_law_begin" st_l_begin a_l_begin d_l_begin
  m_l_begin : mg "_law_begin" = some (.ref a_l_begin)
  B_l_begin : Binds K d_l_begin ["deck", "cells", "many", "more"] []
  a_l_odd : Addr
  d_l_odd : FuncData
  F_l_odd : Fun K "_law_odd" "_law_odd" st_l_odd a_l_odd d_l_odd
  m_l_odd : mg "_law_odd" = some (.ref a_l_odd)
  B_l_odd : Binds K d_l_odd ["deck"] []
  a_l_bent_line : Addr
  d_l_bent_line : FuncData
  F_l_bent_line : Fun K "_law_bent_line" "_law_bent_line" st_l_bent_line a_l_bent_line d_l_bent_line
  m_l_bent_line : mg "_law_bent_line" = some (.ref a_l_bent_line)
  B_l_bent_line : Binds K d_l_bent_line ["deck", "line"] []
  a_l_bent : Addr
  d_l_bent : FuncData
  F_l_bent : Fun K "_law_bent" "_law_bent" st_l_bent a_l_bent d_l_bent
  m_l_bent : mg "_law_bent" = some (.ref a_l_bent)
  B_l_bent : Binds K d_l_bent ["deck", "value"] []
  a_is_tuple_of : Addr
  d_is_tuple_of : FuncData
  F_is_tuple_of : Fun K "is_tuple_of" "is_tuple_of" st_is_tuple_of a_is_tuple_of d_is_tuple_of
  m_is_tuple_of : mg "is_tuple_of" = some (.ref a_is_tuple_of)
  B_is_tuple_of : Binds K d_is_tuple_of ["value", "least", "most"] []
  a_is_integer : Addr
  d_is_integer : FuncData
  F_is_integer : Fun K "is_integer" "is_integer" st_is_integer a_is_integer d_is_integer
  m_is_integer : mg "is_integer" = some (.ref a_is_integer)
  B_is_integer : Binds K d_is_integer ["value"] []
  a_is_number_below : Addr
  d_is_number_below : FuncData
  F_is_number_below : Fun K "is_number_below" "is_number_below" st_is_number_below a_is_number_below d_is_number_below
  m_is_number_below : mg "is_number_below" = some (.ref a_is_number_below)
  B_is_number_below : Binds K d_is_number_below ["value", "many"] []
  a_p_is_of_kind : Addr
  d_p_is_of_kind : FuncData
  F_p_is_of_kind : Fun K "_is_of_kind" "_is_of_kind" st_p_is_of_kind a_p_is_of_kind d_p_is_of_kind
  m_p_is_of_kind : mg "_is_of_kind" = some (.ref a_p_is_of_kind)
  B_p_is_of_kind : Binds K d_p_is_of_kind ["value", "kind"] []
  a_p_is_line : Addr
  d_p_is_line : FuncData
  F_p_is_line : Fun K "_is_line" "_is_line" st_p_is_line a_p_is_line d_p_is_line
  m_p_is_line : mg "_is_line" = some (.ref a_p_is_line)
  B_p_is_line : Binds K d_p_is_line ["value"] []
  a_program_error : Addr
  d_program_error : FuncData
  F_program_error : Fun K "program_error" "program_error" st_program_error a_program_error d_program_error
  m_program_error : mg "program_error" = some (.ref a_program_error)
  B_program_error : Binds K d_program_error ["value"] []
  a_programs_error : Addr
  d_programs_error : FuncData
  F_programs_error : Fun K "programs_error" "programs_error" st_programs_error a_programs_error d_programs_error
  m_programs_error : mg "programs_error" = some (.ref a_programs_error)
  B_programs_error : Binds K d_programs_error ["standing", "value"] []
  a_l_bounds : Addr
  d_l_bounds : FuncData
  F_l_bounds : Fun K "_law_bounds" "_law_bounds" st_l_bounds a_l_bounds d_l_bounds
  m_l_bounds : mg "_law_bounds" = some (.ref a_l_bounds)
  B_l_bounds : Binds K d_l_bounds ["word"] []
  a_l_is_line : Addr
  d_l_is_line : FuncData
  F_l_is_line : Fun K "_law_is_line" "_law_is_line" st_l_is_line a_l_is_line d_l_is_line
  m_l_is_line : mg "_law_is_line" = some (.ref a_l_is_line)
  B_l_is_line : Binds K d_l_is_line ["value"] []
  a_l_fault : Addr
  d_l_fault : FuncData
  F_l_faultP : Fun K "_law_fault" "_law_fault" st_l_fault a_l_fault d_l_fault
  m_l_fault : mg "_law_fault" = some (.ref a_l_fault)
  B_l_fault : Binds K d_l_fault ["value"] []
  a_l_fault_of_all : Addr
  d_l_fault_of_all : FuncData
  F_l_fault_of_all : Fun K "_law_fault_of_all" "_law_fault_of_all" st_l_fault_of_all a_l_fault_of_all d_l_fault_of_all
  m_l_fault_of_all : mg "_law_fault_of_all" = some (.ref a_l_fault_of_all)
  B_l_fault_of_all : Binds K d_l_fault_of_all ["many", "value"] []
  a_l_is_told : Addr
  d_l_is_told : FuncData
  F_l_is_told : Fun K "_law_is_told" "_law_is_told" st_l_is_told a_l_is_told d_l_is_told
  m_l_is_told : mg "_law_is_told" = some (.ref a_l_is_told)
  B_l_is_told : Binds K d_l_is_told ["standing", "one", "every", "is_named"] []
  a_l_line : Addr
  d_l_line : FuncData
  F_l_line : Fun K "_law_line" "_law_line" st_l_line a_l_line d_l_line
  m_l_line : mg "_law_line" = some (.ref a_l_line)
  B_l_line : Binds K d_l_line ["deck"] []
  a_l_program : Addr
  d_l_program : FuncData
  F_l_program : Fun K "_law_program" "_law_program" st_l_program a_l_program d_l_program
  m_l_program : mg "_law_program" = some (.ref a_l_program)
  B_l_program : Binds K d_l_program ["deck"] []
  a_law : Addr
  d_law : FuncData
  F_law : Fun K "law" "law" st_law a_law d_law
  m_law : mg "law" = some (.ref a_law)
  B_law : Binds K d_law ["script"] []
  P_program_error_0 : Perm K d_program_error ["value"] ["value"] (pick [0]) (pick [0]) (pick [0])
  P_programs_error_1_0 : Perm K d_programs_error ["standing", "value"] ["value", "standing"] (pick [1, 0]) (pick [1, 0]) (pick [1, 0])
  q_LINES : Addr
  m_LINES : mg "LINES" = some (.ref q_LINES)
  x_LINES : DctG K w q_LINES c_LINES
  u_MAX_FIELDS : Value
  r_MAX_FIELDS : RelV (.int 3) u_MAX_FIELDS
  m_MAX_FIELDS : mg "MAX_FIELDS" = some u_MAX_FIELDS
  u_MAX_PROGRAM : Value
  r_MAX_PROGRAM : RelV (.int 6) u_MAX_PROGRAM
  m_MAX_PROGRAM : mg "MAX_PROGRAM" = some u_MAX_PROGRAM
  u_MAX_ROOMS : Value
  r_MAX_ROOMS : RelV (.int 4) u_MAX_ROOMS
  m_MAX_ROOMS : mg "MAX_ROOMS" = some u_MAX_ROOMS
  b_abs : mg "abs" = none
  b_all : mg "all" = none
  b_bool : mg "bool" = none
  b_enumerate : mg "enumerate" = none
  b_int : mg "int" = none
  b_isinstance : mg "isinstance" = none
  b_len : mg "len" = none
  b_list : mg "list" = none
  b_range : mg "range" = none
  b_repr : mg "repr" = none
  b_str : mg "str" = none
  b_tuple : mg "tuple" = none
  b_zip : mg "zip" = none
/-! the readings -/
def rd_l_draw : TSd := (dSeq (dIfS (dB (dOp fLt (dVar 1) (dK (.int 2)))) (dRet (dK (.int 0))) dNext) (dSeq (dJPop 0 2 1 (dRet (dOp fMod (dN fInt (dCons (dVar 2) dNil)) (dVar 1)))) (dSeq (dJPut 0 (dOp fAdd (dJInt 0) (dK (.int 1)))) (dSeq (dSet 3 (dOp fMod (dN fInt (dCons (dFz (dOp fAdd (dJInt 0) (dFz (dOp fMul (dK (.int 2654435761)) (dJInt 0))))) dNil)) (dK (.int 4294967279)))) (dSeq (dSet 3 (dOp fMod (dN fInt (dCons (dFz (dOp fAdd (dFz (dOp fAdd (dFz (dOp fMul (dVar 3) (dVar 3))) (dFz (dOp fMul (dK (.int 40503)) (dJInt 0))))) (dK (.int 19)))) dNil)) (dK (.int 4294967231)))) (dSeq (dSet 3 (dOp fMod (dN fInt (dCons (dFz (dOp fAdd (dFz (dOp fMul (dVar 3) (dVar 3))) (dFz (dOp fMul (dJInt 0) (dK (.int 7)))))) dNil)) (dK (.int 4294967197)))) (dRet (dOp fMod (dN fInt (dCons (dOp fDiv (dVar 3) (dK (.int 64))) dNil)) (dVar 1)))))))))
def rd_l_pick : TSd := (dRet (dOp fIx (dVar 1) (dCall F_l_draw 2 (dCons (dVar 0) (dCons (dN fLen (dCons (dVar 1) dNil)) dNil)))))
def rd_l_heap : TSd := (dSeq (dSet 3 (dLst dNil)) (dSeq (dFor (dIRng (dVar 1)) (dgName 4) (dSeq (dSet 5 (dLc (dIRng (dCall F_l_pick 2 (dCons (dVar 0) (dCons (dFz (dLst (dCons (dK (.int 0)) (dCons (dK (.int 1)) (dCons (dK (.int 1)) (dCons (dK (.int 2)) (dCons (dK (.int 2)) (dCons (dK (.int 3)) dNil)))))))) dNil)))) [6] (dgName 6) dYes (dCall F_l_pick 2 (dCons (dVar 0) (dCons (dFz (dOp fAdd (dVar 2) (dFz (dLst (dCons (dK .none) dNil))))) dNil))))) (dFixS 5 (dDrop (dAppend 3 (dN fTuple (dCons (dVar 5) dNil))))))) (dRet (dN1 fTuple 3))))
def rd_l_rooms : TSd := (dSeq (dSet 3 (dLst dNil)) (dSeq (dFor (dIRng (dVar 1)) (dgName 4) (dDrop (dAppend 3 (dN fTuple (dCons (dFz (dLc (dIRng (dOp fAdd (dK (.int 1)) (dCall F_l_draw 2 (dCons (dVar 0) (dCons (dK (.int 4)) dNil))))) [5] (dgName 5) dYes (dCall F_l_pick 2 (dCons (dVar 0) (dCons (dFz (dOp fAdd (dVar 2) (dFz (dLst (dCons (dK .none) dNil))))) dNil))))) dNil))))) (dRet (dN1 fTuple 3))))
def rd_l_begin : TSd := (dSeq (dSet 4 (dCall F_l_heap 3 (dCons (dVar 0) (dCons (dVar 1) (dCons (dFz (dListRng (dVar 1))) dNil))))) (dSeq (dSet 5 (dFz (dOp fAdd (dFz (dOp fMul (dTup (dCons (dK (.str "white")) dNil)) (dVar 1))) (dFz (dOp fMul (dTup (dCons (dK (.str "free")) dNil)) (dVar 3)))))) (dRet (dTup (dCons (dFz (dOp fAdd (dVar 4) (dFz (dOp fMul (dTup (dCons (dTup dNil) dNil)) (dVar 3))))) (dCons (dVar 5) (dCons (dCall F_l_rooms 3 (dCons (dVar 0) (dCons (dVar 2) (dCons (dFz (dListRng (dVar 1))) dNil)))) (dCons (dFz (dOp fMul (dTup (dCons (dK (.bool false)) dNil)) (dVar 2))) dNil))))))))
def rd_l_odd : TSd := (dSeq (dSet 1 (dFz (dLst (dCons (dK .none) (dCons (dK (.bool true)) (dCons (dK (.bool false)) (dCons (dK (.int 0)) (dCons (dNeg (dK (.int 1))) (dCons (dOp fPow (dK (.int 10)) (dK (.int 40))) (dCons (dK (.str "")) (dCons (dK (.str "0")) (dCons (dK (.str "a")) (dCons (dTup dNil) (dCons (dFz (dLst dNil)) (dCons (dFz dDict0) (dCons (dTup (dCons (dK (.int 0)) dNil)) (dCons (dFz (dLst (dCons (dK (.int 0)) dNil))) (dCons (dTup (dCons (dTup (dCons (dK (.int 0)) dNil)) dNil)) (dCons (dK (.str "none")) (dCons (dDict1 "a" (dK (.int 1))) (dCons (dTup (dCons (dTup dNil) dNil)) dNil))))))))))))))))))))) (dRet (dCall F_l_pick 2 (dCons (dVar 0) (dCons (dVar 1) dNil)))))
def rd_l_bent_line : TSd := (dSeq (dIfS (dOr (dNot (dTr (dIsi "tuple" (dVar 1)))) (dB (dOp fEqU (dVar 1) (dTup dNil)))) (dRet (dCall F_l_odd 1 (dCons (dVar 0) dNil))) dNext) (dSeq (dPar 2 3 (dCall F_l_draw 2 (dCons (dVar 0) (dCons (dN fLen (dCons (dVar 1) dNil)) dNil))) (dCall F_l_draw 2 (dCons (dVar 0) (dCons (dK (.int 5)) dNil)))) (dSeq (dSet 4 (dCall F_l_pick 2 (dCons (dVar 0) (dCons (dFz (dLst (dCons (dK (.int 4)) (dCons (dK (.int 3)) (dCons (dK (.int 2)) (dCons (dNeg (dK (.int 1))) (dCons (dK (.bool true)) (dCons (dK (.bool false)) (dCons (dK .none) (dCons (dK (.str "0")) (dCons (dTup (dCons (dK (.int 0)) dNil)) (dCons (dFz (dLst dNil)) (dCons (dOp fPow (dK (.int 10)) (dK (.int 30))) (dCons (dOp fIx (dVar 1) (dVar 2)) dNil)))))))))))))) dNil)))) (dSeq (dIfS (dB (dOp fEq (dVar 3) (dK (.int 0)))) (dRet (dFz (dOp fAdd (dFz (dCut (dVar 1) dONone (dOSome (dVar 2)))) (dFz (dCut (dVar 1) (dOSome (dOp fAdd (dVar 2) (dK (.int 1)))) dONone))))) dNext) (dSeq (dIfS (dB (dOp fEq (dVar 3) (dK (.int 1)))) (dRet (dFz (dOp fAdd (dFz (dOp fAdd (dFz (dCut (dVar 1) dONone (dOSome (dVar 2)))) (dTup (dCons (dVar 4) dNil)))) (dFz (dCut (dVar 1) (dOSome (dVar 2)) dONone))))) dNext) (dSeq (dIfS (dB (dOp fEq (dVar 3) (dK (.int 2)))) (dRet (dFz (dOp fAdd (dTup (dCons (dCall F_l_pick 2 (dCons (dVar 0) (dCons (dFz (dLst (dCons (dK (.str "look")) (dCons (dK (.str "scan")) (dCons (dK (.str "Drop")) (dCons (dK (.str "writes")) (dCons (dK .none) (dCons (dK (.int 0)) (dCons (dFz (dLst dNil)) (dCons (dK (.str "drop")) (dCons (dK (.str "write")) dNil))))))))))) dNil))) dNil)) (dFz (dCut (dVar 1) (dOSome (dK (.int 1))) dONone))))) dNext) (dSeq (dIfS (dB (dOp fEq (dVar 3) (dK (.int 3)))) (dRet (dCall F_l_pick 2 (dCons (dVar 0) (dCons (dFz (dLst (dCons (dFz (dN fList (dCons (dVar 1) dNil))) (dCons (dFz (dOp fAdd (dTup (dCons (dOp fIx (dVar 1) (dK (.int 0))) (dCons (dK (.int 0)) dNil))) (dFz (dCut (dVar 1) (dOSome (dK (.int 1))) dONone)))) (dCons (dFz (dRev (dVar 1))) (dCons (dTup (dCons (dVar 1) dNil)) (dCons (dOp fIx (dVar 1) (dK (.int 0))) dNil))))))) dNil)))) dNext) (dRet (dFz (dOp fAdd (dFz (dOp fAdd (dFz (dOp fAdd (dFz (dCut (dVar 1) dONone (dOSome (dK (.int 1))))) (dFz (dCut (dFz (dCut (dVar 1) (dOSome (dK (.int 1))) dONone)) dONone (dOSome (dVar 2)))))) (dTup (dCons (dVar 4) dNil)))) (dFz (dCut (dFz (dCut (dVar 1) (dOSome (dK (.int 1))) dONone)) (dOSome (dOp fAdd (dVar 2) (dK (.int 1)))) dONone))))))))))))
def rd_l_bent : TSd := (dSeq (dIfS (dOr (dB (dOp fEqU (dVar 1) (dTup dNil))) (dB (dOp fEq (dCall F_l_draw 2 (dCons (dVar 0) (dCons (dK (.int 5)) dNil))) (dK (.int 0))))) (dRet (dCall F_l_pick 2 (dCons (dVar 0) (dCons (dFz (dLst (dCons (dFz (dN fList (dCons (dVar 1) dNil))) (dCons (dFz (dOp fAdd (dVar 1) (dTup (dCons (dCall F_l_odd 1 (dCons (dVar 0) dNil)) dNil)))) (dCons (dFz (dOp fMul (dVar 1) (dK (.int 7)))) (dCons (dTup (dCons (dVar 1) dNil)) (dCons (dFz (dOp fMul (dTup (dCons (dTup (dCons (dK (.str "drop")) (dCons (dK (.int 0)) dNil))) dNil)) (dK (.int 7)))) (dCons (dK .none) dNil)))))))) dNil)))) dNext) (dSeq (dSet 2 (dCall F_l_draw 2 (dCons (dVar 0) (dCons (dN fLen (dCons (dVar 1) dNil)) dNil)))) (dRet (dFz (dOp fAdd (dFz (dOp fAdd (dFz (dCut (dVar 1) dONone (dOSome (dVar 2)))) (dTup (dCons (dCall F_l_bent_line 2 (dCons (dVar 0) (dCons (dOp fIx (dVar 1) (dVar 2)) dNil))) dNil)))) (dFz (dCut (dVar 1) (dOSome (dOp fAdd (dVar 2) (dK (.int 1)))) dONone)))))))
def rd_is_tuple_of : TSd := (dRet (dAndV (dIsi "tuple" (dVar 0)) (dChain fLe fLe (dVar 1) (dN fLen (dCons (dVar 0) dNil)) (dVar 2))))
def rd_is_integer : TSd := (dRet (dAndV (dIsi "int" (dVar 0)) (dNotV (dIsi "bool" (dVar 0)))))
def rd_is_number_below : TSd := (dRet (dAndV (dCall F_is_integer 1 (dCons (dVar 0) dNil)) (dChain fLe fLt (dK (.int 0)) (dVar 0) (dVar 1))))
def rd_p_is_of_kind : TSd := (dSeq (dIfS (dB (dOp fEq (dVar 1) (dK (.str "many")))) (dRet (dCall F_is_number_below 2 (dCons (dVar 0) (dCons (dFz (dOp fAdd (dK c_MAX_FIELDS) (dK (.int 1)))) dNil)))) dNext) (dSeq (dIfS (dB (dOp fEq (dVar 1) (dK (.str "field")))) (dRet (dCall F_is_number_below 2 (dCons (dVar 0) (dCons (dK c_MAX_FIELDS) dNil)))) dNext) (dRet (dOrV (dCall F_is_number_below 2 (dCons (dVar 0) (dCons (dK c_MAX_ROOMS) dNil))) (dAndV (dOp fIs (dVar 0) (dK .none)) (dOp fEq (dVar 1) (dK (.str "room or nothing"))))))))
def rd_p_is_line : TSd := (dSeq (dIfS (dOr (dNot (dTr (dCall F_is_tuple_of 3 (dCons (dVar 0) (dCons (dK (.int 2)) (dCons (dK (.int 4)) dNil)))))) (dNot (dTr (dIsi "str" (dOp fIx (dVar 0) (dK (.int 0))))))) (dRet (dK (.bool false))) dNext) (dSeq (dSet 1 (dKGet c_LINES (dOp fIx (dVar 0) (dK (.int 0))) (dTup dNil))) (dSeq (dIfS (dB (dOp fNe (dN fLen (dCons (dVar 1) dNil)) (dOp fSub (dN fLen (dCons (dVar 0) dNil)) (dK (.int 1))))) (dRet (dK (.bool false))) dNext) (dRet (dN fAll (dCons (dFz (dLc (dIZip (dFz (dCut (dVar 0) (dOSome (dK (.int 1))) dONone)) (dVar 1)) [2, 3] (dgTup 2 (dgCons (dgName 2) (dgCons (dgName 3) dgNil))) dYes (dCall F_p_is_of_kind 2 (dCons (dVar 2) (dCons (dVar 3) dNil))))) dNil))))))
def rd_program_error : TSd := (dSeq (dIfS (dNot (dTr (dCall F_is_tuple_of 3 (dCons (dVar 0) (dCons (dK (.int 0)) (dCons (dK c_MAX_PROGRAM) dNil)))))) (dRet (dK (.str "form"))) dNext) (dSeq (dFor (dIEnum (dVar 0)) (dgTup 2 (dgCons (dgName 1) (dgCons (dgName 2) dgNil))) (dIfS (dNot (dTr (dCall F_p_is_line 1 (dCons (dVar 2) dNil)))) (dRet (dTup (dCons (dK (.str "line")) (dCons (dVar 1) dNil)))) dNext)) (dRet (dK .none))))
def rd_programs_error : TSd := (dSeq (dSet 2 (dN fLen (dCons (dOp fIx (dVar 0) (dK (.int 2))) dNil))) (dSeq (dIfS (dNot (dTr (dCall F_is_tuple_of 3 (dCons (dVar 1) (dCons (dVar 2) (dCons (dVar 2) dNil)))))) (dRet (dK (.str "form"))) dNext) (dSeq (dFor (dIEnum (dVar 1)) (dgTup 2 (dgCons (dgName 3) (dgCons (dgName 4) dgNil))) (dSeq (dSet 5 (dCall F_program_error 1 (dCons (dVar 4) dNil))) (dIfS (dB (dOp fIsNot (dVar 5) (dK .none))) (dRet (dTup (dCons (dK (.str "program")) (dCons (dVar 3) (dCons (dVar 5) dNil))))) dNext))) (dRet (dK .none)))))
def rd_l_bounds : TSd := (dSeq (dSet 1 (dDisp ["drop", "copy", "make", "read", "write"] [(dTup (dCons (dK (.int 3)) dNil)), (dTup (dCons (dK (.int 3)) (dCons (dK (.int 3)) dNil))), (dTup (dCons (dK (.int 3)) (dCons (dK (.int 3)) dNil))), (dTup (dCons (dK (.int 3)) (dCons (dK (.int 2)) (dCons (dK (.int 3)) dNil)))), (dTup (dCons (dK (.int 3)) (dCons (dK (.int 2)) (dCons (dK (.int 3)) dNil))))])) (dRet (dIf (dAnd (dTr (dIsi "str" (dVar 0))) (dB (dKdO gIn (dVar 0) 1))) (dDkO gItem 1 (dVar 0)) (dTup dNil))))
def rd_l_is_line : TSd := (dSeq (dIfS (dOr (dNot (dTr (dIsi "tuple" (dVar 0)))) (dOr (dB (dOp fEqU (dVar 0) (dTup dNil))) (dB (dOp fEqU (dCall F_l_bounds 1 (dCons (dOp fIx (dVar 0) (dK (.int 0))) dNil)) (dTup dNil))))) (dRet (dK (.bool false))) dNext) (dSeq (dSet 1 (dCall F_l_bounds 1 (dCons (dOp fIx (dVar 0) (dK (.int 0))) dNil))) (dSeq (dIfS (dB (dOp fNe (dN fLen (dCons (dVar 0) dNil)) (dFz (dOp fAdd (dN fLen (dCons (dVar 1) dNil)) (dK (.int 1)))))) (dRet (dK (.bool false))) dNext) (dSeq (dFor (dIEnum (dFz (dCut (dVar 0) (dOSome (dK (.int 1))) dONone))) (dgTup 2 (dgCons (dgName 2) (dgCons (dgName 3) dgNil))) (dIfS (dNot (dAnd (dB (dOp fIs (dVar 3) (dK .none))) (dAnd (dB (dOp fEq (dOp fIx (dVar 0) (dK (.int 0))) (dK (.str "write")))) (dB (dOp fEq (dVar 2) (dK (.int 2))))))) (dIfS (dOr (dNot (dTr (dIsi "int" (dVar 3)))) (dOr (dTr (dIsi "bool" (dVar 3))) (dNot (dB (dChain fLe fLe (dK (.int 0)) (dVar 3) (dOp fIx (dVar 1) (dVar 2))))))) (dRet (dK (.bool false))) dNext) dNext)) (dRet (dK (.bool true)))))))
def rd_l_fault : TSd := (dSeq (dIfS (dOr (dNot (dTr (dIsi "tuple" (dVar 0)))) (dB (dOp fGt (dN fLen (dCons (dVar 0) dNil)) (dK (.int 6))))) (dRet (dK (.str "form"))) dNext) (dSeq (dFor (dIEnum (dVar 0)) (dgTup 2 (dgCons (dgName 1) (dgCons (dgName 2) dgNil))) (dIfS (dNot (dTr (dCall F_l_is_line 1 (dCons (dVar 2) dNil)))) (dRet (dTup (dCons (dK (.str "line")) (dCons (dVar 1) dNil)))) dNext)) (dRet (dK .none))))
def rd_l_fault_of_all : TSd := (dSeq (dIfS (dOr (dNot (dTr (dIsi "tuple" (dVar 1)))) (dB (dOp fNe (dN fLen (dCons (dVar 1) dNil)) (dVar 0)))) (dRet (dK (.str "form"))) dNext) (dSeq (dFor (dIEnum (dVar 1)) (dgTup 2 (dgCons (dgName 2) (dgCons (dgName 3) dgNil))) (dIfS (dB (dOp fIsNot (dCall F_l_faultP 1 (dCons (dVar 3) dNil)) (dK .none))) (dRet (dTup (dCons (dK (.str "program")) (dCons (dVar 2) (dCons (dCall F_l_faultP 1 (dCons (dVar 3) dNil)) dNil))))) dNext)) (dRet (dK .none))))
def rd_l_is_told : TSd := (dSeq (dPar 4 5 (dN fRepr (dCons (dFz (dLst (dCons (dVar 0) (dCons (dVar 1) (dCons (dVar 2) dNil))))) dNil)) (dFz (dLst (dCons (dCall F_l_faultP 1 (dCons (dVar 1) dNil)) (dCons (dCall F_l_fault_of_all 2 (dCons (dN fLen (dCons (dOp fIx (dVar 0) (dK (.int 2))) dNil)) (dCons (dVar 2) dNil))) dNil))))) (dSeq (dSet 6 (dFz (dLst (dCons (dCall F_program_error 1 (dCons (dVar 1) dNil)) (dCons (dCall F_programs_error 2 (dCons (dVar 0) (dCons (dVar 2) dNil))) dNil))))) (dSeq (dIfS (dTr (dVar 3)) (dSet 6 (dFz (dLst (dCons (dCallK F_program_error 1 (fun ss => pick [0] ss) (dCons (dVar 1) dNil)) (dCons (dCallK F_programs_error 2 (fun ss => pick [1, 0] ss) (dCons (dVar 2) (dCons (dVar 0) dNil))) dNil))))) dNext) (dSeq (dIfS (dOr (dB (dOp fNe (dN fRepr (dCons (dVar 6) dNil)) (dN fRepr (dCons (dVar 5) dNil)))) (dB (dOp fNe (dN fRepr (dCons (dFz (dLst (dCons (dCall F_program_error 1 (dCons (dVar 1) dNil)) (dCons (dCall F_programs_error 2 (dCons (dVar 0) (dCons (dVar 2) dNil))) dNil)))) dNil)) (dN fRepr (dCons (dVar 5) dNil))))) (dRet (dK (.bool false))) dNext) (dRet (dOp fEq (dN fRepr (dCons (dFz (dLst (dCons (dVar 0) (dCons (dVar 1) (dCons (dVar 2) dNil))))) dNil)) (dVar 4)))))))
def rd_l_line : TSd := (dSeq (dSet 1 (dCall F_l_pick 2 (dCons (dVar 0) (dCons (dFz (dLst (dCons (dK (.str "drop")) (dCons (dK (.str "copy")) (dCons (dK (.str "make")) (dCons (dK (.str "read")) (dCons (dK (.str "write")) (dCons (dK (.str "write")) dNil)))))))) dNil)))) (dSeq (dSet 2 (dLc (dISeq (dCall F_l_bounds 1 (dCons (dVar 1) dNil))) [3] (dgName 3) dYes (dCall F_l_draw 2 (dCons (dVar 0) (dCons (dFz (dOp fAdd (dVar 3) (dK (.int 1)))) dNil))))) (dSeq (dIfS (dAnd (dB (dOp fEq (dVar 1) (dK (.str "write")))) (dB (dOp fEq (dCall F_l_draw 2 (dCons (dVar 0) (dCons (dK (.int 3)) dNil))) (dK (.int 0))))) (dPutAt 2 (dK (.int 2)) (dK .none)) dNext) (dRet (dFz (dOp fAdd (dTup (dCons (dVar 1) dNil)) (dN1 fTuple 2)))))))
def rd_l_program : TSd := (dRet (dN fTuple (dCons (dFz (dLc (dIRng (dCall F_l_draw 2 (dCons (dVar 0) (dCons (dK (.int 7)) dNil)))) [1] (dgName 1) dYes (dCall F_l_line 1 (dCons (dVar 0) dNil)))) dNil)))
def rd_law : TSd := (dSeq (dSet 1 (dCall F_l_deck 1 (dCons (dVar 0) dNil))) (dSeq (dFor (dIRng (dK (.int 7))) (dgName 2) (dSeq (dSet 3 (dFz (dOp fAdd (dK (.int 1)) (dCall F_l_draw 2 (dCons (dVar 1) (dCons (dK (.int 4)) dNil)))))) (dSeq (dSet 4 (dCall F_l_begin 4 (dCons (dVar 1) (dCons (dCall F_l_draw 2 (dCons (dVar 1) (dCons (dK (.int 4)) dNil))) (dCons (dVar 3) (dCons (dK (.int 1)) dNil)))))) (dSeq (dSet 5 (dN fTuple (dCons (dFz (dLc (dIRng (dVar 3)) [12] (dgName 12) dYes (dCall F_l_program 1 (dCons (dVar 1) dNil)))) dNil))) (dSeq (dIfS (dNot (dTr (dCall F_l_is_told 4 (dCons (dVar 4) (dCons (dOp fIx (dVar 5) (dK (.int 0))) (dCons (dVar 5) (dCons (dOp fEq (dVar 2) (dK (.int 1))) dNil))))))) (dRet (dK (.bool false))) dNext) (dSeq (dSet 6 (dCall F_l_bent 2 (dCons (dVar 1) (dCons (dOp fIx (dVar 5) (dK (.int 0))) dNil)))) (dSeq (dSet 7 (dIf (dTr (dIsi "tuple" (dVar 6))) (dCall F_l_bent 2 (dCons (dVar 1) (dCons (dVar 6) dNil))) (dVar 6))) (dSeq (dSet 8 (dCall F_l_draw 2 (dCons (dVar 1) (dCons (dVar 3) dNil)))) (dSeq (dSet 9 (dFz (dLst (dCons (dFz (dOp fAdd (dFz (dOp fAdd (dFz (dCut (dVar 5) dONone (dOSome (dVar 8)))) (dTup (dCons (dVar 6) dNil)))) (dFz (dCut (dVar 5) (dOSome (dOp fAdd (dVar 8) (dK (.int 1)))) dONone)))) (dCons (dFz (dOp fAdd (dFz (dOp fAdd (dFz (dCut (dVar 5) dONone (dOSome (dVar 8)))) (dTup (dCons (dVar 7) dNil)))) (dFz (dCut (dVar 5) (dOSome (dOp fAdd (dVar 8) (dK (.int 1)))) dONone)))) (dCons (dFz (dCut (dVar 5) (dOSome (dK (.int 1))) dONone)) dNil)))))) (dSeq (dSet 9 (dFz (dOp fAdd (dVar 9) (dFz (dLst (dCons (dFz (dOp fAdd (dVar 5) (dTup (dCons (dTup dNil) dNil)))) (dCons (dFz (dN fList (dCons (dVar 5) dNil))) (dCons (dOp fIx (dVar 5) (dK (.int 0))) (dCons (dCall F_l_odd 1 (dCons (dVar 1) dNil)) (dCons (dFz (dOp fMul (dTup (dCons (dVar 6) dNil)) (dVar 3))) (dCons (dFz (dOp fMul (dTup (dCons (dTup dNil) dNil)) (dVar 3))) dNil))))))))))) (dFor (dIEnum (dVar 9)) (dgTup 2 (dgCons (dgName 10) (dgCons (dgName 11) dgNil))) (dIfS (dNot (dTr (dCall F_l_is_told 4 (dCons (dVar 4) (dCons (dOp fIx (dFz (dLst (dCons (dVar 6) (dCons (dVar 7) (dCons (dCall F_l_odd 1 (dCons (dVar 1) dNil)) dNil))))) (dOp fMod (dVar 10) (dK (.int 3)))) (dCons (dVar 11) (dCons (dOp fEq (dVar 10) (dVar 2)) dNil))))))) (dRet (dK (.bool false))) dNext)))))))))))) (dRet (dK (.bool true)))))
abbrev Jr (P : Program) (w : World) (K : PySem.W.Frag) : Jar := mkJar K (StoOk P w "great" ["mixed", "turns"]) sto_keep
end GK

set_option maxRecDepth 100000
namespace GK
open PySem PySem.Spec PyProof.Rows L2 GB
theorem s_draw {k : S → Prop} {m : Int} : F_l_draw [.ob .jar, .d (.int m)] k ↔ m < 1073741824 ∧ ∀ r : Int, 0 ≤ r → (1 ≤ m → r < m) → k (.d (.int r)) := by simp [F_l_draw]
theorem s_pick {k : S → Prop} {xs : List PyData} : F_l_pick [.ob .jar, .d (.list xs)] k ↔ xs ≠ [] ∧ xs.length < 1000 ∧ ∀ x ∈ xs, k (.d x) := by simp [F_l_pick]
theorem ma_l_draw : ∀ ss R, ss.length = 2 → F_l_draw ss R → rd_l_draw { nx := fun _ => R (.d .none), rt := R } (ss ++ List.replicate 2 .un) := by
  rintro _ R - ⟨m, rfl, h1, q⟩
  unfold rd_l_draw
  simp only [dRet, dSeq, dNext, dSet, dDrop, dIfS, dPar, dOp, dN, dN1, dB, dNot, dAnd, dOr, dAndV, dOrV, dNotV, dIsi, dVar, dK, dFz, dFixS, dTup, dLst, dCons, dNil, dCall, dCallK, dChain, dIf, dNeg, dFor, dIEnum, dIRng, dISeq, dgName, dgTup_tup, dgCons_cons, dgNil_nil, and_assoc, eqOk_str, eqOk_int, eqOk_bool, str_eqv, int_eqv, tup_nil_eqv, lst_nil_eqv, fEq, fNe, fRepr, pick, fMul, fPow, dCut, fCut, rep_flat, dLc, dLcGo, dYes, dJInt, dJPut, dJPop, dDict0, dDict1, dListRng, dOpL, dOpR, dAppend, dPutAt, dOSome, dONone, fI2, fAdd, fLen, fTuple, fList, fInt, fIx, fIs, fIsNot, S.firm, S.fz, List.length_cons, List.length_nil, ex_nil, ex_cons, Option.some.injEq, S.d.injEq, S.ow.injEq, Ow.l.injEq, PyData.int.injEq, PyData.bool.injEq, PyData.tuple.injEq, PyData.list.injEq, PyData.str.injEq, exists_eq_left', exists_eq_left, exists_eq_right, exists_and_left, exists_eq, true_and, and_true, List.append_eq, List.cons_append, List.nil_append, List.append_nil, List.replicate, List.getElem?_cons_zero, List.getElem?_cons_succ, List.set_cons_zero, List.set_cons_succ, Nat.zero_add, Nat.reduceAdd, List.cons.injEq, Bool.not_true, Bool.not_false, if_true, if_false, Bool.false_eq_true, ↓reduceIte, reduceCtorEq, false_or, or_false, false_and, and_false, exists_false]
  refine ite2 (fun h => q 0 (by omega) fun z => by simp only [decide_eq_true_eq] at h; omega) fun h => ?_
  have hm : 0 < m := by simp only [decide_eq_true_eq] at h; omega
  have ok : ∀ n : Int, R (.d (.int (n % m))) := fun n => q _ (Int.emod_nonneg _ (by omega)) fun _ => Int.emod_lt_of_pos _ hm
  have sq : ∀ (z M : Int), 0 < M → M ≤ 4294967296 → (CMul (z % M) (z % M) ∨ CMulW (z % M) (z % M)) := fun z M h0 h4 => cmul_r (by have := Int.emod_nonneg z (show M ≠ 0 by omega); omega) (by have := Int.emod_lt_of_pos z h0; omega)
  exact ⟨hm, h1, by decide, by decide, by decide, fun n => ⟨hm, ok _⟩, fun n _ n1 => ⟨cmul_l (by decide) (by decide), by decide, sq _ _ (by decide) (by decide), fun n2 => ⟨cmul_l (by decide) (by decide), by decide, sq _ _ (by decide) (by decide), fun n3 => ⟨cmul_r (by decide) (by decide), by decide, by decide, pow2000 (by decide), hm, ok _⟩⟩⟩⟩
theorem ma_l_pick : ∀ ss R, ss.length = 2 → F_l_pick ss R → rd_l_pick { nx := fun _ => R (.d .none), rt := R } (ss ++ List.replicate 0 .un) := by
  rintro _ R - ⟨xs, rfl, h0, h1, q⟩
  have hl : 0 < xs.length := List.length_pos_iff.mpr h0
  unfold rd_l_pick
  simp only [↓at0, ↓set0, ↓at1, ↓set1, ↓at2, ↓set2, ↓at3, ↓set3, ↓at4, ↓set4, ↓at5, ↓set5, ↓at6, ↓set6, ↓at7, ↓set7, ↓at8, ↓set8, ↓at9, ↓set9, ↓at10, ↓set10, ↓at11, ↓set11, ↓at12, ↓set12, ↓at13, ↓set13, ↓at14, ↓set14, ↓at15, ↓set15, ↓fz_d, ↓fz_own, ↓fz_ob, ↓one_d, ↓int_d, ↓bool_d, ↓own_o, ↓ds_nil, ↓ds_cons, ↓seq_l, ↓seq_t, ↓ite_t, ↓ite_f, ↓e_next, ↓e_seq, ↓e_set, ↓e_drop, ↓e_ret, ↓e_ifs, ↓e_brk, ↓e_cnt, ↓e_fixs, ↓e_par, ↓e_par3, ↓e_asg, ↓e_for, ↓e_putAt, ↓e_jput, ↓e_var, ↓e_k, ↓e_fz, ↓e_op, ↓e_opL, ↓e_opR, ↓e_n, ↓e_n1, ↓e_nil, ↓e_cons, ↓e_tup, ↓e_lst, ↓e_b, ↓e_not, ↓e_and, ↓e_or, ↓e_andV, ↓e_orV, ↓e_notV, ↓e_if, ↓e_isi, ↓e_neg, ↓e_chain, ↓e_call, ↓e_callK, ↓e_jint, ↓e_dict0, ↓e_dict1, ↓e_listRng, ↓e_append, ↓e_cut, ↓e_cutO, ↓e_onone, ↓e_osome, ↓e_iseq, ↓e_ienum, ↓e_irng, ↓e_gname, ↓e_lnil, ↓e_lcons, ↓e_lc, ↓e_yes, ↓f_addI, ↓f_addS, ↓f_addT, ↓f_addL, ↓f_i2, ↓f_mulI, ↓f_mulT, ↓f_mulL, ↓f_eq, ↓f_ne, ↓f_is, ↓f_isnot, ↓f_in, ↓f_notin, ↓f_ixL, ↓f_ixT, ↓f_lenL, ↓f_lenT, ↓f_lenS, ↓f_abs, ↓f_intI, ↓f_intB, ↓f_tupL, ↓f_tupT, ↓f_lstL, ↓f_lstT, ↓f_repr, ↓f_cutL, ↓f_cutT, ↓firm_d, ↓firm_ob, ↓zip_l, ↓zip_t, ↓e_izip, ↓zip_cons, ↓zip_nil1, ↓zip_nil2, ↓f_sorted, ↓e_lcn, ↓e_lcc, ↓e_inn, ↓e_inc, ↓e_l2n, ↓e_l2c, ↓e_lc2, ↓e_rev, ↓e_pop, ↓e_popAt, ↓e_extend, ↓e_lc3, ↓e_gon, ↓e_goc, ↓e_dbMid, ↓e_dbIn, ↓f_neu, ↓e_ifT, ↓e_newD, ↓e_retO, ↓e_fixK, ↓e_putO, ↓e_dkO, ↓e_dkF, ↓e_kdO, ↓e_kdF, ↓e_get2O, ↓e_get2F, ↓e_ListD, ↓e_ListF, ↓od_o, ↓dct_d, ↓key_int, ↓key_str, ↓g_item, ↓g_get, ↓g_in, ↓g_notin, ↓h_list, ↓fz_od, ↓ow_ex, ↓e_tr, ↓e_trO, ↓e_trK, ↓tru_b, ↓tru_n, ↓tru_i, ↓tru_l, ↓tru_t, ↓tru_s, ↓e_i63, ↓n63_d, ↓e_ss, ↓e_ssL, ↓e_ssF, ↓e_never, ↓e_kget, ↓str_ex, ↓e_disp, ↓e_vnil, ↓e_vcons, ↓f_equ, ↓dgTup_tup, ↓dgCons_cons, ↓dgNil_nil, ite_t, ite_f, itK_not, List.cons_append, List.nil_append, List.append_nil, List.replicate, List.flatten_cons, List.flatten_nil, List.append_eq, List.length_cons, List.length_nil, Nat.zero_add, Nat.reduceAdd, true_and, and_true, eqOk_str, eqOk_int, eqOk_bool, str_eqv, int_eqv, tup_nil_eqv, lst_nil_eqv, rep_flat, isK_int, isK_bool, isK_tuple, isK_str, kInt, kBool, kTuple, kStr, GB.isNon, Bool.not_true, Bool.not_false, Bool.or_false, Bool.or_true, Bool.false_or, Bool.true_or, reduceCtorEq, ↓s_draw]
  refine ⟨by omega, fun r h2 h3 => ?_⟩
  have h3 := h3 (by omega)
  obtain ⟨v, e, hv⟩ := atI_mem (xs := xs) h2 (by omega)
  exact ⟨v, e, q v hv⟩
theorem all_run {P : PyData → Prop} {ds : List PyData} {R : List PyData → Prop} {g : DTG} {tt : TTd} {te : TEd} {ρ : GB.En} {vs : List Nat} (hn : ∀ acc : List PyData, acc.length = ds.length → (∀ x ∈ acc, P x) → R acc)
    (hc : ∀ d ∈ ds, ∀ (acc : List PyData) (K : List PyData → Prop), (∀ x, P x → K (acc ++ [x])) → g d ρ fun ρ2 => wipeD ρ2 vs = ρ ∧ tt ρ2 fun b ρ3 => ρ3 = ρ2 ∧ iteK b (te ρ2 fun s ρ4 => ρ4 = ρ2 ∧ oneK s fun y => K (acc ++ [y])) (K acc)) :
    dLcGo vs g tt te ρ R ds [] := by
  refine lcI (fun es acc => (∀ d ∈ es, d ∈ ds) ∧ acc.length + es.length = ds.length ∧ ∀ x ∈ acc, P x) ?_ ?_ ds [] ⟨fun _ h => h, by simp, fun _ h => nomatch h⟩
  · rintro acc ⟨_, h1, h2⟩
    exact hn acc (by simpa using h1) h2
  · rintro d es acc K hK ⟨h0, h1, h2⟩
    refine hc d (h0 d (by simp)) acc K fun x hx => hK _ ⟨fun z hz => h0 z (by simp [hz]), by rw [List.length_append]; simp at h1 ⊢; omega, fun z hz => ?_⟩
    rcases List.mem_append.mp hz with hz | hz
    · exact h2 z hz
    · rw [List.mem_singleton.mp hz]; exact hx
theorem fld_of {n : Nat} {us : List PyData} (h : Cells n us) : ∀ x ∈ us ++ [.none], Fld n x := fun x hx => by
  rcases List.mem_append.mp hx with hx | hx
  · exact .inr (h x hx)
  · exact .inl (List.mem_singleton.mp hx)
theorem ma_l_rooms : ∀ ss R, ss.length = 3 → F_l_rooms ss R → rd_l_rooms { nx := fun _ => R (.d .none), rt := R } (ss ++ List.replicate 3 .un) := by
  rintro _ R - ⟨n, m, us, rfl, hn, hu, hc, q⟩
  unfold rd_l_rooms
  simp only [↓at0, ↓set0, ↓at1, ↓set1, ↓at2, ↓set2, ↓at3, ↓set3, ↓at4, ↓set4, ↓at5, ↓set5, ↓at6, ↓set6, ↓at7, ↓set7, ↓at8, ↓set8, ↓at9, ↓set9, ↓at10, ↓set10, ↓at11, ↓set11, ↓at12, ↓set12, ↓at13, ↓set13, ↓at14, ↓set14, ↓at15, ↓set15, ↓fz_d, ↓fz_own, ↓fz_ob, ↓one_d, ↓int_d, ↓bool_d, ↓own_o, ↓ds_nil, ↓ds_cons, ↓seq_l, ↓seq_t, ↓ite_t, ↓ite_f, ↓e_next, ↓e_seq, ↓e_set, ↓e_drop, ↓e_ret, ↓e_ifs, ↓e_brk, ↓e_cnt, ↓e_fixs, ↓e_par, ↓e_par3, ↓e_asg, ↓e_for, ↓e_putAt, ↓e_jput, ↓e_var, ↓e_k, ↓e_fz, ↓e_op, ↓e_opL, ↓e_opR, ↓e_n, ↓e_n1, ↓e_nil, ↓e_cons, ↓e_tup, ↓e_lst, ↓e_b, ↓e_not, ↓e_and, ↓e_or, ↓e_andV, ↓e_orV, ↓e_notV, ↓e_if, ↓e_isi, ↓e_neg, ↓e_chain, ↓e_call, ↓e_callK, ↓e_jint, ↓e_dict0, ↓e_dict1, ↓e_listRng, ↓e_append, ↓e_cut, ↓e_cutO, ↓e_onone, ↓e_osome, ↓e_iseq, ↓e_ienum, ↓e_irng, ↓e_gname, ↓e_lnil, ↓e_lcons, ↓e_lc, ↓e_yes, ↓f_addI, ↓f_addS, ↓f_addT, ↓f_addL, ↓f_i2, ↓f_mulI, ↓f_mulT, ↓f_mulL, ↓f_eq, ↓f_ne, ↓f_is, ↓f_isnot, ↓f_in, ↓f_notin, ↓f_ixL, ↓f_ixT, ↓f_lenL, ↓f_lenT, ↓f_lenS, ↓f_abs, ↓f_intI, ↓f_intB, ↓f_tupL, ↓f_tupT, ↓f_lstL, ↓f_lstT, ↓f_repr, ↓f_cutL, ↓f_cutT, ↓firm_d, ↓firm_ob, ↓zip_l, ↓zip_t, ↓e_izip, ↓zip_cons, ↓zip_nil1, ↓zip_nil2, ↓f_sorted, ↓e_inn, ↓e_inc, ↓e_l2n, ↓e_l2c, ↓e_lc2, ↓e_rev, ↓e_pop, ↓e_popAt, ↓e_extend, ↓e_lc3, ↓e_gon, ↓e_goc, ↓e_dbMid, ↓e_dbIn, ↓f_neu, ↓e_ifT, ↓e_newD, ↓e_retO, ↓e_fixK, ↓e_putO, ↓e_dkO, ↓e_dkF, ↓e_kdO, ↓e_kdF, ↓e_get2O, ↓e_get2F, ↓e_ListD, ↓e_ListF, ↓od_o, ↓dct_d, ↓key_int, ↓key_str, ↓g_item, ↓g_get, ↓g_in, ↓g_notin, ↓h_list, ↓fz_od, ↓ow_ex, ↓e_tr, ↓e_trO, ↓e_trK, ↓tru_b, ↓tru_n, ↓tru_i, ↓tru_l, ↓tru_t, ↓tru_s, ↓e_i63, ↓n63_d, ↓e_ss, ↓e_ssL, ↓e_ssF, ↓e_never, ↓e_kget, ↓str_ex, ↓e_disp, ↓e_vnil, ↓e_vcons, ↓f_equ, ↓dgTup_tup, ↓dgCons_cons, ↓dgNil_nil, ite_t, ite_f, itK_not, List.cons_append, List.nil_append, List.append_nil, List.replicate, List.flatten_cons, List.flatten_nil, List.append_eq, List.length_cons, List.length_nil, Nat.zero_add, Nat.reduceAdd, true_and, and_true, eqOk_str, eqOk_int, eqOk_bool, str_eqv, int_eqv, tup_nil_eqv, lst_nil_eqv, rep_flat, isK_int, isK_bool, isK_tuple, isK_str, kInt, kBool, kTuple, kStr, GB.isNon, Bool.not_true, Bool.not_false, Bool.or_false, Bool.or_true, Bool.false_or, Bool.true_or, reduceCtorEq, ]
  refine ⟨by decide, Int.lt_of_lt_of_le (show (n : Int) < 61 by omega) (by decide), Int.lt_of_lt_of_le (by decide : (-2 ^ 60 : Int) < 0) (by omega), loopR (fun _ j ρ => ∃ (fs : List PyData) (s4 s5 : S), ρ = [S.ob Tk.jar, S.d (.int n), S.d (.list us), S.own fs, s4, s5] ∧ fs.length + j = n ∧ ∀ x ∈ fs, Row m 4 x) ?_ ?_ _ 0 _ ⟨[], _, _, rfl, by simp, fun _ h => nomatch h⟩⟩
  · rintro k _ ⟨fs, s4, s5, rfl, h1, h2⟩
    simp only [↓at0, ↓set0, ↓at1, ↓set1, ↓at2, ↓set2, ↓at3, ↓set3, ↓at4, ↓set4, ↓at5, ↓set5, ↓at6, ↓set6, ↓at7, ↓set7, ↓at8, ↓set8, ↓at9, ↓set9, ↓at10, ↓set10, ↓at11, ↓set11, ↓at12, ↓set12, ↓at13, ↓set13, ↓at14, ↓set14, ↓at15, ↓set15, ↓fz_d, ↓fz_own, ↓fz_ob, ↓one_d, ↓int_d, ↓bool_d, ↓own_o, ↓ds_nil, ↓ds_cons, ↓seq_l, ↓seq_t, ↓ite_t, ↓ite_f, ↓e_next, ↓e_seq, ↓e_set, ↓e_drop, ↓e_ret, ↓e_ifs, ↓e_brk, ↓e_cnt, ↓e_fixs, ↓e_par, ↓e_par3, ↓e_asg, ↓e_for, ↓e_putAt, ↓e_jput, ↓e_var, ↓e_k, ↓e_fz, ↓e_op, ↓e_opL, ↓e_opR, ↓e_n, ↓e_n1, ↓e_nil, ↓e_cons, ↓e_tup, ↓e_lst, ↓e_b, ↓e_not, ↓e_and, ↓e_or, ↓e_andV, ↓e_orV, ↓e_notV, ↓e_if, ↓e_isi, ↓e_neg, ↓e_chain, ↓e_call, ↓e_callK, ↓e_jint, ↓e_dict0, ↓e_dict1, ↓e_listRng, ↓e_append, ↓e_cut, ↓e_cutO, ↓e_onone, ↓e_osome, ↓e_iseq, ↓e_ienum, ↓e_irng, ↓e_gname, ↓e_lnil, ↓e_lcons, ↓e_lc, ↓e_yes, ↓f_addI, ↓f_addS, ↓f_addT, ↓f_addL, ↓f_i2, ↓f_mulI, ↓f_mulT, ↓f_mulL, ↓f_eq, ↓f_ne, ↓f_is, ↓f_isnot, ↓f_in, ↓f_notin, ↓f_ixL, ↓f_ixT, ↓f_lenL, ↓f_lenT, ↓f_lenS, ↓f_abs, ↓f_intI, ↓f_intB, ↓f_tupL, ↓f_tupT, ↓f_lstL, ↓f_lstT, ↓f_repr, ↓f_cutL, ↓f_cutT, ↓firm_d, ↓firm_ob, ↓zip_l, ↓zip_t, ↓e_izip, ↓zip_cons, ↓zip_nil1, ↓zip_nil2, ↓f_sorted, ↓e_inn, ↓e_inc, ↓e_l2n, ↓e_l2c, ↓e_lc2, ↓e_rev, ↓e_pop, ↓e_popAt, ↓e_extend, ↓e_lc3, ↓e_gon, ↓e_goc, ↓e_dbMid, ↓e_dbIn, ↓f_neu, ↓e_ifT, ↓e_newD, ↓e_retO, ↓e_fixK, ↓e_putO, ↓e_dkO, ↓e_dkF, ↓e_kdO, ↓e_kdF, ↓e_get2O, ↓e_get2F, ↓e_ListD, ↓e_ListF, ↓od_o, ↓dct_d, ↓key_int, ↓key_str, ↓g_item, ↓g_get, ↓g_in, ↓g_notin, ↓h_list, ↓fz_od, ↓ow_ex, ↓e_tr, ↓e_trO, ↓e_trK, ↓tru_b, ↓tru_n, ↓tru_i, ↓tru_l, ↓tru_t, ↓tru_s, ↓e_i63, ↓n63_d, ↓e_ss, ↓e_ssL, ↓e_ssF, ↓e_never, ↓e_kget, ↓str_ex, ↓e_disp, ↓e_vnil, ↓e_vcons, ↓f_equ, ↓dgTup_tup, ↓dgCons_cons, ↓dgNil_nil, ite_t, ite_f, itK_not, List.cons_append, List.nil_append, List.append_nil, List.replicate, List.flatten_cons, List.flatten_nil, List.append_eq, List.length_cons, List.length_nil, Nat.zero_add, Nat.reduceAdd, true_and, and_true, eqOk_str, eqOk_int, eqOk_bool, str_eqv, int_eqv, tup_nil_eqv, lst_nil_eqv, rep_flat, isK_int, isK_bool, isK_tuple, isK_str, kInt, kBool, kTuple, kStr, GB.isNon, Bool.not_true, Bool.not_false, Bool.or_false, Bool.or_true, Bool.false_or, Bool.true_or, reduceCtorEq, ]
    exact q fs (by omega) h2
  · rintro k j _ K hK ⟨fs, s4, s5, rfl, h1, h2⟩
    simp only [↓at0, ↓set0, ↓at1, ↓set1, ↓at2, ↓set2, ↓at3, ↓set3, ↓at4, ↓set4, ↓at5, ↓set5, ↓at6, ↓set6, ↓at7, ↓set7, ↓at8, ↓set8, ↓at9, ↓set9, ↓at10, ↓set10, ↓at11, ↓set11, ↓at12, ↓set12, ↓at13, ↓set13, ↓at14, ↓set14, ↓at15, ↓set15, ↓fz_d, ↓fz_own, ↓fz_ob, ↓one_d, ↓int_d, ↓bool_d, ↓own_o, ↓ds_nil, ↓ds_cons, ↓seq_l, ↓seq_t, ↓ite_t, ↓ite_f, ↓e_next, ↓e_seq, ↓e_set, ↓e_drop, ↓e_ret, ↓e_ifs, ↓e_brk, ↓e_cnt, ↓e_fixs, ↓e_par, ↓e_par3, ↓e_asg, ↓e_for, ↓e_putAt, ↓e_jput, ↓e_var, ↓e_k, ↓e_fz, ↓e_op, ↓e_opL, ↓e_opR, ↓e_n, ↓e_n1, ↓e_nil, ↓e_cons, ↓e_tup, ↓e_lst, ↓e_b, ↓e_not, ↓e_and, ↓e_or, ↓e_andV, ↓e_orV, ↓e_notV, ↓e_if, ↓e_isi, ↓e_neg, ↓e_chain, ↓e_call, ↓e_callK, ↓e_jint, ↓e_dict0, ↓e_dict1, ↓e_listRng, ↓e_append, ↓e_cut, ↓e_cutO, ↓e_onone, ↓e_osome, ↓e_iseq, ↓e_ienum, ↓e_irng, ↓e_gname, ↓e_lnil, ↓e_lcons, ↓e_lc, ↓e_yes, ↓f_addI, ↓f_addS, ↓f_addT, ↓f_addL, ↓f_i2, ↓f_mulI, ↓f_mulT, ↓f_mulL, ↓f_eq, ↓f_ne, ↓f_is, ↓f_isnot, ↓f_in, ↓f_notin, ↓f_ixL, ↓f_ixT, ↓f_lenL, ↓f_lenT, ↓f_lenS, ↓f_abs, ↓f_intI, ↓f_intB, ↓f_tupL, ↓f_tupT, ↓f_lstL, ↓f_lstT, ↓f_repr, ↓f_cutL, ↓f_cutT, ↓firm_d, ↓firm_ob, ↓zip_l, ↓zip_t, ↓e_izip, ↓zip_cons, ↓zip_nil1, ↓zip_nil2, ↓f_sorted, ↓e_inn, ↓e_inc, ↓e_l2n, ↓e_l2c, ↓e_lc2, ↓e_rev, ↓e_pop, ↓e_popAt, ↓e_extend, ↓e_lc3, ↓e_gon, ↓e_goc, ↓e_dbMid, ↓e_dbIn, ↓f_neu, ↓e_ifT, ↓e_newD, ↓e_retO, ↓e_fixK, ↓e_putO, ↓e_dkO, ↓e_dkF, ↓e_kdO, ↓e_kdF, ↓e_get2O, ↓e_get2F, ↓e_ListD, ↓e_ListF, ↓od_o, ↓dct_d, ↓key_int, ↓key_str, ↓g_item, ↓g_get, ↓g_in, ↓g_notin, ↓h_list, ↓fz_od, ↓ow_ex, ↓e_tr, ↓e_trO, ↓e_trK, ↓tru_b, ↓tru_n, ↓tru_i, ↓tru_l, ↓tru_t, ↓tru_s, ↓e_i63, ↓n63_d, ↓e_ss, ↓e_ssL, ↓e_ssF, ↓e_never, ↓e_kget, ↓str_ex, ↓e_disp, ↓e_vnil, ↓e_vcons, ↓f_equ, ↓dgTup_tup, ↓dgCons_cons, ↓dgNil_nil, ite_t, ite_f, itK_not, List.cons_append, List.nil_append, List.append_nil, List.replicate, List.flatten_cons, List.flatten_nil, List.append_eq, List.length_cons, List.length_nil, Nat.zero_add, Nat.reduceAdd, true_and, and_true, eqOk_str, eqOk_int, eqOk_bool, str_eqv, int_eqv, tup_nil_eqv, lst_nil_eqv, rep_flat, isK_int, isK_bool, isK_tuple, isK_str, kInt, kBool, kTuple, kStr, GB.isNon, Bool.not_true, Bool.not_false, Bool.or_false, Bool.or_true, Bool.false_or, Bool.true_or, reduceCtorEq, wipeD, List.set, ↓s_draw]
    refine ⟨by decide, fun r r0 r1 => ?_⟩
    have r1 := r1 (by decide)
    have hp : (1 + r).toNat ≤ 4 := by omega
    refine ⟨Int.lt_of_lt_of_le (show 1 + r < 61 by omega) (by decide), Int.lt_of_lt_of_le (by decide : (-2 ^ 60 : Int) < 0) (by omega), line_ge (by rw [irow_len]; omega), all_run (P := Fld m) (fun acc l1 l2 => ?_) fun d hd acc K2 hK2 => ?_⟩
    · rw [irow_len] at l1
      refine ⟨Nat.lt_of_le_of_lt (show fs.length ≤ 60 by omega) (by decide), hK _ ⟨_, _, _, rfl, by rw [List.length_append, List.length_singleton]; omega, fun x hx => ?_⟩⟩
      rcases List.mem_append.mp hx with hx | hx
      · exact h2 x hx
      · exact ⟨acc, List.mem_singleton.mp hx, by omega, l2⟩
    · simp only [↓at0, ↓set0, ↓at1, ↓set1, ↓at2, ↓set2, ↓at3, ↓set3, ↓at4, ↓set4, ↓at5, ↓set5, ↓at6, ↓set6, ↓at7, ↓set7, ↓at8, ↓set8, ↓at9, ↓set9, ↓at10, ↓set10, ↓at11, ↓set11, ↓at12, ↓set12, ↓at13, ↓set13, ↓at14, ↓set14, ↓at15, ↓set15, ↓fz_d, ↓fz_own, ↓fz_ob, ↓one_d, ↓int_d, ↓bool_d, ↓own_o, ↓ds_nil, ↓ds_cons, ↓seq_l, ↓seq_t, ↓ite_t, ↓ite_f, ↓e_next, ↓e_seq, ↓e_set, ↓e_drop, ↓e_ret, ↓e_ifs, ↓e_brk, ↓e_cnt, ↓e_fixs, ↓e_par, ↓e_par3, ↓e_asg, ↓e_for, ↓e_putAt, ↓e_jput, ↓e_var, ↓e_k, ↓e_fz, ↓e_op, ↓e_opL, ↓e_opR, ↓e_n, ↓e_n1, ↓e_nil, ↓e_cons, ↓e_tup, ↓e_lst, ↓e_b, ↓e_not, ↓e_and, ↓e_or, ↓e_andV, ↓e_orV, ↓e_notV, ↓e_if, ↓e_isi, ↓e_neg, ↓e_chain, ↓e_call, ↓e_callK, ↓e_jint, ↓e_dict0, ↓e_dict1, ↓e_listRng, ↓e_append, ↓e_cut, ↓e_cutO, ↓e_onone, ↓e_osome, ↓e_iseq, ↓e_ienum, ↓e_irng, ↓e_gname, ↓e_lnil, ↓e_lcons, ↓e_lc, ↓e_yes, ↓f_addI, ↓f_addS, ↓f_addT, ↓f_addL, ↓f_i2, ↓f_mulI, ↓f_mulT, ↓f_mulL, ↓f_eq, ↓f_ne, ↓f_is, ↓f_isnot, ↓f_in, ↓f_notin, ↓f_ixL, ↓f_ixT, ↓f_lenL, ↓f_lenT, ↓f_lenS, ↓f_abs, ↓f_intI, ↓f_intB, ↓f_tupL, ↓f_tupT, ↓f_lstL, ↓f_lstT, ↓f_repr, ↓f_cutL, ↓f_cutT, ↓firm_d, ↓firm_ob, ↓zip_l, ↓zip_t, ↓e_izip, ↓zip_cons, ↓zip_nil1, ↓zip_nil2, ↓f_sorted, ↓e_inn, ↓e_inc, ↓e_l2n, ↓e_l2c, ↓e_lc2, ↓e_rev, ↓e_pop, ↓e_popAt, ↓e_extend, ↓e_lc3, ↓e_gon, ↓e_goc, ↓e_dbMid, ↓e_dbIn, ↓f_neu, ↓e_ifT, ↓e_newD, ↓e_retO, ↓e_fixK, ↓e_putO, ↓e_dkO, ↓e_dkF, ↓e_kdO, ↓e_kdF, ↓e_get2O, ↓e_get2F, ↓e_ListD, ↓e_ListF, ↓od_o, ↓dct_d, ↓key_int, ↓key_str, ↓g_item, ↓g_get, ↓g_in, ↓g_notin, ↓h_list, ↓fz_od, ↓ow_ex, ↓e_tr, ↓e_trO, ↓e_trK, ↓tru_b, ↓tru_n, ↓tru_i, ↓tru_l, ↓tru_t, ↓tru_s, ↓e_i63, ↓n63_d, ↓e_ss, ↓e_ssL, ↓e_ssF, ↓e_never, ↓e_kget, ↓str_ex, ↓e_disp, ↓e_vnil, ↓e_vcons, ↓f_equ, ↓dgTup_tup, ↓dgCons_cons, ↓dgNil_nil, ite_t, ite_f, itK_not, List.cons_append, List.nil_append, List.append_nil, List.replicate, List.flatten_cons, List.flatten_nil, List.append_eq, List.length_cons, List.length_nil, Nat.zero_add, Nat.reduceAdd, true_and, and_true, eqOk_str, eqOk_int, eqOk_bool, str_eqv, int_eqv, tup_nil_eqv, lst_nil_eqv, rep_flat, isK_int, isK_bool, isK_tuple, isK_str, kInt, kBool, kTuple, kStr, GB.isNon, Bool.not_true, Bool.not_false, Bool.or_false, Bool.or_true, Bool.false_or, Bool.true_or, reduceCtorEq, wipeD, List.set]
      exact ⟨by decide, line_ge (by omega), s_pick.mpr ⟨by simp, by rw [List.length_append, List.length_singleton]; omega, fun x hx => one_d.mpr (hK2 x (fld_of hc x hx))⟩⟩
theorem ma_l_heap : ∀ ss R, ss.length = 3 → F_l_heap ss R → rd_l_heap { nx := fun _ => R (.d .none), rt := R } (ss ++ List.replicate 4 .un) := by
  rintro _ R - ⟨n, m, us, rfl, hn, hu, hc, q⟩
  unfold rd_l_heap
  simp only [↓at0, ↓set0, ↓at1, ↓set1, ↓at2, ↓set2, ↓at3, ↓set3, ↓at4, ↓set4, ↓at5, ↓set5, ↓at6, ↓set6, ↓at7, ↓set7, ↓at8, ↓set8, ↓at9, ↓set9, ↓at10, ↓set10, ↓at11, ↓set11, ↓at12, ↓set12, ↓at13, ↓set13, ↓at14, ↓set14, ↓at15, ↓set15, ↓fz_d, ↓fz_own, ↓fz_ob, ↓one_d, ↓int_d, ↓bool_d, ↓own_o, ↓ds_nil, ↓ds_cons, ↓seq_l, ↓seq_t, ↓ite_t, ↓ite_f, ↓e_next, ↓e_seq, ↓e_set, ↓e_drop, ↓e_ret, ↓e_ifs, ↓e_brk, ↓e_cnt, ↓e_fixs, ↓e_par, ↓e_par3, ↓e_asg, ↓e_for, ↓e_putAt, ↓e_jput, ↓e_var, ↓e_k, ↓e_fz, ↓e_op, ↓e_opL, ↓e_opR, ↓e_n, ↓e_n1, ↓e_nil, ↓e_cons, ↓e_tup, ↓e_lst, ↓e_b, ↓e_not, ↓e_and, ↓e_or, ↓e_andV, ↓e_orV, ↓e_notV, ↓e_if, ↓e_isi, ↓e_neg, ↓e_chain, ↓e_call, ↓e_callK, ↓e_jint, ↓e_dict0, ↓e_dict1, ↓e_listRng, ↓e_append, ↓e_cut, ↓e_cutO, ↓e_onone, ↓e_osome, ↓e_iseq, ↓e_ienum, ↓e_irng, ↓e_gname, ↓e_lnil, ↓e_lcons, ↓e_lc, ↓e_yes, ↓f_addI, ↓f_addS, ↓f_addT, ↓f_addL, ↓f_i2, ↓f_mulI, ↓f_mulT, ↓f_mulL, ↓f_eq, ↓f_ne, ↓f_is, ↓f_isnot, ↓f_in, ↓f_notin, ↓f_ixL, ↓f_ixT, ↓f_lenL, ↓f_lenT, ↓f_lenS, ↓f_abs, ↓f_intI, ↓f_intB, ↓f_tupL, ↓f_tupT, ↓f_lstL, ↓f_lstT, ↓f_repr, ↓f_cutL, ↓f_cutT, ↓firm_d, ↓firm_ob, ↓zip_l, ↓zip_t, ↓e_izip, ↓zip_cons, ↓zip_nil1, ↓zip_nil2, ↓f_sorted, ↓e_inn, ↓e_inc, ↓e_l2n, ↓e_l2c, ↓e_lc2, ↓e_rev, ↓e_pop, ↓e_popAt, ↓e_extend, ↓e_lc3, ↓e_gon, ↓e_goc, ↓e_dbMid, ↓e_dbIn, ↓f_neu, ↓e_ifT, ↓e_newD, ↓e_retO, ↓e_fixK, ↓e_putO, ↓e_dkO, ↓e_dkF, ↓e_kdO, ↓e_kdF, ↓e_get2O, ↓e_get2F, ↓e_ListD, ↓e_ListF, ↓od_o, ↓dct_d, ↓key_int, ↓key_str, ↓g_item, ↓g_get, ↓g_in, ↓g_notin, ↓h_list, ↓fz_od, ↓ow_ex, ↓e_tr, ↓e_trO, ↓e_trK, ↓tru_b, ↓tru_n, ↓tru_i, ↓tru_l, ↓tru_t, ↓tru_s, ↓e_i63, ↓n63_d, ↓e_ss, ↓e_ssL, ↓e_ssF, ↓e_never, ↓e_kget, ↓str_ex, ↓e_disp, ↓e_vnil, ↓e_vcons, ↓f_equ, ↓dgTup_tup, ↓dgCons_cons, ↓dgNil_nil, ite_t, ite_f, itK_not, List.cons_append, List.nil_append, List.append_nil, List.replicate, List.flatten_cons, List.flatten_nil, List.append_eq, List.length_cons, List.length_nil, Nat.zero_add, Nat.reduceAdd, true_and, and_true, eqOk_str, eqOk_int, eqOk_bool, str_eqv, int_eqv, tup_nil_eqv, lst_nil_eqv, rep_flat, isK_int, isK_bool, isK_tuple, isK_str, kInt, kBool, kTuple, kStr, GB.isNon, Bool.not_true, Bool.not_false, Bool.or_false, Bool.or_true, Bool.false_or, Bool.true_or, reduceCtorEq, ]
  refine ⟨by decide, Int.lt_of_lt_of_le (show (n : Int) < 61 by omega) (by decide), Int.lt_of_lt_of_le (by decide : (-2 ^ 60 : Int) < 0) (by omega), loopR (fun _ j ρ => ∃ (fs : List PyData) (s4 s5 s6 : S), ρ = [S.ob Tk.jar, S.d (.int n), S.d (.list us), S.own fs, s4, s5, s6] ∧ fs.length + j = n ∧ ∀ x ∈ fs, Row m 3 x) ?_ ?_ _ 0 _ ⟨[], _, _, _, rfl, by simp, fun _ h => nomatch h⟩⟩
  · rintro k _ ⟨fs, s4, s5, s6, rfl, h1, h2⟩
    simp only [↓at0, ↓set0, ↓at1, ↓set1, ↓at2, ↓set2, ↓at3, ↓set3, ↓at4, ↓set4, ↓at5, ↓set5, ↓at6, ↓set6, ↓at7, ↓set7, ↓at8, ↓set8, ↓at9, ↓set9, ↓at10, ↓set10, ↓at11, ↓set11, ↓at12, ↓set12, ↓at13, ↓set13, ↓at14, ↓set14, ↓at15, ↓set15, ↓fz_d, ↓fz_own, ↓fz_ob, ↓one_d, ↓int_d, ↓bool_d, ↓own_o, ↓ds_nil, ↓ds_cons, ↓seq_l, ↓seq_t, ↓ite_t, ↓ite_f, ↓e_next, ↓e_seq, ↓e_set, ↓e_drop, ↓e_ret, ↓e_ifs, ↓e_brk, ↓e_cnt, ↓e_fixs, ↓e_par, ↓e_par3, ↓e_asg, ↓e_for, ↓e_putAt, ↓e_jput, ↓e_var, ↓e_k, ↓e_fz, ↓e_op, ↓e_opL, ↓e_opR, ↓e_n, ↓e_n1, ↓e_nil, ↓e_cons, ↓e_tup, ↓e_lst, ↓e_b, ↓e_not, ↓e_and, ↓e_or, ↓e_andV, ↓e_orV, ↓e_notV, ↓e_if, ↓e_isi, ↓e_neg, ↓e_chain, ↓e_call, ↓e_callK, ↓e_jint, ↓e_dict0, ↓e_dict1, ↓e_listRng, ↓e_append, ↓e_cut, ↓e_cutO, ↓e_onone, ↓e_osome, ↓e_iseq, ↓e_ienum, ↓e_irng, ↓e_gname, ↓e_lnil, ↓e_lcons, ↓e_lc, ↓e_yes, ↓f_addI, ↓f_addS, ↓f_addT, ↓f_addL, ↓f_i2, ↓f_mulI, ↓f_mulT, ↓f_mulL, ↓f_eq, ↓f_ne, ↓f_is, ↓f_isnot, ↓f_in, ↓f_notin, ↓f_ixL, ↓f_ixT, ↓f_lenL, ↓f_lenT, ↓f_lenS, ↓f_abs, ↓f_intI, ↓f_intB, ↓f_tupL, ↓f_tupT, ↓f_lstL, ↓f_lstT, ↓f_repr, ↓f_cutL, ↓f_cutT, ↓firm_d, ↓firm_ob, ↓zip_l, ↓zip_t, ↓e_izip, ↓zip_cons, ↓zip_nil1, ↓zip_nil2, ↓f_sorted, ↓e_inn, ↓e_inc, ↓e_l2n, ↓e_l2c, ↓e_lc2, ↓e_rev, ↓e_pop, ↓e_popAt, ↓e_extend, ↓e_lc3, ↓e_gon, ↓e_goc, ↓e_dbMid, ↓e_dbIn, ↓f_neu, ↓e_ifT, ↓e_newD, ↓e_retO, ↓e_fixK, ↓e_putO, ↓e_dkO, ↓e_dkF, ↓e_kdO, ↓e_kdF, ↓e_get2O, ↓e_get2F, ↓e_ListD, ↓e_ListF, ↓od_o, ↓dct_d, ↓key_int, ↓key_str, ↓g_item, ↓g_get, ↓g_in, ↓g_notin, ↓h_list, ↓fz_od, ↓ow_ex, ↓e_tr, ↓e_trO, ↓e_trK, ↓tru_b, ↓tru_n, ↓tru_i, ↓tru_l, ↓tru_t, ↓tru_s, ↓e_i63, ↓n63_d, ↓e_ss, ↓e_ssL, ↓e_ssF, ↓e_never, ↓e_kget, ↓str_ex, ↓e_disp, ↓e_vnil, ↓e_vcons, ↓f_equ, ↓dgTup_tup, ↓dgCons_cons, ↓dgNil_nil, ite_t, ite_f, itK_not, List.cons_append, List.nil_append, List.append_nil, List.replicate, List.flatten_cons, List.flatten_nil, List.append_eq, List.length_cons, List.length_nil, Nat.zero_add, Nat.reduceAdd, true_and, and_true, eqOk_str, eqOk_int, eqOk_bool, str_eqv, int_eqv, tup_nil_eqv, lst_nil_eqv, rep_flat, isK_int, isK_bool, isK_tuple, isK_str, kInt, kBool, kTuple, kStr, GB.isNon, Bool.not_true, Bool.not_false, Bool.or_false, Bool.or_true, Bool.false_or, Bool.true_or, reduceCtorEq, ]
    exact q fs (by omega) h2
  · rintro k j _ K hK ⟨fs, s4, s5, s6, rfl, h1, h2⟩
    simp only [↓at0, ↓set0, ↓at1, ↓set1, ↓at2, ↓set2, ↓at3, ↓set3, ↓at4, ↓set4, ↓at5, ↓set5, ↓at6, ↓set6, ↓at7, ↓set7, ↓at8, ↓set8, ↓at9, ↓set9, ↓at10, ↓set10, ↓at11, ↓set11, ↓at12, ↓set12, ↓at13, ↓set13, ↓at14, ↓set14, ↓at15, ↓set15, ↓fz_d, ↓fz_own, ↓fz_ob, ↓one_d, ↓int_d, ↓bool_d, ↓own_o, ↓ds_nil, ↓ds_cons, ↓seq_l, ↓seq_t, ↓ite_t, ↓ite_f, ↓e_next, ↓e_seq, ↓e_set, ↓e_drop, ↓e_ret, ↓e_ifs, ↓e_brk, ↓e_cnt, ↓e_fixs, ↓e_par, ↓e_par3, ↓e_asg, ↓e_for, ↓e_putAt, ↓e_jput, ↓e_var, ↓e_k, ↓e_fz, ↓e_op, ↓e_opL, ↓e_opR, ↓e_n, ↓e_n1, ↓e_nil, ↓e_cons, ↓e_tup, ↓e_lst, ↓e_b, ↓e_not, ↓e_and, ↓e_or, ↓e_andV, ↓e_orV, ↓e_notV, ↓e_if, ↓e_isi, ↓e_neg, ↓e_chain, ↓e_call, ↓e_callK, ↓e_jint, ↓e_dict0, ↓e_dict1, ↓e_listRng, ↓e_append, ↓e_cut, ↓e_cutO, ↓e_onone, ↓e_osome, ↓e_iseq, ↓e_ienum, ↓e_irng, ↓e_gname, ↓e_lnil, ↓e_lcons, ↓e_lc, ↓e_yes, ↓f_addI, ↓f_addS, ↓f_addT, ↓f_addL, ↓f_i2, ↓f_mulI, ↓f_mulT, ↓f_mulL, ↓f_eq, ↓f_ne, ↓f_is, ↓f_isnot, ↓f_in, ↓f_notin, ↓f_ixL, ↓f_ixT, ↓f_lenL, ↓f_lenT, ↓f_lenS, ↓f_abs, ↓f_intI, ↓f_intB, ↓f_tupL, ↓f_tupT, ↓f_lstL, ↓f_lstT, ↓f_repr, ↓f_cutL, ↓f_cutT, ↓firm_d, ↓firm_ob, ↓zip_l, ↓zip_t, ↓e_izip, ↓zip_cons, ↓zip_nil1, ↓zip_nil2, ↓f_sorted, ↓e_inn, ↓e_inc, ↓e_l2n, ↓e_l2c, ↓e_lc2, ↓e_rev, ↓e_pop, ↓e_popAt, ↓e_extend, ↓e_lc3, ↓e_gon, ↓e_goc, ↓e_dbMid, ↓e_dbIn, ↓f_neu, ↓e_ifT, ↓e_newD, ↓e_retO, ↓e_fixK, ↓e_putO, ↓e_dkO, ↓e_dkF, ↓e_kdO, ↓e_kdF, ↓e_get2O, ↓e_get2F, ↓e_ListD, ↓e_ListF, ↓od_o, ↓dct_d, ↓key_int, ↓key_str, ↓g_item, ↓g_get, ↓g_in, ↓g_notin, ↓h_list, ↓fz_od, ↓ow_ex, ↓e_tr, ↓e_trO, ↓e_trK, ↓tru_b, ↓tru_n, ↓tru_i, ↓tru_l, ↓tru_t, ↓tru_s, ↓e_i63, ↓n63_d, ↓e_ss, ↓e_ssL, ↓e_ssF, ↓e_never, ↓e_kget, ↓str_ex, ↓e_disp, ↓e_vnil, ↓e_vcons, ↓f_equ, ↓dgTup_tup, ↓dgCons_cons, ↓dgNil_nil, ite_t, ite_f, itK_not, List.cons_append, List.nil_append, List.append_nil, List.replicate, List.flatten_cons, List.flatten_nil, List.append_eq, List.length_cons, List.length_nil, Nat.zero_add, Nat.reduceAdd, true_and, and_true, eqOk_str, eqOk_int, eqOk_bool, str_eqv, int_eqv, tup_nil_eqv, lst_nil_eqv, rep_flat, isK_int, isK_bool, isK_tuple, isK_str, kInt, kBool, kTuple, kStr, GB.isNon, Bool.not_true, Bool.not_false, Bool.or_false, Bool.or_true, Bool.false_or, Bool.true_or, reduceCtorEq, wipeD, List.set, ↓s_pick]
    refine ⟨by decide, List.cons_ne_nil _ _, by decide, fun x hx => ?_⟩
    obtain ⟨p, rfl, hp⟩ : ∃ p : Nat, x = .int p ∧ p ≤ 3 := by
      simp only [List.mem_cons, List.not_mem_nil, or_false] at hx
      rcases hx with rfl | rfl | rfl | rfl | rfl | rfl
      · exact ⟨0, rfl, by decide⟩
      · exact ⟨1, rfl, by decide⟩
      · exact ⟨1, rfl, by decide⟩
      · exact ⟨2, rfl, by decide⟩
      · exact ⟨2, rfl, by decide⟩
      · exact ⟨3, rfl, by decide⟩
    simp only [↓at0, ↓set0, ↓at1, ↓set1, ↓at2, ↓set2, ↓at3, ↓set3, ↓at4, ↓set4, ↓at5, ↓set5, ↓at6, ↓set6, ↓at7, ↓set7, ↓at8, ↓set8, ↓at9, ↓set9, ↓at10, ↓set10, ↓at11, ↓set11, ↓at12, ↓set12, ↓at13, ↓set13, ↓at14, ↓set14, ↓at15, ↓set15, ↓fz_d, ↓fz_own, ↓fz_ob, ↓one_d, ↓int_d, ↓bool_d, ↓own_o, ↓ds_nil, ↓ds_cons, ↓seq_l, ↓seq_t, ↓ite_t, ↓ite_f, ↓e_next, ↓e_seq, ↓e_set, ↓e_drop, ↓e_ret, ↓e_ifs, ↓e_brk, ↓e_cnt, ↓e_fixs, ↓e_par, ↓e_par3, ↓e_asg, ↓e_for, ↓e_putAt, ↓e_jput, ↓e_var, ↓e_k, ↓e_fz, ↓e_op, ↓e_opL, ↓e_opR, ↓e_n, ↓e_n1, ↓e_nil, ↓e_cons, ↓e_tup, ↓e_lst, ↓e_b, ↓e_not, ↓e_and, ↓e_or, ↓e_andV, ↓e_orV, ↓e_notV, ↓e_if, ↓e_isi, ↓e_neg, ↓e_chain, ↓e_call, ↓e_callK, ↓e_jint, ↓e_dict0, ↓e_dict1, ↓e_listRng, ↓e_append, ↓e_cut, ↓e_cutO, ↓e_onone, ↓e_osome, ↓e_iseq, ↓e_ienum, ↓e_irng, ↓e_gname, ↓e_lnil, ↓e_lcons, ↓e_lc, ↓e_yes, ↓f_addI, ↓f_addS, ↓f_addT, ↓f_addL, ↓f_i2, ↓f_mulI, ↓f_mulT, ↓f_mulL, ↓f_eq, ↓f_ne, ↓f_is, ↓f_isnot, ↓f_in, ↓f_notin, ↓f_ixL, ↓f_ixT, ↓f_lenL, ↓f_lenT, ↓f_lenS, ↓f_abs, ↓f_intI, ↓f_intB, ↓f_tupL, ↓f_tupT, ↓f_lstL, ↓f_lstT, ↓f_repr, ↓f_cutL, ↓f_cutT, ↓firm_d, ↓firm_ob, ↓zip_l, ↓zip_t, ↓e_izip, ↓zip_cons, ↓zip_nil1, ↓zip_nil2, ↓f_sorted, ↓e_inn, ↓e_inc, ↓e_l2n, ↓e_l2c, ↓e_lc2, ↓e_rev, ↓e_pop, ↓e_popAt, ↓e_extend, ↓e_lc3, ↓e_gon, ↓e_goc, ↓e_dbMid, ↓e_dbIn, ↓f_neu, ↓e_ifT, ↓e_newD, ↓e_retO, ↓e_fixK, ↓e_putO, ↓e_dkO, ↓e_dkF, ↓e_kdO, ↓e_kdF, ↓e_get2O, ↓e_get2F, ↓e_ListD, ↓e_ListF, ↓od_o, ↓dct_d, ↓key_int, ↓key_str, ↓g_item, ↓g_get, ↓g_in, ↓g_notin, ↓h_list, ↓fz_od, ↓ow_ex, ↓e_tr, ↓e_trO, ↓e_trK, ↓tru_b, ↓tru_n, ↓tru_i, ↓tru_l, ↓tru_t, ↓tru_s, ↓e_i63, ↓n63_d, ↓e_ss, ↓e_ssL, ↓e_ssF, ↓e_never, ↓e_kget, ↓str_ex, ↓e_disp, ↓e_vnil, ↓e_vcons, ↓f_equ, ↓dgTup_tup, ↓dgCons_cons, ↓dgNil_nil, ite_t, ite_f, itK_not, List.cons_append, List.nil_append, List.append_nil, List.replicate, List.flatten_cons, List.flatten_nil, List.append_eq, List.length_cons, List.length_nil, Nat.zero_add, Nat.reduceAdd, true_and, and_true, eqOk_str, eqOk_int, eqOk_bool, str_eqv, int_eqv, tup_nil_eqv, lst_nil_eqv, rep_flat, isK_int, isK_bool, isK_tuple, isK_str, kInt, kBool, kTuple, kStr, GB.isNon, Bool.not_true, Bool.not_false, Bool.or_false, Bool.or_true, Bool.false_or, Bool.true_or, reduceCtorEq, ]
    refine ⟨Int.lt_of_lt_of_le (show (p : Int) < 61 by omega) (by decide), Int.lt_of_lt_of_le (by decide : (-2 ^ 60 : Int) < 0) (by omega), line_ge (by rw [irow_len]; simp; omega), all_run (P := Fld m) (fun acc l1 l2 => ?_) fun d hd acc K2 hK2 => ?_⟩
    · rw [irow_len] at l1
      refine ⟨Nat.lt_of_le_of_lt (show fs.length ≤ 60 by omega) (by decide), hK _ ⟨_, _, _, _, rfl, by rw [List.length_append, List.length_singleton]; omega, fun x hx => ?_⟩⟩
      rcases List.mem_append.mp hx with hx | hx
      · exact h2 x hx
      · exact ⟨acc, List.mem_singleton.mp hx, by simp at l1; omega, l2⟩
    · simp only [↓at0, ↓set0, ↓at1, ↓set1, ↓at2, ↓set2, ↓at3, ↓set3, ↓at4, ↓set4, ↓at5, ↓set5, ↓at6, ↓set6, ↓at7, ↓set7, ↓at8, ↓set8, ↓at9, ↓set9, ↓at10, ↓set10, ↓at11, ↓set11, ↓at12, ↓set12, ↓at13, ↓set13, ↓at14, ↓set14, ↓at15, ↓set15, ↓fz_d, ↓fz_own, ↓fz_ob, ↓one_d, ↓int_d, ↓bool_d, ↓own_o, ↓ds_nil, ↓ds_cons, ↓seq_l, ↓seq_t, ↓ite_t, ↓ite_f, ↓e_next, ↓e_seq, ↓e_set, ↓e_drop, ↓e_ret, ↓e_ifs, ↓e_brk, ↓e_cnt, ↓e_fixs, ↓e_par, ↓e_par3, ↓e_asg, ↓e_for, ↓e_putAt, ↓e_jput, ↓e_var, ↓e_k, ↓e_fz, ↓e_op, ↓e_opL, ↓e_opR, ↓e_n, ↓e_n1, ↓e_nil, ↓e_cons, ↓e_tup, ↓e_lst, ↓e_b, ↓e_not, ↓e_and, ↓e_or, ↓e_andV, ↓e_orV, ↓e_notV, ↓e_if, ↓e_isi, ↓e_neg, ↓e_chain, ↓e_call, ↓e_callK, ↓e_jint, ↓e_dict0, ↓e_dict1, ↓e_listRng, ↓e_append, ↓e_cut, ↓e_cutO, ↓e_onone, ↓e_osome, ↓e_iseq, ↓e_ienum, ↓e_irng, ↓e_gname, ↓e_lnil, ↓e_lcons, ↓e_lc, ↓e_yes, ↓f_addI, ↓f_addS, ↓f_addT, ↓f_addL, ↓f_i2, ↓f_mulI, ↓f_mulT, ↓f_mulL, ↓f_eq, ↓f_ne, ↓f_is, ↓f_isnot, ↓f_in, ↓f_notin, ↓f_ixL, ↓f_ixT, ↓f_lenL, ↓f_lenT, ↓f_lenS, ↓f_abs, ↓f_intI, ↓f_intB, ↓f_tupL, ↓f_tupT, ↓f_lstL, ↓f_lstT, ↓f_repr, ↓f_cutL, ↓f_cutT, ↓firm_d, ↓firm_ob, ↓zip_l, ↓zip_t, ↓e_izip, ↓zip_cons, ↓zip_nil1, ↓zip_nil2, ↓f_sorted, ↓e_inn, ↓e_inc, ↓e_l2n, ↓e_l2c, ↓e_lc2, ↓e_rev, ↓e_pop, ↓e_popAt, ↓e_extend, ↓e_lc3, ↓e_gon, ↓e_goc, ↓e_dbMid, ↓e_dbIn, ↓f_neu, ↓e_ifT, ↓e_newD, ↓e_retO, ↓e_fixK, ↓e_putO, ↓e_dkO, ↓e_dkF, ↓e_kdO, ↓e_kdF, ↓e_get2O, ↓e_get2F, ↓e_ListD, ↓e_ListF, ↓od_o, ↓dct_d, ↓key_int, ↓key_str, ↓g_item, ↓g_get, ↓g_in, ↓g_notin, ↓h_list, ↓fz_od, ↓ow_ex, ↓e_tr, ↓e_trO, ↓e_trK, ↓tru_b, ↓tru_n, ↓tru_i, ↓tru_l, ↓tru_t, ↓tru_s, ↓e_i63, ↓n63_d, ↓e_ss, ↓e_ssL, ↓e_ssF, ↓e_never, ↓e_kget, ↓str_ex, ↓e_disp, ↓e_vnil, ↓e_vcons, ↓f_equ, ↓dgTup_tup, ↓dgCons_cons, ↓dgNil_nil, ite_t, ite_f, itK_not, List.cons_append, List.nil_append, List.append_nil, List.replicate, List.flatten_cons, List.flatten_nil, List.append_eq, List.length_cons, List.length_nil, Nat.zero_add, Nat.reduceAdd, true_and, and_true, eqOk_str, eqOk_int, eqOk_bool, str_eqv, int_eqv, tup_nil_eqv, lst_nil_eqv, rep_flat, isK_int, isK_bool, isK_tuple, isK_str, kInt, kBool, kTuple, kStr, GB.isNon, Bool.not_true, Bool.not_false, Bool.or_false, Bool.or_true, Bool.false_or, Bool.true_or, reduceCtorEq, wipeD, List.set]
      exact ⟨by decide, line_ge (by omega), s_pick.mpr ⟨by simp, by rw [List.length_append, List.length_singleton]; omega, fun x hx => one_d.mpr (hK2 x (fld_of hc x hx))⟩⟩
theorem some_run {P : PyData → Prop} {ds : List PyData} {R : List PyData → Prop} {g : DTG} {tt : TTd} {te : TEd} {ρ : GB.En} {vs : List Nat} (hn : ∀ acc : List PyData, acc.length ≤ ds.length → (∀ x ∈ acc, P x) → R acc)
    (hc : ∀ d ∈ ds, ∀ (acc : List PyData) (K : List PyData → Prop), (∀ x, P x → K (acc ++ [x])) → K acc → g d ρ fun ρ2 => wipeD ρ2 vs = ρ ∧ tt ρ2 fun b ρ3 => ρ3 = ρ2 ∧ iteK b (te ρ2 fun s ρ4 => ρ4 = ρ2 ∧ oneK s fun y => K (acc ++ [y])) (K acc)) :
    dLcGo vs g tt te ρ R ds [] := by
  refine lcI (fun es acc => (∀ d ∈ es, d ∈ ds) ∧ acc.length + es.length ≤ ds.length ∧ ∀ x ∈ acc, P x) ?_ ?_ ds [] ⟨fun _ h => h, by simp, fun _ h => nomatch h⟩
  · rintro acc ⟨_, h1, h2⟩
    exact hn acc (by simpa using h1) h2
  · rintro d es acc K hK ⟨h0, h1, h2⟩
    refine hc d (h0 d (by simp)) acc K (fun x hx => hK _ ⟨fun z hz => h0 z (by simp [hz]), by rw [List.length_append]; simp at h1 ⊢; omega, fun z hz => ?_⟩) (hK _ ⟨fun z hz => h0 z (by simp [hz]), by simp at h1 ⊢; omega, h2⟩)
    rcases List.mem_append.mp hz with hz | hz
    · exact h2 z hz
    · rw [List.mem_singleton.mp hz]; exact hx
theorem irow_in {n : Nat} {x : PyData} (h : x ∈ irow 0 n) : ∃ i : Nat, x = .int i ∧ i < n := by
  unfold irow at h
  obtain ⟨i, h1, rfl⟩ := List.mem_map.mp h
  exact ⟨i, by simp, by simpa using h1⟩
theorem cells_in {n : Nat} {us : List PyData} (h : Cells n us) (k : Int) : ∃ b, inD (.int k) (.list us) = some b := by
  have h1 : SeqAt.shaped (.list us) = true := shp_list fun x hx => by
    obtain ⟨i, rfl, _⟩ := h x hx
    exact ⟨rfl, by simp [PyData.depth]⟩
  have h2 : SeqAt.shaped (.int k) = true := rfl
  exact ⟨_, if_pos ⟨h2, h1⟩⟩
theorem s_heap {k : S → Prop} {n m : Nat} {us : List PyData} (hn : n ≤ 60) (hu : us.length ≤ 60) (hc : Cells m us) (h : ∀ rows : List PyData, rows.length = n → (∀ x ∈ rows, Row m 3 x) → k (.d (.tuple rows))) : F_l_heap [.ob .jar, .d (.int n), .d (.list us)] k := ⟨n, m, us, rfl, hn, hu, hc, h⟩
theorem s_rooms {k : S → Prop} {n m : Nat} {us : List PyData} (hn : n ≤ 60) (hu : us.length ≤ 60) (hc : Cells m us) (h : ∀ rows : List PyData, rows.length = n → (∀ x ∈ rows, Row m 4 x) → k (.d (.tuple rows))) : F_l_rooms [.ob .jar, .d (.int n), .d (.list us)] k := ⟨n, m, us, rfl, hn, hu, hc, h⟩
theorem big {n : Nat} (h : n ≤ 60) : (n : Int) < 2 ^ 60 := Int.lt_of_lt_of_le (show (n : Int) < 61 by omega) (by decide)
theorem low {n : Nat} : (-2 ^ 60 : Int) < (n : Int) := Int.lt_of_lt_of_le (by decide : (-2 ^ 60 : Int) < 0) (by omega)
theorem inE' {x c : PyData} {v : Bool} {p : Bool → Prop} (e : inD x c = some v) : (∃ b, inD x c = some b ∧ p b) ↔ p v := ⟨fun ⟨_, h, q⟩ => by rw [e] at h; cases h; exact q, fun q => ⟨v, e, q⟩⟩
end GK

set_option maxRecDepth 100000
namespace GK
open PySem PySem.Spec PyProof.Rows L2 GB
structure Vy (D W : Nat) (x : PyData) : Prop where
  sh : x.showable = true
  ls : x.leavesShort 60 = true
  dp : x.depth ≤ D
  bk : x.bulk ≤ W
def vyB (D W : Nat) (x : PyData) : Bool := x.showable && x.leavesShort 60 && decide (x.depth ≤ D) && decide (x.bulk ≤ W)
theorem vy_of {D W : Nat} {x : PyData} (h : vyB D W x = true) : Vy D W x := by
  simp only [vyB, Bool.and_eq_true, decide_eq_true_eq] at h
  exact ⟨h.1.1.1, h.1.1.2, h.1.2, h.2⟩
theorem Vy.mono {D W D' W' : Nat} {x : PyData} (h : Vy D W x) (h1 : D ≤ D') (h2 : W ≤ W') : Vy D' W' x := ⟨h.sh, h.ls, Nat.le_trans h.dp h1, Nat.le_trans h.bk h2⟩
theorem vy_one {D W : Nat} {x : PyData} (h : Vy D W x) : Vy (D + 1) (W + 1) (.tuple [x]) := by
  refine ⟨by simp [PyData.showable, PyData.showableAll, h.sh], by simp [PyData.leavesShort, PyData.leavesShortAll, h.ls], ?_, ?_⟩
  · have := h.dp; simp only [PyData.depth, PyData.depthAll]; omega
  · have := h.bk; simp only [PyData.bulk, PyData.bulkAll]; omega
theorem vy_small {i : Nat} (h : i ≤ 60) : Vy 1 100 (.int i) := by
  have := List.all_eq_true.mp (show (List.range 61).all (fun i => vyB 1 100 (.int (i : Nat))) = true by decide +kernel) i (List.mem_range.mpr (by omega))
  exact vy_of this
/-! sizes, leaves below 60 -/
theorem Vy.fits {D W : Nat} {x : PyData} (h : Vy D W x) (hw : W ≤ 200000) : x.shown.length ≤ sizeLine := by
  have q := PyData.shown_le_bulk 60 (by decide) x h.ls
  have := h.bk
  have e : sizeLine = 16777216 := by decide
  rw [e]; omega
theorem vy_all {D W : Nat} : ∀ {xs : List PyData}, (∀ x ∈ xs, Vy D W x) → PyData.showableAll xs = true ∧ PyData.leavesShortAll 60 xs = true ∧ PyData.depthAll xs ≤ D ∧ PyData.bulkAll xs ≤ xs.length * (W + 1)
  | [], _ => ⟨rfl, rfl, by simp [PyData.depthAll], by simp [PyData.bulkAll]⟩
  | x :: xs, h => by
    have h0 := h x (by simp)
    obtain ⟨h1, h2, h3, h4⟩ := vy_all (xs := xs) fun y hy => h y (by simp [hy])
    refine ⟨by simp [PyData.showableAll, h0.sh, h1], by simp [PyData.leavesShortAll, h0.ls, h2], ?_, ?_⟩
    · have := h0.dp; simp only [PyData.depthAll]; omega
    · have := h0.bk
      simp only [PyData.bulkAll, List.length_cons]
      have e : (xs.length + 1) * (W + 1) = xs.length * (W + 1) + (W + 1) := by rw [Nat.add_mul, Nat.one_mul]
      rw [e]; omega
theorem vy_tup {D W n : Nat} {xs : List PyData} (h : ∀ x ∈ xs, Vy D W x) (hn : xs.length ≤ n) : Vy (D + 1) (n * (W + 1)) (.tuple xs) := by
  obtain ⟨h1, h2, h3, h4⟩ := vy_all h
  refine ⟨by simpa [PyData.showable] using h1, by simpa [PyData.leavesShort] using h2, by simp only [PyData.depth]; omega, ?_⟩
  simp only [PyData.bulk]
  exact Nat.le_trans h4 (Nat.mul_le_mul_right _ hn)
theorem vy_lst {D W n : Nat} {xs : List PyData} (h : ∀ x ∈ xs, Vy D W x) (hn : xs.length ≤ n) : Vy (D + 1) (n * (W + 1)) (.list xs) := by
  obtain ⟨h1, h2, h3, h4⟩ := vy_all h
  refine ⟨by simpa [PyData.showable] using h1, by simpa [PyData.leavesShort] using h2, by simp only [PyData.depth]; omega, ?_⟩
  simp only [PyData.bulk]
  exact Nat.le_trans h4 (Nat.mul_le_mul_right _ hn)
theorem fld_vy {n : Nat} (hn : n ≤ 60) {x : PyData} (h : Fld n x) : Vy 1 100 x := by
  rcases h with rfl | ⟨i, rfl, hi⟩
  · exact vy_of (by decide +kernel)
  · exact vy_small (by omega)
theorem mark_vy {fs : List PyData} (hf : fs.length ≤ 3) {x : PyData} (h : Mark fs x) : Vy 1 100 x := by
  rcases h with rfl | rfl | ⟨rfl, _⟩ | ⟨j, rfl, hj⟩
  · exact vy_of (by decide +kernel)
  · exact vy_of (by decide +kernel)
  · exact vy_of (by decide +kernel)
  · exact vy_small (by omega)
theorem st_vy {cs : List (List PyData × PyData)} {rm lk : List PyData} (hs : StOk cs) (hr : rm.length ≤ 60) (hr2 : ∀ x ∈ rm, Vy 2 500 x) (hl : lk.length ≤ 60) (hl2 : ∀ x ∈ lk, IsB x) : Vy 4 150000 (stD cs rm lk) := by
  have hn := hs.1
  have a : Vy 3 30600 (.tuple (cs.map fun c => .tuple c.1)) := (vy_tup (D := 2) (W := 303) (n := 60) (fun x hx => by
    obtain ⟨c, hc, rfl⟩ := List.mem_map.mp hx
    have k := hs.2 c hc
    exact (vy_tup (n := 3) (fun y hy => fld_vy hn (k.2.1 y hy)) k.1).mono (by decide) (by decide)) (by rw [List.length_map]; exact hn)).mono (by decide) (by decide)
  have b : Vy 3 30600 (.tuple (cs.map fun c => c.2)) := (vy_tup (D := 1) (W := 100) (n := 60) (fun x hx => by
    obtain ⟨c, hc, rfl⟩ := List.mem_map.mp hx
    have k := hs.2 c hc
    exact mark_vy k.1 k.2.2) (by rw [List.length_map]; exact hn)).mono (by decide) (by decide)
  have c : Vy 3 30600 (.tuple rm) := (vy_tup (n := 60) hr2 hr).mono (by decide) (by decide)
  have d : Vy 3 30600 (.tuple lk) := (vy_tup (D := 1) (W := 100) (n := 60) (fun x hx => by
    obtain ⟨v, rfl⟩ := hl2 x hx
    cases v <;> exact vy_of (by decide +kernel)) hl).mono (by decide) (by decide)
  exact (vy_tup (n := 4) (fun x hx => by
    simp only [List.mem_cons, List.not_mem_nil, or_false] at hx
    rcases hx with rfl | rfl | rfl | rfl <;> assumption) (by simp)).mono (by decide) (by decide)
theorem row_vy {n k : Nat} (hn : n ≤ 60) (hk : k ≤ 4) {x : PyData} (h : Row n k x) : Vy 2 500 x := by
  obtain ⟨xs, rfl, h1, h2⟩ := h
  exact (vy_tup (n := 4) (fun y hy => fld_vy hn (h2 y hy)) (by omega)).mono (by decide) (by decide)
end GK

set_option maxRecDepth 100000
namespace GK
open PySem PySem.Spec PyProof.Rows L2 GB
theorem s_draw' {k : S → Prop} {m : Int} : F_l_draw [.ob .jar, .d (.int m)] k ↔ m < 1073741824 ∧ ∀ r : Int, 0 ≤ r → (1 ≤ m → r < m) → k (.d (.int r)) := s_draw
theorem s_grey {k : S → Prop} {x : PyData} : F_p_is_grey [.d x] k ↔ k (.d (.bool (isK "int" x))) := by simp [F_p_is_grey]
theorem s_gone {k : S → Prop} {fs : List PyData} {mk : PyData} (hm : Mark fs mk) (h : k (.d (.tuple (goneF fs mk)))) : F_p_gone_through [.d (.tuple fs), .d mk] k := ⟨fs, mk, rfl, hm, h⟩
theorem mk_ix {cs : List (List PyData × PyData)} {i : Nat} (h : i < cs.length) {p : PyData → Prop} : (∃ v, atI (cs.map fun c => c.2) (i : Int) = some v ∧ p v) ↔ p (mkAt cs i) := by
  have e : (cs.map fun c => c.2)[i]? = some (mkAt cs i) := by
    rw [List.getElem?_map]
    unfold mkAt
    rw [List.getElem?_eq_getElem h]; rfl
  exact ixn (at_n e)
theorem fs_ix {cs : List (List PyData × PyData)} {i : Nat} (h : i < cs.length) {p : PyData → Prop} : (∃ v, atI (cs.map fun c => PyData.tuple c.1) (i : Int) = some v ∧ p v) ↔ p (.tuple (fsAt cs i)) := by
  have e : (cs.map fun c => PyData.tuple c.1)[i]? = some (.tuple (fsAt cs i)) := by
    rw [List.getElem?_map]
    unfold fsAt
    rw [List.getElem?_eq_getElem h]; rfl
  exact ixn (at_n e)
theorem at_cel {cs : List (List PyData × PyData)} (hs : StOk cs) {i : Nat} (h : i < cs.length) : (fsAt cs i).length ≤ 3 ∧ (∀ y ∈ fsAt cs i, Fld cs.length y) ∧ Mark (fsAt cs i) (mkAt cs i) := by
  have := hs.2 cs[i] (List.getElem_mem h)
  unfold fsAt mkAt
  rw [List.getElem?_eq_getElem h]
  exact this
theorem eqOk_mk {fs : List PyData} {mk : PyData} (hm : Mark fs mk) {z : Str} (hz : PyData.strOk z = true) : eqOk mk (.str z) = true := by
  rcases hm with rfl | rfl | ⟨rfl, _⟩ | ⟨j, rfl, hj⟩ <;> first | rfl | simp [eqOk, SeqAt.shaped, PyData.canLay0, PyData.depth, hz]
theorem blk_wh : PyData.eqv (.str "white") (.str "black") = false := by decide +kernel
theorem blk_bl : PyData.eqv (.str "black") (.str "black") = true := by decide +kernel
theorem blk_fr : PyData.eqv (.str "free") (.str "black") = false := by decide +kernel
theorem int_str {i : Int} {z : Str} : PyData.eqv (.int i) (.str z) = false := rfl
theorem gone_wh {fs : List PyData} : goneF fs (.str "white") = [] := by
  show (if (("white" : Str) == "black") = true then fs else []) = _
  rw [if_neg (by decide +kernel)]
theorem gone_bl {fs : List PyData} : goneF fs (.str "black") = fs := by
  show (if (("black" : Str) == "black") = true then fs else []) = _
  rw [if_pos (by decide +kernel)]
theorem gone_fr {fs : List PyData} : goneF fs (.str "free") = [] := by
  show (if (("free" : Str) == "black") = true then fs else []) = _
  rw [if_neg (by decide +kernel)]
theorem in_wf1 : inD (.str "white") (.tuple [.str "white", .str "free"]) = some true := by decide +kernel
theorem in_wf2 : inD (.str "free") (.tuple [.str "white", .str "free"]) = some true := by decide +kernel
theorem in_wf3 (j : Nat) : inD (.int j) (.tuple [.str "white", .str "free"]) = some false :=
  (if_pos ⟨rfl, by decide +kernel⟩ : inD (.int j) (.tuple [.str "white", .str "free"]) = some ([PyData.str "white", PyData.str "free"].any fun z => PyData.eqv z (.int (j : Int)))).trans rfl
theorem fld_len {n : Nat} {x : PyData} (h : Fld n x) : x.canLay0 = true ∧ x.depth ≤ 20 := by
  rcases h with rfl | ⟨i, rfl, _⟩
  · exact ⟨rfl, by simp [PyData.depth]⟩
  · exact ⟨rfl, by simp [PyData.depth]⟩
theorem in_row {n : Nat} {row : List PyData} (h : ∀ x ∈ row, Fld n x) (i : Nat) : inD (.int i) (.list row) = some (memB row i) := if_pos ⟨rfl, shp_list fun x hx => fld_len (h x hx)⟩
theorem whB_ok {cs : List (List PyData × PyData)} (hs : StOk cs) {i : Nat} (hi : i < cs.length) : eqOk (mkAt cs i) (.str "white") = true := eqOk_mk (at_cel hs hi).2.2 (by decide +kernel)
theorem mem_memB {row : List PyData} {n i : Nat} (h : ∀ x ∈ row, Fld n x) : memB row i = true ↔ PyData.int i ∈ row := by
  unfold memB
  rw [List.any_eq_true]
  constructor
  · rintro ⟨x, hx, e⟩
    rcases h x hx with rfl | ⟨j, rfl, hj⟩
    · cases e
    · rw [int_eqv, decide_eq_true_eq] at e
      rw [← e]; exact hx
  · intro hx
    exact ⟨_, hx, by rw [int_eqv, decide_eq_true_eq]⟩
theorem whN_mem {cs : List (List PyData × PyData)} {row : List PyData} {i : Nat} : i ∈ whN cs row ↔ i < cs.length ∧ memB row i = true ∧ whB cs i = true := by
  unfold whN
  rw [List.mem_filter, List.mem_range, Bool.and_eq_true]
theorem filt_run {p : PyData → Bool} {ds : List PyData} {R : List PyData → Prop} {g : DTG} {tt : TTd} {te : TEd} {ρ : GB.En} {vs : List Nat} (hn : R (ds.filter p))
    (hc : ∀ d ∈ ds, ∀ (acc : List PyData) (K : List PyData → Prop), (p d = true → K (acc ++ [d])) → (p d = false → K acc) → g d ρ fun ρ2 => wipeD ρ2 vs = ρ ∧ tt ρ2 fun b ρ3 => ρ3 = ρ2 ∧ iteK b (te ρ2 fun s ρ4 => ρ4 = ρ2 ∧ oneK s fun y => K (acc ++ [y])) (K acc)) :
    dLcGo vs g tt te ρ R ds [] := by
  refine lcI (fun es acc => (∀ d ∈ es, d ∈ ds) ∧ acc ++ es.filter p = ds.filter p) ?_ ?_ ds [] ⟨fun _ h => h, rfl⟩
  · rintro acc ⟨_, h1⟩
    have h1 : acc = ds.filter p := by rw [← h1]; simp
    rw [h1]; exact hn
  · rintro d es acc K hK ⟨h0, h1⟩
    refine hc d (h0 d (by simp)) acc K (fun e => hK _ ⟨fun z hz => h0 z (by simp [hz]), ?_⟩) fun e => hK _ ⟨fun z hz => h0 z (by simp [hz]), ?_⟩
    · rw [← h1, List.filter_cons, if_pos e]; simp
    · rw [← h1, List.filter_cons, if_neg (by rw [e]; decide)]
theorem irow_map (n : Nat) : irow 0 n = (List.range n).map fun i : Nat => PyData.int (i : Int) := by
  unfold irow
  exact List.map_congr_left fun i _ => by simp
theorem irow_filt (n : Nat) (p : Nat → Bool) : (irow 0 n).filter (fun x => p (iOf x)) = ((List.range n).filter p).map fun i : Nat => PyData.int (i : Int) := by
  rw [irow_map, List.filter_map]
  rfl
theorem s_whites {k : S → Prop} {cs : List (List PyData × PyData)} {rm lk row : List PyData} (hs : StOk cs) (hl : row.length ≤ 100000) (hr : ∀ x ∈ row, Fld cs.length x) (h : k (.d (.list (whD cs row)))) : F_l_whites [.d (stD cs rm lk), .d (.list row)] k := ⟨cs, rm, lk, row, rfl, hs, hl, hr, h⟩
theorem s_pwhites {k : S → Prop} {cs : List (List PyData × PyData)} {row : List PyData} (hs : StOk cs) (hl : row.length ≤ 100000) (hr : ∀ x ∈ row, Fld cs.length x) (h : k (.d (.tuple (whD cs row)))) : F_p_white_ones [.d (.tuple (cs.map fun c => c.2)), .d (.list row)] k := ⟨cs, row, _, rfl, .inl rfl, hs, hl, hr, h⟩
theorem s_pwhitesT {k : S → Prop} {cs : List (List PyData × PyData)} {row : List PyData} (hs : StOk cs) (hl : row.length ≤ 100000) (hr : ∀ x ∈ row, Fld cs.length x) (h : k (.d (.tuple (whD cs row)))) : F_p_white_ones [.d (.tuple (cs.map fun c => c.2)), .d (.tuple row)] k := ⟨cs, row, _, rfl, .inr rfl, hs, hl, hr, h⟩
theorem s_lgone {k : S → Prop} {cs : List (List PyData × PyData)} {rm lk : List PyData} {i : Nat} (hs : StOk cs) (hi : i < cs.length) (h : k (.d (.tuple (goneL cs i)))) : F_l_gone [.d (stD cs rm lk), .d (.int i)] k := ⟨cs, rm, lk, i, rfl, hs, hi, h⟩
theorem goneF_sub {fs : List PyData} {mk : PyData} : ∀ x ∈ goneF fs mk, x ∈ fs := fun x hx => by
  cases mk with
  | str z =>
    have hx : x ∈ (if (z == "black") = true then fs else []) := hx
    split at hx
    · exact hx
    · cases hx
  | int j => exact List.mem_of_mem_drop (List.mem_of_mem_take hx)
  | _ => cases hx
theorem goneF_len {fs : List PyData} {mk : PyData} : (goneF fs mk).length ≤ fs.length := by
  cases mk with
  | str z =>
    show (if (z == "black") = true then fs else []).length ≤ _
    split
    · exact Nat.le_refl _
    · exact Nat.zero_le _
  | int j => exact GB.cutD_len fs none (some j)
  | _ => exact Nat.zero_le _
theorem seen_fld {cs : List (List PyData × PyData)} (hs : StOk cs) : ∀ x ∈ seenL cs, Fld cs.length x := fun x hx => by
  obtain ⟨c, hc, h⟩ := List.mem_flatMap.mp hx
  exact (hs.2 c hc).2.1 x (goneF_sub x h)
theorem flat_len {α β : Type} {f : α → List β} {m : Nat} : ∀ {xs : List α}, (∀ x ∈ xs, (f x).length ≤ m) → (xs.flatMap f).length ≤ xs.length * m
  | [], _ => by simp
  | x :: xs, h => by
    have ih := flat_len (xs := xs) fun y hy => h y (by simp [hy])
    have := h x (by simp)
    rw [List.flatMap_cons, List.length_append, List.length_cons, Nat.add_mul, Nat.one_mul]
    omega
theorem seen_len {cs : List (List PyData × PyData)} (hs : StOk cs) : (seenL cs).length ≤ 180 := by
  have := flat_len (f := goneC) (m := 3) (xs := cs) fun c hc => Nat.le_trans goneF_len (hs.2 c hc).1
  have := hs.1
  unfold seenL
  omega
theorem goneL_at {cs : List (List PyData × PyData)} {i : Nat} (h : i < cs.length) : goneL cs i = goneC cs[i] := by
  unfold goneL goneC fsAt mkAt
  rw [List.getElem?_eq_getElem h]
  rfl
theorem pair_mem {ds : List PyData} : ∀ {k : Nat} {x : PyData}, x ∈ pairsFrom (k : Int) ds → ∃ (i : Nat) (h : i < ds.length), x = .tuple [.int ((k + i : Nat) : Int), ds[i]] := by
  induction ds with
  | nil => intro k x h; cases h
  | cons d ds ih =>
    intro k x h
    rcases List.mem_cons.mp (show x ∈ PyData.tuple [.int (k : Int), d] :: pairsFrom ((k : Int) + 1) ds from h) with rfl | h
    · exact ⟨0, by simp, rfl⟩
    · obtain ⟨i, hi, rfl⟩ := ih (k := k + 1) (by simpa using h)
      exact ⟨i + 1, by simpa using hi, by simp; omega⟩
theorem pair_flat {f : PyData → List PyData} {g : PyData → List PyData} {ds : List PyData} : ∀ {k : Int}, (∀ (j : Int) (d : PyData), d ∈ ds → f (.tuple [.int j, d]) = g d) → (pairsFrom k ds).flatMap f = ds.flatMap g := by
  induction ds with
  | nil => intro k _; rfl
  | cons d ds ih =>
    intro k h
    show (PyData.tuple [.int k, d] :: pairsFrom (k + 1) ds).flatMap f = _
    rw [List.flatMap_cons, List.flatMap_cons, h k d (by simp), ih fun j z hz => h j z (by simp [hz])]
theorem pair_len {ds : List PyData} : ∀ {k : Int}, (pairsFrom k ds).length = ds.length := by
  induction ds with
  | nil => intro k; rfl
  | cons d ds ih =>
    intro k
    show (PyData.tuple [.int k, d] :: pairsFrom (k + 1) ds).length = _
    rw [List.length_cons, ih, List.length_cons]
def enF (cs : List (List PyData × PyData)) : PyData → List PyData
  | .tuple [.int j, _] => goneL cs j.toNat
  | _ => []
theorem en_flat {cs : List (List PyData × PyData)} : ∀ (c' pre : List (List PyData × PyData)), cs = pre ++ c' → (pairsFrom (pre.length : Int) (c'.map fun c => PyData.tuple c.1)).flatMap (enF cs) = c'.flatMap goneC
  | [], _, _ => rfl
  | c :: c', pre, h => by
    show (PyData.tuple [.int (pre.length : Int), .tuple c.1] :: pairsFrom ((pre.length : Int) + 1) (c'.map fun c => PyData.tuple c.1)).flatMap (enF cs) = _
    have ih := en_flat (cs := cs) c' (pre ++ [c]) (by rw [h]; simp)
    have el : ((pre ++ [c]).length : Int) = pre.length + 1 := by simp
    rw [el] at ih
    rw [List.flatMap_cons, List.flatMap_cons, ih]
    have hi : pre.length < cs.length := by rw [h]; simp
    have e : enF cs (.tuple [.int (pre.length : Int), .tuple c.1]) = goneL cs pre.length := by simp [enF]
    rw [e, goneL_at hi]
    simp [h]
/-! what hands hold -/
theorem row_held {n : Nat} {rm lk : List PyData} (h : RmOk n rm lk) : (∀ x ∈ heldL rm lk, Fld n x) ∧ (heldL rm lk).length ≤ 240 := by
  have hr : ∀ p ∈ rm.zip lk, (heldP p).length ≤ 4 ∧ ∀ x ∈ heldP p, Fld n x := fun p hp => by
    obtain ⟨xs, e, h1, h2⟩ := h.2.2.1 p.1 (List.of_mem_zip hp).1
    unfold heldP
    split
    · rw [e]; exact ⟨h1, h2⟩
    · exact ⟨by simp, fun x hx => by cases hx⟩
  refine ⟨fun x hx => ?_, ?_⟩
  · obtain ⟨p, hp, hx⟩ := List.mem_flatMap.mp hx
    exact (hr p hp).2 x hx
  · have := flat_len (f := heldP) (m := 4) (xs := rm.zip lk) fun p hp => (hr p hp).1
    have l : (rm.zip lk).length ≤ 60 := by rw [List.length_zip]; have := h.1; omega
    unfold heldL
    omega
def hdF (lk : List PyData) : PyData → List PyData
  | .tuple [.int j, r] => heldP (r, (lk[j.toNat]?).getD .none)
  | _ => []
theorem hd_flat {lk : List PyData} : ∀ (rm' lk' pre : List PyData), lk = pre ++ lk' → rm'.length = lk'.length → (pairsFrom (pre.length : Int) rm').flatMap (hdF lk) = (rm'.zip lk').flatMap heldP
  | [], _, _, _, _ => by simp [pairsFrom]
  | r :: rm', [], _, _, h => by simp at h
  | r :: rm', b :: lk', pre, h, hl => by
    show (PyData.tuple [.int (pre.length : Int), r] :: pairsFrom ((pre.length : Int) + 1) rm').flatMap (hdF lk) = _
    have ih := hd_flat (lk := lk) rm' lk' (pre ++ [b]) (by rw [h]; simp) (by simpa using hl)
    have el : ((pre ++ [b]).length : Int) = pre.length + 1 := by simp
    rw [el] at ih
    rw [List.flatMap_cons, ih, List.zip_cons_cons, List.flatMap_cons]
    have e : hdF lk (.tuple [.int (pre.length : Int), r]) = heldP (r, b) := by simp [hdF, h]
    rw [e]
end GK

set_option maxRecDepth 100000
namespace GK
open PySem PySem.Spec PyProof.Rows L2 GB
theorem s_seen {k : S → Prop} {cs : List (List PyData × PyData)} {rm lk : List PyData} (hs : StOk cs) (h : k (.d (.tuple (whD cs (seenL cs))))) : F_seen_white [.d (stD cs rm lk)] k := ⟨cs, rm, lk, rfl, hs, h⟩
theorem s_held {k : S → Prop} {cs : List (List PyData × PyData)} {rm lk : List PyData} (hs : StOk cs) (hr : RmOk cs.length rm lk) (h : k (.d (.tuple (whD cs (heldL rm lk))))) : F_held_white [.d (stD cs rm lk)] k := ⟨cs, rm, lk, rfl, hs, hr, h⟩
theorem s_lseen {k : S → Prop} {cs : List (List PyData × PyData)} {rm lk : List PyData} (hs : StOk cs) (h : k (.d (.list (whD cs (seenL cs))))) : F_l_seen [.d (stD cs rm lk)] k := ⟨cs, rm, lk, rfl, hs, h⟩
theorem s_lheld {k : S → Prop} {cs : List (List PyData × PyData)} {rm lk : List PyData} (hs : StOk cs) (hr : RmOk cs.length rm lk) (h : k (.d (.list (whD cs (heldL rm lk))))) : F_l_held [.d (stD cs rm lk)] k := ⟨cs, rm, lk, rfl, hs, hr, h⟩
theorem s_std {k : S → Prop} {n m : Nat} (hn : n ≤ 60) (hm : m ≤ 60) (h : ∀ cs rm lk, cs.length = n → StOk cs → RmOk n rm lk → rm.length = m → k (.d (stD cs rm lk))) : F_l_any_standing [.ob .jar, .d (.int n), .d (.int m)] k :=
  ⟨n, m, rfl, hn, hm, fun cs rm lk h1 h2 h3 h4 h5 h6 => h cs rm lk h1 ⟨by omega, fun c hc => by rw [h1]; exact h2 c hc⟩ ⟨by omega, by omega, h4, h6⟩ h3⟩
theorem st_vy' {cs : List (List PyData × PyData)} {rm lk : List PyData} (hs : StOk cs) (hr : RmOk cs.length rm lk) : Vy 4 150000 (stD cs rm lk) := st_vy hs hr.1 (fun x hx => row_vy hs.1 (by decide) (hr.2.2.1 x hx)) (by rw [hr.2.1]; exact hr.1) hr.2.2.2
theorem wh_vy {cs : List (List PyData × PyData)} (hs : StOk cs) (row : List PyData) : Vy 2 7000 (.tuple (whD cs row)) := by
  refine (vy_tup (D := 1) (W := 100) (n := 60) (fun x hx => ?_) ?_).mono (by decide) (by decide)
  · obtain ⟨i, hi, rfl⟩ := List.mem_map.mp hx
    have := (whN_mem.mp hi).1
    exact vy_small (by have := hs.1; omega)
  · unfold whD whN
    rw [List.length_map]
    exact Nat.le_trans (List.length_filter_le _ _) (by rw [List.length_range]; exact hs.1)
theorem two_vy {D W : Nat} {x y : PyData} (h : Vy D W x) (k : Vy D W y) : Vy (D + 1) (2 * (W + 1)) (.list [x, y]) := vy_lst (fun z hz => by
  simp only [List.mem_cons, List.not_mem_nil, or_false] at hz
  rcases hz with rfl | rfl <;> assumption) (by simp)
theorem one_plus {r : Int} (h : 0 ≤ r) : ∃ m : Nat, 1 + r = m := ⟨(1 + r).toNat, by omega⟩
end GK

set_option maxRecDepth 100000
namespace GK
open PySem PySem.Spec PyProof.Rows L2 GB
theorem ma_is_integer : ∀ ss R, ss.length = 1 → F_is_integer ss R → rd_is_integer { nx := fun _ => R (.d .none), rt := R } (ss ++ List.replicate 0 .un) := by
  rintro _ R - ⟨x, rfl, q⟩
  unfold rd_is_integer
  simp only [↓at0, ↓set0, ↓at1, ↓set1, ↓at2, ↓set2, ↓at3, ↓set3, ↓at4, ↓set4, ↓at5, ↓set5, ↓at6, ↓set6, ↓at7, ↓set7, ↓at8, ↓set8, ↓at9, ↓set9, ↓at10, ↓set10, ↓at11, ↓set11, ↓at12, ↓set12, ↓at13, ↓set13, ↓at14, ↓set14, ↓at15, ↓set15, ↓fz_d, ↓fz_own, ↓fz_ob, ↓one_d, ↓int_d, ↓bool_d, ↓own_o, ↓ds_nil, ↓ds_cons, ↓seq_l, ↓seq_t, ↓ite_t, ↓ite_f, ↓e_next, ↓e_seq, ↓e_set, ↓e_drop, ↓e_ret, ↓e_ifs, ↓e_brk, ↓e_cnt, ↓e_fixs, ↓e_par, ↓e_par3, ↓e_asg, ↓e_for, ↓e_putAt, ↓e_jput, ↓e_var, ↓e_k, ↓e_fz, ↓e_op, ↓e_opL, ↓e_opR, ↓e_n, ↓e_n1, ↓e_nil, ↓e_cons, ↓e_tup, ↓e_lst, ↓e_b, ↓e_not, ↓e_and, ↓e_or, ↓e_andV, ↓e_orV, ↓e_notV, ↓e_if, ↓e_isi, ↓e_neg, ↓e_chain, ↓e_call, ↓e_callK, ↓e_jint, ↓e_dict0, ↓e_dict1, ↓e_listRng, ↓e_append, ↓e_cut, ↓e_cutO, ↓e_onone, ↓e_osome, ↓e_iseq, ↓e_ienum, ↓e_irng, ↓e_gname, ↓e_lnil, ↓e_lcons, ↓e_lc, ↓e_yes, ↓f_addI, ↓f_addS, ↓f_addT, ↓f_addL, ↓f_i2, ↓f_mulI, ↓f_mulT, ↓f_mulL, ↓f_eq, ↓f_ne, ↓f_is, ↓f_isnot, ↓f_in, ↓f_notin, ↓f_ixL, ↓f_ixT, ↓f_lenL, ↓f_lenT, ↓f_lenS, ↓f_abs, ↓f_intI, ↓f_intB, ↓f_tupL, ↓f_tupT, ↓f_lstL, ↓f_lstT, ↓f_repr, ↓f_cutL, ↓f_cutT, ↓firm_d, ↓firm_ob, ↓zip_l, ↓zip_t, ↓e_izip, ↓zip_cons, ↓zip_nil1, ↓zip_nil2, ↓f_sorted, ↓e_inn, ↓e_inc, ↓e_l2n, ↓e_l2c, ↓e_lc2, ↓e_rev, ↓e_pop, ↓e_popAt, ↓e_extend, ↓e_lc3, ↓e_gon, ↓e_goc, ↓e_dbMid, ↓e_dbIn, ↓f_neu, ↓e_ifT, ↓e_newD, ↓e_retO, ↓e_fixK, ↓e_putO, ↓e_dkO, ↓e_dkF, ↓e_kdO, ↓e_kdF, ↓e_get2O, ↓e_get2F, ↓e_ListD, ↓e_ListF, ↓od_o, ↓dct_d, ↓key_int, ↓key_str, ↓g_item, ↓g_get, ↓g_in, ↓g_notin, ↓h_list, ↓fz_od, ↓ow_ex, ↓e_tr, ↓e_trO, ↓e_trK, ↓tru_b, ↓tru_n, ↓tru_i, ↓tru_l, ↓tru_t, ↓tru_s, ↓e_i63, ↓n63_d, ↓e_ss, ↓e_ssL, ↓e_ssF, ↓e_never, ↓e_kget, ↓str_ex, ↓e_disp, ↓e_vnil, ↓e_vcons, ↓f_equ, ↓dgTup_tup, ↓dgCons_cons, ↓dgNil_nil, ite_t, ite_f, itK_not, List.cons_append, List.nil_append, List.append_nil, List.replicate, List.flatten_cons, List.flatten_nil, List.append_eq, List.length_cons, List.length_nil, Nat.zero_add, Nat.reduceAdd, true_and, and_true, eqOk_str, eqOk_int, eqOk_bool, str_eqv, int_eqv, tup_nil_eqv, lst_nil_eqv, rep_flat, isK_int, isK_bool, isK_tuple, isK_str, kInt, kBool, kTuple, kStr, GB.isNon, Bool.not_true, Bool.not_false, Bool.or_false, Bool.or_true, Bool.false_or, Bool.true_or, reduceCtorEq, ]
  cases x <;> exact q
theorem ma_is_number_below : ∀ ss R, ss.length = 2 → F_is_number_below ss R → rd_is_number_below { nx := fun _ => R (.d .none), rt := R } (ss ++ List.replicate 0 .un) := by
  rintro _ R - ⟨x, n, rfl, q⟩
  unfold rd_is_number_below
  simp only [↓at0, ↓set0, ↓at1, ↓set1, ↓at2, ↓set2, ↓at3, ↓set3, ↓at4, ↓set4, ↓at5, ↓set5, ↓at6, ↓set6, ↓at7, ↓set7, ↓at8, ↓set8, ↓at9, ↓set9, ↓at10, ↓set10, ↓at11, ↓set11, ↓at12, ↓set12, ↓at13, ↓set13, ↓at14, ↓set14, ↓at15, ↓set15, ↓fz_d, ↓fz_own, ↓fz_ob, ↓one_d, ↓int_d, ↓bool_d, ↓own_o, ↓ds_nil, ↓ds_cons, ↓seq_l, ↓seq_t, ↓ite_t, ↓ite_f, ↓e_next, ↓e_seq, ↓e_set, ↓e_drop, ↓e_ret, ↓e_ifs, ↓e_brk, ↓e_cnt, ↓e_fixs, ↓e_par, ↓e_par3, ↓e_asg, ↓e_for, ↓e_putAt, ↓e_jput, ↓e_var, ↓e_k, ↓e_fz, ↓e_op, ↓e_opL, ↓e_opR, ↓e_n, ↓e_n1, ↓e_nil, ↓e_cons, ↓e_tup, ↓e_lst, ↓e_b, ↓e_not, ↓e_and, ↓e_or, ↓e_andV, ↓e_orV, ↓e_notV, ↓e_if, ↓e_isi, ↓e_neg, ↓e_chain, ↓e_call, ↓e_callK, ↓e_jint, ↓e_dict0, ↓e_dict1, ↓e_listRng, ↓e_append, ↓e_cut, ↓e_cutO, ↓e_onone, ↓e_osome, ↓e_iseq, ↓e_ienum, ↓e_irng, ↓e_gname, ↓e_lnil, ↓e_lcons, ↓e_lc, ↓e_yes, ↓f_addI, ↓f_addS, ↓f_addT, ↓f_addL, ↓f_i2, ↓f_mulI, ↓f_mulT, ↓f_mulL, ↓f_eq, ↓f_ne, ↓f_is, ↓f_isnot, ↓f_in, ↓f_notin, ↓f_ixL, ↓f_ixT, ↓f_lenL, ↓f_lenT, ↓f_lenS, ↓f_abs, ↓f_intI, ↓f_intB, ↓f_tupL, ↓f_tupT, ↓f_lstL, ↓f_lstT, ↓f_repr, ↓f_cutL, ↓f_cutT, ↓firm_d, ↓firm_ob, ↓zip_l, ↓zip_t, ↓e_izip, ↓zip_cons, ↓zip_nil1, ↓zip_nil2, ↓f_sorted, ↓e_inn, ↓e_inc, ↓e_l2n, ↓e_l2c, ↓e_lc2, ↓e_rev, ↓e_pop, ↓e_popAt, ↓e_extend, ↓e_lc3, ↓e_gon, ↓e_goc, ↓e_dbMid, ↓e_dbIn, ↓f_neu, ↓e_ifT, ↓e_newD, ↓e_retO, ↓e_fixK, ↓e_putO, ↓e_dkO, ↓e_dkF, ↓e_kdO, ↓e_kdF, ↓e_get2O, ↓e_get2F, ↓e_ListD, ↓e_ListF, ↓od_o, ↓dct_d, ↓key_int, ↓key_str, ↓g_item, ↓g_get, ↓g_in, ↓g_notin, ↓h_list, ↓fz_od, ↓ow_ex, ↓e_tr, ↓e_trO, ↓e_trK, ↓tru_b, ↓tru_n, ↓tru_i, ↓tru_l, ↓tru_t, ↓tru_s, ↓e_i63, ↓n63_d, ↓e_ss, ↓e_ssL, ↓e_ssF, ↓e_never, ↓e_kget, ↓str_ex, ↓e_disp, ↓e_vnil, ↓e_vcons, ↓f_equ, ↓dgTup_tup, ↓dgCons_cons, ↓dgNil_nil, ite_t, ite_f, itK_not, List.cons_append, List.nil_append, List.append_nil, List.replicate, List.flatten_cons, List.flatten_nil, List.append_eq, List.length_cons, List.length_nil, Nat.zero_add, Nat.reduceAdd, true_and, and_true, eqOk_str, eqOk_int, eqOk_bool, str_eqv, int_eqv, tup_nil_eqv, lst_nil_eqv, rep_flat, isK_int, isK_bool, isK_tuple, isK_str, kInt, kBool, kTuple, kStr, GB.isNon, Bool.not_true, Bool.not_false, Bool.or_false, Bool.or_true, Bool.false_or, Bool.true_or, reduceCtorEq, ]
  refine ⟨x, rfl, ?_⟩
  simp only [↓at0, ↓set0, ↓at1, ↓set1, ↓at2, ↓set2, ↓at3, ↓set3, ↓at4, ↓set4, ↓at5, ↓set5, ↓at6, ↓set6, ↓at7, ↓set7, ↓at8, ↓set8, ↓at9, ↓set9, ↓at10, ↓set10, ↓at11, ↓set11, ↓at12, ↓set12, ↓at13, ↓set13, ↓at14, ↓set14, ↓at15, ↓set15, ↓fz_d, ↓fz_own, ↓fz_ob, ↓one_d, ↓int_d, ↓bool_d, ↓own_o, ↓ds_nil, ↓ds_cons, ↓seq_l, ↓seq_t, ↓ite_t, ↓ite_f, ↓e_next, ↓e_seq, ↓e_set, ↓e_drop, ↓e_ret, ↓e_ifs, ↓e_brk, ↓e_cnt, ↓e_fixs, ↓e_par, ↓e_par3, ↓e_asg, ↓e_for, ↓e_putAt, ↓e_jput, ↓e_var, ↓e_k, ↓e_fz, ↓e_op, ↓e_opL, ↓e_opR, ↓e_n, ↓e_n1, ↓e_nil, ↓e_cons, ↓e_tup, ↓e_lst, ↓e_b, ↓e_not, ↓e_and, ↓e_or, ↓e_andV, ↓e_orV, ↓e_notV, ↓e_if, ↓e_isi, ↓e_neg, ↓e_chain, ↓e_call, ↓e_callK, ↓e_jint, ↓e_dict0, ↓e_dict1, ↓e_listRng, ↓e_append, ↓e_cut, ↓e_cutO, ↓e_onone, ↓e_osome, ↓e_iseq, ↓e_ienum, ↓e_irng, ↓e_gname, ↓e_lnil, ↓e_lcons, ↓e_lc, ↓e_yes, ↓f_addI, ↓f_addS, ↓f_addT, ↓f_addL, ↓f_i2, ↓f_mulI, ↓f_mulT, ↓f_mulL, ↓f_eq, ↓f_ne, ↓f_is, ↓f_isnot, ↓f_in, ↓f_notin, ↓f_ixL, ↓f_ixT, ↓f_lenL, ↓f_lenT, ↓f_lenS, ↓f_abs, ↓f_intI, ↓f_intB, ↓f_tupL, ↓f_tupT, ↓f_lstL, ↓f_lstT, ↓f_repr, ↓f_cutL, ↓f_cutT, ↓firm_d, ↓firm_ob, ↓zip_l, ↓zip_t, ↓e_izip, ↓zip_cons, ↓zip_nil1, ↓zip_nil2, ↓f_sorted, ↓e_inn, ↓e_inc, ↓e_l2n, ↓e_l2c, ↓e_lc2, ↓e_rev, ↓e_pop, ↓e_popAt, ↓e_extend, ↓e_lc3, ↓e_gon, ↓e_goc, ↓e_dbMid, ↓e_dbIn, ↓f_neu, ↓e_ifT, ↓e_newD, ↓e_retO, ↓e_fixK, ↓e_putO, ↓e_dkO, ↓e_dkF, ↓e_kdO, ↓e_kdF, ↓e_get2O, ↓e_get2F, ↓e_ListD, ↓e_ListF, ↓od_o, ↓dct_d, ↓key_int, ↓key_str, ↓g_item, ↓g_get, ↓g_in, ↓g_notin, ↓h_list, ↓fz_od, ↓ow_ex, ↓e_tr, ↓e_trO, ↓e_trK, ↓tru_b, ↓tru_n, ↓tru_i, ↓tru_l, ↓tru_t, ↓tru_s, ↓e_i63, ↓n63_d, ↓e_ss, ↓e_ssL, ↓e_ssF, ↓e_never, ↓e_kget, ↓str_ex, ↓e_disp, ↓e_vnil, ↓e_vcons, ↓f_equ, ↓dgTup_tup, ↓dgCons_cons, ↓dgNil_nil, ite_t, ite_f, itK_not, List.cons_append, List.nil_append, List.append_nil, List.replicate, List.flatten_cons, List.flatten_nil, List.append_eq, List.length_cons, List.length_nil, Nat.zero_add, Nat.reduceAdd, true_and, and_true, eqOk_str, eqOk_int, eqOk_bool, str_eqv, int_eqv, tup_nil_eqv, lst_nil_eqv, rep_flat, isK_int, isK_bool, isK_tuple, isK_str, kInt, kBool, kTuple, kStr, GB.isNon, Bool.not_true, Bool.not_false, Bool.or_false, Bool.or_true, Bool.false_or, Bool.true_or, reduceCtorEq, ]
  cases x with
  | int i =>
    simp only [↓at0, ↓set0, ↓at1, ↓set1, ↓at2, ↓set2, ↓at3, ↓set3, ↓at4, ↓set4, ↓at5, ↓set5, ↓at6, ↓set6, ↓at7, ↓set7, ↓at8, ↓set8, ↓at9, ↓set9, ↓at10, ↓set10, ↓at11, ↓set11, ↓at12, ↓set12, ↓at13, ↓set13, ↓at14, ↓set14, ↓at15, ↓set15, ↓fz_d, ↓fz_own, ↓fz_ob, ↓one_d, ↓int_d, ↓bool_d, ↓own_o, ↓ds_nil, ↓ds_cons, ↓seq_l, ↓seq_t, ↓ite_t, ↓ite_f, ↓e_next, ↓e_seq, ↓e_set, ↓e_drop, ↓e_ret, ↓e_ifs, ↓e_brk, ↓e_cnt, ↓e_fixs, ↓e_par, ↓e_par3, ↓e_asg, ↓e_for, ↓e_putAt, ↓e_jput, ↓e_var, ↓e_k, ↓e_fz, ↓e_op, ↓e_opL, ↓e_opR, ↓e_n, ↓e_n1, ↓e_nil, ↓e_cons, ↓e_tup, ↓e_lst, ↓e_b, ↓e_not, ↓e_and, ↓e_or, ↓e_andV, ↓e_orV, ↓e_notV, ↓e_if, ↓e_isi, ↓e_neg, ↓e_chain, ↓e_call, ↓e_callK, ↓e_jint, ↓e_dict0, ↓e_dict1, ↓e_listRng, ↓e_append, ↓e_cut, ↓e_cutO, ↓e_onone, ↓e_osome, ↓e_iseq, ↓e_ienum, ↓e_irng, ↓e_gname, ↓e_lnil, ↓e_lcons, ↓e_lc, ↓e_yes, ↓f_addI, ↓f_addS, ↓f_addT, ↓f_addL, ↓f_i2, ↓f_mulI, ↓f_mulT, ↓f_mulL, ↓f_eq, ↓f_ne, ↓f_is, ↓f_isnot, ↓f_in, ↓f_notin, ↓f_ixL, ↓f_ixT, ↓f_lenL, ↓f_lenT, ↓f_lenS, ↓f_abs, ↓f_intI, ↓f_intB, ↓f_tupL, ↓f_tupT, ↓f_lstL, ↓f_lstT, ↓f_repr, ↓f_cutL, ↓f_cutT, ↓firm_d, ↓firm_ob, ↓zip_l, ↓zip_t, ↓e_izip, ↓zip_cons, ↓zip_nil1, ↓zip_nil2, ↓f_sorted, ↓e_inn, ↓e_inc, ↓e_l2n, ↓e_l2c, ↓e_lc2, ↓e_rev, ↓e_pop, ↓e_popAt, ↓e_extend, ↓e_lc3, ↓e_gon, ↓e_goc, ↓e_dbMid, ↓e_dbIn, ↓f_neu, ↓e_ifT, ↓e_newD, ↓e_retO, ↓e_fixK, ↓e_putO, ↓e_dkO, ↓e_dkF, ↓e_kdO, ↓e_kdF, ↓e_get2O, ↓e_get2F, ↓e_ListD, ↓e_ListF, ↓od_o, ↓dct_d, ↓key_int, ↓key_str, ↓g_item, ↓g_get, ↓g_in, ↓g_notin, ↓h_list, ↓fz_od, ↓ow_ex, ↓e_tr, ↓e_trO, ↓e_trK, ↓tru_b, ↓tru_n, ↓tru_i, ↓tru_l, ↓tru_t, ↓tru_s, ↓e_i63, ↓n63_d, ↓e_ss, ↓e_ssL, ↓e_ssF, ↓e_never, ↓e_kget, ↓str_ex, ↓e_disp, ↓e_vnil, ↓e_vcons, ↓f_equ, ↓dgTup_tup, ↓dgCons_cons, ↓dgNil_nil, ite_t, ite_f, itK_not, List.cons_append, List.nil_append, List.append_nil, List.replicate, List.flatten_cons, List.flatten_nil, List.append_eq, List.length_cons, List.length_nil, Nat.zero_add, Nat.reduceAdd, true_and, and_true, eqOk_str, eqOk_int, eqOk_bool, str_eqv, int_eqv, tup_nil_eqv, lst_nil_eqv, rep_flat, isK_int, isK_bool, isK_tuple, isK_str, kInt, kBool, kTuple, kStr, GB.isNon, Bool.not_true, Bool.not_false, Bool.or_false, Bool.or_true, Bool.false_or, Bool.true_or, reduceCtorEq, ]
    by_cases h : 0 ≤ i
    · rw [decide_eq_true h]
      refine ite_t.mpr ?_
      simpa [cellB, h] using q
    · rw [decide_eq_false h]
      refine ite_f.mpr ?_
      simpa [cellB, h] using q
  | _ => exact q
theorem ma_is_tuple_of : ∀ ss R, ss.length = 3 → F_is_tuple_of ss R → rd_is_tuple_of { nx := fun _ => R (.d .none), rt := R } (ss ++ List.replicate 0 .un) := by
  rintro _ R - ⟨x, l, m, rfl, q⟩
  unfold rd_is_tuple_of
  simp only [↓at0, ↓set0, ↓at1, ↓set1, ↓at2, ↓set2, ↓at3, ↓set3, ↓at4, ↓set4, ↓at5, ↓set5, ↓at6, ↓set6, ↓at7, ↓set7, ↓at8, ↓set8, ↓at9, ↓set9, ↓at10, ↓set10, ↓at11, ↓set11, ↓at12, ↓set12, ↓at13, ↓set13, ↓at14, ↓set14, ↓at15, ↓set15, ↓fz_d, ↓fz_own, ↓fz_ob, ↓one_d, ↓int_d, ↓bool_d, ↓own_o, ↓ds_nil, ↓ds_cons, ↓seq_l, ↓seq_t, ↓ite_t, ↓ite_f, ↓e_next, ↓e_seq, ↓e_set, ↓e_drop, ↓e_ret, ↓e_ifs, ↓e_brk, ↓e_cnt, ↓e_fixs, ↓e_par, ↓e_par3, ↓e_asg, ↓e_for, ↓e_putAt, ↓e_jput, ↓e_var, ↓e_k, ↓e_fz, ↓e_op, ↓e_opL, ↓e_opR, ↓e_n, ↓e_n1, ↓e_nil, ↓e_cons, ↓e_tup, ↓e_lst, ↓e_b, ↓e_not, ↓e_and, ↓e_or, ↓e_andV, ↓e_orV, ↓e_notV, ↓e_if, ↓e_isi, ↓e_neg, ↓e_chain, ↓e_call, ↓e_callK, ↓e_jint, ↓e_dict0, ↓e_dict1, ↓e_listRng, ↓e_append, ↓e_cut, ↓e_cutO, ↓e_onone, ↓e_osome, ↓e_iseq, ↓e_ienum, ↓e_irng, ↓e_gname, ↓e_lnil, ↓e_lcons, ↓e_lc, ↓e_yes, ↓f_addI, ↓f_addS, ↓f_addT, ↓f_addL, ↓f_i2, ↓f_mulI, ↓f_mulT, ↓f_mulL, ↓f_eq, ↓f_ne, ↓f_is, ↓f_isnot, ↓f_in, ↓f_notin, ↓f_ixL, ↓f_ixT, ↓f_lenL, ↓f_lenT, ↓f_lenS, ↓f_abs, ↓f_intI, ↓f_intB, ↓f_tupL, ↓f_tupT, ↓f_lstL, ↓f_lstT, ↓f_repr, ↓f_cutL, ↓f_cutT, ↓firm_d, ↓firm_ob, ↓zip_l, ↓zip_t, ↓e_izip, ↓zip_cons, ↓zip_nil1, ↓zip_nil2, ↓f_sorted, ↓e_inn, ↓e_inc, ↓e_l2n, ↓e_l2c, ↓e_lc2, ↓e_rev, ↓e_pop, ↓e_popAt, ↓e_extend, ↓e_lc3, ↓e_gon, ↓e_goc, ↓e_dbMid, ↓e_dbIn, ↓f_neu, ↓e_ifT, ↓e_newD, ↓e_retO, ↓e_fixK, ↓e_putO, ↓e_dkO, ↓e_dkF, ↓e_kdO, ↓e_kdF, ↓e_get2O, ↓e_get2F, ↓e_ListD, ↓e_ListF, ↓od_o, ↓dct_d, ↓key_int, ↓key_str, ↓g_item, ↓g_get, ↓g_in, ↓g_notin, ↓h_list, ↓fz_od, ↓ow_ex, ↓e_tr, ↓e_trO, ↓e_trK, ↓tru_b, ↓tru_n, ↓tru_i, ↓tru_l, ↓tru_t, ↓tru_s, ↓e_i63, ↓n63_d, ↓e_ss, ↓e_ssL, ↓e_ssF, ↓e_never, ↓e_kget, ↓str_ex, ↓e_disp, ↓e_vnil, ↓e_vcons, ↓f_equ, ↓dgTup_tup, ↓dgCons_cons, ↓dgNil_nil, ite_t, ite_f, itK_not, List.cons_append, List.nil_append, List.append_nil, List.replicate, List.flatten_cons, List.flatten_nil, List.append_eq, List.length_cons, List.length_nil, Nat.zero_add, Nat.reduceAdd, true_and, and_true, eqOk_str, eqOk_int, eqOk_bool, str_eqv, int_eqv, tup_nil_eqv, lst_nil_eqv, rep_flat, isK_int, isK_bool, isK_tuple, isK_str, kInt, kBool, kTuple, kStr, GB.isNon, Bool.not_true, Bool.not_false, Bool.or_false, Bool.or_true, Bool.false_or, Bool.true_or, reduceCtorEq, ]
  cases x with
  | tuple xs =>
    simp only [↓at0, ↓set0, ↓at1, ↓set1, ↓at2, ↓set2, ↓at3, ↓set3, ↓at4, ↓set4, ↓at5, ↓set5, ↓at6, ↓set6, ↓at7, ↓set7, ↓at8, ↓set8, ↓at9, ↓set9, ↓at10, ↓set10, ↓at11, ↓set11, ↓at12, ↓set12, ↓at13, ↓set13, ↓at14, ↓set14, ↓at15, ↓set15, ↓fz_d, ↓fz_own, ↓fz_ob, ↓one_d, ↓int_d, ↓bool_d, ↓own_o, ↓ds_nil, ↓ds_cons, ↓seq_l, ↓seq_t, ↓ite_t, ↓ite_f, ↓e_next, ↓e_seq, ↓e_set, ↓e_drop, ↓e_ret, ↓e_ifs, ↓e_brk, ↓e_cnt, ↓e_fixs, ↓e_par, ↓e_par3, ↓e_asg, ↓e_for, ↓e_putAt, ↓e_jput, ↓e_var, ↓e_k, ↓e_fz, ↓e_op, ↓e_opL, ↓e_opR, ↓e_n, ↓e_n1, ↓e_nil, ↓e_cons, ↓e_tup, ↓e_lst, ↓e_b, ↓e_not, ↓e_and, ↓e_or, ↓e_andV, ↓e_orV, ↓e_notV, ↓e_if, ↓e_isi, ↓e_neg, ↓e_chain, ↓e_call, ↓e_callK, ↓e_jint, ↓e_dict0, ↓e_dict1, ↓e_listRng, ↓e_append, ↓e_cut, ↓e_cutO, ↓e_onone, ↓e_osome, ↓e_iseq, ↓e_ienum, ↓e_irng, ↓e_gname, ↓e_lnil, ↓e_lcons, ↓e_lc, ↓e_yes, ↓f_addI, ↓f_addS, ↓f_addT, ↓f_addL, ↓f_i2, ↓f_mulI, ↓f_mulT, ↓f_mulL, ↓f_eq, ↓f_ne, ↓f_is, ↓f_isnot, ↓f_in, ↓f_notin, ↓f_ixL, ↓f_ixT, ↓f_lenL, ↓f_lenT, ↓f_lenS, ↓f_abs, ↓f_intI, ↓f_intB, ↓f_tupL, ↓f_tupT, ↓f_lstL, ↓f_lstT, ↓f_repr, ↓f_cutL, ↓f_cutT, ↓firm_d, ↓firm_ob, ↓zip_l, ↓zip_t, ↓e_izip, ↓zip_cons, ↓zip_nil1, ↓zip_nil2, ↓f_sorted, ↓e_inn, ↓e_inc, ↓e_l2n, ↓e_l2c, ↓e_lc2, ↓e_rev, ↓e_pop, ↓e_popAt, ↓e_extend, ↓e_lc3, ↓e_gon, ↓e_goc, ↓e_dbMid, ↓e_dbIn, ↓f_neu, ↓e_ifT, ↓e_newD, ↓e_retO, ↓e_fixK, ↓e_putO, ↓e_dkO, ↓e_dkF, ↓e_kdO, ↓e_kdF, ↓e_get2O, ↓e_get2F, ↓e_ListD, ↓e_ListF, ↓od_o, ↓dct_d, ↓key_int, ↓key_str, ↓g_item, ↓g_get, ↓g_in, ↓g_notin, ↓h_list, ↓fz_od, ↓ow_ex, ↓e_tr, ↓e_trO, ↓e_trK, ↓tru_b, ↓tru_n, ↓tru_i, ↓tru_l, ↓tru_t, ↓tru_s, ↓e_i63, ↓n63_d, ↓e_ss, ↓e_ssL, ↓e_ssF, ↓e_never, ↓e_kget, ↓str_ex, ↓e_disp, ↓e_vnil, ↓e_vcons, ↓f_equ, ↓dgTup_tup, ↓dgCons_cons, ↓dgNil_nil, ite_t, ite_f, itK_not, List.cons_append, List.nil_append, List.append_nil, List.replicate, List.flatten_cons, List.flatten_nil, List.append_eq, List.length_cons, List.length_nil, Nat.zero_add, Nat.reduceAdd, true_and, and_true, eqOk_str, eqOk_int, eqOk_bool, str_eqv, int_eqv, tup_nil_eqv, lst_nil_eqv, rep_flat, isK_int, isK_bool, isK_tuple, isK_str, kInt, kBool, kTuple, kStr, GB.isNon, Bool.not_true, Bool.not_false, Bool.or_false, Bool.or_true, Bool.false_or, Bool.true_or, reduceCtorEq, ]
    have q : R (S.d (.bool (decide (l ≤ (xs.length : Int)) && decide ((xs.length : Int) ≤ m)))) := q
    cases h : decide (l ≤ (xs.length : Int))
    · rw [h] at q; exact ite_f.mpr q
    · rw [h] at q; exact ite_t.mpr q
  | _ => exact q
theorem s_nb {k : S → Prop} {x : PyData} {n : Int} : F_is_number_below [.d x, .d (.int n)] k ↔ k (.d (.bool (cellB n x))) := ⟨fun ⟨_, _, e, h⟩ => by cases e; exact h, fun h => ⟨_, _, rfl, h⟩⟩
theorem s_tup {k : S → Prop} {x : PyData} {l m : Int} : F_is_tuple_of [.d x, .d (.int l), .d (.int m)] k ↔ k (.d (.bool (tupB l m x))) := ⟨fun ⟨_, _, _, e, h⟩ => by cases e; exact h, fun h => ⟨_, _, _, rfl, h⟩⟩
theorem str_dec {a b : Str} : PyData.eqv (.str a) (.str b) = decide (a = b) := by
  by_cases h : a = b
  · subst h; simp [PyData.eqv]
  · simp [PyData.eqv, h]
theorem ma_p_is_of_kind : ∀ ss R, ss.length = 2 → F_p_is_of_kind ss R → rd_p_is_of_kind { nx := fun _ => R (.d .none), rt := R } (ss ++ List.replicate 0 .un) := by
  rintro _ R - ⟨x, z, rfl, q⟩
  unfold rd_p_is_of_kind
  simp only [↓at0, ↓set0, ↓at1, ↓set1, ↓at2, ↓set2, ↓at3, ↓set3, ↓at4, ↓set4, ↓at5, ↓set5, ↓at6, ↓set6, ↓at7, ↓set7, ↓at8, ↓set8, ↓at9, ↓set9, ↓at10, ↓set10, ↓at11, ↓set11, ↓at12, ↓set12, ↓at13, ↓set13, ↓at14, ↓set14, ↓at15, ↓set15, ↓fz_d, ↓fz_own, ↓fz_ob, ↓one_d, ↓int_d, ↓bool_d, ↓own_o, ↓ds_nil, ↓ds_cons, ↓seq_l, ↓seq_t, ↓ite_t, ↓ite_f, ↓e_next, ↓e_seq, ↓e_set, ↓e_drop, ↓e_ret, ↓e_ifs, ↓e_brk, ↓e_cnt, ↓e_fixs, ↓e_par, ↓e_par3, ↓e_asg, ↓e_for, ↓e_putAt, ↓e_jput, ↓e_var, ↓e_k, ↓e_fz, ↓e_op, ↓e_opL, ↓e_opR, ↓e_n, ↓e_n1, ↓e_nil, ↓e_cons, ↓e_tup, ↓e_lst, ↓e_b, ↓e_not, ↓e_and, ↓e_or, ↓e_andV, ↓e_orV, ↓e_notV, ↓e_if, ↓e_isi, ↓e_neg, ↓e_chain, ↓e_call, ↓e_callK, ↓e_jint, ↓e_dict0, ↓e_dict1, ↓e_listRng, ↓e_append, ↓e_cut, ↓e_cutO, ↓e_onone, ↓e_osome, ↓e_iseq, ↓e_ienum, ↓e_irng, ↓e_gname, ↓e_lnil, ↓e_lcons, ↓e_lc, ↓e_yes, ↓f_addI, ↓f_addS, ↓f_addT, ↓f_addL, ↓f_i2, ↓f_mulI, ↓f_mulT, ↓f_mulL, ↓f_eq, ↓f_ne, ↓f_is, ↓f_isnot, ↓f_in, ↓f_notin, ↓f_ixL, ↓f_ixT, ↓f_lenL, ↓f_lenT, ↓f_lenS, ↓f_abs, ↓f_intI, ↓f_intB, ↓f_tupL, ↓f_tupT, ↓f_lstL, ↓f_lstT, ↓f_repr, ↓f_cutL, ↓f_cutT, ↓firm_d, ↓firm_ob, ↓zip_l, ↓zip_t, ↓e_izip, ↓zip_cons, ↓zip_nil1, ↓zip_nil2, ↓f_sorted, ↓e_inn, ↓e_inc, ↓e_l2n, ↓e_l2c, ↓e_lc2, ↓e_rev, ↓e_pop, ↓e_popAt, ↓e_extend, ↓e_lc3, ↓e_gon, ↓e_goc, ↓e_dbMid, ↓e_dbIn, ↓f_neu, ↓e_ifT, ↓e_newD, ↓e_retO, ↓e_fixK, ↓e_putO, ↓e_dkO, ↓e_dkF, ↓e_kdO, ↓e_kdF, ↓e_get2O, ↓e_get2F, ↓e_ListD, ↓e_ListF, ↓od_o, ↓dct_d, ↓key_int, ↓key_str, ↓g_item, ↓g_get, ↓g_in, ↓g_notin, ↓h_list, ↓fz_od, ↓ow_ex, ↓e_tr, ↓e_trO, ↓e_trK, ↓tru_b, ↓tru_n, ↓tru_i, ↓tru_l, ↓tru_t, ↓tru_s, ↓e_i63, ↓n63_d, ↓e_ss, ↓e_ssL, ↓e_ssF, ↓e_never, ↓e_kget, ↓str_ex, ↓e_disp, ↓e_vnil, ↓e_vcons, ↓f_equ, ↓dgTup_tup, ↓dgCons_cons, ↓dgNil_nil, ite_t, ite_f, itK_not, List.cons_append, List.nil_append, List.append_nil, List.replicate, List.flatten_cons, List.flatten_nil, List.append_eq, List.length_cons, List.length_nil, Nat.zero_add, Nat.reduceAdd, true_and, and_true, eqOk_str, eqOk_int, eqOk_bool, str_eqv, int_eqv, tup_nil_eqv, lst_nil_eqv, rep_flat, isK_int, isK_bool, isK_tuple, isK_str, kInt, kBool, kTuple, kStr, GB.isNon, Bool.not_true, Bool.not_false, Bool.or_false, Bool.or_true, Bool.false_or, Bool.true_or, reduceCtorEq, ↓s_nb]
  unfold kindB at q
  simp only [str_dec]
  by_cases h1 : z = "many"
  · rw [if_pos h1] at q
    rw [decide_eq_true h1]
    exact ite_t.mpr q
  rw [if_neg h1] at q
  rw [decide_eq_false h1]
  refine ite_f.mpr ?_
  by_cases h2 : z = "field"
  · rw [if_pos h2] at q
    rw [decide_eq_true h2]
    exact ite_t.mpr q
  rw [if_neg h2] at q
  rw [decide_eq_false h2]
  refine ite_f.mpr (iteB (fun h => ?_) fun h => ?_)
  · rw [h] at q; exact q
  · rw [h, Bool.false_or] at q
    cases x with
    | none => exact ite_t.mpr q
    | _ => exact ite_f.mpr q
theorem s_kind {k : S → Prop} {x : PyData} {z : Str} : F_p_is_of_kind [.d x, .d (.str z)] k ↔ k (.d (.bool (kindB x z))) := ⟨fun ⟨_, _, e, h⟩ => by cases e; exact h, fun h => ⟨_, _, rfl, h⟩⟩
theorem words (z : Str) : z = "drop" ∨ z = "copy" ∨ z = "make" ∨ z = "read" ∨ z = "write" ∨ (z ≠ "drop" ∧ z ≠ "copy" ∧ z ≠ "make" ∧ z ≠ "read" ∧ z ≠ "write") := by
  by_cases h1 : z = "drop"
  · exact .inl h1
  by_cases h2 : z = "copy"
  · exact .inr (.inl h2)
  by_cases h3 : z = "make"
  · exact .inr (.inr (.inl h3))
  by_cases h4 : z = "read"
  · exact .inr (.inr (.inr (.inl h4)))
  by_cases h5 : z = "write"
  · exact .inr (.inr (.inr (.inr (.inl h5))))
  exact .inr (.inr (.inr (.inr (.inr ⟨h1, h2, h3, h4, h5⟩))))
theorem bnd_no {z : Str} (h : z ≠ "drop" ∧ z ≠ "copy" ∧ z ≠ "make" ∧ z ≠ "read" ∧ z ≠ "write") : bndL (.str z) = [] := by
  show (if z = "drop" then [3] else _) = _
  rw [if_neg h.1, if_neg h.2.1, if_neg h.2.2.1, if_neg h.2.2.2.1, if_neg h.2.2.2.2]
def D5 : List (Key × PyData) := [(.inr "drop", .tuple [.int 3]), (.inr "copy", .tuple [.int 3, .int 3]), (.inr "make", .tuple [.int 3, .int 3]), (.inr "read", .tuple [.int 3, .int 2, .int 3]), (.inr "write", .tuple [.int 3, .int 2, .int 3])]
theorem d5_eq : GB.putAll [] ((List.map Sum.inr (["drop", "copy", "make", "read", "write"] : List Str)).zip [PyData.tuple [PyData.int 3], PyData.tuple [PyData.int 3, PyData.int 3], PyData.tuple [PyData.int 3, PyData.int 3], PyData.tuple [PyData.int 3, PyData.int 2, PyData.int 3], PyData.tuple [PyData.int 3, PyData.int 2, PyData.int 3]]) = D5 := by
  rfl
theorem d5_look (z : Str) : lookD D5 (.inr z) = if bndL (.str z) = [] then none else some (bndD (.str z)) := by
  rcases words z with rfl | rfl | rfl | rfl | rfl | h
  · rfl
  · rfl
  · rfl
  · rfl
  · rfl
  · rw [bnd_no h, if_pos rfl]
    unfold lookD D5
    simp [Ne.symm h.1, Ne.symm h.2.1, Ne.symm h.2.2.1, Ne.symm h.2.2.2.1, Ne.symm h.2.2.2.2]
theorem ma_l_bounds : ∀ ss R, ss.length = 1 → F_l_bounds ss R → rd_l_bounds { nx := fun _ => R (.d .none), rt := R } (ss ++ List.replicate 1 .un) := by
  rintro _ R - ⟨w, rfl, q⟩
  unfold rd_l_bounds
  simp only [↓at0, ↓set0, ↓at1, ↓set1, ↓at2, ↓set2, ↓at3, ↓set3, ↓at4, ↓set4, ↓at5, ↓set5, ↓at6, ↓set6, ↓at7, ↓set7, ↓at8, ↓set8, ↓at9, ↓set9, ↓at10, ↓set10, ↓at11, ↓set11, ↓at12, ↓set12, ↓at13, ↓set13, ↓at14, ↓set14, ↓at15, ↓set15, ↓fz_d, ↓fz_own, ↓fz_ob, ↓one_d, ↓int_d, ↓bool_d, ↓own_o, ↓ds_nil, ↓ds_cons, ↓seq_l, ↓seq_t, ↓ite_t, ↓ite_f, ↓e_next, ↓e_seq, ↓e_set, ↓e_drop, ↓e_ret, ↓e_ifs, ↓e_brk, ↓e_cnt, ↓e_fixs, ↓e_par, ↓e_par3, ↓e_asg, ↓e_for, ↓e_putAt, ↓e_jput, ↓e_var, ↓e_k, ↓e_fz, ↓e_op, ↓e_opL, ↓e_opR, ↓e_n, ↓e_n1, ↓e_nil, ↓e_cons, ↓e_tup, ↓e_lst, ↓e_b, ↓e_not, ↓e_and, ↓e_or, ↓e_andV, ↓e_orV, ↓e_notV, ↓e_if, ↓e_isi, ↓e_neg, ↓e_chain, ↓e_call, ↓e_callK, ↓e_jint, ↓e_dict0, ↓e_dict1, ↓e_listRng, ↓e_append, ↓e_cut, ↓e_cutO, ↓e_onone, ↓e_osome, ↓e_iseq, ↓e_ienum, ↓e_irng, ↓e_gname, ↓e_lnil, ↓e_lcons, ↓e_lc, ↓e_yes, ↓f_addI, ↓f_addS, ↓f_addT, ↓f_addL, ↓f_i2, ↓f_mulI, ↓f_mulT, ↓f_mulL, ↓f_eq, ↓f_ne, ↓f_is, ↓f_isnot, ↓f_in, ↓f_notin, ↓f_ixL, ↓f_ixT, ↓f_lenL, ↓f_lenT, ↓f_lenS, ↓f_abs, ↓f_intI, ↓f_intB, ↓f_tupL, ↓f_tupT, ↓f_lstL, ↓f_lstT, ↓f_repr, ↓f_cutL, ↓f_cutT, ↓firm_d, ↓firm_ob, ↓zip_l, ↓zip_t, ↓e_izip, ↓zip_cons, ↓zip_nil1, ↓zip_nil2, ↓f_sorted, ↓e_inn, ↓e_inc, ↓e_l2n, ↓e_l2c, ↓e_lc2, ↓e_rev, ↓e_pop, ↓e_popAt, ↓e_extend, ↓e_lc3, ↓e_gon, ↓e_goc, ↓e_dbMid, ↓e_dbIn, ↓f_neu, ↓e_ifT, ↓e_newD, ↓e_retO, ↓e_fixK, ↓e_putO, ↓e_dkO, ↓e_dkF, ↓e_kdO, ↓e_kdF, ↓e_get2O, ↓e_get2F, ↓e_ListD, ↓e_ListF, ↓od_o, ↓dct_d, ↓key_int, ↓key_str, ↓g_item, ↓g_get, ↓g_in, ↓g_notin, ↓h_list, ↓fz_od, ↓ow_ex, ↓e_tr, ↓e_trO, ↓e_trK, ↓tru_b, ↓tru_n, ↓tru_i, ↓tru_l, ↓tru_t, ↓tru_s, ↓e_i63, ↓n63_d, ↓e_ss, ↓e_ssL, ↓e_ssF, ↓e_never, ↓e_kget, ↓str_ex, ↓e_disp, ↓e_vnil, ↓e_vcons, ↓f_equ, ↓dgTup_tup, ↓dgCons_cons, ↓dgNil_nil, ite_t, ite_f, itK_not, List.cons_append, List.nil_append, List.append_nil, List.replicate, List.flatten_cons, List.flatten_nil, List.append_eq, List.length_cons, List.length_nil, Nat.zero_add, Nat.reduceAdd, true_and, and_true, eqOk_str, eqOk_int, eqOk_bool, str_eqv, int_eqv, tup_nil_eqv, lst_nil_eqv, rep_flat, isK_int, isK_bool, isK_tuple, isK_str, kInt, kBool, kTuple, kStr, GB.isNon, Bool.not_true, Bool.not_false, Bool.or_false, Bool.or_true, Bool.false_or, Bool.true_or, reduceCtorEq, ]
  refine ⟨by decide, by decide, by decide, by decide, by decide, ?_⟩
  rw [d5_eq]
  cases w with
  | str z =>
    refine ite_t.mpr (key_str.mpr ?_)
    by_cases h : bndL (.str z) = []
    · rw [d5_look, if_pos h]
      refine ite_f.mpr ⟨by decide, ?_⟩
      unfold bndD at q
      rw [h] at q
      exact q
    · refine (show iteK _ _ _ from ?_)
      rw [show (lookD D5 (.inr z)).isSome = true by rw [d5_look, if_neg h]; rfl]
      exact ite_t.mpr (key_str.mpr ⟨_, by rw [d5_look, if_neg h], q⟩)
  | _ => exact ite_f.mpr ⟨by decide, q⟩
theorem cell_in {n m : Int} (h : n = m + 1) (x : PyData) : cellB n x = inB m x := by
  cases x with
  | int i =>
    show (decide (0 ≤ i) && decide (i < n)) = (decide (0 ≤ i) && decide (i ≤ m))
    subst h
    simp only [Int.lt_add_one_iff]
  | _ => rfl
theorem k_room (x : PyData) : kindB x "room" = inB 3 x := by
  show (if (("room" : Str) = "many") then cellB 4 x else if (("room" : Str) = "field") then cellB 3 x else (cellB 4 x || (GB.isNon x && decide (("room" : Str) = "room or nothing")))) = _
  rw [if_neg (by decide +kernel), if_neg (by decide +kernel), decide_eq_false (by decide +kernel), Bool.and_false, Bool.or_false, cell_in (n := 4) (m := 3) rfl]
theorem k_many (x : PyData) : kindB x "many" = inB 3 x := by
  show (if (("many" : Str) = "many") then cellB 4 x else _) = _
  rw [if_pos rfl, cell_in (n := 4) (m := 3) rfl]
theorem k_field (x : PyData) : kindB x "field" = inB 2 x := by
  show (if (("field" : Str) = "many") then cellB 4 x else if (("field" : Str) = "field") then cellB 3 x else _) = _
  rw [if_neg (by decide +kernel), if_pos rfl, cell_in (n := 3) (m := 2) rfl]
theorem k_none (x : PyData) : kindB x "room or nothing" = (GB.isNon x || inB 3 x) := by
  show (if (("room or nothing" : Str) = "many") then cellB 4 x else if (("room or nothing" : Str) = "field") then cellB 3 x else (cellB 4 x || (GB.isNon x && decide (("room or nothing" : Str) = "room or nothing")))) = _
  rw [if_neg (by decide +kernel), if_neg (by decide +kernel), decide_eq_true rfl, Bool.and_true, cell_in (n := 4) (m := 3) rfl, Bool.or_comm]
theorem own_in {w : PyData} {k : Nat} {m : Int} (h : PyData.eqv w (.str "write") = false ∨ k ≠ 2) (x : PyData) : ownOk w k m x = inB m x := by
  unfold ownOk
  rcases h with h | h
  · rw [h, Bool.and_false, Bool.false_and, Bool.false_or]
  · rw [decide_eq_false h, Bool.and_false, Bool.false_or]
theorem own_two (x : PyData) : ownOk (.str "write") 2 3 x = (GB.isNon x || inB 3 x) := by
  unfold ownOk
  rw [show PyData.eqv (.str "write") (.str "write") = true from by decide +kernel, Bool.and_true, decide_eq_true rfl, Bool.and_true]
def kinL (z : Str) : List Str := if z = "drop" then ["room"] else if z = "copy" then ["room", "room"] else if z = "make" then ["room", "many"] else if z = "read" then ["room", "field", "room"] else if z = "write" then ["room", "field", "room or nothing"] else []
theorem kin_no {z : Str} (h : z ≠ "drop" ∧ z ≠ "copy" ∧ z ≠ "make" ∧ z ≠ "read" ∧ z ≠ "write") : kinL z = [] := by
  unfold kinL
  rw [if_neg h.1, if_neg h.2.1, if_neg h.2.2.1, if_neg h.2.2.2.1, if_neg h.2.2.2.2]
theorem kin_look (z : Str) : (List.lookup z c_LINES).getD (.tuple []) = .tuple ((kinL z).map .str) := by
  rcases words z with rfl | rfl | rfl | rfl | rfl | h
  · rfl
  · rfl
  · rfl
  · rfl
  · rfl
  · rw [kin_no h]
    have e : ∀ {k : Str}, z ≠ k → (z == k) = false := fun h => beq_eq_false_iff_ne.mpr h
    simp only [c_LINES, List.lookup_cons, e h.1, e h.2.1, e h.2.2.1, e h.2.2.2.1, e h.2.2.2.2]
    rfl
def pairB : PyData → Bool
  | .tuple [x, .str z] => kindB x z
  | _ => false
theorem rest_len {w : PyData} : ∀ {k : Nat} {ms : List Int} {xs : List PyData}, restOk w k ms xs = true → xs.length = ms.length
  | _, [], [], _ => rfl
  | _, [], _ :: _, h => by simp [restOk] at h
  | _, _ :: _, [], h => by simp [restOk] at h
  | k, m :: ms, x :: xs, h => by
    simp only [restOk, Bool.and_eq_true] at h
    simp [rest_len h.2]
theorem bnd_kin (z : Str) : (bndL (.str z)).length = (kinL z).length := by
  rcases words z with rfl | rfl | rfl | rfl | rfl | h
  · rfl
  · rfl
  · rfl
  · rfl
  · rfl
  · rw [kin_no h, bnd_no h]; rfl
theorem len_two : ∀ {r : List PyData}, r.length = 2 → ∃ a b, r = [a, b]
  | [a, b], _ => ⟨a, b, rfl⟩
theorem len_three : ∀ {r : List PyData}, r.length = 3 → ∃ a b c, r = [a, b, c]
  | [a, b, c], _ => ⟨a, b, c, rfl⟩
theorem line_kin {z : Str} {r : List PyData} (h1 : 1 ≤ r.length) (h : (kinL z).length = r.length) : ((zipOf r ((kinL z).map .str)).map pairB).all id = lineOk (.tuple (.str z :: r)) := by
  show _ = (!(bndL (.str z)).isEmpty && restOk (.str z) 0 (bndL (.str z)) r)
  have nw : ∀ {a : Str}, a ≠ "write" → PyData.eqv (.str a) (.str "write") = false := fun h => by rw [str_dec, decide_eq_false h]
  rcases words z with rfl | rfl | rfl | rfl | rfl | hn
  · obtain ⟨a, rfl⟩ := List.length_eq_one_iff.mp (show r.length = 1 from h.symm)
    show (kindB a "room" && true) = (true && (ownOk _ 0 3 a && true))
    rw [k_room, own_in (.inl (nw (by decide +kernel)))]; simp
  · obtain ⟨a, b, rfl⟩ := len_two (show r.length = 2 from h.symm)
    show (kindB a "room" && (kindB b "room" && true)) = (true && (ownOk _ 0 3 a && (ownOk _ 1 3 b && true)))
    rw [k_room, k_room, own_in (.inl (nw (by decide +kernel))), own_in (.inl (nw (by decide +kernel)))]; simp
  · obtain ⟨a, b, rfl⟩ := len_two (show r.length = 2 from h.symm)
    show (kindB a "room" && (kindB b "many" && true)) = (true && (ownOk _ 0 3 a && (ownOk _ 1 3 b && true)))
    rw [k_room, k_many, own_in (.inl (nw (by decide +kernel))), own_in (.inl (nw (by decide +kernel)))]; simp
  · obtain ⟨a, b, c, rfl⟩ := len_three (show r.length = 3 from h.symm)
    show (kindB a "room" && (kindB b "field" && (kindB c "room" && true))) = (true && (ownOk _ 0 3 a && (ownOk _ 1 2 b && (ownOk _ 2 3 c && true))))
    rw [k_room, k_field, k_room, own_in (.inl (nw (by decide +kernel))), own_in (.inl (nw (by decide +kernel))), own_in (.inl (nw (by decide +kernel)))]; simp
  · obtain ⟨a, b, c, rfl⟩ := len_three (show r.length = 3 from h.symm)
    show (kindB a "room" && (kindB b "field" && (kindB c "room or nothing" && true))) = (true && (ownOk _ 0 3 a && (ownOk _ 1 2 b && (ownOk _ 2 3 c && true))))
    rw [k_room, k_field, k_none, own_in (.inr (by decide)), own_in (.inr (by decide)), own_two]; simp
  · rw [kin_no hn] at h
    simp at h; omega
theorem map_det {f : PyData → PyData} {ds : List PyData} {R : List PyData → Prop} {g : DTG} {tt : TTd} {te : TEd} {ρ : GB.En} {vs : List Nat} (hn : R (ds.map f))
    (hc : ∀ d ∈ ds, ∀ (acc : List PyData) (K : List PyData → Prop), K (acc ++ [f d]) → g d ρ fun ρ2 => wipeD ρ2 vs = ρ ∧ tt ρ2 fun b ρ3 => ρ3 = ρ2 ∧ iteK b (te ρ2 fun s ρ4 => ρ4 = ρ2 ∧ oneK s fun y => K (acc ++ [y])) (K acc)) :
    dLcGo vs g tt te ρ R ds [] := by
  refine lcI (fun es acc => (∀ d ∈ es, d ∈ ds) ∧ acc ++ es.map f = ds.map f) ?_ ?_ ds [] ⟨fun _ h => h, rfl⟩
  · rintro acc ⟨_, h1⟩
    have h1 : acc = ds.map f := by rw [← h1]; simp
    rw [h1]; exact hn
  · rintro d es acc K hK ⟨h0, h1⟩
    exact hc d (h0 d (by simp)) acc K (hK _ ⟨fun z hz => h0 z (by simp [hz]), by rw [List.append_assoc]; exact h1⟩)
theorem zip_in {a b : List PyData} {d : PyData} (h : d ∈ zipOf a b) : ∃ x ∈ a, ∃ y ∈ b, d = .tuple [x, y] := by
  obtain ⟨p, hp, rfl⟩ := List.mem_map.mp h
  exact ⟨p.1, (List.of_mem_zip hp).1, p.2, (List.of_mem_zip hp).2, rfl⟩
theorem ma_p_is_line : ∀ ss R, ss.length = 1 → F_p_is_line ss R → rd_p_is_line { nx := fun _ => R (.d .none), rt := R } (ss ++ List.replicate 3 .un) := by
  rintro _ R - ⟨x, rfl, q⟩
  unfold rd_p_is_line
  simp only [↓at0, ↓set0, ↓at1, ↓set1, ↓at2, ↓set2, ↓at3, ↓set3, ↓at4, ↓set4, ↓at5, ↓set5, ↓at6, ↓set6, ↓at7, ↓set7, ↓at8, ↓set8, ↓at9, ↓set9, ↓at10, ↓set10, ↓at11, ↓set11, ↓at12, ↓set12, ↓at13, ↓set13, ↓at14, ↓set14, ↓at15, ↓set15, ↓fz_d, ↓fz_own, ↓fz_ob, ↓one_d, ↓int_d, ↓bool_d, ↓own_o, ↓ds_nil, ↓ds_cons, ↓seq_l, ↓seq_t, ↓ite_t, ↓ite_f, ↓e_next, ↓e_seq, ↓e_set, ↓e_drop, ↓e_ret, ↓e_ifs, ↓e_brk, ↓e_cnt, ↓e_fixs, ↓e_par, ↓e_par3, ↓e_asg, ↓e_for, ↓e_putAt, ↓e_jput, ↓e_var, ↓e_k, ↓e_fz, ↓e_op, ↓e_opL, ↓e_opR, ↓e_n, ↓e_n1, ↓e_nil, ↓e_cons, ↓e_tup, ↓e_lst, ↓e_b, ↓e_not, ↓e_and, ↓e_or, ↓e_andV, ↓e_orV, ↓e_notV, ↓e_if, ↓e_isi, ↓e_neg, ↓e_chain, ↓e_call, ↓e_callK, ↓e_jint, ↓e_dict0, ↓e_dict1, ↓e_listRng, ↓e_append, ↓e_cut, ↓e_cutO, ↓e_onone, ↓e_osome, ↓e_iseq, ↓e_ienum, ↓e_irng, ↓e_gname, ↓e_lnil, ↓e_lcons, ↓e_lc, ↓e_yes, ↓f_addI, ↓f_addS, ↓f_addT, ↓f_addL, ↓f_i2, ↓f_mulI, ↓f_mulT, ↓f_mulL, ↓f_eq, ↓f_ne, ↓f_is, ↓f_isnot, ↓f_in, ↓f_notin, ↓f_ixL, ↓f_ixT, ↓f_lenL, ↓f_lenT, ↓f_lenS, ↓f_abs, ↓f_intI, ↓f_intB, ↓f_tupL, ↓f_tupT, ↓f_lstL, ↓f_lstT, ↓f_repr, ↓f_cutL, ↓f_cutT, ↓firm_d, ↓firm_ob, ↓zip_l, ↓zip_t, ↓e_izip, ↓zip_cons, ↓zip_nil1, ↓zip_nil2, ↓f_sorted, ↓e_inn, ↓e_inc, ↓e_l2n, ↓e_l2c, ↓e_lc2, ↓e_rev, ↓e_pop, ↓e_popAt, ↓e_extend, ↓e_lc3, ↓e_gon, ↓e_goc, ↓e_dbMid, ↓e_dbIn, ↓f_neu, ↓e_ifT, ↓e_newD, ↓e_retO, ↓e_fixK, ↓e_putO, ↓e_dkO, ↓e_dkF, ↓e_kdO, ↓e_kdF, ↓e_get2O, ↓e_get2F, ↓e_ListD, ↓e_ListF, ↓od_o, ↓dct_d, ↓key_int, ↓key_str, ↓g_item, ↓g_get, ↓g_in, ↓g_notin, ↓h_list, ↓fz_od, ↓ow_ex, ↓e_tr, ↓e_trO, ↓e_trK, ↓tru_b, ↓tru_n, ↓tru_i, ↓tru_l, ↓tru_t, ↓tru_s, ↓e_i63, ↓n63_d, ↓e_ss, ↓e_ssL, ↓e_ssF, ↓e_never, ↓e_kget, ↓str_ex, ↓e_disp, ↓e_vnil, ↓e_vcons, ↓f_equ, ↓dgTup_tup, ↓dgCons_cons, ↓dgNil_nil, ite_t, ite_f, itK_not, List.cons_append, List.nil_append, List.append_nil, List.replicate, List.flatten_cons, List.flatten_nil, List.append_eq, List.length_cons, List.length_nil, Nat.zero_add, Nat.reduceAdd, true_and, and_true, eqOk_str, eqOk_int, eqOk_bool, str_eqv, int_eqv, tup_nil_eqv, lst_nil_eqv, rep_flat, isK_int, isK_bool, isK_tuple, isK_str, kInt, kBool, kTuple, kStr, GB.isNon, Bool.not_true, Bool.not_false, Bool.or_false, Bool.or_true, Bool.false_or, Bool.true_or, reduceCtorEq, ↓s_tup]
  cases x with
  | tuple xs =>
    cases xs with
    | nil => exact ite_f.mpr q
    | cons w r =>
      by_cases hl : 1 ≤ r.length ∧ r.length ≤ 3
      · have e : tupB 2 4 (.tuple (w :: r)) = true := by
          show (decide ((2 : Int) ≤ ((w :: r).length : Nat)) && decide ((((w :: r).length : Nat) : Int) ≤ 4)) = true
          rw [List.length_cons]; simp; omega
        rw [e]
        refine ite_t.mpr ?_
        simp only [↓at0, ↓set0, ↓at1, ↓set1, ↓at2, ↓set2, ↓at3, ↓set3, ↓at4, ↓set4, ↓at5, ↓set5, ↓at6, ↓set6, ↓at7, ↓set7, ↓at8, ↓set8, ↓at9, ↓set9, ↓at10, ↓set10, ↓at11, ↓set11, ↓at12, ↓set12, ↓at13, ↓set13, ↓at14, ↓set14, ↓at15, ↓set15, ↓fz_d, ↓fz_own, ↓fz_ob, ↓one_d, ↓int_d, ↓bool_d, ↓own_o, ↓ds_nil, ↓ds_cons, ↓seq_l, ↓seq_t, ↓ite_t, ↓ite_f, ↓e_next, ↓e_seq, ↓e_set, ↓e_drop, ↓e_ret, ↓e_ifs, ↓e_brk, ↓e_cnt, ↓e_fixs, ↓e_par, ↓e_par3, ↓e_asg, ↓e_for, ↓e_putAt, ↓e_jput, ↓e_var, ↓e_k, ↓e_fz, ↓e_op, ↓e_opL, ↓e_opR, ↓e_n, ↓e_n1, ↓e_nil, ↓e_cons, ↓e_tup, ↓e_lst, ↓e_b, ↓e_not, ↓e_and, ↓e_or, ↓e_andV, ↓e_orV, ↓e_notV, ↓e_if, ↓e_isi, ↓e_neg, ↓e_chain, ↓e_call, ↓e_callK, ↓e_jint, ↓e_dict0, ↓e_dict1, ↓e_listRng, ↓e_append, ↓e_cut, ↓e_cutO, ↓e_onone, ↓e_osome, ↓e_iseq, ↓e_ienum, ↓e_irng, ↓e_gname, ↓e_lnil, ↓e_lcons, ↓e_lc, ↓e_yes, ↓f_addI, ↓f_addS, ↓f_addT, ↓f_addL, ↓f_i2, ↓f_mulI, ↓f_mulT, ↓f_mulL, ↓f_eq, ↓f_ne, ↓f_is, ↓f_isnot, ↓f_in, ↓f_notin, ↓f_ixL, ↓f_ixT, ↓f_lenL, ↓f_lenT, ↓f_lenS, ↓f_abs, ↓f_intI, ↓f_intB, ↓f_tupL, ↓f_tupT, ↓f_lstL, ↓f_lstT, ↓f_repr, ↓f_cutL, ↓f_cutT, ↓firm_d, ↓firm_ob, ↓zip_l, ↓zip_t, ↓e_izip, ↓zip_cons, ↓zip_nil1, ↓zip_nil2, ↓f_sorted, ↓e_inn, ↓e_inc, ↓e_l2n, ↓e_l2c, ↓e_lc2, ↓e_rev, ↓e_pop, ↓e_popAt, ↓e_extend, ↓e_lc3, ↓e_gon, ↓e_goc, ↓e_dbMid, ↓e_dbIn, ↓f_neu, ↓e_ifT, ↓e_newD, ↓e_retO, ↓e_fixK, ↓e_putO, ↓e_dkO, ↓e_dkF, ↓e_kdO, ↓e_kdF, ↓e_get2O, ↓e_get2F, ↓e_ListD, ↓e_ListF, ↓od_o, ↓dct_d, ↓key_int, ↓key_str, ↓g_item, ↓g_get, ↓g_in, ↓g_notin, ↓h_list, ↓fz_od, ↓ow_ex, ↓e_tr, ↓e_trO, ↓e_trK, ↓tru_b, ↓tru_n, ↓tru_i, ↓tru_l, ↓tru_t, ↓tru_s, ↓e_i63, ↓n63_d, ↓e_ss, ↓e_ssL, ↓e_ssF, ↓e_never, ↓e_kget, ↓str_ex, ↓e_disp, ↓e_vnil, ↓e_vcons, ↓f_equ, ↓dgTup_tup, ↓dgCons_cons, ↓dgNil_nil, ite_t, ite_f, itK_not, List.cons_append, List.nil_append, List.append_nil, List.replicate, List.flatten_cons, List.flatten_nil, List.append_eq, List.length_cons, List.length_nil, Nat.zero_add, Nat.reduceAdd, true_and, and_true, eqOk_str, eqOk_int, eqOk_bool, str_eqv, int_eqv, tup_nil_eqv, lst_nil_eqv, rep_flat, isK_int, isK_bool, isK_tuple, isK_str, kInt, kBool, kTuple, kStr, GB.isNon, Bool.not_true, Bool.not_false, Bool.or_false, Bool.or_true, Bool.false_or, Bool.true_or, reduceCtorEq, ↓ix0]
        cases w with
        | str z =>
          refine ite_t.mpr ?_
          simp only [↓at0, ↓set0, ↓at1, ↓set1, ↓at2, ↓set2, ↓at3, ↓set3, ↓at4, ↓set4, ↓at5, ↓set5, ↓at6, ↓set6, ↓at7, ↓set7, ↓at8, ↓set8, ↓at9, ↓set9, ↓at10, ↓set10, ↓at11, ↓set11, ↓at12, ↓set12, ↓at13, ↓set13, ↓at14, ↓set14, ↓at15, ↓set15, ↓fz_d, ↓fz_own, ↓fz_ob, ↓one_d, ↓int_d, ↓bool_d, ↓own_o, ↓ds_nil, ↓ds_cons, ↓seq_l, ↓seq_t, ↓ite_t, ↓ite_f, ↓e_next, ↓e_seq, ↓e_set, ↓e_drop, ↓e_ret, ↓e_ifs, ↓e_brk, ↓e_cnt, ↓e_fixs, ↓e_par, ↓e_par3, ↓e_asg, ↓e_for, ↓e_putAt, ↓e_jput, ↓e_var, ↓e_k, ↓e_fz, ↓e_op, ↓e_opL, ↓e_opR, ↓e_n, ↓e_n1, ↓e_nil, ↓e_cons, ↓e_tup, ↓e_lst, ↓e_b, ↓e_not, ↓e_and, ↓e_or, ↓e_andV, ↓e_orV, ↓e_notV, ↓e_if, ↓e_isi, ↓e_neg, ↓e_chain, ↓e_call, ↓e_callK, ↓e_jint, ↓e_dict0, ↓e_dict1, ↓e_listRng, ↓e_append, ↓e_cut, ↓e_cutO, ↓e_onone, ↓e_osome, ↓e_iseq, ↓e_ienum, ↓e_irng, ↓e_gname, ↓e_lnil, ↓e_lcons, ↓e_lc, ↓e_yes, ↓f_addI, ↓f_addS, ↓f_addT, ↓f_addL, ↓f_i2, ↓f_mulI, ↓f_mulT, ↓f_mulL, ↓f_eq, ↓f_ne, ↓f_is, ↓f_isnot, ↓f_in, ↓f_notin, ↓f_ixL, ↓f_ixT, ↓f_lenL, ↓f_lenT, ↓f_lenS, ↓f_abs, ↓f_intI, ↓f_intB, ↓f_tupL, ↓f_tupT, ↓f_lstL, ↓f_lstT, ↓f_repr, ↓f_cutL, ↓f_cutT, ↓firm_d, ↓firm_ob, ↓zip_l, ↓zip_t, ↓e_izip, ↓zip_cons, ↓zip_nil1, ↓zip_nil2, ↓f_sorted, ↓e_inn, ↓e_inc, ↓e_l2n, ↓e_l2c, ↓e_lc2, ↓e_rev, ↓e_pop, ↓e_popAt, ↓e_extend, ↓e_lc3, ↓e_gon, ↓e_goc, ↓e_dbMid, ↓e_dbIn, ↓f_neu, ↓e_ifT, ↓e_newD, ↓e_retO, ↓e_fixK, ↓e_putO, ↓e_dkO, ↓e_dkF, ↓e_kdO, ↓e_kdF, ↓e_get2O, ↓e_get2F, ↓e_ListD, ↓e_ListF, ↓od_o, ↓dct_d, ↓key_int, ↓key_str, ↓g_item, ↓g_get, ↓g_in, ↓g_notin, ↓h_list, ↓fz_od, ↓ow_ex, ↓e_tr, ↓e_trO, ↓e_trK, ↓tru_b, ↓tru_n, ↓tru_i, ↓tru_l, ↓tru_t, ↓tru_s, ↓e_i63, ↓n63_d, ↓e_ss, ↓e_ssL, ↓e_ssF, ↓e_never, ↓e_kget, ↓str_ex, ↓e_disp, ↓e_vnil, ↓e_vcons, ↓f_equ, ↓dgTup_tup, ↓dgCons_cons, ↓dgNil_nil, ite_t, ite_f, itK_not, List.cons_append, List.nil_append, List.append_nil, List.replicate, List.flatten_cons, List.flatten_nil, List.append_eq, List.length_cons, List.length_nil, Nat.zero_add, Nat.reduceAdd, true_and, and_true, eqOk_str, eqOk_int, eqOk_bool, str_eqv, int_eqv, tup_nil_eqv, lst_nil_eqv, rep_flat, isK_int, isK_bool, isK_tuple, isK_str, kInt, kBool, kTuple, kStr, GB.isNon, Bool.not_true, Bool.not_false, Bool.or_false, Bool.or_true, Bool.false_or, Bool.true_or, reduceCtorEq, ↓ix0]
          rw [kin_look]
          simp only [↓at0, ↓set0, ↓at1, ↓set1, ↓at2, ↓set2, ↓at3, ↓set3, ↓at4, ↓set4, ↓at5, ↓set5, ↓at6, ↓set6, ↓at7, ↓set7, ↓at8, ↓set8, ↓at9, ↓set9, ↓at10, ↓set10, ↓at11, ↓set11, ↓at12, ↓set12, ↓at13, ↓set13, ↓at14, ↓set14, ↓at15, ↓set15, ↓fz_d, ↓fz_own, ↓fz_ob, ↓one_d, ↓int_d, ↓bool_d, ↓own_o, ↓ds_nil, ↓ds_cons, ↓seq_l, ↓seq_t, ↓ite_t, ↓ite_f, ↓e_next, ↓e_seq, ↓e_set, ↓e_drop, ↓e_ret, ↓e_ifs, ↓e_brk, ↓e_cnt, ↓e_fixs, ↓e_par, ↓e_par3, ↓e_asg, ↓e_for, ↓e_putAt, ↓e_jput, ↓e_var, ↓e_k, ↓e_fz, ↓e_op, ↓e_opL, ↓e_opR, ↓e_n, ↓e_n1, ↓e_nil, ↓e_cons, ↓e_tup, ↓e_lst, ↓e_b, ↓e_not, ↓e_and, ↓e_or, ↓e_andV, ↓e_orV, ↓e_notV, ↓e_if, ↓e_isi, ↓e_neg, ↓e_chain, ↓e_call, ↓e_callK, ↓e_jint, ↓e_dict0, ↓e_dict1, ↓e_listRng, ↓e_append, ↓e_cut, ↓e_cutO, ↓e_onone, ↓e_osome, ↓e_iseq, ↓e_ienum, ↓e_irng, ↓e_gname, ↓e_lnil, ↓e_lcons, ↓e_lc, ↓e_yes, ↓f_addI, ↓f_addS, ↓f_addT, ↓f_addL, ↓f_i2, ↓f_mulI, ↓f_mulT, ↓f_mulL, ↓f_eq, ↓f_ne, ↓f_is, ↓f_isnot, ↓f_in, ↓f_notin, ↓f_ixL, ↓f_ixT, ↓f_lenL, ↓f_lenT, ↓f_lenS, ↓f_abs, ↓f_intI, ↓f_intB, ↓f_tupL, ↓f_tupT, ↓f_lstL, ↓f_lstT, ↓f_repr, ↓f_cutL, ↓f_cutT, ↓firm_d, ↓firm_ob, ↓zip_l, ↓zip_t, ↓e_izip, ↓zip_cons, ↓zip_nil1, ↓zip_nil2, ↓f_sorted, ↓e_inn, ↓e_inc, ↓e_l2n, ↓e_l2c, ↓e_lc2, ↓e_rev, ↓e_pop, ↓e_popAt, ↓e_extend, ↓e_lc3, ↓e_gon, ↓e_goc, ↓e_dbMid, ↓e_dbIn, ↓f_neu, ↓e_ifT, ↓e_newD, ↓e_retO, ↓e_fixK, ↓e_putO, ↓e_dkO, ↓e_dkF, ↓e_kdO, ↓e_kdF, ↓e_get2O, ↓e_get2F, ↓e_ListD, ↓e_ListF, ↓od_o, ↓dct_d, ↓key_int, ↓key_str, ↓g_item, ↓g_get, ↓g_in, ↓g_notin, ↓h_list, ↓fz_od, ↓ow_ex, ↓e_tr, ↓e_trO, ↓e_trK, ↓tru_b, ↓tru_n, ↓tru_i, ↓tru_l, ↓tru_t, ↓tru_s, ↓e_i63, ↓n63_d, ↓e_ss, ↓e_ssL, ↓e_ssF, ↓e_never, ↓e_kget, ↓str_ex, ↓e_disp, ↓e_vnil, ↓e_vcons, ↓f_equ, ↓dgTup_tup, ↓dgCons_cons, ↓dgNil_nil, ite_t, ite_f, itK_not, List.cons_append, List.nil_append, List.append_nil, List.replicate, List.flatten_cons, List.flatten_nil, List.append_eq, List.length_cons, List.length_nil, Nat.zero_add, Nat.reduceAdd, true_and, and_true, eqOk_str, eqOk_int, eqOk_bool, str_eqv, int_eqv, tup_nil_eqv, lst_nil_eqv, rep_flat, isK_int, isK_bool, isK_tuple, isK_str, kInt, kBool, kTuple, kStr, GB.isNon, Bool.not_true, Bool.not_false, Bool.or_false, Bool.or_true, Bool.false_or, Bool.true_or, reduceCtorEq, List.length_map]
          by_cases hk : (kinL z).length = r.length
          · rw [decide_eq_true (show ((kinL z).length : Int) = ((r.length + 1 : Nat) : Int) - 1 by omega)]
            have e1 : GB.cutD (PyData.str z :: r) (some 1) none = r := cutD_from _ 1
            rw [e1]
            have zl : (zipOf r ((kinL z).map .str)).length ≤ 3 := by unfold zipOf; simp; omega
            refine ⟨by decide, ite_t.mpr ⟨line_ge (by omega), map_det (f := fun d => .bool (pairB d)) ?_ fun d hd acc K2 hK2 => ?_⟩⟩
            · refine ⟨(zipOf r ((kinL z).map .str)).map pairB, by rw [List.map_map]; rfl, ?_⟩
              rw [line_kin hl.1 hk]
              exact q
            · obtain ⟨a, _, k, hk2, rfl⟩ := zip_in hd
              obtain ⟨y, _, rfl⟩ := List.mem_map.mp hk2
              simp only [↓at0, ↓set0, ↓at1, ↓set1, ↓at2, ↓set2, ↓at3, ↓set3, ↓at4, ↓set4, ↓at5, ↓set5, ↓at6, ↓set6, ↓at7, ↓set7, ↓at8, ↓set8, ↓at9, ↓set9, ↓at10, ↓set10, ↓at11, ↓set11, ↓at12, ↓set12, ↓at13, ↓set13, ↓at14, ↓set14, ↓at15, ↓set15, ↓fz_d, ↓fz_own, ↓fz_ob, ↓one_d, ↓int_d, ↓bool_d, ↓own_o, ↓ds_nil, ↓ds_cons, ↓seq_l, ↓seq_t, ↓ite_t, ↓ite_f, ↓e_next, ↓e_seq, ↓e_set, ↓e_drop, ↓e_ret, ↓e_ifs, ↓e_brk, ↓e_cnt, ↓e_fixs, ↓e_par, ↓e_par3, ↓e_asg, ↓e_for, ↓e_putAt, ↓e_jput, ↓e_var, ↓e_k, ↓e_fz, ↓e_op, ↓e_opL, ↓e_opR, ↓e_n, ↓e_n1, ↓e_nil, ↓e_cons, ↓e_tup, ↓e_lst, ↓e_b, ↓e_not, ↓e_and, ↓e_or, ↓e_andV, ↓e_orV, ↓e_notV, ↓e_if, ↓e_isi, ↓e_neg, ↓e_chain, ↓e_call, ↓e_callK, ↓e_jint, ↓e_dict0, ↓e_dict1, ↓e_listRng, ↓e_append, ↓e_cut, ↓e_cutO, ↓e_onone, ↓e_osome, ↓e_iseq, ↓e_ienum, ↓e_irng, ↓e_gname, ↓e_lnil, ↓e_lcons, ↓e_lc, ↓e_yes, ↓f_addI, ↓f_addS, ↓f_addT, ↓f_addL, ↓f_i2, ↓f_mulI, ↓f_mulT, ↓f_mulL, ↓f_eq, ↓f_ne, ↓f_is, ↓f_isnot, ↓f_in, ↓f_notin, ↓f_ixL, ↓f_ixT, ↓f_lenL, ↓f_lenT, ↓f_lenS, ↓f_abs, ↓f_intI, ↓f_intB, ↓f_tupL, ↓f_tupT, ↓f_lstL, ↓f_lstT, ↓f_repr, ↓f_cutL, ↓f_cutT, ↓firm_d, ↓firm_ob, ↓zip_l, ↓zip_t, ↓e_izip, ↓zip_cons, ↓zip_nil1, ↓zip_nil2, ↓f_sorted, ↓e_inn, ↓e_inc, ↓e_l2n, ↓e_l2c, ↓e_lc2, ↓e_rev, ↓e_pop, ↓e_popAt, ↓e_extend, ↓e_lc3, ↓e_gon, ↓e_goc, ↓e_dbMid, ↓e_dbIn, ↓f_neu, ↓e_ifT, ↓e_newD, ↓e_retO, ↓e_fixK, ↓e_putO, ↓e_dkO, ↓e_dkF, ↓e_kdO, ↓e_kdF, ↓e_get2O, ↓e_get2F, ↓e_ListD, ↓e_ListF, ↓od_o, ↓dct_d, ↓key_int, ↓key_str, ↓g_item, ↓g_get, ↓g_in, ↓g_notin, ↓h_list, ↓fz_od, ↓ow_ex, ↓e_tr, ↓e_trO, ↓e_trK, ↓tru_b, ↓tru_n, ↓tru_i, ↓tru_l, ↓tru_t, ↓tru_s, ↓e_i63, ↓n63_d, ↓e_ss, ↓e_ssL, ↓e_ssF, ↓e_never, ↓e_kget, ↓str_ex, ↓e_disp, ↓e_vnil, ↓e_vcons, ↓f_equ, ↓dgTup_tup, ↓dgCons_cons, ↓dgNil_nil, ite_t, ite_f, itK_not, List.cons_append, List.nil_append, List.append_nil, List.replicate, List.flatten_cons, List.flatten_nil, List.append_eq, List.length_cons, List.length_nil, Nat.zero_add, Nat.reduceAdd, true_and, and_true, eqOk_str, eqOk_int, eqOk_bool, str_eqv, int_eqv, tup_nil_eqv, lst_nil_eqv, rep_flat, isK_int, isK_bool, isK_tuple, isK_str, kInt, kBool, kTuple, kStr, GB.isNon, Bool.not_true, Bool.not_false, Bool.or_false, Bool.or_true, Bool.false_or, Bool.true_or, reduceCtorEq, wipeD, List.set, ↓s_kind]
              exact hK2
          · rw [decide_eq_false (show ¬ ((kinL z).length : Int) = ((r.length + 1 : Nat) : Int) - 1 by omega)]
            have : lineOk (.tuple (.str z :: r)) = false := by
              cases hh : lineOk (.tuple (.str z :: r)) with
              | false => rfl
              | true =>
                exfalso
                have hh : (!(bndL (.str z)).isEmpty && restOk (.str z) 0 (bndL (.str z)) r) = true := hh
                rw [Bool.and_eq_true] at hh
                have h2 := rest_len hh.2
                rw [bnd_kin] at h2
                exact hk h2.symm
            rw [this] at q
            exact ⟨by decide, ite_f.mpr q⟩
        | _ => exact ite_f.mpr q
      · have e : tupB 2 4 (.tuple (w :: r)) = false := by
          show (decide ((2 : Int) ≤ ((w :: r).length : Nat)) && decide ((((w :: r).length : Nat) : Int) ≤ 4)) = false
          rw [List.length_cons]; simp; omega
        rw [e]
        refine ite_f.mpr ?_
        have : lineOk (.tuple (w :: r)) = false := by
          cases hh : lineOk (.tuple (w :: r)) with
          | false => rfl
          | true =>
            exfalso
            have hh : (!(bndL w).isEmpty && restOk w 0 (bndL w) r) = true := hh
            rw [Bool.and_eq_true] at hh
            have h2 := rest_len hh.2
            cases w with
            | str z =>
              rcases words z with rfl | rfl | rfl | rfl | rfl | hn
              · exact hl (by have h2 : r.length = 1 := h2; omega)
              · exact hl (by have h2 : r.length = 2 := h2; omega)
              · exact hl (by have h2 : r.length = 2 := h2; omega)
              · exact hl (by have h2 : r.length = 3 := h2; omega)
              · exact hl (by have h2 : r.length = 3 := h2; omega)
              · rw [bnd_no hn] at hh; cases hh.1
            | _ => cases hh.1
        rw [this] at q
        exact q
  | _ => exact ite_f.mpr q
theorem s_line {k : S → Prop} {x : PyData} : F_p_is_line [.d x] k ↔ k (.d (.bool (lineOk x))) := ⟨fun ⟨_, e, h⟩ => by cases e; exact h, fun h => ⟨_, rfl, h⟩⟩
theorem s_bounds {k : S → Prop} {w : PyData} : F_l_bounds [.d w] k ↔ k (.d (bndD w)) := ⟨fun ⟨_, e, h⟩ => by cases e; exact h, fun h => ⟨_, rfl, h⟩⟩
theorem ma_program_error : ∀ ss R, ss.length = 1 → F_program_error ss R → rd_program_error { nx := fun _ => R (.d .none), rt := R } (ss ++ List.replicate 2 .un) := by
  rintro _ R - ⟨x, rfl, q⟩
  unfold rd_program_error
  simp only [↓at0, ↓set0, ↓at1, ↓set1, ↓at2, ↓set2, ↓at3, ↓set3, ↓at4, ↓set4, ↓at5, ↓set5, ↓at6, ↓set6, ↓at7, ↓set7, ↓at8, ↓set8, ↓at9, ↓set9, ↓at10, ↓set10, ↓at11, ↓set11, ↓at12, ↓set12, ↓at13, ↓set13, ↓at14, ↓set14, ↓at15, ↓set15, ↓fz_d, ↓fz_own, ↓fz_ob, ↓one_d, ↓int_d, ↓bool_d, ↓own_o, ↓ds_nil, ↓ds_cons, ↓seq_l, ↓seq_t, ↓ite_t, ↓ite_f, ↓e_next, ↓e_seq, ↓e_set, ↓e_drop, ↓e_ret, ↓e_ifs, ↓e_brk, ↓e_cnt, ↓e_fixs, ↓e_par, ↓e_par3, ↓e_asg, ↓e_for, ↓e_putAt, ↓e_jput, ↓e_var, ↓e_k, ↓e_fz, ↓e_op, ↓e_opL, ↓e_opR, ↓e_n, ↓e_n1, ↓e_nil, ↓e_cons, ↓e_tup, ↓e_lst, ↓e_b, ↓e_not, ↓e_and, ↓e_or, ↓e_andV, ↓e_orV, ↓e_notV, ↓e_if, ↓e_isi, ↓e_neg, ↓e_chain, ↓e_call, ↓e_callK, ↓e_jint, ↓e_dict0, ↓e_dict1, ↓e_listRng, ↓e_append, ↓e_cut, ↓e_cutO, ↓e_onone, ↓e_osome, ↓e_iseq, ↓e_ienum, ↓e_irng, ↓e_gname, ↓e_lnil, ↓e_lcons, ↓e_lc, ↓e_yes, ↓f_addI, ↓f_addS, ↓f_addT, ↓f_addL, ↓f_i2, ↓f_mulI, ↓f_mulT, ↓f_mulL, ↓f_eq, ↓f_ne, ↓f_is, ↓f_isnot, ↓f_in, ↓f_notin, ↓f_ixL, ↓f_ixT, ↓f_lenL, ↓f_lenT, ↓f_lenS, ↓f_abs, ↓f_intI, ↓f_intB, ↓f_tupL, ↓f_tupT, ↓f_lstL, ↓f_lstT, ↓f_repr, ↓f_cutL, ↓f_cutT, ↓firm_d, ↓firm_ob, ↓zip_l, ↓zip_t, ↓e_izip, ↓zip_cons, ↓zip_nil1, ↓zip_nil2, ↓f_sorted, ↓e_inn, ↓e_inc, ↓e_l2n, ↓e_l2c, ↓e_lc2, ↓e_rev, ↓e_pop, ↓e_popAt, ↓e_extend, ↓e_lc3, ↓e_gon, ↓e_goc, ↓e_dbMid, ↓e_dbIn, ↓f_neu, ↓e_ifT, ↓e_newD, ↓e_retO, ↓e_fixK, ↓e_putO, ↓e_dkO, ↓e_dkF, ↓e_kdO, ↓e_kdF, ↓e_get2O, ↓e_get2F, ↓e_ListD, ↓e_ListF, ↓od_o, ↓dct_d, ↓key_int, ↓key_str, ↓g_item, ↓g_get, ↓g_in, ↓g_notin, ↓h_list, ↓fz_od, ↓ow_ex, ↓e_tr, ↓e_trO, ↓e_trK, ↓tru_b, ↓tru_n, ↓tru_i, ↓tru_l, ↓tru_t, ↓tru_s, ↓e_i63, ↓n63_d, ↓e_ss, ↓e_ssL, ↓e_ssF, ↓e_never, ↓e_kget, ↓str_ex, ↓e_disp, ↓e_vnil, ↓e_vcons, ↓f_equ, ↓dgTup_tup, ↓dgCons_cons, ↓dgNil_nil, ite_t, ite_f, itK_not, List.cons_append, List.nil_append, List.append_nil, List.replicate, List.flatten_cons, List.flatten_nil, List.append_eq, List.length_cons, List.length_nil, Nat.zero_add, Nat.reduceAdd, true_and, and_true, eqOk_str, eqOk_int, eqOk_bool, str_eqv, int_eqv, tup_nil_eqv, lst_nil_eqv, rep_flat, isK_int, isK_bool, isK_tuple, isK_str, kInt, kBool, kTuple, kStr, GB.isNon, Bool.not_true, Bool.not_false, Bool.or_false, Bool.or_true, Bool.false_or, Bool.true_or, reduceCtorEq, ↓s_tup]
  cases x with
  | tuple xs =>
    have q : R (.d (if xs.length ≤ 6 then lnF 0 xs else .str "form")) := q
    by_cases hl : xs.length ≤ 6
    · rw [if_pos hl] at q
      rw [show tupB 0 6 (.tuple xs) = true by show (decide ((0 : Int) ≤ (xs.length : Nat)) && decide (((xs.length : Nat) : Int) ≤ 6)) = true; simp; omega]
      simp only [↓at0, ↓set0, ↓at1, ↓set1, ↓at2, ↓set2, ↓at3, ↓set3, ↓at4, ↓set4, ↓at5, ↓set5, ↓at6, ↓set6, ↓at7, ↓set7, ↓at8, ↓set8, ↓at9, ↓set9, ↓at10, ↓set10, ↓at11, ↓set11, ↓at12, ↓set12, ↓at13, ↓set13, ↓at14, ↓set14, ↓at15, ↓set15, ↓fz_d, ↓fz_own, ↓fz_ob, ↓one_d, ↓int_d, ↓bool_d, ↓own_o, ↓ds_nil, ↓ds_cons, ↓seq_l, ↓seq_t, ↓ite_t, ↓ite_f, ↓e_next, ↓e_seq, ↓e_set, ↓e_drop, ↓e_ret, ↓e_ifs, ↓e_brk, ↓e_cnt, ↓e_fixs, ↓e_par, ↓e_par3, ↓e_asg, ↓e_for, ↓e_putAt, ↓e_jput, ↓e_var, ↓e_k, ↓e_fz, ↓e_op, ↓e_opL, ↓e_opR, ↓e_n, ↓e_n1, ↓e_nil, ↓e_cons, ↓e_tup, ↓e_lst, ↓e_b, ↓e_not, ↓e_and, ↓e_or, ↓e_andV, ↓e_orV, ↓e_notV, ↓e_if, ↓e_isi, ↓e_neg, ↓e_chain, ↓e_call, ↓e_callK, ↓e_jint, ↓e_dict0, ↓e_dict1, ↓e_listRng, ↓e_append, ↓e_cut, ↓e_cutO, ↓e_onone, ↓e_osome, ↓e_iseq, ↓e_ienum, ↓e_irng, ↓e_gname, ↓e_lnil, ↓e_lcons, ↓e_lc, ↓e_yes, ↓f_addI, ↓f_addS, ↓f_addT, ↓f_addL, ↓f_i2, ↓f_mulI, ↓f_mulT, ↓f_mulL, ↓f_eq, ↓f_ne, ↓f_is, ↓f_isnot, ↓f_in, ↓f_notin, ↓f_ixL, ↓f_ixT, ↓f_lenL, ↓f_lenT, ↓f_lenS, ↓f_abs, ↓f_intI, ↓f_intB, ↓f_tupL, ↓f_tupT, ↓f_lstL, ↓f_lstT, ↓f_repr, ↓f_cutL, ↓f_cutT, ↓firm_d, ↓firm_ob, ↓zip_l, ↓zip_t, ↓e_izip, ↓zip_cons, ↓zip_nil1, ↓zip_nil2, ↓f_sorted, ↓e_inn, ↓e_inc, ↓e_l2n, ↓e_l2c, ↓e_lc2, ↓e_rev, ↓e_pop, ↓e_popAt, ↓e_extend, ↓e_lc3, ↓e_gon, ↓e_goc, ↓e_dbMid, ↓e_dbIn, ↓f_neu, ↓e_ifT, ↓e_newD, ↓e_retO, ↓e_fixK, ↓e_putO, ↓e_dkO, ↓e_dkF, ↓e_kdO, ↓e_kdF, ↓e_get2O, ↓e_get2F, ↓e_ListD, ↓e_ListF, ↓od_o, ↓dct_d, ↓key_int, ↓key_str, ↓g_item, ↓g_get, ↓g_in, ↓g_notin, ↓h_list, ↓fz_od, ↓ow_ex, ↓e_tr, ↓e_trO, ↓e_trK, ↓tru_b, ↓tru_n, ↓tru_i, ↓tru_l, ↓tru_t, ↓tru_s, ↓e_i63, ↓n63_d, ↓e_ss, ↓e_ssL, ↓e_ssF, ↓e_never, ↓e_kget, ↓str_ex, ↓e_disp, ↓e_vnil, ↓e_vcons, ↓f_equ, ↓dgTup_tup, ↓dgCons_cons, ↓dgNil_nil, ite_t, ite_f, itK_not, List.cons_append, List.nil_append, List.append_nil, List.replicate, List.flatten_cons, List.flatten_nil, List.append_eq, List.length_cons, List.length_nil, Nat.zero_add, Nat.reduceAdd, true_and, and_true, eqOk_str, eqOk_int, eqOk_bool, str_eqv, int_eqv, tup_nil_eqv, lst_nil_eqv, rep_flat, isK_int, isK_bool, isK_tuple, isK_str, kInt, kBool, kTuple, kStr, GB.isNon, Bool.not_true, Bool.not_false, Bool.or_false, Bool.or_true, Bool.false_or, Bool.true_or, reduceCtorEq, ]
      refine loopP (fun k ys ρ => ∃ (s1 s2 : S), ρ = [S.d (.tuple xs), s1, s2] ∧ lnF k ys = lnF 0 xs) ?_ ?_ _ 0 _ ⟨_, _, rfl, rfl⟩
      · rintro k _ ⟨s1, s2, rfl, hq⟩
        simp only [↓at0, ↓set0, ↓at1, ↓set1, ↓at2, ↓set2, ↓at3, ↓set3, ↓at4, ↓set4, ↓at5, ↓set5, ↓at6, ↓set6, ↓at7, ↓set7, ↓at8, ↓set8, ↓at9, ↓set9, ↓at10, ↓set10, ↓at11, ↓set11, ↓at12, ↓set12, ↓at13, ↓set13, ↓at14, ↓set14, ↓at15, ↓set15, ↓fz_d, ↓fz_own, ↓fz_ob, ↓one_d, ↓int_d, ↓bool_d, ↓own_o, ↓ds_nil, ↓ds_cons, ↓seq_l, ↓seq_t, ↓ite_t, ↓ite_f, ↓e_next, ↓e_seq, ↓e_set, ↓e_drop, ↓e_ret, ↓e_ifs, ↓e_brk, ↓e_cnt, ↓e_fixs, ↓e_par, ↓e_par3, ↓e_asg, ↓e_for, ↓e_putAt, ↓e_jput, ↓e_var, ↓e_k, ↓e_fz, ↓e_op, ↓e_opL, ↓e_opR, ↓e_n, ↓e_n1, ↓e_nil, ↓e_cons, ↓e_tup, ↓e_lst, ↓e_b, ↓e_not, ↓e_and, ↓e_or, ↓e_andV, ↓e_orV, ↓e_notV, ↓e_if, ↓e_isi, ↓e_neg, ↓e_chain, ↓e_call, ↓e_callK, ↓e_jint, ↓e_dict0, ↓e_dict1, ↓e_listRng, ↓e_append, ↓e_cut, ↓e_cutO, ↓e_onone, ↓e_osome, ↓e_iseq, ↓e_ienum, ↓e_irng, ↓e_gname, ↓e_lnil, ↓e_lcons, ↓e_lc, ↓e_yes, ↓f_addI, ↓f_addS, ↓f_addT, ↓f_addL, ↓f_i2, ↓f_mulI, ↓f_mulT, ↓f_mulL, ↓f_eq, ↓f_ne, ↓f_is, ↓f_isnot, ↓f_in, ↓f_notin, ↓f_ixL, ↓f_ixT, ↓f_lenL, ↓f_lenT, ↓f_lenS, ↓f_abs, ↓f_intI, ↓f_intB, ↓f_tupL, ↓f_tupT, ↓f_lstL, ↓f_lstT, ↓f_repr, ↓f_cutL, ↓f_cutT, ↓firm_d, ↓firm_ob, ↓zip_l, ↓zip_t, ↓e_izip, ↓zip_cons, ↓zip_nil1, ↓zip_nil2, ↓f_sorted, ↓e_inn, ↓e_inc, ↓e_l2n, ↓e_l2c, ↓e_lc2, ↓e_rev, ↓e_pop, ↓e_popAt, ↓e_extend, ↓e_lc3, ↓e_gon, ↓e_goc, ↓e_dbMid, ↓e_dbIn, ↓f_neu, ↓e_ifT, ↓e_newD, ↓e_retO, ↓e_fixK, ↓e_putO, ↓e_dkO, ↓e_dkF, ↓e_kdO, ↓e_kdF, ↓e_get2O, ↓e_get2F, ↓e_ListD, ↓e_ListF, ↓od_o, ↓dct_d, ↓key_int, ↓key_str, ↓g_item, ↓g_get, ↓g_in, ↓g_notin, ↓h_list, ↓fz_od, ↓ow_ex, ↓e_tr, ↓e_trO, ↓e_trK, ↓tru_b, ↓tru_n, ↓tru_i, ↓tru_l, ↓tru_t, ↓tru_s, ↓e_i63, ↓n63_d, ↓e_ss, ↓e_ssL, ↓e_ssF, ↓e_never, ↓e_kget, ↓str_ex, ↓e_disp, ↓e_vnil, ↓e_vcons, ↓f_equ, ↓dgTup_tup, ↓dgCons_cons, ↓dgNil_nil, ite_t, ite_f, itK_not, List.cons_append, List.nil_append, List.append_nil, List.replicate, List.flatten_cons, List.flatten_nil, List.append_eq, List.length_cons, List.length_nil, Nat.zero_add, Nat.reduceAdd, true_and, and_true, eqOk_str, eqOk_int, eqOk_bool, str_eqv, int_eqv, tup_nil_eqv, lst_nil_eqv, rep_flat, isK_int, isK_bool, isK_tuple, isK_str, kInt, kBool, kTuple, kStr, GB.isNon, Bool.not_true, Bool.not_false, Bool.or_false, Bool.or_true, Bool.false_or, Bool.true_or, reduceCtorEq, ]
        rw [← hq] at q
        exact q
      · rintro k y ys _ K hK ⟨s1, s2, rfl, hq⟩
        have hq : (if lineOk y = true then lnF (k + 1) ys else .tuple [.str "line", .int k]) = lnF 0 xs := hq
        simp only [↓at0, ↓set0, ↓at1, ↓set1, ↓at2, ↓set2, ↓at3, ↓set3, ↓at4, ↓set4, ↓at5, ↓set5, ↓at6, ↓set6, ↓at7, ↓set7, ↓at8, ↓set8, ↓at9, ↓set9, ↓at10, ↓set10, ↓at11, ↓set11, ↓at12, ↓set12, ↓at13, ↓set13, ↓at14, ↓set14, ↓at15, ↓set15, ↓fz_d, ↓fz_own, ↓fz_ob, ↓one_d, ↓int_d, ↓bool_d, ↓own_o, ↓ds_nil, ↓ds_cons, ↓seq_l, ↓seq_t, ↓ite_t, ↓ite_f, ↓e_next, ↓e_seq, ↓e_set, ↓e_drop, ↓e_ret, ↓e_ifs, ↓e_brk, ↓e_cnt, ↓e_fixs, ↓e_par, ↓e_par3, ↓e_asg, ↓e_for, ↓e_putAt, ↓e_jput, ↓e_var, ↓e_k, ↓e_fz, ↓e_op, ↓e_opL, ↓e_opR, ↓e_n, ↓e_n1, ↓e_nil, ↓e_cons, ↓e_tup, ↓e_lst, ↓e_b, ↓e_not, ↓e_and, ↓e_or, ↓e_andV, ↓e_orV, ↓e_notV, ↓e_if, ↓e_isi, ↓e_neg, ↓e_chain, ↓e_call, ↓e_callK, ↓e_jint, ↓e_dict0, ↓e_dict1, ↓e_listRng, ↓e_append, ↓e_cut, ↓e_cutO, ↓e_onone, ↓e_osome, ↓e_iseq, ↓e_ienum, ↓e_irng, ↓e_gname, ↓e_lnil, ↓e_lcons, ↓e_lc, ↓e_yes, ↓f_addI, ↓f_addS, ↓f_addT, ↓f_addL, ↓f_i2, ↓f_mulI, ↓f_mulT, ↓f_mulL, ↓f_eq, ↓f_ne, ↓f_is, ↓f_isnot, ↓f_in, ↓f_notin, ↓f_ixL, ↓f_ixT, ↓f_lenL, ↓f_lenT, ↓f_lenS, ↓f_abs, ↓f_intI, ↓f_intB, ↓f_tupL, ↓f_tupT, ↓f_lstL, ↓f_lstT, ↓f_repr, ↓f_cutL, ↓f_cutT, ↓firm_d, ↓firm_ob, ↓zip_l, ↓zip_t, ↓e_izip, ↓zip_cons, ↓zip_nil1, ↓zip_nil2, ↓f_sorted, ↓e_inn, ↓e_inc, ↓e_l2n, ↓e_l2c, ↓e_lc2, ↓e_rev, ↓e_pop, ↓e_popAt, ↓e_extend, ↓e_lc3, ↓e_gon, ↓e_goc, ↓e_dbMid, ↓e_dbIn, ↓f_neu, ↓e_ifT, ↓e_newD, ↓e_retO, ↓e_fixK, ↓e_putO, ↓e_dkO, ↓e_dkF, ↓e_kdO, ↓e_kdF, ↓e_get2O, ↓e_get2F, ↓e_ListD, ↓e_ListF, ↓od_o, ↓dct_d, ↓key_int, ↓key_str, ↓g_item, ↓g_get, ↓g_in, ↓g_notin, ↓h_list, ↓fz_od, ↓ow_ex, ↓e_tr, ↓e_trO, ↓e_trK, ↓tru_b, ↓tru_n, ↓tru_i, ↓tru_l, ↓tru_t, ↓tru_s, ↓e_i63, ↓n63_d, ↓e_ss, ↓e_ssL, ↓e_ssF, ↓e_never, ↓e_kget, ↓str_ex, ↓e_disp, ↓e_vnil, ↓e_vcons, ↓f_equ, ↓dgTup_tup, ↓dgCons_cons, ↓dgNil_nil, ite_t, ite_f, itK_not, List.cons_append, List.nil_append, List.append_nil, List.replicate, List.flatten_cons, List.flatten_nil, List.append_eq, List.length_cons, List.length_nil, Nat.zero_add, Nat.reduceAdd, true_and, and_true, eqOk_str, eqOk_int, eqOk_bool, str_eqv, int_eqv, tup_nil_eqv, lst_nil_eqv, rep_flat, isK_int, isK_bool, isK_tuple, isK_str, kInt, kBool, kTuple, kStr, GB.isNon, Bool.not_true, Bool.not_false, Bool.or_false, Bool.or_true, Bool.false_or, Bool.true_or, reduceCtorEq, ↓s_line]
        refine iteB (fun h => ?_) fun h => ?_
        · rw [if_pos h] at hq
          exact hK _ ⟨_, _, rfl, hq⟩
        · rw [if_neg (by rw [h]; decide)] at hq
          rw [← hq] at q
          exact ⟨by decide, q⟩
    · rw [if_neg hl] at q
      rw [show tupB 0 6 (.tuple xs) = false by show (decide ((0 : Int) ≤ (xs.length : Nat)) && decide (((xs.length : Nat) : Int) ≤ 6)) = false; simp; omega]
      exact q
  | _ => exact q
end GK

set_option maxRecDepth 100000
namespace GK
open PySem PySem.Spec PyProof.Rows L2 GB
theorem s_perr {k : S → Prop} {x : PyData} : F_program_error [.d x] k ↔ k (.d (pgF x)) := ⟨fun ⟨_, e, h⟩ => by cases e; exact h, fun h => ⟨_, rfl, h⟩⟩
theorem st_ix2 {k : S → Prop} {cs : List (List PyData × PyData)} {rm lk : List PyData} : fIx (stD cs rm lk) (.int 2) k ↔ k (.d (.tuple rm)) := f_ixT.trans (ixn rfl)
theorem isNon_eq (x : PyData) : (match x with | .none => true | _ => false) = GB.isNon x := by cases x <;> rfl
theorem ma_programs_error : ∀ ss R, ss.length = 2 → F_programs_error ss R → rd_programs_error { nx := fun _ => R (.d .none), rt := R } (ss ++ List.replicate 4 .un) := by
  rintro _ R - ⟨cs, rm, lk, x, rfl, q⟩
  unfold rd_programs_error
  simp only [↓at0, ↓set0, ↓at1, ↓set1, ↓at2, ↓set2, ↓at3, ↓set3, ↓at4, ↓set4, ↓at5, ↓set5, ↓at6, ↓set6, ↓at7, ↓set7, ↓at8, ↓set8, ↓at9, ↓set9, ↓at10, ↓set10, ↓at11, ↓set11, ↓at12, ↓set12, ↓at13, ↓set13, ↓at14, ↓set14, ↓at15, ↓set15, ↓fz_d, ↓fz_own, ↓fz_ob, ↓one_d, ↓int_d, ↓bool_d, ↓own_o, ↓ds_nil, ↓ds_cons, ↓seq_l, ↓seq_t, ↓ite_t, ↓ite_f, ↓e_next, ↓e_seq, ↓e_set, ↓e_drop, ↓e_ret, ↓e_ifs, ↓e_brk, ↓e_cnt, ↓e_fixs, ↓e_par, ↓e_par3, ↓e_asg, ↓e_for, ↓e_putAt, ↓e_jput, ↓e_var, ↓e_k, ↓e_fz, ↓e_op, ↓e_opL, ↓e_opR, ↓e_n, ↓e_n1, ↓e_nil, ↓e_cons, ↓e_tup, ↓e_lst, ↓e_b, ↓e_not, ↓e_and, ↓e_or, ↓e_andV, ↓e_orV, ↓e_notV, ↓e_if, ↓e_isi, ↓e_neg, ↓e_chain, ↓e_call, ↓e_callK, ↓e_jint, ↓e_dict0, ↓e_dict1, ↓e_listRng, ↓e_append, ↓e_cut, ↓e_cutO, ↓e_onone, ↓e_osome, ↓e_iseq, ↓e_ienum, ↓e_irng, ↓e_gname, ↓e_lnil, ↓e_lcons, ↓e_lc, ↓e_yes, ↓f_addI, ↓f_addS, ↓f_addT, ↓f_addL, ↓f_i2, ↓f_mulI, ↓f_mulT, ↓f_mulL, ↓f_eq, ↓f_ne, ↓f_is, ↓f_isnot, ↓f_in, ↓f_notin, ↓f_ixL, ↓f_ixT, ↓f_lenL, ↓f_lenT, ↓f_lenS, ↓f_abs, ↓f_intI, ↓f_intB, ↓f_tupL, ↓f_tupT, ↓f_lstL, ↓f_lstT, ↓f_repr, ↓f_cutL, ↓f_cutT, ↓firm_d, ↓firm_ob, ↓zip_l, ↓zip_t, ↓e_izip, ↓zip_cons, ↓zip_nil1, ↓zip_nil2, ↓f_sorted, ↓e_inn, ↓e_inc, ↓e_l2n, ↓e_l2c, ↓e_lc2, ↓e_rev, ↓e_pop, ↓e_popAt, ↓e_extend, ↓e_lc3, ↓e_gon, ↓e_goc, ↓e_dbMid, ↓e_dbIn, ↓f_neu, ↓e_ifT, ↓e_newD, ↓e_retO, ↓e_fixK, ↓e_putO, ↓e_dkO, ↓e_dkF, ↓e_kdO, ↓e_kdF, ↓e_get2O, ↓e_get2F, ↓e_ListD, ↓e_ListF, ↓od_o, ↓dct_d, ↓key_int, ↓key_str, ↓g_item, ↓g_get, ↓g_in, ↓g_notin, ↓h_list, ↓fz_od, ↓ow_ex, ↓e_tr, ↓e_trO, ↓e_trK, ↓tru_b, ↓tru_n, ↓tru_i, ↓tru_l, ↓tru_t, ↓tru_s, ↓e_i63, ↓n63_d, ↓e_ss, ↓e_ssL, ↓e_ssF, ↓e_never, ↓e_kget, ↓str_ex, ↓e_disp, ↓e_vnil, ↓e_vcons, ↓f_equ, ↓dgTup_tup, ↓dgCons_cons, ↓dgNil_nil, ite_t, ite_f, itK_not, List.cons_append, List.nil_append, List.append_nil, List.replicate, List.flatten_cons, List.flatten_nil, List.append_eq, List.length_cons, List.length_nil, Nat.zero_add, Nat.reduceAdd, true_and, and_true, eqOk_str, eqOk_int, eqOk_bool, str_eqv, int_eqv, tup_nil_eqv, lst_nil_eqv, rep_flat, isK_int, isK_bool, isK_tuple, isK_str, kInt, kBool, kTuple, kStr, GB.isNon, Bool.not_true, Bool.not_false, Bool.or_false, Bool.or_true, Bool.false_or, Bool.true_or, reduceCtorEq, ↓s_tup, ↓st_ix2]
  cases x with
  | tuple xs =>
    have q : R (.d (if xs.length = rm.length then apF 0 xs else .str "form")) := q
    by_cases hl : xs.length = rm.length
    · rw [if_pos hl] at q
      rw [show tupB (rm.length : Int) (rm.length : Int) (.tuple xs) = true by show (decide ((rm.length : Int) ≤ (xs.length : Nat)) && decide (((xs.length : Nat) : Int) ≤ rm.length)) = true; simp; omega]
      simp only [↓at0, ↓set0, ↓at1, ↓set1, ↓at2, ↓set2, ↓at3, ↓set3, ↓at4, ↓set4, ↓at5, ↓set5, ↓at6, ↓set6, ↓at7, ↓set7, ↓at8, ↓set8, ↓at9, ↓set9, ↓at10, ↓set10, ↓at11, ↓set11, ↓at12, ↓set12, ↓at13, ↓set13, ↓at14, ↓set14, ↓at15, ↓set15, ↓fz_d, ↓fz_own, ↓fz_ob, ↓one_d, ↓int_d, ↓bool_d, ↓own_o, ↓ds_nil, ↓ds_cons, ↓seq_l, ↓seq_t, ↓ite_t, ↓ite_f, ↓e_next, ↓e_seq, ↓e_set, ↓e_drop, ↓e_ret, ↓e_ifs, ↓e_brk, ↓e_cnt, ↓e_fixs, ↓e_par, ↓e_par3, ↓e_asg, ↓e_for, ↓e_putAt, ↓e_jput, ↓e_var, ↓e_k, ↓e_fz, ↓e_op, ↓e_opL, ↓e_opR, ↓e_n, ↓e_n1, ↓e_nil, ↓e_cons, ↓e_tup, ↓e_lst, ↓e_b, ↓e_not, ↓e_and, ↓e_or, ↓e_andV, ↓e_orV, ↓e_notV, ↓e_if, ↓e_isi, ↓e_neg, ↓e_chain, ↓e_call, ↓e_callK, ↓e_jint, ↓e_dict0, ↓e_dict1, ↓e_listRng, ↓e_append, ↓e_cut, ↓e_cutO, ↓e_onone, ↓e_osome, ↓e_iseq, ↓e_ienum, ↓e_irng, ↓e_gname, ↓e_lnil, ↓e_lcons, ↓e_lc, ↓e_yes, ↓f_addI, ↓f_addS, ↓f_addT, ↓f_addL, ↓f_i2, ↓f_mulI, ↓f_mulT, ↓f_mulL, ↓f_eq, ↓f_ne, ↓f_is, ↓f_isnot, ↓f_in, ↓f_notin, ↓f_ixL, ↓f_ixT, ↓f_lenL, ↓f_lenT, ↓f_lenS, ↓f_abs, ↓f_intI, ↓f_intB, ↓f_tupL, ↓f_tupT, ↓f_lstL, ↓f_lstT, ↓f_repr, ↓f_cutL, ↓f_cutT, ↓firm_d, ↓firm_ob, ↓zip_l, ↓zip_t, ↓e_izip, ↓zip_cons, ↓zip_nil1, ↓zip_nil2, ↓f_sorted, ↓e_inn, ↓e_inc, ↓e_l2n, ↓e_l2c, ↓e_lc2, ↓e_rev, ↓e_pop, ↓e_popAt, ↓e_extend, ↓e_lc3, ↓e_gon, ↓e_goc, ↓e_dbMid, ↓e_dbIn, ↓f_neu, ↓e_ifT, ↓e_newD, ↓e_retO, ↓e_fixK, ↓e_putO, ↓e_dkO, ↓e_dkF, ↓e_kdO, ↓e_kdF, ↓e_get2O, ↓e_get2F, ↓e_ListD, ↓e_ListF, ↓od_o, ↓dct_d, ↓key_int, ↓key_str, ↓g_item, ↓g_get, ↓g_in, ↓g_notin, ↓h_list, ↓fz_od, ↓ow_ex, ↓e_tr, ↓e_trO, ↓e_trK, ↓tru_b, ↓tru_n, ↓tru_i, ↓tru_l, ↓tru_t, ↓tru_s, ↓e_i63, ↓n63_d, ↓e_ss, ↓e_ssL, ↓e_ssF, ↓e_never, ↓e_kget, ↓str_ex, ↓e_disp, ↓e_vnil, ↓e_vcons, ↓f_equ, ↓dgTup_tup, ↓dgCons_cons, ↓dgNil_nil, ite_t, ite_f, itK_not, List.cons_append, List.nil_append, List.append_nil, List.replicate, List.flatten_cons, List.flatten_nil, List.append_eq, List.length_cons, List.length_nil, Nat.zero_add, Nat.reduceAdd, true_and, and_true, eqOk_str, eqOk_int, eqOk_bool, str_eqv, int_eqv, tup_nil_eqv, lst_nil_eqv, rep_flat, isK_int, isK_bool, isK_tuple, isK_str, kInt, kBool, kTuple, kStr, GB.isNon, Bool.not_true, Bool.not_false, Bool.or_false, Bool.or_true, Bool.false_or, Bool.true_or, reduceCtorEq, ]
      refine loopP (fun k ys ρ => ∃ (s1 s2 s3 : S), ρ = [S.d (stD cs rm lk), S.d (.tuple xs), S.d (.int rm.length), s1, s2, s3] ∧ apF k ys = apF 0 xs) ?_ ?_ _ 0 _ ⟨_, _, _, rfl, rfl⟩
      · rintro k _ ⟨s1, s2, s3, rfl, hq⟩
        simp only [↓at0, ↓set0, ↓at1, ↓set1, ↓at2, ↓set2, ↓at3, ↓set3, ↓at4, ↓set4, ↓at5, ↓set5, ↓at6, ↓set6, ↓at7, ↓set7, ↓at8, ↓set8, ↓at9, ↓set9, ↓at10, ↓set10, ↓at11, ↓set11, ↓at12, ↓set12, ↓at13, ↓set13, ↓at14, ↓set14, ↓at15, ↓set15, ↓fz_d, ↓fz_own, ↓fz_ob, ↓one_d, ↓int_d, ↓bool_d, ↓own_o, ↓ds_nil, ↓ds_cons, ↓seq_l, ↓seq_t, ↓ite_t, ↓ite_f, ↓e_next, ↓e_seq, ↓e_set, ↓e_drop, ↓e_ret, ↓e_ifs, ↓e_brk, ↓e_cnt, ↓e_fixs, ↓e_par, ↓e_par3, ↓e_asg, ↓e_for, ↓e_putAt, ↓e_jput, ↓e_var, ↓e_k, ↓e_fz, ↓e_op, ↓e_opL, ↓e_opR, ↓e_n, ↓e_n1, ↓e_nil, ↓e_cons, ↓e_tup, ↓e_lst, ↓e_b, ↓e_not, ↓e_and, ↓e_or, ↓e_andV, ↓e_orV, ↓e_notV, ↓e_if, ↓e_isi, ↓e_neg, ↓e_chain, ↓e_call, ↓e_callK, ↓e_jint, ↓e_dict0, ↓e_dict1, ↓e_listRng, ↓e_append, ↓e_cut, ↓e_cutO, ↓e_onone, ↓e_osome, ↓e_iseq, ↓e_ienum, ↓e_irng, ↓e_gname, ↓e_lnil, ↓e_lcons, ↓e_lc, ↓e_yes, ↓f_addI, ↓f_addS, ↓f_addT, ↓f_addL, ↓f_i2, ↓f_mulI, ↓f_mulT, ↓f_mulL, ↓f_eq, ↓f_ne, ↓f_is, ↓f_isnot, ↓f_in, ↓f_notin, ↓f_ixL, ↓f_ixT, ↓f_lenL, ↓f_lenT, ↓f_lenS, ↓f_abs, ↓f_intI, ↓f_intB, ↓f_tupL, ↓f_tupT, ↓f_lstL, ↓f_lstT, ↓f_repr, ↓f_cutL, ↓f_cutT, ↓firm_d, ↓firm_ob, ↓zip_l, ↓zip_t, ↓e_izip, ↓zip_cons, ↓zip_nil1, ↓zip_nil2, ↓f_sorted, ↓e_inn, ↓e_inc, ↓e_l2n, ↓e_l2c, ↓e_lc2, ↓e_rev, ↓e_pop, ↓e_popAt, ↓e_extend, ↓e_lc3, ↓e_gon, ↓e_goc, ↓e_dbMid, ↓e_dbIn, ↓f_neu, ↓e_ifT, ↓e_newD, ↓e_retO, ↓e_fixK, ↓e_putO, ↓e_dkO, ↓e_dkF, ↓e_kdO, ↓e_kdF, ↓e_get2O, ↓e_get2F, ↓e_ListD, ↓e_ListF, ↓od_o, ↓dct_d, ↓key_int, ↓key_str, ↓g_item, ↓g_get, ↓g_in, ↓g_notin, ↓h_list, ↓fz_od, ↓ow_ex, ↓e_tr, ↓e_trO, ↓e_trK, ↓tru_b, ↓tru_n, ↓tru_i, ↓tru_l, ↓tru_t, ↓tru_s, ↓e_i63, ↓n63_d, ↓e_ss, ↓e_ssL, ↓e_ssF, ↓e_never, ↓e_kget, ↓str_ex, ↓e_disp, ↓e_vnil, ↓e_vcons, ↓f_equ, ↓dgTup_tup, ↓dgCons_cons, ↓dgNil_nil, ite_t, ite_f, itK_not, List.cons_append, List.nil_append, List.append_nil, List.replicate, List.flatten_cons, List.flatten_nil, List.append_eq, List.length_cons, List.length_nil, Nat.zero_add, Nat.reduceAdd, true_and, and_true, eqOk_str, eqOk_int, eqOk_bool, str_eqv, int_eqv, tup_nil_eqv, lst_nil_eqv, rep_flat, isK_int, isK_bool, isK_tuple, isK_str, kInt, kBool, kTuple, kStr, GB.isNon, Bool.not_true, Bool.not_false, Bool.or_false, Bool.or_true, Bool.false_or, Bool.true_or, reduceCtorEq, ]
        rw [← hq] at q
        exact q
      · rintro k y ys _ K hK ⟨s1, s2, s3, rfl, hq⟩
        have hq : (if GB.isNon (pgF y) = true then apF (k + 1) ys else .tuple [.str "program", .int k, pgF y]) = apF 0 xs := hq
        simp only [↓at0, ↓set0, ↓at1, ↓set1, ↓at2, ↓set2, ↓at3, ↓set3, ↓at4, ↓set4, ↓at5, ↓set5, ↓at6, ↓set6, ↓at7, ↓set7, ↓at8, ↓set8, ↓at9, ↓set9, ↓at10, ↓set10, ↓at11, ↓set11, ↓at12, ↓set12, ↓at13, ↓set13, ↓at14, ↓set14, ↓at15, ↓set15, ↓fz_d, ↓fz_own, ↓fz_ob, ↓one_d, ↓int_d, ↓bool_d, ↓own_o, ↓ds_nil, ↓ds_cons, ↓seq_l, ↓seq_t, ↓ite_t, ↓ite_f, ↓e_next, ↓e_seq, ↓e_set, ↓e_drop, ↓e_ret, ↓e_ifs, ↓e_brk, ↓e_cnt, ↓e_fixs, ↓e_par, ↓e_par3, ↓e_asg, ↓e_for, ↓e_putAt, ↓e_jput, ↓e_var, ↓e_k, ↓e_fz, ↓e_op, ↓e_opL, ↓e_opR, ↓e_n, ↓e_n1, ↓e_nil, ↓e_cons, ↓e_tup, ↓e_lst, ↓e_b, ↓e_not, ↓e_and, ↓e_or, ↓e_andV, ↓e_orV, ↓e_notV, ↓e_if, ↓e_isi, ↓e_neg, ↓e_chain, ↓e_call, ↓e_callK, ↓e_jint, ↓e_dict0, ↓e_dict1, ↓e_listRng, ↓e_append, ↓e_cut, ↓e_cutO, ↓e_onone, ↓e_osome, ↓e_iseq, ↓e_ienum, ↓e_irng, ↓e_gname, ↓e_lnil, ↓e_lcons, ↓e_lc, ↓e_yes, ↓f_addI, ↓f_addS, ↓f_addT, ↓f_addL, ↓f_i2, ↓f_mulI, ↓f_mulT, ↓f_mulL, ↓f_eq, ↓f_ne, ↓f_is, ↓f_isnot, ↓f_in, ↓f_notin, ↓f_ixL, ↓f_ixT, ↓f_lenL, ↓f_lenT, ↓f_lenS, ↓f_abs, ↓f_intI, ↓f_intB, ↓f_tupL, ↓f_tupT, ↓f_lstL, ↓f_lstT, ↓f_repr, ↓f_cutL, ↓f_cutT, ↓firm_d, ↓firm_ob, ↓zip_l, ↓zip_t, ↓e_izip, ↓zip_cons, ↓zip_nil1, ↓zip_nil2, ↓f_sorted, ↓e_inn, ↓e_inc, ↓e_l2n, ↓e_l2c, ↓e_lc2, ↓e_rev, ↓e_pop, ↓e_popAt, ↓e_extend, ↓e_lc3, ↓e_gon, ↓e_goc, ↓e_dbMid, ↓e_dbIn, ↓f_neu, ↓e_ifT, ↓e_newD, ↓e_retO, ↓e_fixK, ↓e_putO, ↓e_dkO, ↓e_dkF, ↓e_kdO, ↓e_kdF, ↓e_get2O, ↓e_get2F, ↓e_ListD, ↓e_ListF, ↓od_o, ↓dct_d, ↓key_int, ↓key_str, ↓g_item, ↓g_get, ↓g_in, ↓g_notin, ↓h_list, ↓fz_od, ↓ow_ex, ↓e_tr, ↓e_trO, ↓e_trK, ↓tru_b, ↓tru_n, ↓tru_i, ↓tru_l, ↓tru_t, ↓tru_s, ↓e_i63, ↓n63_d, ↓e_ss, ↓e_ssL, ↓e_ssF, ↓e_never, ↓e_kget, ↓str_ex, ↓e_disp, ↓e_vnil, ↓e_vcons, ↓f_equ, ↓dgTup_tup, ↓dgCons_cons, ↓dgNil_nil, ite_t, ite_f, itK_not, List.cons_append, List.nil_append, List.append_nil, List.replicate, List.flatten_cons, List.flatten_nil, List.append_eq, List.length_cons, List.length_nil, Nat.zero_add, Nat.reduceAdd, true_and, and_true, eqOk_str, eqOk_int, eqOk_bool, str_eqv, int_eqv, tup_nil_eqv, lst_nil_eqv, rep_flat, isK_int, isK_bool, isK_tuple, isK_str, kInt, kBool, kTuple, kStr, GB.isNon, Bool.not_true, Bool.not_false, Bool.or_false, Bool.or_true, Bool.false_or, Bool.true_or, reduceCtorEq, ↓s_perr]
        have nx : ∀ z, pgF y = z → GB.isNon z = true → K [S.d (stD cs rm lk), S.d (.tuple xs), S.d (.int rm.length), S.d (.int k), S.d y, S.d z] := fun z e h => by
          rw [e, if_pos h] at hq
          exact hK _ ⟨_, _, _, rfl, hq⟩
        have no : GB.isNon (pgF y) = false → R (S.d (.tuple [.str "program", .int k, pgF y])) := fun h => by
          rw [if_neg (by rw [h]; decide)] at hq
          rw [← hq] at q
          exact q
        generalize pgF y = z at nx no ⊢
        cases z with
        | none => exact ite_t.mpr (nx _ rfl rfl)
        | _ => exact ite_f.mpr ⟨by decide, no rfl⟩
    · rw [if_neg hl] at q
      rw [show tupB (rm.length : Int) (rm.length : Int) (.tuple xs) = false by show (decide ((rm.length : Int) ≤ (xs.length : Nat)) && decide (((xs.length : Nat) : Int) ≤ rm.length)) = false; simp; omega]
      exact q
  | _ => exact q
theorem ma_l_is_line : ∀ ss R, ss.length = 1 → F_l_is_line ss R → rd_l_is_line { nx := fun _ => R (.d .none), rt := R } (ss ++ List.replicate 3 .un) := by
  rintro _ R - ⟨x, rfl, q⟩
  unfold rd_l_is_line
  simp only [↓at0, ↓set0, ↓at1, ↓set1, ↓at2, ↓set2, ↓at3, ↓set3, ↓at4, ↓set4, ↓at5, ↓set5, ↓at6, ↓set6, ↓at7, ↓set7, ↓at8, ↓set8, ↓at9, ↓set9, ↓at10, ↓set10, ↓at11, ↓set11, ↓at12, ↓set12, ↓at13, ↓set13, ↓at14, ↓set14, ↓at15, ↓set15, ↓fz_d, ↓fz_own, ↓fz_ob, ↓one_d, ↓int_d, ↓bool_d, ↓own_o, ↓ds_nil, ↓ds_cons, ↓seq_l, ↓seq_t, ↓ite_t, ↓ite_f, ↓e_next, ↓e_seq, ↓e_set, ↓e_drop, ↓e_ret, ↓e_ifs, ↓e_brk, ↓e_cnt, ↓e_fixs, ↓e_par, ↓e_par3, ↓e_asg, ↓e_for, ↓e_putAt, ↓e_jput, ↓e_var, ↓e_k, ↓e_fz, ↓e_op, ↓e_opL, ↓e_opR, ↓e_n, ↓e_n1, ↓e_nil, ↓e_cons, ↓e_tup, ↓e_lst, ↓e_b, ↓e_not, ↓e_and, ↓e_or, ↓e_andV, ↓e_orV, ↓e_notV, ↓e_if, ↓e_isi, ↓e_neg, ↓e_chain, ↓e_call, ↓e_callK, ↓e_jint, ↓e_dict0, ↓e_dict1, ↓e_listRng, ↓e_append, ↓e_cut, ↓e_cutO, ↓e_onone, ↓e_osome, ↓e_iseq, ↓e_ienum, ↓e_irng, ↓e_gname, ↓e_lnil, ↓e_lcons, ↓e_lc, ↓e_yes, ↓f_addI, ↓f_addS, ↓f_addT, ↓f_addL, ↓f_i2, ↓f_mulI, ↓f_mulT, ↓f_mulL, ↓f_eq, ↓f_ne, ↓f_is, ↓f_isnot, ↓f_in, ↓f_notin, ↓f_ixL, ↓f_ixT, ↓f_lenL, ↓f_lenT, ↓f_lenS, ↓f_abs, ↓f_intI, ↓f_intB, ↓f_tupL, ↓f_tupT, ↓f_lstL, ↓f_lstT, ↓f_repr, ↓f_cutL, ↓f_cutT, ↓firm_d, ↓firm_ob, ↓zip_l, ↓zip_t, ↓e_izip, ↓zip_cons, ↓zip_nil1, ↓zip_nil2, ↓f_sorted, ↓e_inn, ↓e_inc, ↓e_l2n, ↓e_l2c, ↓e_lc2, ↓e_rev, ↓e_pop, ↓e_popAt, ↓e_extend, ↓e_lc3, ↓e_gon, ↓e_goc, ↓e_dbMid, ↓e_dbIn, ↓f_neu, ↓e_ifT, ↓e_newD, ↓e_retO, ↓e_fixK, ↓e_putO, ↓e_dkO, ↓e_dkF, ↓e_kdO, ↓e_kdF, ↓e_get2O, ↓e_get2F, ↓e_ListD, ↓e_ListF, ↓od_o, ↓dct_d, ↓key_int, ↓key_str, ↓g_item, ↓g_get, ↓g_in, ↓g_notin, ↓h_list, ↓fz_od, ↓ow_ex, ↓e_tr, ↓e_trO, ↓e_trK, ↓tru_b, ↓tru_n, ↓tru_i, ↓tru_l, ↓tru_t, ↓tru_s, ↓e_i63, ↓n63_d, ↓e_ss, ↓e_ssL, ↓e_ssF, ↓e_never, ↓e_kget, ↓str_ex, ↓e_disp, ↓e_vnil, ↓e_vcons, ↓f_equ, ↓dgTup_tup, ↓dgCons_cons, ↓dgNil_nil, ite_t, ite_f, itK_not, List.cons_append, List.nil_append, List.append_nil, List.replicate, List.flatten_cons, List.flatten_nil, List.append_eq, List.length_cons, List.length_nil, Nat.zero_add, Nat.reduceAdd, true_and, and_true, eqOk_str, eqOk_int, eqOk_bool, str_eqv, int_eqv, tup_nil_eqv, lst_nil_eqv, rep_flat, isK_int, isK_bool, isK_tuple, isK_str, kInt, kBool, kTuple, kStr, GB.isNon, Bool.not_true, Bool.not_false, Bool.or_false, Bool.or_true, Bool.false_or, Bool.true_or, reduceCtorEq, ]
  cases x with
  | tuple xs =>
    cases xs with
    | nil =>
      simp only [↓at0, ↓set0, ↓at1, ↓set1, ↓at2, ↓set2, ↓at3, ↓set3, ↓at4, ↓set4, ↓at5, ↓set5, ↓at6, ↓set6, ↓at7, ↓set7, ↓at8, ↓set8, ↓at9, ↓set9, ↓at10, ↓set10, ↓at11, ↓set11, ↓at12, ↓set12, ↓at13, ↓set13, ↓at14, ↓set14, ↓at15, ↓set15, ↓fz_d, ↓fz_own, ↓fz_ob, ↓one_d, ↓int_d, ↓bool_d, ↓own_o, ↓ds_nil, ↓ds_cons, ↓seq_l, ↓seq_t, ↓ite_t, ↓ite_f, ↓e_next, ↓e_seq, ↓e_set, ↓e_drop, ↓e_ret, ↓e_ifs, ↓e_brk, ↓e_cnt, ↓e_fixs, ↓e_par, ↓e_par3, ↓e_asg, ↓e_for, ↓e_putAt, ↓e_jput, ↓e_var, ↓e_k, ↓e_fz, ↓e_op, ↓e_opL, ↓e_opR, ↓e_n, ↓e_n1, ↓e_nil, ↓e_cons, ↓e_tup, ↓e_lst, ↓e_b, ↓e_not, ↓e_and, ↓e_or, ↓e_andV, ↓e_orV, ↓e_notV, ↓e_if, ↓e_isi, ↓e_neg, ↓e_chain, ↓e_call, ↓e_callK, ↓e_jint, ↓e_dict0, ↓e_dict1, ↓e_listRng, ↓e_append, ↓e_cut, ↓e_cutO, ↓e_onone, ↓e_osome, ↓e_iseq, ↓e_ienum, ↓e_irng, ↓e_gname, ↓e_lnil, ↓e_lcons, ↓e_lc, ↓e_yes, ↓f_addI, ↓f_addS, ↓f_addT, ↓f_addL, ↓f_i2, ↓f_mulI, ↓f_mulT, ↓f_mulL, ↓f_eq, ↓f_ne, ↓f_is, ↓f_isnot, ↓f_in, ↓f_notin, ↓f_ixL, ↓f_ixT, ↓f_lenL, ↓f_lenT, ↓f_lenS, ↓f_abs, ↓f_intI, ↓f_intB, ↓f_tupL, ↓f_tupT, ↓f_lstL, ↓f_lstT, ↓f_repr, ↓f_cutL, ↓f_cutT, ↓firm_d, ↓firm_ob, ↓zip_l, ↓zip_t, ↓e_izip, ↓zip_cons, ↓zip_nil1, ↓zip_nil2, ↓f_sorted, ↓e_inn, ↓e_inc, ↓e_l2n, ↓e_l2c, ↓e_lc2, ↓e_rev, ↓e_pop, ↓e_popAt, ↓e_extend, ↓e_lc3, ↓e_gon, ↓e_goc, ↓e_dbMid, ↓e_dbIn, ↓f_neu, ↓e_ifT, ↓e_newD, ↓e_retO, ↓e_fixK, ↓e_putO, ↓e_dkO, ↓e_dkF, ↓e_kdO, ↓e_kdF, ↓e_get2O, ↓e_get2F, ↓e_ListD, ↓e_ListF, ↓od_o, ↓dct_d, ↓key_int, ↓key_str, ↓g_item, ↓g_get, ↓g_in, ↓g_notin, ↓h_list, ↓fz_od, ↓ow_ex, ↓e_tr, ↓e_trO, ↓e_trK, ↓tru_b, ↓tru_n, ↓tru_i, ↓tru_l, ↓tru_t, ↓tru_s, ↓e_i63, ↓n63_d, ↓e_ss, ↓e_ssL, ↓e_ssF, ↓e_never, ↓e_kget, ↓str_ex, ↓e_disp, ↓e_vnil, ↓e_vcons, ↓f_equ, ↓dgTup_tup, ↓dgCons_cons, ↓dgNil_nil, ite_t, ite_f, itK_not, List.cons_append, List.nil_append, List.append_nil, List.replicate, List.flatten_cons, List.flatten_nil, List.append_eq, List.length_cons, List.length_nil, Nat.zero_add, Nat.reduceAdd, true_and, and_true, eqOk_str, eqOk_int, eqOk_bool, str_eqv, int_eqv, tup_nil_eqv, lst_nil_eqv, rep_flat, isK_int, isK_bool, isK_tuple, isK_str, kInt, kBool, kTuple, kStr, GB.isNon, Bool.not_true, Bool.not_false, Bool.or_false, Bool.or_true, Bool.false_or, Bool.true_or, reduceCtorEq, ]
      exact ⟨by decide, ite_t.mpr q⟩
    | cons w r =>
      simp only [↓at0, ↓set0, ↓at1, ↓set1, ↓at2, ↓set2, ↓at3, ↓set3, ↓at4, ↓set4, ↓at5, ↓set5, ↓at6, ↓set6, ↓at7, ↓set7, ↓at8, ↓set8, ↓at9, ↓set9, ↓at10, ↓set10, ↓at11, ↓set11, ↓at12, ↓set12, ↓at13, ↓set13, ↓at14, ↓set14, ↓at15, ↓set15, ↓fz_d, ↓fz_own, ↓fz_ob, ↓one_d, ↓int_d, ↓bool_d, ↓own_o, ↓ds_nil, ↓ds_cons, ↓seq_l, ↓seq_t, ↓ite_t, ↓ite_f, ↓e_next, ↓e_seq, ↓e_set, ↓e_drop, ↓e_ret, ↓e_ifs, ↓e_brk, ↓e_cnt, ↓e_fixs, ↓e_par, ↓e_par3, ↓e_asg, ↓e_for, ↓e_putAt, ↓e_jput, ↓e_var, ↓e_k, ↓e_fz, ↓e_op, ↓e_opL, ↓e_opR, ↓e_n, ↓e_n1, ↓e_nil, ↓e_cons, ↓e_tup, ↓e_lst, ↓e_b, ↓e_not, ↓e_and, ↓e_or, ↓e_andV, ↓e_orV, ↓e_notV, ↓e_if, ↓e_isi, ↓e_neg, ↓e_chain, ↓e_call, ↓e_callK, ↓e_jint, ↓e_dict0, ↓e_dict1, ↓e_listRng, ↓e_append, ↓e_cut, ↓e_cutO, ↓e_onone, ↓e_osome, ↓e_iseq, ↓e_ienum, ↓e_irng, ↓e_gname, ↓e_lnil, ↓e_lcons, ↓e_lc, ↓e_yes, ↓f_addI, ↓f_addS, ↓f_addT, ↓f_addL, ↓f_i2, ↓f_mulI, ↓f_mulT, ↓f_mulL, ↓f_eq, ↓f_ne, ↓f_is, ↓f_isnot, ↓f_in, ↓f_notin, ↓f_ixL, ↓f_ixT, ↓f_lenL, ↓f_lenT, ↓f_lenS, ↓f_abs, ↓f_intI, ↓f_intB, ↓f_tupL, ↓f_tupT, ↓f_lstL, ↓f_lstT, ↓f_repr, ↓f_cutL, ↓f_cutT, ↓firm_d, ↓firm_ob, ↓zip_l, ↓zip_t, ↓e_izip, ↓zip_cons, ↓zip_nil1, ↓zip_nil2, ↓f_sorted, ↓e_inn, ↓e_inc, ↓e_l2n, ↓e_l2c, ↓e_lc2, ↓e_rev, ↓e_pop, ↓e_popAt, ↓e_extend, ↓e_lc3, ↓e_gon, ↓e_goc, ↓e_dbMid, ↓e_dbIn, ↓f_neu, ↓e_ifT, ↓e_newD, ↓e_retO, ↓e_fixK, ↓e_putO, ↓e_dkO, ↓e_dkF, ↓e_kdO, ↓e_kdF, ↓e_get2O, ↓e_get2F, ↓e_ListD, ↓e_ListF, ↓od_o, ↓dct_d, ↓key_int, ↓key_str, ↓g_item, ↓g_get, ↓g_in, ↓g_notin, ↓h_list, ↓fz_od, ↓ow_ex, ↓e_tr, ↓e_trO, ↓e_trK, ↓tru_b, ↓tru_n, ↓tru_i, ↓tru_l, ↓tru_t, ↓tru_s, ↓e_i63, ↓n63_d, ↓e_ss, ↓e_ssL, ↓e_ssF, ↓e_never, ↓e_kget, ↓str_ex, ↓e_disp, ↓e_vnil, ↓e_vcons, ↓f_equ, ↓dgTup_tup, ↓dgCons_cons, ↓dgNil_nil, ite_t, ite_f, itK_not, List.cons_append, List.nil_append, List.append_nil, List.replicate, List.flatten_cons, List.flatten_nil, List.append_eq, List.length_cons, List.length_nil, Nat.zero_add, Nat.reduceAdd, true_and, and_true, eqOk_str, eqOk_int, eqOk_bool, str_eqv, int_eqv, tup_nil_eqv, lst_nil_eqv, rep_flat, isK_int, isK_bool, isK_tuple, isK_str, kInt, kBool, kTuple, kStr, GB.isNon, Bool.not_true, Bool.not_false, Bool.or_false, Bool.or_true, Bool.false_or, Bool.true_or, reduceCtorEq, ↓ix0, ↓s_bounds]
      unfold bndD
      simp only [↓at0, ↓set0, ↓at1, ↓set1, ↓at2, ↓set2, ↓at3, ↓set3, ↓at4, ↓set4, ↓at5, ↓set5, ↓at6, ↓set6, ↓at7, ↓set7, ↓at8, ↓set8, ↓at9, ↓set9, ↓at10, ↓set10, ↓at11, ↓set11, ↓at12, ↓set12, ↓at13, ↓set13, ↓at14, ↓set14, ↓at15, ↓set15, ↓fz_d, ↓fz_own, ↓fz_ob, ↓one_d, ↓int_d, ↓bool_d, ↓own_o, ↓ds_nil, ↓ds_cons, ↓seq_l, ↓seq_t, ↓ite_t, ↓ite_f, ↓e_next, ↓e_seq, ↓e_set, ↓e_drop, ↓e_ret, ↓e_ifs, ↓e_brk, ↓e_cnt, ↓e_fixs, ↓e_par, ↓e_par3, ↓e_asg, ↓e_for, ↓e_putAt, ↓e_jput, ↓e_var, ↓e_k, ↓e_fz, ↓e_op, ↓e_opL, ↓e_opR, ↓e_n, ↓e_n1, ↓e_nil, ↓e_cons, ↓e_tup, ↓e_lst, ↓e_b, ↓e_not, ↓e_and, ↓e_or, ↓e_andV, ↓e_orV, ↓e_notV, ↓e_if, ↓e_isi, ↓e_neg, ↓e_chain, ↓e_call, ↓e_callK, ↓e_jint, ↓e_dict0, ↓e_dict1, ↓e_listRng, ↓e_append, ↓e_cut, ↓e_cutO, ↓e_onone, ↓e_osome, ↓e_iseq, ↓e_ienum, ↓e_irng, ↓e_gname, ↓e_lnil, ↓e_lcons, ↓e_lc, ↓e_yes, ↓f_addI, ↓f_addS, ↓f_addT, ↓f_addL, ↓f_i2, ↓f_mulI, ↓f_mulT, ↓f_mulL, ↓f_eq, ↓f_ne, ↓f_is, ↓f_isnot, ↓f_in, ↓f_notin, ↓f_ixL, ↓f_ixT, ↓f_lenL, ↓f_lenT, ↓f_lenS, ↓f_abs, ↓f_intI, ↓f_intB, ↓f_tupL, ↓f_tupT, ↓f_lstL, ↓f_lstT, ↓f_repr, ↓f_cutL, ↓f_cutT, ↓firm_d, ↓firm_ob, ↓zip_l, ↓zip_t, ↓e_izip, ↓zip_cons, ↓zip_nil1, ↓zip_nil2, ↓f_sorted, ↓e_inn, ↓e_inc, ↓e_l2n, ↓e_l2c, ↓e_lc2, ↓e_rev, ↓e_pop, ↓e_popAt, ↓e_extend, ↓e_lc3, ↓e_gon, ↓e_goc, ↓e_dbMid, ↓e_dbIn, ↓f_neu, ↓e_ifT, ↓e_newD, ↓e_retO, ↓e_fixK, ↓e_putO, ↓e_dkO, ↓e_dkF, ↓e_kdO, ↓e_kdF, ↓e_get2O, ↓e_get2F, ↓e_ListD, ↓e_ListF, ↓od_o, ↓dct_d, ↓key_int, ↓key_str, ↓g_item, ↓g_get, ↓g_in, ↓g_notin, ↓h_list, ↓fz_od, ↓ow_ex, ↓e_tr, ↓e_trO, ↓e_trK, ↓tru_b, ↓tru_n, ↓tru_i, ↓tru_l, ↓tru_t, ↓tru_s, ↓e_i63, ↓n63_d, ↓e_ss, ↓e_ssL, ↓e_ssF, ↓e_never, ↓e_kget, ↓str_ex, ↓e_disp, ↓e_vnil, ↓e_vcons, ↓f_equ, ↓dgTup_tup, ↓dgCons_cons, ↓dgNil_nil, ite_t, ite_f, itK_not, List.cons_append, List.nil_append, List.append_nil, List.replicate, List.flatten_cons, List.flatten_nil, List.append_eq, List.length_cons, List.length_nil, Nat.zero_add, Nat.reduceAdd, true_and, and_true, eqOk_str, eqOk_int, eqOk_bool, str_eqv, int_eqv, tup_nil_eqv, lst_nil_eqv, rep_flat, isK_int, isK_bool, isK_tuple, isK_str, kInt, kBool, kTuple, kStr, GB.isNon, Bool.not_true, Bool.not_false, Bool.or_false, Bool.or_true, Bool.false_or, Bool.true_or, reduceCtorEq, ↓s_bounds, List.length_map]
      refine ⟨by decide, ite_f.mpr ⟨by decide, ?_⟩⟩
      have e1 : GB.cutD (w :: r) (some 1) none = r := cutD_from _ 1
      rw [e1]
      have lo : lineOk (.tuple (w :: r)) = (!(bndL w).isEmpty && restOk w 0 (bndL w) r) := rfl
      rw [lo] at q
      by_cases hb : bndL w = []
      · rw [hb] at q ⊢
        exact ite_t.mpr q
      · have hb2 : (bndL w).isEmpty = false := by cases h : bndL w with
          | nil => exact absurd h hb
          | cons _ _ => rfl
        have hb3 : ((bndL w).map PyData.int).isEmpty = false := by rw [List.isEmpty_map]; exact hb2
        rw [hb2] at q
        rw [hb3]
        refine ite_f.mpr ?_
        by_cases hl : r.length = (bndL w).length
        · rw [decide_eq_true (show ((r.length + 1 : Nat) : Int) = ((bndL w).length : Int) + 1 by omega)]
          refine ite_t.mpr ?_
          obtain ⟨z, rfl⟩ : ∃ z, w = .str z := by
            cases w with
            | str z => exact ⟨z, rfl⟩
            | _ => exact absurd rfl hb
          refine loopP (fun k ys ρ => ∃ (p : Nat) (s2 s3 : S), ρ = [S.d (.tuple (.str z :: r)), S.d (.tuple ((bndL (.str z)).map .int)), s2, s3] ∧ k = p ∧ ys.length + p = r.length ∧ restOk (.str z) p ((bndL (.str z)).drop p) ys = restOk (.str z) 0 (bndL (.str z)) r) ?_ ?_ _ 0 _ ⟨0, _, _, rfl, rfl, rfl, rfl⟩
          · rintro k _ ⟨p, s2, s3, rfl, rfl, h1, h2⟩
            have : (bndL (.str z)).drop p = [] := by rw [List.drop_eq_nil_iff]; simp at h1; omega
            rw [this] at h2
            simp only [↓at0, ↓set0, ↓at1, ↓set1, ↓at2, ↓set2, ↓at3, ↓set3, ↓at4, ↓set4, ↓at5, ↓set5, ↓at6, ↓set6, ↓at7, ↓set7, ↓at8, ↓set8, ↓at9, ↓set9, ↓at10, ↓set10, ↓at11, ↓set11, ↓at12, ↓set12, ↓at13, ↓set13, ↓at14, ↓set14, ↓at15, ↓set15, ↓fz_d, ↓fz_own, ↓fz_ob, ↓one_d, ↓int_d, ↓bool_d, ↓own_o, ↓ds_nil, ↓ds_cons, ↓seq_l, ↓seq_t, ↓ite_t, ↓ite_f, ↓e_next, ↓e_seq, ↓e_set, ↓e_drop, ↓e_ret, ↓e_ifs, ↓e_brk, ↓e_cnt, ↓e_fixs, ↓e_par, ↓e_par3, ↓e_asg, ↓e_for, ↓e_putAt, ↓e_jput, ↓e_var, ↓e_k, ↓e_fz, ↓e_op, ↓e_opL, ↓e_opR, ↓e_n, ↓e_n1, ↓e_nil, ↓e_cons, ↓e_tup, ↓e_lst, ↓e_b, ↓e_not, ↓e_and, ↓e_or, ↓e_andV, ↓e_orV, ↓e_notV, ↓e_if, ↓e_isi, ↓e_neg, ↓e_chain, ↓e_call, ↓e_callK, ↓e_jint, ↓e_dict0, ↓e_dict1, ↓e_listRng, ↓e_append, ↓e_cut, ↓e_cutO, ↓e_onone, ↓e_osome, ↓e_iseq, ↓e_ienum, ↓e_irng, ↓e_gname, ↓e_lnil, ↓e_lcons, ↓e_lc, ↓e_yes, ↓f_addI, ↓f_addS, ↓f_addT, ↓f_addL, ↓f_i2, ↓f_mulI, ↓f_mulT, ↓f_mulL, ↓f_eq, ↓f_ne, ↓f_is, ↓f_isnot, ↓f_in, ↓f_notin, ↓f_ixL, ↓f_ixT, ↓f_lenL, ↓f_lenT, ↓f_lenS, ↓f_abs, ↓f_intI, ↓f_intB, ↓f_tupL, ↓f_tupT, ↓f_lstL, ↓f_lstT, ↓f_repr, ↓f_cutL, ↓f_cutT, ↓firm_d, ↓firm_ob, ↓zip_l, ↓zip_t, ↓e_izip, ↓zip_cons, ↓zip_nil1, ↓zip_nil2, ↓f_sorted, ↓e_inn, ↓e_inc, ↓e_l2n, ↓e_l2c, ↓e_lc2, ↓e_rev, ↓e_pop, ↓e_popAt, ↓e_extend, ↓e_lc3, ↓e_gon, ↓e_goc, ↓e_dbMid, ↓e_dbIn, ↓f_neu, ↓e_ifT, ↓e_newD, ↓e_retO, ↓e_fixK, ↓e_putO, ↓e_dkO, ↓e_dkF, ↓e_kdO, ↓e_kdF, ↓e_get2O, ↓e_get2F, ↓e_ListD, ↓e_ListF, ↓od_o, ↓dct_d, ↓key_int, ↓key_str, ↓g_item, ↓g_get, ↓g_in, ↓g_notin, ↓h_list, ↓fz_od, ↓ow_ex, ↓e_tr, ↓e_trO, ↓e_trK, ↓tru_b, ↓tru_n, ↓tru_i, ↓tru_l, ↓tru_t, ↓tru_s, ↓e_i63, ↓n63_d, ↓e_ss, ↓e_ssL, ↓e_ssF, ↓e_never, ↓e_kget, ↓str_ex, ↓e_disp, ↓e_vnil, ↓e_vcons, ↓f_equ, ↓dgTup_tup, ↓dgCons_cons, ↓dgNil_nil, ite_t, ite_f, itK_not, List.cons_append, List.nil_append, List.append_nil, List.replicate, List.flatten_cons, List.flatten_nil, List.append_eq, List.length_cons, List.length_nil, Nat.zero_add, Nat.reduceAdd, true_and, and_true, eqOk_str, eqOk_int, eqOk_bool, str_eqv, int_eqv, tup_nil_eqv, lst_nil_eqv, rep_flat, isK_int, isK_bool, isK_tuple, isK_str, kInt, kBool, kTuple, kStr, GB.isNon, Bool.not_true, Bool.not_false, Bool.or_false, Bool.or_true, Bool.false_or, Bool.true_or, reduceCtorEq, ]
            rw [← h2] at q
            exact q
          · rintro k y ys _ K hK ⟨p, s2, s3, rfl, rfl, h1, h2⟩
            rw [List.length_cons] at h1
            have hp : p < (bndL (.str z)).length := by omega
            rw [List.drop_eq_getElem_cons hp] at h2
            have h2 : (ownOk (.str z) p (bndL (.str z))[p] y && restOk (.str z) (p + 1) ((bndL (.str z)).drop (p + 1)) ys) = _ := h2
            have am : atI ((bndL (.str z)).map PyData.int) (p : Int) = some (.int (bndL (.str z))[p]) := at_n (by rw [List.getElem?_map, List.getElem?_eq_getElem hp]; rfl)
            generalize (bndL (.str z))[p] = m at h2 am
            have go : ownOk (.str z) p m y = true → K [S.d (.tuple (.str z :: r)), S.d (.tuple ((bndL (.str z)).map .int)), S.d (.int p), S.d y] := fun h => by
              rw [h, Bool.true_and] at h2
              exact hK _ ⟨p + 1, _, _, rfl, by omega, by omega, h2⟩
            have no : ownOk (.str z) p m y = false → R (S.d (.bool false)) := fun h => by
              rw [h, Bool.false_and] at h2
              rw [← h2] at q
              exact q
            cases y with
            | none =>
              simp only [↓at0, ↓set0, ↓at1, ↓set1, ↓at2, ↓set2, ↓at3, ↓set3, ↓at4, ↓set4, ↓at5, ↓set5, ↓at6, ↓set6, ↓at7, ↓set7, ↓at8, ↓set8, ↓at9, ↓set9, ↓at10, ↓set10, ↓at11, ↓set11, ↓at12, ↓set12, ↓at13, ↓set13, ↓at14, ↓set14, ↓at15, ↓set15, ↓fz_d, ↓fz_own, ↓fz_ob, ↓one_d, ↓int_d, ↓bool_d, ↓own_o, ↓ds_nil, ↓ds_cons, ↓seq_l, ↓seq_t, ↓ite_t, ↓ite_f, ↓e_next, ↓e_seq, ↓e_set, ↓e_drop, ↓e_ret, ↓e_ifs, ↓e_brk, ↓e_cnt, ↓e_fixs, ↓e_par, ↓e_par3, ↓e_asg, ↓e_for, ↓e_putAt, ↓e_jput, ↓e_var, ↓e_k, ↓e_fz, ↓e_op, ↓e_opL, ↓e_opR, ↓e_n, ↓e_n1, ↓e_nil, ↓e_cons, ↓e_tup, ↓e_lst, ↓e_b, ↓e_not, ↓e_and, ↓e_or, ↓e_andV, ↓e_orV, ↓e_notV, ↓e_if, ↓e_isi, ↓e_neg, ↓e_chain, ↓e_call, ↓e_callK, ↓e_jint, ↓e_dict0, ↓e_dict1, ↓e_listRng, ↓e_append, ↓e_cut, ↓e_cutO, ↓e_onone, ↓e_osome, ↓e_iseq, ↓e_ienum, ↓e_irng, ↓e_gname, ↓e_lnil, ↓e_lcons, ↓e_lc, ↓e_yes, ↓f_addI, ↓f_addS, ↓f_addT, ↓f_addL, ↓f_i2, ↓f_mulI, ↓f_mulT, ↓f_mulL, ↓f_eq, ↓f_ne, ↓f_is, ↓f_isnot, ↓f_in, ↓f_notin, ↓f_ixL, ↓f_ixT, ↓f_lenL, ↓f_lenT, ↓f_lenS, ↓f_abs, ↓f_intI, ↓f_intB, ↓f_tupL, ↓f_tupT, ↓f_lstL, ↓f_lstT, ↓f_repr, ↓f_cutL, ↓f_cutT, ↓firm_d, ↓firm_ob, ↓zip_l, ↓zip_t, ↓e_izip, ↓zip_cons, ↓zip_nil1, ↓zip_nil2, ↓f_sorted, ↓e_inn, ↓e_inc, ↓e_l2n, ↓e_l2c, ↓e_lc2, ↓e_rev, ↓e_pop, ↓e_popAt, ↓e_extend, ↓e_lc3, ↓e_gon, ↓e_goc, ↓e_dbMid, ↓e_dbIn, ↓f_neu, ↓e_ifT, ↓e_newD, ↓e_retO, ↓e_fixK, ↓e_putO, ↓e_dkO, ↓e_dkF, ↓e_kdO, ↓e_kdF, ↓e_get2O, ↓e_get2F, ↓e_ListD, ↓e_ListF, ↓od_o, ↓dct_d, ↓key_int, ↓key_str, ↓g_item, ↓g_get, ↓g_in, ↓g_notin, ↓h_list, ↓fz_od, ↓ow_ex, ↓e_tr, ↓e_trO, ↓e_trK, ↓tru_b, ↓tru_n, ↓tru_i, ↓tru_l, ↓tru_t, ↓tru_s, ↓e_i63, ↓n63_d, ↓e_ss, ↓e_ssL, ↓e_ssF, ↓e_never, ↓e_kget, ↓str_ex, ↓e_disp, ↓e_vnil, ↓e_vcons, ↓f_equ, ↓dgTup_tup, ↓dgCons_cons, ↓dgNil_nil, ite_t, ite_f, itK_not, List.cons_append, List.nil_append, List.append_nil, List.replicate, List.flatten_cons, List.flatten_nil, List.append_eq, List.length_cons, List.length_nil, Nat.zero_add, Nat.reduceAdd, true_and, and_true, eqOk_str, eqOk_int, eqOk_bool, str_eqv, int_eqv, tup_nil_eqv, lst_nil_eqv, rep_flat, isK_int, isK_bool, isK_tuple, isK_str, kInt, kBool, kTuple, kStr, GB.isNon, Bool.not_true, Bool.not_false, Bool.or_false, Bool.or_true, Bool.false_or, Bool.true_or, reduceCtorEq, ↓ix0, str_dec]
              have eo : ownOk (.str z) p m .none = (decide (z = "write") && decide (p = 2)) := by
                unfold ownOk
                rw [str_dec]
                show ((true && decide (z = "write") && decide (p = 2)) || false) = _
                rw [Bool.or_false, Bool.true_and]
              by_cases hz : z = "write"
              · rw [decide_eq_true hz] at eo ⊢
                refine ite_t.mpr ?_
                by_cases h2 : p = 2
                · rw [decide_eq_true (show (p : Int) = 2 by omega)]
                  exact ite_t.mpr (go (by rw [eo, decide_eq_true h2]; rfl))
                · rw [decide_eq_false (show ¬ (p : Int) = 2 by omega)]
                  exact ite_f.mpr (no (by rw [eo, decide_eq_false h2]; rfl))
              · rw [decide_eq_false hz] at eo ⊢
                exact ite_f.mpr (no (by rw [eo]; rfl))
            | int i =>
              simp only [↓at0, ↓set0, ↓at1, ↓set1, ↓at2, ↓set2, ↓at3, ↓set3, ↓at4, ↓set4, ↓at5, ↓set5, ↓at6, ↓set6, ↓at7, ↓set7, ↓at8, ↓set8, ↓at9, ↓set9, ↓at10, ↓set10, ↓at11, ↓set11, ↓at12, ↓set12, ↓at13, ↓set13, ↓at14, ↓set14, ↓at15, ↓set15, ↓fz_d, ↓fz_own, ↓fz_ob, ↓one_d, ↓int_d, ↓bool_d, ↓own_o, ↓ds_nil, ↓ds_cons, ↓seq_l, ↓seq_t, ↓ite_t, ↓ite_f, ↓e_next, ↓e_seq, ↓e_set, ↓e_drop, ↓e_ret, ↓e_ifs, ↓e_brk, ↓e_cnt, ↓e_fixs, ↓e_par, ↓e_par3, ↓e_asg, ↓e_for, ↓e_putAt, ↓e_jput, ↓e_var, ↓e_k, ↓e_fz, ↓e_op, ↓e_opL, ↓e_opR, ↓e_n, ↓e_n1, ↓e_nil, ↓e_cons, ↓e_tup, ↓e_lst, ↓e_b, ↓e_not, ↓e_and, ↓e_or, ↓e_andV, ↓e_orV, ↓e_notV, ↓e_if, ↓e_isi, ↓e_neg, ↓e_chain, ↓e_call, ↓e_callK, ↓e_jint, ↓e_dict0, ↓e_dict1, ↓e_listRng, ↓e_append, ↓e_cut, ↓e_cutO, ↓e_onone, ↓e_osome, ↓e_iseq, ↓e_ienum, ↓e_irng, ↓e_gname, ↓e_lnil, ↓e_lcons, ↓e_lc, ↓e_yes, ↓f_addI, ↓f_addS, ↓f_addT, ↓f_addL, ↓f_i2, ↓f_mulI, ↓f_mulT, ↓f_mulL, ↓f_eq, ↓f_ne, ↓f_is, ↓f_isnot, ↓f_in, ↓f_notin, ↓f_ixL, ↓f_ixT, ↓f_lenL, ↓f_lenT, ↓f_lenS, ↓f_abs, ↓f_intI, ↓f_intB, ↓f_tupL, ↓f_tupT, ↓f_lstL, ↓f_lstT, ↓f_repr, ↓f_cutL, ↓f_cutT, ↓firm_d, ↓firm_ob, ↓zip_l, ↓zip_t, ↓e_izip, ↓zip_cons, ↓zip_nil1, ↓zip_nil2, ↓f_sorted, ↓e_inn, ↓e_inc, ↓e_l2n, ↓e_l2c, ↓e_lc2, ↓e_rev, ↓e_pop, ↓e_popAt, ↓e_extend, ↓e_lc3, ↓e_gon, ↓e_goc, ↓e_dbMid, ↓e_dbIn, ↓f_neu, ↓e_ifT, ↓e_newD, ↓e_retO, ↓e_fixK, ↓e_putO, ↓e_dkO, ↓e_dkF, ↓e_kdO, ↓e_kdF, ↓e_get2O, ↓e_get2F, ↓e_ListD, ↓e_ListF, ↓od_o, ↓dct_d, ↓key_int, ↓key_str, ↓g_item, ↓g_get, ↓g_in, ↓g_notin, ↓h_list, ↓fz_od, ↓ow_ex, ↓e_tr, ↓e_trO, ↓e_trK, ↓tru_b, ↓tru_n, ↓tru_i, ↓tru_l, ↓tru_t, ↓tru_s, ↓e_i63, ↓n63_d, ↓e_ss, ↓e_ssL, ↓e_ssF, ↓e_never, ↓e_kget, ↓str_ex, ↓e_disp, ↓e_vnil, ↓e_vcons, ↓f_equ, ↓dgTup_tup, ↓dgCons_cons, ↓dgNil_nil, ite_t, ite_f, itK_not, List.cons_append, List.nil_append, List.append_nil, List.replicate, List.flatten_cons, List.flatten_nil, List.append_eq, List.length_cons, List.length_nil, Nat.zero_add, Nat.reduceAdd, true_and, and_true, eqOk_str, eqOk_int, eqOk_bool, str_eqv, int_eqv, tup_nil_eqv, lst_nil_eqv, rep_flat, isK_int, isK_bool, isK_tuple, isK_str, kInt, kBool, kTuple, kStr, GB.isNon, Bool.not_true, Bool.not_false, Bool.or_false, Bool.or_true, Bool.false_or, Bool.true_or, reduceCtorEq, ↓ix0, ↓ixn am]
              have eo : ownOk (.str z) p m (.int i) = (decide (0 ≤ i) && decide (i ≤ m)) := by
                unfold ownOk
                show ((false && PyData.eqv (.str z) (.str "write") && decide (p = 2)) || (decide (0 ≤ i) && decide (i ≤ m))) = _
                simp
              by_cases h0 : 0 ≤ i
              · rw [decide_eq_true h0] at eo ⊢
                refine ite_t.mpr ?_
                by_cases h2 : i ≤ m
                · rw [decide_eq_true h2] at eo ⊢
                  exact ite_t.mpr (go eo)
                · rw [decide_eq_false h2] at eo ⊢
                  exact ite_f.mpr (no eo)
              · rw [decide_eq_false h0] at eo ⊢
                exact ite_f.mpr (no eo)
            | bool b =>
              simp only [↓at0, ↓set0, ↓at1, ↓set1, ↓at2, ↓set2, ↓at3, ↓set3, ↓at4, ↓set4, ↓at5, ↓set5, ↓at6, ↓set6, ↓at7, ↓set7, ↓at8, ↓set8, ↓at9, ↓set9, ↓at10, ↓set10, ↓at11, ↓set11, ↓at12, ↓set12, ↓at13, ↓set13, ↓at14, ↓set14, ↓at15, ↓set15, ↓fz_d, ↓fz_own, ↓fz_ob, ↓one_d, ↓int_d, ↓bool_d, ↓own_o, ↓ds_nil, ↓ds_cons, ↓seq_l, ↓seq_t, ↓ite_t, ↓ite_f, ↓e_next, ↓e_seq, ↓e_set, ↓e_drop, ↓e_ret, ↓e_ifs, ↓e_brk, ↓e_cnt, ↓e_fixs, ↓e_par, ↓e_par3, ↓e_asg, ↓e_for, ↓e_putAt, ↓e_jput, ↓e_var, ↓e_k, ↓e_fz, ↓e_op, ↓e_opL, ↓e_opR, ↓e_n, ↓e_n1, ↓e_nil, ↓e_cons, ↓e_tup, ↓e_lst, ↓e_b, ↓e_not, ↓e_and, ↓e_or, ↓e_andV, ↓e_orV, ↓e_notV, ↓e_if, ↓e_isi, ↓e_neg, ↓e_chain, ↓e_call, ↓e_callK, ↓e_jint, ↓e_dict0, ↓e_dict1, ↓e_listRng, ↓e_append, ↓e_cut, ↓e_cutO, ↓e_onone, ↓e_osome, ↓e_iseq, ↓e_ienum, ↓e_irng, ↓e_gname, ↓e_lnil, ↓e_lcons, ↓e_lc, ↓e_yes, ↓f_addI, ↓f_addS, ↓f_addT, ↓f_addL, ↓f_i2, ↓f_mulI, ↓f_mulT, ↓f_mulL, ↓f_eq, ↓f_ne, ↓f_is, ↓f_isnot, ↓f_in, ↓f_notin, ↓f_ixL, ↓f_ixT, ↓f_lenL, ↓f_lenT, ↓f_lenS, ↓f_abs, ↓f_intI, ↓f_intB, ↓f_tupL, ↓f_tupT, ↓f_lstL, ↓f_lstT, ↓f_repr, ↓f_cutL, ↓f_cutT, ↓firm_d, ↓firm_ob, ↓zip_l, ↓zip_t, ↓e_izip, ↓zip_cons, ↓zip_nil1, ↓zip_nil2, ↓f_sorted, ↓e_inn, ↓e_inc, ↓e_l2n, ↓e_l2c, ↓e_lc2, ↓e_rev, ↓e_pop, ↓e_popAt, ↓e_extend, ↓e_lc3, ↓e_gon, ↓e_goc, ↓e_dbMid, ↓e_dbIn, ↓f_neu, ↓e_ifT, ↓e_newD, ↓e_retO, ↓e_fixK, ↓e_putO, ↓e_dkO, ↓e_dkF, ↓e_kdO, ↓e_kdF, ↓e_get2O, ↓e_get2F, ↓e_ListD, ↓e_ListF, ↓od_o, ↓dct_d, ↓key_int, ↓key_str, ↓g_item, ↓g_get, ↓g_in, ↓g_notin, ↓h_list, ↓fz_od, ↓ow_ex, ↓e_tr, ↓e_trO, ↓e_trK, ↓tru_b, ↓tru_n, ↓tru_i, ↓tru_l, ↓tru_t, ↓tru_s, ↓e_i63, ↓n63_d, ↓e_ss, ↓e_ssL, ↓e_ssF, ↓e_never, ↓e_kget, ↓str_ex, ↓e_disp, ↓e_vnil, ↓e_vcons, ↓f_equ, ↓dgTup_tup, ↓dgCons_cons, ↓dgNil_nil, ite_t, ite_f, itK_not, List.cons_append, List.nil_append, List.append_nil, List.replicate, List.flatten_cons, List.flatten_nil, List.append_eq, List.length_cons, List.length_nil, Nat.zero_add, Nat.reduceAdd, true_and, and_true, eqOk_str, eqOk_int, eqOk_bool, str_eqv, int_eqv, tup_nil_eqv, lst_nil_eqv, rep_flat, isK_int, isK_bool, isK_tuple, isK_str, kInt, kBool, kTuple, kStr, GB.isNon, Bool.not_true, Bool.not_false, Bool.or_false, Bool.or_true, Bool.false_or, Bool.true_or, reduceCtorEq, ↓ix0]
              exact no rfl
            | _ =>
              simp only [↓at0, ↓set0, ↓at1, ↓set1, ↓at2, ↓set2, ↓at3, ↓set3, ↓at4, ↓set4, ↓at5, ↓set5, ↓at6, ↓set6, ↓at7, ↓set7, ↓at8, ↓set8, ↓at9, ↓set9, ↓at10, ↓set10, ↓at11, ↓set11, ↓at12, ↓set12, ↓at13, ↓set13, ↓at14, ↓set14, ↓at15, ↓set15, ↓fz_d, ↓fz_own, ↓fz_ob, ↓one_d, ↓int_d, ↓bool_d, ↓own_o, ↓ds_nil, ↓ds_cons, ↓seq_l, ↓seq_t, ↓ite_t, ↓ite_f, ↓e_next, ↓e_seq, ↓e_set, ↓e_drop, ↓e_ret, ↓e_ifs, ↓e_brk, ↓e_cnt, ↓e_fixs, ↓e_par, ↓e_par3, ↓e_asg, ↓e_for, ↓e_putAt, ↓e_jput, ↓e_var, ↓e_k, ↓e_fz, ↓e_op, ↓e_opL, ↓e_opR, ↓e_n, ↓e_n1, ↓e_nil, ↓e_cons, ↓e_tup, ↓e_lst, ↓e_b, ↓e_not, ↓e_and, ↓e_or, ↓e_andV, ↓e_orV, ↓e_notV, ↓e_if, ↓e_isi, ↓e_neg, ↓e_chain, ↓e_call, ↓e_callK, ↓e_jint, ↓e_dict0, ↓e_dict1, ↓e_listRng, ↓e_append, ↓e_cut, ↓e_cutO, ↓e_onone, ↓e_osome, ↓e_iseq, ↓e_ienum, ↓e_irng, ↓e_gname, ↓e_lnil, ↓e_lcons, ↓e_lc, ↓e_yes, ↓f_addI, ↓f_addS, ↓f_addT, ↓f_addL, ↓f_i2, ↓f_mulI, ↓f_mulT, ↓f_mulL, ↓f_eq, ↓f_ne, ↓f_is, ↓f_isnot, ↓f_in, ↓f_notin, ↓f_ixL, ↓f_ixT, ↓f_lenL, ↓f_lenT, ↓f_lenS, ↓f_abs, ↓f_intI, ↓f_intB, ↓f_tupL, ↓f_tupT, ↓f_lstL, ↓f_lstT, ↓f_repr, ↓f_cutL, ↓f_cutT, ↓firm_d, ↓firm_ob, ↓zip_l, ↓zip_t, ↓e_izip, ↓zip_cons, ↓zip_nil1, ↓zip_nil2, ↓f_sorted, ↓e_inn, ↓e_inc, ↓e_l2n, ↓e_l2c, ↓e_lc2, ↓e_rev, ↓e_pop, ↓e_popAt, ↓e_extend, ↓e_lc3, ↓e_gon, ↓e_goc, ↓e_dbMid, ↓e_dbIn, ↓f_neu, ↓e_ifT, ↓e_newD, ↓e_retO, ↓e_fixK, ↓e_putO, ↓e_dkO, ↓e_dkF, ↓e_kdO, ↓e_kdF, ↓e_get2O, ↓e_get2F, ↓e_ListD, ↓e_ListF, ↓od_o, ↓dct_d, ↓key_int, ↓key_str, ↓g_item, ↓g_get, ↓g_in, ↓g_notin, ↓h_list, ↓fz_od, ↓ow_ex, ↓e_tr, ↓e_trO, ↓e_trK, ↓tru_b, ↓tru_n, ↓tru_i, ↓tru_l, ↓tru_t, ↓tru_s, ↓e_i63, ↓n63_d, ↓e_ss, ↓e_ssL, ↓e_ssF, ↓e_never, ↓e_kget, ↓str_ex, ↓e_disp, ↓e_vnil, ↓e_vcons, ↓f_equ, ↓dgTup_tup, ↓dgCons_cons, ↓dgNil_nil, ite_t, ite_f, itK_not, List.cons_append, List.nil_append, List.append_nil, List.replicate, List.flatten_cons, List.flatten_nil, List.append_eq, List.length_cons, List.length_nil, Nat.zero_add, Nat.reduceAdd, true_and, and_true, eqOk_str, eqOk_int, eqOk_bool, str_eqv, int_eqv, tup_nil_eqv, lst_nil_eqv, rep_flat, isK_int, isK_bool, isK_tuple, isK_str, kInt, kBool, kTuple, kStr, GB.isNon, Bool.not_true, Bool.not_false, Bool.or_false, Bool.or_true, Bool.false_or, Bool.true_or, reduceCtorEq, ↓ix0]
              exact no rfl
        · rw [decide_eq_false (show ¬ ((r.length + 1 : Nat) : Int) = ((bndL w).length : Int) + 1 by omega)]
          have : restOk w 0 (bndL w) r = false := by
            cases h : restOk w 0 (bndL w) r with
            | false => rfl
            | true => exact absurd (rest_len h) hl
          rw [this] at q
          exact ite_f.mpr q
  | _ => exact q
theorem s_lline {k : S → Prop} {x : PyData} : F_l_is_line [.d x] k ↔ k (.d (.bool (lineOk x))) := ⟨fun ⟨_, e, h⟩ => by cases e; exact h, fun h => ⟨_, rfl, h⟩⟩
theorem s_lfault {k : S → Prop} {x : PyData} : F_l_faultP [.d x] k ↔ k (.d (pgF x)) := ⟨fun ⟨_, e, h⟩ => by cases e; exact h, fun h => ⟨_, rfl, h⟩⟩
theorem ma_l_fault : ∀ ss R, ss.length = 1 → F_l_faultP ss R → rd_l_fault { nx := fun _ => R (.d .none), rt := R } (ss ++ List.replicate 2 .un) := by
  rintro _ R - ⟨x, rfl, q⟩
  unfold rd_l_fault
  simp only [↓at0, ↓set0, ↓at1, ↓set1, ↓at2, ↓set2, ↓at3, ↓set3, ↓at4, ↓set4, ↓at5, ↓set5, ↓at6, ↓set6, ↓at7, ↓set7, ↓at8, ↓set8, ↓at9, ↓set9, ↓at10, ↓set10, ↓at11, ↓set11, ↓at12, ↓set12, ↓at13, ↓set13, ↓at14, ↓set14, ↓at15, ↓set15, ↓fz_d, ↓fz_own, ↓fz_ob, ↓one_d, ↓int_d, ↓bool_d, ↓own_o, ↓ds_nil, ↓ds_cons, ↓seq_l, ↓seq_t, ↓ite_t, ↓ite_f, ↓e_next, ↓e_seq, ↓e_set, ↓e_drop, ↓e_ret, ↓e_ifs, ↓e_brk, ↓e_cnt, ↓e_fixs, ↓e_par, ↓e_par3, ↓e_asg, ↓e_for, ↓e_putAt, ↓e_jput, ↓e_var, ↓e_k, ↓e_fz, ↓e_op, ↓e_opL, ↓e_opR, ↓e_n, ↓e_n1, ↓e_nil, ↓e_cons, ↓e_tup, ↓e_lst, ↓e_b, ↓e_not, ↓e_and, ↓e_or, ↓e_andV, ↓e_orV, ↓e_notV, ↓e_if, ↓e_isi, ↓e_neg, ↓e_chain, ↓e_call, ↓e_callK, ↓e_jint, ↓e_dict0, ↓e_dict1, ↓e_listRng, ↓e_append, ↓e_cut, ↓e_cutO, ↓e_onone, ↓e_osome, ↓e_iseq, ↓e_ienum, ↓e_irng, ↓e_gname, ↓e_lnil, ↓e_lcons, ↓e_lc, ↓e_yes, ↓f_addI, ↓f_addS, ↓f_addT, ↓f_addL, ↓f_i2, ↓f_mulI, ↓f_mulT, ↓f_mulL, ↓f_eq, ↓f_ne, ↓f_is, ↓f_isnot, ↓f_in, ↓f_notin, ↓f_ixL, ↓f_ixT, ↓f_lenL, ↓f_lenT, ↓f_lenS, ↓f_abs, ↓f_intI, ↓f_intB, ↓f_tupL, ↓f_tupT, ↓f_lstL, ↓f_lstT, ↓f_repr, ↓f_cutL, ↓f_cutT, ↓firm_d, ↓firm_ob, ↓zip_l, ↓zip_t, ↓e_izip, ↓zip_cons, ↓zip_nil1, ↓zip_nil2, ↓f_sorted, ↓e_inn, ↓e_inc, ↓e_l2n, ↓e_l2c, ↓e_lc2, ↓e_rev, ↓e_pop, ↓e_popAt, ↓e_extend, ↓e_lc3, ↓e_gon, ↓e_goc, ↓e_dbMid, ↓e_dbIn, ↓f_neu, ↓e_ifT, ↓e_newD, ↓e_retO, ↓e_fixK, ↓e_putO, ↓e_dkO, ↓e_dkF, ↓e_kdO, ↓e_kdF, ↓e_get2O, ↓e_get2F, ↓e_ListD, ↓e_ListF, ↓od_o, ↓dct_d, ↓key_int, ↓key_str, ↓g_item, ↓g_get, ↓g_in, ↓g_notin, ↓h_list, ↓fz_od, ↓ow_ex, ↓e_tr, ↓e_trO, ↓e_trK, ↓tru_b, ↓tru_n, ↓tru_i, ↓tru_l, ↓tru_t, ↓tru_s, ↓e_i63, ↓n63_d, ↓e_ss, ↓e_ssL, ↓e_ssF, ↓e_never, ↓e_kget, ↓str_ex, ↓e_disp, ↓e_vnil, ↓e_vcons, ↓f_equ, ↓dgTup_tup, ↓dgCons_cons, ↓dgNil_nil, ite_t, ite_f, itK_not, List.cons_append, List.nil_append, List.append_nil, List.replicate, List.flatten_cons, List.flatten_nil, List.append_eq, List.length_cons, List.length_nil, Nat.zero_add, Nat.reduceAdd, true_and, and_true, eqOk_str, eqOk_int, eqOk_bool, str_eqv, int_eqv, tup_nil_eqv, lst_nil_eqv, rep_flat, isK_int, isK_bool, isK_tuple, isK_str, kInt, kBool, kTuple, kStr, GB.isNon, Bool.not_true, Bool.not_false, Bool.or_false, Bool.or_true, Bool.false_or, Bool.true_or, reduceCtorEq, ]
  cases x with
  | tuple xs =>
    have q : R (.d (if xs.length ≤ 6 then lnF 0 xs else .str "form")) := q
    simp only [↓at0, ↓set0, ↓at1, ↓set1, ↓at2, ↓set2, ↓at3, ↓set3, ↓at4, ↓set4, ↓at5, ↓set5, ↓at6, ↓set6, ↓at7, ↓set7, ↓at8, ↓set8, ↓at9, ↓set9, ↓at10, ↓set10, ↓at11, ↓set11, ↓at12, ↓set12, ↓at13, ↓set13, ↓at14, ↓set14, ↓at15, ↓set15, ↓fz_d, ↓fz_own, ↓fz_ob, ↓one_d, ↓int_d, ↓bool_d, ↓own_o, ↓ds_nil, ↓ds_cons, ↓seq_l, ↓seq_t, ↓ite_t, ↓ite_f, ↓e_next, ↓e_seq, ↓e_set, ↓e_drop, ↓e_ret, ↓e_ifs, ↓e_brk, ↓e_cnt, ↓e_fixs, ↓e_par, ↓e_par3, ↓e_asg, ↓e_for, ↓e_putAt, ↓e_jput, ↓e_var, ↓e_k, ↓e_fz, ↓e_op, ↓e_opL, ↓e_opR, ↓e_n, ↓e_n1, ↓e_nil, ↓e_cons, ↓e_tup, ↓e_lst, ↓e_b, ↓e_not, ↓e_and, ↓e_or, ↓e_andV, ↓e_orV, ↓e_notV, ↓e_if, ↓e_isi, ↓e_neg, ↓e_chain, ↓e_call, ↓e_callK, ↓e_jint, ↓e_dict0, ↓e_dict1, ↓e_listRng, ↓e_append, ↓e_cut, ↓e_cutO, ↓e_onone, ↓e_osome, ↓e_iseq, ↓e_ienum, ↓e_irng, ↓e_gname, ↓e_lnil, ↓e_lcons, ↓e_lc, ↓e_yes, ↓f_addI, ↓f_addS, ↓f_addT, ↓f_addL, ↓f_i2, ↓f_mulI, ↓f_mulT, ↓f_mulL, ↓f_eq, ↓f_ne, ↓f_is, ↓f_isnot, ↓f_in, ↓f_notin, ↓f_ixL, ↓f_ixT, ↓f_lenL, ↓f_lenT, ↓f_lenS, ↓f_abs, ↓f_intI, ↓f_intB, ↓f_tupL, ↓f_tupT, ↓f_lstL, ↓f_lstT, ↓f_repr, ↓f_cutL, ↓f_cutT, ↓firm_d, ↓firm_ob, ↓zip_l, ↓zip_t, ↓e_izip, ↓zip_cons, ↓zip_nil1, ↓zip_nil2, ↓f_sorted, ↓e_inn, ↓e_inc, ↓e_l2n, ↓e_l2c, ↓e_lc2, ↓e_rev, ↓e_pop, ↓e_popAt, ↓e_extend, ↓e_lc3, ↓e_gon, ↓e_goc, ↓e_dbMid, ↓e_dbIn, ↓f_neu, ↓e_ifT, ↓e_newD, ↓e_retO, ↓e_fixK, ↓e_putO, ↓e_dkO, ↓e_dkF, ↓e_kdO, ↓e_kdF, ↓e_get2O, ↓e_get2F, ↓e_ListD, ↓e_ListF, ↓od_o, ↓dct_d, ↓key_int, ↓key_str, ↓g_item, ↓g_get, ↓g_in, ↓g_notin, ↓h_list, ↓fz_od, ↓ow_ex, ↓e_tr, ↓e_trO, ↓e_trK, ↓tru_b, ↓tru_n, ↓tru_i, ↓tru_l, ↓tru_t, ↓tru_s, ↓e_i63, ↓n63_d, ↓e_ss, ↓e_ssL, ↓e_ssF, ↓e_never, ↓e_kget, ↓str_ex, ↓e_disp, ↓e_vnil, ↓e_vcons, ↓f_equ, ↓dgTup_tup, ↓dgCons_cons, ↓dgNil_nil, ite_t, ite_f, itK_not, List.cons_append, List.nil_append, List.append_nil, List.replicate, List.flatten_cons, List.flatten_nil, List.append_eq, List.length_cons, List.length_nil, Nat.zero_add, Nat.reduceAdd, true_and, and_true, eqOk_str, eqOk_int, eqOk_bool, str_eqv, int_eqv, tup_nil_eqv, lst_nil_eqv, rep_flat, isK_int, isK_bool, isK_tuple, isK_str, kInt, kBool, kTuple, kStr, GB.isNon, Bool.not_true, Bool.not_false, Bool.or_false, Bool.or_true, Bool.false_or, Bool.true_or, reduceCtorEq, ]
    by_cases hl : xs.length ≤ 6
    · rw [if_pos hl] at q
      refine iteI (fun z => by omega) fun _ => ?_
      refine loopP (fun k ys ρ => ∃ (s1 s2 : S), ρ = [S.d (.tuple xs), s1, s2] ∧ lnF k ys = lnF 0 xs) ?_ ?_ _ 0 _ ⟨_, _, rfl, rfl⟩
      · rintro k _ ⟨s1, s2, rfl, hq⟩
        simp only [↓at0, ↓set0, ↓at1, ↓set1, ↓at2, ↓set2, ↓at3, ↓set3, ↓at4, ↓set4, ↓at5, ↓set5, ↓at6, ↓set6, ↓at7, ↓set7, ↓at8, ↓set8, ↓at9, ↓set9, ↓at10, ↓set10, ↓at11, ↓set11, ↓at12, ↓set12, ↓at13, ↓set13, ↓at14, ↓set14, ↓at15, ↓set15, ↓fz_d, ↓fz_own, ↓fz_ob, ↓one_d, ↓int_d, ↓bool_d, ↓own_o, ↓ds_nil, ↓ds_cons, ↓seq_l, ↓seq_t, ↓ite_t, ↓ite_f, ↓e_next, ↓e_seq, ↓e_set, ↓e_drop, ↓e_ret, ↓e_ifs, ↓e_brk, ↓e_cnt, ↓e_fixs, ↓e_par, ↓e_par3, ↓e_asg, ↓e_for, ↓e_putAt, ↓e_jput, ↓e_var, ↓e_k, ↓e_fz, ↓e_op, ↓e_opL, ↓e_opR, ↓e_n, ↓e_n1, ↓e_nil, ↓e_cons, ↓e_tup, ↓e_lst, ↓e_b, ↓e_not, ↓e_and, ↓e_or, ↓e_andV, ↓e_orV, ↓e_notV, ↓e_if, ↓e_isi, ↓e_neg, ↓e_chain, ↓e_call, ↓e_callK, ↓e_jint, ↓e_dict0, ↓e_dict1, ↓e_listRng, ↓e_append, ↓e_cut, ↓e_cutO, ↓e_onone, ↓e_osome, ↓e_iseq, ↓e_ienum, ↓e_irng, ↓e_gname, ↓e_lnil, ↓e_lcons, ↓e_lc, ↓e_yes, ↓f_addI, ↓f_addS, ↓f_addT, ↓f_addL, ↓f_i2, ↓f_mulI, ↓f_mulT, ↓f_mulL, ↓f_eq, ↓f_ne, ↓f_is, ↓f_isnot, ↓f_in, ↓f_notin, ↓f_ixL, ↓f_ixT, ↓f_lenL, ↓f_lenT, ↓f_lenS, ↓f_abs, ↓f_intI, ↓f_intB, ↓f_tupL, ↓f_tupT, ↓f_lstL, ↓f_lstT, ↓f_repr, ↓f_cutL, ↓f_cutT, ↓firm_d, ↓firm_ob, ↓zip_l, ↓zip_t, ↓e_izip, ↓zip_cons, ↓zip_nil1, ↓zip_nil2, ↓f_sorted, ↓e_inn, ↓e_inc, ↓e_l2n, ↓e_l2c, ↓e_lc2, ↓e_rev, ↓e_pop, ↓e_popAt, ↓e_extend, ↓e_lc3, ↓e_gon, ↓e_goc, ↓e_dbMid, ↓e_dbIn, ↓f_neu, ↓e_ifT, ↓e_newD, ↓e_retO, ↓e_fixK, ↓e_putO, ↓e_dkO, ↓e_dkF, ↓e_kdO, ↓e_kdF, ↓e_get2O, ↓e_get2F, ↓e_ListD, ↓e_ListF, ↓od_o, ↓dct_d, ↓key_int, ↓key_str, ↓g_item, ↓g_get, ↓g_in, ↓g_notin, ↓h_list, ↓fz_od, ↓ow_ex, ↓e_tr, ↓e_trO, ↓e_trK, ↓tru_b, ↓tru_n, ↓tru_i, ↓tru_l, ↓tru_t, ↓tru_s, ↓e_i63, ↓n63_d, ↓e_ss, ↓e_ssL, ↓e_ssF, ↓e_never, ↓e_kget, ↓str_ex, ↓e_disp, ↓e_vnil, ↓e_vcons, ↓f_equ, ↓dgTup_tup, ↓dgCons_cons, ↓dgNil_nil, ite_t, ite_f, itK_not, List.cons_append, List.nil_append, List.append_nil, List.replicate, List.flatten_cons, List.flatten_nil, List.append_eq, List.length_cons, List.length_nil, Nat.zero_add, Nat.reduceAdd, true_and, and_true, eqOk_str, eqOk_int, eqOk_bool, str_eqv, int_eqv, tup_nil_eqv, lst_nil_eqv, rep_flat, isK_int, isK_bool, isK_tuple, isK_str, kInt, kBool, kTuple, kStr, GB.isNon, Bool.not_true, Bool.not_false, Bool.or_false, Bool.or_true, Bool.false_or, Bool.true_or, reduceCtorEq, ]
        rw [← hq] at q
        exact q
      · rintro k y ys _ K hK ⟨s1, s2, rfl, hq⟩
        have hq : (if lineOk y = true then lnF (k + 1) ys else .tuple [.str "line", .int k]) = lnF 0 xs := hq
        simp only [↓at0, ↓set0, ↓at1, ↓set1, ↓at2, ↓set2, ↓at3, ↓set3, ↓at4, ↓set4, ↓at5, ↓set5, ↓at6, ↓set6, ↓at7, ↓set7, ↓at8, ↓set8, ↓at9, ↓set9, ↓at10, ↓set10, ↓at11, ↓set11, ↓at12, ↓set12, ↓at13, ↓set13, ↓at14, ↓set14, ↓at15, ↓set15, ↓fz_d, ↓fz_own, ↓fz_ob, ↓one_d, ↓int_d, ↓bool_d, ↓own_o, ↓ds_nil, ↓ds_cons, ↓seq_l, ↓seq_t, ↓ite_t, ↓ite_f, ↓e_next, ↓e_seq, ↓e_set, ↓e_drop, ↓e_ret, ↓e_ifs, ↓e_brk, ↓e_cnt, ↓e_fixs, ↓e_par, ↓e_par3, ↓e_asg, ↓e_for, ↓e_putAt, ↓e_jput, ↓e_var, ↓e_k, ↓e_fz, ↓e_op, ↓e_opL, ↓e_opR, ↓e_n, ↓e_n1, ↓e_nil, ↓e_cons, ↓e_tup, ↓e_lst, ↓e_b, ↓e_not, ↓e_and, ↓e_or, ↓e_andV, ↓e_orV, ↓e_notV, ↓e_if, ↓e_isi, ↓e_neg, ↓e_chain, ↓e_call, ↓e_callK, ↓e_jint, ↓e_dict0, ↓e_dict1, ↓e_listRng, ↓e_append, ↓e_cut, ↓e_cutO, ↓e_onone, ↓e_osome, ↓e_iseq, ↓e_ienum, ↓e_irng, ↓e_gname, ↓e_lnil, ↓e_lcons, ↓e_lc, ↓e_yes, ↓f_addI, ↓f_addS, ↓f_addT, ↓f_addL, ↓f_i2, ↓f_mulI, ↓f_mulT, ↓f_mulL, ↓f_eq, ↓f_ne, ↓f_is, ↓f_isnot, ↓f_in, ↓f_notin, ↓f_ixL, ↓f_ixT, ↓f_lenL, ↓f_lenT, ↓f_lenS, ↓f_abs, ↓f_intI, ↓f_intB, ↓f_tupL, ↓f_tupT, ↓f_lstL, ↓f_lstT, ↓f_repr, ↓f_cutL, ↓f_cutT, ↓firm_d, ↓firm_ob, ↓zip_l, ↓zip_t, ↓e_izip, ↓zip_cons, ↓zip_nil1, ↓zip_nil2, ↓f_sorted, ↓e_inn, ↓e_inc, ↓e_l2n, ↓e_l2c, ↓e_lc2, ↓e_rev, ↓e_pop, ↓e_popAt, ↓e_extend, ↓e_lc3, ↓e_gon, ↓e_goc, ↓e_dbMid, ↓e_dbIn, ↓f_neu, ↓e_ifT, ↓e_newD, ↓e_retO, ↓e_fixK, ↓e_putO, ↓e_dkO, ↓e_dkF, ↓e_kdO, ↓e_kdF, ↓e_get2O, ↓e_get2F, ↓e_ListD, ↓e_ListF, ↓od_o, ↓dct_d, ↓key_int, ↓key_str, ↓g_item, ↓g_get, ↓g_in, ↓g_notin, ↓h_list, ↓fz_od, ↓ow_ex, ↓e_tr, ↓e_trO, ↓e_trK, ↓tru_b, ↓tru_n, ↓tru_i, ↓tru_l, ↓tru_t, ↓tru_s, ↓e_i63, ↓n63_d, ↓e_ss, ↓e_ssL, ↓e_ssF, ↓e_never, ↓e_kget, ↓str_ex, ↓e_disp, ↓e_vnil, ↓e_vcons, ↓f_equ, ↓dgTup_tup, ↓dgCons_cons, ↓dgNil_nil, ite_t, ite_f, itK_not, List.cons_append, List.nil_append, List.append_nil, List.replicate, List.flatten_cons, List.flatten_nil, List.append_eq, List.length_cons, List.length_nil, Nat.zero_add, Nat.reduceAdd, true_and, and_true, eqOk_str, eqOk_int, eqOk_bool, str_eqv, int_eqv, tup_nil_eqv, lst_nil_eqv, rep_flat, isK_int, isK_bool, isK_tuple, isK_str, kInt, kBool, kTuple, kStr, GB.isNon, Bool.not_true, Bool.not_false, Bool.or_false, Bool.or_true, Bool.false_or, Bool.true_or, reduceCtorEq, ↓s_lline]
        refine iteB (fun h => ?_) fun h => ?_
        · rw [if_pos h] at hq
          exact hK _ ⟨_, _, rfl, hq⟩
        · rw [if_neg (by rw [h]; decide)] at hq
          rw [← hq] at q
          exact ⟨by decide, q⟩
    · rw [if_neg hl] at q
      exact iteI (fun _ => q) fun z => by omega
  | _ => exact q
theorem ma_l_fault_of_all : ∀ ss R, ss.length = 2 → F_l_fault_of_all ss R → rd_l_fault_of_all { nx := fun _ => R (.d .none), rt := R } (ss ++ List.replicate 2 .un) := by
  rintro _ R - ⟨n, x, rfl, q⟩
  unfold rd_l_fault_of_all
  simp only [↓at0, ↓set0, ↓at1, ↓set1, ↓at2, ↓set2, ↓at3, ↓set3, ↓at4, ↓set4, ↓at5, ↓set5, ↓at6, ↓set6, ↓at7, ↓set7, ↓at8, ↓set8, ↓at9, ↓set9, ↓at10, ↓set10, ↓at11, ↓set11, ↓at12, ↓set12, ↓at13, ↓set13, ↓at14, ↓set14, ↓at15, ↓set15, ↓fz_d, ↓fz_own, ↓fz_ob, ↓one_d, ↓int_d, ↓bool_d, ↓own_o, ↓ds_nil, ↓ds_cons, ↓seq_l, ↓seq_t, ↓ite_t, ↓ite_f, ↓e_next, ↓e_seq, ↓e_set, ↓e_drop, ↓e_ret, ↓e_ifs, ↓e_brk, ↓e_cnt, ↓e_fixs, ↓e_par, ↓e_par3, ↓e_asg, ↓e_for, ↓e_putAt, ↓e_jput, ↓e_var, ↓e_k, ↓e_fz, ↓e_op, ↓e_opL, ↓e_opR, ↓e_n, ↓e_n1, ↓e_nil, ↓e_cons, ↓e_tup, ↓e_lst, ↓e_b, ↓e_not, ↓e_and, ↓e_or, ↓e_andV, ↓e_orV, ↓e_notV, ↓e_if, ↓e_isi, ↓e_neg, ↓e_chain, ↓e_call, ↓e_callK, ↓e_jint, ↓e_dict0, ↓e_dict1, ↓e_listRng, ↓e_append, ↓e_cut, ↓e_cutO, ↓e_onone, ↓e_osome, ↓e_iseq, ↓e_ienum, ↓e_irng, ↓e_gname, ↓e_lnil, ↓e_lcons, ↓e_lc, ↓e_yes, ↓f_addI, ↓f_addS, ↓f_addT, ↓f_addL, ↓f_i2, ↓f_mulI, ↓f_mulT, ↓f_mulL, ↓f_eq, ↓f_ne, ↓f_is, ↓f_isnot, ↓f_in, ↓f_notin, ↓f_ixL, ↓f_ixT, ↓f_lenL, ↓f_lenT, ↓f_lenS, ↓f_abs, ↓f_intI, ↓f_intB, ↓f_tupL, ↓f_tupT, ↓f_lstL, ↓f_lstT, ↓f_repr, ↓f_cutL, ↓f_cutT, ↓firm_d, ↓firm_ob, ↓zip_l, ↓zip_t, ↓e_izip, ↓zip_cons, ↓zip_nil1, ↓zip_nil2, ↓f_sorted, ↓e_inn, ↓e_inc, ↓e_l2n, ↓e_l2c, ↓e_lc2, ↓e_rev, ↓e_pop, ↓e_popAt, ↓e_extend, ↓e_lc3, ↓e_gon, ↓e_goc, ↓e_dbMid, ↓e_dbIn, ↓f_neu, ↓e_ifT, ↓e_newD, ↓e_retO, ↓e_fixK, ↓e_putO, ↓e_dkO, ↓e_dkF, ↓e_kdO, ↓e_kdF, ↓e_get2O, ↓e_get2F, ↓e_ListD, ↓e_ListF, ↓od_o, ↓dct_d, ↓key_int, ↓key_str, ↓g_item, ↓g_get, ↓g_in, ↓g_notin, ↓h_list, ↓fz_od, ↓ow_ex, ↓e_tr, ↓e_trO, ↓e_trK, ↓tru_b, ↓tru_n, ↓tru_i, ↓tru_l, ↓tru_t, ↓tru_s, ↓e_i63, ↓n63_d, ↓e_ss, ↓e_ssL, ↓e_ssF, ↓e_never, ↓e_kget, ↓str_ex, ↓e_disp, ↓e_vnil, ↓e_vcons, ↓f_equ, ↓dgTup_tup, ↓dgCons_cons, ↓dgNil_nil, ite_t, ite_f, itK_not, List.cons_append, List.nil_append, List.append_nil, List.replicate, List.flatten_cons, List.flatten_nil, List.append_eq, List.length_cons, List.length_nil, Nat.zero_add, Nat.reduceAdd, true_and, and_true, eqOk_str, eqOk_int, eqOk_bool, str_eqv, int_eqv, tup_nil_eqv, lst_nil_eqv, rep_flat, isK_int, isK_bool, isK_tuple, isK_str, kInt, kBool, kTuple, kStr, GB.isNon, Bool.not_true, Bool.not_false, Bool.or_false, Bool.or_true, Bool.false_or, Bool.true_or, reduceCtorEq, ]
  cases x with
  | tuple xs =>
    have q : R (.d (if xs.length = n then apF 0 xs else .str "form")) := q
    simp only [↓at0, ↓set0, ↓at1, ↓set1, ↓at2, ↓set2, ↓at3, ↓set3, ↓at4, ↓set4, ↓at5, ↓set5, ↓at6, ↓set6, ↓at7, ↓set7, ↓at8, ↓set8, ↓at9, ↓set9, ↓at10, ↓set10, ↓at11, ↓set11, ↓at12, ↓set12, ↓at13, ↓set13, ↓at14, ↓set14, ↓at15, ↓set15, ↓fz_d, ↓fz_own, ↓fz_ob, ↓one_d, ↓int_d, ↓bool_d, ↓own_o, ↓ds_nil, ↓ds_cons, ↓seq_l, ↓seq_t, ↓ite_t, ↓ite_f, ↓e_next, ↓e_seq, ↓e_set, ↓e_drop, ↓e_ret, ↓e_ifs, ↓e_brk, ↓e_cnt, ↓e_fixs, ↓e_par, ↓e_par3, ↓e_asg, ↓e_for, ↓e_putAt, ↓e_jput, ↓e_var, ↓e_k, ↓e_fz, ↓e_op, ↓e_opL, ↓e_opR, ↓e_n, ↓e_n1, ↓e_nil, ↓e_cons, ↓e_tup, ↓e_lst, ↓e_b, ↓e_not, ↓e_and, ↓e_or, ↓e_andV, ↓e_orV, ↓e_notV, ↓e_if, ↓e_isi, ↓e_neg, ↓e_chain, ↓e_call, ↓e_callK, ↓e_jint, ↓e_dict0, ↓e_dict1, ↓e_listRng, ↓e_append, ↓e_cut, ↓e_cutO, ↓e_onone, ↓e_osome, ↓e_iseq, ↓e_ienum, ↓e_irng, ↓e_gname, ↓e_lnil, ↓e_lcons, ↓e_lc, ↓e_yes, ↓f_addI, ↓f_addS, ↓f_addT, ↓f_addL, ↓f_i2, ↓f_mulI, ↓f_mulT, ↓f_mulL, ↓f_eq, ↓f_ne, ↓f_is, ↓f_isnot, ↓f_in, ↓f_notin, ↓f_ixL, ↓f_ixT, ↓f_lenL, ↓f_lenT, ↓f_lenS, ↓f_abs, ↓f_intI, ↓f_intB, ↓f_tupL, ↓f_tupT, ↓f_lstL, ↓f_lstT, ↓f_repr, ↓f_cutL, ↓f_cutT, ↓firm_d, ↓firm_ob, ↓zip_l, ↓zip_t, ↓e_izip, ↓zip_cons, ↓zip_nil1, ↓zip_nil2, ↓f_sorted, ↓e_inn, ↓e_inc, ↓e_l2n, ↓e_l2c, ↓e_lc2, ↓e_rev, ↓e_pop, ↓e_popAt, ↓e_extend, ↓e_lc3, ↓e_gon, ↓e_goc, ↓e_dbMid, ↓e_dbIn, ↓f_neu, ↓e_ifT, ↓e_newD, ↓e_retO, ↓e_fixK, ↓e_putO, ↓e_dkO, ↓e_dkF, ↓e_kdO, ↓e_kdF, ↓e_get2O, ↓e_get2F, ↓e_ListD, ↓e_ListF, ↓od_o, ↓dct_d, ↓key_int, ↓key_str, ↓g_item, ↓g_get, ↓g_in, ↓g_notin, ↓h_list, ↓fz_od, ↓ow_ex, ↓e_tr, ↓e_trO, ↓e_trK, ↓tru_b, ↓tru_n, ↓tru_i, ↓tru_l, ↓tru_t, ↓tru_s, ↓e_i63, ↓n63_d, ↓e_ss, ↓e_ssL, ↓e_ssF, ↓e_never, ↓e_kget, ↓str_ex, ↓e_disp, ↓e_vnil, ↓e_vcons, ↓f_equ, ↓dgTup_tup, ↓dgCons_cons, ↓dgNil_nil, ite_t, ite_f, itK_not, List.cons_append, List.nil_append, List.append_nil, List.replicate, List.flatten_cons, List.flatten_nil, List.append_eq, List.length_cons, List.length_nil, Nat.zero_add, Nat.reduceAdd, true_and, and_true, eqOk_str, eqOk_int, eqOk_bool, str_eqv, int_eqv, tup_nil_eqv, lst_nil_eqv, rep_flat, isK_int, isK_bool, isK_tuple, isK_str, kInt, kBool, kTuple, kStr, GB.isNon, Bool.not_true, Bool.not_false, Bool.or_false, Bool.or_true, Bool.false_or, Bool.true_or, reduceCtorEq, ]
    by_cases hl : xs.length = n
    · rw [if_pos hl] at q
      refine iteI (fun _ => ?_) fun z => by omega
      refine loopP (fun k ys ρ => ∃ (s1 s2 : S), ρ = [S.d (.int n), S.d (.tuple xs), s1, s2] ∧ apF k ys = apF 0 xs) ?_ ?_ _ 0 _ ⟨_, _, rfl, rfl⟩
      · rintro k _ ⟨s1, s2, rfl, hq⟩
        simp only [↓at0, ↓set0, ↓at1, ↓set1, ↓at2, ↓set2, ↓at3, ↓set3, ↓at4, ↓set4, ↓at5, ↓set5, ↓at6, ↓set6, ↓at7, ↓set7, ↓at8, ↓set8, ↓at9, ↓set9, ↓at10, ↓set10, ↓at11, ↓set11, ↓at12, ↓set12, ↓at13, ↓set13, ↓at14, ↓set14, ↓at15, ↓set15, ↓fz_d, ↓fz_own, ↓fz_ob, ↓one_d, ↓int_d, ↓bool_d, ↓own_o, ↓ds_nil, ↓ds_cons, ↓seq_l, ↓seq_t, ↓ite_t, ↓ite_f, ↓e_next, ↓e_seq, ↓e_set, ↓e_drop, ↓e_ret, ↓e_ifs, ↓e_brk, ↓e_cnt, ↓e_fixs, ↓e_par, ↓e_par3, ↓e_asg, ↓e_for, ↓e_putAt, ↓e_jput, ↓e_var, ↓e_k, ↓e_fz, ↓e_op, ↓e_opL, ↓e_opR, ↓e_n, ↓e_n1, ↓e_nil, ↓e_cons, ↓e_tup, ↓e_lst, ↓e_b, ↓e_not, ↓e_and, ↓e_or, ↓e_andV, ↓e_orV, ↓e_notV, ↓e_if, ↓e_isi, ↓e_neg, ↓e_chain, ↓e_call, ↓e_callK, ↓e_jint, ↓e_dict0, ↓e_dict1, ↓e_listRng, ↓e_append, ↓e_cut, ↓e_cutO, ↓e_onone, ↓e_osome, ↓e_iseq, ↓e_ienum, ↓e_irng, ↓e_gname, ↓e_lnil, ↓e_lcons, ↓e_lc, ↓e_yes, ↓f_addI, ↓f_addS, ↓f_addT, ↓f_addL, ↓f_i2, ↓f_mulI, ↓f_mulT, ↓f_mulL, ↓f_eq, ↓f_ne, ↓f_is, ↓f_isnot, ↓f_in, ↓f_notin, ↓f_ixL, ↓f_ixT, ↓f_lenL, ↓f_lenT, ↓f_lenS, ↓f_abs, ↓f_intI, ↓f_intB, ↓f_tupL, ↓f_tupT, ↓f_lstL, ↓f_lstT, ↓f_repr, ↓f_cutL, ↓f_cutT, ↓firm_d, ↓firm_ob, ↓zip_l, ↓zip_t, ↓e_izip, ↓zip_cons, ↓zip_nil1, ↓zip_nil2, ↓f_sorted, ↓e_inn, ↓e_inc, ↓e_l2n, ↓e_l2c, ↓e_lc2, ↓e_rev, ↓e_pop, ↓e_popAt, ↓e_extend, ↓e_lc3, ↓e_gon, ↓e_goc, ↓e_dbMid, ↓e_dbIn, ↓f_neu, ↓e_ifT, ↓e_newD, ↓e_retO, ↓e_fixK, ↓e_putO, ↓e_dkO, ↓e_dkF, ↓e_kdO, ↓e_kdF, ↓e_get2O, ↓e_get2F, ↓e_ListD, ↓e_ListF, ↓od_o, ↓dct_d, ↓key_int, ↓key_str, ↓g_item, ↓g_get, ↓g_in, ↓g_notin, ↓h_list, ↓fz_od, ↓ow_ex, ↓e_tr, ↓e_trO, ↓e_trK, ↓tru_b, ↓tru_n, ↓tru_i, ↓tru_l, ↓tru_t, ↓tru_s, ↓e_i63, ↓n63_d, ↓e_ss, ↓e_ssL, ↓e_ssF, ↓e_never, ↓e_kget, ↓str_ex, ↓e_disp, ↓e_vnil, ↓e_vcons, ↓f_equ, ↓dgTup_tup, ↓dgCons_cons, ↓dgNil_nil, ite_t, ite_f, itK_not, List.cons_append, List.nil_append, List.append_nil, List.replicate, List.flatten_cons, List.flatten_nil, List.append_eq, List.length_cons, List.length_nil, Nat.zero_add, Nat.reduceAdd, true_and, and_true, eqOk_str, eqOk_int, eqOk_bool, str_eqv, int_eqv, tup_nil_eqv, lst_nil_eqv, rep_flat, isK_int, isK_bool, isK_tuple, isK_str, kInt, kBool, kTuple, kStr, GB.isNon, Bool.not_true, Bool.not_false, Bool.or_false, Bool.or_true, Bool.false_or, Bool.true_or, reduceCtorEq, ]
        rw [← hq] at q
        exact q
      · rintro k y ys _ K hK ⟨s1, s2, rfl, hq⟩
        have hq : (if GB.isNon (pgF y) = true then apF (k + 1) ys else .tuple [.str "program", .int k, pgF y]) = apF 0 xs := hq
        simp only [↓at0, ↓set0, ↓at1, ↓set1, ↓at2, ↓set2, ↓at3, ↓set3, ↓at4, ↓set4, ↓at5, ↓set5, ↓at6, ↓set6, ↓at7, ↓set7, ↓at8, ↓set8, ↓at9, ↓set9, ↓at10, ↓set10, ↓at11, ↓set11, ↓at12, ↓set12, ↓at13, ↓set13, ↓at14, ↓set14, ↓at15, ↓set15, ↓fz_d, ↓fz_own, ↓fz_ob, ↓one_d, ↓int_d, ↓bool_d, ↓own_o, ↓ds_nil, ↓ds_cons, ↓seq_l, ↓seq_t, ↓ite_t, ↓ite_f, ↓e_next, ↓e_seq, ↓e_set, ↓e_drop, ↓e_ret, ↓e_ifs, ↓e_brk, ↓e_cnt, ↓e_fixs, ↓e_par, ↓e_par3, ↓e_asg, ↓e_for, ↓e_putAt, ↓e_jput, ↓e_var, ↓e_k, ↓e_fz, ↓e_op, ↓e_opL, ↓e_opR, ↓e_n, ↓e_n1, ↓e_nil, ↓e_cons, ↓e_tup, ↓e_lst, ↓e_b, ↓e_not, ↓e_and, ↓e_or, ↓e_andV, ↓e_orV, ↓e_notV, ↓e_if, ↓e_isi, ↓e_neg, ↓e_chain, ↓e_call, ↓e_callK, ↓e_jint, ↓e_dict0, ↓e_dict1, ↓e_listRng, ↓e_append, ↓e_cut, ↓e_cutO, ↓e_onone, ↓e_osome, ↓e_iseq, ↓e_ienum, ↓e_irng, ↓e_gname, ↓e_lnil, ↓e_lcons, ↓e_lc, ↓e_yes, ↓f_addI, ↓f_addS, ↓f_addT, ↓f_addL, ↓f_i2, ↓f_mulI, ↓f_mulT, ↓f_mulL, ↓f_eq, ↓f_ne, ↓f_is, ↓f_isnot, ↓f_in, ↓f_notin, ↓f_ixL, ↓f_ixT, ↓f_lenL, ↓f_lenT, ↓f_lenS, ↓f_abs, ↓f_intI, ↓f_intB, ↓f_tupL, ↓f_tupT, ↓f_lstL, ↓f_lstT, ↓f_repr, ↓f_cutL, ↓f_cutT, ↓firm_d, ↓firm_ob, ↓zip_l, ↓zip_t, ↓e_izip, ↓zip_cons, ↓zip_nil1, ↓zip_nil2, ↓f_sorted, ↓e_inn, ↓e_inc, ↓e_l2n, ↓e_l2c, ↓e_lc2, ↓e_rev, ↓e_pop, ↓e_popAt, ↓e_extend, ↓e_lc3, ↓e_gon, ↓e_goc, ↓e_dbMid, ↓e_dbIn, ↓f_neu, ↓e_ifT, ↓e_newD, ↓e_retO, ↓e_fixK, ↓e_putO, ↓e_dkO, ↓e_dkF, ↓e_kdO, ↓e_kdF, ↓e_get2O, ↓e_get2F, ↓e_ListD, ↓e_ListF, ↓od_o, ↓dct_d, ↓key_int, ↓key_str, ↓g_item, ↓g_get, ↓g_in, ↓g_notin, ↓h_list, ↓fz_od, ↓ow_ex, ↓e_tr, ↓e_trO, ↓e_trK, ↓tru_b, ↓tru_n, ↓tru_i, ↓tru_l, ↓tru_t, ↓tru_s, ↓e_i63, ↓n63_d, ↓e_ss, ↓e_ssL, ↓e_ssF, ↓e_never, ↓e_kget, ↓str_ex, ↓e_disp, ↓e_vnil, ↓e_vcons, ↓f_equ, ↓dgTup_tup, ↓dgCons_cons, ↓dgNil_nil, ite_t, ite_f, itK_not, List.cons_append, List.nil_append, List.append_nil, List.replicate, List.flatten_cons, List.flatten_nil, List.append_eq, List.length_cons, List.length_nil, Nat.zero_add, Nat.reduceAdd, true_and, and_true, eqOk_str, eqOk_int, eqOk_bool, str_eqv, int_eqv, tup_nil_eqv, lst_nil_eqv, rep_flat, isK_int, isK_bool, isK_tuple, isK_str, kInt, kBool, kTuple, kStr, GB.isNon, Bool.not_true, Bool.not_false, Bool.or_false, Bool.or_true, Bool.false_or, Bool.true_or, reduceCtorEq, ↓s_lfault]
        have nx : ∀ z, pgF y = z → GB.isNon z = true → K [S.d (.int n), S.d (.tuple xs), S.d (.int k), S.d y] := fun z e h => by
          rw [e, if_pos h] at hq
          exact hK _ ⟨_, _, rfl, hq⟩
        have no : GB.isNon (pgF y) = false → R (S.d (.tuple [.str "program", .int k, pgF y])) := fun h => by
          rw [if_neg (by rw [h]; decide)] at hq
          rw [← hq] at q
          exact q
        generalize pgF y = z at nx no ⊢
        cases z with
        | none => exact ite_t.mpr (nx _ rfl rfl)
        | _ => exact ite_f.mpr ⟨by decide, no rfl⟩
    · rw [if_neg hl] at q
      exact iteI (fun z => by omega) fun _ => q
  | _ => exact q
theorem s_pserr {k : S → Prop} {cs : List (List PyData × PyData)} {rm lk : List PyData} {x : PyData} (h : k (.d (alF rm.length x))) : F_programs_error [.d (stD cs rm lk), .d x] k := ⟨cs, rm, lk, x, rfl, h⟩
theorem s_all {k : S → Prop} {n : Nat} {x : PyData} (h : k (.d (alF n x))) : F_l_fault_of_all [.d (.int n), .d x] k := ⟨n, x, rfl, h⟩
theorem Vz.mono {D W D' W' : Nat} {x : PyData} (h : Vz D W x) (h1 : D ≤ D') (h2 : W ≤ W') : Vz D' W' x := ⟨h.sh, h.ls, Nat.le_trans h.dp h1, Nat.le_trans h.bk h2⟩
theorem vz_of {D W : Nat} {x : PyData} (h : vyB D W x = true) : Vz D W x := let q := vy_of h; ⟨q.sh, q.ls, q.dp, q.bk⟩
theorem vz_vy {D W : Nat} {x : PyData} (h : Vz D W x) : Vy D W x := ⟨h.sh, h.ls, h.dp, h.bk⟩
/-- sizes of what the defs tell -/
theorem lnF_vy : ∀ (k : Nat) (xs : List PyData), k + xs.length ≤ 60 → Vy 2 10 (lnF k xs)
  | _, [], _ => (show Vy 2 10 .none from vy_of (by decide +kernel))
  | k, x :: xs, h => by
    show Vy 2 10 (if lineOk x = true then lnF ((k : Int) + 1) xs else _)
    split
    · have := lnF_vy (k + 1) xs (by simp at h; omega)
      rw [show ((k + 1 : Nat) : Int) = (k : Int) + 1 by omega] at this
      exact this
    · have hk : k ≤ 60 := by omega
      have := List.all_eq_true.mp (show (List.range 61).all (fun i => vyB 2 10 (.tuple [.str "line", .int (i : Nat)])) = true by decide +kernel) k (List.mem_range.mpr (by omega))
      exact vy_of this
theorem pgF_vy (x : PyData) : Vy 2 10 (pgF x) := by
  cases x with
  | tuple xs =>
    show Vy 2 10 (if xs.length ≤ 6 then lnF 0 xs else .str "form")
    split
    · exact lnF_vy 0 xs (by omega)
    · exact vy_of (by decide +kernel)
  | _ => exact (show Vy 2 10 (.str "form") from vy_of (by decide +kernel))
theorem apF_vy : ∀ (k : Nat) (xs : List PyData), k + xs.length ≤ 60 → Vy 3 60 (apF k xs)
  | _, [], _ => (show Vy 3 60 .none from vy_of (by decide +kernel))
  | k, x :: xs, h => by
    show Vy 3 60 (if GB.isNon (pgF x) = true then apF ((k : Int) + 1) xs else _)
    split
    · have := apF_vy (k + 1) xs (by simp at h; omega)
      rw [show ((k + 1 : Nat) : Int) = (k : Int) + 1 by omega] at this
      exact this
    · have h0 := pgF_vy x
      have h1 : Vy 2 10 (.str "program") := vy_of (by decide +kernel)
      have h2 : Vy 2 10 (.int (k : Int)) := by
        have := List.all_eq_true.mp (show (List.range 61).all (fun i => vyB 2 10 (.int (i : Nat))) = true by decide +kernel) k (List.mem_range.mpr (by omega))
        exact vy_of this
      exact (vy_tup (D := 2) (W := 10) (n := 3) (fun z hz => by
        simp only [List.mem_cons, List.not_mem_nil, or_false] at hz
        rcases hz with rfl | rfl | rfl <;> assumption) (by simp)).mono (by decide) (by decide)
theorem alF_vy {n : Nat} (hn : n ≤ 60) (x : PyData) : Vy 3 60 (alF n x) := by
  cases x with
  | tuple xs =>
    show Vy 3 60 (if xs.length = n then apF 0 xs else .str "form")
    split
    · exact apF_vy 0 xs (by omega)
    · exact vy_of (by decide +kernel)
  | _ => exact (show Vy 3 60 (.str "form") from vy_of (by decide +kernel))
theorem ma_l_is_told : ∀ ss R, ss.length = 4 → F_l_is_told ss R → rd_l_is_told { nx := fun _ => R (.d .none), rt := R } (ss ++ List.replicate 3 .un) := by
  rintro _ R - ⟨cs, rm, lk, one, every, b, D, W, rfl, hs, hr, v1, v2, hD, hW, q⟩
  have a := st_vy' hs hr
  have all : Vy 50 195000 (.list [stD cs rm lk, one, every]) := by
    obtain ⟨a1, a2, a3, a4⟩ := a
    obtain ⟨b1, b2, b3, b4⟩ := v1
    obtain ⟨c1, c2, c3, c4⟩ := v2
    refine ⟨by simp [PyData.showable, PyData.showableAll, a1, b1, c1], by simp [PyData.leavesShort, PyData.leavesShortAll, a2, b2, c2], ?_, ?_⟩
    · simp only [PyData.depth, PyData.depthAll]; omega
    · simp only [PyData.bulk, PyData.bulkAll]; omega
  have a1 := all.sh
  have a2 := all.fits (by decide)
  have a3 : (PyData.list [stD cs rm lk, one, every]).depth ≤ 60 := Nat.le_trans all.dp (by decide)
  have dv : Vy 4 200 (.list [pgF one, alF rm.length every]) := by
    obtain ⟨b1, b2, b3, b4⟩ := pgF_vy one
    obtain ⟨c1, c2, c3, c4⟩ := alF_vy (n := rm.length) hr.1 every
    refine ⟨by simp [PyData.showable, PyData.showableAll, b1, c1], by simp [PyData.leavesShort, PyData.leavesShortAll, b2, c2], ?_, ?_⟩
    · simp only [PyData.depth, PyData.depthAll]; omega
    · simp only [PyData.bulk, PyData.bulkAll]; omega
  have d1 := dv.sh
  have d2 := dv.fits (by decide)
  have d3 : (PyData.list [pgF one, alF rm.length every]).depth ≤ 60 := Nat.le_trans dv.dp (by decide)
  unfold rd_l_is_told
  simp only [↓at0, ↓set0, ↓at1, ↓set1, ↓at2, ↓set2, ↓at3, ↓set3, ↓at4, ↓set4, ↓at5, ↓set5, ↓at6, ↓set6, ↓at7, ↓set7, ↓at8, ↓set8, ↓at9, ↓set9, ↓at10, ↓set10, ↓at11, ↓set11, ↓at12, ↓set12, ↓at13, ↓set13, ↓at14, ↓set14, ↓at15, ↓set15, ↓fz_d, ↓fz_own, ↓fz_ob, ↓one_d, ↓int_d, ↓bool_d, ↓own_o, ↓ds_nil, ↓ds_cons, ↓seq_l, ↓seq_t, ↓ite_t, ↓ite_f, ↓e_next, ↓e_seq, ↓e_set, ↓e_drop, ↓e_ret, ↓e_ifs, ↓e_brk, ↓e_cnt, ↓e_fixs, ↓e_par, ↓e_par3, ↓e_asg, ↓e_for, ↓e_putAt, ↓e_jput, ↓e_var, ↓e_k, ↓e_fz, ↓e_op, ↓e_opL, ↓e_opR, ↓e_n, ↓e_n1, ↓e_nil, ↓e_cons, ↓e_tup, ↓e_lst, ↓e_b, ↓e_not, ↓e_and, ↓e_or, ↓e_andV, ↓e_orV, ↓e_notV, ↓e_if, ↓e_isi, ↓e_neg, ↓e_chain, ↓e_call, ↓e_callK, ↓e_jint, ↓e_dict0, ↓e_dict1, ↓e_listRng, ↓e_append, ↓e_cut, ↓e_cutO, ↓e_onone, ↓e_osome, ↓e_iseq, ↓e_ienum, ↓e_irng, ↓e_gname, ↓e_lnil, ↓e_lcons, ↓e_lc, ↓e_yes, ↓f_addI, ↓f_addS, ↓f_addT, ↓f_addL, ↓f_i2, ↓f_mulI, ↓f_mulT, ↓f_mulL, ↓f_eq, ↓f_ne, ↓f_is, ↓f_isnot, ↓f_in, ↓f_notin, ↓f_ixL, ↓f_ixT, ↓f_lenL, ↓f_lenT, ↓f_lenS, ↓f_abs, ↓f_intI, ↓f_intB, ↓f_tupL, ↓f_tupT, ↓f_lstL, ↓f_lstT, ↓f_repr, ↓f_cutL, ↓f_cutT, ↓firm_d, ↓firm_ob, ↓zip_l, ↓zip_t, ↓e_izip, ↓zip_cons, ↓zip_nil1, ↓zip_nil2, ↓f_sorted, ↓e_inn, ↓e_inc, ↓e_l2n, ↓e_l2c, ↓e_lc2, ↓e_rev, ↓e_pop, ↓e_popAt, ↓e_extend, ↓e_lc3, ↓e_gon, ↓e_goc, ↓e_dbMid, ↓e_dbIn, ↓f_neu, ↓e_ifT, ↓e_newD, ↓e_retO, ↓e_fixK, ↓e_putO, ↓e_dkO, ↓e_dkF, ↓e_kdO, ↓e_kdF, ↓e_get2O, ↓e_get2F, ↓e_ListD, ↓e_ListF, ↓od_o, ↓dct_d, ↓key_int, ↓key_str, ↓g_item, ↓g_get, ↓g_in, ↓g_notin, ↓h_list, ↓fz_od, ↓ow_ex, ↓e_tr, ↓e_trO, ↓e_trK, ↓tru_b, ↓tru_n, ↓tru_i, ↓tru_l, ↓tru_t, ↓tru_s, ↓e_i63, ↓n63_d, ↓e_ss, ↓e_ssL, ↓e_ssF, ↓e_never, ↓e_kget, ↓str_ex, ↓e_disp, ↓e_vnil, ↓e_vcons, ↓f_equ, ↓dgTup_tup, ↓dgCons_cons, ↓dgNil_nil, ite_t, ite_f, itK_not, List.cons_append, List.nil_append, List.append_nil, List.replicate, List.flatten_cons, List.flatten_nil, List.append_eq, List.length_cons, List.length_nil, Nat.zero_add, Nat.reduceAdd, true_and, and_true, eqOk_str, eqOk_int, eqOk_bool, str_eqv, int_eqv, tup_nil_eqv, lst_nil_eqv, rep_flat, isK_int, isK_bool, isK_tuple, isK_str, kInt, kBool, kTuple, kStr, GB.isNon, Bool.not_true, Bool.not_false, Bool.or_false, Bool.or_true, Bool.false_or, Bool.true_or, reduceCtorEq, a1, a2, a3, ↓s_lfault, ↓st_ix2, ↓s_perr]
  refine ⟨by decide, s_all ?_⟩
  simp only [↓at0, ↓set0, ↓at1, ↓set1, ↓at2, ↓set2, ↓at3, ↓set3, ↓at4, ↓set4, ↓at5, ↓set5, ↓at6, ↓set6, ↓at7, ↓set7, ↓at8, ↓set8, ↓at9, ↓set9, ↓at10, ↓set10, ↓at11, ↓set11, ↓at12, ↓set12, ↓at13, ↓set13, ↓at14, ↓set14, ↓at15, ↓set15, ↓fz_d, ↓fz_own, ↓fz_ob, ↓one_d, ↓int_d, ↓bool_d, ↓own_o, ↓ds_nil, ↓ds_cons, ↓seq_l, ↓seq_t, ↓ite_t, ↓ite_f, ↓e_next, ↓e_seq, ↓e_set, ↓e_drop, ↓e_ret, ↓e_ifs, ↓e_brk, ↓e_cnt, ↓e_fixs, ↓e_par, ↓e_par3, ↓e_asg, ↓e_for, ↓e_putAt, ↓e_jput, ↓e_var, ↓e_k, ↓e_fz, ↓e_op, ↓e_opL, ↓e_opR, ↓e_n, ↓e_n1, ↓e_nil, ↓e_cons, ↓e_tup, ↓e_lst, ↓e_b, ↓e_not, ↓e_and, ↓e_or, ↓e_andV, ↓e_orV, ↓e_notV, ↓e_if, ↓e_isi, ↓e_neg, ↓e_chain, ↓e_call, ↓e_callK, ↓e_jint, ↓e_dict0, ↓e_dict1, ↓e_listRng, ↓e_append, ↓e_cut, ↓e_cutO, ↓e_onone, ↓e_osome, ↓e_iseq, ↓e_ienum, ↓e_irng, ↓e_gname, ↓e_lnil, ↓e_lcons, ↓e_lc, ↓e_yes, ↓f_addI, ↓f_addS, ↓f_addT, ↓f_addL, ↓f_i2, ↓f_mulI, ↓f_mulT, ↓f_mulL, ↓f_eq, ↓f_ne, ↓f_is, ↓f_isnot, ↓f_in, ↓f_notin, ↓f_ixL, ↓f_ixT, ↓f_lenL, ↓f_lenT, ↓f_lenS, ↓f_abs, ↓f_intI, ↓f_intB, ↓f_tupL, ↓f_tupT, ↓f_lstL, ↓f_lstT, ↓f_repr, ↓f_cutL, ↓f_cutT, ↓firm_d, ↓firm_ob, ↓zip_l, ↓zip_t, ↓e_izip, ↓zip_cons, ↓zip_nil1, ↓zip_nil2, ↓f_sorted, ↓e_inn, ↓e_inc, ↓e_l2n, ↓e_l2c, ↓e_lc2, ↓e_rev, ↓e_pop, ↓e_popAt, ↓e_extend, ↓e_lc3, ↓e_gon, ↓e_goc, ↓e_dbMid, ↓e_dbIn, ↓f_neu, ↓e_ifT, ↓e_newD, ↓e_retO, ↓e_fixK, ↓e_putO, ↓e_dkO, ↓e_dkF, ↓e_kdO, ↓e_kdF, ↓e_get2O, ↓e_get2F, ↓e_ListD, ↓e_ListF, ↓od_o, ↓dct_d, ↓key_int, ↓key_str, ↓g_item, ↓g_get, ↓g_in, ↓g_notin, ↓h_list, ↓fz_od, ↓ow_ex, ↓e_tr, ↓e_trO, ↓e_trK, ↓tru_b, ↓tru_n, ↓tru_i, ↓tru_l, ↓tru_t, ↓tru_s, ↓e_i63, ↓n63_d, ↓e_ss, ↓e_ssL, ↓e_ssF, ↓e_never, ↓e_kget, ↓str_ex, ↓e_disp, ↓e_vnil, ↓e_vcons, ↓f_equ, ↓dgTup_tup, ↓dgCons_cons, ↓dgNil_nil, ite_t, ite_f, itK_not, List.cons_append, List.nil_append, List.append_nil, List.replicate, List.flatten_cons, List.flatten_nil, List.append_eq, List.length_cons, List.length_nil, Nat.zero_add, Nat.reduceAdd, true_and, and_true, eqOk_str, eqOk_int, eqOk_bool, str_eqv, int_eqv, tup_nil_eqv, lst_nil_eqv, rep_flat, isK_int, isK_bool, isK_tuple, isK_str, kInt, kBool, kTuple, kStr, GB.isNon, Bool.not_true, Bool.not_false, Bool.or_false, Bool.or_true, Bool.false_or, Bool.true_or, reduceCtorEq, a1, a2, a3, ↓s_lfault, ↓st_ix2, ↓s_perr]
  refine ⟨by decide, s_pserr ?_⟩
  simp only [↓at0, ↓set0, ↓at1, ↓set1, ↓at2, ↓set2, ↓at3, ↓set3, ↓at4, ↓set4, ↓at5, ↓set5, ↓at6, ↓set6, ↓at7, ↓set7, ↓at8, ↓set8, ↓at9, ↓set9, ↓at10, ↓set10, ↓at11, ↓set11, ↓at12, ↓set12, ↓at13, ↓set13, ↓at14, ↓set14, ↓at15, ↓set15, ↓fz_d, ↓fz_own, ↓fz_ob, ↓one_d, ↓int_d, ↓bool_d, ↓own_o, ↓ds_nil, ↓ds_cons, ↓seq_l, ↓seq_t, ↓ite_t, ↓ite_f, ↓e_next, ↓e_seq, ↓e_set, ↓e_drop, ↓e_ret, ↓e_ifs, ↓e_brk, ↓e_cnt, ↓e_fixs, ↓e_par, ↓e_par3, ↓e_asg, ↓e_for, ↓e_putAt, ↓e_jput, ↓e_var, ↓e_k, ↓e_fz, ↓e_op, ↓e_opL, ↓e_opR, ↓e_n, ↓e_n1, ↓e_nil, ↓e_cons, ↓e_tup, ↓e_lst, ↓e_b, ↓e_not, ↓e_and, ↓e_or, ↓e_andV, ↓e_orV, ↓e_notV, ↓e_if, ↓e_isi, ↓e_neg, ↓e_chain, ↓e_call, ↓e_callK, ↓e_jint, ↓e_dict0, ↓e_dict1, ↓e_listRng, ↓e_append, ↓e_cut, ↓e_cutO, ↓e_onone, ↓e_osome, ↓e_iseq, ↓e_ienum, ↓e_irng, ↓e_gname, ↓e_lnil, ↓e_lcons, ↓e_lc, ↓e_yes, ↓f_addI, ↓f_addS, ↓f_addT, ↓f_addL, ↓f_i2, ↓f_mulI, ↓f_mulT, ↓f_mulL, ↓f_eq, ↓f_ne, ↓f_is, ↓f_isnot, ↓f_in, ↓f_notin, ↓f_ixL, ↓f_ixT, ↓f_lenL, ↓f_lenT, ↓f_lenS, ↓f_abs, ↓f_intI, ↓f_intB, ↓f_tupL, ↓f_tupT, ↓f_lstL, ↓f_lstT, ↓f_repr, ↓f_cutL, ↓f_cutT, ↓firm_d, ↓firm_ob, ↓zip_l, ↓zip_t, ↓e_izip, ↓zip_cons, ↓zip_nil1, ↓zip_nil2, ↓f_sorted, ↓e_inn, ↓e_inc, ↓e_l2n, ↓e_l2c, ↓e_lc2, ↓e_rev, ↓e_pop, ↓e_popAt, ↓e_extend, ↓e_lc3, ↓e_gon, ↓e_goc, ↓e_dbMid, ↓e_dbIn, ↓f_neu, ↓e_ifT, ↓e_newD, ↓e_retO, ↓e_fixK, ↓e_putO, ↓e_dkO, ↓e_dkF, ↓e_kdO, ↓e_kdF, ↓e_get2O, ↓e_get2F, ↓e_ListD, ↓e_ListF, ↓od_o, ↓dct_d, ↓key_int, ↓key_str, ↓g_item, ↓g_get, ↓g_in, ↓g_notin, ↓h_list, ↓fz_od, ↓ow_ex, ↓e_tr, ↓e_trO, ↓e_trK, ↓tru_b, ↓tru_n, ↓tru_i, ↓tru_l, ↓tru_t, ↓tru_s, ↓e_i63, ↓n63_d, ↓e_ss, ↓e_ssL, ↓e_ssF, ↓e_never, ↓e_kget, ↓str_ex, ↓e_disp, ↓e_vnil, ↓e_vcons, ↓f_equ, ↓dgTup_tup, ↓dgCons_cons, ↓dgNil_nil, ite_t, ite_f, itK_not, List.cons_append, List.nil_append, List.append_nil, List.replicate, List.flatten_cons, List.flatten_nil, List.append_eq, List.length_cons, List.length_nil, Nat.zero_add, Nat.reduceAdd, true_and, and_true, eqOk_str, eqOk_int, eqOk_bool, str_eqv, int_eqv, tup_nil_eqv, lst_nil_eqv, rep_flat, isK_int, isK_bool, isK_tuple, isK_str, kInt, kBool, kTuple, kStr, GB.isNon, Bool.not_true, Bool.not_false, Bool.or_false, Bool.or_true, Bool.false_or, Bool.true_or, reduceCtorEq, a1, a2, a3, d1, d2, d3, ↓s_lfault, ↓st_ix2, ↓s_perr]
  refine ⟨by decide, ?_⟩
  cases b
  · refine ite_f.mpr ?_
    refine s_pserr ?_
    simp only [↓at0, ↓set0, ↓at1, ↓set1, ↓at2, ↓set2, ↓at3, ↓set3, ↓at4, ↓set4, ↓at5, ↓set5, ↓at6, ↓set6, ↓at7, ↓set7, ↓at8, ↓set8, ↓at9, ↓set9, ↓at10, ↓set10, ↓at11, ↓set11, ↓at12, ↓set12, ↓at13, ↓set13, ↓at14, ↓set14, ↓at15, ↓set15, ↓fz_d, ↓fz_own, ↓fz_ob, ↓one_d, ↓int_d, ↓bool_d, ↓own_o, ↓ds_nil, ↓ds_cons, ↓seq_l, ↓seq_t, ↓ite_t, ↓ite_f, ↓e_next, ↓e_seq, ↓e_set, ↓e_drop, ↓e_ret, ↓e_ifs, ↓e_brk, ↓e_cnt, ↓e_fixs, ↓e_par, ↓e_par3, ↓e_asg, ↓e_for, ↓e_putAt, ↓e_jput, ↓e_var, ↓e_k, ↓e_fz, ↓e_op, ↓e_opL, ↓e_opR, ↓e_n, ↓e_n1, ↓e_nil, ↓e_cons, ↓e_tup, ↓e_lst, ↓e_b, ↓e_not, ↓e_and, ↓e_or, ↓e_andV, ↓e_orV, ↓e_notV, ↓e_if, ↓e_isi, ↓e_neg, ↓e_chain, ↓e_call, ↓e_callK, ↓e_jint, ↓e_dict0, ↓e_dict1, ↓e_listRng, ↓e_append, ↓e_cut, ↓e_cutO, ↓e_onone, ↓e_osome, ↓e_iseq, ↓e_ienum, ↓e_irng, ↓e_gname, ↓e_lnil, ↓e_lcons, ↓e_lc, ↓e_yes, ↓f_addI, ↓f_addS, ↓f_addT, ↓f_addL, ↓f_i2, ↓f_mulI, ↓f_mulT, ↓f_mulL, ↓f_eq, ↓f_ne, ↓f_is, ↓f_isnot, ↓f_in, ↓f_notin, ↓f_ixL, ↓f_ixT, ↓f_lenL, ↓f_lenT, ↓f_lenS, ↓f_abs, ↓f_intI, ↓f_intB, ↓f_tupL, ↓f_tupT, ↓f_lstL, ↓f_lstT, ↓f_repr, ↓f_cutL, ↓f_cutT, ↓firm_d, ↓firm_ob, ↓zip_l, ↓zip_t, ↓e_izip, ↓zip_cons, ↓zip_nil1, ↓zip_nil2, ↓f_sorted, ↓e_inn, ↓e_inc, ↓e_l2n, ↓e_l2c, ↓e_lc2, ↓e_rev, ↓e_pop, ↓e_popAt, ↓e_extend, ↓e_lc3, ↓e_gon, ↓e_goc, ↓e_dbMid, ↓e_dbIn, ↓f_neu, ↓e_ifT, ↓e_newD, ↓e_retO, ↓e_fixK, ↓e_putO, ↓e_dkO, ↓e_dkF, ↓e_kdO, ↓e_kdF, ↓e_get2O, ↓e_get2F, ↓e_ListD, ↓e_ListF, ↓od_o, ↓dct_d, ↓key_int, ↓key_str, ↓g_item, ↓g_get, ↓g_in, ↓g_notin, ↓h_list, ↓fz_od, ↓ow_ex, ↓e_tr, ↓e_trO, ↓e_trK, ↓tru_b, ↓tru_n, ↓tru_i, ↓tru_l, ↓tru_t, ↓tru_s, ↓e_i63, ↓n63_d, ↓e_ss, ↓e_ssL, ↓e_ssF, ↓e_never, ↓e_kget, ↓str_ex, ↓e_disp, ↓e_vnil, ↓e_vcons, ↓f_equ, ↓dgTup_tup, ↓dgCons_cons, ↓dgNil_nil, ite_t, ite_f, itK_not, List.cons_append, List.nil_append, List.append_nil, List.replicate, List.flatten_cons, List.flatten_nil, List.append_eq, List.length_cons, List.length_nil, Nat.zero_add, Nat.reduceAdd, true_and, and_true, eqOk_str, eqOk_int, eqOk_bool, str_eqv, int_eqv, tup_nil_eqv, lst_nil_eqv, rep_flat, isK_int, isK_bool, isK_tuple, isK_str, kInt, kBool, kTuple, kStr, GB.isNon, Bool.not_true, Bool.not_false, Bool.or_false, Bool.or_true, Bool.false_or, Bool.true_or, reduceCtorEq, d1, d2, d3, eqv_self]
    exact ⟨by decide, by decide, q⟩
  · refine ite_t.mpr ⟨rfl, s_perr.mpr ⟨trivial, rfl, s_pserr ?_⟩⟩
    simp only [↓at0, ↓set0, ↓at1, ↓set1, ↓at2, ↓set2, ↓at3, ↓set3, ↓at4, ↓set4, ↓at5, ↓set5, ↓at6, ↓set6, ↓at7, ↓set7, ↓at8, ↓set8, ↓at9, ↓set9, ↓at10, ↓set10, ↓at11, ↓set11, ↓at12, ↓set12, ↓at13, ↓set13, ↓at14, ↓set14, ↓at15, ↓set15, ↓fz_d, ↓fz_own, ↓fz_ob, ↓one_d, ↓int_d, ↓bool_d, ↓own_o, ↓ds_nil, ↓ds_cons, ↓seq_l, ↓seq_t, ↓ite_t, ↓ite_f, ↓e_next, ↓e_seq, ↓e_set, ↓e_drop, ↓e_ret, ↓e_ifs, ↓e_brk, ↓e_cnt, ↓e_fixs, ↓e_par, ↓e_par3, ↓e_asg, ↓e_for, ↓e_putAt, ↓e_jput, ↓e_var, ↓e_k, ↓e_fz, ↓e_op, ↓e_opL, ↓e_opR, ↓e_n, ↓e_n1, ↓e_nil, ↓e_cons, ↓e_tup, ↓e_lst, ↓e_b, ↓e_not, ↓e_and, ↓e_or, ↓e_andV, ↓e_orV, ↓e_notV, ↓e_if, ↓e_isi, ↓e_neg, ↓e_chain, ↓e_call, ↓e_callK, ↓e_jint, ↓e_dict0, ↓e_dict1, ↓e_listRng, ↓e_append, ↓e_cut, ↓e_cutO, ↓e_onone, ↓e_osome, ↓e_iseq, ↓e_ienum, ↓e_irng, ↓e_gname, ↓e_lnil, ↓e_lcons, ↓e_lc, ↓e_yes, ↓f_addI, ↓f_addS, ↓f_addT, ↓f_addL, ↓f_i2, ↓f_mulI, ↓f_mulT, ↓f_mulL, ↓f_eq, ↓f_ne, ↓f_is, ↓f_isnot, ↓f_in, ↓f_notin, ↓f_ixL, ↓f_ixT, ↓f_lenL, ↓f_lenT, ↓f_lenS, ↓f_abs, ↓f_intI, ↓f_intB, ↓f_tupL, ↓f_tupT, ↓f_lstL, ↓f_lstT, ↓f_repr, ↓f_cutL, ↓f_cutT, ↓firm_d, ↓firm_ob, ↓zip_l, ↓zip_t, ↓e_izip, ↓zip_cons, ↓zip_nil1, ↓zip_nil2, ↓f_sorted, ↓e_inn, ↓e_inc, ↓e_l2n, ↓e_l2c, ↓e_lc2, ↓e_rev, ↓e_pop, ↓e_popAt, ↓e_extend, ↓e_lc3, ↓e_gon, ↓e_goc, ↓e_dbMid, ↓e_dbIn, ↓f_neu, ↓e_ifT, ↓e_newD, ↓e_retO, ↓e_fixK, ↓e_putO, ↓e_dkO, ↓e_dkF, ↓e_kdO, ↓e_kdF, ↓e_get2O, ↓e_get2F, ↓e_ListD, ↓e_ListF, ↓od_o, ↓dct_d, ↓key_int, ↓key_str, ↓g_item, ↓g_get, ↓g_in, ↓g_notin, ↓h_list, ↓fz_od, ↓ow_ex, ↓e_tr, ↓e_trO, ↓e_trK, ↓tru_b, ↓tru_n, ↓tru_i, ↓tru_l, ↓tru_t, ↓tru_s, ↓e_i63, ↓n63_d, ↓e_ss, ↓e_ssL, ↓e_ssF, ↓e_never, ↓e_kget, ↓str_ex, ↓e_disp, ↓e_vnil, ↓e_vcons, ↓f_equ, ↓dgTup_tup, ↓dgCons_cons, ↓dgNil_nil, ite_t, ite_f, itK_not, List.cons_append, List.nil_append, List.append_nil, List.replicate, List.flatten_cons, List.flatten_nil, List.append_eq, List.length_cons, List.length_nil, Nat.zero_add, Nat.reduceAdd, true_and, and_true, eqOk_str, eqOk_int, eqOk_bool, str_eqv, int_eqv, tup_nil_eqv, lst_nil_eqv, rep_flat, isK_int, isK_bool, isK_tuple, isK_str, kInt, kBool, kTuple, kStr, GB.isNon, Bool.not_true, Bool.not_false, Bool.or_false, Bool.or_true, Bool.false_or, Bool.true_or, reduceCtorEq, d1, d2, d3, eqv_self]
    refine ⟨by decide, s_pserr ?_⟩
    simp only [↓at0, ↓set0, ↓at1, ↓set1, ↓at2, ↓set2, ↓at3, ↓set3, ↓at4, ↓set4, ↓at5, ↓set5, ↓at6, ↓set6, ↓at7, ↓set7, ↓at8, ↓set8, ↓at9, ↓set9, ↓at10, ↓set10, ↓at11, ↓set11, ↓at12, ↓set12, ↓at13, ↓set13, ↓at14, ↓set14, ↓at15, ↓set15, ↓fz_d, ↓fz_own, ↓fz_ob, ↓one_d, ↓int_d, ↓bool_d, ↓own_o, ↓ds_nil, ↓ds_cons, ↓seq_l, ↓seq_t, ↓ite_t, ↓ite_f, ↓e_next, ↓e_seq, ↓e_set, ↓e_drop, ↓e_ret, ↓e_ifs, ↓e_brk, ↓e_cnt, ↓e_fixs, ↓e_par, ↓e_par3, ↓e_asg, ↓e_for, ↓e_putAt, ↓e_jput, ↓e_var, ↓e_k, ↓e_fz, ↓e_op, ↓e_opL, ↓e_opR, ↓e_n, ↓e_n1, ↓e_nil, ↓e_cons, ↓e_tup, ↓e_lst, ↓e_b, ↓e_not, ↓e_and, ↓e_or, ↓e_andV, ↓e_orV, ↓e_notV, ↓e_if, ↓e_isi, ↓e_neg, ↓e_chain, ↓e_call, ↓e_callK, ↓e_jint, ↓e_dict0, ↓e_dict1, ↓e_listRng, ↓e_append, ↓e_cut, ↓e_cutO, ↓e_onone, ↓e_osome, ↓e_iseq, ↓e_ienum, ↓e_irng, ↓e_gname, ↓e_lnil, ↓e_lcons, ↓e_lc, ↓e_yes, ↓f_addI, ↓f_addS, ↓f_addT, ↓f_addL, ↓f_i2, ↓f_mulI, ↓f_mulT, ↓f_mulL, ↓f_eq, ↓f_ne, ↓f_is, ↓f_isnot, ↓f_in, ↓f_notin, ↓f_ixL, ↓f_ixT, ↓f_lenL, ↓f_lenT, ↓f_lenS, ↓f_abs, ↓f_intI, ↓f_intB, ↓f_tupL, ↓f_tupT, ↓f_lstL, ↓f_lstT, ↓f_repr, ↓f_cutL, ↓f_cutT, ↓firm_d, ↓firm_ob, ↓zip_l, ↓zip_t, ↓e_izip, ↓zip_cons, ↓zip_nil1, ↓zip_nil2, ↓f_sorted, ↓e_inn, ↓e_inc, ↓e_l2n, ↓e_l2c, ↓e_lc2, ↓e_rev, ↓e_pop, ↓e_popAt, ↓e_extend, ↓e_lc3, ↓e_gon, ↓e_goc, ↓e_dbMid, ↓e_dbIn, ↓f_neu, ↓e_ifT, ↓e_newD, ↓e_retO, ↓e_fixK, ↓e_putO, ↓e_dkO, ↓e_dkF, ↓e_kdO, ↓e_kdF, ↓e_get2O, ↓e_get2F, ↓e_ListD, ↓e_ListF, ↓od_o, ↓dct_d, ↓key_int, ↓key_str, ↓g_item, ↓g_get, ↓g_in, ↓g_notin, ↓h_list, ↓fz_od, ↓ow_ex, ↓e_tr, ↓e_trO, ↓e_trK, ↓tru_b, ↓tru_n, ↓tru_i, ↓tru_l, ↓tru_t, ↓tru_s, ↓e_i63, ↓n63_d, ↓e_ss, ↓e_ssL, ↓e_ssF, ↓e_never, ↓e_kget, ↓str_ex, ↓e_disp, ↓e_vnil, ↓e_vcons, ↓f_equ, ↓dgTup_tup, ↓dgCons_cons, ↓dgNil_nil, ite_t, ite_f, itK_not, List.cons_append, List.nil_append, List.append_nil, List.replicate, List.flatten_cons, List.flatten_nil, List.append_eq, List.length_cons, List.length_nil, Nat.zero_add, Nat.reduceAdd, true_and, and_true, eqOk_str, eqOk_int, eqOk_bool, str_eqv, int_eqv, tup_nil_eqv, lst_nil_eqv, rep_flat, isK_int, isK_bool, isK_tuple, isK_str, kInt, kBool, kTuple, kStr, GB.isNon, Bool.not_true, Bool.not_false, Bool.or_false, Bool.or_true, Bool.false_or, Bool.true_or, reduceCtorEq, d1, d2, d3, eqv_self]
    exact ⟨by decide, by decide, q⟩
end GK

set_option maxRecDepth 100000
namespace GK
open PySem PySem.Spec PyProof.Rows L2 GB
theorem big62 {n : Nat} (h : n ≤ 100) : (n : Int) < 2 ^ 62 := Int.lt_of_le_of_lt (show (n : Int) ≤ 100 by omega) (by decide)
theorem low62 {n : Nat} : (-2 ^ 62 : Int) < (n : Int) := Int.lt_of_lt_of_le (by decide : (-2 ^ 62 : Int) < 0) (by omega)
theorem cells_irow (n : Nat) : Cells n (irow 0 n) := fun x hx => irow_in hx
theorem fld_mono {n m : Nat} (h : n ≤ m) {x : PyData} (q : Fld n x) : Fld m x := q.imp id fun ⟨i, e, hi⟩ => ⟨i, e, by omega⟩
theorem row_mono {n m k : Nat} (h : n ≤ m) {x : PyData} (q : Row n k x) : Row m k x := let ⟨xs, e, h1, h2⟩ := q; ⟨xs, e, h1, fun y hy => fld_mono h (h2 y hy)⟩
theorem tup_row {n k : Nat} {rows : List PyData} (h : ∀ x ∈ rows, Row n k x) : rows.map (fun r => PyData.tuple (rowL r)) = rows := by
  have : rows.map (fun r => PyData.tuple (rowL r)) = rows.map id := List.map_congr_left fun r hr => by
    obtain ⟨xs, rfl, _⟩ := h r hr
    rfl
  rw [this, List.map_id]
theorem ma_l_begin : ∀ ss R, ss.length = 4 → F_l_begin ss R → rd_l_begin { nx := fun _ => R (.d .none), rt := R } (ss ++ List.replicate 2 .un) := by
  rintro _ R - ⟨n, k, m, rfl, hn, hk, hm, q0⟩
  have q : ∀ cs rm lk, cs.length = n + m → StOk cs → RmOk (n + m) rm lk → rm.length = k → R (.d (stD cs rm lk)) := q0
  unfold rd_l_begin
  simp only [↓at0, ↓set0, ↓at1, ↓set1, ↓at2, ↓set2, ↓at3, ↓set3, ↓at4, ↓set4, ↓at5, ↓set5, ↓at6, ↓set6, ↓at7, ↓set7, ↓at8, ↓set8, ↓at9, ↓set9, ↓at10, ↓set10, ↓at11, ↓set11, ↓at12, ↓set12, ↓at13, ↓set13, ↓at14, ↓set14, ↓at15, ↓set15, ↓fz_d, ↓fz_own, ↓fz_ob, ↓one_d, ↓int_d, ↓bool_d, ↓own_o, ↓ds_nil, ↓ds_cons, ↓seq_l, ↓seq_t, ↓ite_t, ↓ite_f, ↓e_next, ↓e_seq, ↓e_set, ↓e_drop, ↓e_ret, ↓e_ifs, ↓e_brk, ↓e_cnt, ↓e_fixs, ↓e_par, ↓e_par3, ↓e_asg, ↓e_for, ↓e_putAt, ↓e_jput, ↓e_var, ↓e_k, ↓e_fz, ↓e_op, ↓e_opL, ↓e_opR, ↓e_n, ↓e_n1, ↓e_nil, ↓e_cons, ↓e_tup, ↓e_lst, ↓e_b, ↓e_not, ↓e_and, ↓e_or, ↓e_andV, ↓e_orV, ↓e_notV, ↓e_if, ↓e_isi, ↓e_neg, ↓e_chain, ↓e_call, ↓e_callK, ↓e_jint, ↓e_dict0, ↓e_dict1, ↓e_listRng, ↓e_append, ↓e_cut, ↓e_cutO, ↓e_onone, ↓e_osome, ↓e_iseq, ↓e_ienum, ↓e_irng, ↓e_gname, ↓e_lnil, ↓e_lcons, ↓e_lc, ↓e_yes, ↓f_addI, ↓f_addS, ↓f_addT, ↓f_addL, ↓f_i2, ↓f_mulI, ↓f_mulT, ↓f_mulL, ↓f_eq, ↓f_ne, ↓f_is, ↓f_isnot, ↓f_in, ↓f_notin, ↓f_ixL, ↓f_ixT, ↓f_lenL, ↓f_lenT, ↓f_lenS, ↓f_abs, ↓f_intI, ↓f_intB, ↓f_tupL, ↓f_tupT, ↓f_lstL, ↓f_lstT, ↓f_repr, ↓f_cutL, ↓f_cutT, ↓firm_d, ↓firm_ob, ↓zip_l, ↓zip_t, ↓e_izip, ↓zip_cons, ↓zip_nil1, ↓zip_nil2, ↓f_sorted, ↓e_inn, ↓e_inc, ↓e_l2n, ↓e_l2c, ↓e_lc2, ↓e_rev, ↓e_pop, ↓e_popAt, ↓e_extend, ↓e_lc3, ↓e_gon, ↓e_goc, ↓e_dbMid, ↓e_dbIn, ↓f_neu, ↓e_ifT, ↓e_newD, ↓e_retO, ↓e_fixK, ↓e_putO, ↓e_dkO, ↓e_dkF, ↓e_kdO, ↓e_kdF, ↓e_get2O, ↓e_get2F, ↓e_ListD, ↓e_ListF, ↓od_o, ↓dct_d, ↓key_int, ↓key_str, ↓g_item, ↓g_get, ↓g_in, ↓g_notin, ↓h_list, ↓fz_od, ↓ow_ex, ↓e_tr, ↓e_trO, ↓e_trK, ↓tru_b, ↓tru_n, ↓tru_i, ↓tru_l, ↓tru_t, ↓tru_s, ↓e_i63, ↓n63_d, ↓e_ss, ↓e_ssL, ↓e_ssF, ↓e_never, ↓e_kget, ↓str_ex, ↓e_disp, ↓e_vnil, ↓e_vcons, ↓f_equ, ↓dgTup_tup, ↓dgCons_cons, ↓dgNil_nil, ite_t, ite_f, itK_not, List.cons_append, List.nil_append, List.append_nil, List.replicate, List.flatten_cons, List.flatten_nil, List.append_eq, List.length_cons, List.length_nil, Nat.zero_add, Nat.reduceAdd, true_and, and_true, eqOk_str, eqOk_int, eqOk_bool, str_eqv, int_eqv, tup_nil_eqv, lst_nil_eqv, rep_flat, isK_int, isK_bool, isK_tuple, isK_str, kInt, kBool, kTuple, kStr, GB.isNon, Bool.not_true, Bool.not_false, Bool.or_false, Bool.or_true, Bool.false_or, Bool.true_or, reduceCtorEq, ]
  refine ⟨by omega, by omega, s_heap (by omega) (by rw [irow_len]; omega) (by rw [Int.toNat_natCast]; exact cells_irow n) fun rows r1 r2 => ?_⟩
  simp only [↓at0, ↓set0, ↓at1, ↓set1, ↓at2, ↓set2, ↓at3, ↓set3, ↓at4, ↓set4, ↓at5, ↓set5, ↓at6, ↓set6, ↓at7, ↓set7, ↓at8, ↓set8, ↓at9, ↓set9, ↓at10, ↓set10, ↓at11, ↓set11, ↓at12, ↓set12, ↓at13, ↓set13, ↓at14, ↓set14, ↓at15, ↓set15, ↓fz_d, ↓fz_own, ↓fz_ob, ↓one_d, ↓int_d, ↓bool_d, ↓own_o, ↓ds_nil, ↓ds_cons, ↓seq_l, ↓seq_t, ↓ite_t, ↓ite_f, ↓e_next, ↓e_seq, ↓e_set, ↓e_drop, ↓e_ret, ↓e_ifs, ↓e_brk, ↓e_cnt, ↓e_fixs, ↓e_par, ↓e_par3, ↓e_asg, ↓e_for, ↓e_putAt, ↓e_jput, ↓e_var, ↓e_k, ↓e_fz, ↓e_op, ↓e_opL, ↓e_opR, ↓e_n, ↓e_n1, ↓e_nil, ↓e_cons, ↓e_tup, ↓e_lst, ↓e_b, ↓e_not, ↓e_and, ↓e_or, ↓e_andV, ↓e_orV, ↓e_notV, ↓e_if, ↓e_isi, ↓e_neg, ↓e_chain, ↓e_call, ↓e_callK, ↓e_jint, ↓e_dict0, ↓e_dict1, ↓e_listRng, ↓e_append, ↓e_cut, ↓e_cutO, ↓e_onone, ↓e_osome, ↓e_iseq, ↓e_ienum, ↓e_irng, ↓e_gname, ↓e_lnil, ↓e_lcons, ↓e_lc, ↓e_yes, ↓f_addI, ↓f_addS, ↓f_addT, ↓f_addL, ↓f_i2, ↓f_mulI, ↓f_mulT, ↓f_mulL, ↓f_eq, ↓f_ne, ↓f_is, ↓f_isnot, ↓f_in, ↓f_notin, ↓f_ixL, ↓f_ixT, ↓f_lenL, ↓f_lenT, ↓f_lenS, ↓f_abs, ↓f_intI, ↓f_intB, ↓f_tupL, ↓f_tupT, ↓f_lstL, ↓f_lstT, ↓f_repr, ↓f_cutL, ↓f_cutT, ↓firm_d, ↓firm_ob, ↓zip_l, ↓zip_t, ↓e_izip, ↓zip_cons, ↓zip_nil1, ↓zip_nil2, ↓f_sorted, ↓e_inn, ↓e_inc, ↓e_l2n, ↓e_l2c, ↓e_lc2, ↓e_rev, ↓e_pop, ↓e_popAt, ↓e_extend, ↓e_lc3, ↓e_gon, ↓e_goc, ↓e_dbMid, ↓e_dbIn, ↓f_neu, ↓e_ifT, ↓e_newD, ↓e_retO, ↓e_fixK, ↓e_putO, ↓e_dkO, ↓e_dkF, ↓e_kdO, ↓e_kdF, ↓e_get2O, ↓e_get2F, ↓e_ListD, ↓e_ListF, ↓od_o, ↓dct_d, ↓key_int, ↓key_str, ↓g_item, ↓g_get, ↓g_in, ↓g_notin, ↓h_list, ↓fz_od, ↓ow_ex, ↓e_tr, ↓e_trO, ↓e_trK, ↓tru_b, ↓tru_n, ↓tru_i, ↓tru_l, ↓tru_t, ↓tru_s, ↓e_i63, ↓n63_d, ↓e_ss, ↓e_ssL, ↓e_ssF, ↓e_never, ↓e_kget, ↓str_ex, ↓e_disp, ↓e_vnil, ↓e_vcons, ↓f_equ, ↓dgTup_tup, ↓dgCons_cons, ↓dgNil_nil, ite_t, ite_f, itK_not, List.cons_append, List.nil_append, List.append_nil, List.replicate, List.flatten_cons, List.flatten_nil, List.append_eq, List.length_cons, List.length_nil, Nat.zero_add, Nat.reduceAdd, true_and, and_true, eqOk_str, eqOk_int, eqOk_bool, str_eqv, int_eqv, tup_nil_eqv, lst_nil_eqv, rep_flat, isK_int, isK_bool, isK_tuple, isK_str, kInt, kBool, kTuple, kStr, GB.isNon, Bool.not_true, Bool.not_false, Bool.or_false, Bool.or_true, Bool.false_or, Bool.true_or, reduceCtorEq, ]
  refine ⟨by decide, low62, big62 (by omega), line_ge (by omega), by decide, low62, big62 (by omega), line_ge (by omega), line_ge (by rw [List.length_replicate, List.length_replicate]; omega), by decide, by decide, low62, big62 (by omega), line_ge (by omega), line_ge (by rw [List.length_replicate]; omega), by omega, by omega, ?_⟩
  refine s_rooms (by omega) (by rw [irow_len]; omega) (by rw [Int.toNat_natCast]; exact cells_irow n) fun rm m1 m2 => ?_
  simp only [↓at0, ↓set0, ↓at1, ↓set1, ↓at2, ↓set2, ↓at3, ↓set3, ↓at4, ↓set4, ↓at5, ↓set5, ↓at6, ↓set6, ↓at7, ↓set7, ↓at8, ↓set8, ↓at9, ↓set9, ↓at10, ↓set10, ↓at11, ↓set11, ↓at12, ↓set12, ↓at13, ↓set13, ↓at14, ↓set14, ↓at15, ↓set15, ↓fz_d, ↓fz_own, ↓fz_ob, ↓one_d, ↓int_d, ↓bool_d, ↓own_o, ↓ds_nil, ↓ds_cons, ↓seq_l, ↓seq_t, ↓ite_t, ↓ite_f, ↓e_next, ↓e_seq, ↓e_set, ↓e_drop, ↓e_ret, ↓e_ifs, ↓e_brk, ↓e_cnt, ↓e_fixs, ↓e_par, ↓e_par3, ↓e_asg, ↓e_for, ↓e_putAt, ↓e_jput, ↓e_var, ↓e_k, ↓e_fz, ↓e_op, ↓e_opL, ↓e_opR, ↓e_n, ↓e_n1, ↓e_nil, ↓e_cons, ↓e_tup, ↓e_lst, ↓e_b, ↓e_not, ↓e_and, ↓e_or, ↓e_andV, ↓e_orV, ↓e_notV, ↓e_if, ↓e_isi, ↓e_neg, ↓e_chain, ↓e_call, ↓e_callK, ↓e_jint, ↓e_dict0, ↓e_dict1, ↓e_listRng, ↓e_append, ↓e_cut, ↓e_cutO, ↓e_onone, ↓e_osome, ↓e_iseq, ↓e_ienum, ↓e_irng, ↓e_gname, ↓e_lnil, ↓e_lcons, ↓e_lc, ↓e_yes, ↓f_addI, ↓f_addS, ↓f_addT, ↓f_addL, ↓f_i2, ↓f_mulI, ↓f_mulT, ↓f_mulL, ↓f_eq, ↓f_ne, ↓f_is, ↓f_isnot, ↓f_in, ↓f_notin, ↓f_ixL, ↓f_ixT, ↓f_lenL, ↓f_lenT, ↓f_lenS, ↓f_abs, ↓f_intI, ↓f_intB, ↓f_tupL, ↓f_tupT, ↓f_lstL, ↓f_lstT, ↓f_repr, ↓f_cutL, ↓f_cutT, ↓firm_d, ↓firm_ob, ↓zip_l, ↓zip_t, ↓e_izip, ↓zip_cons, ↓zip_nil1, ↓zip_nil2, ↓f_sorted, ↓e_inn, ↓e_inc, ↓e_l2n, ↓e_l2c, ↓e_lc2, ↓e_rev, ↓e_pop, ↓e_popAt, ↓e_extend, ↓e_lc3, ↓e_gon, ↓e_goc, ↓e_dbMid, ↓e_dbIn, ↓f_neu, ↓e_ifT, ↓e_newD, ↓e_retO, ↓e_fixK, ↓e_putO, ↓e_dkO, ↓e_dkF, ↓e_kdO, ↓e_kdF, ↓e_get2O, ↓e_get2F, ↓e_ListD, ↓e_ListF, ↓od_o, ↓dct_d, ↓key_int, ↓key_str, ↓g_item, ↓g_get, ↓g_in, ↓g_notin, ↓h_list, ↓fz_od, ↓ow_ex, ↓e_tr, ↓e_trO, ↓e_trK, ↓tru_b, ↓tru_n, ↓tru_i, ↓tru_l, ↓tru_t, ↓tru_s, ↓e_i63, ↓n63_d, ↓e_ss, ↓e_ssL, ↓e_ssF, ↓e_never, ↓e_kget, ↓str_ex, ↓e_disp, ↓e_vnil, ↓e_vcons, ↓f_equ, ↓dgTup_tup, ↓dgCons_cons, ↓dgNil_nil, ite_t, ite_f, itK_not, List.cons_append, List.nil_append, List.append_nil, List.replicate, List.flatten_cons, List.flatten_nil, List.append_eq, List.length_cons, List.length_nil, Nat.zero_add, Nat.reduceAdd, true_and, and_true, eqOk_str, eqOk_int, eqOk_bool, str_eqv, int_eqv, tup_nil_eqv, lst_nil_eqv, rep_flat, isK_int, isK_bool, isK_tuple, isK_str, kInt, kBool, kTuple, kStr, GB.isNon, Bool.not_true, Bool.not_false, Bool.or_false, Bool.or_true, Bool.false_or, Bool.true_or, reduceCtorEq, ]
  refine ⟨by decide, low62, big62 (by omega), line_ge (by omega), by decide, ?_⟩
  simp only [Int.toNat_natCast]
  have key := q (rows.map (fun r => (rowL r, PyData.str "white")) ++ List.replicate m ([], PyData.str "free")) rm (List.replicate k (.bool false)) (by simp [r1]) ⟨by simp [r1]; omega, fun c hc => ?_⟩ ⟨by omega, by simp [m1], fun x hx => row_mono (by omega) (m2 x hx), fun x hx => ⟨_, (List.mem_replicate.mp hx).2⟩⟩
  · unfold stD at key
    rw [List.map_append, List.map_map, List.map_replicate, List.map_append, List.map_map, List.map_replicate] at key
    have e1 : rows.map ((fun c : List PyData × PyData => PyData.tuple c.1) ∘ fun r => (rowL r, PyData.str "white")) = rows := tup_row r2
    have e2 : rows.map ((fun c : List PyData × PyData => c.2) ∘ fun r => (rowL r, PyData.str "white")) = List.replicate n (.str "white") := by
      rw [List.eq_replicate_iff]
      exact ⟨by simp [r1], fun b hb => by obtain ⟨_, _, rfl⟩ := List.mem_map.mp hb; rfl⟩
    rw [e1, e2] at key
    exact key m1
  · have hlen : (rows.map (fun r => (rowL r, PyData.str "white")) ++ List.replicate m ([], PyData.str "free")).length = n + m := by simp [r1]
    rw [hlen]
    rcases List.mem_append.mp hc with hc | hc
    · obtain ⟨r, hr, rfl⟩ := List.mem_map.mp hc
      obtain ⟨xs, rfl, x1, x2⟩ := r2 r hr
      exact ⟨x1, fun y hy => fld_mono (by omega) (x2 y hy), .inl rfl⟩
    · have hc := (List.mem_replicate.mp hc).2
      subst hc
      exact ⟨Nat.zero_le _, (fun y hy => nomatch hy), .inr (.inr (.inl ⟨rfl, rfl⟩))⟩
theorem s_begin {k : S → Prop} {n j m : Nat} (hn : n ≤ 30) (hj : j ≤ 30) (hm : m ≤ 30) (h : ∀ cs rm lk, cs.length = n + m → StOk cs → RmOk (n + m) rm lk → rm.length = j → k (.d (stD cs rm lk))) : F_l_begin [.ob .jar, .d (.int n), .d (.int j), .d (.int m)] k := ⟨n, j, m, rfl, hn, hj, hm, h⟩
theorem vz_len {D W : Nat} {xs : List PyData} (h : Vz D W (.tuple xs)) : xs.length ≤ W := by
  have : ∀ xs : List PyData, xs.length ≤ PyData.bulkAll xs := by
    intro xs
    induction xs with
    | nil => simp [PyData.bulkAll]
    | cons x xs ih => simp only [PyData.bulkAll, List.length_cons]; omega
  exact Nat.le_trans (this xs) h.bk
/-! sizes of rows -/
theorem bulk_sum : ∀ xs : List PyData, PyData.bulkAll xs = (xs.map fun x => x.bulk + 1).sum
  | [] => rfl
  | x :: xs => by simp only [PyData.bulkAll, List.map_cons, List.sum_cons, bulk_sum xs]
theorem show_all : ∀ xs : List PyData, PyData.showableAll xs = true ↔ ∀ x ∈ xs, x.showable = true
  | [] => by simp [PyData.showableAll]
  | x :: xs => by simp [PyData.showableAll, show_all xs]
theorem short_all : ∀ xs : List PyData, PyData.leavesShortAll 60 xs = true ↔ ∀ x ∈ xs, x.leavesShort 60 = true
  | [] => by simp [PyData.leavesShortAll]
  | x :: xs => by simp [PyData.leavesShortAll, short_all xs]
theorem dep_all : ∀ (xs : List PyData) (D : Nat), PyData.depthAll xs ≤ D ↔ ∀ x ∈ xs, x.depth ≤ D
  | [], D => by simp [PyData.depthAll]
  | x :: xs, D => by
    have := dep_all xs D
    simp only [PyData.depthAll, List.mem_cons, forall_eq_or_imp, ← this]
    omega
theorem vz_t {D W : Nat} {xs : List PyData} : Vz (D + 1) W (.tuple xs) ↔ (∀ x ∈ xs, x.showable = true ∧ x.leavesShort 60 = true ∧ x.depth ≤ D) ∧ (xs.map fun x => x.bulk + 1).sum ≤ W := by
  constructor
  · intro ⟨h1, h2, h3, h4⟩
    have h3 : PyData.depthAll xs ≤ D := by simp only [PyData.depth] at h3; omega
    exact ⟨fun x hx => ⟨(show_all xs).mp h1 x hx, (short_all xs).mp h2 x hx, (dep_all xs D).mp h3 x hx⟩, by rw [← bulk_sum]; exact h4⟩
  · intro ⟨h1, h2⟩
    refine ⟨(show_all xs).mpr fun x hx => (h1 x hx).1, (short_all xs).mpr fun x hx => (h1 x hx).2.1, ?_, by rw [← bulk_sum] at h2; exact h2⟩
    have := (dep_all xs D).mpr fun x hx => (h1 x hx).2.2
    simp only [PyData.depth]; omega
theorem vz_l {D W : Nat} {xs : List PyData} (h : Vz D W (.tuple xs)) : Vz D W (.list xs) := ⟨h.sh, h.ls, h.dp, h.bk⟩
theorem sum_sub {f : PyData → Nat} : ∀ {xs ys : List PyData}, List.Sublist xs ys → (xs.map f).sum ≤ (ys.map f).sum := by
  intro xs ys h
  induction h with
  | slnil => simp
  | cons a _ ih => simp only [List.map_cons, List.sum_cons]; omega
  | cons_cons a _ ih => simp only [List.map_cons, List.sum_cons]; omega
theorem vz_sub {D W : Nat} {xs ys : List PyData} (h : Vz (D + 1) W (.tuple ys)) (s : List.Sublist xs ys) : Vz (D + 1) W (.tuple xs) := by
  obtain ⟨a, b⟩ := vz_t.mp h
  exact vz_t.mpr ⟨fun x hx => a x (s.subset hx), Nat.le_trans (sum_sub s) b⟩
theorem cut_sub {xs : List PyData} {lo hi : Option Int} : List.Sublist (GB.cutD xs lo hi) xs := (List.take_sublist _ _).trans (List.drop_sublist _ _)
theorem vz_app {D W W' : Nat} {xs ys : List PyData} (h : Vz (D + 1) W (.tuple xs)) (k : Vz (D + 1) W' (.tuple ys)) : Vz (D + 1) (W + W') (.tuple (xs ++ ys)) := by
  obtain ⟨a, b⟩ := vz_t.mp h
  obtain ⟨c, d⟩ := vz_t.mp k
  refine vz_t.mpr ⟨fun x hx => (List.mem_append.mp hx).elim (a x) (c x), ?_⟩
  rw [List.map_append, List.sum_append]; omega
theorem vz_one {D W : Nat} {x : PyData} (h : Vz D W x) : Vz (D + 1) (W + 1) (.tuple [x]) := vz_t.mpr ⟨fun y hy => by rw [List.mem_singleton.mp hy]; exact ⟨h.sh, h.ls, h.dp⟩, by have := h.bk; simp; omega⟩
theorem vz_cons {D W W' : Nat} {x : PyData} {xs : List PyData} (h : Vz D W x) (k : Vz (D + 1) W' (.tuple xs)) : Vz (D + 1) (W + 1 + W') (.tuple (x :: xs)) := vz_app (vz_one h) k
theorem vz_el {D W : Nat} {x : PyData} {xs : List PyData} (h : Vz (D + 1) W (.tuple xs)) (hx : x ∈ xs) : Vz D W x := by
  obtain ⟨a, b⟩ := vz_t.mp h
  obtain ⟨c, d, e⟩ := a x hx
  refine ⟨c, d, e, ?_⟩
  have := sum_sub (f := fun x => x.bulk + 1) (List.singleton_sublist.mpr hx)
  simp at this; omega
theorem vz_rev {D W : Nat} {xs : List PyData} (h : Vz (D + 1) W (.tuple xs)) : Vz (D + 1) W (.tuple xs.reverse) := by
  obtain ⟨a, b⟩ := vz_t.mp h
  exact vz_t.mpr ⟨fun x hx => a x (List.mem_reverse.mp hx), by rw [List.map_reverse, List.sum_reverse]; exact b⟩
theorem ma_l_odd : ∀ ss R, ss.length = 1 → F_l_odd ss R → rd_l_odd { nx := fun _ => R (.d .none), rt := R } (ss ++ List.replicate 1 .un) := by
  rintro _ R - ⟨rfl, q⟩
  unfold rd_l_odd
  simp only [↓at0, ↓set0, ↓at1, ↓set1, ↓at2, ↓set2, ↓at3, ↓set3, ↓at4, ↓set4, ↓at5, ↓set5, ↓at6, ↓set6, ↓at7, ↓set7, ↓at8, ↓set8, ↓at9, ↓set9, ↓at10, ↓set10, ↓at11, ↓set11, ↓at12, ↓set12, ↓at13, ↓set13, ↓at14, ↓set14, ↓at15, ↓set15, ↓fz_d, ↓fz_own, ↓fz_ob, ↓one_d, ↓int_d, ↓bool_d, ↓own_o, ↓ds_nil, ↓ds_cons, ↓seq_l, ↓seq_t, ↓ite_t, ↓ite_f, ↓e_next, ↓e_seq, ↓e_set, ↓e_drop, ↓e_ret, ↓e_ifs, ↓e_brk, ↓e_cnt, ↓e_fixs, ↓e_par, ↓e_par3, ↓e_asg, ↓e_for, ↓e_putAt, ↓e_jput, ↓e_var, ↓e_k, ↓e_fz, ↓e_op, ↓e_opL, ↓e_opR, ↓e_n, ↓e_n1, ↓e_nil, ↓e_cons, ↓e_tup, ↓e_lst, ↓e_b, ↓e_not, ↓e_and, ↓e_or, ↓e_andV, ↓e_orV, ↓e_notV, ↓e_if, ↓e_isi, ↓e_neg, ↓e_chain, ↓e_call, ↓e_callK, ↓e_jint, ↓e_dict0, ↓e_dict1, ↓e_listRng, ↓e_append, ↓e_cut, ↓e_cutO, ↓e_onone, ↓e_osome, ↓e_iseq, ↓e_ienum, ↓e_irng, ↓e_gname, ↓e_lnil, ↓e_lcons, ↓e_lc, ↓e_yes, ↓f_addI, ↓f_addS, ↓f_addT, ↓f_addL, ↓f_i2, ↓f_mulI, ↓f_mulT, ↓f_mulL, ↓f_eq, ↓f_ne, ↓f_is, ↓f_isnot, ↓f_in, ↓f_notin, ↓f_ixL, ↓f_ixT, ↓f_lenL, ↓f_lenT, ↓f_lenS, ↓f_abs, ↓f_intI, ↓f_intB, ↓f_tupL, ↓f_tupT, ↓f_lstL, ↓f_lstT, ↓f_repr, ↓f_cutL, ↓f_cutT, ↓firm_d, ↓firm_ob, ↓zip_l, ↓zip_t, ↓e_izip, ↓zip_cons, ↓zip_nil1, ↓zip_nil2, ↓f_sorted, ↓e_inn, ↓e_inc, ↓e_l2n, ↓e_l2c, ↓e_lc2, ↓e_rev, ↓e_pop, ↓e_popAt, ↓e_extend, ↓e_lc3, ↓e_gon, ↓e_goc, ↓e_dbMid, ↓e_dbIn, ↓f_neu, ↓e_ifT, ↓e_newD, ↓e_retO, ↓e_fixK, ↓e_putO, ↓e_dkO, ↓e_dkF, ↓e_kdO, ↓e_kdF, ↓e_get2O, ↓e_get2F, ↓e_ListD, ↓e_ListF, ↓od_o, ↓dct_d, ↓key_int, ↓key_str, ↓g_item, ↓g_get, ↓g_in, ↓g_notin, ↓h_list, ↓fz_od, ↓ow_ex, ↓e_tr, ↓e_trO, ↓e_trK, ↓tru_b, ↓tru_n, ↓tru_i, ↓tru_l, ↓tru_t, ↓tru_s, ↓e_i63, ↓n63_d, ↓e_ss, ↓e_ssL, ↓e_ssF, ↓e_never, ↓e_kget, ↓str_ex, ↓e_disp, ↓e_vnil, ↓e_vcons, ↓f_equ, ↓dgTup_tup, ↓dgCons_cons, ↓dgNil_nil, ite_t, ite_f, itK_not, List.cons_append, List.nil_append, List.append_nil, List.replicate, List.flatten_cons, List.flatten_nil, List.append_eq, List.length_cons, List.length_nil, Nat.zero_add, Nat.reduceAdd, true_and, and_true, eqOk_str, eqOk_int, eqOk_bool, str_eqv, int_eqv, tup_nil_eqv, lst_nil_eqv, rep_flat, isK_int, isK_bool, isK_tuple, isK_str, kInt, kBool, kTuple, kStr, GB.isNon, Bool.not_true, Bool.not_false, Bool.or_false, Bool.or_true, Bool.false_or, Bool.true_or, reduceCtorEq, ↓s_pick]
  refine ⟨by unfold CPow; decide, by decide, by decide, by decide, by decide, by decide, by decide, by decide, by decide, by decide, List.cons_ne_nil _ _, by decide, fun x hx => q x ?_⟩
  have all : ([PyData.none, PyData.bool true, PyData.bool false, PyData.int 0, PyData.int (-1), PyData.int (10 ^ Int.toNat 40), PyData.str "", PyData.str "0", PyData.str "a", PyData.tuple [], PyData.list [], PyData.dict [], PyData.tuple [PyData.int 0], PyData.list [PyData.int 0], PyData.tuple [PyData.tuple [PyData.int 0]], PyData.str "none", PyData.dict [(PyData.str "a", PyData.int 1)], PyData.tuple [PyData.tuple []]] : List PyData).all (vyB 3 10) = true := by decide +kernel
  exact vz_of (List.all_eq_true.mp all x hx)
theorem s_odd {k : S → Prop} (h : ∀ x, Vz 3 10 x → k (.d x)) : F_l_odd [.ob .jar] k := ⟨rfl, h⟩
theorem ma_l_bent_line : ∀ ss R, ss.length = 2 → F_l_bent_line ss R → rd_l_bent_line { nx := fun _ => R (.d .none), rt := R } (ss ++ List.replicate 3 .un) := by
  rintro _ R - ⟨x, D, W, rfl, v, hD1, hD, hW, q⟩
  have odd : F_l_odd [.ob .jar] R := s_odd fun y hy => q y (hy.mono (by omega) (by omega))
  unfold rd_l_bent_line
  simp only [↓at0, ↓set0, ↓at1, ↓set1, ↓at2, ↓set2, ↓at3, ↓set3, ↓at4, ↓set4, ↓at5, ↓set5, ↓at6, ↓set6, ↓at7, ↓set7, ↓at8, ↓set8, ↓at9, ↓set9, ↓at10, ↓set10, ↓at11, ↓set11, ↓at12, ↓set12, ↓at13, ↓set13, ↓at14, ↓set14, ↓at15, ↓set15, ↓fz_d, ↓fz_own, ↓fz_ob, ↓one_d, ↓int_d, ↓bool_d, ↓own_o, ↓ds_nil, ↓ds_cons, ↓seq_l, ↓seq_t, ↓ite_t, ↓ite_f, ↓e_next, ↓e_seq, ↓e_set, ↓e_drop, ↓e_ret, ↓e_ifs, ↓e_brk, ↓e_cnt, ↓e_fixs, ↓e_par, ↓e_par3, ↓e_asg, ↓e_for, ↓e_putAt, ↓e_jput, ↓e_var, ↓e_k, ↓e_fz, ↓e_op, ↓e_opL, ↓e_opR, ↓e_n, ↓e_n1, ↓e_nil, ↓e_cons, ↓e_tup, ↓e_lst, ↓e_b, ↓e_not, ↓e_and, ↓e_or, ↓e_andV, ↓e_orV, ↓e_notV, ↓e_if, ↓e_isi, ↓e_neg, ↓e_chain, ↓e_call, ↓e_callK, ↓e_jint, ↓e_dict0, ↓e_dict1, ↓e_listRng, ↓e_append, ↓e_cut, ↓e_cutO, ↓e_onone, ↓e_osome, ↓e_iseq, ↓e_ienum, ↓e_irng, ↓e_gname, ↓e_lnil, ↓e_lcons, ↓e_lc, ↓e_yes, ↓f_addI, ↓f_addS, ↓f_addT, ↓f_addL, ↓f_i2, ↓f_mulI, ↓f_mulT, ↓f_mulL, ↓f_eq, ↓f_ne, ↓f_is, ↓f_isnot, ↓f_in, ↓f_notin, ↓f_ixL, ↓f_ixT, ↓f_lenL, ↓f_lenT, ↓f_lenS, ↓f_abs, ↓f_intI, ↓f_intB, ↓f_tupL, ↓f_tupT, ↓f_lstL, ↓f_lstT, ↓f_repr, ↓f_cutL, ↓f_cutT, ↓firm_d, ↓firm_ob, ↓zip_l, ↓zip_t, ↓e_izip, ↓zip_cons, ↓zip_nil1, ↓zip_nil2, ↓f_sorted, ↓e_inn, ↓e_inc, ↓e_l2n, ↓e_l2c, ↓e_lc2, ↓e_rev, ↓e_pop, ↓e_popAt, ↓e_extend, ↓e_lc3, ↓e_gon, ↓e_goc, ↓e_dbMid, ↓e_dbIn, ↓f_neu, ↓e_ifT, ↓e_newD, ↓e_retO, ↓e_fixK, ↓e_putO, ↓e_dkO, ↓e_dkF, ↓e_kdO, ↓e_kdF, ↓e_get2O, ↓e_get2F, ↓e_ListD, ↓e_ListF, ↓od_o, ↓dct_d, ↓key_int, ↓key_str, ↓g_item, ↓g_get, ↓g_in, ↓g_notin, ↓h_list, ↓fz_od, ↓ow_ex, ↓e_tr, ↓e_trO, ↓e_trK, ↓tru_b, ↓tru_n, ↓tru_i, ↓tru_l, ↓tru_t, ↓tru_s, ↓e_i63, ↓n63_d, ↓e_ss, ↓e_ssL, ↓e_ssF, ↓e_never, ↓e_kget, ↓str_ex, ↓e_disp, ↓e_vnil, ↓e_vcons, ↓f_equ, ↓dgTup_tup, ↓dgCons_cons, ↓dgNil_nil, ite_t, ite_f, itK_not, List.cons_append, List.nil_append, List.append_nil, List.replicate, List.flatten_cons, List.flatten_nil, List.append_eq, List.length_cons, List.length_nil, Nat.zero_add, Nat.reduceAdd, true_and, and_true, eqOk_str, eqOk_int, eqOk_bool, str_eqv, int_eqv, tup_nil_eqv, lst_nil_eqv, rep_flat, isK_int, isK_bool, isK_tuple, isK_str, kInt, kBool, kTuple, kStr, GB.isNon, Bool.not_true, Bool.not_false, Bool.or_false, Bool.or_true, Bool.false_or, Bool.true_or, reduceCtorEq, ]
  cases x with
  | tuple xs =>
    simp only [↓at0, ↓set0, ↓at1, ↓set1, ↓at2, ↓set2, ↓at3, ↓set3, ↓at4, ↓set4, ↓at5, ↓set5, ↓at6, ↓set6, ↓at7, ↓set7, ↓at8, ↓set8, ↓at9, ↓set9, ↓at10, ↓set10, ↓at11, ↓set11, ↓at12, ↓set12, ↓at13, ↓set13, ↓at14, ↓set14, ↓at15, ↓set15, ↓fz_d, ↓fz_own, ↓fz_ob, ↓one_d, ↓int_d, ↓bool_d, ↓own_o, ↓ds_nil, ↓ds_cons, ↓seq_l, ↓seq_t, ↓ite_t, ↓ite_f, ↓e_next, ↓e_seq, ↓e_set, ↓e_drop, ↓e_ret, ↓e_ifs, ↓e_brk, ↓e_cnt, ↓e_fixs, ↓e_par, ↓e_par3, ↓e_asg, ↓e_for, ↓e_putAt, ↓e_jput, ↓e_var, ↓e_k, ↓e_fz, ↓e_op, ↓e_opL, ↓e_opR, ↓e_n, ↓e_n1, ↓e_nil, ↓e_cons, ↓e_tup, ↓e_lst, ↓e_b, ↓e_not, ↓e_and, ↓e_or, ↓e_andV, ↓e_orV, ↓e_notV, ↓e_if, ↓e_isi, ↓e_neg, ↓e_chain, ↓e_call, ↓e_callK, ↓e_jint, ↓e_dict0, ↓e_dict1, ↓e_listRng, ↓e_append, ↓e_cut, ↓e_cutO, ↓e_onone, ↓e_osome, ↓e_iseq, ↓e_ienum, ↓e_irng, ↓e_gname, ↓e_lnil, ↓e_lcons, ↓e_lc, ↓e_yes, ↓f_addI, ↓f_addS, ↓f_addT, ↓f_addL, ↓f_i2, ↓f_mulI, ↓f_mulT, ↓f_mulL, ↓f_eq, ↓f_ne, ↓f_is, ↓f_isnot, ↓f_in, ↓f_notin, ↓f_ixL, ↓f_ixT, ↓f_lenL, ↓f_lenT, ↓f_lenS, ↓f_abs, ↓f_intI, ↓f_intB, ↓f_tupL, ↓f_tupT, ↓f_lstL, ↓f_lstT, ↓f_repr, ↓f_cutL, ↓f_cutT, ↓firm_d, ↓firm_ob, ↓zip_l, ↓zip_t, ↓e_izip, ↓zip_cons, ↓zip_nil1, ↓zip_nil2, ↓f_sorted, ↓e_inn, ↓e_inc, ↓e_l2n, ↓e_l2c, ↓e_lc2, ↓e_rev, ↓e_pop, ↓e_popAt, ↓e_extend, ↓e_lc3, ↓e_gon, ↓e_goc, ↓e_dbMid, ↓e_dbIn, ↓f_neu, ↓e_ifT, ↓e_newD, ↓e_retO, ↓e_fixK, ↓e_putO, ↓e_dkO, ↓e_dkF, ↓e_kdO, ↓e_kdF, ↓e_get2O, ↓e_get2F, ↓e_ListD, ↓e_ListF, ↓od_o, ↓dct_d, ↓key_int, ↓key_str, ↓g_item, ↓g_get, ↓g_in, ↓g_notin, ↓h_list, ↓fz_od, ↓ow_ex, ↓e_tr, ↓e_trO, ↓e_trK, ↓tru_b, ↓tru_n, ↓tru_i, ↓tru_l, ↓tru_t, ↓tru_s, ↓e_i63, ↓n63_d, ↓e_ss, ↓e_ssL, ↓e_ssF, ↓e_never, ↓e_kget, ↓str_ex, ↓e_disp, ↓e_vnil, ↓e_vcons, ↓f_equ, ↓dgTup_tup, ↓dgCons_cons, ↓dgNil_nil, ite_t, ite_f, itK_not, List.cons_append, List.nil_append, List.append_nil, List.replicate, List.flatten_cons, List.flatten_nil, List.append_eq, List.length_cons, List.length_nil, Nat.zero_add, Nat.reduceAdd, true_and, and_true, eqOk_str, eqOk_int, eqOk_bool, str_eqv, int_eqv, tup_nil_eqv, lst_nil_eqv, rep_flat, isK_int, isK_bool, isK_tuple, isK_str, kInt, kBool, kTuple, kStr, GB.isNon, Bool.not_true, Bool.not_false, Bool.or_false, Bool.or_true, Bool.false_or, Bool.true_or, reduceCtorEq, ]
    refine ⟨by decide, iteB (fun _ => odd) fun he => ?_⟩
    simp only [↓at0, ↓set0, ↓at1, ↓set1, ↓at2, ↓set2, ↓at3, ↓set3, ↓at4, ↓set4, ↓at5, ↓set5, ↓at6, ↓set6, ↓at7, ↓set7, ↓at8, ↓set8, ↓at9, ↓set9, ↓at10, ↓set10, ↓at11, ↓set11, ↓at12, ↓set12, ↓at13, ↓set13, ↓at14, ↓set14, ↓at15, ↓set15, ↓fz_d, ↓fz_own, ↓fz_ob, ↓one_d, ↓int_d, ↓bool_d, ↓own_o, ↓ds_nil, ↓ds_cons, ↓seq_l, ↓seq_t, ↓ite_t, ↓ite_f, ↓e_next, ↓e_seq, ↓e_set, ↓e_drop, ↓e_ret, ↓e_ifs, ↓e_brk, ↓e_cnt, ↓e_fixs, ↓e_par, ↓e_par3, ↓e_asg, ↓e_for, ↓e_putAt, ↓e_jput, ↓e_var, ↓e_k, ↓e_fz, ↓e_op, ↓e_opL, ↓e_opR, ↓e_n, ↓e_n1, ↓e_nil, ↓e_cons, ↓e_tup, ↓e_lst, ↓e_b, ↓e_not, ↓e_and, ↓e_or, ↓e_andV, ↓e_orV, ↓e_notV, ↓e_if, ↓e_isi, ↓e_neg, ↓e_chain, ↓e_call, ↓e_callK, ↓e_jint, ↓e_dict0, ↓e_dict1, ↓e_listRng, ↓e_append, ↓e_cut, ↓e_cutO, ↓e_onone, ↓e_osome, ↓e_iseq, ↓e_ienum, ↓e_irng, ↓e_gname, ↓e_lnil, ↓e_lcons, ↓e_lc, ↓e_yes, ↓f_addI, ↓f_addS, ↓f_addT, ↓f_addL, ↓f_i2, ↓f_mulI, ↓f_mulT, ↓f_mulL, ↓f_eq, ↓f_ne, ↓f_is, ↓f_isnot, ↓f_in, ↓f_notin, ↓f_ixL, ↓f_ixT, ↓f_lenL, ↓f_lenT, ↓f_lenS, ↓f_abs, ↓f_intI, ↓f_intB, ↓f_tupL, ↓f_tupT, ↓f_lstL, ↓f_lstT, ↓f_repr, ↓f_cutL, ↓f_cutT, ↓firm_d, ↓firm_ob, ↓zip_l, ↓zip_t, ↓e_izip, ↓zip_cons, ↓zip_nil1, ↓zip_nil2, ↓f_sorted, ↓e_inn, ↓e_inc, ↓e_l2n, ↓e_l2c, ↓e_lc2, ↓e_rev, ↓e_pop, ↓e_popAt, ↓e_extend, ↓e_lc3, ↓e_gon, ↓e_goc, ↓e_dbMid, ↓e_dbIn, ↓f_neu, ↓e_ifT, ↓e_newD, ↓e_retO, ↓e_fixK, ↓e_putO, ↓e_dkO, ↓e_dkF, ↓e_kdO, ↓e_kdF, ↓e_get2O, ↓e_get2F, ↓e_ListD, ↓e_ListF, ↓od_o, ↓dct_d, ↓key_int, ↓key_str, ↓g_item, ↓g_get, ↓g_in, ↓g_notin, ↓h_list, ↓fz_od, ↓ow_ex, ↓e_tr, ↓e_trO, ↓e_trK, ↓tru_b, ↓tru_n, ↓tru_i, ↓tru_l, ↓tru_t, ↓tru_s, ↓e_i63, ↓n63_d, ↓e_ss, ↓e_ssL, ↓e_ssF, ↓e_never, ↓e_kget, ↓str_ex, ↓e_disp, ↓e_vnil, ↓e_vcons, ↓f_equ, ↓dgTup_tup, ↓dgCons_cons, ↓dgNil_nil, ite_t, ite_f, itK_not, List.cons_append, List.nil_append, List.append_nil, List.replicate, List.flatten_cons, List.flatten_nil, List.append_eq, List.length_cons, List.length_nil, Nat.zero_add, Nat.reduceAdd, true_and, and_true, eqOk_str, eqOk_int, eqOk_bool, str_eqv, int_eqv, tup_nil_eqv, lst_nil_eqv, rep_flat, isK_int, isK_bool, isK_tuple, isK_str, kInt, kBool, kTuple, kStr, GB.isNon, Bool.not_true, Bool.not_false, Bool.or_false, Bool.or_true, Bool.false_or, Bool.true_or, reduceCtorEq, ↓s_draw, ↓s_pick]
    have xl := vz_len v
    have x0 : 1 ≤ xs.length := by cases xs with
      | nil => cases he
      | cons _ _ => simp
    obtain ⟨D, rfl⟩ : ∃ d, D = d + 1 := ⟨D - 1, by omega⟩
    refine ⟨by omega, fun r r0 r1 => ⟨by decide, fun w w0 w1 => ?_⟩⟩
    have r1 := r1 (by omega)
    obtain ⟨r, rfl⟩ : ∃ r' : Nat, r = r' := ⟨r.toNat, by omega⟩
    have hr : r < xs.length := by omega
    have ar : atI xs (r : Int) = some xs[r] := at_n (List.getElem?_eq_getElem hr)
    have a0 : atI xs 0 = some xs[0] := at_n (n := 0) (List.getElem?_eq_getElem (by omega))
    have er := vz_el v (List.getElem_mem hr)
    have e0 := vz_el v (List.getElem_mem (show 0 < xs.length by omega))
    have cl : ∀ (ys : List PyData) lo hi, (GB.cutD ys lo hi).length ≤ ys.length := fun ys lo hi => GB.cutD_len _ _ _
    have cv : ∀ lo hi, Vz (D + 2 + 1) W (.tuple (GB.cutD xs lo hi)) := fun lo hi => (vz_sub v cut_sub).mono (by omega) (Nat.le_refl _)
    have cv2 : ∀ lo hi lo' hi', Vz (D + 2 + 1) W (.tuple (GB.cutD (GB.cutD xs lo hi) lo' hi')) := fun lo hi lo' hi' => (vz_sub v (cut_sub.trans cut_sub)).mono (by omega) (Nat.le_refl _)
    refine ⟨by decide, by decide, by unfold CPow; decide, _, ar, by decide, List.cons_ne_nil _ _, by decide, fun x hx => ?_⟩
    have vx : Vz (D + 2) (W + 2) x := by
      have all : ([PyData.int 4, PyData.int 3, PyData.int 2, PyData.int (-1), PyData.bool true, PyData.bool false, PyData.none, PyData.str "0", PyData.tuple [PyData.int 0], PyData.list [], PyData.int (10 ^ Int.toNat 30)] : List PyData).all (vyB 2 2) = true := by decide +kernel
      rcases List.mem_append.mp (show x ∈ ([PyData.int 4, PyData.int 3, PyData.int 2, PyData.int (-1), PyData.bool true, PyData.bool false, PyData.none, PyData.str "0", PyData.tuple [PyData.int 0], PyData.list [], PyData.int (10 ^ Int.toNat 30)] : List PyData) ++ [xs[r]] from hx) with hx | hx
      · exact (vz_of (List.all_eq_true.mp all x hx)).mono (by omega) (by omega)
      · rw [List.mem_singleton.mp hx]
        exact er.mono (by omega) (by omega)
    have c1 := cl xs none (some (r : Int))
    have c2 := cl xs (some ((r : Int) + 1)) none
    have c3 := cl xs (some (r : Int)) none
    have c4 := cl xs (some 1) none
    have c5 := cl xs none (some 1)
    have c6 := cl (GB.cutD xs (some 1) none) none (some (r : Int))
    have c7 := cl (GB.cutD xs (some 1) none) (some ((r : Int) + 1)) none
    refine iteB (fun _ => ⟨line_ge (by omega), q _ ((vz_app (cv _ _) (cv _ _)).mono (by omega) (by omega))⟩) fun _ => iteB (fun _ => ⟨by decide, line_ge (by omega), line_ge (by rw [List.length_append, List.length_singleton]; omega), q _ ((vz_app (vz_app (cv _ _) (vz_one vx)) (cv _ _)).mono (by omega) (by omega))⟩) fun _ => iteB (fun _ => ?_) fun _ => iteB (fun _ => ?_) fun _ => ?_
    · refine ⟨by decide, by decide, List.cons_ne_nil _ _, by decide, fun y hy => ⟨by decide, line_ge (by omega), ?_⟩⟩
      have all : ([PyData.str "look", PyData.str "scan", PyData.str "Drop", PyData.str "writes", PyData.none, PyData.int 0, PyData.list [], PyData.str "drop", PyData.str "write"] : List PyData).all (vyB 2 8) = true := by decide +kernel
      have vy := (vz_of (List.all_eq_true.mp all y hy)).mono (show 2 ≤ D + 2 by omega) (Nat.le_refl _)
      exact q _ ((vz_cons vy (cv _ _)).mono (by omega) (by omega))
    · refine ⟨_, a0, by decide, line_ge (by omega), xs, rfl, by decide, _, a0, by decide, List.cons_ne_nil _ _, by decide, fun y hy => q y ?_⟩
      simp only [List.mem_cons, List.not_mem_nil, or_false] at hy
      have vi : Vz (D + 2) 0 (.int 0) := (vz_of (D := 1) (W := 0) (by decide +kernel)).mono (by omega) (Nat.le_refl _)
      rcases hy with rfl | rfl | rfl | rfl | rfl
      · exact (vz_l v).mono (by omega) (by omega)
      · exact (vz_cons (e0.mono (show D ≤ D + 2 by omega) (Nat.le_refl _)) (vz_cons vi (cv _ _))).mono (by omega) (by omega)
      · exact (vz_rev v).mono (by omega) (by omega)
      · exact (vz_one v).mono (by omega) (by omega)
      · exact e0.mono (by omega) (by omega)
    · refine ⟨line_ge (by omega), by decide, line_ge (by rw [List.length_append]; omega), line_ge (by rw [List.length_append, List.length_append, List.length_singleton]; omega), q _ ?_⟩
      exact (vz_app (vz_app (vz_app (cv _ _) (cv2 _ _ _ _)) (vz_one vx)) (cv2 _ _ _ _)).mono (by omega) (by omega)
  | _ => exact odd
theorem s_bline {k : S → Prop} {x : PyData} {D W : Nat} (v : Vz D W x) (h1 : 2 ≤ D) (h2 : D ≤ 20) (h3 : W ≤ 5000) (h : ∀ y, Vz (D + 2) (4 * W + 40) y → k (.d y)) : F_l_bent_line [.ob .jar, .d x] k := ⟨x, D, W, rfl, v, h1, h2, h3, h⟩
theorem vz_rep {D W : Nat} {xs : List PyData} (h : Vz (D + 1) W (.tuple xs)) : ∀ n : Nat, Vz (D + 1) (n * W) (.tuple (List.replicate n xs).flatten)
  | 0 => vz_t.mpr ⟨(fun _ h => by simp at h), by simp⟩
  | n + 1 => by
    rw [List.replicate_succ, List.flatten_cons]
    exact (vz_app h (vz_rep h n)).mono (Nat.le_refl _) (by rw [Nat.add_mul]; omega)
theorem ma_l_bent : ∀ ss R, ss.length = 2 → F_l_bent ss R → rd_l_bent { nx := fun _ => R (.d .none), rt := R } (ss ++ List.replicate 1 .un) := by
  rintro _ R - ⟨xs, D, W, rfl, v, hD1, hD, hW, q⟩
  unfold rd_l_bent
  simp only [↓at0, ↓set0, ↓at1, ↓set1, ↓at2, ↓set2, ↓at3, ↓set3, ↓at4, ↓set4, ↓at5, ↓set5, ↓at6, ↓set6, ↓at7, ↓set7, ↓at8, ↓set8, ↓at9, ↓set9, ↓at10, ↓set10, ↓at11, ↓set11, ↓at12, ↓set12, ↓at13, ↓set13, ↓at14, ↓set14, ↓at15, ↓set15, ↓fz_d, ↓fz_own, ↓fz_ob, ↓one_d, ↓int_d, ↓bool_d, ↓own_o, ↓ds_nil, ↓ds_cons, ↓seq_l, ↓seq_t, ↓ite_t, ↓ite_f, ↓e_next, ↓e_seq, ↓e_set, ↓e_drop, ↓e_ret, ↓e_ifs, ↓e_brk, ↓e_cnt, ↓e_fixs, ↓e_par, ↓e_par3, ↓e_asg, ↓e_for, ↓e_putAt, ↓e_jput, ↓e_var, ↓e_k, ↓e_fz, ↓e_op, ↓e_opL, ↓e_opR, ↓e_n, ↓e_n1, ↓e_nil, ↓e_cons, ↓e_tup, ↓e_lst, ↓e_b, ↓e_not, ↓e_and, ↓e_or, ↓e_andV, ↓e_orV, ↓e_notV, ↓e_if, ↓e_isi, ↓e_neg, ↓e_chain, ↓e_call, ↓e_callK, ↓e_jint, ↓e_dict0, ↓e_dict1, ↓e_listRng, ↓e_append, ↓e_cut, ↓e_cutO, ↓e_onone, ↓e_osome, ↓e_iseq, ↓e_ienum, ↓e_irng, ↓e_gname, ↓e_lnil, ↓e_lcons, ↓e_lc, ↓e_yes, ↓f_addI, ↓f_addS, ↓f_addT, ↓f_addL, ↓f_i2, ↓f_mulI, ↓f_mulT, ↓f_mulL, ↓f_eq, ↓f_ne, ↓f_is, ↓f_isnot, ↓f_in, ↓f_notin, ↓f_ixL, ↓f_ixT, ↓f_lenL, ↓f_lenT, ↓f_lenS, ↓f_abs, ↓f_intI, ↓f_intB, ↓f_tupL, ↓f_tupT, ↓f_lstL, ↓f_lstT, ↓f_repr, ↓f_cutL, ↓f_cutT, ↓firm_d, ↓firm_ob, ↓zip_l, ↓zip_t, ↓e_izip, ↓zip_cons, ↓zip_nil1, ↓zip_nil2, ↓f_sorted, ↓e_inn, ↓e_inc, ↓e_l2n, ↓e_l2c, ↓e_lc2, ↓e_rev, ↓e_pop, ↓e_popAt, ↓e_extend, ↓e_lc3, ↓e_gon, ↓e_goc, ↓e_dbMid, ↓e_dbIn, ↓f_neu, ↓e_ifT, ↓e_newD, ↓e_retO, ↓e_fixK, ↓e_putO, ↓e_dkO, ↓e_dkF, ↓e_kdO, ↓e_kdF, ↓e_get2O, ↓e_get2F, ↓e_ListD, ↓e_ListF, ↓od_o, ↓dct_d, ↓key_int, ↓key_str, ↓g_item, ↓g_get, ↓g_in, ↓g_notin, ↓h_list, ↓fz_od, ↓ow_ex, ↓e_tr, ↓e_trO, ↓e_trK, ↓tru_b, ↓tru_n, ↓tru_i, ↓tru_l, ↓tru_t, ↓tru_s, ↓e_i63, ↓n63_d, ↓e_ss, ↓e_ssL, ↓e_ssF, ↓e_never, ↓e_kget, ↓str_ex, ↓e_disp, ↓e_vnil, ↓e_vcons, ↓f_equ, ↓dgTup_tup, ↓dgCons_cons, ↓dgNil_nil, ite_t, ite_f, itK_not, List.cons_append, List.nil_append, List.append_nil, List.replicate, List.flatten_cons, List.flatten_nil, List.append_eq, List.length_cons, List.length_nil, Nat.zero_add, Nat.reduceAdd, true_and, and_true, eqOk_str, eqOk_int, eqOk_bool, str_eqv, int_eqv, tup_nil_eqv, lst_nil_eqv, rep_flat, isK_int, isK_bool, isK_tuple, isK_str, kInt, kBool, kTuple, kStr, GB.isNon, Bool.not_true, Bool.not_false, Bool.or_false, Bool.or_true, Bool.false_or, Bool.true_or, reduceCtorEq, ↓s_draw, ↓s_pick]
  have xl := vz_len v
  obtain ⟨D, rfl⟩ : ∃ d, D = d + 1 := ⟨D - 1, by omega⟩
  refine ⟨by decide, iteB (fun _ => ?one) fun he => ⟨by decide, fun u u0 u1 => iteB (fun _ => ?two) fun _ => ?_⟩⟩
  case one | two =>
    refine s_odd fun o ho => ?_
    simp only [↓at0, ↓set0, ↓at1, ↓set1, ↓at2, ↓set2, ↓at3, ↓set3, ↓at4, ↓set4, ↓at5, ↓set5, ↓at6, ↓set6, ↓at7, ↓set7, ↓at8, ↓set8, ↓at9, ↓set9, ↓at10, ↓set10, ↓at11, ↓set11, ↓at12, ↓set12, ↓at13, ↓set13, ↓at14, ↓set14, ↓at15, ↓set15, ↓fz_d, ↓fz_own, ↓fz_ob, ↓one_d, ↓int_d, ↓bool_d, ↓own_o, ↓ds_nil, ↓ds_cons, ↓seq_l, ↓seq_t, ↓ite_t, ↓ite_f, ↓e_next, ↓e_seq, ↓e_set, ↓e_drop, ↓e_ret, ↓e_ifs, ↓e_brk, ↓e_cnt, ↓e_fixs, ↓e_par, ↓e_par3, ↓e_asg, ↓e_for, ↓e_putAt, ↓e_jput, ↓e_var, ↓e_k, ↓e_fz, ↓e_op, ↓e_opL, ↓e_opR, ↓e_n, ↓e_n1, ↓e_nil, ↓e_cons, ↓e_tup, ↓e_lst, ↓e_b, ↓e_not, ↓e_and, ↓e_or, ↓e_andV, ↓e_orV, ↓e_notV, ↓e_if, ↓e_isi, ↓e_neg, ↓e_chain, ↓e_call, ↓e_callK, ↓e_jint, ↓e_dict0, ↓e_dict1, ↓e_listRng, ↓e_append, ↓e_cut, ↓e_cutO, ↓e_onone, ↓e_osome, ↓e_iseq, ↓e_ienum, ↓e_irng, ↓e_gname, ↓e_lnil, ↓e_lcons, ↓e_lc, ↓e_yes, ↓f_addI, ↓f_addS, ↓f_addT, ↓f_addL, ↓f_i2, ↓f_mulI, ↓f_mulT, ↓f_mulL, ↓f_eq, ↓f_ne, ↓f_is, ↓f_isnot, ↓f_in, ↓f_notin, ↓f_ixL, ↓f_ixT, ↓f_lenL, ↓f_lenT, ↓f_lenS, ↓f_abs, ↓f_intI, ↓f_intB, ↓f_tupL, ↓f_tupT, ↓f_lstL, ↓f_lstT, ↓f_repr, ↓f_cutL, ↓f_cutT, ↓firm_d, ↓firm_ob, ↓zip_l, ↓zip_t, ↓e_izip, ↓zip_cons, ↓zip_nil1, ↓zip_nil2, ↓f_sorted, ↓e_inn, ↓e_inc, ↓e_l2n, ↓e_l2c, ↓e_lc2, ↓e_rev, ↓e_pop, ↓e_popAt, ↓e_extend, ↓e_lc3, ↓e_gon, ↓e_goc, ↓e_dbMid, ↓e_dbIn, ↓f_neu, ↓e_ifT, ↓e_newD, ↓e_retO, ↓e_fixK, ↓e_putO, ↓e_dkO, ↓e_dkF, ↓e_kdO, ↓e_kdF, ↓e_get2O, ↓e_get2F, ↓e_ListD, ↓e_ListF, ↓od_o, ↓dct_d, ↓key_int, ↓key_str, ↓g_item, ↓g_get, ↓g_in, ↓g_notin, ↓h_list, ↓fz_od, ↓ow_ex, ↓e_tr, ↓e_trO, ↓e_trK, ↓tru_b, ↓tru_n, ↓tru_i, ↓tru_l, ↓tru_t, ↓tru_s, ↓e_i63, ↓n63_d, ↓e_ss, ↓e_ssL, ↓e_ssF, ↓e_never, ↓e_kget, ↓str_ex, ↓e_disp, ↓e_vnil, ↓e_vcons, ↓f_equ, ↓dgTup_tup, ↓dgCons_cons, ↓dgNil_nil, ite_t, ite_f, itK_not, List.cons_append, List.nil_append, List.append_nil, List.replicate, List.flatten_cons, List.flatten_nil, List.append_eq, List.length_cons, List.length_nil, Nat.zero_add, Nat.reduceAdd, true_and, and_true, eqOk_str, eqOk_int, eqOk_bool, str_eqv, int_eqv, tup_nil_eqv, lst_nil_eqv, rep_flat, isK_int, isK_bool, isK_tuple, isK_str, kInt, kBool, kTuple, kStr, GB.isNon, Bool.not_true, Bool.not_false, Bool.or_false, Bool.or_true, Bool.false_or, Bool.true_or, reduceCtorEq, ]
    refine ⟨by decide, line_ge (by omega), by decide, by decide, line_ge (by simp; omega), by decide, by decide, by decide, by decide, by decide, by decide, by decide, List.cons_ne_nil _ _, by decide, fun y hy => q y ?_⟩
    simp only [List.mem_cons, List.not_mem_nil, or_false] at hy
    rcases hy with rfl | rfl | rfl | rfl | rfl | rfl
    · exact (vz_l v).mono (by omega) (by omega)
    · exact (vz_app (v.mono (show D + 1 ≤ D + 2 + 1 by omega) (Nat.le_refl _)) (vz_one (ho.mono (show 3 ≤ D + 2 by omega) (Nat.le_refl _)))).mono (by omega) (by omega)
    · exact (vz_rep v 7).mono (by omega) (by omega)
    · exact (vz_one v).mono (by omega) (by omega)
    · exact (vz_of (D := 3) (W := 100) (by decide +kernel)).mono (by omega) (by omega)
    · exact (vz_of (D := 1) (W := 1) (by decide +kernel)).mono (by omega) (by omega)
  have x0 : 1 ≤ xs.length := by cases xs with
    | nil => cases he
    | cons _ _ => simp
  refine ⟨by omega, fun r r0 r1 => ?_⟩
  have r1 := r1 (by omega)
  obtain ⟨r, rfl⟩ : ∃ r' : Nat, r = r' := ⟨r.toNat, by omega⟩
  have hr : r < xs.length := by omega
  have ar : atI xs (r : Int) = some xs[r] := at_n (List.getElem?_eq_getElem hr)
  have c1 := GB.cutD_len xs none (some (r : Int))
  have c2 := GB.cutD_len xs (some ((r : Int) + 1)) none
  refine ⟨_, ar, s_bline ((vz_el v (List.getElem_mem hr)).mono (show D ≤ D + 1 by omega) (Nat.le_refl _)) (by omega) (by omega) hW fun y hy => ?_⟩
  simp only [↓at0, ↓set0, ↓at1, ↓set1, ↓at2, ↓set2, ↓at3, ↓set3, ↓at4, ↓set4, ↓at5, ↓set5, ↓at6, ↓set6, ↓at7, ↓set7, ↓at8, ↓set8, ↓at9, ↓set9, ↓at10, ↓set10, ↓at11, ↓set11, ↓at12, ↓set12, ↓at13, ↓set13, ↓at14, ↓set14, ↓at15, ↓set15, ↓fz_d, ↓fz_own, ↓fz_ob, ↓one_d, ↓int_d, ↓bool_d, ↓own_o, ↓ds_nil, ↓ds_cons, ↓seq_l, ↓seq_t, ↓ite_t, ↓ite_f, ↓e_next, ↓e_seq, ↓e_set, ↓e_drop, ↓e_ret, ↓e_ifs, ↓e_brk, ↓e_cnt, ↓e_fixs, ↓e_par, ↓e_par3, ↓e_asg, ↓e_for, ↓e_putAt, ↓e_jput, ↓e_var, ↓e_k, ↓e_fz, ↓e_op, ↓e_opL, ↓e_opR, ↓e_n, ↓e_n1, ↓e_nil, ↓e_cons, ↓e_tup, ↓e_lst, ↓e_b, ↓e_not, ↓e_and, ↓e_or, ↓e_andV, ↓e_orV, ↓e_notV, ↓e_if, ↓e_isi, ↓e_neg, ↓e_chain, ↓e_call, ↓e_callK, ↓e_jint, ↓e_dict0, ↓e_dict1, ↓e_listRng, ↓e_append, ↓e_cut, ↓e_cutO, ↓e_onone, ↓e_osome, ↓e_iseq, ↓e_ienum, ↓e_irng, ↓e_gname, ↓e_lnil, ↓e_lcons, ↓e_lc, ↓e_yes, ↓f_addI, ↓f_addS, ↓f_addT, ↓f_addL, ↓f_i2, ↓f_mulI, ↓f_mulT, ↓f_mulL, ↓f_eq, ↓f_ne, ↓f_is, ↓f_isnot, ↓f_in, ↓f_notin, ↓f_ixL, ↓f_ixT, ↓f_lenL, ↓f_lenT, ↓f_lenS, ↓f_abs, ↓f_intI, ↓f_intB, ↓f_tupL, ↓f_tupT, ↓f_lstL, ↓f_lstT, ↓f_repr, ↓f_cutL, ↓f_cutT, ↓firm_d, ↓firm_ob, ↓zip_l, ↓zip_t, ↓e_izip, ↓zip_cons, ↓zip_nil1, ↓zip_nil2, ↓f_sorted, ↓e_inn, ↓e_inc, ↓e_l2n, ↓e_l2c, ↓e_lc2, ↓e_rev, ↓e_pop, ↓e_popAt, ↓e_extend, ↓e_lc3, ↓e_gon, ↓e_goc, ↓e_dbMid, ↓e_dbIn, ↓f_neu, ↓e_ifT, ↓e_newD, ↓e_retO, ↓e_fixK, ↓e_putO, ↓e_dkO, ↓e_dkF, ↓e_kdO, ↓e_kdF, ↓e_get2O, ↓e_get2F, ↓e_ListD, ↓e_ListF, ↓od_o, ↓dct_d, ↓key_int, ↓key_str, ↓g_item, ↓g_get, ↓g_in, ↓g_notin, ↓h_list, ↓fz_od, ↓ow_ex, ↓e_tr, ↓e_trO, ↓e_trK, ↓tru_b, ↓tru_n, ↓tru_i, ↓tru_l, ↓tru_t, ↓tru_s, ↓e_i63, ↓n63_d, ↓e_ss, ↓e_ssL, ↓e_ssF, ↓e_never, ↓e_kget, ↓str_ex, ↓e_disp, ↓e_vnil, ↓e_vcons, ↓f_equ, ↓dgTup_tup, ↓dgCons_cons, ↓dgNil_nil, ite_t, ite_f, itK_not, List.cons_append, List.nil_append, List.append_nil, List.replicate, List.flatten_cons, List.flatten_nil, List.append_eq, List.length_cons, List.length_nil, Nat.zero_add, Nat.reduceAdd, true_and, and_true, eqOk_str, eqOk_int, eqOk_bool, str_eqv, int_eqv, tup_nil_eqv, lst_nil_eqv, rep_flat, isK_int, isK_bool, isK_tuple, isK_str, kInt, kBool, kTuple, kStr, GB.isNon, Bool.not_true, Bool.not_false, Bool.or_false, Bool.or_true, Bool.false_or, Bool.true_or, reduceCtorEq, ]
  have cv : ∀ lo hi, Vz (D + 1 + 2 + 1) W (.tuple (GB.cutD xs lo hi)) := fun lo hi => (vz_sub v cut_sub).mono (by omega) (Nat.le_refl _)
  exact ⟨by decide, line_ge (by omega), line_ge (by rw [List.length_append, List.length_singleton]; omega), q _ ((vz_app (vz_app (cv _ _) (vz_one hy)) (cv _ _)).mono (by omega) (by omega))⟩
theorem ma_l_line : ∀ ss R, ss.length = 1 → F_l_line ss R → rd_l_line { nx := fun _ => R (.d .none), rt := R } (ss ++ List.replicate 3 .un) := by
  rintro _ R - ⟨rfl, q⟩
  unfold rd_l_line
  simp only [↓at0, ↓set0, ↓at1, ↓set1, ↓at2, ↓set2, ↓at3, ↓set3, ↓at4, ↓set4, ↓at5, ↓set5, ↓at6, ↓set6, ↓at7, ↓set7, ↓at8, ↓set8, ↓at9, ↓set9, ↓at10, ↓set10, ↓at11, ↓set11, ↓at12, ↓set12, ↓at13, ↓set13, ↓at14, ↓set14, ↓at15, ↓set15, ↓fz_d, ↓fz_own, ↓fz_ob, ↓one_d, ↓int_d, ↓bool_d, ↓own_o, ↓ds_nil, ↓ds_cons, ↓seq_l, ↓seq_t, ↓ite_t, ↓ite_f, ↓e_next, ↓e_seq, ↓e_set, ↓e_drop, ↓e_ret, ↓e_ifs, ↓e_brk, ↓e_cnt, ↓e_fixs, ↓e_par, ↓e_par3, ↓e_asg, ↓e_for, ↓e_putAt, ↓e_jput, ↓e_var, ↓e_k, ↓e_fz, ↓e_op, ↓e_opL, ↓e_opR, ↓e_n, ↓e_n1, ↓e_nil, ↓e_cons, ↓e_tup, ↓e_lst, ↓e_b, ↓e_not, ↓e_and, ↓e_or, ↓e_andV, ↓e_orV, ↓e_notV, ↓e_if, ↓e_isi, ↓e_neg, ↓e_chain, ↓e_call, ↓e_callK, ↓e_jint, ↓e_dict0, ↓e_dict1, ↓e_listRng, ↓e_append, ↓e_cut, ↓e_cutO, ↓e_onone, ↓e_osome, ↓e_iseq, ↓e_ienum, ↓e_irng, ↓e_gname, ↓e_lnil, ↓e_lcons, ↓e_lc, ↓e_yes, ↓f_addI, ↓f_addS, ↓f_addT, ↓f_addL, ↓f_i2, ↓f_mulI, ↓f_mulT, ↓f_mulL, ↓f_eq, ↓f_ne, ↓f_is, ↓f_isnot, ↓f_in, ↓f_notin, ↓f_ixL, ↓f_ixT, ↓f_lenL, ↓f_lenT, ↓f_lenS, ↓f_abs, ↓f_intI, ↓f_intB, ↓f_tupL, ↓f_tupT, ↓f_lstL, ↓f_lstT, ↓f_repr, ↓f_cutL, ↓f_cutT, ↓firm_d, ↓firm_ob, ↓zip_l, ↓zip_t, ↓e_izip, ↓zip_cons, ↓zip_nil1, ↓zip_nil2, ↓f_sorted, ↓e_inn, ↓e_inc, ↓e_l2n, ↓e_l2c, ↓e_lc2, ↓e_rev, ↓e_pop, ↓e_popAt, ↓e_extend, ↓e_lc3, ↓e_gon, ↓e_goc, ↓e_dbMid, ↓e_dbIn, ↓f_neu, ↓e_ifT, ↓e_newD, ↓e_retO, ↓e_fixK, ↓e_putO, ↓e_dkO, ↓e_dkF, ↓e_kdO, ↓e_kdF, ↓e_get2O, ↓e_get2F, ↓e_ListD, ↓e_ListF, ↓od_o, ↓dct_d, ↓key_int, ↓key_str, ↓g_item, ↓g_get, ↓g_in, ↓g_notin, ↓h_list, ↓fz_od, ↓ow_ex, ↓e_tr, ↓e_trO, ↓e_trK, ↓tru_b, ↓tru_n, ↓tru_i, ↓tru_l, ↓tru_t, ↓tru_s, ↓e_i63, ↓n63_d, ↓e_ss, ↓e_ssL, ↓e_ssF, ↓e_never, ↓e_kget, ↓str_ex, ↓e_disp, ↓e_vnil, ↓e_vcons, ↓f_equ, ↓dgTup_tup, ↓dgCons_cons, ↓dgNil_nil, ite_t, ite_f, itK_not, List.cons_append, List.nil_append, List.append_nil, List.replicate, List.flatten_cons, List.flatten_nil, List.append_eq, List.length_cons, List.length_nil, Nat.zero_add, Nat.reduceAdd, true_and, and_true, eqOk_str, eqOk_int, eqOk_bool, str_eqv, int_eqv, tup_nil_eqv, lst_nil_eqv, rep_flat, isK_int, isK_bool, isK_tuple, isK_str, kInt, kBool, kTuple, kStr, GB.isNon, Bool.not_true, Bool.not_false, Bool.or_false, Bool.or_true, Bool.false_or, Bool.true_or, reduceCtorEq, ↓s_draw, ↓s_pick, ↓s_bounds]
  refine ⟨by decide, List.cons_ne_nil _ _, by decide, fun x hx => ?_⟩
  obtain ⟨z, rfl, hz, vw, b3⟩ : ∃ z, x = .str z ∧ (z = "write" → (bndL (.str z)).length = 3) ∧ Vz 1 5 (.str z) ∧ (bndL (.str z)).length ≤ 3 ∧ ∀ i ∈ bndL (.str z), 0 ≤ i ∧ i ≤ 3 := by
    simp only [List.mem_cons, List.not_mem_nil, or_false] at hx
    rcases hx with rfl | rfl | rfl | rfl | rfl | rfl
    · exact ⟨_, rfl, fun h => absurd h (by decide +kernel), vz_of (by decide +kernel), by decide, by decide⟩
    · exact ⟨_, rfl, fun h => absurd h (by decide +kernel), vz_of (by decide +kernel), by decide, by decide⟩
    · exact ⟨_, rfl, fun h => absurd h (by decide +kernel), vz_of (by decide +kernel), by decide, by decide⟩
    · exact ⟨_, rfl, fun h => absurd h (by decide +kernel), vz_of (by decide +kernel), by decide, by decide⟩
    · exact ⟨_, rfl, fun _ => rfl, vz_of (by decide +kernel), by decide, by decide⟩
    · exact ⟨_, rfl, fun _ => rfl, vz_of (by decide +kernel), by decide, by decide⟩
  obtain ⟨b3, b4⟩ := b3
  unfold bndD
  simp only [↓at0, ↓set0, ↓at1, ↓set1, ↓at2, ↓set2, ↓at3, ↓set3, ↓at4, ↓set4, ↓at5, ↓set5, ↓at6, ↓set6, ↓at7, ↓set7, ↓at8, ↓set8, ↓at9, ↓set9, ↓at10, ↓set10, ↓at11, ↓set11, ↓at12, ↓set12, ↓at13, ↓set13, ↓at14, ↓set14, ↓at15, ↓set15, ↓fz_d, ↓fz_own, ↓fz_ob, ↓one_d, ↓int_d, ↓bool_d, ↓own_o, ↓ds_nil, ↓ds_cons, ↓seq_l, ↓seq_t, ↓ite_t, ↓ite_f, ↓e_next, ↓e_seq, ↓e_set, ↓e_drop, ↓e_ret, ↓e_ifs, ↓e_brk, ↓e_cnt, ↓e_fixs, ↓e_par, ↓e_par3, ↓e_asg, ↓e_for, ↓e_putAt, ↓e_jput, ↓e_var, ↓e_k, ↓e_fz, ↓e_op, ↓e_opL, ↓e_opR, ↓e_n, ↓e_n1, ↓e_nil, ↓e_cons, ↓e_tup, ↓e_lst, ↓e_b, ↓e_not, ↓e_and, ↓e_or, ↓e_andV, ↓e_orV, ↓e_notV, ↓e_if, ↓e_isi, ↓e_neg, ↓e_chain, ↓e_call, ↓e_callK, ↓e_jint, ↓e_dict0, ↓e_dict1, ↓e_listRng, ↓e_append, ↓e_cut, ↓e_cutO, ↓e_onone, ↓e_osome, ↓e_iseq, ↓e_ienum, ↓e_irng, ↓e_gname, ↓e_lnil, ↓e_lcons, ↓e_lc, ↓e_yes, ↓f_addI, ↓f_addS, ↓f_addT, ↓f_addL, ↓f_i2, ↓f_mulI, ↓f_mulT, ↓f_mulL, ↓f_eq, ↓f_ne, ↓f_is, ↓f_isnot, ↓f_in, ↓f_notin, ↓f_ixL, ↓f_ixT, ↓f_lenL, ↓f_lenT, ↓f_lenS, ↓f_abs, ↓f_intI, ↓f_intB, ↓f_tupL, ↓f_tupT, ↓f_lstL, ↓f_lstT, ↓f_repr, ↓f_cutL, ↓f_cutT, ↓firm_d, ↓firm_ob, ↓zip_l, ↓zip_t, ↓e_izip, ↓zip_cons, ↓zip_nil1, ↓zip_nil2, ↓f_sorted, ↓e_inn, ↓e_inc, ↓e_l2n, ↓e_l2c, ↓e_lc2, ↓e_rev, ↓e_pop, ↓e_popAt, ↓e_extend, ↓e_lc3, ↓e_gon, ↓e_goc, ↓e_dbMid, ↓e_dbIn, ↓f_neu, ↓e_ifT, ↓e_newD, ↓e_retO, ↓e_fixK, ↓e_putO, ↓e_dkO, ↓e_dkF, ↓e_kdO, ↓e_kdF, ↓e_get2O, ↓e_get2F, ↓e_ListD, ↓e_ListF, ↓od_o, ↓dct_d, ↓key_int, ↓key_str, ↓g_item, ↓g_get, ↓g_in, ↓g_notin, ↓h_list, ↓fz_od, ↓ow_ex, ↓e_tr, ↓e_trO, ↓e_trK, ↓tru_b, ↓tru_n, ↓tru_i, ↓tru_l, ↓tru_t, ↓tru_s, ↓e_i63, ↓n63_d, ↓e_ss, ↓e_ssL, ↓e_ssF, ↓e_never, ↓e_kget, ↓str_ex, ↓e_disp, ↓e_vnil, ↓e_vcons, ↓f_equ, ↓dgTup_tup, ↓dgCons_cons, ↓dgNil_nil, ite_t, ite_f, itK_not, List.cons_append, List.nil_append, List.append_nil, List.replicate, List.flatten_cons, List.flatten_nil, List.append_eq, List.length_cons, List.length_nil, Nat.zero_add, Nat.reduceAdd, true_and, and_true, eqOk_str, eqOk_int, eqOk_bool, str_eqv, int_eqv, tup_nil_eqv, lst_nil_eqv, rep_flat, isK_int, isK_bool, isK_tuple, isK_str, kInt, kBool, kTuple, kStr, GB.isNon, Bool.not_true, Bool.not_false, Bool.or_false, Bool.or_true, Bool.false_or, Bool.true_or, reduceCtorEq, wipeD, List.set, List.length_map]
  refine ⟨line_ge (by omega), all_run (P := Vz 1 0) (fun acc l1 l2 => ?_) fun d hd acc K2 hK2 => ?_⟩
  · rw [List.length_map] at l1
    simp only [↓at0, ↓set0, ↓at1, ↓set1, ↓at2, ↓set2, ↓at3, ↓set3, ↓at4, ↓set4, ↓at5, ↓set5, ↓at6, ↓set6, ↓at7, ↓set7, ↓at8, ↓set8, ↓at9, ↓set9, ↓at10, ↓set10, ↓at11, ↓set11, ↓at12, ↓set12, ↓at13, ↓set13, ↓at14, ↓set14, ↓at15, ↓set15, ↓fz_d, ↓fz_own, ↓fz_ob, ↓one_d, ↓int_d, ↓bool_d, ↓own_o, ↓ds_nil, ↓ds_cons, ↓seq_l, ↓seq_t, ↓ite_t, ↓ite_f, ↓e_next, ↓e_seq, ↓e_set, ↓e_drop, ↓e_ret, ↓e_ifs, ↓e_brk, ↓e_cnt, ↓e_fixs, ↓e_par, ↓e_par3, ↓e_asg, ↓e_for, ↓e_putAt, ↓e_jput, ↓e_var, ↓e_k, ↓e_fz, ↓e_op, ↓e_opL, ↓e_opR, ↓e_n, ↓e_n1, ↓e_nil, ↓e_cons, ↓e_tup, ↓e_lst, ↓e_b, ↓e_not, ↓e_and, ↓e_or, ↓e_andV, ↓e_orV, ↓e_notV, ↓e_if, ↓e_isi, ↓e_neg, ↓e_chain, ↓e_call, ↓e_callK, ↓e_jint, ↓e_dict0, ↓e_dict1, ↓e_listRng, ↓e_append, ↓e_cut, ↓e_cutO, ↓e_onone, ↓e_osome, ↓e_iseq, ↓e_ienum, ↓e_irng, ↓e_gname, ↓e_lnil, ↓e_lcons, ↓e_lc, ↓e_yes, ↓f_addI, ↓f_addS, ↓f_addT, ↓f_addL, ↓f_i2, ↓f_mulI, ↓f_mulT, ↓f_mulL, ↓f_eq, ↓f_ne, ↓f_is, ↓f_isnot, ↓f_in, ↓f_notin, ↓f_ixL, ↓f_ixT, ↓f_lenL, ↓f_lenT, ↓f_lenS, ↓f_abs, ↓f_intI, ↓f_intB, ↓f_tupL, ↓f_tupT, ↓f_lstL, ↓f_lstT, ↓f_repr, ↓f_cutL, ↓f_cutT, ↓firm_d, ↓firm_ob, ↓zip_l, ↓zip_t, ↓e_izip, ↓zip_cons, ↓zip_nil1, ↓zip_nil2, ↓f_sorted, ↓e_inn, ↓e_inc, ↓e_l2n, ↓e_l2c, ↓e_lc2, ↓e_rev, ↓e_pop, ↓e_popAt, ↓e_extend, ↓e_lc3, ↓e_gon, ↓e_goc, ↓e_dbMid, ↓e_dbIn, ↓f_neu, ↓e_ifT, ↓e_newD, ↓e_retO, ↓e_fixK, ↓e_putO, ↓e_dkO, ↓e_dkF, ↓e_kdO, ↓e_kdF, ↓e_get2O, ↓e_get2F, ↓e_ListD, ↓e_ListF, ↓od_o, ↓dct_d, ↓key_int, ↓key_str, ↓g_item, ↓g_get, ↓g_in, ↓g_notin, ↓h_list, ↓fz_od, ↓ow_ex, ↓e_tr, ↓e_trO, ↓e_trK, ↓tru_b, ↓tru_n, ↓tru_i, ↓tru_l, ↓tru_t, ↓tru_s, ↓e_i63, ↓n63_d, ↓e_ss, ↓e_ssL, ↓e_ssF, ↓e_never, ↓e_kget, ↓str_ex, ↓e_disp, ↓e_vnil, ↓e_vcons, ↓f_equ, ↓dgTup_tup, ↓dgCons_cons, ↓dgNil_nil, ite_t, ite_f, itK_not, List.cons_append, List.nil_append, List.append_nil, List.replicate, List.flatten_cons, List.flatten_nil, List.append_eq, List.length_cons, List.length_nil, Nat.zero_add, Nat.reduceAdd, true_and, and_true, eqOk_str, eqOk_int, eqOk_bool, str_eqv, int_eqv, tup_nil_eqv, lst_nil_eqv, rep_flat, isK_int, isK_bool, isK_tuple, isK_str, kInt, kBool, kTuple, kStr, GB.isNon, Bool.not_true, Bool.not_false, Bool.or_false, Bool.or_true, Bool.false_or, Bool.true_or, reduceCtorEq, str_dec, ↓s_draw]
    have fin : ∀ ys : List PyData, ys.length ≤ 3 → (∀ y ∈ ys, Vz 1 0 y) → 1 ≤ sizeLine ∧ 1 + ys.length ≤ sizeLine ∧ R (.d (.tuple (.str z :: ys))) := fun ys h1 h2 => by
      refine ⟨by decide, line_ge (by omega), q _ ?_⟩
      have : Vz (1 + 1) 3 (.tuple ys) := vz_t.mpr ⟨fun y hy => let q := h2 y hy; ⟨q.sh, q.ls, q.dp⟩, by
        have : ∀ ys : List PyData, (∀ y ∈ ys, Vz 1 0 y) → (ys.map fun x => x.bulk + 1).sum ≤ ys.length := by
          intro ys
          induction ys with
          | nil => intro _; simp
          | cons y ys ih =>
            intro h
            have a := ih fun z hz => h z (by simp [hz])
            have b := (h y (by simp)).bk
            simp only [List.map_cons, List.sum_cons, List.length_cons]; omega
        exact Nat.le_trans (this ys h2) h1⟩
      exact (vz_cons vw this).mono (by omega) (by omega)
    refine iteB (fun hw => ⟨by decide, fun r r0 r1 => iteB (fun _ => ?_) fun _ => fin acc (by omega) l2⟩) fun _ => fin acc (by omega) l2
    have h3 := hz (of_decide_eq_true hw)
    refine ⟨2, ?_, fin _ (by rw [List.length_set]; omega) fun y hy => ?_⟩
    · unfold ixN
      rw [if_pos (by omega), if_pos (by omega)]; rfl
    · rcases List.mem_or_eq_of_mem_set hy with h | rfl
      · exact l2 y h
      · exact vz_of (by decide +kernel)
  · obtain ⟨i, hi, rfl⟩ := List.mem_map.mp hd
    obtain ⟨i0, i3⟩ := b4 i hi
    simp only [↓at0, ↓set0, ↓at1, ↓set1, ↓at2, ↓set2, ↓at3, ↓set3, ↓at4, ↓set4, ↓at5, ↓set5, ↓at6, ↓set6, ↓at7, ↓set7, ↓at8, ↓set8, ↓at9, ↓set9, ↓at10, ↓set10, ↓at11, ↓set11, ↓at12, ↓set12, ↓at13, ↓set13, ↓at14, ↓set14, ↓at15, ↓set15, ↓fz_d, ↓fz_own, ↓fz_ob, ↓one_d, ↓int_d, ↓bool_d, ↓own_o, ↓ds_nil, ↓ds_cons, ↓seq_l, ↓seq_t, ↓ite_t, ↓ite_f, ↓e_next, ↓e_seq, ↓e_set, ↓e_drop, ↓e_ret, ↓e_ifs, ↓e_brk, ↓e_cnt, ↓e_fixs, ↓e_par, ↓e_par3, ↓e_asg, ↓e_for, ↓e_putAt, ↓e_jput, ↓e_var, ↓e_k, ↓e_fz, ↓e_op, ↓e_opL, ↓e_opR, ↓e_n, ↓e_n1, ↓e_nil, ↓e_cons, ↓e_tup, ↓e_lst, ↓e_b, ↓e_not, ↓e_and, ↓e_or, ↓e_andV, ↓e_orV, ↓e_notV, ↓e_if, ↓e_isi, ↓e_neg, ↓e_chain, ↓e_call, ↓e_callK, ↓e_jint, ↓e_dict0, ↓e_dict1, ↓e_listRng, ↓e_append, ↓e_cut, ↓e_cutO, ↓e_onone, ↓e_osome, ↓e_iseq, ↓e_ienum, ↓e_irng, ↓e_gname, ↓e_lnil, ↓e_lcons, ↓e_lc, ↓e_yes, ↓f_addI, ↓f_addS, ↓f_addT, ↓f_addL, ↓f_i2, ↓f_mulI, ↓f_mulT, ↓f_mulL, ↓f_eq, ↓f_ne, ↓f_is, ↓f_isnot, ↓f_in, ↓f_notin, ↓f_ixL, ↓f_ixT, ↓f_lenL, ↓f_lenT, ↓f_lenS, ↓f_abs, ↓f_intI, ↓f_intB, ↓f_tupL, ↓f_tupT, ↓f_lstL, ↓f_lstT, ↓f_repr, ↓f_cutL, ↓f_cutT, ↓firm_d, ↓firm_ob, ↓zip_l, ↓zip_t, ↓e_izip, ↓zip_cons, ↓zip_nil1, ↓zip_nil2, ↓f_sorted, ↓e_inn, ↓e_inc, ↓e_l2n, ↓e_l2c, ↓e_lc2, ↓e_rev, ↓e_pop, ↓e_popAt, ↓e_extend, ↓e_lc3, ↓e_gon, ↓e_goc, ↓e_dbMid, ↓e_dbIn, ↓f_neu, ↓e_ifT, ↓e_newD, ↓e_retO, ↓e_fixK, ↓e_putO, ↓e_dkO, ↓e_dkF, ↓e_kdO, ↓e_kdF, ↓e_get2O, ↓e_get2F, ↓e_ListD, ↓e_ListF, ↓od_o, ↓dct_d, ↓key_int, ↓key_str, ↓g_item, ↓g_get, ↓g_in, ↓g_notin, ↓h_list, ↓fz_od, ↓ow_ex, ↓e_tr, ↓e_trO, ↓e_trK, ↓tru_b, ↓tru_n, ↓tru_i, ↓tru_l, ↓tru_t, ↓tru_s, ↓e_i63, ↓n63_d, ↓e_ss, ↓e_ssL, ↓e_ssF, ↓e_never, ↓e_kget, ↓str_ex, ↓e_disp, ↓e_vnil, ↓e_vcons, ↓f_equ, ↓dgTup_tup, ↓dgCons_cons, ↓dgNil_nil, ite_t, ite_f, itK_not, List.cons_append, List.nil_append, List.append_nil, List.replicate, List.flatten_cons, List.flatten_nil, List.append_eq, List.length_cons, List.length_nil, Nat.zero_add, Nat.reduceAdd, true_and, and_true, eqOk_str, eqOk_int, eqOk_bool, str_eqv, int_eqv, tup_nil_eqv, lst_nil_eqv, rep_flat, isK_int, isK_bool, isK_tuple, isK_str, kInt, kBool, kTuple, kStr, GB.isNon, Bool.not_true, Bool.not_false, Bool.or_false, Bool.or_true, Bool.false_or, Bool.true_or, reduceCtorEq, wipeD, List.set, ↓s_draw]
    refine ⟨Int.lt_of_le_of_lt (show i + 1 ≤ 4 by omega) (by decide), fun r r0 r1 => hK2 _ ?_⟩
    have r1 := r1 (by omega)
    obtain ⟨r, rfl⟩ : ∃ r' : Nat, r = r' := ⟨r.toNat, by omega⟩
    have := List.all_eq_true.mp (show (List.range 61).all (fun i => vyB 1 0 (.int (i : Nat))) = true by decide +kernel) r (List.mem_range.mpr (by omega))
    exact vz_of this
theorem s_aline {k : S → Prop} (h : ∀ x, Vz 2 10 x → k (.d x)) : F_l_line [.ob .jar] k := ⟨rfl, h⟩
theorem ma_l_program : ∀ ss R, ss.length = 1 → F_l_program ss R → rd_l_program { nx := fun _ => R (.d .none), rt := R } (ss ++ List.replicate 1 .un) := by
  rintro _ R - ⟨rfl, q⟩
  unfold rd_l_program
  simp only [↓at0, ↓set0, ↓at1, ↓set1, ↓at2, ↓set2, ↓at3, ↓set3, ↓at4, ↓set4, ↓at5, ↓set5, ↓at6, ↓set6, ↓at7, ↓set7, ↓at8, ↓set8, ↓at9, ↓set9, ↓at10, ↓set10, ↓at11, ↓set11, ↓at12, ↓set12, ↓at13, ↓set13, ↓at14, ↓set14, ↓at15, ↓set15, ↓fz_d, ↓fz_own, ↓fz_ob, ↓one_d, ↓int_d, ↓bool_d, ↓own_o, ↓ds_nil, ↓ds_cons, ↓seq_l, ↓seq_t, ↓ite_t, ↓ite_f, ↓e_next, ↓e_seq, ↓e_set, ↓e_drop, ↓e_ret, ↓e_ifs, ↓e_brk, ↓e_cnt, ↓e_fixs, ↓e_par, ↓e_par3, ↓e_asg, ↓e_for, ↓e_putAt, ↓e_jput, ↓e_var, ↓e_k, ↓e_fz, ↓e_op, ↓e_opL, ↓e_opR, ↓e_n, ↓e_n1, ↓e_nil, ↓e_cons, ↓e_tup, ↓e_lst, ↓e_b, ↓e_not, ↓e_and, ↓e_or, ↓e_andV, ↓e_orV, ↓e_notV, ↓e_if, ↓e_isi, ↓e_neg, ↓e_chain, ↓e_call, ↓e_callK, ↓e_jint, ↓e_dict0, ↓e_dict1, ↓e_listRng, ↓e_append, ↓e_cut, ↓e_cutO, ↓e_onone, ↓e_osome, ↓e_iseq, ↓e_ienum, ↓e_irng, ↓e_gname, ↓e_lnil, ↓e_lcons, ↓e_lc, ↓e_yes, ↓f_addI, ↓f_addS, ↓f_addT, ↓f_addL, ↓f_i2, ↓f_mulI, ↓f_mulT, ↓f_mulL, ↓f_eq, ↓f_ne, ↓f_is, ↓f_isnot, ↓f_in, ↓f_notin, ↓f_ixL, ↓f_ixT, ↓f_lenL, ↓f_lenT, ↓f_lenS, ↓f_abs, ↓f_intI, ↓f_intB, ↓f_tupL, ↓f_tupT, ↓f_lstL, ↓f_lstT, ↓f_repr, ↓f_cutL, ↓f_cutT, ↓firm_d, ↓firm_ob, ↓zip_l, ↓zip_t, ↓e_izip, ↓zip_cons, ↓zip_nil1, ↓zip_nil2, ↓f_sorted, ↓e_inn, ↓e_inc, ↓e_l2n, ↓e_l2c, ↓e_lc2, ↓e_rev, ↓e_pop, ↓e_popAt, ↓e_extend, ↓e_lc3, ↓e_gon, ↓e_goc, ↓e_dbMid, ↓e_dbIn, ↓f_neu, ↓e_ifT, ↓e_newD, ↓e_retO, ↓e_fixK, ↓e_putO, ↓e_dkO, ↓e_dkF, ↓e_kdO, ↓e_kdF, ↓e_get2O, ↓e_get2F, ↓e_ListD, ↓e_ListF, ↓od_o, ↓dct_d, ↓key_int, ↓key_str, ↓g_item, ↓g_get, ↓g_in, ↓g_notin, ↓h_list, ↓fz_od, ↓ow_ex, ↓e_tr, ↓e_trO, ↓e_trK, ↓tru_b, ↓tru_n, ↓tru_i, ↓tru_l, ↓tru_t, ↓tru_s, ↓e_i63, ↓n63_d, ↓e_ss, ↓e_ssL, ↓e_ssF, ↓e_never, ↓e_kget, ↓str_ex, ↓e_disp, ↓e_vnil, ↓e_vcons, ↓f_equ, ↓dgTup_tup, ↓dgCons_cons, ↓dgNil_nil, ite_t, ite_f, itK_not, List.cons_append, List.nil_append, List.append_nil, List.replicate, List.flatten_cons, List.flatten_nil, List.append_eq, List.length_cons, List.length_nil, Nat.zero_add, Nat.reduceAdd, true_and, and_true, eqOk_str, eqOk_int, eqOk_bool, str_eqv, int_eqv, tup_nil_eqv, lst_nil_eqv, rep_flat, isK_int, isK_bool, isK_tuple, isK_str, kInt, kBool, kTuple, kStr, GB.isNon, Bool.not_true, Bool.not_false, Bool.or_false, Bool.or_true, Bool.false_or, Bool.true_or, reduceCtorEq, wipeD, List.set, ↓s_draw]
  refine ⟨by decide, fun r r0 r1 => ?_⟩
  have r1 := r1 (by decide)
  obtain ⟨m, rfl⟩ : ∃ m : Nat, r = m := ⟨r.toNat, by omega⟩
  refine ⟨big (by omega), low, line_ge (by rw [irow_len]; simp; omega), all_run (P := Vz 2 10) (fun acc l1 l2 => q acc (by rw [l1, irow_len]; simp; omega) l2) fun d hd acc K2 hK2 => ?_⟩
  simp only [↓at0, ↓set0, ↓at1, ↓set1, ↓at2, ↓set2, ↓at3, ↓set3, ↓at4, ↓set4, ↓at5, ↓set5, ↓at6, ↓set6, ↓at7, ↓set7, ↓at8, ↓set8, ↓at9, ↓set9, ↓at10, ↓set10, ↓at11, ↓set11, ↓at12, ↓set12, ↓at13, ↓set13, ↓at14, ↓set14, ↓at15, ↓set15, ↓fz_d, ↓fz_own, ↓fz_ob, ↓one_d, ↓int_d, ↓bool_d, ↓own_o, ↓ds_nil, ↓ds_cons, ↓seq_l, ↓seq_t, ↓ite_t, ↓ite_f, ↓e_next, ↓e_seq, ↓e_set, ↓e_drop, ↓e_ret, ↓e_ifs, ↓e_brk, ↓e_cnt, ↓e_fixs, ↓e_par, ↓e_par3, ↓e_asg, ↓e_for, ↓e_putAt, ↓e_jput, ↓e_var, ↓e_k, ↓e_fz, ↓e_op, ↓e_opL, ↓e_opR, ↓e_n, ↓e_n1, ↓e_nil, ↓e_cons, ↓e_tup, ↓e_lst, ↓e_b, ↓e_not, ↓e_and, ↓e_or, ↓e_andV, ↓e_orV, ↓e_notV, ↓e_if, ↓e_isi, ↓e_neg, ↓e_chain, ↓e_call, ↓e_callK, ↓e_jint, ↓e_dict0, ↓e_dict1, ↓e_listRng, ↓e_append, ↓e_cut, ↓e_cutO, ↓e_onone, ↓e_osome, ↓e_iseq, ↓e_ienum, ↓e_irng, ↓e_gname, ↓e_lnil, ↓e_lcons, ↓e_lc, ↓e_yes, ↓f_addI, ↓f_addS, ↓f_addT, ↓f_addL, ↓f_i2, ↓f_mulI, ↓f_mulT, ↓f_mulL, ↓f_eq, ↓f_ne, ↓f_is, ↓f_isnot, ↓f_in, ↓f_notin, ↓f_ixL, ↓f_ixT, ↓f_lenL, ↓f_lenT, ↓f_lenS, ↓f_abs, ↓f_intI, ↓f_intB, ↓f_tupL, ↓f_tupT, ↓f_lstL, ↓f_lstT, ↓f_repr, ↓f_cutL, ↓f_cutT, ↓firm_d, ↓firm_ob, ↓zip_l, ↓zip_t, ↓e_izip, ↓zip_cons, ↓zip_nil1, ↓zip_nil2, ↓f_sorted, ↓e_inn, ↓e_inc, ↓e_l2n, ↓e_l2c, ↓e_lc2, ↓e_rev, ↓e_pop, ↓e_popAt, ↓e_extend, ↓e_lc3, ↓e_gon, ↓e_goc, ↓e_dbMid, ↓e_dbIn, ↓f_neu, ↓e_ifT, ↓e_newD, ↓e_retO, ↓e_fixK, ↓e_putO, ↓e_dkO, ↓e_dkF, ↓e_kdO, ↓e_kdF, ↓e_get2O, ↓e_get2F, ↓e_ListD, ↓e_ListF, ↓od_o, ↓dct_d, ↓key_int, ↓key_str, ↓g_item, ↓g_get, ↓g_in, ↓g_notin, ↓h_list, ↓fz_od, ↓ow_ex, ↓e_tr, ↓e_trO, ↓e_trK, ↓tru_b, ↓tru_n, ↓tru_i, ↓tru_l, ↓tru_t, ↓tru_s, ↓e_i63, ↓n63_d, ↓e_ss, ↓e_ssL, ↓e_ssF, ↓e_never, ↓e_kget, ↓str_ex, ↓e_disp, ↓e_vnil, ↓e_vcons, ↓f_equ, ↓dgTup_tup, ↓dgCons_cons, ↓dgNil_nil, ite_t, ite_f, itK_not, List.cons_append, List.nil_append, List.append_nil, List.replicate, List.flatten_cons, List.flatten_nil, List.append_eq, List.length_cons, List.length_nil, Nat.zero_add, Nat.reduceAdd, true_and, and_true, eqOk_str, eqOk_int, eqOk_bool, str_eqv, int_eqv, tup_nil_eqv, lst_nil_eqv, rep_flat, isK_int, isK_bool, isK_tuple, isK_str, kInt, kBool, kTuple, kStr, GB.isNon, Bool.not_true, Bool.not_false, Bool.or_false, Bool.or_true, Bool.false_or, Bool.true_or, reduceCtorEq, wipeD, List.set]
  exact s_aline fun x hx => one_d.mpr (hK2 x hx)
theorem s_oddI {k : S → Prop} : F_l_odd [.ob .jar] k ↔ ∀ x, Vz 3 10 x → k (.d x) := ⟨fun ⟨_, h⟩ => h, fun h => ⟨rfl, h⟩⟩
theorem s_prog {k : S → Prop} (h : ∀ xs : List PyData, xs.length ≤ 6 → (∀ x ∈ xs, Vz 2 10 x) → k (.d (.tuple xs))) : F_l_program [.ob .jar] k := ⟨rfl, h⟩
theorem s_bent {k : S → Prop} {xs : List PyData} {D W : Nat} (v : Vz D W (.tuple xs)) (h1 : 2 ≤ D) (h2 : D ≤ 20) (h3 : W ≤ 5000) (h : ∀ y, Vz (D + 3) (7 * W + 100) y → k (.d y)) : F_l_bent [.ob .jar, .d (.tuple xs)] k := ⟨xs, D, W, rfl, v, h1, h2, h3, h⟩
theorem s_told {k : S → Prop} {cs : List (List PyData × PyData)} {rm lk : List PyData} {one every : PyData} {b : Bool} {D W : Nat} (hs : StOk cs) (hr : RmOk cs.length rm lk) (v1 : Vz D W one) (v2 : Vz D W every) (hD : D ≤ 40) (hW : W ≤ 20000) (h : k (.d (.bool true))) : F_l_is_told [.d (stD cs rm lk), .d one, .d every, .d (.bool b)] k := ⟨cs, rm, lk, one, every, b, D, W, rfl, hs, hr, v1, v2, hD, hW, h⟩
theorem vz_n {D W : Nat} {xs : List PyData} (h : ∀ x ∈ xs, Vz D W x) : Vz (D + 1) (xs.length * (W + 1)) (.tuple xs) := by
  refine vz_t.mpr ⟨fun x hx => let q := h x hx; ⟨q.sh, q.ls, q.dp⟩, ?_⟩
  induction xs with
  | nil => simp
  | cons x xs ih =>
    have a := ih fun z hz => h z (by simp [hz])
    have b := (h x (by simp)).bk
    simp only [List.map_cons, List.sum_cons, List.length_cons]
    rw [Nat.add_mul]; omega
theorem ma_law : ∀ ss R, ss.length = 1 → F_law ss R → rd_law { nx := fun _ => R (.d .none), rt := R } (ss ++ List.replicate 12 .un) := by
  rintro _ R - ⟨ns, rfl, hn, q⟩
  unfold rd_law
  simp only [↓at0, ↓set0, ↓at1, ↓set1, ↓at2, ↓set2, ↓at3, ↓set3, ↓at4, ↓set4, ↓at5, ↓set5, ↓at6, ↓set6, ↓at7, ↓set7, ↓at8, ↓set8, ↓at9, ↓set9, ↓at10, ↓set10, ↓at11, ↓set11, ↓at12, ↓set12, ↓at13, ↓set13, ↓at14, ↓set14, ↓at15, ↓set15, ↓fz_d, ↓fz_own, ↓fz_ob, ↓one_d, ↓int_d, ↓bool_d, ↓own_o, ↓ds_nil, ↓ds_cons, ↓seq_l, ↓seq_t, ↓ite_t, ↓ite_f, ↓e_next, ↓e_seq, ↓e_set, ↓e_drop, ↓e_ret, ↓e_ifs, ↓e_brk, ↓e_cnt, ↓e_fixs, ↓e_par, ↓e_par3, ↓e_asg, ↓e_for, ↓e_putAt, ↓e_jput, ↓e_var, ↓e_k, ↓e_fz, ↓e_op, ↓e_opL, ↓e_opR, ↓e_n, ↓e_n1, ↓e_nil, ↓e_cons, ↓e_tup, ↓e_lst, ↓e_b, ↓e_not, ↓e_and, ↓e_or, ↓e_andV, ↓e_orV, ↓e_notV, ↓e_if, ↓e_isi, ↓e_neg, ↓e_chain, ↓e_call, ↓e_callK, ↓e_jint, ↓e_dict0, ↓e_dict1, ↓e_listRng, ↓e_append, ↓e_cut, ↓e_cutO, ↓e_onone, ↓e_osome, ↓e_iseq, ↓e_ienum, ↓e_irng, ↓e_gname, ↓e_lnil, ↓e_lcons, ↓e_lc, ↓e_yes, ↓f_addI, ↓f_addS, ↓f_addT, ↓f_addL, ↓f_i2, ↓f_mulI, ↓f_mulT, ↓f_mulL, ↓f_eq, ↓f_ne, ↓f_is, ↓f_isnot, ↓f_in, ↓f_notin, ↓f_ixL, ↓f_ixT, ↓f_lenL, ↓f_lenT, ↓f_lenS, ↓f_abs, ↓f_intI, ↓f_intB, ↓f_tupL, ↓f_tupT, ↓f_lstL, ↓f_lstT, ↓f_repr, ↓f_cutL, ↓f_cutT, ↓firm_d, ↓firm_ob, ↓zip_l, ↓zip_t, ↓e_izip, ↓zip_cons, ↓zip_nil1, ↓zip_nil2, ↓f_sorted, ↓e_inn, ↓e_inc, ↓e_l2n, ↓e_l2c, ↓e_lc2, ↓e_rev, ↓e_pop, ↓e_popAt, ↓e_extend, ↓e_lc3, ↓e_gon, ↓e_goc, ↓e_dbMid, ↓e_dbIn, ↓f_neu, ↓e_ifT, ↓e_newD, ↓e_retO, ↓e_fixK, ↓e_putO, ↓e_dkO, ↓e_dkF, ↓e_kdO, ↓e_kdF, ↓e_get2O, ↓e_get2F, ↓e_ListD, ↓e_ListF, ↓od_o, ↓dct_d, ↓key_int, ↓key_str, ↓g_item, ↓g_get, ↓g_in, ↓g_notin, ↓h_list, ↓fz_od, ↓ow_ex, ↓e_tr, ↓e_trO, ↓e_trK, ↓tru_b, ↓tru_n, ↓tru_i, ↓tru_l, ↓tru_t, ↓tru_s, ↓e_i63, ↓n63_d, ↓e_ss, ↓e_ssL, ↓e_ssF, ↓e_never, ↓e_kget, ↓str_ex, ↓e_disp, ↓e_vnil, ↓e_vcons, ↓f_equ, ↓dgTup_tup, ↓dgCons_cons, ↓dgNil_nil, ite_t, ite_f, itK_not, List.cons_append, List.nil_append, List.append_nil, List.replicate, List.flatten_cons, List.flatten_nil, List.append_eq, List.length_cons, List.length_nil, Nat.zero_add, Nat.reduceAdd, true_and, and_true, eqOk_str, eqOk_int, eqOk_bool, str_eqv, int_eqv, tup_nil_eqv, lst_nil_eqv, rep_flat, isK_int, isK_bool, isK_tuple, isK_str, kInt, kBool, kTuple, kStr, GB.isNon, Bool.not_true, Bool.not_false, Bool.or_false, Bool.or_true, Bool.false_or, Bool.true_or, reduceCtorEq, ]
  refine ⟨ns, rfl, hn, ?_⟩
  simp only [↓at0, ↓set0, ↓at1, ↓set1, ↓at2, ↓set2, ↓at3, ↓set3, ↓at4, ↓set4, ↓at5, ↓set5, ↓at6, ↓set6, ↓at7, ↓set7, ↓at8, ↓set8, ↓at9, ↓set9, ↓at10, ↓set10, ↓at11, ↓set11, ↓at12, ↓set12, ↓at13, ↓set13, ↓at14, ↓set14, ↓at15, ↓set15, ↓fz_d, ↓fz_own, ↓fz_ob, ↓one_d, ↓int_d, ↓bool_d, ↓own_o, ↓ds_nil, ↓ds_cons, ↓seq_l, ↓seq_t, ↓ite_t, ↓ite_f, ↓e_next, ↓e_seq, ↓e_set, ↓e_drop, ↓e_ret, ↓e_ifs, ↓e_brk, ↓e_cnt, ↓e_fixs, ↓e_par, ↓e_par3, ↓e_asg, ↓e_for, ↓e_putAt, ↓e_jput, ↓e_var, ↓e_k, ↓e_fz, ↓e_op, ↓e_opL, ↓e_opR, ↓e_n, ↓e_n1, ↓e_nil, ↓e_cons, ↓e_tup, ↓e_lst, ↓e_b, ↓e_not, ↓e_and, ↓e_or, ↓e_andV, ↓e_orV, ↓e_notV, ↓e_if, ↓e_isi, ↓e_neg, ↓e_chain, ↓e_call, ↓e_callK, ↓e_jint, ↓e_dict0, ↓e_dict1, ↓e_listRng, ↓e_append, ↓e_cut, ↓e_cutO, ↓e_onone, ↓e_osome, ↓e_iseq, ↓e_ienum, ↓e_irng, ↓e_gname, ↓e_lnil, ↓e_lcons, ↓e_lc, ↓e_yes, ↓f_addI, ↓f_addS, ↓f_addT, ↓f_addL, ↓f_i2, ↓f_mulI, ↓f_mulT, ↓f_mulL, ↓f_eq, ↓f_ne, ↓f_is, ↓f_isnot, ↓f_in, ↓f_notin, ↓f_ixL, ↓f_ixT, ↓f_lenL, ↓f_lenT, ↓f_lenS, ↓f_abs, ↓f_intI, ↓f_intB, ↓f_tupL, ↓f_tupT, ↓f_lstL, ↓f_lstT, ↓f_repr, ↓f_cutL, ↓f_cutT, ↓firm_d, ↓firm_ob, ↓zip_l, ↓zip_t, ↓e_izip, ↓zip_cons, ↓zip_nil1, ↓zip_nil2, ↓f_sorted, ↓e_inn, ↓e_inc, ↓e_l2n, ↓e_l2c, ↓e_lc2, ↓e_rev, ↓e_pop, ↓e_popAt, ↓e_extend, ↓e_lc3, ↓e_gon, ↓e_goc, ↓e_dbMid, ↓e_dbIn, ↓f_neu, ↓e_ifT, ↓e_newD, ↓e_retO, ↓e_fixK, ↓e_putO, ↓e_dkO, ↓e_dkF, ↓e_kdO, ↓e_kdF, ↓e_get2O, ↓e_get2F, ↓e_ListD, ↓e_ListF, ↓od_o, ↓dct_d, ↓key_int, ↓key_str, ↓g_item, ↓g_get, ↓g_in, ↓g_notin, ↓h_list, ↓fz_od, ↓ow_ex, ↓e_tr, ↓e_trO, ↓e_trK, ↓tru_b, ↓tru_n, ↓tru_i, ↓tru_l, ↓tru_t, ↓tru_s, ↓e_i63, ↓n63_d, ↓e_ss, ↓e_ssL, ↓e_ssF, ↓e_never, ↓e_kget, ↓str_ex, ↓e_disp, ↓e_vnil, ↓e_vcons, ↓f_equ, ↓dgTup_tup, ↓dgCons_cons, ↓dgNil_nil, ite_t, ite_f, itK_not, List.cons_append, List.nil_append, List.append_nil, List.replicate, List.flatten_cons, List.flatten_nil, List.append_eq, List.length_cons, List.length_nil, Nat.zero_add, Nat.reduceAdd, true_and, and_true, eqOk_str, eqOk_int, eqOk_bool, str_eqv, int_eqv, tup_nil_eqv, lst_nil_eqv, rep_flat, isK_int, isK_bool, isK_tuple, isK_str, kInt, kBool, kTuple, kStr, GB.isNon, Bool.not_true, Bool.not_false, Bool.or_false, Bool.or_true, Bool.false_or, Bool.true_or, reduceCtorEq, ]
  refine ⟨by decide, by decide, loopR (fun k n ρ => ∃ s2 s3 s4 s5 s6 s7 s8 s9 s10 s11, ρ = [S.ob (.scr ns), S.ob .jar, s2, s3, s4, s5, s6, s7, s8, s9, s10, s11, .un]) ?_ ?_ _ 0 _ ⟨_, _, _, _, _, _, _, _, _, _, rfl⟩⟩
  · rintro k _ ⟨s2, s3, s4, s5, s6, s7, s8, s9, s10, s11, rfl⟩
    simp only [↓at0, ↓set0, ↓at1, ↓set1, ↓at2, ↓set2, ↓at3, ↓set3, ↓at4, ↓set4, ↓at5, ↓set5, ↓at6, ↓set6, ↓at7, ↓set7, ↓at8, ↓set8, ↓at9, ↓set9, ↓at10, ↓set10, ↓at11, ↓set11, ↓at12, ↓set12, ↓at13, ↓set13, ↓at14, ↓set14, ↓at15, ↓set15, ↓fz_d, ↓fz_own, ↓fz_ob, ↓one_d, ↓int_d, ↓bool_d, ↓own_o, ↓ds_nil, ↓ds_cons, ↓seq_l, ↓seq_t, ↓ite_t, ↓ite_f, ↓e_next, ↓e_seq, ↓e_set, ↓e_drop, ↓e_ret, ↓e_ifs, ↓e_brk, ↓e_cnt, ↓e_fixs, ↓e_par, ↓e_par3, ↓e_asg, ↓e_for, ↓e_putAt, ↓e_jput, ↓e_var, ↓e_k, ↓e_fz, ↓e_op, ↓e_opL, ↓e_opR, ↓e_n, ↓e_n1, ↓e_nil, ↓e_cons, ↓e_tup, ↓e_lst, ↓e_b, ↓e_not, ↓e_and, ↓e_or, ↓e_andV, ↓e_orV, ↓e_notV, ↓e_if, ↓e_isi, ↓e_neg, ↓e_chain, ↓e_call, ↓e_callK, ↓e_jint, ↓e_dict0, ↓e_dict1, ↓e_listRng, ↓e_append, ↓e_cut, ↓e_cutO, ↓e_onone, ↓e_osome, ↓e_iseq, ↓e_ienum, ↓e_irng, ↓e_gname, ↓e_lnil, ↓e_lcons, ↓e_lc, ↓e_yes, ↓f_addI, ↓f_addS, ↓f_addT, ↓f_addL, ↓f_i2, ↓f_mulI, ↓f_mulT, ↓f_mulL, ↓f_eq, ↓f_ne, ↓f_is, ↓f_isnot, ↓f_in, ↓f_notin, ↓f_ixL, ↓f_ixT, ↓f_lenL, ↓f_lenT, ↓f_lenS, ↓f_abs, ↓f_intI, ↓f_intB, ↓f_tupL, ↓f_tupT, ↓f_lstL, ↓f_lstT, ↓f_repr, ↓f_cutL, ↓f_cutT, ↓firm_d, ↓firm_ob, ↓zip_l, ↓zip_t, ↓e_izip, ↓zip_cons, ↓zip_nil1, ↓zip_nil2, ↓f_sorted, ↓e_inn, ↓e_inc, ↓e_l2n, ↓e_l2c, ↓e_lc2, ↓e_rev, ↓e_pop, ↓e_popAt, ↓e_extend, ↓e_lc3, ↓e_gon, ↓e_goc, ↓e_dbMid, ↓e_dbIn, ↓f_neu, ↓e_ifT, ↓e_newD, ↓e_retO, ↓e_fixK, ↓e_putO, ↓e_dkO, ↓e_dkF, ↓e_kdO, ↓e_kdF, ↓e_get2O, ↓e_get2F, ↓e_ListD, ↓e_ListF, ↓od_o, ↓dct_d, ↓key_int, ↓key_str, ↓g_item, ↓g_get, ↓g_in, ↓g_notin, ↓h_list, ↓fz_od, ↓ow_ex, ↓e_tr, ↓e_trO, ↓e_trK, ↓tru_b, ↓tru_n, ↓tru_i, ↓tru_l, ↓tru_t, ↓tru_s, ↓e_i63, ↓n63_d, ↓e_ss, ↓e_ssL, ↓e_ssF, ↓e_never, ↓e_kget, ↓str_ex, ↓e_disp, ↓e_vnil, ↓e_vcons, ↓f_equ, ↓dgTup_tup, ↓dgCons_cons, ↓dgNil_nil, ite_t, ite_f, itK_not, List.cons_append, List.nil_append, List.append_nil, List.replicate, List.flatten_cons, List.flatten_nil, List.append_eq, List.length_cons, List.length_nil, Nat.zero_add, Nat.reduceAdd, true_and, and_true, eqOk_str, eqOk_int, eqOk_bool, str_eqv, int_eqv, tup_nil_eqv, lst_nil_eqv, rep_flat, isK_int, isK_bool, isK_tuple, isK_str, kInt, kBool, kTuple, kStr, GB.isNon, Bool.not_true, Bool.not_false, Bool.or_false, Bool.or_true, Bool.false_or, Bool.true_or, reduceCtorEq, ]
    exact q
  · rintro k n _ K hK ⟨s2, s3, s4, s5, s6, s7, s8, s9, s10, s11, rfl⟩
    simp only [↓at0, ↓set0, ↓at1, ↓set1, ↓at2, ↓set2, ↓at3, ↓set3, ↓at4, ↓set4, ↓at5, ↓set5, ↓at6, ↓set6, ↓at7, ↓set7, ↓at8, ↓set8, ↓at9, ↓set9, ↓at10, ↓set10, ↓at11, ↓set11, ↓at12, ↓set12, ↓at13, ↓set13, ↓at14, ↓set14, ↓at15, ↓set15, ↓fz_d, ↓fz_own, ↓fz_ob, ↓one_d, ↓int_d, ↓bool_d, ↓own_o, ↓ds_nil, ↓ds_cons, ↓seq_l, ↓seq_t, ↓ite_t, ↓ite_f, ↓e_next, ↓e_seq, ↓e_set, ↓e_drop, ↓e_ret, ↓e_ifs, ↓e_brk, ↓e_cnt, ↓e_fixs, ↓e_par, ↓e_par3, ↓e_asg, ↓e_for, ↓e_putAt, ↓e_jput, ↓e_var, ↓e_k, ↓e_fz, ↓e_op, ↓e_opL, ↓e_opR, ↓e_n, ↓e_n1, ↓e_nil, ↓e_cons, ↓e_tup, ↓e_lst, ↓e_b, ↓e_not, ↓e_and, ↓e_or, ↓e_andV, ↓e_orV, ↓e_notV, ↓e_if, ↓e_isi, ↓e_neg, ↓e_chain, ↓e_call, ↓e_callK, ↓e_jint, ↓e_dict0, ↓e_dict1, ↓e_listRng, ↓e_append, ↓e_cut, ↓e_cutO, ↓e_onone, ↓e_osome, ↓e_iseq, ↓e_ienum, ↓e_irng, ↓e_gname, ↓e_lnil, ↓e_lcons, ↓e_lc, ↓e_yes, ↓f_addI, ↓f_addS, ↓f_addT, ↓f_addL, ↓f_i2, ↓f_mulI, ↓f_mulT, ↓f_mulL, ↓f_eq, ↓f_ne, ↓f_is, ↓f_isnot, ↓f_in, ↓f_notin, ↓f_ixL, ↓f_ixT, ↓f_lenL, ↓f_lenT, ↓f_lenS, ↓f_abs, ↓f_intI, ↓f_intB, ↓f_tupL, ↓f_tupT, ↓f_lstL, ↓f_lstT, ↓f_repr, ↓f_cutL, ↓f_cutT, ↓firm_d, ↓firm_ob, ↓zip_l, ↓zip_t, ↓e_izip, ↓zip_cons, ↓zip_nil1, ↓zip_nil2, ↓f_sorted, ↓e_inn, ↓e_inc, ↓e_l2n, ↓e_l2c, ↓e_lc2, ↓e_rev, ↓e_pop, ↓e_popAt, ↓e_extend, ↓e_lc3, ↓e_gon, ↓e_goc, ↓e_dbMid, ↓e_dbIn, ↓f_neu, ↓e_ifT, ↓e_newD, ↓e_retO, ↓e_fixK, ↓e_putO, ↓e_dkO, ↓e_dkF, ↓e_kdO, ↓e_kdF, ↓e_get2O, ↓e_get2F, ↓e_ListD, ↓e_ListF, ↓od_o, ↓dct_d, ↓key_int, ↓key_str, ↓g_item, ↓g_get, ↓g_in, ↓g_notin, ↓h_list, ↓fz_od, ↓ow_ex, ↓e_tr, ↓e_trO, ↓e_trK, ↓tru_b, ↓tru_n, ↓tru_i, ↓tru_l, ↓tru_t, ↓tru_s, ↓e_i63, ↓n63_d, ↓e_ss, ↓e_ssL, ↓e_ssF, ↓e_never, ↓e_kget, ↓str_ex, ↓e_disp, ↓e_vnil, ↓e_vcons, ↓f_equ, ↓dgTup_tup, ↓dgCons_cons, ↓dgNil_nil, ite_t, ite_f, itK_not, List.cons_append, List.nil_append, List.append_nil, List.replicate, List.flatten_cons, List.flatten_nil, List.append_eq, List.length_cons, List.length_nil, Nat.zero_add, Nat.reduceAdd, true_and, and_true, eqOk_str, eqOk_int, eqOk_bool, str_eqv, int_eqv, tup_nil_eqv, lst_nil_eqv, rep_flat, isK_int, isK_bool, isK_tuple, isK_str, kInt, kBool, kTuple, kStr, GB.isNon, Bool.not_true, Bool.not_false, Bool.or_false, Bool.or_true, Bool.false_or, Bool.true_or, reduceCtorEq, ↓s_pick, ↓s_draw]
    refine ⟨by decide, fun r r0 r1 => ⟨by decide, fun c c0 c1 => ?_⟩⟩
    have r1 := r1 (by decide)
    have c1 := c1 (by decide)
    obtain ⟨m, em⟩ := one_plus r0
    obtain ⟨c, rfl⟩ : ∃ c' : Nat, c = c' := ⟨c.toNat, by omega⟩
    rw [em]
    refine s_begin (m := 1) (by omega) (by omega) (by decide) fun cs rm lk h1 hs hr hrl => ?_
    have hr : RmOk cs.length rm lk := by rw [h1]; exact hr
    simp only [↓at0, ↓set0, ↓at1, ↓set1, ↓at2, ↓set2, ↓at3, ↓set3, ↓at4, ↓set4, ↓at5, ↓set5, ↓at6, ↓set6, ↓at7, ↓set7, ↓at8, ↓set8, ↓at9, ↓set9, ↓at10, ↓set10, ↓at11, ↓set11, ↓at12, ↓set12, ↓at13, ↓set13, ↓at14, ↓set14, ↓at15, ↓set15, ↓fz_d, ↓fz_own, ↓fz_ob, ↓one_d, ↓int_d, ↓bool_d, ↓own_o, ↓ds_nil, ↓ds_cons, ↓seq_l, ↓seq_t, ↓ite_t, ↓ite_f, ↓e_next, ↓e_seq, ↓e_set, ↓e_drop, ↓e_ret, ↓e_ifs, ↓e_brk, ↓e_cnt, ↓e_fixs, ↓e_par, ↓e_par3, ↓e_asg, ↓e_for, ↓e_putAt, ↓e_jput, ↓e_var, ↓e_k, ↓e_fz, ↓e_op, ↓e_opL, ↓e_opR, ↓e_n, ↓e_n1, ↓e_nil, ↓e_cons, ↓e_tup, ↓e_lst, ↓e_b, ↓e_not, ↓e_and, ↓e_or, ↓e_andV, ↓e_orV, ↓e_notV, ↓e_if, ↓e_isi, ↓e_neg, ↓e_chain, ↓e_call, ↓e_callK, ↓e_jint, ↓e_dict0, ↓e_dict1, ↓e_listRng, ↓e_append, ↓e_cut, ↓e_cutO, ↓e_onone, ↓e_osome, ↓e_iseq, ↓e_ienum, ↓e_irng, ↓e_gname, ↓e_lnil, ↓e_lcons, ↓e_lc, ↓e_yes, ↓f_addI, ↓f_addS, ↓f_addT, ↓f_addL, ↓f_i2, ↓f_mulI, ↓f_mulT, ↓f_mulL, ↓f_eq, ↓f_ne, ↓f_is, ↓f_isnot, ↓f_in, ↓f_notin, ↓f_ixL, ↓f_ixT, ↓f_lenL, ↓f_lenT, ↓f_lenS, ↓f_abs, ↓f_intI, ↓f_intB, ↓f_tupL, ↓f_tupT, ↓f_lstL, ↓f_lstT, ↓f_repr, ↓f_cutL, ↓f_cutT, ↓firm_d, ↓firm_ob, ↓zip_l, ↓zip_t, ↓e_izip, ↓zip_cons, ↓zip_nil1, ↓zip_nil2, ↓f_sorted, ↓e_inn, ↓e_inc, ↓e_l2n, ↓e_l2c, ↓e_lc2, ↓e_rev, ↓e_pop, ↓e_popAt, ↓e_extend, ↓e_lc3, ↓e_gon, ↓e_goc, ↓e_dbMid, ↓e_dbIn, ↓f_neu, ↓e_ifT, ↓e_newD, ↓e_retO, ↓e_fixK, ↓e_putO, ↓e_dkO, ↓e_dkF, ↓e_kdO, ↓e_kdF, ↓e_get2O, ↓e_get2F, ↓e_ListD, ↓e_ListF, ↓od_o, ↓dct_d, ↓key_int, ↓key_str, ↓g_item, ↓g_get, ↓g_in, ↓g_notin, ↓h_list, ↓fz_od, ↓ow_ex, ↓e_tr, ↓e_trO, ↓e_trK, ↓tru_b, ↓tru_n, ↓tru_i, ↓tru_l, ↓tru_t, ↓tru_s, ↓e_i63, ↓n63_d, ↓e_ss, ↓e_ssL, ↓e_ssF, ↓e_never, ↓e_kget, ↓str_ex, ↓e_disp, ↓e_vnil, ↓e_vcons, ↓f_equ, ↓dgTup_tup, ↓dgCons_cons, ↓dgNil_nil, ite_t, ite_f, itK_not, List.cons_append, List.nil_append, List.append_nil, List.replicate, List.flatten_cons, List.flatten_nil, List.append_eq, List.length_cons, List.length_nil, Nat.zero_add, Nat.reduceAdd, true_and, and_true, eqOk_str, eqOk_int, eqOk_bool, str_eqv, int_eqv, tup_nil_eqv, lst_nil_eqv, rep_flat, isK_int, isK_bool, isK_tuple, isK_str, kInt, kBool, kTuple, kStr, GB.isNon, Bool.not_true, Bool.not_false, Bool.or_false, Bool.or_true, Bool.false_or, Bool.true_or, reduceCtorEq, wipeD, List.set]
    refine ⟨big (by omega), low, line_ge (by rw [irow_len]; simp; omega), all_run (P := fun x => ∃ xs, x = .tuple xs ∧ Vz 3 70 (.tuple xs)) (fun acc l1 l2 => ?_) fun d hd acc K2 hK2 => ?_⟩
    · rw [irow_len] at l1
      have l1 : acc.length = m := by simpa using l1
      have ve : Vz 4 300 (.tuple acc) := (vz_n (D := 3) (W := 70) fun x hx => by obtain ⟨xs, rfl, h⟩ := l2 x hx; exact h).mono (by decide) (by have : acc.length * 71 ≤ 4 * 71 := Nat.mul_le_mul_right _ (by omega); omega)
      have ha : 0 < acc.length := by omega
      obtain ⟨p0, e0, vp⟩ := l2 acc[0] (List.getElem_mem ha)
      have a0 : atI acc 0 = some (.tuple p0) := by rw [← e0]; exact at_n (n := 0) (List.getElem?_eq_getElem ha)
      simp only [↓at0, ↓set0, ↓at1, ↓set1, ↓at2, ↓set2, ↓at3, ↓set3, ↓at4, ↓set4, ↓at5, ↓set5, ↓at6, ↓set6, ↓at7, ↓set7, ↓at8, ↓set8, ↓at9, ↓set9, ↓at10, ↓set10, ↓at11, ↓set11, ↓at12, ↓set12, ↓at13, ↓set13, ↓at14, ↓set14, ↓at15, ↓set15, ↓fz_d, ↓fz_own, ↓fz_ob, ↓one_d, ↓int_d, ↓bool_d, ↓own_o, ↓ds_nil, ↓ds_cons, ↓seq_l, ↓seq_t, ↓ite_t, ↓ite_f, ↓e_next, ↓e_seq, ↓e_set, ↓e_drop, ↓e_ret, ↓e_ifs, ↓e_brk, ↓e_cnt, ↓e_fixs, ↓e_par, ↓e_par3, ↓e_asg, ↓e_for, ↓e_putAt, ↓e_jput, ↓e_var, ↓e_k, ↓e_fz, ↓e_op, ↓e_opL, ↓e_opR, ↓e_n, ↓e_n1, ↓e_nil, ↓e_cons, ↓e_tup, ↓e_lst, ↓e_b, ↓e_not, ↓e_and, ↓e_or, ↓e_andV, ↓e_orV, ↓e_notV, ↓e_if, ↓e_isi, ↓e_neg, ↓e_chain, ↓e_call, ↓e_callK, ↓e_jint, ↓e_dict0, ↓e_dict1, ↓e_listRng, ↓e_append, ↓e_cut, ↓e_cutO, ↓e_onone, ↓e_osome, ↓e_iseq, ↓e_ienum, ↓e_irng, ↓e_gname, ↓e_lnil, ↓e_lcons, ↓e_lc, ↓e_yes, ↓f_addI, ↓f_addS, ↓f_addT, ↓f_addL, ↓f_i2, ↓f_mulI, ↓f_mulT, ↓f_mulL, ↓f_eq, ↓f_ne, ↓f_is, ↓f_isnot, ↓f_in, ↓f_notin, ↓f_ixL, ↓f_ixT, ↓f_lenL, ↓f_lenT, ↓f_lenS, ↓f_abs, ↓f_intI, ↓f_intB, ↓f_tupL, ↓f_tupT, ↓f_lstL, ↓f_lstT, ↓f_repr, ↓f_cutL, ↓f_cutT, ↓firm_d, ↓firm_ob, ↓zip_l, ↓zip_t, ↓e_izip, ↓zip_cons, ↓zip_nil1, ↓zip_nil2, ↓f_sorted, ↓e_inn, ↓e_inc, ↓e_l2n, ↓e_l2c, ↓e_lc2, ↓e_rev, ↓e_pop, ↓e_popAt, ↓e_extend, ↓e_lc3, ↓e_gon, ↓e_goc, ↓e_dbMid, ↓e_dbIn, ↓f_neu, ↓e_ifT, ↓e_newD, ↓e_retO, ↓e_fixK, ↓e_putO, ↓e_dkO, ↓e_dkF, ↓e_kdO, ↓e_kdF, ↓e_get2O, ↓e_get2F, ↓e_ListD, ↓e_ListF, ↓od_o, ↓dct_d, ↓key_int, ↓key_str, ↓g_item, ↓g_get, ↓g_in, ↓g_notin, ↓h_list, ↓fz_od, ↓ow_ex, ↓e_tr, ↓e_trO, ↓e_trK, ↓tru_b, ↓tru_n, ↓tru_i, ↓tru_l, ↓tru_t, ↓tru_s, ↓e_i63, ↓n63_d, ↓e_ss, ↓e_ssL, ↓e_ssF, ↓e_never, ↓e_kget, ↓str_ex, ↓e_disp, ↓e_vnil, ↓e_vcons, ↓f_equ, ↓dgTup_tup, ↓dgCons_cons, ↓dgNil_nil, ite_t, ite_f, itK_not, List.cons_append, List.nil_append, List.append_nil, List.replicate, List.flatten_cons, List.flatten_nil, List.append_eq, List.length_cons, List.length_nil, Nat.zero_add, Nat.reduceAdd, true_and, and_true, eqOk_str, eqOk_int, eqOk_bool, str_eqv, int_eqv, tup_nil_eqv, lst_nil_eqv, rep_flat, isK_int, isK_bool, isK_tuple, isK_str, kInt, kBool, kTuple, kStr, GB.isNon, Bool.not_true, Bool.not_false, Bool.or_false, Bool.or_true, Bool.false_or, Bool.true_or, reduceCtorEq, ↓ixn a0]
      refine s_told (D := 4) (W := 300) hs hr (vp.mono (by decide) (by decide)) ve (by decide) (by decide) ?_
      simp only [↓at0, ↓set0, ↓at1, ↓set1, ↓at2, ↓set2, ↓at3, ↓set3, ↓at4, ↓set4, ↓at5, ↓set5, ↓at6, ↓set6, ↓at7, ↓set7, ↓at8, ↓set8, ↓at9, ↓set9, ↓at10, ↓set10, ↓at11, ↓set11, ↓at12, ↓set12, ↓at13, ↓set13, ↓at14, ↓set14, ↓at15, ↓set15, ↓fz_d, ↓fz_own, ↓fz_ob, ↓one_d, ↓int_d, ↓bool_d, ↓own_o, ↓ds_nil, ↓ds_cons, ↓seq_l, ↓seq_t, ↓ite_t, ↓ite_f, ↓e_next, ↓e_seq, ↓e_set, ↓e_drop, ↓e_ret, ↓e_ifs, ↓e_brk, ↓e_cnt, ↓e_fixs, ↓e_par, ↓e_par3, ↓e_asg, ↓e_for, ↓e_putAt, ↓e_jput, ↓e_var, ↓e_k, ↓e_fz, ↓e_op, ↓e_opL, ↓e_opR, ↓e_n, ↓e_n1, ↓e_nil, ↓e_cons, ↓e_tup, ↓e_lst, ↓e_b, ↓e_not, ↓e_and, ↓e_or, ↓e_andV, ↓e_orV, ↓e_notV, ↓e_if, ↓e_isi, ↓e_neg, ↓e_chain, ↓e_call, ↓e_callK, ↓e_jint, ↓e_dict0, ↓e_dict1, ↓e_listRng, ↓e_append, ↓e_cut, ↓e_cutO, ↓e_onone, ↓e_osome, ↓e_iseq, ↓e_ienum, ↓e_irng, ↓e_gname, ↓e_lnil, ↓e_lcons, ↓e_lc, ↓e_yes, ↓f_addI, ↓f_addS, ↓f_addT, ↓f_addL, ↓f_i2, ↓f_mulI, ↓f_mulT, ↓f_mulL, ↓f_eq, ↓f_ne, ↓f_is, ↓f_isnot, ↓f_in, ↓f_notin, ↓f_ixL, ↓f_ixT, ↓f_lenL, ↓f_lenT, ↓f_lenS, ↓f_abs, ↓f_intI, ↓f_intB, ↓f_tupL, ↓f_tupT, ↓f_lstL, ↓f_lstT, ↓f_repr, ↓f_cutL, ↓f_cutT, ↓firm_d, ↓firm_ob, ↓zip_l, ↓zip_t, ↓e_izip, ↓zip_cons, ↓zip_nil1, ↓zip_nil2, ↓f_sorted, ↓e_inn, ↓e_inc, ↓e_l2n, ↓e_l2c, ↓e_lc2, ↓e_rev, ↓e_pop, ↓e_popAt, ↓e_extend, ↓e_lc3, ↓e_gon, ↓e_goc, ↓e_dbMid, ↓e_dbIn, ↓f_neu, ↓e_ifT, ↓e_newD, ↓e_retO, ↓e_fixK, ↓e_putO, ↓e_dkO, ↓e_dkF, ↓e_kdO, ↓e_kdF, ↓e_get2O, ↓e_get2F, ↓e_ListD, ↓e_ListF, ↓od_o, ↓dct_d, ↓key_int, ↓key_str, ↓g_item, ↓g_get, ↓g_in, ↓g_notin, ↓h_list, ↓fz_od, ↓ow_ex, ↓e_tr, ↓e_trO, ↓e_trK, ↓tru_b, ↓tru_n, ↓tru_i, ↓tru_l, ↓tru_t, ↓tru_s, ↓e_i63, ↓n63_d, ↓e_ss, ↓e_ssL, ↓e_ssF, ↓e_never, ↓e_kget, ↓str_ex, ↓e_disp, ↓e_vnil, ↓e_vcons, ↓f_equ, ↓dgTup_tup, ↓dgCons_cons, ↓dgNil_nil, ite_t, ite_f, itK_not, List.cons_append, List.nil_append, List.append_nil, List.replicate, List.flatten_cons, List.flatten_nil, List.append_eq, List.length_cons, List.length_nil, Nat.zero_add, Nat.reduceAdd, true_and, and_true, eqOk_str, eqOk_int, eqOk_bool, str_eqv, int_eqv, tup_nil_eqv, lst_nil_eqv, rep_flat, isK_int, isK_bool, isK_tuple, isK_str, kInt, kBool, kTuple, kStr, GB.isNon, Bool.not_true, Bool.not_false, Bool.or_false, Bool.or_true, Bool.false_or, Bool.true_or, reduceCtorEq, ↓ixn a0]
      refine s_bent vp (by decide) (by decide) (by decide) fun one v1 => ?_
      simp only [↓at0, ↓set0, ↓at1, ↓set1, ↓at2, ↓set2, ↓at3, ↓set3, ↓at4, ↓set4, ↓at5, ↓set5, ↓at6, ↓set6, ↓at7, ↓set7, ↓at8, ↓set8, ↓at9, ↓set9, ↓at10, ↓set10, ↓at11, ↓set11, ↓at12, ↓set12, ↓at13, ↓set13, ↓at14, ↓set14, ↓at15, ↓set15, ↓fz_d, ↓fz_own, ↓fz_ob, ↓one_d, ↓int_d, ↓bool_d, ↓own_o, ↓ds_nil, ↓ds_cons, ↓seq_l, ↓seq_t, ↓ite_t, ↓ite_f, ↓e_next, ↓e_seq, ↓e_set, ↓e_drop, ↓e_ret, ↓e_ifs, ↓e_brk, ↓e_cnt, ↓e_fixs, ↓e_par, ↓e_par3, ↓e_asg, ↓e_for, ↓e_putAt, ↓e_jput, ↓e_var, ↓e_k, ↓e_fz, ↓e_op, ↓e_opL, ↓e_opR, ↓e_n, ↓e_n1, ↓e_nil, ↓e_cons, ↓e_tup, ↓e_lst, ↓e_b, ↓e_not, ↓e_and, ↓e_or, ↓e_andV, ↓e_orV, ↓e_notV, ↓e_if, ↓e_isi, ↓e_neg, ↓e_chain, ↓e_call, ↓e_callK, ↓e_jint, ↓e_dict0, ↓e_dict1, ↓e_listRng, ↓e_append, ↓e_cut, ↓e_cutO, ↓e_onone, ↓e_osome, ↓e_iseq, ↓e_ienum, ↓e_irng, ↓e_gname, ↓e_lnil, ↓e_lcons, ↓e_lc, ↓e_yes, ↓f_addI, ↓f_addS, ↓f_addT, ↓f_addL, ↓f_i2, ↓f_mulI, ↓f_mulT, ↓f_mulL, ↓f_eq, ↓f_ne, ↓f_is, ↓f_isnot, ↓f_in, ↓f_notin, ↓f_ixL, ↓f_ixT, ↓f_lenL, ↓f_lenT, ↓f_lenS, ↓f_abs, ↓f_intI, ↓f_intB, ↓f_tupL, ↓f_tupT, ↓f_lstL, ↓f_lstT, ↓f_repr, ↓f_cutL, ↓f_cutT, ↓firm_d, ↓firm_ob, ↓zip_l, ↓zip_t, ↓e_izip, ↓zip_cons, ↓zip_nil1, ↓zip_nil2, ↓f_sorted, ↓e_inn, ↓e_inc, ↓e_l2n, ↓e_l2c, ↓e_lc2, ↓e_rev, ↓e_pop, ↓e_popAt, ↓e_extend, ↓e_lc3, ↓e_gon, ↓e_goc, ↓e_dbMid, ↓e_dbIn, ↓f_neu, ↓e_ifT, ↓e_newD, ↓e_retO, ↓e_fixK, ↓e_putO, ↓e_dkO, ↓e_dkF, ↓e_kdO, ↓e_kdF, ↓e_get2O, ↓e_get2F, ↓e_ListD, ↓e_ListF, ↓od_o, ↓dct_d, ↓key_int, ↓key_str, ↓g_item, ↓g_get, ↓g_in, ↓g_notin, ↓h_list, ↓fz_od, ↓ow_ex, ↓e_tr, ↓e_trO, ↓e_trK, ↓tru_b, ↓tru_n, ↓tru_i, ↓tru_l, ↓tru_t, ↓tru_s, ↓e_i63, ↓n63_d, ↓e_ss, ↓e_ssL, ↓e_ssF, ↓e_never, ↓e_kget, ↓str_ex, ↓e_disp, ↓e_vnil, ↓e_vcons, ↓f_equ, ↓dgTup_tup, ↓dgCons_cons, ↓dgNil_nil, ite_t, ite_f, itK_not, List.cons_append, List.nil_append, List.append_nil, List.replicate, List.flatten_cons, List.flatten_nil, List.append_eq, List.length_cons, List.length_nil, Nat.zero_add, Nat.reduceAdd, true_and, and_true, eqOk_str, eqOk_int, eqOk_bool, str_eqv, int_eqv, tup_nil_eqv, lst_nil_eqv, rep_flat, isK_int, isK_bool, isK_tuple, isK_str, kInt, kBool, kTuple, kStr, GB.isNon, Bool.not_true, Bool.not_false, Bool.or_false, Bool.or_true, Bool.false_or, Bool.true_or, reduceCtorEq, ↓ixn a0]
      refine iteB (fun ht => ?aa) fun _ => ?bb
      case aa =>
        obtain ⟨ys, rfl⟩ : ∃ ys, one = .tuple ys := by
          cases one with
          | tuple ys => exact ⟨ys, rfl⟩
          | _ => cases ht
        refine s_bent v1 (by decide) (by decide) (by decide) fun tw v2 => ?_
        generalize hone : PyData.tuple ys = one at *
        simp only [↓at0, ↓set0, ↓at1, ↓set1, ↓at2, ↓set2, ↓at3, ↓set3, ↓at4, ↓set4, ↓at5, ↓set5, ↓at6, ↓set6, ↓at7, ↓set7, ↓at8, ↓set8, ↓at9, ↓set9, ↓at10, ↓set10, ↓at11, ↓set11, ↓at12, ↓set12, ↓at13, ↓set13, ↓at14, ↓set14, ↓at15, ↓set15, ↓fz_d, ↓fz_own, ↓fz_ob, ↓one_d, ↓int_d, ↓bool_d, ↓own_o, ↓ds_nil, ↓ds_cons, ↓seq_l, ↓seq_t, ↓ite_t, ↓ite_f, ↓e_next, ↓e_seq, ↓e_set, ↓e_drop, ↓e_ret, ↓e_ifs, ↓e_brk, ↓e_cnt, ↓e_fixs, ↓e_par, ↓e_par3, ↓e_asg, ↓e_for, ↓e_putAt, ↓e_jput, ↓e_var, ↓e_k, ↓e_fz, ↓e_op, ↓e_opL, ↓e_opR, ↓e_n, ↓e_n1, ↓e_nil, ↓e_cons, ↓e_tup, ↓e_lst, ↓e_b, ↓e_not, ↓e_and, ↓e_or, ↓e_andV, ↓e_orV, ↓e_notV, ↓e_if, ↓e_isi, ↓e_neg, ↓e_chain, ↓e_call, ↓e_callK, ↓e_jint, ↓e_dict0, ↓e_dict1, ↓e_listRng, ↓e_append, ↓e_cut, ↓e_cutO, ↓e_onone, ↓e_osome, ↓e_iseq, ↓e_ienum, ↓e_irng, ↓e_gname, ↓e_lnil, ↓e_lcons, ↓e_lc, ↓e_yes, ↓f_addI, ↓f_addS, ↓f_addT, ↓f_addL, ↓f_i2, ↓f_mulI, ↓f_mulT, ↓f_mulL, ↓f_eq, ↓f_ne, ↓f_is, ↓f_isnot, ↓f_in, ↓f_notin, ↓f_ixL, ↓f_ixT, ↓f_lenL, ↓f_lenT, ↓f_lenS, ↓f_abs, ↓f_intI, ↓f_intB, ↓f_tupL, ↓f_tupT, ↓f_lstL, ↓f_lstT, ↓f_repr, ↓f_cutL, ↓f_cutT, ↓firm_d, ↓firm_ob, ↓zip_l, ↓zip_t, ↓e_izip, ↓zip_cons, ↓zip_nil1, ↓zip_nil2, ↓f_sorted, ↓e_inn, ↓e_inc, ↓e_l2n, ↓e_l2c, ↓e_lc2, ↓e_rev, ↓e_pop, ↓e_popAt, ↓e_extend, ↓e_lc3, ↓e_gon, ↓e_goc, ↓e_dbMid, ↓e_dbIn, ↓f_neu, ↓e_ifT, ↓e_newD, ↓e_retO, ↓e_fixK, ↓e_putO, ↓e_dkO, ↓e_dkF, ↓e_kdO, ↓e_kdF, ↓e_get2O, ↓e_get2F, ↓e_ListD, ↓e_ListF, ↓od_o, ↓dct_d, ↓key_int, ↓key_str, ↓g_item, ↓g_get, ↓g_in, ↓g_notin, ↓h_list, ↓fz_od, ↓ow_ex, ↓e_tr, ↓e_trO, ↓e_trK, ↓tru_b, ↓tru_n, ↓tru_i, ↓tru_l, ↓tru_t, ↓tru_s, ↓e_i63, ↓n63_d, ↓e_ss, ↓e_ssL, ↓e_ssF, ↓e_never, ↓e_kget, ↓str_ex, ↓e_disp, ↓e_vnil, ↓e_vcons, ↓f_equ, ↓dgTup_tup, ↓dgCons_cons, ↓dgNil_nil, ite_t, ite_f, itK_not, List.cons_append, List.nil_append, List.append_nil, List.replicate, List.flatten_cons, List.flatten_nil, List.append_eq, List.length_cons, List.length_nil, Nat.zero_add, Nat.reduceAdd, true_and, and_true, eqOk_str, eqOk_int, eqOk_bool, str_eqv, int_eqv, tup_nil_eqv, lst_nil_eqv, rep_flat, isK_int, isK_bool, isK_tuple, isK_str, kInt, kBool, kTuple, kStr, GB.isNon, Bool.not_true, Bool.not_false, Bool.or_false, Bool.or_true, Bool.false_or, Bool.true_or, reduceCtorEq, ↓s_draw]
        refine ⟨by omega, fun i i0 i1 => ?_⟩
        have i1 := i1 (by omega)
        obtain ⟨i, rfl⟩ : ∃ i' : Nat, i = i' := ⟨i.toNat, by omega⟩
        have c1 := GB.cutD_len acc none (some (i : Int))
        have c2 := GB.cutD_len acc (some ((i : Int) + 1)) none
        have c3 := GB.cutD_len acc (some 1) none
        have len1 : ∀ z : PyData, (GB.cutD acc none (some (i : Int)) ++ [z]).length + (GB.cutD acc (some ((i : Int) + 1)) none).length ≤ sizeLine := fun z => line_ge (by rw [List.length_append, List.length_singleton]; omega)
        refine ⟨by decide, line_ge (by omega), len1 _, by decide, line_ge (by omega), len1 _, by decide, by decide, by decide, line_ge (by omega), s_oddI.mpr fun o vo => ?_⟩
        simp only [↓at0, ↓set0, ↓at1, ↓set1, ↓at2, ↓set2, ↓at3, ↓set3, ↓at4, ↓set4, ↓at5, ↓set5, ↓at6, ↓set6, ↓at7, ↓set7, ↓at8, ↓set8, ↓at9, ↓set9, ↓at10, ↓set10, ↓at11, ↓set11, ↓at12, ↓set12, ↓at13, ↓set13, ↓at14, ↓set14, ↓at15, ↓set15, ↓fz_d, ↓fz_own, ↓fz_ob, ↓one_d, ↓int_d, ↓bool_d, ↓own_o, ↓ds_nil, ↓ds_cons, ↓seq_l, ↓seq_t, ↓ite_t, ↓ite_f, ↓e_next, ↓e_seq, ↓e_set, ↓e_drop, ↓e_ret, ↓e_ifs, ↓e_brk, ↓e_cnt, ↓e_fixs, ↓e_par, ↓e_par3, ↓e_asg, ↓e_for, ↓e_putAt, ↓e_jput, ↓e_var, ↓e_k, ↓e_fz, ↓e_op, ↓e_opL, ↓e_opR, ↓e_n, ↓e_n1, ↓e_nil, ↓e_cons, ↓e_tup, ↓e_lst, ↓e_b, ↓e_not, ↓e_and, ↓e_or, ↓e_andV, ↓e_orV, ↓e_notV, ↓e_if, ↓e_isi, ↓e_neg, ↓e_chain, ↓e_call, ↓e_callK, ↓e_jint, ↓e_dict0, ↓e_dict1, ↓e_listRng, ↓e_append, ↓e_cut, ↓e_cutO, ↓e_onone, ↓e_osome, ↓e_iseq, ↓e_ienum, ↓e_irng, ↓e_gname, ↓e_lnil, ↓e_lcons, ↓e_lc, ↓e_yes, ↓f_addI, ↓f_addS, ↓f_addT, ↓f_addL, ↓f_i2, ↓f_mulI, ↓f_mulT, ↓f_mulL, ↓f_eq, ↓f_ne, ↓f_is, ↓f_isnot, ↓f_in, ↓f_notin, ↓f_ixL, ↓f_ixT, ↓f_lenL, ↓f_lenT, ↓f_lenS, ↓f_abs, ↓f_intI, ↓f_intB, ↓f_tupL, ↓f_tupT, ↓f_lstL, ↓f_lstT, ↓f_repr, ↓f_cutL, ↓f_cutT, ↓firm_d, ↓firm_ob, ↓zip_l, ↓zip_t, ↓e_izip, ↓zip_cons, ↓zip_nil1, ↓zip_nil2, ↓f_sorted, ↓e_inn, ↓e_inc, ↓e_l2n, ↓e_l2c, ↓e_lc2, ↓e_rev, ↓e_pop, ↓e_popAt, ↓e_extend, ↓e_lc3, ↓e_gon, ↓e_goc, ↓e_dbMid, ↓e_dbIn, ↓f_neu, ↓e_ifT, ↓e_newD, ↓e_retO, ↓e_fixK, ↓e_putO, ↓e_dkO, ↓e_dkF, ↓e_kdO, ↓e_kdF, ↓e_get2O, ↓e_get2F, ↓e_ListD, ↓e_ListF, ↓od_o, ↓dct_d, ↓key_int, ↓key_str, ↓g_item, ↓g_get, ↓g_in, ↓g_notin, ↓h_list, ↓fz_od, ↓ow_ex, ↓e_tr, ↓e_trO, ↓e_trK, ↓tru_b, ↓tru_n, ↓tru_i, ↓tru_l, ↓tru_t, ↓tru_s, ↓e_i63, ↓n63_d, ↓e_ss, ↓e_ssL, ↓e_ssF, ↓e_never, ↓e_kget, ↓str_ex, ↓e_disp, ↓e_vnil, ↓e_vcons, ↓f_equ, ↓dgTup_tup, ↓dgCons_cons, ↓dgNil_nil, ite_t, ite_f, itK_not, List.cons_append, List.nil_append, List.append_nil, List.replicate, List.flatten_cons, List.flatten_nil, List.append_eq, List.length_cons, List.length_nil, Nat.zero_add, Nat.reduceAdd, true_and, and_true, eqOk_str, eqOk_int, eqOk_bool, str_eqv, int_eqv, tup_nil_eqv, lst_nil_eqv, rep_flat, isK_int, isK_bool, isK_tuple, isK_str, kInt, kBool, kTuple, kStr, GB.isNon, Bool.not_true, Bool.not_false, Bool.or_false, Bool.or_true, Bool.false_or, Bool.true_or, reduceCtorEq, ]
        have bm : (m : Int) < 2 ^ 62 := big62 (by omega)
        have lm : 1 * (m : Int).toNat ≤ sizeLine := line_ge (by simp; omega)
        refine ⟨by decide, low62, bm, lm, by decide, by decide, low62, bm, lm, by decide, by decide, ?_⟩
        have ve2 : Vz (11 + 1) 300 (.tuple acc) := ve.mono (by decide) (Nat.le_refl _)
        have vc : ∀ lo hi, Vz (11 + 1) 300 (.tuple (GB.cutD acc lo hi)) := fun lo hi => vz_sub ve2 cut_sub
        have vt : ∀ z, Vz 11 4230 z → Vz 12 15000 (.tuple (GB.cutD acc none (some (i : Int)) ++ [z] ++ GB.cutD acc (some ((i : Int) + 1)) none)) := fun z hz => (vz_app (vz_app (vc _ _) (vz_one hz)) (vc _ _)).mono (by decide) (by decide)
        have vr : ∀ z, Vz 11 600 z → Vz 12 15000 (.tuple (List.replicate (m : Int).toNat z)) := fun z hz => (vz_n (D := 11) (W := 600) fun x hx => by rw [(List.mem_replicate.mp hx).2]; exact hz).mono (by decide) (by
          have : (List.replicate (m : Int).toNat z).length * 601 ≤ 4 * 601 := Nat.mul_le_mul_right _ (by simp; omega)
          simp only [List.length_replicate] at this ⊢
          omega)
        have v0 : Vz 11 600 (.tuple []) := (vz_of (D := 1) (W := 0) (by decide +kernel)).mono (by decide) (by decide)
        refine loopP (fun k' ys ρ => ∃ s10 s11, ρ = [S.ob (.scr ns), S.ob .jar, S.d (.int k), S.d (.int m), S.d (stD cs rm lk), S.d (.tuple acc), S.d one, S.d tw, S.d (.int i), S.d (.list [.tuple (GB.cutD acc none (some (i : Int)) ++ [one] ++ GB.cutD acc (some ((i : Int) + 1)) none), .tuple (GB.cutD acc none (some (i : Int)) ++ [tw] ++ GB.cutD acc (some ((i : Int) + 1)) none), .tuple (GB.cutD acc (some 1) none), .tuple (acc ++ [.tuple []]), .list acc, .tuple p0, o, .tuple (List.replicate (m : Int).toNat one), .tuple (List.replicate (m : Int).toNat (.tuple []))]), s10, s11, .un] ∧ 0 ≤ k' ∧ ∀ y ∈ ys, Vz 12 15000 y) ?_ ?_ _ 0 _ ⟨_, _, rfl, by decide, fun y hy => ?_⟩
        · rintro k' _ ⟨s10, s11, rfl, _⟩
          exact hK _ ⟨_, _, _, _, _, _, _, _, _, _, rfl⟩
        · rintro k' y ys _ K2 hK2 ⟨s10, s11, rfl, hk, hy⟩
          simp only [↓at0, ↓set0, ↓at1, ↓set1, ↓at2, ↓set2, ↓at3, ↓set3, ↓at4, ↓set4, ↓at5, ↓set5, ↓at6, ↓set6, ↓at7, ↓set7, ↓at8, ↓set8, ↓at9, ↓set9, ↓at10, ↓set10, ↓at11, ↓set11, ↓at12, ↓set12, ↓at13, ↓set13, ↓at14, ↓set14, ↓at15, ↓set15, ↓fz_d, ↓fz_own, ↓fz_ob, ↓one_d, ↓int_d, ↓bool_d, ↓own_o, ↓ds_nil, ↓ds_cons, ↓seq_l, ↓seq_t, ↓ite_t, ↓ite_f, ↓e_next, ↓e_seq, ↓e_set, ↓e_drop, ↓e_ret, ↓e_ifs, ↓e_brk, ↓e_cnt, ↓e_fixs, ↓e_par, ↓e_par3, ↓e_asg, ↓e_for, ↓e_putAt, ↓e_jput, ↓e_var, ↓e_k, ↓e_fz, ↓e_op, ↓e_opL, ↓e_opR, ↓e_n, ↓e_n1, ↓e_nil, ↓e_cons, ↓e_tup, ↓e_lst, ↓e_b, ↓e_not, ↓e_and, ↓e_or, ↓e_andV, ↓e_orV, ↓e_notV, ↓e_if, ↓e_isi, ↓e_neg, ↓e_chain, ↓e_call, ↓e_callK, ↓e_jint, ↓e_dict0, ↓e_dict1, ↓e_listRng, ↓e_append, ↓e_cut, ↓e_cutO, ↓e_onone, ↓e_osome, ↓e_iseq, ↓e_ienum, ↓e_irng, ↓e_gname, ↓e_lnil, ↓e_lcons, ↓e_lc, ↓e_yes, ↓f_addI, ↓f_addS, ↓f_addT, ↓f_addL, ↓f_i2, ↓f_mulI, ↓f_mulT, ↓f_mulL, ↓f_eq, ↓f_ne, ↓f_is, ↓f_isnot, ↓f_in, ↓f_notin, ↓f_ixL, ↓f_ixT, ↓f_lenL, ↓f_lenT, ↓f_lenS, ↓f_abs, ↓f_intI, ↓f_intB, ↓f_tupL, ↓f_tupT, ↓f_lstL, ↓f_lstT, ↓f_repr, ↓f_cutL, ↓f_cutT, ↓firm_d, ↓firm_ob, ↓zip_l, ↓zip_t, ↓e_izip, ↓zip_cons, ↓zip_nil1, ↓zip_nil2, ↓f_sorted, ↓e_inn, ↓e_inc, ↓e_l2n, ↓e_l2c, ↓e_lc2, ↓e_rev, ↓e_pop, ↓e_popAt, ↓e_extend, ↓e_lc3, ↓e_gon, ↓e_goc, ↓e_dbMid, ↓e_dbIn, ↓f_neu, ↓e_ifT, ↓e_newD, ↓e_retO, ↓e_fixK, ↓e_putO, ↓e_dkO, ↓e_dkF, ↓e_kdO, ↓e_kdF, ↓e_get2O, ↓e_get2F, ↓e_ListD, ↓e_ListF, ↓od_o, ↓dct_d, ↓key_int, ↓key_str, ↓g_item, ↓g_get, ↓g_in, ↓g_notin, ↓h_list, ↓fz_od, ↓ow_ex, ↓e_tr, ↓e_trO, ↓e_trK, ↓tru_b, ↓tru_n, ↓tru_i, ↓tru_l, ↓tru_t, ↓tru_s, ↓e_i63, ↓n63_d, ↓e_ss, ↓e_ssL, ↓e_ssF, ↓e_never, ↓e_kget, ↓str_ex, ↓e_disp, ↓e_vnil, ↓e_vcons, ↓f_equ, ↓dgTup_tup, ↓dgCons_cons, ↓dgNil_nil, ite_t, ite_f, itK_not, List.cons_append, List.nil_append, List.append_nil, List.replicate, List.flatten_cons, List.flatten_nil, List.append_eq, List.length_cons, List.length_nil, Nat.zero_add, Nat.reduceAdd, true_and, and_true, eqOk_str, eqOk_int, eqOk_bool, str_eqv, int_eqv, tup_nil_eqv, lst_nil_eqv, rep_flat, isK_int, isK_bool, isK_tuple, isK_str, kInt, kBool, kTuple, kStr, GB.isNon, Bool.not_true, Bool.not_false, Bool.or_false, Bool.or_true, Bool.false_or, Bool.true_or, reduceCtorEq, ↓s_oddI]
          refine fun x hx => ⟨by decide, by decide, ?_⟩
          obtain ⟨v, e, hv⟩ := atI_mem (xs := [one, tw, x]) (Int.emod_nonneg k' (show (3 : Int) ≠ 0 by decide)) (Int.emod_lt_of_pos k' (show (0 : Int) < 3 by decide))
          refine ⟨v, e, s_told (D := 12) (W := 15000) hs hr ?_ (hy y (by simp)) (by decide) (by decide) ?_⟩
          · simp only [List.mem_cons, List.not_mem_nil, or_false] at hv
            rcases hv with rfl | rfl | rfl
            · exact v1.mono (by decide) (by decide)
            · exact v2.mono (by decide) (by decide)
            · exact hx.mono (by decide) (by decide)
          · simp only [↓at0, ↓set0, ↓at1, ↓set1, ↓at2, ↓set2, ↓at3, ↓set3, ↓at4, ↓set4, ↓at5, ↓set5, ↓at6, ↓set6, ↓at7, ↓set7, ↓at8, ↓set8, ↓at9, ↓set9, ↓at10, ↓set10, ↓at11, ↓set11, ↓at12, ↓set12, ↓at13, ↓set13, ↓at14, ↓set14, ↓at15, ↓set15, ↓fz_d, ↓fz_own, ↓fz_ob, ↓one_d, ↓int_d, ↓bool_d, ↓own_o, ↓ds_nil, ↓ds_cons, ↓seq_l, ↓seq_t, ↓ite_t, ↓ite_f, ↓e_next, ↓e_seq, ↓e_set, ↓e_drop, ↓e_ret, ↓e_ifs, ↓e_brk, ↓e_cnt, ↓e_fixs, ↓e_par, ↓e_par3, ↓e_asg, ↓e_for, ↓e_putAt, ↓e_jput, ↓e_var, ↓e_k, ↓e_fz, ↓e_op, ↓e_opL, ↓e_opR, ↓e_n, ↓e_n1, ↓e_nil, ↓e_cons, ↓e_tup, ↓e_lst, ↓e_b, ↓e_not, ↓e_and, ↓e_or, ↓e_andV, ↓e_orV, ↓e_notV, ↓e_if, ↓e_isi, ↓e_neg, ↓e_chain, ↓e_call, ↓e_callK, ↓e_jint, ↓e_dict0, ↓e_dict1, ↓e_listRng, ↓e_append, ↓e_cut, ↓e_cutO, ↓e_onone, ↓e_osome, ↓e_iseq, ↓e_ienum, ↓e_irng, ↓e_gname, ↓e_lnil, ↓e_lcons, ↓e_lc, ↓e_yes, ↓f_addI, ↓f_addS, ↓f_addT, ↓f_addL, ↓f_i2, ↓f_mulI, ↓f_mulT, ↓f_mulL, ↓f_eq, ↓f_ne, ↓f_is, ↓f_isnot, ↓f_in, ↓f_notin, ↓f_ixL, ↓f_ixT, ↓f_lenL, ↓f_lenT, ↓f_lenS, ↓f_abs, ↓f_intI, ↓f_intB, ↓f_tupL, ↓f_tupT, ↓f_lstL, ↓f_lstT, ↓f_repr, ↓f_cutL, ↓f_cutT, ↓firm_d, ↓firm_ob, ↓zip_l, ↓zip_t, ↓e_izip, ↓zip_cons, ↓zip_nil1, ↓zip_nil2, ↓f_sorted, ↓e_inn, ↓e_inc, ↓e_l2n, ↓e_l2c, ↓e_lc2, ↓e_rev, ↓e_pop, ↓e_popAt, ↓e_extend, ↓e_lc3, ↓e_gon, ↓e_goc, ↓e_dbMid, ↓e_dbIn, ↓f_neu, ↓e_ifT, ↓e_newD, ↓e_retO, ↓e_fixK, ↓e_putO, ↓e_dkO, ↓e_dkF, ↓e_kdO, ↓e_kdF, ↓e_get2O, ↓e_get2F, ↓e_ListD, ↓e_ListF, ↓od_o, ↓dct_d, ↓key_int, ↓key_str, ↓g_item, ↓g_get, ↓g_in, ↓g_notin, ↓h_list, ↓fz_od, ↓ow_ex, ↓e_tr, ↓e_trO, ↓e_trK, ↓tru_b, ↓tru_n, ↓tru_i, ↓tru_l, ↓tru_t, ↓tru_s, ↓e_i63, ↓n63_d, ↓e_ss, ↓e_ssL, ↓e_ssF, ↓e_never, ↓e_kget, ↓str_ex, ↓e_disp, ↓e_vnil, ↓e_vcons, ↓f_equ, ↓dgTup_tup, ↓dgCons_cons, ↓dgNil_nil, ite_t, ite_f, itK_not, List.cons_append, List.nil_append, List.append_nil, List.replicate, List.flatten_cons, List.flatten_nil, List.append_eq, List.length_cons, List.length_nil, Nat.zero_add, Nat.reduceAdd, true_and, and_true, eqOk_str, eqOk_int, eqOk_bool, str_eqv, int_eqv, tup_nil_eqv, lst_nil_eqv, rep_flat, isK_int, isK_bool, isK_tuple, isK_str, kInt, kBool, kTuple, kStr, GB.isNon, Bool.not_true, Bool.not_false, Bool.or_false, Bool.or_true, Bool.false_or, Bool.true_or, reduceCtorEq, ]
            exact hK2 _ ⟨_, _, rfl, by omega, fun z hz => hy z (by simp [hz])⟩
        · simp only [List.mem_cons, List.not_mem_nil, or_false] at hy
          rcases hy with rfl | rfl | rfl | rfl | rfl | rfl | rfl | rfl | rfl
          · exact vt _ (v1.mono (by decide) (by decide))
          · exact vt _ (v2.mono (by decide) (by decide))
          · exact (vc _ _).mono (by decide) (by decide)
          · exact (vz_app ve2 (vz_one v0)).mono (by decide) (by decide)
          · exact (vz_l ve2).mono (by decide) (by decide)
          · exact vp.mono (by decide) (by decide)
          · exact vo.mono (by decide) (by decide)
          · exact vr _ (v1.mono (by decide) (by decide))
          · exact vr _ v0
      case bb =>
        have v2 : Vz (6 + 3) (7 * 590 + 100) one := v1.mono (by decide) (by decide)
        simp only [↓at0, ↓set0, ↓at1, ↓set1, ↓at2, ↓set2, ↓at3, ↓set3, ↓at4, ↓set4, ↓at5, ↓set5, ↓at6, ↓set6, ↓at7, ↓set7, ↓at8, ↓set8, ↓at9, ↓set9, ↓at10, ↓set10, ↓at11, ↓set11, ↓at12, ↓set12, ↓at13, ↓set13, ↓at14, ↓set14, ↓at15, ↓set15, ↓fz_d, ↓fz_own, ↓fz_ob, ↓one_d, ↓int_d, ↓bool_d, ↓own_o, ↓ds_nil, ↓ds_cons, ↓seq_l, ↓seq_t, ↓ite_t, ↓ite_f, ↓e_next, ↓e_seq, ↓e_set, ↓e_drop, ↓e_ret, ↓e_ifs, ↓e_brk, ↓e_cnt, ↓e_fixs, ↓e_par, ↓e_par3, ↓e_asg, ↓e_for, ↓e_putAt, ↓e_jput, ↓e_var, ↓e_k, ↓e_fz, ↓e_op, ↓e_opL, ↓e_opR, ↓e_n, ↓e_n1, ↓e_nil, ↓e_cons, ↓e_tup, ↓e_lst, ↓e_b, ↓e_not, ↓e_and, ↓e_or, ↓e_andV, ↓e_orV, ↓e_notV, ↓e_if, ↓e_isi, ↓e_neg, ↓e_chain, ↓e_call, ↓e_callK, ↓e_jint, ↓e_dict0, ↓e_dict1, ↓e_listRng, ↓e_append, ↓e_cut, ↓e_cutO, ↓e_onone, ↓e_osome, ↓e_iseq, ↓e_ienum, ↓e_irng, ↓e_gname, ↓e_lnil, ↓e_lcons, ↓e_lc, ↓e_yes, ↓f_addI, ↓f_addS, ↓f_addT, ↓f_addL, ↓f_i2, ↓f_mulI, ↓f_mulT, ↓f_mulL, ↓f_eq, ↓f_ne, ↓f_is, ↓f_isnot, ↓f_in, ↓f_notin, ↓f_ixL, ↓f_ixT, ↓f_lenL, ↓f_lenT, ↓f_lenS, ↓f_abs, ↓f_intI, ↓f_intB, ↓f_tupL, ↓f_tupT, ↓f_lstL, ↓f_lstT, ↓f_repr, ↓f_cutL, ↓f_cutT, ↓firm_d, ↓firm_ob, ↓zip_l, ↓zip_t, ↓e_izip, ↓zip_cons, ↓zip_nil1, ↓zip_nil2, ↓f_sorted, ↓e_inn, ↓e_inc, ↓e_l2n, ↓e_l2c, ↓e_lc2, ↓e_rev, ↓e_pop, ↓e_popAt, ↓e_extend, ↓e_lc3, ↓e_gon, ↓e_goc, ↓e_dbMid, ↓e_dbIn, ↓f_neu, ↓e_ifT, ↓e_newD, ↓e_retO, ↓e_fixK, ↓e_putO, ↓e_dkO, ↓e_dkF, ↓e_kdO, ↓e_kdF, ↓e_get2O, ↓e_get2F, ↓e_ListD, ↓e_ListF, ↓od_o, ↓dct_d, ↓key_int, ↓key_str, ↓g_item, ↓g_get, ↓g_in, ↓g_notin, ↓h_list, ↓fz_od, ↓ow_ex, ↓e_tr, ↓e_trO, ↓e_trK, ↓tru_b, ↓tru_n, ↓tru_i, ↓tru_l, ↓tru_t, ↓tru_s, ↓e_i63, ↓n63_d, ↓e_ss, ↓e_ssL, ↓e_ssF, ↓e_never, ↓e_kget, ↓str_ex, ↓e_disp, ↓e_vnil, ↓e_vcons, ↓f_equ, ↓dgTup_tup, ↓dgCons_cons, ↓dgNil_nil, ite_t, ite_f, itK_not, List.cons_append, List.nil_append, List.append_nil, List.replicate, List.flatten_cons, List.flatten_nil, List.append_eq, List.length_cons, List.length_nil, Nat.zero_add, Nat.reduceAdd, true_and, and_true, eqOk_str, eqOk_int, eqOk_bool, str_eqv, int_eqv, tup_nil_eqv, lst_nil_eqv, rep_flat, isK_int, isK_bool, isK_tuple, isK_str, kInt, kBool, kTuple, kStr, GB.isNon, Bool.not_true, Bool.not_false, Bool.or_false, Bool.or_true, Bool.false_or, Bool.true_or, reduceCtorEq, ↓s_draw]
        refine ⟨by omega, fun i i0 i1 => ?_⟩
        have i1 := i1 (by omega)
        obtain ⟨i, rfl⟩ : ∃ i' : Nat, i = i' := ⟨i.toNat, by omega⟩
        have c1 := GB.cutD_len acc none (some (i : Int))
        have c2 := GB.cutD_len acc (some ((i : Int) + 1)) none
        have c3 := GB.cutD_len acc (some 1) none
        have len1 : ∀ z : PyData, (GB.cutD acc none (some (i : Int)) ++ [z]).length + (GB.cutD acc (some ((i : Int) + 1)) none).length ≤ sizeLine := fun z => line_ge (by rw [List.length_append, List.length_singleton]; omega)
        refine ⟨by decide, line_ge (by omega), len1 _, by decide, line_ge (by omega), len1 _, by decide, by decide, by decide, line_ge (by omega), s_oddI.mpr fun o vo => ?_⟩
        simp only [↓at0, ↓set0, ↓at1, ↓set1, ↓at2, ↓set2, ↓at3, ↓set3, ↓at4, ↓set4, ↓at5, ↓set5, ↓at6, ↓set6, ↓at7, ↓set7, ↓at8, ↓set8, ↓at9, ↓set9, ↓at10, ↓set10, ↓at11, ↓set11, ↓at12, ↓set12, ↓at13, ↓set13, ↓at14, ↓set14, ↓at15, ↓set15, ↓fz_d, ↓fz_own, ↓fz_ob, ↓one_d, ↓int_d, ↓bool_d, ↓own_o, ↓ds_nil, ↓ds_cons, ↓seq_l, ↓seq_t, ↓ite_t, ↓ite_f, ↓e_next, ↓e_seq, ↓e_set, ↓e_drop, ↓e_ret, ↓e_ifs, ↓e_brk, ↓e_cnt, ↓e_fixs, ↓e_par, ↓e_par3, ↓e_asg, ↓e_for, ↓e_putAt, ↓e_jput, ↓e_var, ↓e_k, ↓e_fz, ↓e_op, ↓e_opL, ↓e_opR, ↓e_n, ↓e_n1, ↓e_nil, ↓e_cons, ↓e_tup, ↓e_lst, ↓e_b, ↓e_not, ↓e_and, ↓e_or, ↓e_andV, ↓e_orV, ↓e_notV, ↓e_if, ↓e_isi, ↓e_neg, ↓e_chain, ↓e_call, ↓e_callK, ↓e_jint, ↓e_dict0, ↓e_dict1, ↓e_listRng, ↓e_append, ↓e_cut, ↓e_cutO, ↓e_onone, ↓e_osome, ↓e_iseq, ↓e_ienum, ↓e_irng, ↓e_gname, ↓e_lnil, ↓e_lcons, ↓e_lc, ↓e_yes, ↓f_addI, ↓f_addS, ↓f_addT, ↓f_addL, ↓f_i2, ↓f_mulI, ↓f_mulT, ↓f_mulL, ↓f_eq, ↓f_ne, ↓f_is, ↓f_isnot, ↓f_in, ↓f_notin, ↓f_ixL, ↓f_ixT, ↓f_lenL, ↓f_lenT, ↓f_lenS, ↓f_abs, ↓f_intI, ↓f_intB, ↓f_tupL, ↓f_tupT, ↓f_lstL, ↓f_lstT, ↓f_repr, ↓f_cutL, ↓f_cutT, ↓firm_d, ↓firm_ob, ↓zip_l, ↓zip_t, ↓e_izip, ↓zip_cons, ↓zip_nil1, ↓zip_nil2, ↓f_sorted, ↓e_inn, ↓e_inc, ↓e_l2n, ↓e_l2c, ↓e_lc2, ↓e_rev, ↓e_pop, ↓e_popAt, ↓e_extend, ↓e_lc3, ↓e_gon, ↓e_goc, ↓e_dbMid, ↓e_dbIn, ↓f_neu, ↓e_ifT, ↓e_newD, ↓e_retO, ↓e_fixK, ↓e_putO, ↓e_dkO, ↓e_dkF, ↓e_kdO, ↓e_kdF, ↓e_get2O, ↓e_get2F, ↓e_ListD, ↓e_ListF, ↓od_o, ↓dct_d, ↓key_int, ↓key_str, ↓g_item, ↓g_get, ↓g_in, ↓g_notin, ↓h_list, ↓fz_od, ↓ow_ex, ↓e_tr, ↓e_trO, ↓e_trK, ↓tru_b, ↓tru_n, ↓tru_i, ↓tru_l, ↓tru_t, ↓tru_s, ↓e_i63, ↓n63_d, ↓e_ss, ↓e_ssL, ↓e_ssF, ↓e_never, ↓e_kget, ↓str_ex, ↓e_disp, ↓e_vnil, ↓e_vcons, ↓f_equ, ↓dgTup_tup, ↓dgCons_cons, ↓dgNil_nil, ite_t, ite_f, itK_not, List.cons_append, List.nil_append, List.append_nil, List.replicate, List.flatten_cons, List.flatten_nil, List.append_eq, List.length_cons, List.length_nil, Nat.zero_add, Nat.reduceAdd, true_and, and_true, eqOk_str, eqOk_int, eqOk_bool, str_eqv, int_eqv, tup_nil_eqv, lst_nil_eqv, rep_flat, isK_int, isK_bool, isK_tuple, isK_str, kInt, kBool, kTuple, kStr, GB.isNon, Bool.not_true, Bool.not_false, Bool.or_false, Bool.or_true, Bool.false_or, Bool.true_or, reduceCtorEq, ]
        have bm : (m : Int) < 2 ^ 62 := big62 (by omega)
        have lm : 1 * (m : Int).toNat ≤ sizeLine := line_ge (by simp; omega)
        refine ⟨by decide, low62, bm, lm, by decide, by decide, low62, bm, lm, by decide, by decide, ?_⟩
        have ve2 : Vz (11 + 1) 300 (.tuple acc) := ve.mono (by decide) (Nat.le_refl _)
        have vc : ∀ lo hi, Vz (11 + 1) 300 (.tuple (GB.cutD acc lo hi)) := fun lo hi => vz_sub ve2 cut_sub
        have vt : ∀ z, Vz 11 4230 z → Vz 12 15000 (.tuple (GB.cutD acc none (some (i : Int)) ++ [z] ++ GB.cutD acc (some ((i : Int) + 1)) none)) := fun z hz => (vz_app (vz_app (vc _ _) (vz_one hz)) (vc _ _)).mono (by decide) (by decide)
        have vr : ∀ z, Vz 11 600 z → Vz 12 15000 (.tuple (List.replicate (m : Int).toNat z)) := fun z hz => (vz_n (D := 11) (W := 600) fun x hx => by rw [(List.mem_replicate.mp hx).2]; exact hz).mono (by decide) (by
          have : (List.replicate (m : Int).toNat z).length * 601 ≤ 4 * 601 := Nat.mul_le_mul_right _ (by simp; omega)
          simp only [List.length_replicate] at this ⊢
          omega)
        have v0 : Vz 11 600 (.tuple []) := (vz_of (D := 1) (W := 0) (by decide +kernel)).mono (by decide) (by decide)
        refine loopP (fun k' ys ρ => ∃ s10 s11, ρ = [S.ob (.scr ns), S.ob .jar, S.d (.int k), S.d (.int m), S.d (stD cs rm lk), S.d (.tuple acc), S.d one, S.d one, S.d (.int i), S.d (.list [.tuple (GB.cutD acc none (some (i : Int)) ++ [one] ++ GB.cutD acc (some ((i : Int) + 1)) none), .tuple (GB.cutD acc none (some (i : Int)) ++ [one] ++ GB.cutD acc (some ((i : Int) + 1)) none), .tuple (GB.cutD acc (some 1) none), .tuple (acc ++ [.tuple []]), .list acc, .tuple p0, o, .tuple (List.replicate (m : Int).toNat one), .tuple (List.replicate (m : Int).toNat (.tuple []))]), s10, s11, .un] ∧ 0 ≤ k' ∧ ∀ y ∈ ys, Vz 12 15000 y) ?_ ?_ _ 0 _ ⟨_, _, rfl, by decide, fun y hy => ?_⟩
        · rintro k' _ ⟨s10, s11, rfl, _⟩
          exact hK _ ⟨_, _, _, _, _, _, _, _, _, _, rfl⟩
        · rintro k' y ys _ K2 hK2 ⟨s10, s11, rfl, hk, hy⟩
          simp only [↓at0, ↓set0, ↓at1, ↓set1, ↓at2, ↓set2, ↓at3, ↓set3, ↓at4, ↓set4, ↓at5, ↓set5, ↓at6, ↓set6, ↓at7, ↓set7, ↓at8, ↓set8, ↓at9, ↓set9, ↓at10, ↓set10, ↓at11, ↓set11, ↓at12, ↓set12, ↓at13, ↓set13, ↓at14, ↓set14, ↓at15, ↓set15, ↓fz_d, ↓fz_own, ↓fz_ob, ↓one_d, ↓int_d, ↓bool_d, ↓own_o, ↓ds_nil, ↓ds_cons, ↓seq_l, ↓seq_t, ↓ite_t, ↓ite_f, ↓e_next, ↓e_seq, ↓e_set, ↓e_drop, ↓e_ret, ↓e_ifs, ↓e_brk, ↓e_cnt, ↓e_fixs, ↓e_par, ↓e_par3, ↓e_asg, ↓e_for, ↓e_putAt, ↓e_jput, ↓e_var, ↓e_k, ↓e_fz, ↓e_op, ↓e_opL, ↓e_opR, ↓e_n, ↓e_n1, ↓e_nil, ↓e_cons, ↓e_tup, ↓e_lst, ↓e_b, ↓e_not, ↓e_and, ↓e_or, ↓e_andV, ↓e_orV, ↓e_notV, ↓e_if, ↓e_isi, ↓e_neg, ↓e_chain, ↓e_call, ↓e_callK, ↓e_jint, ↓e_dict0, ↓e_dict1, ↓e_listRng, ↓e_append, ↓e_cut, ↓e_cutO, ↓e_onone, ↓e_osome, ↓e_iseq, ↓e_ienum, ↓e_irng, ↓e_gname, ↓e_lnil, ↓e_lcons, ↓e_lc, ↓e_yes, ↓f_addI, ↓f_addS, ↓f_addT, ↓f_addL, ↓f_i2, ↓f_mulI, ↓f_mulT, ↓f_mulL, ↓f_eq, ↓f_ne, ↓f_is, ↓f_isnot, ↓f_in, ↓f_notin, ↓f_ixL, ↓f_ixT, ↓f_lenL, ↓f_lenT, ↓f_lenS, ↓f_abs, ↓f_intI, ↓f_intB, ↓f_tupL, ↓f_tupT, ↓f_lstL, ↓f_lstT, ↓f_repr, ↓f_cutL, ↓f_cutT, ↓firm_d, ↓firm_ob, ↓zip_l, ↓zip_t, ↓e_izip, ↓zip_cons, ↓zip_nil1, ↓zip_nil2, ↓f_sorted, ↓e_inn, ↓e_inc, ↓e_l2n, ↓e_l2c, ↓e_lc2, ↓e_rev, ↓e_pop, ↓e_popAt, ↓e_extend, ↓e_lc3, ↓e_gon, ↓e_goc, ↓e_dbMid, ↓e_dbIn, ↓f_neu, ↓e_ifT, ↓e_newD, ↓e_retO, ↓e_fixK, ↓e_putO, ↓e_dkO, ↓e_dkF, ↓e_kdO, ↓e_kdF, ↓e_get2O, ↓e_get2F, ↓e_ListD, ↓e_ListF, ↓od_o, ↓dct_d, ↓key_int, ↓key_str, ↓g_item, ↓g_get, ↓g_in, ↓g_notin, ↓h_list, ↓fz_od, ↓ow_ex, ↓e_tr, ↓e_trO, ↓e_trK, ↓tru_b, ↓tru_n, ↓tru_i, ↓tru_l, ↓tru_t, ↓tru_s, ↓e_i63, ↓n63_d, ↓e_ss, ↓e_ssL, ↓e_ssF, ↓e_never, ↓e_kget, ↓str_ex, ↓e_disp, ↓e_vnil, ↓e_vcons, ↓f_equ, ↓dgTup_tup, ↓dgCons_cons, ↓dgNil_nil, ite_t, ite_f, itK_not, List.cons_append, List.nil_append, List.append_nil, List.replicate, List.flatten_cons, List.flatten_nil, List.append_eq, List.length_cons, List.length_nil, Nat.zero_add, Nat.reduceAdd, true_and, and_true, eqOk_str, eqOk_int, eqOk_bool, str_eqv, int_eqv, tup_nil_eqv, lst_nil_eqv, rep_flat, isK_int, isK_bool, isK_tuple, isK_str, kInt, kBool, kTuple, kStr, GB.isNon, Bool.not_true, Bool.not_false, Bool.or_false, Bool.or_true, Bool.false_or, Bool.true_or, reduceCtorEq, ↓s_oddI]
          refine fun x hx => ⟨by decide, by decide, ?_⟩
          obtain ⟨v, e, hv⟩ := atI_mem (xs := [one, one, x]) (Int.emod_nonneg k' (show (3 : Int) ≠ 0 by decide)) (Int.emod_lt_of_pos k' (show (0 : Int) < 3 by decide))
          refine ⟨v, e, s_told (D := 12) (W := 15000) hs hr ?_ (hy y (by simp)) (by decide) (by decide) ?_⟩
          · simp only [List.mem_cons, List.not_mem_nil, or_false] at hv
            rcases hv with rfl | rfl | rfl
            · exact v1.mono (by decide) (by decide)
            · exact v2.mono (by decide) (by decide)
            · exact hx.mono (by decide) (by decide)
          · simp only [↓at0, ↓set0, ↓at1, ↓set1, ↓at2, ↓set2, ↓at3, ↓set3, ↓at4, ↓set4, ↓at5, ↓set5, ↓at6, ↓set6, ↓at7, ↓set7, ↓at8, ↓set8, ↓at9, ↓set9, ↓at10, ↓set10, ↓at11, ↓set11, ↓at12, ↓set12, ↓at13, ↓set13, ↓at14, ↓set14, ↓at15, ↓set15, ↓fz_d, ↓fz_own, ↓fz_ob, ↓one_d, ↓int_d, ↓bool_d, ↓own_o, ↓ds_nil, ↓ds_cons, ↓seq_l, ↓seq_t, ↓ite_t, ↓ite_f, ↓e_next, ↓e_seq, ↓e_set, ↓e_drop, ↓e_ret, ↓e_ifs, ↓e_brk, ↓e_cnt, ↓e_fixs, ↓e_par, ↓e_par3, ↓e_asg, ↓e_for, ↓e_putAt, ↓e_jput, ↓e_var, ↓e_k, ↓e_fz, ↓e_op, ↓e_opL, ↓e_opR, ↓e_n, ↓e_n1, ↓e_nil, ↓e_cons, ↓e_tup, ↓e_lst, ↓e_b, ↓e_not, ↓e_and, ↓e_or, ↓e_andV, ↓e_orV, ↓e_notV, ↓e_if, ↓e_isi, ↓e_neg, ↓e_chain, ↓e_call, ↓e_callK, ↓e_jint, ↓e_dict0, ↓e_dict1, ↓e_listRng, ↓e_append, ↓e_cut, ↓e_cutO, ↓e_onone, ↓e_osome, ↓e_iseq, ↓e_ienum, ↓e_irng, ↓e_gname, ↓e_lnil, ↓e_lcons, ↓e_lc, ↓e_yes, ↓f_addI, ↓f_addS, ↓f_addT, ↓f_addL, ↓f_i2, ↓f_mulI, ↓f_mulT, ↓f_mulL, ↓f_eq, ↓f_ne, ↓f_is, ↓f_isnot, ↓f_in, ↓f_notin, ↓f_ixL, ↓f_ixT, ↓f_lenL, ↓f_lenT, ↓f_lenS, ↓f_abs, ↓f_intI, ↓f_intB, ↓f_tupL, ↓f_tupT, ↓f_lstL, ↓f_lstT, ↓f_repr, ↓f_cutL, ↓f_cutT, ↓firm_d, ↓firm_ob, ↓zip_l, ↓zip_t, ↓e_izip, ↓zip_cons, ↓zip_nil1, ↓zip_nil2, ↓f_sorted, ↓e_inn, ↓e_inc, ↓e_l2n, ↓e_l2c, ↓e_lc2, ↓e_rev, ↓e_pop, ↓e_popAt, ↓e_extend, ↓e_lc3, ↓e_gon, ↓e_goc, ↓e_dbMid, ↓e_dbIn, ↓f_neu, ↓e_ifT, ↓e_newD, ↓e_retO, ↓e_fixK, ↓e_putO, ↓e_dkO, ↓e_dkF, ↓e_kdO, ↓e_kdF, ↓e_get2O, ↓e_get2F, ↓e_ListD, ↓e_ListF, ↓od_o, ↓dct_d, ↓key_int, ↓key_str, ↓g_item, ↓g_get, ↓g_in, ↓g_notin, ↓h_list, ↓fz_od, ↓ow_ex, ↓e_tr, ↓e_trO, ↓e_trK, ↓tru_b, ↓tru_n, ↓tru_i, ↓tru_l, ↓tru_t, ↓tru_s, ↓e_i63, ↓n63_d, ↓e_ss, ↓e_ssL, ↓e_ssF, ↓e_never, ↓e_kget, ↓str_ex, ↓e_disp, ↓e_vnil, ↓e_vcons, ↓f_equ, ↓dgTup_tup, ↓dgCons_cons, ↓dgNil_nil, ite_t, ite_f, itK_not, List.cons_append, List.nil_append, List.append_nil, List.replicate, List.flatten_cons, List.flatten_nil, List.append_eq, List.length_cons, List.length_nil, Nat.zero_add, Nat.reduceAdd, true_and, and_true, eqOk_str, eqOk_int, eqOk_bool, str_eqv, int_eqv, tup_nil_eqv, lst_nil_eqv, rep_flat, isK_int, isK_bool, isK_tuple, isK_str, kInt, kBool, kTuple, kStr, GB.isNon, Bool.not_true, Bool.not_false, Bool.or_false, Bool.or_true, Bool.false_or, Bool.true_or, reduceCtorEq, ]
            exact hK2 _ ⟨_, _, rfl, by omega, fun z hz => hy z (by simp [hz])⟩
        · simp only [List.mem_cons, List.not_mem_nil, or_false] at hy
          rcases hy with rfl | rfl | rfl | rfl | rfl | rfl | rfl | rfl | rfl
          · exact vt _ (v1.mono (by decide) (by decide))
          · exact vt _ (v2.mono (by decide) (by decide))
          · exact (vc _ _).mono (by decide) (by decide)
          · exact (vz_app ve2 (vz_one v0)).mono (by decide) (by decide)
          · exact (vz_l ve2).mono (by decide) (by decide)
          · exact vp.mono (by decide) (by decide)
          · exact vo.mono (by decide) (by decide)
          · exact vr _ (v1.mono (by decide) (by decide))
          · exact vr _ v0
    · simp only [↓at0, ↓set0, ↓at1, ↓set1, ↓at2, ↓set2, ↓at3, ↓set3, ↓at4, ↓set4, ↓at5, ↓set5, ↓at6, ↓set6, ↓at7, ↓set7, ↓at8, ↓set8, ↓at9, ↓set9, ↓at10, ↓set10, ↓at11, ↓set11, ↓at12, ↓set12, ↓at13, ↓set13, ↓at14, ↓set14, ↓at15, ↓set15, ↓fz_d, ↓fz_own, ↓fz_ob, ↓one_d, ↓int_d, ↓bool_d, ↓own_o, ↓ds_nil, ↓ds_cons, ↓seq_l, ↓seq_t, ↓ite_t, ↓ite_f, ↓e_next, ↓e_seq, ↓e_set, ↓e_drop, ↓e_ret, ↓e_ifs, ↓e_brk, ↓e_cnt, ↓e_fixs, ↓e_par, ↓e_par3, ↓e_asg, ↓e_for, ↓e_putAt, ↓e_jput, ↓e_var, ↓e_k, ↓e_fz, ↓e_op, ↓e_opL, ↓e_opR, ↓e_n, ↓e_n1, ↓e_nil, ↓e_cons, ↓e_tup, ↓e_lst, ↓e_b, ↓e_not, ↓e_and, ↓e_or, ↓e_andV, ↓e_orV, ↓e_notV, ↓e_if, ↓e_isi, ↓e_neg, ↓e_chain, ↓e_call, ↓e_callK, ↓e_jint, ↓e_dict0, ↓e_dict1, ↓e_listRng, ↓e_append, ↓e_cut, ↓e_cutO, ↓e_onone, ↓e_osome, ↓e_iseq, ↓e_ienum, ↓e_irng, ↓e_gname, ↓e_lnil, ↓e_lcons, ↓e_lc, ↓e_yes, ↓f_addI, ↓f_addS, ↓f_addT, ↓f_addL, ↓f_i2, ↓f_mulI, ↓f_mulT, ↓f_mulL, ↓f_eq, ↓f_ne, ↓f_is, ↓f_isnot, ↓f_in, ↓f_notin, ↓f_ixL, ↓f_ixT, ↓f_lenL, ↓f_lenT, ↓f_lenS, ↓f_abs, ↓f_intI, ↓f_intB, ↓f_tupL, ↓f_tupT, ↓f_lstL, ↓f_lstT, ↓f_repr, ↓f_cutL, ↓f_cutT, ↓firm_d, ↓firm_ob, ↓zip_l, ↓zip_t, ↓e_izip, ↓zip_cons, ↓zip_nil1, ↓zip_nil2, ↓f_sorted, ↓e_inn, ↓e_inc, ↓e_l2n, ↓e_l2c, ↓e_lc2, ↓e_rev, ↓e_pop, ↓e_popAt, ↓e_extend, ↓e_lc3, ↓e_gon, ↓e_goc, ↓e_dbMid, ↓e_dbIn, ↓f_neu, ↓e_ifT, ↓e_newD, ↓e_retO, ↓e_fixK, ↓e_putO, ↓e_dkO, ↓e_dkF, ↓e_kdO, ↓e_kdF, ↓e_get2O, ↓e_get2F, ↓e_ListD, ↓e_ListF, ↓od_o, ↓dct_d, ↓key_int, ↓key_str, ↓g_item, ↓g_get, ↓g_in, ↓g_notin, ↓h_list, ↓fz_od, ↓ow_ex, ↓e_tr, ↓e_trO, ↓e_trK, ↓tru_b, ↓tru_n, ↓tru_i, ↓tru_l, ↓tru_t, ↓tru_s, ↓e_i63, ↓n63_d, ↓e_ss, ↓e_ssL, ↓e_ssF, ↓e_never, ↓e_kget, ↓str_ex, ↓e_disp, ↓e_vnil, ↓e_vcons, ↓f_equ, ↓dgTup_tup, ↓dgCons_cons, ↓dgNil_nil, ite_t, ite_f, itK_not, List.cons_append, List.nil_append, List.append_nil, List.replicate, List.flatten_cons, List.flatten_nil, List.append_eq, List.length_cons, List.length_nil, Nat.zero_add, Nat.reduceAdd, true_and, and_true, eqOk_str, eqOk_int, eqOk_bool, str_eqv, int_eqv, tup_nil_eqv, lst_nil_eqv, rep_flat, isK_int, isK_bool, isK_tuple, isK_str, kInt, kBool, kTuple, kStr, GB.isNon, Bool.not_true, Bool.not_false, Bool.or_false, Bool.or_true, Bool.false_or, Bool.true_or, reduceCtorEq, wipeD, List.set]
      refine s_prog fun xs x1 x2 => one_d.mpr (hK2 _ ⟨xs, rfl, (vz_n x2).mono (by decide) ?_⟩)
      have : xs.length * 11 ≤ 6 * 11 := Nat.mul_le_mul_right _ x1
      omega
end GK

set_option maxRecDepth 20000
namespace GK
open PySem PySem.Spec PyProof.Rows L2 GB
theorem cut_map (ns : List Int) (lo hi : Option Int) : cutV (ns.map V.int) lo hi = (GB.cutD ns lo hi).map V.int := by
  unfold cutV GB.cutD
  rw [List.map_take, List.map_drop, List.length_map]
abbrev JK : List Str := ["mixed", "turns"]
def tSum : TS := fun D σ H => ∃ (x0 x1 y3 : Option V) (n : Int), σ = [x0, x1, some (.int n), y3] ∧ ∀ m : Int, D.nx [x0, x1, some (.int n), some (.int m)] H
def tGrow : TS := fun D σ H => ∃ (x0 : Option V) (a l : Addr) (kvs : List (Key × V)) (is : List Int) (n w : Int), σ = [x0, some (.ref a), some (.int n), some (.int w)] ∧ Opn "great" JK H a l kvs is ∧ is.length < 1000 ∧ D.nx σ H ∧ ∀ is' : List Int, is'.length ≤ is.length + 1 → D.nx σ (upd H l (.lst (is'.map V.int)))
def tSeed : TS := fun D σ H => ∃ (x0 : Option V) (a l : Addr) (kvs : List (Key × V)) (is : List Int) (n w : Int), σ = [x0, some (.ref a), some (.int n), some (.int w)] ∧ Opn "great" JK H a l kvs is ∧ ∀ kvs', KvOk "great" JK l kvs' → D.nx σ (upd H a (.dK kvs'))
theorem get_gr {H : Hp} {a l : Addr} {kvs : List (Key × V)} {is : List Int} (o : Opn "great" JK H a l kvs is) : DGet H a (.str "great") (some (.ref l)) := by
  have q := DGet.k (k := .inr "great") o.ha
  rw [o.kv.2.1] at q; exact q
theorem get_se {H : Hp} {a l : Addr} {kvs : List (Key × V)} {is : List Int} (o : Opn "great" JK H a l kvs is) : ∃ n : Int, DGet H a (.str "mixed") (some (.int n)) := by
  obtain ⟨n, hn⟩ := o.kv.2.2 "mixed" (by simp)
  have q := DGet.k (k := .inr "mixed") o.ha
  rw [hn] at q; exact ⟨n, q⟩
section
variable {P : Program} {w : World} {K : PySem.W.Frag} {mg : Str → Option Value} {base : Heap}
theorem ok_l_deck (T : Tx K w mg) (hs : ∃ o, base.get? sysModules = some o) : FnG P w K mg base CX0 1 T.a_l_deck T.d_l_deck ["script"] (spD K (Jr P w K) 1 F_l_deck) := by
  refine fng_nox T.F_l_deck sc_l_deck (fun vs H Q E h => ?_) fun cdv A outer s H vs Q E hg hr h => ?_
  · obtain ⟨ss, R, fr, hl, _⟩ := h
    rw [fr.len, hl]; rfl
  · have gd := good_of (CX := CX0) (P := P) (w := w) (K := K) (mg := mg) (E := E) (H := H) (outer := outer) hs sc_l_deck.nd hg hr
    have hu := gd.un
    obtain ⟨ss, R, fr, hl, ⟨ns, rfl, hn, q⟩, fin⟩ := h
    cases fr with
    | cons h1 h2 =>
    cases h2
    obtain ⟨a0, rfl, sc⟩ := h1
    refine ⟨_, pss_cons (ps_set (i := 1) sc_l_deck.nd rfl (.inl rfl) (pe_disp (pps_cons pe_str (pe_lst pa_nil) (pps_cons pe_str (pe_op op_add pe_int (pe_callB call_len_seq (by rfl) T.b_len (by decide +kernel) (pa_cons (pe_slice sl_list (pv 0) po_none (po_some pe_int)) pa_nil))) (pps_cons pe_str pe_int pps_nil))) rfl rfl (by simp) (by simp)))
      (pss_cons (ps_for PassesOwn.never rfl (pi_list (pe_slice sl_list (pv 0) po_none (po_some pe_int))) (pg_name (i := 2) sc_l_deck.nd rfl (.inl rfl))
        (pss_cons ((ps_set (i := 3) sc_l_deck.nd rfl (.inl rfl) (pe_op op_add (pe_op op_mul pe_int (pe_callB call_abs (by rfl) T.b_abs (by decide +kernel) (pa_cons (pv 2) pa_nil))) (pe_callTy call_int1 (by rfl) T.b_int (by decide +kernel) (pa_cons (pe_cmpR op_lt (pv 2) pe_int (nomark _)) pa_nil)))).less (t2 := tSum) ?sum)
        (pss_cons ((ps_if (pt_cmpR op_ge (pv 3) (pe_op op_pow pe_int pe_int) (nomark _))
          (pss_one (ps_expr (pe_bm PySem.F.plainAttrs_list PySem.F.slot_list_append PySem.F.type_list_append mt_append (pe_dget (by omega) (pv 1) pe_str (by intro _ _; rfl)) (pa_cons (pv 3) pa_nil)))) pss_nil).less (t2 := tGrow) ?grow)
        (pss_one ((ps_dput (by omega) (pv 1) pe_str (pe_op op_mod (pe_callTy call_int1 (by rfl) T.b_int (by decide +kernel) (pa_cons (pe_op op_add (pe_op op_add (pe_op op_mul (pe_dget (by omega) (pv 1) pe_str (by intro _ _; rfl)) pe_int) (pv 3)) pe_int) pa_nil)) pe_int) rfl).less (t2 := tSeed) ?seed)))))
      (pss_closing (nd := "great") (ks := JK) (pss_one (ps_ret (pv 1))))), ?_⟩
    case sum =>
      intro D σ H ⟨x0, x1, y3, n, e, nx⟩
      subst e
      exact ⟨_, rfl, n, rfl, 2, _, rfl, rfl, .inl ⟨by decide, by decide⟩, _, rfl, _, _, rfl, rfl, .inr ⟨_, rfl, _, _, rfl, rfl, nx _⟩⟩
    case seed =>
      intro D σ H ⟨x0, a, l, kvs, is, n, w, e, op, nx⟩
      subst e
      obtain ⟨st, hst⟩ := get_se op
      refine ⟨.ref a, rfl, a, _, rfl, hst, _, _, rfl, rfl, .inr ⟨by decide, by decide⟩, _, rfl, _, _, rfl, rfl, _, _, rfl, rfl, .inl ⟨_, rfl, _, _, rfl, rfl, (by decide : (0 : Int) < 4294967291), .ref a, rfl, a, _, rfl, DPut.k (k := .inr "mixed") op.ha (Nat.lt_of_le_of_lt op.kv.1 (by decide)), ?_⟩⟩
      exact nx _ (kv_put op.kv (by simp) (by decide))
    case grow =>
      intro D σ H ⟨x0, a, l, kvs, is, n, w, e, op, hl, nx, pu⟩
      subst e
      refine ⟨_, rfl, _, _, rfl, rfl, by unfold CPow; decide, _, _, rfl, rfl, _, rfl, ite2 (fun _ => ?_) fun _ => nx⟩
      refine ⟨.ref a, rfl, a, .ref l, rfl, get_gr op, own_ty (pins := []) op.hl, _, rfl, l, _, _, rfl, rfl, op.hl, ?_, ?_⟩
      · rw [List.length_map]; exact Nat.lt_of_lt_of_le hl (by decide)
      · have h := pu (is ++ [w]) (by simp)
        rw [List.map_append] at h; exact h
    intro a na
    have s1 : Same H (upd H a (.dK [])) := same_new na
    refine ⟨Nat.zero_le _, fun l nl => ?_⟩
    have s2 := s1.trans (same_new (o := .lst []) nl)
    refine ⟨.ref a0, rfl, 63, rfl, a0, ns.map V.int, rfl, s2.seq (sq_scr sc), fun c nc => ⟨c, _, rfl, .inl (.inl (.inl upd_same)), _, _, rfl, rfl, ?_⟩⟩
    have la : a ≠ l := ne_of_none upd_same nl
    have ca : a ≠ c := ne_of_none (by rw [upd_ne la, upd_same]) nc
    have cl : l ≠ c := ne_of_none upd_same nc
    have s3 := s2.trans (same_new (o := .lst (cutV (ns.map V.int) none (some 63))) nc)
    refine ⟨by rw [upd_ne ca, upd_ne la, upd_same], [(.inr "great", .ref l), (.inr "mixed", .int (6607 + ((cutV (ns.map V.int) none (some 63)).length : Nat))), (.inr "turns", .int 0)], rfl, by simp, ?_⟩
    have nl0 : H l = none := by rw [upd_ne (Ne.symm la)] at nl; exact nl
    have kv0 : ∀ st : Int, KvOk "great" JK l (mergeK [] [(.inr "great", .ref l), (.inr "mixed", .int st), (.inr "turns", .int 0)]) := fun st => by
      show KvOk _ _ _ (putK (putK (putK [] (.inr "great") (.ref l)) (.inr "mixed") (.int st)) (.inr "turns") (.int 0))
      refine ⟨?_, ?_, fun k hk => ?_⟩
      · have h1 := length_putK (putK (putK [] (Sum.inr "great" : Key) (.ref l)) (.inr "mixed") (.int st)) (.inr "turns") (.int 0)
        have h2 := length_putK (putK [] (Sum.inr "great" : Key) (.ref l)) (.inr "mixed") (.int st)
        have h3 := length_putK ([] : List (Key × V)) (.inr "great") (.ref l)
        simp at h3; omega
      · rw [valV_put, if_neg (by decide), valV_put, if_neg (by decide), valV_put, if_pos rfl]
      · have hk : k = "mixed" ∨ k = "turns" := by simpa using hk
        rcases hk with rfl | rfl
        · exact ⟨st, by rw [valV_put, if_neg (by decide), valV_put, if_pos rfl]⟩
        · exact ⟨0, by rw [valV_put, if_pos rfl]⟩
    generalize hk : mergeK [] [((Sum.inr "great" : Key), V.ref l), (Sum.inr "mixed", V.int (6607 + ((cutV (ns.map V.int) none (some 63)).length : Nat))), (Sum.inr "turns", V.int 0)] = kvs0
    have k0 : KvOk "great" JK l kvs0 := by rw [← hk]; exact kv0 _
    have nH : ∀ {b : Addr} {o : HO}, H b = some o → b ≠ a := fun hb => ne_of_none hb na
    have s4 : Same H (upd (upd (upd (upd H a (.dK [])) l (.lst [])) c (.lst (cutV (ns.map V.int) none (some 63)))) a (.dK kvs0)) := fun b o hb => by rw [upd_ne (nH hb)]; exact s3 b o hb
    have o4 : Opn "great" JK (upd (upd (upd (upd H a (.dK [])) l (.lst [])) c (.lst (cutV (ns.map V.int) none (some 63)))) a (.dK kvs0)) a l kvs0 [] := ⟨upd_same, by rw [upd_ne (Ne.symm la), upd_ne cl, upd_same]; rfl, k0⟩
    revert s4 o4
    generalize upd (upd (upd (upd H a (.dK [])) l (.lst [])) c (.lst (cutV (ns.map V.int) none (some 63)))) a (.dK kvs0) = H4
    intro s4 o4
    have hcs := cutD_len ns none (some 63)
    refine ⟨.ref a0, rfl, 63, rfl, a0, ns.map V.int, rfl, s4.seq (sq_scr sc), fun c2 nc2 => ?_⟩
    rw [cut_map]
    generalize GB.cutD ns none (some 63) = cs at hcs ⊢
    have a2 : c2 ≠ a := Ne.symm (ne_of_none o4.ha nc2)
    have l2 : c2 ≠ l := Ne.symm (ne_of_none o4.hl nc2)
    refine ⟨c2, rfl, ⟨_, .inl (.inl upd_same)⟩, fun i m σ' H5 => ∃ y2 y3 kvs is, σ' = [some (.ref a0), some (.ref a), y2, y3] ∧ i + m = cs.length ∧ Same H H5 ∧ Opn "great" JK H5 a l kvs is ∧ is.length ≤ i ∧ H5 c2 = some (.lst (cs.map V.int)),
      ⟨cs.length, none, none, kvs0, [], rfl, by omega, s4.trans (same_new nc2), ⟨by rw [upd_ne (Ne.symm a2)]; exact o4.ha, by rw [upd_ne (Ne.symm l2)]; exact o4.hl, o4.kv⟩, by simp, upd_same⟩, fun i m σ' H5 hW => ?_⟩
    obtain ⟨y2, y3, kvs5, is5, rfl, em, s5, o5, hi5, hc5⟩ := hW
    have q5 : SqL K H5 c2 (cs.map V.int) := .inl (.inl hc5)
    by_cases hi : i < cs.length
    · have g1 : (cs.map V.int)[i]? = some (.int cs[i]) := by rw [List.getElem?_map, List.getElem?_eq_getElem hi]; rfl
      refine .inr ⟨⟨_, _, q5, g1⟩, fun σ' H' => ∃ y2 y3 kvs is, σ' = [some (.ref a0), some (.ref a), y2, y3] ∧ Same H H' ∧ Opn "great" JK H' a l kvs is ∧ is.length ≤ i + 1 ∧ H' c2 = some (.lst (cs.map V.int)), fun σ' H' hN => ?_, fun x H' hy => ?_⟩
      · obtain ⟨z2, z3, k', j', e, h1, h2, h3, h4⟩ := hN
        exact ⟨m - 1, by omega, z2, z3, k', j', e, by omega, h1, h2, h3, h4⟩
      · obtain ⟨rfl, fv⟩ := hy
        have ev : x = .int cs[i] := Option.some.inj ((fv _ q5).symm.trans g1)
        subst ev
        refine ⟨_, _, _, _, rfl, fun m2 => ?_⟩
        have mixN : ∀ (D : Ends) (H' : Hp) (is' : List Int) (n w : Int) (_ : Same H H') (_ : Opn "great" JK H' a l kvs5 is') (_ : is'.length ≤ i + 1) (_ : H' c2 = some (.lst (cs.map V.int)))
            (_ : ∀ σ' H', (∃ y2 y3 kvs is, σ' = [some (.ref a0), some (.ref a), y2, y3] ∧ Same H H' ∧ Opn "great" JK H' a l kvs is ∧ is.length ≤ i + 1 ∧ H' c2 = some (.lst (cs.map V.int))) → D.nx σ' H'),
            tSeed D [some (.ref a0), some (.ref a), some (.int n), some (.int w)] H' := by
          intro D H' is' n w z1 z2 z3 z4 z6
          exact ⟨_, a, l, kvs5, is', n, w, rfl, z2, fun kvs' kv => z6 _ _ ⟨_, _, kvs', is', rfl, fun b o hb => by rw [upd_ne (nH hb)]; exact z1 b o hb, ⟨upd_same, by rw [upd_ne z2.ne]; exact z2.hl, kv⟩, z3, by rw [upd_ne a2]; exact z4⟩⟩
        refine ⟨_, a, l, kvs5, is5, _, _, rfl, o5, by omega, mixN _ _ _ _ _ s5 o5 (by omega) hc5 (fun _ _ h => h), fun is' hl' => ?_⟩
        refine mixN _ _ is' _ _ (fun b o hb => ?_) ⟨?_, upd_same, o5.kv⟩ (by omega) ?_ (fun _ _ h => h)
        · rw [upd_ne (ne_of_none hb nl0)]; exact s5 b o hb
        · rw [upd_ne (Ne.symm o5.ne)]; exact o5.ha
        · rw [upd_ne l2]; exact hc5
    · refine .inl ⟨⟨_, q5, by rw [List.length_map]; omega⟩, a, l, kvs5, is5, o5, .ref a, rfl, ?_⟩
      refine fin (.ref a) _ (.ob .jar) (fun b o hb => ?_) ⟨a, rfl, l, ?_, ?_, o5.ne⟩ q
      · unfold cls
        rw [upd_ne (ne_of_none hb nl0), upd_ne (nH hb)]; exact s5 b o hb
      · unfold cls
        rw [upd_ne (Ne.symm o5.ne), upd_same]; rfl
      · unfold cls; rw [upd_same]
end
end GK

set_option maxRecDepth 100000
namespace GK
open PySem PySem.Spec PyProof.Rows L2 GB
section
variable {P : Program} {w : World} {K : PySem.W.Frag} {mg : Str → Option Value} {base : Heap}
theorem ok_l_draw (T : Tx K w mg) (hs : ∃ o, base.get? sysModules = some o) : FnG P w K mg base CX0 1 T.a_l_draw T.d_l_draw ["deck", "many"] (spD K (Jr P w K) 2 F_l_draw) :=
  fn_ok T.F_l_draw sc_l_draw hs (t := rd_l_draw) (fun cdv A outer s H E hg hr gd => (dss_cons (ds_if (dt_cmp (o_lt) (de_var 1) de_int (nomark _)) (dss_one (ds_ret de_int)) dss_nil) (dss_cons (ds_jpop gd (fun _ _ h => h) rfl rfl (pv 0) (pv 0) (pv 0) (pv 2) (pv 1) (pv 2) (pv 1) (dss_one (ds_ret (de_op (o_mod) (de_callT (c_int rfl) (by rfl) T.b_int (by decide +kernel) (da_cons (de_var 2) da_nil)) (de_var 1))))) (dss_cons (ds_jput gd (fun _ _ h => h) (by decide) (by decide) (pv 0) (de_op (o_add rfl) (de_jint gd (fun _ _ h => h) (by decide) (pv 0)) de_int)) (dss_cons (ds_set (i := 3) gd rfl (.inl rfl) (de_op (o_mod) (de_callT (c_int rfl) (by rfl) T.b_int (by decide +kernel) (da_cons (de_fz gd (de_op (o_add rfl) (de_jint gd (fun _ _ h => h) (by decide) (pv 0)) (de_fz gd (de_op (o_mul rfl) de_int (de_jint gd (fun _ _ h => h) (by decide) (pv 0)))))) da_nil)) de_int)) (dss_cons (ds_set (i := 3) gd rfl (.inl rfl) (de_op (o_mod) (de_callT (c_int rfl) (by rfl) T.b_int (by decide +kernel) (da_cons (de_fz gd (de_op (o_add rfl) (de_fz gd (de_op (o_add rfl) (de_fz gd (de_op (o_mul rfl) (de_var 3) (de_var 3))) (de_fz gd (de_op (o_mul rfl) de_int (de_jint gd (fun _ _ h => h) (by decide) (pv 0)))))) de_int)) da_nil)) de_int)) (dss_cons (ds_set (i := 3) gd rfl (.inl rfl) (de_op (o_mod) (de_callT (c_int rfl) (by rfl) T.b_int (by decide +kernel) (da_cons (de_fz gd (de_op (o_add rfl) (de_fz gd (de_op (o_mul rfl) (de_var 3) (de_var 3))) (de_fz gd (de_op (o_mul rfl) (de_jint gd (fun _ _ h => h) (by decide) (pv 0)) de_int)))) da_nil)) de_int)) (dss_one (ds_ret (de_op (o_mod) (de_callT (c_int rfl) (by rfl) T.b_int (by decide +kernel) (da_cons (de_op (o_div) (de_var 3) de_int) da_nil)) (de_var 1))))))))))) ma_l_draw
theorem ok_l_pick (T : Tx K w mg) (hs : ∃ o, base.get? sysModules = some o) : FnG P w K mg base CX0 2 T.a_l_pick T.d_l_pick ["deck", "items"] (spD K (Jr P w K) 2 F_l_pick) :=
  fn_ok T.F_l_pick sc_l_pick hs (t := rd_l_pick) (fun cdv A outer s H E hg hr gd => (dss_one (ds_ret (de_ix (i_at rfl) (de_var 1) (de_call rfl (ok_l_draw T hs) (hr.mono (by decide)) gd (by rfl) T.m_l_draw T.F_l_draw.kp T.B_l_draw pass0 (da_cons (de_var 0) (da_cons (de_callB (c_len rfl) (by rfl) T.b_len (by decide +kernel) (da_cons (de_var 1) da_nil)) da_nil))) (fun _ _ => rfl))))) ma_l_pick
theorem ok_l_heap (T : Tx K w mg) (hs : ∃ o, base.get? sysModules = some o) : FnG P w K mg base CX0 3 T.a_l_heap T.d_l_heap ["deck", "cells", "target"] (spD K (Jr P w K) 3 F_l_heap) :=
  fn_ok T.F_l_heap sc_l_heap hs (t := rd_l_heap) (fun cdv A outer s H E hg hr gd => (dss_cons (ds_set (i := 3) gd rfl (.inl rfl) (de_lst da_nil)) (dss_cons (ds_for gd PassesOwn.never (di_rng (by rfl) T.b_range (de_var 1)) (dg_name (i := 4) gd rfl (.inl rfl)) (dss_cons (ds_setLc (i := 5) (own := [("field", 6)]) gd rfl rfl (sw_true rfl rfl rfl (by decide +kernel)) (di_rng (by rfl) T.b_range (de_call rfl (ok_l_pick T hs) (hr.mono (by decide)) gd (by rfl) T.m_l_pick T.F_l_pick.kp T.B_l_pick pass0 (da_cons (de_var 0) (da_cons (de_fz gd (de_lst (da_cons de_int (da_cons de_int (da_cons de_int (da_cons de_int (da_cons de_int (da_cons de_int da_nil)))))))) da_nil)))) (blkOk_by (N := nm_l_heap) (sc := defScope st_l_heap) (by decide +kernel)) (fun _ _ _ _ _ => (pg_name (i := 6) (by exact gd.nd) (by rfl) (by exact (.inl rfl)))) (gown_name (by decide)) (fun _ _ _ _ _ gd => dts_nil) (fun _ _ _ _ _ gd => (de_call rfl (ok_l_pick T hs) (hr.mono (by decide)) gd (by rfl) T.m_l_pick T.F_l_pick.kp T.B_l_pick pass0 (da_cons (de_var 0) (da_cons (de_fz gd (de_op (o_add rfl) (de_var 2) (de_fz gd (de_lst (da_cons de_non da_nil))))) da_nil))))) (dss_fix gd 5 (dss_one (ds_expr (de_append (pv 3) (de_callT (c_tuple rfl) (by rfl) T.b_tuple (by decide +kernel) (da_cons (de_var 5) da_nil)))))))) (dss_one (ds_ret (de_callT1 (c_tuple rfl) (by rfl) T.b_tuple (by decide +kernel) (pv 3))))))) ma_l_heap
theorem ok_l_rooms (T : Tx K w mg) (hs : ∃ o, base.get? sysModules = some o) : FnG P w K mg base CX0 3 T.a_l_rooms T.d_l_rooms ["deck", "many", "target"] (spD K (Jr P w K) 3 F_l_rooms) :=
  fn_ok T.F_l_rooms sc_l_rooms hs (t := rd_l_rooms) (fun cdv A outer s H E hg hr gd => (dss_cons (ds_set (i := 3) gd rfl (.inl rfl) (de_lst da_nil)) (dss_cons (ds_for gd PassesOwn.never (di_rng (by rfl) T.b_range (de_var 1)) (dg_name (i := 4) gd rfl (.inl rfl)) (dss_one (ds_expr (de_append (pv 3) (de_callT (c_tuple rfl) (by rfl) T.b_tuple (by decide +kernel) (da_cons (de_fz gd (de_lc (own := [("room", 5)]) gd (di_rng (by rfl) T.b_range (de_op (o_add rfl) de_int (de_call rfl (ok_l_draw T hs) (hr.mono (by decide)) gd (by rfl) T.m_l_draw T.F_l_draw.kp T.B_l_draw pass0 (da_cons (de_var 0) (da_cons de_int da_nil))))) (blkOk_by (N := nm_l_rooms) (sc := defScope st_l_rooms) (by decide +kernel)) (fun _ _ _ _ _ => (pg_name (i := 5) (by exact gd.nd) (by rfl) (by exact (.inl rfl)))) (gown_name (by decide)) (fun _ _ _ _ _ gd => dts_nil) (fun _ _ _ _ _ gd => (de_call rfl (ok_l_pick T hs) (hr.mono (by decide)) gd (by rfl) T.m_l_pick T.F_l_pick.kp T.B_l_pick pass0 (da_cons (de_var 0) (da_cons (de_fz gd (de_op (o_add rfl) (de_var 2) (de_fz gd (de_lst (da_cons de_non da_nil))))) da_nil)))))) da_nil)))))) (dss_one (ds_ret (de_callT1 (c_tuple rfl) (by rfl) T.b_tuple (by decide +kernel) (pv 3))))))) ma_l_rooms
theorem ok_l_begin (T : Tx K w mg) (hs : ∃ o, base.get? sysModules = some o) : FnG P w K mg base CX0 4 T.a_l_begin T.d_l_begin ["deck", "cells", "many", "more"] (spD K (Jr P w K) 4 F_l_begin) :=
  fn_ok T.F_l_begin sc_l_begin hs (t := rd_l_begin) (fun cdv A outer s H E hg hr gd => (dss_cons (ds_set (i := 4) gd rfl (.inl rfl) (de_call rfl (ok_l_heap T hs) (hr.mono (by decide)) gd (by rfl) T.m_l_heap T.F_l_heap.kp T.B_l_heap pass0 (da_cons (de_var 0) (da_cons (de_var 1) (da_cons (de_fz gd (de_listRng gd (by rfl) T.b_list (by rfl) T.b_range (de_var 1))) da_nil))))) (dss_cons (ds_set (i := 5) gd rfl (.inl rfl) (de_fz gd (de_op (o_add rfl) (de_fz gd (de_op (o_mul rfl) (de_tup (da_cons de_str da_nil)) (de_var 1))) (de_fz gd (de_op (o_mul rfl) (de_tup (da_cons de_str da_nil)) (de_var 3)))))) (dss_one (ds_ret (de_tup (da_cons (de_fz gd (de_op (o_add rfl) (de_var 4) (de_fz gd (de_op (o_mul rfl) (de_tup (da_cons (de_tup da_nil) da_nil)) (de_var 3))))) (da_cons (de_var 5) (da_cons (de_call rfl (ok_l_rooms T hs) (hr.mono (by decide)) gd (by rfl) T.m_l_rooms T.F_l_rooms.kp T.B_l_rooms pass0 (da_cons (de_var 0) (da_cons (de_var 2) (da_cons (de_fz gd (de_listRng gd (by rfl) T.b_list (by rfl) T.b_range (de_var 1))) da_nil)))) (da_cons (de_fz gd (de_op (o_mul rfl) (de_tup (da_cons de_bl da_nil)) (de_var 2))) da_nil)))))))))) ma_l_begin
theorem ok_l_odd (T : Tx K w mg) (hs : ∃ o, base.get? sysModules = some o) : FnG P w K mg base CX0 3 T.a_l_odd T.d_l_odd ["deck"] (spD K (Jr P w K) 1 F_l_odd) :=
  fn_ok T.F_l_odd sc_l_odd hs (t := rd_l_odd) (fun cdv A outer s H E hg hr gd => (dss_cons (ds_set (i := 1) gd rfl (.inl rfl) (de_fz gd (de_lst (da_cons de_non (da_cons de_bl (da_cons de_bl (da_cons de_int (da_cons (de_neg de_int) (da_cons (de_op (o_pow) de_int de_int) (da_cons de_str (da_cons de_str (da_cons de_str (da_cons (de_tup da_nil) (da_cons (de_fz gd (de_lst da_nil)) (da_cons (de_fz gd (de_dict0 gd)) (da_cons (de_tup (da_cons de_int da_nil)) (da_cons (de_fz gd (de_lst (da_cons de_int da_nil))) (da_cons (de_tup (da_cons (de_tup (da_cons de_int da_nil)) da_nil)) (da_cons de_str (da_cons (de_dict1 gd de_int) (da_cons (de_tup (da_cons (de_tup da_nil) da_nil)) da_nil))))))))))))))))))))) (dss_one (ds_ret (de_call rfl (ok_l_pick T hs) (hr.mono (by decide)) gd (by rfl) T.m_l_pick T.F_l_pick.kp T.B_l_pick pass0 (da_cons (de_var 0) (da_cons (de_var 1) da_nil))))))) ma_l_odd
theorem ok_l_bent_line (T : Tx K w mg) (hs : ∃ o, base.get? sysModules = some o) : FnG P w K mg base CX0 4 T.a_l_bent_line T.d_l_bent_line ["deck", "line"] (spD K (Jr P w K) 2 F_l_bent_line) :=
  fn_ok T.F_l_bent_line sc_l_bent_line hs (t := rd_l_bent_line) (fun cdv A outer s H E hg hr gd => (dss_cons (ds_if (dw_or (dt_not (dt_tr rfl (de_isi (Ts := "tuple") rfl (by rfl) T.b_isinstance (by rfl) T.b_tuple (by decide +kernel) (.inr (.inr (.inr (.inl rfl)))) (de_var 1)))) (dw_or1 (dt_cmp (o_equ rfl gd) (de_var 1) (de_tup da_nil) (nomark _)))).pt (dss_one (ds_ret (de_call rfl (ok_l_odd T hs) (hr.mono (by decide)) gd (by rfl) T.m_l_odd T.F_l_odd.kp T.B_l_odd pass0 (da_cons (de_var 0) da_nil)))) dss_nil) (dss_cons (ds_par (i := 2) (j := 3) gd rfl rfl (by decide) rfl rfl (de_call rfl (ok_l_draw T hs) (hr.mono (by decide)) gd (by rfl) T.m_l_draw T.F_l_draw.kp T.B_l_draw pass0 (da_cons (de_var 0) (da_cons (de_callB (c_len rfl) (by rfl) T.b_len (by decide +kernel) (da_cons (de_var 1) da_nil)) da_nil))) (de_call rfl (ok_l_draw T hs) (hr.mono (by decide)) gd (by rfl) T.m_l_draw T.F_l_draw.kp T.B_l_draw pass0 (da_cons (de_var 0) (da_cons de_int da_nil))) rfl) (dss_cons (ds_set (i := 4) gd rfl (.inl rfl) (de_call rfl (ok_l_pick T hs) (hr.mono (by decide)) gd (by rfl) T.m_l_pick T.F_l_pick.kp T.B_l_pick pass0 (da_cons (de_var 0) (da_cons (de_fz gd (de_lst (da_cons de_int (da_cons de_int (da_cons de_int (da_cons (de_neg de_int) (da_cons de_bl (da_cons de_bl (da_cons de_non (da_cons de_str (da_cons (de_tup (da_cons de_int da_nil)) (da_cons (de_fz gd (de_lst da_nil)) (da_cons (de_op (o_pow) de_int de_int) (da_cons (de_ix (i_at rfl) (de_var 1) (de_var 2) (fun _ _ => rfl)) da_nil)))))))))))))) da_nil)))) (dss_cons (ds_if (dt_cmp (o_eq rfl gd) (de_var 3) de_int (nomark _)) (dss_one (ds_ret (de_fz gd (de_op (o_add rfl) (de_fz gd (de_cut rfl (de_var 1) do_none (do_some (de_var 2)))) (de_fz gd (de_cut rfl (de_var 1) (do_some (de_op (o_add rfl) (de_var 2) de_int)) do_none)))))) dss_nil) (dss_cons (ds_if (dt_cmp (o_eq rfl gd) (de_var 3) de_int (nomark _)) (dss_one (ds_ret (de_fz gd (de_op (o_add rfl) (de_fz gd (de_op (o_add rfl) (de_fz gd (de_cut rfl (de_var 1) do_none (do_some (de_var 2)))) (de_tup (da_cons (de_var 4) da_nil)))) (de_fz gd (de_cut rfl (de_var 1) (do_some (de_var 2)) do_none)))))) dss_nil) (dss_cons (ds_if (dt_cmp (o_eq rfl gd) (de_var 3) de_int (nomark _)) (dss_one (ds_ret (de_fz gd (de_op (o_add rfl) (de_tup (da_cons (de_call rfl (ok_l_pick T hs) (hr.mono (by decide)) gd (by rfl) T.m_l_pick T.F_l_pick.kp T.B_l_pick pass0 (da_cons (de_var 0) (da_cons (de_fz gd (de_lst (da_cons de_str (da_cons de_str (da_cons de_str (da_cons de_str (da_cons de_non (da_cons de_int (da_cons (de_fz gd (de_lst da_nil)) (da_cons de_str (da_cons de_str da_nil))))))))))) da_nil))) da_nil)) (de_fz gd (de_cut rfl (de_var 1) (do_some de_int) do_none)))))) dss_nil) (dss_cons (ds_if (dt_cmp (o_eq rfl gd) (de_var 3) de_int (nomark _)) (dss_one (ds_ret (de_call rfl (ok_l_pick T hs) (hr.mono (by decide)) gd (by rfl) T.m_l_pick T.F_l_pick.kp T.B_l_pick pass0 (da_cons (de_var 0) (da_cons (de_fz gd (de_lst (da_cons (de_fz gd (de_callT (c_list rfl) (by rfl) T.b_list (by decide +kernel) (da_cons (de_var 1) da_nil))) (da_cons (de_fz gd (de_op (o_add rfl) (de_tup (da_cons (de_ix (i_at rfl) (de_var 1) de_int (fun _ _ => rfl)) (da_cons de_int da_nil))) (de_fz gd (de_cut rfl (de_var 1) (do_some de_int) do_none)))) (da_cons (de_fz gd (de_rev rfl (de_var 1))) (da_cons (de_tup (da_cons (de_var 1) da_nil)) (da_cons (de_ix (i_at rfl) (de_var 1) de_int (fun _ _ => rfl)) da_nil))))))) da_nil))))) dss_nil) (dss_one (ds_ret (de_fz gd (de_op (o_add rfl) (de_fz gd (de_op (o_add rfl) (de_fz gd (de_op (o_add rfl) (de_fz gd (de_cut rfl (de_var 1) do_none (do_some de_int))) (de_fz gd (de_cut rfl (de_fz gd (de_cut rfl (de_var 1) (do_some de_int) do_none)) do_none (do_some (de_var 2)))))) (de_tup (da_cons (de_var 4) da_nil)))) (de_fz gd (de_cut rfl (de_fz gd (de_cut rfl (de_var 1) (do_some de_int) do_none)) (do_some (de_op (o_add rfl) (de_var 2) de_int)) do_none)))))))))))))) ma_l_bent_line
theorem ok_l_bent (T : Tx K w mg) (hs : ∃ o, base.get? sysModules = some o) : FnG P w K mg base CX0 5 T.a_l_bent T.d_l_bent ["deck", "value"] (spD K (Jr P w K) 2 F_l_bent) :=
  fn_ok T.F_l_bent sc_l_bent hs (t := rd_l_bent) (fun cdv A outer s H E hg hr gd => (dss_cons (ds_if (dw_or (dt_cmp (o_equ rfl gd) (de_var 1) (de_tup da_nil) (nomark _)) (dw_or1 (dt_cmp (o_eq rfl gd) (de_call rfl (ok_l_draw T hs) (hr.mono (by decide)) gd (by rfl) T.m_l_draw T.F_l_draw.kp T.B_l_draw pass0 (da_cons (de_var 0) (da_cons de_int da_nil))) de_int (nomark _)))).pt (dss_one (ds_ret (de_call rfl (ok_l_pick T hs) (hr.mono (by decide)) gd (by rfl) T.m_l_pick T.F_l_pick.kp T.B_l_pick pass0 (da_cons (de_var 0) (da_cons (de_fz gd (de_lst (da_cons (de_fz gd (de_callT (c_list rfl) (by rfl) T.b_list (by decide +kernel) (da_cons (de_var 1) da_nil))) (da_cons (de_fz gd (de_op (o_add rfl) (de_var 1) (de_tup (da_cons (de_call rfl (ok_l_odd T hs) (hr.mono (by decide)) gd (by rfl) T.m_l_odd T.F_l_odd.kp T.B_l_odd pass0 (da_cons (de_var 0) da_nil)) da_nil)))) (da_cons (de_fz gd (de_op (o_mul rfl) (de_var 1) de_int)) (da_cons (de_tup (da_cons (de_var 1) da_nil)) (da_cons (de_fz gd (de_op (o_mul rfl) (de_tup (da_cons (de_tup (da_cons de_str (da_cons de_int da_nil))) da_nil)) de_int)) (da_cons de_non da_nil)))))))) da_nil))))) dss_nil) (dss_cons (ds_set (i := 2) gd rfl (.inl rfl) (de_call rfl (ok_l_draw T hs) (hr.mono (by decide)) gd (by rfl) T.m_l_draw T.F_l_draw.kp T.B_l_draw pass0 (da_cons (de_var 0) (da_cons (de_callB (c_len rfl) (by rfl) T.b_len (by decide +kernel) (da_cons (de_var 1) da_nil)) da_nil)))) (dss_one (ds_ret (de_fz gd (de_op (o_add rfl) (de_fz gd (de_op (o_add rfl) (de_fz gd (de_cut rfl (de_var 1) do_none (do_some (de_var 2)))) (de_tup (da_cons (de_call rfl (ok_l_bent_line T hs) (hr.mono (by decide)) gd (by rfl) T.m_l_bent_line T.F_l_bent_line.kp T.B_l_bent_line pass0 (da_cons (de_var 0) (da_cons (de_ix (i_at rfl) (de_var 1) (de_var 2) (fun _ _ => rfl)) da_nil))) da_nil)))) (de_fz gd (de_cut rfl (de_var 1) (do_some (de_op (o_add rfl) (de_var 2) de_int)) do_none))))))))) ma_l_bent
theorem ok_is_tuple_of (T : Tx K w mg) (hs : ∃ o, base.get? sysModules = some o) : FnG P w K mg base CX0 1 T.a_is_tuple_of T.d_is_tuple_of ["value", "least", "most"] (spD K (Jr P w K) 3 F_is_tuple_of) :=
  fn_ok T.F_is_tuple_of sc_is_tuple_of hs (t := rd_is_tuple_of) (fun cdv A outer s H E hg hr gd => (dss_one (ds_ret (de_and (de_isi (Ts := "tuple") rfl (by rfl) T.b_isinstance (by rfl) T.b_tuple (by decide +kernel) (.inr (.inr (.inr (.inl rfl)))) (de_var 0)) (de_one (de_chain (o_le) (o_le) (de_var 1) (de_callB (c_len rfl) (by rfl) T.b_len (by decide +kernel) (da_cons (de_var 0) da_nil)) (de_var 2))))))) ma_is_tuple_of
theorem ok_is_integer (T : Tx K w mg) (hs : ∃ o, base.get? sysModules = some o) : FnG P w K mg base CX0 1 T.a_is_integer T.d_is_integer ["value"] (spD K (Jr P w K) 1 F_is_integer) :=
  fn_ok T.F_is_integer sc_is_integer hs (t := rd_is_integer) (fun cdv A outer s H E hg hr gd => (dss_one (ds_ret (de_and (de_isi (Ts := "int") rfl (by rfl) T.b_isinstance (by rfl) T.b_int (by decide +kernel) (.inl rfl) (de_var 0)) (de_one (de_not (de_isi (Ts := "bool") rfl (by rfl) T.b_isinstance (by rfl) T.b_bool (by decide +kernel) (.inr (.inl rfl)) (de_var 0)))))))) ma_is_integer
theorem ok_is_number_below (T : Tx K w mg) (hs : ∃ o, base.get? sysModules = some o) : FnG P w K mg base CX0 2 T.a_is_number_below T.d_is_number_below ["value", "many"] (spD K (Jr P w K) 2 F_is_number_below) :=
  fn_ok T.F_is_number_below sc_is_number_below hs (t := rd_is_number_below) (fun cdv A outer s H E hg hr gd => (dss_one (ds_ret (de_and (de_call rfl (ok_is_integer T hs) (hr.mono (by decide)) gd (by rfl) T.m_is_integer T.F_is_integer.kp T.B_is_integer pass0 (da_cons (de_var 0) da_nil)) (de_one (de_chain (o_le) (o_lt) de_int (de_var 0) (de_var 1))))))) ma_is_number_below
theorem ok_p_is_of_kind (T : Tx K w mg) (hs : ∃ o, base.get? sysModules = some o) : FnG P w K mg base CX0 3 T.a_p_is_of_kind T.d_p_is_of_kind ["value", "kind"] (spD K (Jr P w K) 2 F_p_is_of_kind) :=
  fn_ok T.F_p_is_of_kind sc_p_is_of_kind hs (t := rd_p_is_of_kind) (fun cdv A outer s H E hg hr gd => (dss_cons (ds_if (dt_cmp (o_eq rfl gd) (de_var 1) de_str (nomark _)) (dss_one (ds_ret (de_call rfl (ok_is_number_below T hs) (hr.mono (by decide)) gd (by rfl) T.m_is_number_below T.F_is_number_below.kp T.B_is_number_below pass0 (da_cons (de_var 0) (da_cons (de_fz gd (de_op (o_add rfl) (de_glob (by rfl) T.m_MAX_FIELDS T.r_MAX_FIELDS fun _ => .int _) de_int)) da_nil))))) dss_nil) (dss_cons (ds_if (dt_cmp (o_eq rfl gd) (de_var 1) de_str (nomark _)) (dss_one (ds_ret (de_call rfl (ok_is_number_below T hs) (hr.mono (by decide)) gd (by rfl) T.m_is_number_below T.F_is_number_below.kp T.B_is_number_below pass0 (da_cons (de_var 0) (da_cons (de_glob (by rfl) T.m_MAX_FIELDS T.r_MAX_FIELDS fun _ => .int _) da_nil))))) dss_nil) (dss_one (ds_ret (de_or (de_call rfl (ok_is_number_below T hs) (hr.mono (by decide)) gd (by rfl) T.m_is_number_below T.F_is_number_below.kp T.B_is_number_below pass0 (da_cons (de_var 0) (da_cons (de_glob (by rfl) T.m_MAX_ROOMS T.r_MAX_ROOMS fun _ => .int _) da_nil))) (de_one (de_and (de_cmp (o_is) (de_var 0) de_non (nomark _)) (de_one (de_cmp (o_eq rfl gd) (de_var 1) de_str (nomark _))))))))))) ma_p_is_of_kind
theorem ok_p_is_line (T : Tx K w mg) (hs : ∃ o, base.get? sysModules = some o) : FnG P w K mg base CX0 4 T.a_p_is_line T.d_p_is_line ["value"] (spD K (Jr P w K) 1 F_p_is_line) :=
  fn_ok T.F_p_is_line sc_p_is_line hs (t := rd_p_is_line) (fun cdv A outer s H E hg hr gd => (dss_cons (ds_if (dw_or (dt_not (dt_tr rfl (de_call rfl (ok_is_tuple_of T hs) (hr.mono (by decide)) gd (by rfl) T.m_is_tuple_of T.F_is_tuple_of.kp T.B_is_tuple_of pass0 (da_cons (de_var 0) (da_cons de_int (da_cons de_int da_nil)))))) (dw_or1 (dt_not (dt_tr rfl (de_isi (Ts := "str") rfl (by rfl) T.b_isinstance (by rfl) T.b_str (by decide +kernel) (.inr (.inr (.inl rfl))) (de_ix (i_at rfl) (de_var 0) de_int (fun _ _ => rfl))))))).pt (dss_one (ds_ret de_bl)) dss_nil) (dss_cons (ds_set (i := 1) gd rfl (.inl rfl) (de_kget rfl (by rfl) T.m_LINES T.x_LINES (de_ix (i_at rfl) (de_var 0) de_int (fun _ _ => rfl)) (de_tup da_nil))) (dss_cons (ds_if (dt_cmp (o_ne rfl gd) (de_callB (c_len rfl) (by rfl) T.b_len (by decide +kernel) (da_cons (de_var 1) da_nil)) (de_op (o_sub) (de_callB (c_len rfl) (by rfl) T.b_len (by decide +kernel) (da_cons (de_var 0) da_nil)) de_int) (nomark _)) (dss_one (ds_ret de_bl)) dss_nil) (dss_one (ds_ret (de_callB (c_all rfl gd) (by rfl) T.b_all (by decide +kernel) (da_cons (de_fz gd (de_lc (own := [("number", 2), ("kind", 3)]) gd (di_zip rfl (by rfl) T.b_zip (de_fz gd (de_cut rfl (de_var 0) (do_some de_int) do_none)) (de_var 1)) (blkOk_by (N := nm_p_is_line) (sc := defScope st_p_is_line) (by decide +kernel)) (fun _ _ _ _ _ => (pg_tup (by rfl) (pgs_cons (pg_name (i := 2) (by exact gd.nd) (by rfl) (by exact (.inl rfl))) (pgs_cons (pg_name (i := 3) (by exact gd.nd) (by rfl) (by exact (.inl rfl))) pgs_nil)))) (gown_tup (gowns_cons (gown_name (by decide)) (gowns_cons (gown_name (by decide)) gowns_nil))) (fun _ _ _ _ _ gd => dts_nil) (fun _ _ _ _ _ gd => (de_call rfl (ok_p_is_of_kind T hs) (hr.mono (by decide)) gd (by rfl) T.m_p_is_of_kind T.F_p_is_of_kind.kp T.B_p_is_of_kind pass0 (da_cons (de_var 2) (da_cons (de_var 3) da_nil)))))) da_nil)))))))) ma_p_is_line
theorem ok_program_error (T : Tx K w mg) (hs : ∃ o, base.get? sysModules = some o) : FnG P w K mg base CX0 5 T.a_program_error T.d_program_error ["value"] (spD K (Jr P w K) 1 F_program_error) :=
  fn_ok T.F_program_error sc_program_error hs (t := rd_program_error) (fun cdv A outer s H E hg hr gd => (dss_cons (ds_if (dt_not (dt_tr rfl (de_call rfl (ok_is_tuple_of T hs) (hr.mono (by decide)) gd (by rfl) T.m_is_tuple_of T.F_is_tuple_of.kp T.B_is_tuple_of pass0 (da_cons (de_var 0) (da_cons de_int (da_cons (de_glob (by rfl) T.m_MAX_PROGRAM T.r_MAX_PROGRAM fun _ => .int _) da_nil)))))) (dss_one (ds_ret de_str)) dss_nil) (dss_cons (ds_for gd PassesOwn.never (di_enum rfl (by rfl) T.b_enumerate (de_var 0)) (dg_tup gd rfl (dgs_cons (dg_name (i := 1) gd rfl (.inl rfl)) (dgs_cons (dg_name (i := 2) gd rfl (.inl rfl)) dgs_nil))) (dss_one (ds_if (dt_not (dt_tr rfl (de_call rfl (ok_p_is_line T hs) (hr.mono (by decide)) gd (by rfl) T.m_p_is_line T.F_p_is_line.kp T.B_p_is_line pass0 (da_cons (de_var 2) da_nil)))) (dss_one (ds_ret (de_tup (da_cons de_str (da_cons (de_var 1) da_nil))))) dss_nil))) (dss_one (ds_ret de_non))))) ma_program_error
theorem ok_programs_error (T : Tx K w mg) (hs : ∃ o, base.get? sysModules = some o) : FnG P w K mg base CX0 6 T.a_programs_error T.d_programs_error ["standing", "value"] (spD K (Jr P w K) 2 F_programs_error) :=
  fn_ok T.F_programs_error sc_programs_error hs (t := rd_programs_error) (fun cdv A outer s H E hg hr gd => (dss_cons (ds_set (i := 2) gd rfl (.inl rfl) (de_callB (c_len rfl) (by rfl) T.b_len (by decide +kernel) (da_cons (de_ix (i_at rfl) (de_var 0) de_int (fun _ _ => rfl)) da_nil))) (dss_cons (ds_if (dt_not (dt_tr rfl (de_call rfl (ok_is_tuple_of T hs) (hr.mono (by decide)) gd (by rfl) T.m_is_tuple_of T.F_is_tuple_of.kp T.B_is_tuple_of pass0 (da_cons (de_var 1) (da_cons (de_var 2) (da_cons (de_var 2) da_nil)))))) (dss_one (ds_ret de_str)) dss_nil) (dss_cons (ds_for gd PassesOwn.never (di_enum rfl (by rfl) T.b_enumerate (de_var 1)) (dg_tup gd rfl (dgs_cons (dg_name (i := 3) gd rfl (.inl rfl)) (dgs_cons (dg_name (i := 4) gd rfl (.inl rfl)) dgs_nil))) (dss_cons (ds_set (i := 5) gd rfl (.inl rfl) (de_call rfl (ok_program_error T hs) (hr.mono (by decide)) gd (by rfl) T.m_program_error T.F_program_error.kp T.B_program_error pass0 (da_cons (de_var 4) da_nil))) (dss_one (ds_if (dt_cmp (o_isnot) (de_var 5) de_non (nomark _)) (dss_one (ds_ret (de_tup (da_cons de_str (da_cons (de_var 3) (da_cons (de_var 5) da_nil)))))) dss_nil)))) (dss_one (ds_ret de_non)))))) ma_programs_error
theorem ok_l_bounds (T : Tx K w mg) (hs : ∃ o, base.get? sysModules = some o) : FnG P w K mg base CX0 1 T.a_l_bounds T.d_l_bounds ["word"] (spD K (Jr P w K) 1 F_l_bounds) :=
  fn_ok T.F_l_bounds sc_l_bounds hs (t := rd_l_bounds) (fun cdv A outer s H E hg hr gd => (dss_cons (ds_set (i := 1) gd rfl (.inl rfl) (de_disp (ks := ["drop", "copy", "make", "read", "write"]) (ts := [(dTup (dCons (dK (.int 3)) dNil)), (dTup (dCons (dK (.int 3)) (dCons (dK (.int 3)) dNil))), (dTup (dCons (dK (.int 3)) (dCons (dK (.int 3)) dNil))), (dTup (dCons (dK (.int 3)) (dCons (dK (.int 2)) (dCons (dK (.int 3)) dNil)))), (dTup (dCons (dK (.int 3)) (dCons (dK (.int 2)) (dCons (dK (.int 3)) dNil))))]) (pps_cons pe_str (de_tup (da_cons de_int da_nil)) (pps_cons pe_str (de_tup (da_cons de_int (da_cons de_int da_nil))) (pps_cons pe_str (de_tup (da_cons de_int (da_cons de_int da_nil))) (pps_cons pe_str (de_tup (da_cons de_int (da_cons de_int (da_cons de_int da_nil)))) (pps_cons pe_str (de_tup (da_cons de_int (da_cons de_int (da_cons de_int da_nil)))) pps_nil))))) rfl (by decide))) (dss_one (ds_ret (de_if (dw_and (dt_tr rfl (de_isi (Ts := "str") rfl (by rfl) T.b_isinstance (by rfl) T.b_str (by decide +kernel) (.inr (.inr (.inl rfl))) (de_var 0))) (dw_and1 (dt_inO gd (de_var 0) (pv 1)))).pt (de_itemO gd (pv 1) (de_var 0)) (de_tup da_nil)))))) ma_l_bounds
theorem ok_l_is_line (T : Tx K w mg) (hs : ∃ o, base.get? sysModules = some o) : FnG P w K mg base CX0 2 T.a_l_is_line T.d_l_is_line ["value"] (spD K (Jr P w K) 1 F_l_is_line) :=
  fn_ok T.F_l_is_line sc_l_is_line hs (t := rd_l_is_line) (fun cdv A outer s H E hg hr gd => (dss_cons (ds_if (dw_or (dt_not (dt_tr rfl (de_isi (Ts := "tuple") rfl (by rfl) T.b_isinstance (by rfl) T.b_tuple (by decide +kernel) (.inr (.inr (.inr (.inl rfl)))) (de_var 0)))) (dw_or (dt_cmp (o_equ rfl gd) (de_var 0) (de_tup da_nil) (nomark _)) (dw_or1 (dt_cmp (o_equ rfl gd) (de_call rfl (ok_l_bounds T hs) (hr.mono (by decide)) gd (by rfl) T.m_l_bounds T.F_l_bounds.kp T.B_l_bounds pass0 (da_cons (de_ix (i_at rfl) (de_var 0) de_int (fun _ _ => rfl)) da_nil)) (de_tup da_nil) (nomark _))))).pt (dss_one (ds_ret de_bl)) dss_nil) (dss_cons (ds_set (i := 1) gd rfl (.inl rfl) (de_call rfl (ok_l_bounds T hs) (hr.mono (by decide)) gd (by rfl) T.m_l_bounds T.F_l_bounds.kp T.B_l_bounds pass0 (da_cons (de_ix (i_at rfl) (de_var 0) de_int (fun _ _ => rfl)) da_nil))) (dss_cons (ds_if (dt_cmp (o_ne rfl gd) (de_callB (c_len rfl) (by rfl) T.b_len (by decide +kernel) (da_cons (de_var 0) da_nil)) (de_fz gd (de_op (o_add rfl) (de_callB (c_len rfl) (by rfl) T.b_len (by decide +kernel) (da_cons (de_var 1) da_nil)) de_int)) (nomark _)) (dss_one (ds_ret de_bl)) dss_nil) (dss_cons (ds_for gd PassesOwn.never (di_enum rfl (by rfl) T.b_enumerate (de_fz gd (de_cut rfl (de_var 0) (do_some de_int) do_none))) (dg_tup gd rfl (dgs_cons (dg_name (i := 2) gd rfl (.inl rfl)) (dgs_cons (dg_name (i := 3) gd rfl (.inl rfl)) dgs_nil))) (dss_one (ds_if (dt_not (dw_and (dt_cmp (o_is) (de_var 3) de_non (nomark _)) (dw_and (dt_cmp (o_eq rfl gd) (de_ix (i_at rfl) (de_var 0) de_int (fun _ _ => rfl)) de_str (nomark _)) (dw_and1 (dt_cmp (o_eq rfl gd) (de_var 2) de_int (nomark _))))).pt) (dss_one (ds_if (dw_or (dt_not (dt_tr rfl (de_isi (Ts := "int") rfl (by rfl) T.b_isinstance (by rfl) T.b_int (by decide +kernel) (.inl rfl) (de_var 3)))) (dw_or (dt_tr rfl (de_isi (Ts := "bool") rfl (by rfl) T.b_isinstance (by rfl) T.b_bool (by decide +kernel) (.inr (.inl rfl)) (de_var 3))) (dw_or1 (dt_not (dt_chain (o_le) (o_le) de_int (de_var 3) (de_ix (i_at rfl) (de_var 1) (de_var 2) (fun _ _ => rfl))))))).pt (dss_one (ds_ret de_bl)) dss_nil)) dss_nil))) (dss_one (ds_ret de_bl))))))) ma_l_is_line
theorem ok_l_fault (T : Tx K w mg) (hs : ∃ o, base.get? sysModules = some o) : FnG P w K mg base CX0 3 T.a_l_fault T.d_l_fault ["value"] (spD K (Jr P w K) 1 F_l_faultP) :=
  fn_ok T.F_l_faultP sc_l_fault hs (t := rd_l_fault) (fun cdv A outer s H E hg hr gd => (dss_cons (ds_if (dw_or (dt_not (dt_tr rfl (de_isi (Ts := "tuple") rfl (by rfl) T.b_isinstance (by rfl) T.b_tuple (by decide +kernel) (.inr (.inr (.inr (.inl rfl)))) (de_var 0)))) (dw_or1 (dt_cmp (o_gt) (de_callB (c_len rfl) (by rfl) T.b_len (by decide +kernel) (da_cons (de_var 0) da_nil)) de_int (nomark _)))).pt (dss_one (ds_ret de_str)) dss_nil) (dss_cons (ds_for gd PassesOwn.never (di_enum rfl (by rfl) T.b_enumerate (de_var 0)) (dg_tup gd rfl (dgs_cons (dg_name (i := 1) gd rfl (.inl rfl)) (dgs_cons (dg_name (i := 2) gd rfl (.inl rfl)) dgs_nil))) (dss_one (ds_if (dt_not (dt_tr rfl (de_call rfl (ok_l_is_line T hs) (hr.mono (by decide)) gd (by rfl) T.m_l_is_line T.F_l_is_line.kp T.B_l_is_line pass0 (da_cons (de_var 2) da_nil)))) (dss_one (ds_ret (de_tup (da_cons de_str (da_cons (de_var 1) da_nil))))) dss_nil))) (dss_one (ds_ret de_non))))) ma_l_fault
theorem ok_l_fault_of_all (T : Tx K w mg) (hs : ∃ o, base.get? sysModules = some o) : FnG P w K mg base CX0 4 T.a_l_fault_of_all T.d_l_fault_of_all ["many", "value"] (spD K (Jr P w K) 2 F_l_fault_of_all) :=
  fn_ok T.F_l_fault_of_all sc_l_fault_of_all hs (t := rd_l_fault_of_all) (fun cdv A outer s H E hg hr gd => (dss_cons (ds_if (dw_or (dt_not (dt_tr rfl (de_isi (Ts := "tuple") rfl (by rfl) T.b_isinstance (by rfl) T.b_tuple (by decide +kernel) (.inr (.inr (.inr (.inl rfl)))) (de_var 1)))) (dw_or1 (dt_cmp (o_ne rfl gd) (de_callB (c_len rfl) (by rfl) T.b_len (by decide +kernel) (da_cons (de_var 1) da_nil)) (de_var 0) (nomark _)))).pt (dss_one (ds_ret de_str)) dss_nil) (dss_cons (ds_for gd PassesOwn.never (di_enum rfl (by rfl) T.b_enumerate (de_var 1)) (dg_tup gd rfl (dgs_cons (dg_name (i := 2) gd rfl (.inl rfl)) (dgs_cons (dg_name (i := 3) gd rfl (.inl rfl)) dgs_nil))) (dss_one (ds_if (dt_cmp (o_isnot) (de_call rfl (ok_l_fault T hs) (hr.mono (by decide)) gd (by rfl) T.m_l_fault T.F_l_faultP.kp T.B_l_fault pass0 (da_cons (de_var 3) da_nil)) de_non (nomark _)) (dss_one (ds_ret (de_tup (da_cons de_str (da_cons (de_var 2) (da_cons (de_call rfl (ok_l_fault T hs) (hr.mono (by decide)) gd (by rfl) T.m_l_fault T.F_l_faultP.kp T.B_l_fault pass0 (da_cons (de_var 3) da_nil)) da_nil)))))) dss_nil))) (dss_one (ds_ret de_non))))) ma_l_fault_of_all
theorem ok_l_is_told (T : Tx K w mg) (hs : ∃ o, base.get? sysModules = some o) : FnG P w K mg base CX0 7 T.a_l_is_told T.d_l_is_told ["standing", "one", "every", "is_named"] (spD K (Jr P w K) 4 F_l_is_told) :=
  fn_ok T.F_l_is_told sc_l_is_told hs (t := rd_l_is_told) (fun cdv A outer s H E hg hr gd => (dss_cons (ds_par (i := 4) (j := 5) gd rfl rfl (by decide) rfl rfl (de_callB (c_repr rfl gd) (by rfl) T.b_repr (by decide +kernel) (da_cons (de_fz gd (de_lst (da_cons (de_var 0) (da_cons (de_var 1) (da_cons (de_var 2) da_nil))))) da_nil)) (de_fz gd (de_lst (da_cons (de_call rfl (ok_l_fault T hs) (hr.mono (by decide)) gd (by rfl) T.m_l_fault T.F_l_faultP.kp T.B_l_fault pass0 (da_cons (de_var 1) da_nil)) (da_cons (de_call rfl (ok_l_fault_of_all T hs) (hr.mono (by decide)) gd (by rfl) T.m_l_fault_of_all T.F_l_fault_of_all.kp T.B_l_fault_of_all pass0 (da_cons (de_callB (c_len rfl) (by rfl) T.b_len (by decide +kernel) (da_cons (de_ix (i_at rfl) (de_var 0) de_int (fun _ _ => rfl)) da_nil)) (da_cons (de_var 2) da_nil))) da_nil)))) rfl) (dss_cons (ds_set (i := 6) gd rfl (.inl rfl) (de_fz gd (de_lst (da_cons (de_call rfl (ok_program_error T hs) (hr.mono (by decide)) gd (by rfl) T.m_program_error T.F_program_error.kp T.B_program_error pass0 (da_cons (de_var 1) da_nil)) (da_cons (de_call rfl (ok_programs_error T hs) (hr.mono (by decide)) gd (by rfl) T.m_programs_error T.F_programs_error.kp T.B_programs_error pass0 (da_cons (de_var 0) (da_cons (de_var 2) da_nil))) da_nil))))) (dss_cons (ds_if (dt_tr rfl (de_var 3)) (dss_one (ds_set (i := 6) gd rfl (.inl rfl) (de_fz gd (de_lst (da_cons (de_callK rfl (ok_program_error T hs) (hr.mono (by decide)) gd (by rfl) T.m_program_error T.F_program_error.kp T.P_program_error_0 pass0 (dk_cons (de_var 1) dk_nil)) (da_cons (de_callK rfl (ok_programs_error T hs) (hr.mono (by decide)) gd (by rfl) T.m_programs_error T.F_programs_error.kp T.P_programs_error_1_0 pass0 (dk_cons (de_var 2) (dk_cons (de_var 0) dk_nil))) da_nil)))))) dss_nil) (dss_cons (ds_if (dw_or (dt_cmp (o_ne rfl gd) (de_callB (c_repr rfl gd) (by rfl) T.b_repr (by decide +kernel) (da_cons (de_var 6) da_nil)) (de_callB (c_repr rfl gd) (by rfl) T.b_repr (by decide +kernel) (da_cons (de_var 5) da_nil)) (nomark _)) (dw_or1 (dt_cmp (o_ne rfl gd) (de_callB (c_repr rfl gd) (by rfl) T.b_repr (by decide +kernel) (da_cons (de_fz gd (de_lst (da_cons (de_call rfl (ok_program_error T hs) (hr.mono (by decide)) gd (by rfl) T.m_program_error T.F_program_error.kp T.B_program_error pass0 (da_cons (de_var 1) da_nil)) (da_cons (de_call rfl (ok_programs_error T hs) (hr.mono (by decide)) gd (by rfl) T.m_programs_error T.F_programs_error.kp T.B_programs_error pass0 (da_cons (de_var 0) (da_cons (de_var 2) da_nil))) da_nil)))) da_nil)) (de_callB (c_repr rfl gd) (by rfl) T.b_repr (by decide +kernel) (da_cons (de_var 5) da_nil)) (nomark _)))).pt (dss_one (ds_ret de_bl)) dss_nil) (dss_one (ds_ret (de_cmp (o_eq rfl gd) (de_callB (c_repr rfl gd) (by rfl) T.b_repr (by decide +kernel) (da_cons (de_fz gd (de_lst (da_cons (de_var 0) (da_cons (de_var 1) (da_cons (de_var 2) da_nil))))) da_nil)) (de_var 4) (nomark _))))))))) ma_l_is_told
theorem ok_l_line (T : Tx K w mg) (hs : ∃ o, base.get? sysModules = some o) : FnG P w K mg base CX0 3 T.a_l_line T.d_l_line ["deck"] (spD K (Jr P w K) 1 F_l_line) :=
  fn_ok T.F_l_line sc_l_line hs (t := rd_l_line) (fun cdv A outer s H E hg hr gd => (dss_cons (ds_set (i := 1) gd rfl (.inl rfl) (de_call rfl (ok_l_pick T hs) (hr.mono (by decide)) gd (by rfl) T.m_l_pick T.F_l_pick.kp T.B_l_pick pass0 (da_cons (de_var 0) (da_cons (de_fz gd (de_lst (da_cons de_str (da_cons de_str (da_cons de_str (da_cons de_str (da_cons de_str (da_cons de_str da_nil)))))))) da_nil)))) (dss_cons (ds_setLc (i := 2) (own := [("most", 3)]) gd rfl rfl (sw_true rfl rfl rfl (by decide +kernel)) (di_seq rfl (de_call rfl (ok_l_bounds T hs) (hr.mono (by decide)) gd (by rfl) T.m_l_bounds T.F_l_bounds.kp T.B_l_bounds pass0 (da_cons (de_var 1) da_nil))) (blkOk_by (N := nm_l_line) (sc := defScope st_l_line) (by decide +kernel)) (fun _ _ _ _ _ => (pg_name (i := 3) (by exact gd.nd) (by rfl) (by exact (.inl rfl)))) (gown_name (by decide)) (fun _ _ _ _ _ gd => dts_nil) (fun _ _ _ _ _ gd => (de_call rfl (ok_l_draw T hs) (hr.mono (by decide)) gd (by rfl) T.m_l_draw T.F_l_draw.kp T.B_l_draw pass0 (da_cons (de_var 0) (da_cons (de_fz gd (de_op (o_add rfl) (de_var 3) de_int)) da_nil))))) (dss_cons (ds_if (dw_and (dt_cmp (o_eq rfl gd) (de_var 1) de_str (nomark _)) (dw_and1 (dt_cmp (o_eq rfl gd) (de_call rfl (ok_l_draw T hs) (hr.mono (by decide)) gd (by rfl) T.m_l_draw T.F_l_draw.kp T.B_l_draw pass0 (da_cons (de_var 0) (da_cons de_int da_nil))) de_int (nomark _)))).pt (dss_one (ds_putAt (pv 2) de_int de_non)) dss_nil) (dss_one (ds_ret (de_fz gd (de_op (o_add rfl) (de_tup (da_cons (de_var 1) da_nil)) (de_callT1 (c_tuple rfl) (by rfl) T.b_tuple (by decide +kernel) (pv 2)))))))))) ma_l_line
theorem ok_l_program (T : Tx K w mg) (hs : ∃ o, base.get? sysModules = some o) : FnG P w K mg base CX0 4 T.a_l_program T.d_l_program ["deck"] (spD K (Jr P w K) 1 F_l_program) :=
  fn_ok T.F_l_program sc_l_program hs (t := rd_l_program) (fun cdv A outer s H E hg hr gd => (dss_one (ds_ret (de_callT (c_tuple rfl) (by rfl) T.b_tuple (by decide +kernel) (da_cons (de_fz gd (de_lc (own := [("turn", 1)]) gd (di_rng (by rfl) T.b_range (de_call rfl (ok_l_draw T hs) (hr.mono (by decide)) gd (by rfl) T.m_l_draw T.F_l_draw.kp T.B_l_draw pass0 (da_cons (de_var 0) (da_cons de_int da_nil)))) (blkOk_by (N := nm_l_program) (sc := defScope st_l_program) (by decide +kernel)) (fun _ _ _ _ _ => (pg_name (i := 1) (by exact gd.nd) (by rfl) (by exact (.inl rfl)))) (gown_name (by decide)) (fun _ _ _ _ _ gd => dts_nil) (fun _ _ _ _ _ gd => (de_call rfl (ok_l_line T hs) (hr.mono (by decide)) gd (by rfl) T.m_l_line T.F_l_line.kp T.B_l_line pass0 (da_cons (de_var 0) da_nil))))) da_nil))))) ma_l_program
theorem ok_law (T : Tx K w mg) (hs : ∃ o, base.get? sysModules = some o) : FnG P w K mg base CX0 8 T.a_law T.d_law ["script"] (spD K (Jr P w K) 1 F_law) :=
  fn_ok T.F_law sc_law hs (t := rd_law) (fun cdv A outer s H E hg hr gd => (dss_cons (ds_set (i := 1) gd rfl (.inr rfl) (de_call rfl (ok_l_deck T hs) (hr.mono (by decide)) gd (by rfl) T.m_l_deck T.F_l_deck.kp T.B_l_deck pass0 (da_cons (de_var 0) da_nil))) (dss_cons (ds_for gd PassesOwn.never (di_rng (by rfl) T.b_range de_int) (dg_name (i := 2) gd rfl (.inl rfl)) (dss_cons (ds_set (i := 3) gd rfl (.inl rfl) (de_fz gd (de_op (o_add rfl) de_int (de_call rfl (ok_l_draw T hs) (hr.mono (by decide)) gd (by rfl) T.m_l_draw T.F_l_draw.kp T.B_l_draw pass0 (da_cons (de_var 1) (da_cons de_int da_nil)))))) (dss_cons (ds_set (i := 4) gd rfl (.inl rfl) (de_call rfl (ok_l_begin T hs) (hr.mono (by decide)) gd (by rfl) T.m_l_begin T.F_l_begin.kp T.B_l_begin pass0 (da_cons (de_var 1) (da_cons (de_call rfl (ok_l_draw T hs) (hr.mono (by decide)) gd (by rfl) T.m_l_draw T.F_l_draw.kp T.B_l_draw pass0 (da_cons (de_var 1) (da_cons de_int da_nil))) (da_cons (de_var 3) (da_cons de_int da_nil)))))) (dss_cons (ds_set (i := 5) gd rfl (.inl rfl) (de_callT (c_tuple rfl) (by rfl) T.b_tuple (by decide +kernel) (da_cons (de_fz gd (de_lc (own := [("hand", 12)]) gd (di_rng (by rfl) T.b_range (de_var 3)) (blkOk_by (N := nm_law) (sc := defScope st_law) (by decide +kernel)) (fun _ _ _ _ _ => (pg_name (i := 12) (by exact gd.nd) (by rfl) (by exact (.inl rfl)))) (gown_name (by decide)) (fun _ _ _ _ _ gd => dts_nil) (fun _ _ _ _ _ gd => (de_call rfl (ok_l_program T hs) (hr.mono (by decide)) gd (by rfl) T.m_l_program T.F_l_program.kp T.B_l_program pass0 (da_cons (de_var 1) da_nil))))) da_nil))) (dss_cons (ds_if (dt_not (dt_tr rfl (de_call rfl (ok_l_is_told T hs) (hr.mono (by decide)) gd (by rfl) T.m_l_is_told T.F_l_is_told.kp T.B_l_is_told pass0 (da_cons (de_var 4) (da_cons (de_ix (i_at rfl) (de_var 5) de_int (fun _ _ => rfl)) (da_cons (de_var 5) (da_cons (de_cmp (o_eq rfl gd) (de_var 2) de_int (nomark _)) da_nil))))))) (dss_one (ds_ret de_bl)) dss_nil) (dss_cons (ds_set (i := 6) gd rfl (.inl rfl) (de_call rfl (ok_l_bent T hs) (hr.mono (by decide)) gd (by rfl) T.m_l_bent T.F_l_bent.kp T.B_l_bent pass0 (da_cons (de_var 1) (da_cons (de_ix (i_at rfl) (de_var 5) de_int (fun _ _ => rfl)) da_nil)))) (dss_cons (ds_set (i := 7) gd rfl (.inl rfl) (de_if (dt_tr rfl (de_isi (Ts := "tuple") rfl (by rfl) T.b_isinstance (by rfl) T.b_tuple (by decide +kernel) (.inr (.inr (.inr (.inl rfl)))) (de_var 6))) (de_call rfl (ok_l_bent T hs) (hr.mono (by decide)) gd (by rfl) T.m_l_bent T.F_l_bent.kp T.B_l_bent pass0 (da_cons (de_var 1) (da_cons (de_var 6) da_nil))) (de_var 6))) (dss_cons (ds_set (i := 8) gd rfl (.inl rfl) (de_call rfl (ok_l_draw T hs) (hr.mono (by decide)) gd (by rfl) T.m_l_draw T.F_l_draw.kp T.B_l_draw pass0 (da_cons (de_var 1) (da_cons (de_var 3) da_nil)))) (dss_cons (ds_set (i := 9) gd rfl (.inl rfl) (de_fz gd (de_lst (da_cons (de_fz gd (de_op (o_add rfl) (de_fz gd (de_op (o_add rfl) (de_fz gd (de_cut rfl (de_var 5) do_none (do_some (de_var 8)))) (de_tup (da_cons (de_var 6) da_nil)))) (de_fz gd (de_cut rfl (de_var 5) (do_some (de_op (o_add rfl) (de_var 8) de_int)) do_none)))) (da_cons (de_fz gd (de_op (o_add rfl) (de_fz gd (de_op (o_add rfl) (de_fz gd (de_cut rfl (de_var 5) do_none (do_some (de_var 8)))) (de_tup (da_cons (de_var 7) da_nil)))) (de_fz gd (de_cut rfl (de_var 5) (do_some (de_op (o_add rfl) (de_var 8) de_int)) do_none)))) (da_cons (de_fz gd (de_cut rfl (de_var 5) (do_some de_int) do_none)) da_nil)))))) (dss_cons (ds_set (i := 9) gd rfl (.inl rfl) (de_fz gd (de_op (o_add rfl) (de_var 9) (de_fz gd (de_lst (da_cons (de_fz gd (de_op (o_add rfl) (de_var 5) (de_tup (da_cons (de_tup da_nil) da_nil)))) (da_cons (de_fz gd (de_callT (c_list rfl) (by rfl) T.b_list (by decide +kernel) (da_cons (de_var 5) da_nil))) (da_cons (de_ix (i_at rfl) (de_var 5) de_int (fun _ _ => rfl)) (da_cons (de_call rfl (ok_l_odd T hs) (hr.mono (by decide)) gd (by rfl) T.m_l_odd T.F_l_odd.kp T.B_l_odd pass0 (da_cons (de_var 1) da_nil)) (da_cons (de_fz gd (de_op (o_mul rfl) (de_tup (da_cons (de_var 6) da_nil)) (de_var 3))) (da_cons (de_fz gd (de_op (o_mul rfl) (de_tup (da_cons (de_tup da_nil) da_nil)) (de_var 3))) da_nil))))))))))) (dss_one (ds_for gd PassesOwn.never (di_enum rfl (by rfl) T.b_enumerate (de_var 9)) (dg_tup gd rfl (dgs_cons (dg_name (i := 10) gd rfl (.inl rfl)) (dgs_cons (dg_name (i := 11) gd rfl (.inl rfl)) dgs_nil))) (dss_one (ds_if (dt_not (dt_tr rfl (de_call rfl (ok_l_is_told T hs) (hr.mono (by decide)) gd (by rfl) T.m_l_is_told T.F_l_is_told.kp T.B_l_is_told pass0 (da_cons (de_var 4) (da_cons (de_ix (i_at rfl) (de_fz gd (de_lst (da_cons (de_var 6) (da_cons (de_var 7) (da_cons (de_call rfl (ok_l_odd T hs) (hr.mono (by decide)) gd (by rfl) T.m_l_odd T.F_l_odd.kp T.B_l_odd pass0 (da_cons (de_var 1) da_nil)) da_nil))))) (de_op (o_mod) (de_var 10) de_int) (fun _ _ => rfl)) (da_cons (de_var 11) (da_cons (de_cmp (o_eq rfl gd) (de_var 10) (de_var 2) (nomark _)) da_nil))))))) (dss_one (ds_ret de_bl)) dss_nil)))))))))))))) (dss_one (ds_ret de_bl))))) ma_law
end
set_option maxHeartbeats 0 in
theorem all_mk {P : Program} {w : World} {K : PySem.W.Frag} {h : Heap} {mg : Str → Option Value} {fa : Addr} (X : K.In h) (G : h.Ns mainGlobals mg) (hfa : mg "law" = some (.ref fa))
    {f_l_deck : Addr} {od_l_deck an_l_deck : Option Addr} {sl_l_deck : Array (Option Value)} {oc_l_deck kV_l_deck dc_l_deck pm_l_deck cd_l_deck ct_l_deck : Value}
    (a_l_deck : PySem.W.nsIn K mainGlobals "_law_deck" = some (some (.ref f_l_deck))) (l_l_deck : K.lookup f_l_deck = some ⟨oc_l_deck, od_l_deck, .func (PySem.W.fnOf "_law_deck" "_law_deck" (defArgs st_l_deck) (defBody st_l_deck) (defScope st_l_deck) .none kV_l_deck dc_l_deck pm_l_deck an_l_deck cd_l_deck ct_l_deck), sl_l_deck⟩) (c_l_deck : PySem.W.codeIn K cd_l_deck "_law_deck" = true) (k_l_deck : PySem.W.keepIn K (.ref f_l_deck) = true)
    {f_l_draw : Addr} {od_l_draw an_l_draw : Option Addr} {sl_l_draw : Array (Option Value)} {oc_l_draw kV_l_draw dc_l_draw pm_l_draw cd_l_draw ct_l_draw : Value}
    (a_l_draw : PySem.W.nsIn K mainGlobals "_law_draw" = some (some (.ref f_l_draw))) (l_l_draw : K.lookup f_l_draw = some ⟨oc_l_draw, od_l_draw, .func (PySem.W.fnOf "_law_draw" "_law_draw" (defArgs st_l_draw) (defBody st_l_draw) (defScope st_l_draw) .none kV_l_draw dc_l_draw pm_l_draw an_l_draw cd_l_draw ct_l_draw), sl_l_draw⟩) (c_l_draw : PySem.W.codeIn K cd_l_draw "_law_draw" = true) (k_l_draw : PySem.W.keepIn K (.ref f_l_draw) = true)
    {f_l_pick : Addr} {od_l_pick an_l_pick : Option Addr} {sl_l_pick : Array (Option Value)} {oc_l_pick kV_l_pick dc_l_pick pm_l_pick cd_l_pick ct_l_pick : Value}
    (a_l_pick : PySem.W.nsIn K mainGlobals "_law_pick" = some (some (.ref f_l_pick))) (l_l_pick : K.lookup f_l_pick = some ⟨oc_l_pick, od_l_pick, .func (PySem.W.fnOf "_law_pick" "_law_pick" (defArgs st_l_pick) (defBody st_l_pick) (defScope st_l_pick) .none kV_l_pick dc_l_pick pm_l_pick an_l_pick cd_l_pick ct_l_pick), sl_l_pick⟩) (c_l_pick : PySem.W.codeIn K cd_l_pick "_law_pick" = true) (k_l_pick : PySem.W.keepIn K (.ref f_l_pick) = true)
    {f_l_heap : Addr} {od_l_heap an_l_heap : Option Addr} {sl_l_heap : Array (Option Value)} {oc_l_heap kV_l_heap dc_l_heap pm_l_heap cd_l_heap ct_l_heap : Value}
    (a_l_heap : PySem.W.nsIn K mainGlobals "_law_heap" = some (some (.ref f_l_heap))) (l_l_heap : K.lookup f_l_heap = some ⟨oc_l_heap, od_l_heap, .func (PySem.W.fnOf "_law_heap" "_law_heap" (defArgs st_l_heap) (defBody st_l_heap) (defScope st_l_heap) .none kV_l_heap dc_l_heap pm_l_heap an_l_heap cd_l_heap ct_l_heap), sl_l_heap⟩) (c_l_heap : PySem.W.codeIn K cd_l_heap "_law_heap" = true) (k_l_heap : PySem.W.keepIn K (.ref f_l_heap) = true)
    {f_l_rooms : Addr} {od_l_rooms an_l_rooms : Option Addr} {sl_l_rooms : Array (Option Value)} {oc_l_rooms kV_l_rooms dc_l_rooms pm_l_rooms cd_l_rooms ct_l_rooms : Value}
    (a_l_rooms : PySem.W.nsIn K mainGlobals "_law_rooms" = some (some (.ref f_l_rooms))) (l_l_rooms : K.lookup f_l_rooms = some ⟨oc_l_rooms, od_l_rooms, .func (PySem.W.fnOf "_law_rooms" "_law_rooms" (defArgs st_l_rooms) (defBody st_l_rooms) (defScope st_l_rooms) .none kV_l_rooms dc_l_rooms pm_l_rooms an_l_rooms cd_l_rooms ct_l_rooms), sl_l_rooms⟩) (c_l_rooms : PySem.W.codeIn K cd_l_rooms "_law_rooms" = true) (k_l_rooms : PySem.W.keepIn K (.ref f_l_rooms) = true)
    {f_l_begin : Addr} {od_l_begin an_l_begin : Option Addr} {sl_l_begin : Array (Option Value)} {oc_l_begin kV_l_begin dc_l_begin pm_l_begin cd_l_begin ct_l_begin : Value}
    (a_l_begin : PySem.W.nsIn K mainGlobals "_law_begin" = some (some (.ref f_l_begin))) (l_l_begin : K.lookup f_l_begin = some ⟨oc_l_begin, od_l_begin, .func (PySem.W.fnOf "_law_begin" "_law_begin" (defArgs st_l_begin) (defBody st_l_begin) (defScope st_l_begin) .none kV_l_begin dc_l_begin pm_l_begin an_l_begin cd_l_begin ct_l_begin), sl_l_begin⟩) (c_l_begin : PySem.W.codeIn K cd_l_begin "_law_begin" = true) (k_l_begin : PySem.W.keepIn K (.ref f_l_begin) = true)
    {f_l_odd : Addr} {od_l_odd an_l_odd : Option Addr} {sl_l_odd : Array (Option Value)} {oc_l_odd kV_l_odd dc_l_odd pm_l_odd cd_l_odd ct_l_odd : Value}
    (a_l_odd : PySem.W.nsIn K mainGlobals "_law_odd" = some (some (.ref f_l_odd))) (l_l_odd : K.lookup f_l_odd = some ⟨oc_l_odd, od_l_odd, .func (PySem.W.fnOf "_law_odd" "_law_odd" (defArgs st_l_odd) (defBody st_l_odd) (defScope st_l_odd) .none kV_l_odd dc_l_odd pm_l_odd an_l_odd cd_l_odd ct_l_odd), sl_l_odd⟩) (c_l_odd : PySem.W.codeIn K cd_l_odd "_law_odd" = true) (k_l_odd : PySem.W.keepIn K (.ref f_l_odd) = true)
    {f_l_bent_line : Addr} {od_l_bent_line an_l_bent_line : Option Addr} {sl_l_bent_line : Array (Option Value)} {oc_l_bent_line kV_l_bent_line dc_l_bent_line pm_l_bent_line cd_l_bent_line ct_l_bent_line : Value}
    (a_l_bent_line : PySem.W.nsIn K mainGlobals "_law_bent_line" = some (some (.ref f_l_bent_line))) (l_l_bent_line : K.lookup f_l_bent_line = some ⟨oc_l_bent_line, od_l_bent_line, .func (PySem.W.fnOf "_law_bent_line" "_law_bent_line" (defArgs st_l_bent_line) (defBody st_l_bent_line) (defScope st_l_bent_line) .none kV_l_bent_line dc_l_bent_line pm_l_bent_line an_l_bent_line cd_l_bent_line ct_l_bent_line), sl_l_bent_line⟩) (c_l_bent_line : PySem.W.codeIn K cd_l_bent_line "_law_bent_line" = true) (k_l_bent_line : PySem.W.keepIn K (.ref f_l_bent_line) = true)
    {f_l_bent : Addr} {od_l_bent an_l_bent : Option Addr} {sl_l_bent : Array (Option Value)} {oc_l_bent kV_l_bent dc_l_bent pm_l_bent cd_l_bent ct_l_bent : Value}
    (a_l_bent : PySem.W.nsIn K mainGlobals "_law_bent" = some (some (.ref f_l_bent))) (l_l_bent : K.lookup f_l_bent = some ⟨oc_l_bent, od_l_bent, .func (PySem.W.fnOf "_law_bent" "_law_bent" (defArgs st_l_bent) (defBody st_l_bent) (defScope st_l_bent) .none kV_l_bent dc_l_bent pm_l_bent an_l_bent cd_l_bent ct_l_bent), sl_l_bent⟩) (c_l_bent : PySem.W.codeIn K cd_l_bent "_law_bent" = true) (k_l_bent : PySem.W.keepIn K (.ref f_l_bent) = true)
    {f_is_tuple_of : Addr} {od_is_tuple_of an_is_tuple_of : Option Addr} {sl_is_tuple_of : Array (Option Value)} {oc_is_tuple_of kV_is_tuple_of dc_is_tuple_of pm_is_tuple_of cd_is_tuple_of ct_is_tuple_of : Value}
    (a_is_tuple_of : PySem.W.nsIn K mainGlobals "is_tuple_of" = some (some (.ref f_is_tuple_of))) (l_is_tuple_of : K.lookup f_is_tuple_of = some ⟨oc_is_tuple_of, od_is_tuple_of, .func (PySem.W.fnOf "is_tuple_of" "is_tuple_of" (defArgs st_is_tuple_of) (defBody st_is_tuple_of) (defScope st_is_tuple_of) .none kV_is_tuple_of dc_is_tuple_of pm_is_tuple_of an_is_tuple_of cd_is_tuple_of ct_is_tuple_of), sl_is_tuple_of⟩) (c_is_tuple_of : PySem.W.codeIn K cd_is_tuple_of "is_tuple_of" = true) (k_is_tuple_of : PySem.W.keepIn K (.ref f_is_tuple_of) = true)
    {f_is_integer : Addr} {od_is_integer an_is_integer : Option Addr} {sl_is_integer : Array (Option Value)} {oc_is_integer kV_is_integer dc_is_integer pm_is_integer cd_is_integer ct_is_integer : Value}
    (a_is_integer : PySem.W.nsIn K mainGlobals "is_integer" = some (some (.ref f_is_integer))) (l_is_integer : K.lookup f_is_integer = some ⟨oc_is_integer, od_is_integer, .func (PySem.W.fnOf "is_integer" "is_integer" (defArgs st_is_integer) (defBody st_is_integer) (defScope st_is_integer) .none kV_is_integer dc_is_integer pm_is_integer an_is_integer cd_is_integer ct_is_integer), sl_is_integer⟩) (c_is_integer : PySem.W.codeIn K cd_is_integer "is_integer" = true) (k_is_integer : PySem.W.keepIn K (.ref f_is_integer) = true)
    {f_is_number_below : Addr} {od_is_number_below an_is_number_below : Option Addr} {sl_is_number_below : Array (Option Value)} {oc_is_number_below kV_is_number_below dc_is_number_below pm_is_number_below cd_is_number_below ct_is_number_below : Value}
    (a_is_number_below : PySem.W.nsIn K mainGlobals "is_number_below" = some (some (.ref f_is_number_below))) (l_is_number_below : K.lookup f_is_number_below = some ⟨oc_is_number_below, od_is_number_below, .func (PySem.W.fnOf "is_number_below" "is_number_below" (defArgs st_is_number_below) (defBody st_is_number_below) (defScope st_is_number_below) .none kV_is_number_below dc_is_number_below pm_is_number_below an_is_number_below cd_is_number_below ct_is_number_below), sl_is_number_below⟩) (c_is_number_below : PySem.W.codeIn K cd_is_number_below "is_number_below" = true) (k_is_number_below : PySem.W.keepIn K (.ref f_is_number_below) = true)
    {f_p_is_of_kind : Addr} {od_p_is_of_kind an_p_is_of_kind : Option Addr} {sl_p_is_of_kind : Array (Option Value)} {oc_p_is_of_kind kV_p_is_of_kind dc_p_is_of_kind pm_p_is_of_kind cd_p_is_of_kind ct_p_is_of_kind : Value}
    (a_p_is_of_kind : PySem.W.nsIn K mainGlobals "_is_of_kind" = some (some (.ref f_p_is_of_kind))) (l_p_is_of_kind : K.lookup f_p_is_of_kind = some ⟨oc_p_is_of_kind, od_p_is_of_kind, .func (PySem.W.fnOf "_is_of_kind" "_is_of_kind" (defArgs st_p_is_of_kind) (defBody st_p_is_of_kind) (defScope st_p_is_of_kind) .none kV_p_is_of_kind dc_p_is_of_kind pm_p_is_of_kind an_p_is_of_kind cd_p_is_of_kind ct_p_is_of_kind), sl_p_is_of_kind⟩) (c_p_is_of_kind : PySem.W.codeIn K cd_p_is_of_kind "_is_of_kind" = true) (k_p_is_of_kind : PySem.W.keepIn K (.ref f_p_is_of_kind) = true)
    {f_p_is_line : Addr} {od_p_is_line an_p_is_line : Option Addr} {sl_p_is_line : Array (Option Value)} {oc_p_is_line kV_p_is_line dc_p_is_line pm_p_is_line cd_p_is_line ct_p_is_line : Value}
    (a_p_is_line : PySem.W.nsIn K mainGlobals "_is_line" = some (some (.ref f_p_is_line))) (l_p_is_line : K.lookup f_p_is_line = some ⟨oc_p_is_line, od_p_is_line, .func (PySem.W.fnOf "_is_line" "_is_line" (defArgs st_p_is_line) (defBody st_p_is_line) (defScope st_p_is_line) .none kV_p_is_line dc_p_is_line pm_p_is_line an_p_is_line cd_p_is_line ct_p_is_line), sl_p_is_line⟩) (c_p_is_line : PySem.W.codeIn K cd_p_is_line "_is_line" = true) (k_p_is_line : PySem.W.keepIn K (.ref f_p_is_line) = true)
    {f_program_error : Addr} {od_program_error an_program_error : Option Addr} {sl_program_error : Array (Option Value)} {oc_program_error kV_program_error dc_program_error pm_program_error cd_program_error ct_program_error : Value}
    (a_program_error : PySem.W.nsIn K mainGlobals "program_error" = some (some (.ref f_program_error))) (l_program_error : K.lookup f_program_error = some ⟨oc_program_error, od_program_error, .func (PySem.W.fnOf "program_error" "program_error" (defArgs st_program_error) (defBody st_program_error) (defScope st_program_error) .none kV_program_error dc_program_error pm_program_error an_program_error cd_program_error ct_program_error), sl_program_error⟩) (c_program_error : PySem.W.codeIn K cd_program_error "program_error" = true) (k_program_error : PySem.W.keepIn K (.ref f_program_error) = true)
    {f_programs_error : Addr} {od_programs_error an_programs_error : Option Addr} {sl_programs_error : Array (Option Value)} {oc_programs_error kV_programs_error dc_programs_error pm_programs_error cd_programs_error ct_programs_error : Value}
    (a_programs_error : PySem.W.nsIn K mainGlobals "programs_error" = some (some (.ref f_programs_error))) (l_programs_error : K.lookup f_programs_error = some ⟨oc_programs_error, od_programs_error, .func (PySem.W.fnOf "programs_error" "programs_error" (defArgs st_programs_error) (defBody st_programs_error) (defScope st_programs_error) .none kV_programs_error dc_programs_error pm_programs_error an_programs_error cd_programs_error ct_programs_error), sl_programs_error⟩) (c_programs_error : PySem.W.codeIn K cd_programs_error "programs_error" = true) (k_programs_error : PySem.W.keepIn K (.ref f_programs_error) = true)
    {f_l_bounds : Addr} {od_l_bounds an_l_bounds : Option Addr} {sl_l_bounds : Array (Option Value)} {oc_l_bounds kV_l_bounds dc_l_bounds pm_l_bounds cd_l_bounds ct_l_bounds : Value}
    (a_l_bounds : PySem.W.nsIn K mainGlobals "_law_bounds" = some (some (.ref f_l_bounds))) (l_l_bounds : K.lookup f_l_bounds = some ⟨oc_l_bounds, od_l_bounds, .func (PySem.W.fnOf "_law_bounds" "_law_bounds" (defArgs st_l_bounds) (defBody st_l_bounds) (defScope st_l_bounds) .none kV_l_bounds dc_l_bounds pm_l_bounds an_l_bounds cd_l_bounds ct_l_bounds), sl_l_bounds⟩) (c_l_bounds : PySem.W.codeIn K cd_l_bounds "_law_bounds" = true) (k_l_bounds : PySem.W.keepIn K (.ref f_l_bounds) = true)
    {f_l_is_line : Addr} {od_l_is_line an_l_is_line : Option Addr} {sl_l_is_line : Array (Option Value)} {oc_l_is_line kV_l_is_line dc_l_is_line pm_l_is_line cd_l_is_line ct_l_is_line : Value}
    (a_l_is_line : PySem.W.nsIn K mainGlobals "_law_is_line" = some (some (.ref f_l_is_line))) (l_l_is_line : K.lookup f_l_is_line = some ⟨oc_l_is_line, od_l_is_line, .func (PySem.W.fnOf "_law_is_line" "_law_is_line" (defArgs st_l_is_line) (defBody st_l_is_line) (defScope st_l_is_line) .none kV_l_is_line dc_l_is_line pm_l_is_line an_l_is_line cd_l_is_line ct_l_is_line), sl_l_is_line⟩) (c_l_is_line : PySem.W.codeIn K cd_l_is_line "_law_is_line" = true) (k_l_is_line : PySem.W.keepIn K (.ref f_l_is_line) = true)
    {f_l_fault : Addr} {od_l_fault an_l_fault : Option Addr} {sl_l_fault : Array (Option Value)} {oc_l_fault kV_l_fault dc_l_fault pm_l_fault cd_l_fault ct_l_fault : Value}
    (a_l_fault : PySem.W.nsIn K mainGlobals "_law_fault" = some (some (.ref f_l_fault))) (l_l_fault : K.lookup f_l_fault = some ⟨oc_l_fault, od_l_fault, .func (PySem.W.fnOf "_law_fault" "_law_fault" (defArgs st_l_fault) (defBody st_l_fault) (defScope st_l_fault) .none kV_l_fault dc_l_fault pm_l_fault an_l_fault cd_l_fault ct_l_fault), sl_l_fault⟩) (c_l_fault : PySem.W.codeIn K cd_l_fault "_law_fault" = true) (k_l_fault : PySem.W.keepIn K (.ref f_l_fault) = true)
    {f_l_fault_of_all : Addr} {od_l_fault_of_all an_l_fault_of_all : Option Addr} {sl_l_fault_of_all : Array (Option Value)} {oc_l_fault_of_all kV_l_fault_of_all dc_l_fault_of_all pm_l_fault_of_all cd_l_fault_of_all ct_l_fault_of_all : Value}
    (a_l_fault_of_all : PySem.W.nsIn K mainGlobals "_law_fault_of_all" = some (some (.ref f_l_fault_of_all))) (l_l_fault_of_all : K.lookup f_l_fault_of_all = some ⟨oc_l_fault_of_all, od_l_fault_of_all, .func (PySem.W.fnOf "_law_fault_of_all" "_law_fault_of_all" (defArgs st_l_fault_of_all) (defBody st_l_fault_of_all) (defScope st_l_fault_of_all) .none kV_l_fault_of_all dc_l_fault_of_all pm_l_fault_of_all an_l_fault_of_all cd_l_fault_of_all ct_l_fault_of_all), sl_l_fault_of_all⟩) (c_l_fault_of_all : PySem.W.codeIn K cd_l_fault_of_all "_law_fault_of_all" = true) (k_l_fault_of_all : PySem.W.keepIn K (.ref f_l_fault_of_all) = true)
    {f_l_is_told : Addr} {od_l_is_told an_l_is_told : Option Addr} {sl_l_is_told : Array (Option Value)} {oc_l_is_told kV_l_is_told dc_l_is_told pm_l_is_told cd_l_is_told ct_l_is_told : Value}
    (a_l_is_told : PySem.W.nsIn K mainGlobals "_law_is_told" = some (some (.ref f_l_is_told))) (l_l_is_told : K.lookup f_l_is_told = some ⟨oc_l_is_told, od_l_is_told, .func (PySem.W.fnOf "_law_is_told" "_law_is_told" (defArgs st_l_is_told) (defBody st_l_is_told) (defScope st_l_is_told) .none kV_l_is_told dc_l_is_told pm_l_is_told an_l_is_told cd_l_is_told ct_l_is_told), sl_l_is_told⟩) (c_l_is_told : PySem.W.codeIn K cd_l_is_told "_law_is_told" = true) (k_l_is_told : PySem.W.keepIn K (.ref f_l_is_told) = true)
    {f_l_line : Addr} {od_l_line an_l_line : Option Addr} {sl_l_line : Array (Option Value)} {oc_l_line kV_l_line dc_l_line pm_l_line cd_l_line ct_l_line : Value}
    (a_l_line : PySem.W.nsIn K mainGlobals "_law_line" = some (some (.ref f_l_line))) (l_l_line : K.lookup f_l_line = some ⟨oc_l_line, od_l_line, .func (PySem.W.fnOf "_law_line" "_law_line" (defArgs st_l_line) (defBody st_l_line) (defScope st_l_line) .none kV_l_line dc_l_line pm_l_line an_l_line cd_l_line ct_l_line), sl_l_line⟩) (c_l_line : PySem.W.codeIn K cd_l_line "_law_line" = true) (k_l_line : PySem.W.keepIn K (.ref f_l_line) = true)
    {f_l_program : Addr} {od_l_program an_l_program : Option Addr} {sl_l_program : Array (Option Value)} {oc_l_program kV_l_program dc_l_program pm_l_program cd_l_program ct_l_program : Value}
    (a_l_program : PySem.W.nsIn K mainGlobals "_law_program" = some (some (.ref f_l_program))) (l_l_program : K.lookup f_l_program = some ⟨oc_l_program, od_l_program, .func (PySem.W.fnOf "_law_program" "_law_program" (defArgs st_l_program) (defBody st_l_program) (defScope st_l_program) .none kV_l_program dc_l_program pm_l_program an_l_program cd_l_program ct_l_program), sl_l_program⟩) (c_l_program : PySem.W.codeIn K cd_l_program "_law_program" = true) (k_l_program : PySem.W.keepIn K (.ref f_l_program) = true)
    {f_law : Addr} {od_law an_law : Option Addr} {sl_law : Array (Option Value)} {oc_law kV_law dc_law pm_law cd_law ct_law : Value}
    (a_law : PySem.W.nsIn K mainGlobals "law" = some (some (.ref f_law))) (l_law : K.lookup f_law = some ⟨oc_law, od_law, .func (PySem.W.fnOf "law" "law" (defArgs st_law) (defBody st_law) (defScope st_law) .none kV_law dc_law pm_law an_law cd_law ct_law), sl_law⟩) (c_law : PySem.W.codeIn K cd_law "law" = true) (k_law : PySem.W.keepIn K (.ref f_law) = true)
    {q_LINES n_LINES : Nat} {es_LINES : Array DictEntry}
    (e_LINES : PySem.W.nsIn K mainGlobals "LINES" = some (some (.ref q_LINES)))
    (d_LINES : K.lookup q_LINES = some ⟨.type "dict", none, .dict es_LINES n_LINES, #[]⟩)
    {q_LINES_e0_0 n_LINES_e0_0 : Nat} {od_LINES_e0_0 : Option Addr} {sl_LINES_e0_0 : Array (Option Value)}
    {t_LINES_e0_1 : Tok}
    (w_LINES_e0_0 : K.lookup q_LINES_e0_0 = some ⟨.type "tuple", od_LINES_e0_0, .seq #[.str "room" t_LINES_e0_1] n_LINES_e0_0, sl_LINES_e0_0⟩)
    (g_LINES_0 : PySem.W.nsIn K q_LINES "drop" = some (some (.ref q_LINES_e0_0)))
    {q_LINES_e1_0 n_LINES_e1_0 : Nat} {od_LINES_e1_0 : Option Addr} {sl_LINES_e1_0 : Array (Option Value)}
    {t_LINES_e1_1 : Tok}
    {t_LINES_e1_2 : Tok}
    (w_LINES_e1_0 : K.lookup q_LINES_e1_0 = some ⟨.type "tuple", od_LINES_e1_0, .seq #[.str "room" t_LINES_e1_1, .str "room" t_LINES_e1_2] n_LINES_e1_0, sl_LINES_e1_0⟩)
    (g_LINES_1 : PySem.W.nsIn K q_LINES "copy" = some (some (.ref q_LINES_e1_0)))
    {q_LINES_e2_0 n_LINES_e2_0 : Nat} {od_LINES_e2_0 : Option Addr} {sl_LINES_e2_0 : Array (Option Value)}
    {t_LINES_e2_1 : Tok}
    {t_LINES_e2_2 : Tok}
    (w_LINES_e2_0 : K.lookup q_LINES_e2_0 = some ⟨.type "tuple", od_LINES_e2_0, .seq #[.str "room" t_LINES_e2_1, .str "many" t_LINES_e2_2] n_LINES_e2_0, sl_LINES_e2_0⟩)
    (g_LINES_2 : PySem.W.nsIn K q_LINES "make" = some (some (.ref q_LINES_e2_0)))
    {q_LINES_e3_0 n_LINES_e3_0 : Nat} {od_LINES_e3_0 : Option Addr} {sl_LINES_e3_0 : Array (Option Value)}
    {t_LINES_e3_1 : Tok}
    {t_LINES_e3_2 : Tok}
    {t_LINES_e3_3 : Tok}
    (w_LINES_e3_0 : K.lookup q_LINES_e3_0 = some ⟨.type "tuple", od_LINES_e3_0, .seq #[.str "room" t_LINES_e3_1, .str "field" t_LINES_e3_2, .str "room" t_LINES_e3_3] n_LINES_e3_0, sl_LINES_e3_0⟩)
    (g_LINES_3 : PySem.W.nsIn K q_LINES "read" = some (some (.ref q_LINES_e3_0)))
    {q_LINES_e4_0 n_LINES_e4_0 : Nat} {od_LINES_e4_0 : Option Addr} {sl_LINES_e4_0 : Array (Option Value)}
    {t_LINES_e4_1 : Tok}
    {t_LINES_e4_2 : Tok}
    {t_LINES_e4_3 : Tok}
    (w_LINES_e4_0 : K.lookup q_LINES_e4_0 = some ⟨.type "tuple", od_LINES_e4_0, .seq #[.str "room" t_LINES_e4_1, .str "field" t_LINES_e4_2, .str "room or nothing" t_LINES_e4_3] n_LINES_e4_0, sl_LINES_e4_0⟩)
    (g_LINES_4 : PySem.W.nsIn K q_LINES "write" = some (some (.ref q_LINES_e4_0)))
    (l_LINES : PySem.W.KeysLit w.params es_LINES.toList)
    (j_LINES : GB.KeysAre es_LINES.toList ["drop", "copy", "make", "read", "write"] = true) (y_LINES : (q_LINES == sysModules) = false)
    {t_MAX_FIELDS : Tok} (e_MAX_FIELDS : PySem.W.nsIn K mainGlobals "MAX_FIELDS" = some (some (.int 3 t_MAX_FIELDS)))
    {t_MAX_PROGRAM : Tok} (e_MAX_PROGRAM : PySem.W.nsIn K mainGlobals "MAX_PROGRAM" = some (some (.int 6 t_MAX_PROGRAM)))
    {t_MAX_ROOMS : Tok} (e_MAX_ROOMS : PySem.W.nsIn K mainGlobals "MAX_ROOMS" = some (some (.int 4 t_MAX_ROOMS)))
    (z_abs : PySem.W.nsIn K mainGlobals "abs" = some none)
    (z_all : PySem.W.nsIn K mainGlobals "all" = some none)
    (z_bool : PySem.W.nsIn K mainGlobals "bool" = some none)
    (z_enumerate : PySem.W.nsIn K mainGlobals "enumerate" = some none)
    (z_int : PySem.W.nsIn K mainGlobals "int" = some none)
    (z_isinstance : PySem.W.nsIn K mainGlobals "isinstance" = some none)
    (z_len : PySem.W.nsIn K mainGlobals "len" = some none)
    (z_list : PySem.W.nsIn K mainGlobals "list" = some none)
    (z_range : PySem.W.nsIn K mainGlobals "range" = some none)
    (z_repr : PySem.W.nsIn K mainGlobals "repr" = some none)
    (z_str : PySem.W.nsIn K mainGlobals "str" = some none)
    (z_tuple : PySem.W.nsIn K mainGlobals "tuple" = some none)
    (z_zip : PySem.W.nsIn K mainGlobals "zip" = some none) :
    ∃ fd : FuncData, (∀ (s : Shared) (v : Value), BindsTo s fd ⟨[v], []⟩ [("script", v)]) ∧ ∀ base : Heap, K.In base → base.Ns mainGlobals mg → (∃ o, base.get? sysModules = some o) → FnG P w K mg base CX0 8 fa fd ["script"] (spD K (Jr P w K) 1 F_law) := by
  have e := hfa.symm.trans (PySem.W.mg_of X G a_law)
  cases e
  have F_l_deck := fun_mk (st := st_l_deck) l_l_deck c_l_deck k_l_deck
  have B_l_deck := F_l_deck.binds (ps := ["script"]) fun _ _ _ _ _ _ us hl => match us, hl with | [_], _ => rfl
  have F_l_draw := fun_mk (st := st_l_draw) l_l_draw c_l_draw k_l_draw
  have B_l_draw := F_l_draw.binds (ps := ["deck", "many"]) fun _ _ _ _ _ _ us hl => match us, hl with | [_, _], _ => rfl
  have F_l_pick := fun_mk (st := st_l_pick) l_l_pick c_l_pick k_l_pick
  have B_l_pick := F_l_pick.binds (ps := ["deck", "items"]) fun _ _ _ _ _ _ us hl => match us, hl with | [_, _], _ => rfl
  have F_l_heap := fun_mk (st := st_l_heap) l_l_heap c_l_heap k_l_heap
  have B_l_heap := F_l_heap.binds (ps := ["deck", "cells", "target"]) fun _ _ _ _ _ _ us hl => match us, hl with | [_, _, _], _ => rfl
  have F_l_rooms := fun_mk (st := st_l_rooms) l_l_rooms c_l_rooms k_l_rooms
  have B_l_rooms := F_l_rooms.binds (ps := ["deck", "many", "target"]) fun _ _ _ _ _ _ us hl => match us, hl with | [_, _, _], _ => rfl
  have F_l_begin := fun_mk (st := st_l_begin) l_l_begin c_l_begin k_l_begin
  have B_l_begin := F_l_begin.binds (ps := ["deck", "cells", "many", "more"]) fun _ _ _ _ _ _ us hl => match us, hl with | [_, _, _, _], _ => rfl
  have F_l_odd := fun_mk (st := st_l_odd) l_l_odd c_l_odd k_l_odd
  have B_l_odd := F_l_odd.binds (ps := ["deck"]) fun _ _ _ _ _ _ us hl => match us, hl with | [_], _ => rfl
  have F_l_bent_line := fun_mk (st := st_l_bent_line) l_l_bent_line c_l_bent_line k_l_bent_line
  have B_l_bent_line := F_l_bent_line.binds (ps := ["deck", "line"]) fun _ _ _ _ _ _ us hl => match us, hl with | [_, _], _ => rfl
  have F_l_bent := fun_mk (st := st_l_bent) l_l_bent c_l_bent k_l_bent
  have B_l_bent := F_l_bent.binds (ps := ["deck", "value"]) fun _ _ _ _ _ _ us hl => match us, hl with | [_, _], _ => rfl
  have F_is_tuple_of := fun_mk (st := st_is_tuple_of) l_is_tuple_of c_is_tuple_of k_is_tuple_of
  have B_is_tuple_of := F_is_tuple_of.binds (ps := ["value", "least", "most"]) fun _ _ _ _ _ _ us hl => match us, hl with | [_, _, _], _ => rfl
  have F_is_integer := fun_mk (st := st_is_integer) l_is_integer c_is_integer k_is_integer
  have B_is_integer := F_is_integer.binds (ps := ["value"]) fun _ _ _ _ _ _ us hl => match us, hl with | [_], _ => rfl
  have F_is_number_below := fun_mk (st := st_is_number_below) l_is_number_below c_is_number_below k_is_number_below
  have B_is_number_below := F_is_number_below.binds (ps := ["value", "many"]) fun _ _ _ _ _ _ us hl => match us, hl with | [_, _], _ => rfl
  have F_p_is_of_kind := fun_mk (st := st_p_is_of_kind) l_p_is_of_kind c_p_is_of_kind k_p_is_of_kind
  have B_p_is_of_kind := F_p_is_of_kind.binds (ps := ["value", "kind"]) fun _ _ _ _ _ _ us hl => match us, hl with | [_, _], _ => rfl
  have F_p_is_line := fun_mk (st := st_p_is_line) l_p_is_line c_p_is_line k_p_is_line
  have B_p_is_line := F_p_is_line.binds (ps := ["value"]) fun _ _ _ _ _ _ us hl => match us, hl with | [_], _ => rfl
  have F_program_error := fun_mk (st := st_program_error) l_program_error c_program_error k_program_error
  have B_program_error := F_program_error.binds (ps := ["value"]) fun _ _ _ _ _ _ us hl => match us, hl with | [_], _ => rfl
  have F_programs_error := fun_mk (st := st_programs_error) l_programs_error c_programs_error k_programs_error
  have B_programs_error := F_programs_error.binds (ps := ["standing", "value"]) fun _ _ _ _ _ _ us hl => match us, hl with | [_, _], _ => rfl
  have F_l_bounds := fun_mk (st := st_l_bounds) l_l_bounds c_l_bounds k_l_bounds
  have B_l_bounds := F_l_bounds.binds (ps := ["word"]) fun _ _ _ _ _ _ us hl => match us, hl with | [_], _ => rfl
  have F_l_is_line := fun_mk (st := st_l_is_line) l_l_is_line c_l_is_line k_l_is_line
  have B_l_is_line := F_l_is_line.binds (ps := ["value"]) fun _ _ _ _ _ _ us hl => match us, hl with | [_], _ => rfl
  have F_l_faultP := fun_mk (st := st_l_fault) l_l_fault c_l_fault k_l_fault
  have B_l_fault := F_l_faultP.binds (ps := ["value"]) fun _ _ _ _ _ _ us hl => match us, hl with | [_], _ => rfl
  have F_l_fault_of_all := fun_mk (st := st_l_fault_of_all) l_l_fault_of_all c_l_fault_of_all k_l_fault_of_all
  have B_l_fault_of_all := F_l_fault_of_all.binds (ps := ["many", "value"]) fun _ _ _ _ _ _ us hl => match us, hl with | [_, _], _ => rfl
  have F_l_is_told := fun_mk (st := st_l_is_told) l_l_is_told c_l_is_told k_l_is_told
  have B_l_is_told := F_l_is_told.binds (ps := ["standing", "one", "every", "is_named"]) fun _ _ _ _ _ _ us hl => match us, hl with | [_, _, _, _], _ => rfl
  have F_l_line := fun_mk (st := st_l_line) l_l_line c_l_line k_l_line
  have B_l_line := F_l_line.binds (ps := ["deck"]) fun _ _ _ _ _ _ us hl => match us, hl with | [_], _ => rfl
  have F_l_program := fun_mk (st := st_l_program) l_l_program c_l_program k_l_program
  have B_l_program := F_l_program.binds (ps := ["deck"]) fun _ _ _ _ _ _ us hl => match us, hl with | [_], _ => rfl
  have F_law := fun_mk (st := st_law) l_law c_law k_law
  have B_law := F_law.binds (ps := ["script"]) fun _ _ _ _ _ _ us hl => match us, hl with | [_], _ => rfl
  refine ⟨_, fun s v => .of_eq rfl, fun base _ _ hs => ok_law (T := { a_l_deck := f_l_deck, d_l_deck := _, F_l_deck := F_l_deck, m_l_deck := PySem.W.mg_of X G a_l_deck, B_l_deck := B_l_deck, a_l_draw := f_l_draw, d_l_draw := _, F_l_draw := F_l_draw, m_l_draw := PySem.W.mg_of X G a_l_draw, B_l_draw := B_l_draw, a_l_pick := f_l_pick, d_l_pick := _, F_l_pick := F_l_pick, m_l_pick := PySem.W.mg_of X G a_l_pick, B_l_pick := B_l_pick, a_l_heap := f_l_heap, d_l_heap := _, F_l_heap := F_l_heap, m_l_heap := PySem.W.mg_of X G a_l_heap, B_l_heap := B_l_heap, a_l_rooms := f_l_rooms, d_l_rooms := _, F_l_rooms := F_l_rooms, m_l_rooms := PySem.W.mg_of X G a_l_rooms, B_l_rooms := B_l_rooms, a_l_begin := f_l_begin, d_l_begin := _, F_l_begin := F_l_begin, m_l_begin := PySem.W.mg_of X G a_l_begin, B_l_begin := B_l_begin, a_l_odd := f_l_odd, d_l_odd := _, F_l_odd := F_l_odd, m_l_odd := PySem.W.mg_of X G a_l_odd, B_l_odd := B_l_odd, a_l_bent_line := f_l_bent_line, d_l_bent_line := _, F_l_bent_line := F_l_bent_line, m_l_bent_line := PySem.W.mg_of X G a_l_bent_line, B_l_bent_line := B_l_bent_line, a_l_bent := f_l_bent, d_l_bent := _, F_l_bent := F_l_bent, m_l_bent := PySem.W.mg_of X G a_l_bent, B_l_bent := B_l_bent, a_is_tuple_of := f_is_tuple_of, d_is_tuple_of := _, F_is_tuple_of := F_is_tuple_of, m_is_tuple_of := PySem.W.mg_of X G a_is_tuple_of, B_is_tuple_of := B_is_tuple_of, a_is_integer := f_is_integer, d_is_integer := _, F_is_integer := F_is_integer, m_is_integer := PySem.W.mg_of X G a_is_integer, B_is_integer := B_is_integer, a_is_number_below := f_is_number_below, d_is_number_below := _, F_is_number_below := F_is_number_below, m_is_number_below := PySem.W.mg_of X G a_is_number_below, B_is_number_below := B_is_number_below, a_p_is_of_kind := f_p_is_of_kind, d_p_is_of_kind := _, F_p_is_of_kind := F_p_is_of_kind, m_p_is_of_kind := PySem.W.mg_of X G a_p_is_of_kind, B_p_is_of_kind := B_p_is_of_kind, a_p_is_line := f_p_is_line, d_p_is_line := _, F_p_is_line := F_p_is_line, m_p_is_line := PySem.W.mg_of X G a_p_is_line, B_p_is_line := B_p_is_line, a_program_error := f_program_error, d_program_error := _, F_program_error := F_program_error, m_program_error := PySem.W.mg_of X G a_program_error, B_program_error := B_program_error, a_programs_error := f_programs_error, d_programs_error := _, F_programs_error := F_programs_error, m_programs_error := PySem.W.mg_of X G a_programs_error, B_programs_error := B_programs_error, a_l_bounds := f_l_bounds, d_l_bounds := _, F_l_bounds := F_l_bounds, m_l_bounds := PySem.W.mg_of X G a_l_bounds, B_l_bounds := B_l_bounds, a_l_is_line := f_l_is_line, d_l_is_line := _, F_l_is_line := F_l_is_line, m_l_is_line := PySem.W.mg_of X G a_l_is_line, B_l_is_line := B_l_is_line, a_l_fault := f_l_fault, d_l_fault := _, F_l_faultP := F_l_faultP, m_l_fault := PySem.W.mg_of X G a_l_fault, B_l_fault := B_l_fault, a_l_fault_of_all := f_l_fault_of_all, d_l_fault_of_all := _, F_l_fault_of_all := F_l_fault_of_all, m_l_fault_of_all := PySem.W.mg_of X G a_l_fault_of_all, B_l_fault_of_all := B_l_fault_of_all, a_l_is_told := f_l_is_told, d_l_is_told := _, F_l_is_told := F_l_is_told, m_l_is_told := PySem.W.mg_of X G a_l_is_told, B_l_is_told := B_l_is_told, a_l_line := f_l_line, d_l_line := _, F_l_line := F_l_line, m_l_line := PySem.W.mg_of X G a_l_line, B_l_line := B_l_line, a_l_program := f_l_program, d_l_program := _, F_l_program := F_l_program, m_l_program := PySem.W.mg_of X G a_l_program, B_l_program := B_l_program, a_law := fa, d_law := _, F_law := F_law, m_law := PySem.W.mg_of X G a_law, B_law := B_law, P_program_error_0 := perm_mk (fun s us hl => match us, hl with | [], hl => nomatch hl | v0 :: _, _ => .of_eq rfl), P_programs_error_1_0 := perm_mk (fun s us hl => match us, hl with | [], hl => nomatch hl | v0 :: [], hl => nomatch hl | v0 :: v1 :: _, _ => .of_eq rfl), q_LINES := q_LINES, m_LINES := PySem.W.mg_of X G e_LINES, x_LINES := dctG_mk d_LINES l_LINES j_LINES y_LINES (dctG_cons ⟨_, _, _, d_LINES, l_LINES, g_LINES_0, (show L2.RelV (.ref q_LINES_e0_0) (.ref q_LINES_e0_0) from rfl)⟩ (fun H => (.tup (.inr ⟨_, _, _, w_LINES_e0_0, rfl, rfl, (show (1 : Nat) ≤ sizeLine by decide), (.cons (show L2.RelV (.str "room") (.str "room" t_LINES_e0_1) from ⟨_, rfl⟩) .nil)⟩) (.cons (.str _) .nil))) (dctG_cons ⟨_, _, _, d_LINES, l_LINES, g_LINES_1, (show L2.RelV (.ref q_LINES_e1_0) (.ref q_LINES_e1_0) from rfl)⟩ (fun H => (.tup (.inr ⟨_, _, _, w_LINES_e1_0, rfl, rfl, (show (2 : Nat) ≤ sizeLine by decide), (.cons (show L2.RelV (.str "room") (.str "room" t_LINES_e1_1) from ⟨_, rfl⟩) (.cons (show L2.RelV (.str "room") (.str "room" t_LINES_e1_2) from ⟨_, rfl⟩) .nil))⟩) (.cons (.str _) (.cons (.str _) .nil)))) (dctG_cons ⟨_, _, _, d_LINES, l_LINES, g_LINES_2, (show L2.RelV (.ref q_LINES_e2_0) (.ref q_LINES_e2_0) from rfl)⟩ (fun H => (.tup (.inr ⟨_, _, _, w_LINES_e2_0, rfl, rfl, (show (2 : Nat) ≤ sizeLine by decide), (.cons (show L2.RelV (.str "room") (.str "room" t_LINES_e2_1) from ⟨_, rfl⟩) (.cons (show L2.RelV (.str "many") (.str "many" t_LINES_e2_2) from ⟨_, rfl⟩) .nil))⟩) (.cons (.str _) (.cons (.str _) .nil)))) (dctG_cons ⟨_, _, _, d_LINES, l_LINES, g_LINES_3, (show L2.RelV (.ref q_LINES_e3_0) (.ref q_LINES_e3_0) from rfl)⟩ (fun H => (.tup (.inr ⟨_, _, _, w_LINES_e3_0, rfl, rfl, (show (3 : Nat) ≤ sizeLine by decide), (.cons (show L2.RelV (.str "room") (.str "room" t_LINES_e3_1) from ⟨_, rfl⟩) (.cons (show L2.RelV (.str "field") (.str "field" t_LINES_e3_2) from ⟨_, rfl⟩) (.cons (show L2.RelV (.str "room") (.str "room" t_LINES_e3_3) from ⟨_, rfl⟩) .nil)))⟩) (.cons (.str _) (.cons (.str _) (.cons (.str _) .nil))))) (dctG_cons ⟨_, _, _, d_LINES, l_LINES, g_LINES_4, (show L2.RelV (.ref q_LINES_e4_0) (.ref q_LINES_e4_0) from rfl)⟩ (fun H => (.tup (.inr ⟨_, _, _, w_LINES_e4_0, rfl, rfl, (show (3 : Nat) ≤ sizeLine by decide), (.cons (show L2.RelV (.str "room") (.str "room" t_LINES_e4_1) from ⟨_, rfl⟩) (.cons (show L2.RelV (.str "field") (.str "field" t_LINES_e4_2) from ⟨_, rfl⟩) (.cons (show L2.RelV (.str "room or nothing") (.str "room or nothing" t_LINES_e4_3) from ⟨_, rfl⟩) .nil)))⟩) (.cons (.str _) (.cons (.str _) (.cons (.str _) .nil))))) dctG_nil))))), u_MAX_FIELDS := _, r_MAX_FIELDS := ⟨_, rfl⟩, m_MAX_FIELDS := PySem.W.mg_of X G e_MAX_FIELDS, u_MAX_PROGRAM := _, r_MAX_PROGRAM := ⟨_, rfl⟩, m_MAX_PROGRAM := PySem.W.mg_of X G e_MAX_PROGRAM, u_MAX_ROOMS := _, r_MAX_ROOMS := ⟨_, rfl⟩, m_MAX_ROOMS := PySem.W.mg_of X G e_MAX_ROOMS, b_abs := PySem.W.mg_none_of X G z_abs, b_all := PySem.W.mg_none_of X G z_all, b_bool := PySem.W.mg_none_of X G z_bool, b_enumerate := PySem.W.mg_none_of X G z_enumerate, b_int := PySem.W.mg_none_of X G z_int, b_isinstance := PySem.W.mg_none_of X G z_isinstance, b_len := PySem.W.mg_none_of X G z_len, b_list := PySem.W.mg_none_of X G z_list, b_range := PySem.W.mg_none_of X G z_range, b_repr := PySem.W.mg_none_of X G z_repr, b_str := PySem.W.mg_none_of X G z_str, b_tuple := PySem.W.mg_none_of X G z_tuple, b_zip := PySem.W.mg_none_of X G z_zip }) hs⟩
end GK
open PySem PySem.W PyProof.Rows
set_option maxHeartbeats 0 in
theorem PySem.Challenge.cw_guardbooks_k63_what_programs_are_holds : PySem.Challenge.rw_guardbooks_k63_what_programs_are.Holds := by
  w_on; o_law; k_head; (case hw => w_witness2)
  k_fill
  refine GB.end_of (l := PySem.Challenge.rw_guardbooks_k63_what_programs_are) (n := 63) (k := 8) (x := "script") (J := fun w => GK.Jr PySem.Challenge.pw_guardbooks_k63_what_programs_are w _) (F := GK.F_law) rfl (by decide) rfl ⟨rfl, by decide, by decide⟩ (by decide +kernel) (fun w h Y => PySem.W.kIn_of Y) ?F (fun _ _ _ _ h => h) GK.go_law
  case F =>
    intro w mg fa h KX G hmg
    refine' GK.all_mk KX G hmg ?a_l_deck ?l_l_deck ?c_l_deck ?k_l_deck ?a_l_draw ?l_l_draw ?c_l_draw ?k_l_draw ?a_l_pick ?l_l_pick ?c_l_pick ?k_l_pick ?a_l_heap ?l_l_heap ?c_l_heap ?k_l_heap ?a_l_rooms ?l_l_rooms ?c_l_rooms ?k_l_rooms ?a_l_begin ?l_l_begin ?c_l_begin ?k_l_begin ?a_l_odd ?l_l_odd ?c_l_odd ?k_l_odd ?a_l_bent_line ?l_l_bent_line ?c_l_bent_line ?k_l_bent_line ?a_l_bent ?l_l_bent ?c_l_bent ?k_l_bent ?a_is_tuple_of ?l_is_tuple_of ?c_is_tuple_of ?k_is_tuple_of ?a_is_integer ?l_is_integer ?c_is_integer ?k_is_integer ?a_is_number_below ?l_is_number_below ?c_is_number_below ?k_is_number_below ?a_p_is_of_kind ?l_p_is_of_kind ?c_p_is_of_kind ?k_p_is_of_kind ?a_p_is_line ?l_p_is_line ?c_p_is_line ?k_p_is_line ?a_program_error ?l_program_error ?c_program_error ?k_program_error ?a_programs_error ?l_programs_error ?c_programs_error ?k_programs_error ?a_l_bounds ?l_l_bounds ?c_l_bounds ?k_l_bounds ?a_l_is_line ?l_l_is_line ?c_l_is_line ?k_l_is_line ?a_l_fault ?l_l_fault ?c_l_fault ?k_l_fault ?a_l_fault_of_all ?l_l_fault_of_all ?c_l_fault_of_all ?k_l_fault_of_all ?a_l_is_told ?l_l_is_told ?c_l_is_told ?k_l_is_told ?a_l_line ?l_l_line ?c_l_line ?k_l_line ?a_l_program ?l_l_program ?c_l_program ?k_l_program ?a_law ?l_law ?c_law ?k_law ?e_LINES ?d_LINES ?w_LINES_e0_0 ?g_LINES_0 ?w_LINES_e1_0 ?g_LINES_1 ?w_LINES_e2_0 ?g_LINES_2 ?w_LINES_e3_0 ?g_LINES_3 ?w_LINES_e4_0 ?g_LINES_4 ?lit_LINES ?j_LINES ?y_LINES ?e_MAX_FIELDS ?e_MAX_PROGRAM ?e_MAX_ROOMS ?z_abs ?z_all ?z_bool ?z_enumerate ?z_int ?z_isinstance ?z_len ?z_list ?z_range ?z_repr ?z_str ?z_tuple ?z_zip
    (case a_l_deck => k_is); (case l_l_deck => k_is); (case c_l_deck => k_is); (case k_l_deck => k_is); (case a_l_draw => k_is); (case l_l_draw => k_is); (case c_l_draw => k_is); (case k_l_draw => k_is); (case a_l_pick => k_is); (case l_l_pick => k_is); (case c_l_pick => k_is); (case k_l_pick => k_is); (case a_l_heap => k_is); (case l_l_heap => k_is); (case c_l_heap => k_is); (case k_l_heap => k_is); (case a_l_rooms => k_is); (case l_l_rooms => k_is); (case c_l_rooms => k_is); (case k_l_rooms => k_is); (case a_l_begin => k_is); (case l_l_begin => k_is); (case c_l_begin => k_is); (case k_l_begin => k_is); (case a_l_odd => k_is); (case l_l_odd => k_is); (case c_l_odd => k_is); (case k_l_odd => k_is); (case a_l_bent_line => k_is); (case l_l_bent_line => k_is); (case c_l_bent_line => k_is); (case k_l_bent_line => k_is); (case a_l_bent => k_is); (case l_l_bent => k_is); (case c_l_bent => k_is); (case k_l_bent => k_is); (case a_is_tuple_of => k_is); (case l_is_tuple_of => k_is); (case c_is_tuple_of => k_is); (case k_is_tuple_of => k_is); (case a_is_integer => k_is); (case l_is_integer => k_is); (case c_is_integer => k_is); (case k_is_integer => k_is); (case a_is_number_below => k_is); (case l_is_number_below => k_is); (case c_is_number_below => k_is); (case k_is_number_below => k_is); (case a_p_is_of_kind => k_is); (case l_p_is_of_kind => k_is); (case c_p_is_of_kind => k_is); (case k_p_is_of_kind => k_is); (case a_p_is_line => k_is); (case l_p_is_line => k_is); (case c_p_is_line => k_is); (case k_p_is_line => k_is); (case a_program_error => k_is); (case l_program_error => k_is); (case c_program_error => k_is); (case k_program_error => k_is); (case a_programs_error => k_is); (case l_programs_error => k_is); (case c_programs_error => k_is); (case k_programs_error => k_is); (case a_l_bounds => k_is); (case l_l_bounds => k_is); (case c_l_bounds => k_is); (case k_l_bounds => k_is); (case a_l_is_line => k_is); (case l_l_is_line => k_is); (case c_l_is_line => k_is); (case k_l_is_line => k_is); (case a_l_fault => k_is); (case l_l_fault => k_is); (case c_l_fault => k_is); (case k_l_fault => k_is); (case a_l_fault_of_all => k_is); (case l_l_fault_of_all => k_is); (case c_l_fault_of_all => k_is); (case k_l_fault_of_all => k_is); (case a_l_is_told => k_is); (case l_l_is_told => k_is); (case c_l_is_told => k_is); (case k_l_is_told => k_is); (case a_l_line => k_is); (case l_l_line => k_is); (case c_l_line => k_is); (case k_l_line => k_is); (case a_l_program => k_is); (case l_l_program => k_is); (case c_l_program => k_is); (case k_l_program => k_is); (case a_law => k_is); (case l_law => k_is); (case c_law => k_is); (case k_law => k_is); (case e_MAX_FIELDS => k_is); (case e_MAX_PROGRAM => k_is); (case e_MAX_ROOMS => k_is); (case z_abs => k_is); (case z_all => k_is); (case z_bool => k_is); (case z_enumerate => k_is); (case z_int => k_is); (case z_isinstance => k_is); (case z_len => k_is); (case z_list => k_is); (case z_range => k_is); (case z_repr => k_is); (case z_str => k_is); (case z_tuple => k_is); (case z_zip => k_is); (case e_LINES => k_is); (case d_LINES => k_is); (case g_LINES_0 => k_is); (case w_LINES_e0_0 => k_is); (case g_LINES_1 => k_is); (case w_LINES_e1_0 => k_is); (case g_LINES_2 => k_is); (case w_LINES_e2_0 => k_is); (case g_LINES_3 => k_is); (case w_LINES_e3_0 => k_is); (case g_LINES_4 => k_is); (case w_LINES_e4_0 => k_is); (case lit_LINES => exact ⟨⟨_, _, rfl, rfl⟩, ⟨_, _, rfl, rfl⟩, ⟨_, _, rfl, rfl⟩, ⟨_, _, rfl, rfl⟩, ⟨_, _, rfl, rfl⟩, trivial⟩); (case j_LINES => first | rfl | decide +kernel); (case y_LINES => first | rfl | decide +kernel)

