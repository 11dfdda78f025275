import PyProof.Rows.All
import Wide.All
import OpenK.AllK
import Wide.FinOn
import HandS.ForMost
import HandS.ForExc
import HandS.Evl
import HandS.IsInst
import HandS.EndBits
import HandS.Conv
import HandS.Flow
import HandS.Style
import HandS.RaiseMore
import HandS.TupAny
import HandS.TupMul
import HandS.Strs
import HandS.SetBool
import HandS.Walk
import KE.KRevSl
import PyProof.EnumMake
import PyProof.Draws
import HandS.Zip0
import HandS.SetFor
import HandS.SortInts
import PyProof.ReprLen
import PyProof.Rows.ReprOcc
import PySem.Challenge.RW_moveafter_k01_lines_commands_scripts
set_option Elab.async false
set_option linter.all false
set_option maxRecDepth 100000
set_option maxHeartbeats 2000000
namespace MA
open PySem PySem.Spec PyProof.Rows L2

/-! ## plain data in the abstract heap -/
def kD : Key → PyData
  | .inl i => .int i
  | .inr x => .str x
def zipK : List (Key × V) → List PyData → List (PyData × PyData)
  | (k, _) :: r, d :: ds => (kD k, d) :: zipK r ds
  | _, _ => []
mutual
inductive Dq (K : PySem.W.Frag) (H : Hp) : V → PyData → Prop
  | non : Dq K H .non .none
  | bl (b : Bool) : Dq K H (.bl b) (.bool b)
  | int (i : Int) : Dq K H (.int i) (.int i)
  | str (x : Str) : Dq K H (.str x) (.str x)
  | lst {a : Addr} {xs : List V} {ds : List PyData} (h : H a = some (.lst xs)) (q : DqAll K H xs ds) : Dq K H (.ref a) (.list ds)
  | tup {a : Addr} {xs : List V} {ds : List PyData} (h : SqT K H a xs) (q : DqAll K H xs ds) : Dq K H (.ref a) (.tuple ds)
  | dct {a : Addr} {kvs : List (Key × V)} {ds : List PyData} (h : H a = some (.dK kvs)) (q : DqAll K H (kvs.map (·.2)) ds) : Dq K H (.ref a) (.dict (zipK kvs ds))
inductive DqAll (K : PySem.W.Frag) (H : Hp) : List V → List PyData → Prop
  | nil : DqAll K H [] []
  | cons {v : V} {vs : List V} {d : PyData} {ds : List PyData} (h : Dq K H v d) (q : DqAll K H vs ds) : DqAll K H (v :: vs) (d :: ds)
end
abbrev Ex := Evl.Ex
theorem Ex.refl (H : Hp) : Ex H H := fun _ _ h => h
theorem Ex.trans {H H1 H2 : Hp} (a : Ex H H1) (b : Ex H1 H2) : Ex H H2 := fun x o h => b x o (a x o h)
section
variable {K : PySem.W.Frag} {H H' : Hp}
mutual
theorem Dq.mono (e : Ex H H') : ∀ {v : V} {d : PyData}, Dq K H v d → Dq K H' v d
  | _, _, .non => .non
  | _, _, .bl b => .bl b
  | _, _, .int i => .int i
  | _, _, .str x => .str x
  | _, _, .lst h q => .lst (e _ _ h) (DqAll.mono e q)
  | _, _, .tup h q => .tup (Evl.ex_t e h) (DqAll.mono e q)
  | _, _, .dct h q => .dct (e _ _ h) (DqAll.mono e q)
theorem DqAll.mono (e : Ex H H') : ∀ {vs : List V} {ds : List PyData}, DqAll K H vs ds → DqAll K H' vs ds
  | _, _, .nil => .nil
  | _, _, .cons h q => .cons (Dq.mono e h) (DqAll.mono e q)
end
theorem DqAll.length : ∀ {vs : List V} {ds : List PyData}, DqAll K H vs ds → vs.length = ds.length
  | _, _, .nil => rfl
  | _, _, .cons _ q => congrArg (· + 1) (DqAll.length q)
theorem DqAll.append : ∀ {vs ws : List V} {ds es : List PyData}, DqAll K H vs ds → DqAll K H ws es → DqAll K H (vs ++ ws) (ds ++ es)
  | _, _, _, _, .nil, q => q
  | _, _, _, _, .cons h q, r => .cons h (DqAll.append q r)
theorem DqAll.get : ∀ {vs : List V} {ds : List PyData} {i : Nat} {v : V}, DqAll K H vs ds → vs[i]? = some v → ∃ d, ds[i]? = some d ∧ Dq K H v d
  | _, _, i, _, .nil, e => by simp at e
  | _, _, 0, _, .cons h _, e => by simp at e; subst e; exact ⟨_, rfl, h⟩
  | _, _, i + 1, v, .cons _ q, e => by
    obtain ⟨d, h1, h2⟩ := DqAll.get (i := i) (v := v) q (by simpa using e)
    exact ⟨d, by simpa using h1, h2⟩
theorem DqAll.get' : ∀ {vs : List V} {ds : List PyData} {i : Nat} {d : PyData}, DqAll K H vs ds → ds[i]? = some d → ∃ v, vs[i]? = some v ∧ Dq K H v d
  | _, _, i, _, .nil, e => by simp at e
  | _, _, 0, _, .cons h _, e => by simp at e; subst e; exact ⟨_, rfl, h⟩
  | _, _, i + 1, v, .cons _ q, e => by
    obtain ⟨d, h1, h2⟩ := DqAll.get' (i := i) (d := v) q (by simpa using e)
    exact ⟨d, by simpa using h1, h2⟩
theorem DqAll.take : ∀ {vs : List V} {ds : List PyData} (n : Nat), DqAll K H vs ds → DqAll K H (vs.take n) (ds.take n)
  | _, _, 0, _ => .nil
  | _, _, _ + 1, .nil => .nil
  | _, _, n + 1, .cons h q => .cons h (DqAll.take n q)
theorem DqAll.drop : ∀ {vs : List V} {ds : List PyData} (n : Nat), DqAll K H vs ds → DqAll K H (vs.drop n) (ds.drop n)
  | _, _, 0, q => q
  | _, _, _ + 1, .nil => .nil
  | _, _, n + 1, .cons _ q => DqAll.drop n q
theorem DqAll.reverse {vs : List V} {ds : List PyData} (q : DqAll K H vs ds) : DqAll K H vs.reverse ds.reverse := by
  induction vs generalizing ds with
  | nil => cases q; exact .nil
  | cons v vs ih =>
    cases q with
    | cons h q =>
      rw [List.reverse_cons, List.reverse_cons]
      exact (ih q).append (.cons h .nil)
theorem DqAll.rep {v : V} {d : PyData} (h : Dq K H v d) : ∀ n : Nat, DqAll K H (List.replicate n v) (List.replicate n d)
  | 0 => .nil
  | n + 1 => .cons h (DqAll.rep h n)
theorem DqAll.flatRep {vs : List V} {ds : List PyData} (q : DqAll K H vs ds) : ∀ n : Nat, DqAll K H (List.replicate n vs).flatten (List.replicate n ds).flatten
  | 0 => .nil
  | n + 1 => q.append (DqAll.flatRep q n)
theorem dqInts : ∀ ns : List Int, DqAll K H (ns.map V.int) (ns.map PyData.int)
  | [] => .nil
  | n :: r => .cons (.int n) (dqInts r)
theorem dqBls : ∀ ns : List Bool, DqAll K H (ns.map V.bl) (ns.map PyData.bool)
  | [] => .nil
  | n :: r => .cons (.bl n) (dqBls r)
theorem dqStrs : ∀ ns : List Str, DqAll K H (ns.map V.str) (ns.map PyData.str)
  | [] => .nil
  | n :: r => .cons (.str n) (dqStrs r)
theorem ofInts : ∀ {vs : List V} {ns : List Int}, DqAll K H vs (ns.map PyData.int) → vs = ns.map V.int
  | [], [], _ => rfl
  | _ :: _, [], q => by cases q
  | [], _ :: _, q => by cases q
  | _ :: _, n :: ns, q => by
    cases q with
    | cons h q =>
      cases h
      exact congrArg _ (ofInts q)
theorem ofBls : ∀ {vs : List V} {ns : List Bool}, DqAll K H vs (ns.map PyData.bool) → vs = ns.map V.bl
  | [], [], _ => rfl
  | _ :: _, [], q => by cases q
  | [], _ :: _, q => by cases q
  | _ :: _, n :: ns, q => by
    cases q with
    | cons h q =>
      cases h
      exact congrArg _ (ofBls q)
theorem ofStrs : ∀ {vs : List V} {ns : List Str}, DqAll K H vs (ns.map PyData.str) → vs = ns.map V.str
  | [], [], _ => rfl
  | _ :: _, [], q => by cases q
  | [], _ :: _, q => by cases q
  | _ :: _, n :: ns, q => by
    cases q with
    | cons h q =>
      cases h
      exact congrArg _ (ofStrs q)
end

/-! ## the order of worlds: B what is known for good, H the heap; M the lists that may change -/
structure Le (M : List Addr) (B H B' H' : Hp) : Prop where
  b : Ex B B'
  h : Ex B' H'
  k : ∀ a o, a ∉ M → H a = some o → H' a = some o
  t : ∀ a, H a ≠ none → H' a ≠ none
  n : ∀ a, B a = none → B' a ≠ none → H a = none
section
variable {M : List Addr} {B H B1 H1 B2 H2 : Hp}
theorem Le.refl (h : Ex B H) : Le M B H B H := ⟨Ex.refl B, h, fun _ _ _ e => e, fun _ e => e, fun _ e e' => absurd e e'⟩
theorem Le.trans (x : Le M B H B1 H1) (y : Le M B1 H1 B2 H2) : Le M B H B2 H2 := by
  refine ⟨x.b.trans y.b, y.h, fun a o ha e => y.k a o ha (x.k a o ha e), fun a e => y.t a (x.t a e), fun a e e2 => ?_⟩
  by_cases z : B1 a = none
  · have w := y.n a z e2
    cases q : H a with
    | none => rfl
    | some o => exact absurd w (x.t a (by rw [q]; simp))
  · exact x.n a e z
theorem Le.wk {M' : List Addr} (x : Le M B H B1 H1) (h : ∀ a ∈ M, a ∈ M') : Le M' B H B1 H1 := ⟨x.b, x.h, fun a o ha e => x.k a o (fun m => ha (h a m)) e, x.t, x.n⟩
theorem Le.any (x : Le [] B H B1 H1) : Le M B H B1 H1 := x.wk fun _ m => nomatch m
theorem Le.ex (x : Le [] B H B1 H1) : Ex H H1 := fun a o e => x.k a o (by simp) e
/-- what is not known for good stays so where it is there -/
theorem Le.own (x : Le M B H B1 H1) {p : Addr} {o : HO} (hp : H p = some o) (hb : B p = none) : B1 p = none := by
  cases q : B1 p with
  | none => rfl
  | some z => 
    have := x.n p hb (by rw [q]; simp)
    rw [hp] at this
    cases this
theorem Le.new {p : Addr} {o : HO} (h : Ex B H) (hp : H p = none) : Le M B H (upd B p o) (upd H p o) := by
  have hb : B p = none := by
    cases q : B p with
    | none => rfl
    | some z => rw [h p z q] at hp; cases hp
  refine ⟨Evl.Ex.new hb, fun a u e => ?_, fun a u _ e => Evl.Ex.new hp a u e, fun a e => ?_, fun a e e2 => ?_⟩
  · unfold upd at e ⊢
    split at e
    · rename_i z; rw [if_pos z]; exact e
    · rename_i z; rw [if_neg z]; exact h a u e
  · unfold upd
    split
    · simp
    · exact e
  · unfold upd at e2
    split at e2
    · rename_i z; rw [z]; exact hp
    · exact absurd e e2
/-- a list of ours is made: it is not known for good -/
theorem Le.made {p : Addr} {o : HO} (h : Ex B H) (hp : H p = none) : Le M B H B (upd H p o) := by
  refine ⟨Ex.refl B, fun a u e => Evl.Ex.new hp a u (h a u e), fun a u _ e => Evl.Ex.new hp a u e, fun a e => ?_, fun a e e2 => absurd e e2⟩
  unfold upd
  split
  · simp
  · exact e
/-- a list of ours is changed -/
theorem Le.put {p : Addr} {o : HO} (h : Ex B H) (hb : B p = none) (hM : p ∈ M) : Le M B H B (upd H p o) := by
  refine ⟨Ex.refl B, fun a u e => ?_, fun a u ha e => ?_, fun a e => ?_, fun a e e2 => absurd e e2⟩
  · have : a ≠ p := fun z => by rw [z, hb] at e; cases e
    rw [upd_ne this]; exact h a u e
  · have : a ≠ p := fun z => ha (z ▸ hM)
    rw [upd_ne this]; exact e
  · unfold upd
    split
    · simp
    · exact e
/-- a list of ours is given away: known for good from now on -/
theorem ex_give {p : Addr} {o : HO} (h : Ex B H) (hp : H p = some o) : Ex (upd B p o) H := fun a u e => by
  unfold upd at e
  split at e
  · rename_i z; cases e; rw [z]; exact hp
  · exact h a u e
theorem Le.give {B0 H0 : Hp} {p : Addr} {o : HO} (x : Le M B0 H0 B H) (h0 : H0 p = none) (hb : B p = none) (hp : H p = some o) : Le M B0 H0 (upd B p o) H := by
  refine ⟨x.b.trans (Evl.Ex.new hb), ex_give x.h hp, x.k, x.t, fun a e e2 => ?_⟩
  by_cases z : a = p
  · rw [z]; exact h0
  · rw [upd_ne z] at e2; exact x.n a e e2
end
end MA

set_option maxRecDepth 100000
set_option maxHeartbeats 2000000
namespace MA
open PySem PySem.Spec PyProof.Rows L2

/-! ## what is read of plain data -/
mutual
def noList : PyData → Bool
  | .list _ => false
  | .tuple xs => noListAll xs
  | .dict kvs => noListKv kvs
  | _ => true
def noListAll : List PyData → Bool
  | [] => true
  | x :: xs => noList x && noListAll xs
def noListKv : List (PyData × PyData) → Bool
  | [] => true
  | (_, v) :: r => noList v && noListKv r
end
section
variable {X : Cx} {pins : List (Addr × Obj)} {σ : L2.St} {H : Hp} {s : Shared}
theorem zipK_fst : ∀ {kvs : List (Key × V)} {ds : List PyData}, kvs.length = ds.length → (zipK kvs ds).map (·.1) = kvs.map (kD ·.1)
  | [], [], _ => rfl
  | (k, v) :: r, d :: ds, h => by
    show kD k :: (zipK r ds).map (·.1) = _
    rw [zipK_fst (by simpa using h)]
    rfl
  | [], _ :: _, h => by simp at h
  | _ :: _, [], h => by simp at h
theorem zipK_snd : ∀ {kvs : List (Key × V)} {ds : List PyData}, kvs.length = ds.length → (zipK kvs ds).map (·.2) = ds
  | [], [], _ => rfl
  | (k, v) :: r, d :: ds, h => by
    show d :: (zipK r ds).map (·.2) = _
    rw [zipK_snd (by simpa using h)]
  | [], _ :: _, h => by simp at h
  | _ :: _, [], h => by simp at h
theorem noListKv_snd : ∀ kvs : List (PyData × PyData), noListKv kvs = noListAll (kvs.map (·.2))
  | [] => by simp [noListKv, noListAll]
  | (k, v) :: r => by simp [noListKv, noListAll, noListKv_snd r]
theorem reads_keys {h : Heap} : ∀ {es : List DictEntry} {kvs : List (Key × V)} {vs : List (Key × Value)}, Pairs (mixKind X.prog X.w) es vs → KV kvs vs → ReadsAll h (es.map (·.key)) (kvs.map (kD ·.1)) []
  | [], _, _, p, r => by
    cases p
    cases r
    exact .nil
  | e :: es, _, _, p, r => by
    cases p with
    | cons p1 p2 p3 =>
      cases r with
      | cons r1 r2 =>
        rename_i a l
        have e1 : a.1 = _ := r1.1
        have q := reads_keys (h := h) p3 r2
        have z : Reads h e.key (kD a.1) [] := by
          rw [e1]
          rcases keyIs_shape (show keyIs _ e.key = true from p1) with ⟨i, t, z1, z2⟩ | ⟨x, t, z1, z2⟩
          · rw [z1, z2]; exact .int i t
          · rw [z1, z2]; exact .str x t
        exact ReadsAll.cons (as := []) (bs := []) z q
theorem vals_pairs : ∀ {es : List DictEntry} {kvs : List (Key × V)} {vs : List (Key × Value)}, Pairs (mixKind X.prog X.w) es vs → KV kvs vs → Vals (kvs.map (·.2)) (es.map (·.val))
  | [], _, _, p, r => by
    cases p
    cases r
    exact .nil
  | e :: es, _, _, p, r => by
    cases p with
    | cons p1 p2 p3 =>
      cases r with
      | cons r1 r2 => exact .cons (by show RelV _ e.val; rw [p2]; exact r1.2) (vals_pairs p3 r2)
theorem append_ne {as bs : List Addr} (h1 : ∀ b ∈ as, (b == sysModules) = false) (h2 : ∀ b ∈ bs, (b == sysModules) = false) : ∀ b ∈ as ++ bs, (b == sysModules) = false := fun b hb => (List.mem_append.mp hb).elim (h1 b) (h2 b)
mutual
theorem Dq.reads (I : Inv X pins σ H s) : ∀ {v : V} {d : PyData} {u : Value}, Dq X.K H v d → RelV v u → ∃ as, Reads s.heap u d as ∧ (noList d = true → ∀ b ∈ as, (b == sysModules) = false)
  | _, _, _, .non, r => by
    cases r
    exact ⟨_, Reads.none, fun _ b hb => by cases hb⟩
  | _, _, _, .bl b, r => by
    cases r
    exact ⟨_, Reads.bool b, fun _ b hb => by cases hb⟩
  | _, _, _, .int i, r => by
    obtain ⟨t, rfl⟩ := r
    exact ⟨_, Reads.int i t, fun _ b hb => by cases hb⟩
  | _, _, _, .str x, r => by
    obtain ⟨t, rfl⟩ := r
    exact ⟨_, Reads.str x t, fun _ b hb => by cases hb⟩
  | _, _, _, .lst h q, r => by
    cases r
    obtain ⟨its, rv, ⟨o, n, ho, hc, _, hd⟩, _⟩ := I.list (.inl (.inl h))
    obtain ⟨as, hr, _⟩ := DqAll.reads I q rv
    exact ⟨_, Reads.list ho hc hd hr, fun z => by simp [noList] at z⟩
  | _, _, _, .tup h q, r => by
    cases r
    obtain ⟨its, rv, ⟨o, ho, hc, n, hd⟩, _⟩ := I.tuple h
    obtain ⟨as, hr, hn⟩ := DqAll.reads I q rv
    exact ⟨_, Reads.tuple ho hc hd hr, fun z => hn (by simpa [noList] using z)⟩
  | _, _, _, .dct (kvs := kvs) (ds := ds) h q, r => by
    cases r
    obtain ⟨_, hne, vs, rv, o, es, ep, ho, hx, hd, _, hp, _⟩ := I.hok _ _ h
    obtain ⟨as, hr, hn⟩ := DqAll.reads I q (vals_pairs hp rv)
    have hl : kvs.length = ds.length := by
      have e := q.length
      rw [List.length_map] at e
      exact e
    have hk := reads_keys (h := s.heap) hp rv
    refine ⟨_, Reads.dict ho hx.1 hd (kvs := zipK kvs ds) (as := []) (bs := as) ?_ ?_, fun z b hb => ?_⟩
    · rw [zipK_fst hl]; exact hk
    · rw [zipK_snd hl]; exact hr
    · simp only [noList, noListKv_snd, zipK_snd hl] at z
      rcases List.mem_cons.mp hb with e | hb
      · rw [e]; exact hne
      · exact hn z b (by simpa using hb)
theorem DqAll.reads (I : Inv X pins σ H s) : ∀ {vs : List V} {ds : List PyData} {us : List Value}, DqAll X.K H vs ds → Vals vs us → ∃ as, ReadsAll s.heap us ds as ∧ (noListAll ds = true → ∀ b ∈ as, (b == sysModules) = false)
  | _, _, _, .nil, r => by
    cases r
    exact ⟨_, ReadsAll.nil, fun _ b hb => by cases hb⟩
  | _, _, _, .cons h q, r => by
    cases r with
    | cons r1 r2 =>
      obtain ⟨as, q1, n1⟩ := Dq.reads I h r1
      obtain ⟨bs, q2, n2⟩ := DqAll.reads I q r2
      refine ⟨_, ReadsAll.cons q1 q2, fun z => ?_⟩
      simp only [noListAll, Bool.and_eq_true] at z
      exact append_ne (n1 z.1) (n2 z.2)
end
end
section
variable {X : Cx}
/-- repr of plain data, where no repr is under way -/
def rRepr (K : PySem.W.Frag) : List V → Hp → VK → Prop := fun xs H Q => ∃ (x : V) (d : PyData), xs = [x] ∧ Dq K H x d ∧ d.showable = true ∧ (d.hasDict = false ∨ noList d = true) ∧ d.shown.length ≤ sizeLine ∧ d.depth ≤ 60 ∧ Q (.str d.shown) H
theorem call_repr (hg : X.A.guards = some []) (hu : X.A.units + 64 < cLine) : CallR X (.builtin "repr") (rRepr X.K) := by
  intro pins s σ H xs us Q I r h
  obtain ⟨x, d, rfl, hx, hs, hn, hz, hd, q⟩ := h
  obtain ⟨u, rfl, ru⟩ := vals1 r
  obtain ⟨as, hr, ha⟩ := Dq.reads I hx ru
  have hsm : d.hasDict = true → sysModules ∉ as := fun e => by
    rcases hn with z | z
    · rw [z] at e; cases e
    · intro m
      have := ha z _ m
      simp at this
  have fin : ∀ h' u tk, (∀ b o, s.heap.get? b = some o → h'.get? b = some o) → EP X pins σ Q (.str d.shown u) { s with heap := h', toks := tk } := fun h' u tk hk =>
    ⟨.str d.shown, H, I.kept hk, ⟨u, rfl⟩, q⟩
  cases hx with
  | non => cases ru; exact PySem.P.repr_of_none (fin s.heap _ _ fun _ _ e => e)
  | bl b => cases ru; exact PySem.P.repr_of_bool (by have := fin s.heap s.toks (s.toks + 1) fun _ _ e => e; simpa only [PyData.shown] using this)
  | int i => obtain ⟨t, rfl⟩ := ru; exact PySem.P.repr_of_int (by simpa [PyData.showable] using hs) (by have := fin s.heap s.toks (s.toks + 1) fun _ _ e => e; simpa only [PyData.shown] using this)
  | str y => obtain ⟨t, rfl⟩ := ru; exact PySem.P.repr_of_str (by have := fin s.heap s.toks (s.toks + 1) fun _ _ e => e; simpa only [PyData.shown] using this) (by simpa only [PyData.shown] using hz)
  | lst h1 h2 => cases ru; exact repr_of_reads' hr hs hsm hg (by omega) (fun _ _ e => e) fin hz
  | tup h1 h2 => cases ru; exact repr_of_reads' hr hs hsm hg (by omega) (fun _ _ e => e) fin hz
  | dct h1 h2 => cases ru; exact repr_of_reads' hr hs hsm hg (by omega) (fun _ _ e => e) fin hz
end
end MA

set_option maxRecDepth 100000
set_option maxHeartbeats 2000000
namespace MA
open PySem PySem.Spec PyProof.Rows L2

/-! ## the law's own call: no repr is under way around it -/
/-- the promise of a def whose caller has no repr under way -/
def FnG (P : Program) (w : World) (K : PySem.W.Frag) (mg : Str → Option Value) (base : Heap) (k : Nat) (f : Addr) (fd : FuncData) (ps : List Str) (sp : Sp) : Prop :=
  ∀ (A : Around) (outer : List Env) (s : Shared) (H : Hp) (us : List Value) (vs : List V) (Q : VK), A.guards = some [] → Room k A → Env0 P w K mg base A outer s H →
    BindsTo s fd ⟨us, []⟩ (ps.zip us) → Vals vs us → vs.length = ps.length → sp vs H Q E0 → codeAny (model P w) A (.call (.ref f) ⟨us, []⟩) (CR CX0 outer P w H s Q E0) s
section
variable {P : Program} {w : World} {K : PySem.W.Frag} {mg : Str → Option Value} {base : Heap}
theorem fnG {x qual : Str} {st : Stmt} {f : Addr} {fd : FuncData} {N ps : List Str} {k : Nat} {sp : Sp} (F : Fun K x qual st f fd) (S : FnScope N ps (defScope st))
    (hb : ∀ (cdv : Value) (A : Around) (outer : List Env) (s : Shared) (H : Hp) (vs : List V) (Q : VK), A.guards = some [] → Room k (A.deeper (envOfC qual (defScope st) s.heap.objs.size f cdv)) → sp vs H Q E0 →
      ∃ t, PSs (cxOf CX0 P w K mg base N qual (defScope st) f cdv A outer s H E0).nox (defBody st) t ∧ t { nx := fun _ H' => Q .non H', rt := Q } (start N vs) H) : FnG P w K mg base (k + 1) f fd ps sp := by
  obtain ⟨oc, od, kV, doc, pm, an, cdv, ct, osl, rfl, lk, hcd⟩ := F.ex
  intro A outer s H us vs Q hg hr e0 hbd rv hln hsp
  have kin : K.In s.heap := e0.mod.kin.keeps fun b o e => (e0.bs b o e).1
  refine codeAny_call_function hr.depth (kin _ _ lk) rfl S.co S.gen rfl (PySem.W.codeRec_of kin hcd) (hbd _ _ _ _ ?_)
  refine wpAny_newFunctionEnv_cells S.kind (fun y hy => ?_) fun env hv s1 x1 => ?_
  · rcases S.par y.1 (List.of_mem_zip hy).1 with z | z
    · exact .inl z
    · exact .inr ⟨z, PySem.W.cellsFrom_some _ _ _ (.inl z)⟩
  cases hv
  refine ⟨(e0.mod.nolimit.keeps fun b o e => (e0.bs b o e).1).keeps x1.toInCall.keep, codeAny_func ?_⟩
  obtain ⟨t, ht, hq⟩ := hb cdv A outer s H vs Q hg (hr.deeper _) hsp
  refine wpAny_mono (ht.nox.run [] s1 (start N vs) H _ (inv_start S hr.hd e0 hln rv x1) hq) (fun fl s2 h2 => ?_) fun e s2 h2 => h2
  cases fl with
  | ret u =>
    obtain ⟨v, σ2, H2, J, r2, q2⟩ := h2
    exact ⟨v, H2, J.os, J.bare, J.base, J.hok, r2, q2⟩
  | next =>
    obtain ⟨σ2, H2, J, q2⟩ := h2
    exact ⟨V.non, H2, J.os, J.bare, J.base, J.hok, rfl, q2⟩
  | brk =>
    obtain ⟨_, _, _, q2⟩ := h2
    exact q2.elim
  | cont =>
    obtain ⟨_, _, _, q2⟩ := h2
    exact q2.elim
/-- the abstract heap at the law's entry: the script alone, locked, where the module does not hold it -/
def scriptH (K : PySem.W.Frag) (a : Addr) (vs : List Value) (ns : List Int) : Hp := fun b =>
  if b = a ∧ K.lookup a = none then some (.frz { cls := .type "list", data := .seq vs.toArray } (.lst (ns.map V.int))) else none
theorem scriptH_some {a b : Addr} {vs : List Value} {ns : List Int} {u : HO} (h : scriptH K a vs ns b = some u) : b = a ∧ K.lookup a = none ∧ u = .frz { cls := .type "list", data := .seq vs.toArray } (.lst (ns.map V.int)) := by
  unfold scriptH at h
  split at h
  · rename_i z; cases h; exact ⟨z.1, z.2, rfl⟩
  · cases h
theorem law_callG {mb : Str → Option Value} {k : Nat} {fa a : Addr} {fd : FuncData} {x : Str} {sp : Sp} {s1 : Shared} {vs : List Value} {ns : List Int}
    (kin : K.In s1.heap) (g1 : s1.heap.Ns mainGlobals mg) (g2 : s1.heap.Ns builtinsNs mb) (g3 : ∀ x : Str, x ≠ "__name__" → mb x = bootBuiltins x) (nl : s1.heap.NoLimit) (gn : s1.gens = #[])
    (ha : s1.heap.get? a = some { cls := .type "list", data := .seq vs.toArray }) (hi : IntsAre vs ns) (hl : ns.length ≤ sizeLine) (hr : Room k callerA)
    (F : ∀ base : Heap, K.In base → base.Ns mainGlobals mg → FnG P w K mg base k fa fd [x] sp) (hb : ∀ (s : Shared) (u : Value), BindsTo s fd ⟨[u], []⟩ [(x, u)])
    (hsp : ∀ H : Hp, Only H → SqL K H a (ns.map V.int) → sp [.ref a] H (fun v _ => v = .bl true) E0) :
    codeAny (model P w) callerA (.call (.ref fa) ⟨[.ref a], []⟩) (fun r s' => r = .ok (.ret (.bool true)) ∧ OldK s1.heap s'.heap ∧ s'.os = s1.os ∧ AllBare s'.gens) s1 := by
  have rv := vals_ints hi
  have hle := hi.length
  generalize hH : scriptH K a vs ns = H
  have inH : ∀ {b u}, H b = some u → b = a ∧ K.lookup a = none ∧ u = .frz { cls := .type "list", data := .seq vs.toArray } (.lst (ns.map V.int)) := fun e => scriptH_some (by rw [hH]; exact e)
  have nk : ∀ b o, K.lookup b = some o → H b = none := fun b o e => by
    cases q : H b with
    | none => rfl
    | some u =>
      obtain ⟨z1, z2, _⟩ := inH q
      rw [z1, z2] at e; cases e
  have nd : ∀ {b o es ep}, s1.heap.get? b = some o → o.data = .dict es ep → H b = none := fun {b o es ep} e d => by
    cases q : H b with
    | none => rfl
    | some u =>
      obtain ⟨z1, _, _⟩ := inH q
      rw [z1, ha] at e
      cases e
      cases d
  have ns' : ∀ {b m}, s1.heap.Ns b m → (hidT s1.heap H).Ns b m := fun {b m} ⟨o, es, ep, e, d, z⟩ => ⟨o, es, ep, hidT_get e (nd e d), d, z⟩
  have kb : K.In (hidT s1.heap H) := fun b o e => hidT_get (kin b o e) (nk b o e)
  have ok : HOk P w H s1.heap := fun b u e => by
    obtain ⟨z1, _, z3⟩ := inH e
    subst z1 z3
    exact ⟨ha, by rw [List.length_map]; exact hl, vs, _, rv, ha⟩
  have only : Only H := fun b => by
    cases q : H b with
    | none => exact .inl rfl
    | some u => obtain ⟨_, _, z⟩ := inH q; exact .inr ⟨_, _, by rw [z]⟩
  have sq : SqL K H a (ns.map V.int) := by
    cases q : K.lookup a with
    | none => exact .inl (.inr ⟨{ cls := .type "list", data := .seq vs.toArray }, by rw [← hH]; exact if_pos ⟨rfl, q⟩⟩)
    | some o =>
      have e := kin a o q
      rw [ha] at e
      cases e
      exact .inr ⟨_, vs.toArray, _, q, rfl, rfl, rfl, by rw [List.size_toArray, hle]; exact hl, by simpa using rv⟩
  have md : Mod K mg (hidT s1.heap H) := ⟨kb, ns' g1, ⟨mb, ns' g2, g3⟩, let ⟨mc, h1, h2⟩ := nl; ⟨mc, ns' h1, h2⟩⟩
  have e0 : Env0 P w K mg (hidT s1.heap H) callerA [] s1 H := ⟨rfl, md, fun b o e => of_hidT e, Nat.le_of_eq (hidT_size _ _), trivial, fun b hb => (by cases hb), ok, .of_eq gn⟩
  refine codeAny_mono (F _ kb (ns' g1) callerA [] s1 H [.ref a] [.ref a] _ rfl hr e0 (hb s1 (.ref a)) (.cons rfl .nil) rfl (hsp H only sq)) fun r s2 h2 => ?_
  cases r with
  | error e => exact False.elim h2
  | ok fl =>
    cases fl with
    | next => exact False.elim h2
    | brk => exact False.elim h2
    | cont => exact False.elim h2
    | ret u =>
      obtain ⟨v, H2, os, bare, un, ok2, r2, q2⟩ := h2
      cases (show v = .bl true from q2)
      cases (show u = Value.bool true from r2)
      refine ⟨rfl, OldK.of_keep fun b o e => ?_, os, bare⟩
      cases q : H b with
      | none => exact un.keep b o e q (fun z => (by cases z)) (fun z => (by cases z))
      | some u =>
        obtain ⟨z1, z2, z3⟩ := inH q
        rw [z3] at q
        have w1 := (ok b _ q).1
        have w2 := (ok2 b _ (un.frzs b _ _ q)).1
        rw [e] at w1
        cases w1
        exact w2
end
/-- the end of a law's row, where the law itself may call repr -/
theorem walk_ofG {l : PySem.W.OpenLaw} {n k : Nat} {q : Program} {loose : List Str} {XP : (Str → Option Value) → Heap → Prop} {YP : World → Heap → Prop} {d : DefRec} {K : Params → PySem.W.Frag} {sp : World → Sp} {x : Str}
    (hn : l.most = some n) (hn2 : n ≤ sizeLine) (hdf : d.params.defaults = []) (hr : Room k callerA) (hY : ∀ (w : World) (h : Heap), YP w h → (K w.params).In h)
    (F : ∀ (w : World) (mg : Str → Option Value) (fa : Addr) (h : Heap), (K w.params).In h → h.Ns mainGlobals mg → mg d.name = some (.ref fa) →
      ∃ fd : FuncData, (∀ (s : Shared) (u : Value), BindsTo s fd ⟨[u], []⟩ [(x, u)]) ∧ ∀ base : Heap, (K w.params).In base → base.Ns mainGlobals mg → FnG l.prog w (K w.params) mg base k fa fd [x] (sp w))
    (hsp : ∀ (w : World) (H : Hp) (a : Addr) (ns : List Int), ns.length ≤ n → Only H → SqL (K w.params) H a (ns.map V.int) → sp w [.ref a] H (fun v _ => v = .bl true) E0) :
    PySem.W.WalkO q loose XP YP l.row.toRowW d [] (fun f vs => PySem.call f vs) := by
  refine Att.attach_call hn hdf fun w s0 s1 mg mb fa o pm cd doc a vs ns G Y ho hd hcd hmg hobj hints hlen hg => ?_
  obtain ⟨fd, hb, hF⟩ := F w mg fa _ (hY w _ Y) G.T.g hmg
  exact law_callG (hY w _ Y) G.T.g G.T.b G.T.builtins G.T.nolimit hg hobj hints (Nat.le_trans hlen hn2) hr hF hb fun H h1 h2 => hsp w H a ns hlen h1 h2
end MA

set_option maxRecDepth 100000
set_option maxHeartbeats 2000000
namespace MA
open PySem PySem.Spec PyProof.Rows L2

/-! ## what an expression is worth, in plain data -/
section
variable (K : PySem.W.Frag)
def Ev (te : TE) (σ : L2.St) (B H : Hp) (d : PyData) : Prop := ∀ B1 H1, Le [] B H B1 H1 → ∀ Q : VK, (∀ v B2 H2, Le [] B1 H1 B2 H2 → Dq K B2 v d → Q v H2) → te σ H1 Q
def EvT (t : TT) (σ : L2.St) (B H : Hp) (b : Bool) : Prop := ∀ B1 H1, Le [] B H B1 H1 → ∀ Q : Bool → Hp → Prop, (∀ B2 H2, Le [] B1 H1 B2 H2 → Q b H2) → t σ H1 Q
def EvA (ta : TA) (σ : L2.St) (B H : Hp) (ds : List PyData) : Prop := ∀ B1 H1, Le [] B H B1 H1 → ∀ Q : List V → Hp → Prop, (∀ vs B2 H2, Le [] B1 H1 B2 H2 → DqAll K B2 vs ds → Q vs H2) → ta σ H1 Q
def EvO (t : TO) (σ : L2.St) (B H : Hp) (o : Option Int) : Prop := ∀ B1 H1, Le [] B H B1 H1 → ∀ Q : Option Int → Hp → Prop, (∀ B2 H2, Le [] B1 H1 B2 H2 → Q o H2) → t σ H1 Q
/-- rules by values: an operator, a call -/
def RV (r : R2) (x y z : PyData) : Prop := ∀ B H v u, Ex B H → Dq K B v x → Dq K B u y → ∀ Q : VK, (∀ w B' H', Le [] B H B' H' → Dq K B' w z → Q w H') → r v u H Q
def RU (r : V → Hp → VK → Prop) (x z : PyData) : Prop := ∀ B H v, Ex B H → Dq K B v x → ∀ Q : VK, (∀ w B' H', Le [] B H B' H' → Dq K B' w z → Q w H') → r v H Q
def RC (r : List V → Hp → VK → Prop) (xs : List PyData) (z : PyData) : Prop := ∀ B H vs, Ex B H → DqAll K B vs xs → ∀ Q : VK, (∀ w B' H', Le [] B H B' H' → Dq K B' w z → Q w H') → r vs H Q
def RM (r : V → List V → Hp → VK → Prop) (x : PyData) (xs : List PyData) (z : PyData) : Prop := ∀ B H v vs, Ex B H → Dq K B v x → DqAll K B vs xs → ∀ Q : VK, (∀ w B' H', Le [] B H B' H' → Dq K B' w z → Q w H') → r v vs H Q
def RS (r : V → Option Int → Option Int → Hp → VK → Prop) (x : PyData) (lo hi : Option Int) (z : PyData) : Prop := ∀ B H v, Ex B H → Dq K B v x → ∀ Q : VK, (∀ w B' H', Le [] B H B' H' → Dq K B' w z → Q w H') → r v lo hi H Q
end
section
variable {K : PySem.W.Frag} {σ : L2.St} {B H : Hp} {ta tb te tc : TE} {t u : TT} {a b c d x y z : PyData} {r : R2} {v : V}
theorem Ev.up {B' H' : Hp} (l : Le [] B H B' H') (h : Ev K te σ B H d) : Ev K te σ B' H' d := fun B1 H1 l1 Q q => h B1 H1 (l.trans l1) Q q
theorem EvT.up {B' H' : Hp} {k : Bool} (l : Le [] B H B' H') (h : EvT t σ B H k) : EvT t σ B' H' k := fun B1 H1 l1 Q q => h B1 H1 (l.trans l1) Q q
theorem EvA.up {ta : TA} {ds : List PyData} {B' H' : Hp} (l : Le [] B H B' H') (h : EvA K ta σ B H ds) : EvA K ta σ B' H' ds := fun B1 H1 l1 Q q => h B1 H1 (l.trans l1) Q q
theorem ev_var {i : Nat} (h : σ[i]? = some (some v)) (hd : Dq K B v d) : Ev K (tVar i) σ B H d := fun B1 H1 l Q q => ⟨v, h, q v B1 H1 (Le.refl l.h) (hd.mono l.b)⟩
theorem ev_c (hd : Dq K B v d) : Ev K (tC v) σ B H d := fun B1 H1 l Q q => q v B1 H1 (Le.refl l.h) (hd.mono l.b)
theorem ev_i {i : Int} : Ev K (tC (.int i)) σ B H (.int i) := ev_c (.int i)
theorem ev_s {s : Str} : Ev K (tC (.str s)) σ B H (.str s) := ev_c (.str s)
theorem ev_b {k : Bool} : Ev K (tC (.bl k)) σ B H (.bool k) := ev_c (.bl k)
theorem ev_n : Ev K (tC .non) σ B H .none := ev_c .non
theorem ev_op (ha : Ev K ta σ B H x) (hb : Ev K tb σ B H y) (hr : RV K r x y z) : Ev K (tOp r ta tb) σ B H z := fun B1 H1 l Q q =>
  ha B1 H1 l _ fun v B2 H2 l2 hv => hb B2 H2 (l.trans l2) _ fun w B3 H3 l3 hw => hr B3 H3 v w l3.h (hv.mono l3.b) hw Q fun o B4 H4 l4 ho => q o B4 H4 ((l2.trans l3).trans l4) ho
theorem ev_un {r : V → Hp → VK → Prop} (ha : Ev K ta σ B H x) (hr : RU K r x z) : Ev K (tUn r ta) σ B H z := fun B1 H1 l Q q =>
  ha B1 H1 l _ fun v B2 H2 l2 hv => hr B2 H2 v l2.h hv Q fun o B4 H4 l4 ho => q o B4 H4 (l2.trans l4) ho
theorem ea_nil : EvA K tNil σ B H [] := fun B1 H1 l Q q => q [] B1 H1 (Le.refl l.h) .nil
theorem ea_cons {tr : TA} {ds : List PyData} (ha : Ev K ta σ B H d) (hr : EvA K tr σ B H ds) : EvA K (tCons ta tr) σ B H (d :: ds) := fun B1 H1 l Q q =>
  ha B1 H1 l _ fun v B2 H2 l2 hv => hr B2 H2 (l.trans l2) _ fun vs B3 H3 l3 hs => q (v :: vs) B3 H3 (l2.trans l3) (.cons (hv.mono l3.b) hs)
theorem ev_tup {ts : TA} {ds : List PyData} (h : EvA K ts σ B H ds) (hz : ds.length ≤ sizeLine) : Ev K (tTup ts) σ B H (.tuple ds) := fun B1 H1 l Q q =>
  h B1 H1 l _ fun vs B2 H2 l2 hs => ⟨by rw [hs.length]; exact hz, fun p hp => q (.ref p) _ _ (l2.trans (Le.new l2.h hp)) (.tup (.inl (.inl upd_same)) (hs.mono (Le.new (M := []) l2.h hp).b))⟩
theorem ev_lst {ts : TA} {ds : List PyData} (h : EvA K ts σ B H ds) (hz : ds.length ≤ sizeLine) : Ev K (tLst ts) σ B H (.list ds) := fun B1 H1 l Q q =>
  h B1 H1 l _ fun vs B2 H2 l2 hs => ⟨by rw [hs.length]; exact hz, fun p hp => q (.ref p) _ _ (l2.trans (Le.new l2.h hp)) (.lst upd_same (hs.mono (Le.new (M := []) l2.h hp).b))⟩
theorem ev_cb {rr : List V → Hp → VK → Prop} {ts : TA} {ds : List PyData} (h : EvA K ts σ B H ds) (hr : RC K rr ds z) : Ev K (tCB rr ts) σ B H z := fun B1 H1 l Q q =>
  h B1 H1 l _ fun vs B2 H2 l2 hs => hr B2 H2 vs l2.h hs Q fun o B4 H4 l4 ho => q o B4 H4 (l2.trans l4) ho
theorem ev_sl {rr : V → Option Int → Option Int → Hp → VK → Prop} {tl th : TO} {lo hi : Option Int} (h : Ev K te σ B H x) (h1 : EvO tl σ B H lo) (h2 : EvO th σ B H hi) (hr : RS K rr x lo hi z) : Ev K (tSl rr te tl th) σ B H z := fun B1 H1 l Q q =>
  h B1 H1 l _ fun v B2 H2 l2 hv => h1 B2 H2 (l.trans l2) _ fun B3 H3 l3 => h2 B3 H3 ((l.trans l2).trans l3) _ fun B4 H4 l4 => hr B4 H4 v l4.h ((hv.mono l3.b).mono l4.b) Q fun o B5 H5 l5 ho => q o B5 H5 (((l2.trans l3).trans l4).trans l5) ho
theorem eo_none : EvO tNoPart σ B H none := fun B1 H1 l Q q => q B1 H1 (Le.refl l.h)
theorem eo_some {i : Int} (h : Ev K te σ B H (.int i)) : EvO (tPart te) σ B H (some i) := fun B1 H1 l Q q =>
  h B1 H1 l _ fun v B2 H2 l2 hv => by cases hv; exact ⟨i, rfl, q B2 H2 l2⟩
theorem ev_if {k : Bool} (h : EvT t σ B H k) (h1 : k = true → Ev K ta σ B H d) (h2 : k = false → Ev K tb σ B H d) : Ev K (tIf t ta tb) σ B H d := fun B1 H1 l Q q =>
  h B1 H1 l _ fun B2 H2 l2 => by
    cases k with
    | true => exact h1 rfl B2 H2 (l.trans l2) _ fun v B3 H3 l3 hv => q v B3 H3 (l2.trans l3) hv
    | false => exact h2 rfl B2 H2 (l.trans l2) _ fun v B3 H3 l3 hv => q v B3 H3 (l2.trans l3) hv
/-! tests -/
theorem et_B {k : Bool} (h : Ev K ta σ B H (.bool k)) : EvT (tB ta) σ B H k := fun B1 H1 l Q q => h B1 H1 l _ fun v B2 H2 l2 hv => by cases hv; exact ⟨k, rfl, q B2 H2 l2⟩
theorem et_test {k : Bool} (h : Ev K ta σ B H (.bool k)) : EvT (tTest ta) σ B H k := fun B1 H1 l Q q => h B1 H1 l _ fun v B2 H2 l2 hv => by cases hv; exact ⟨k, rfl, q B2 H2 l2⟩
theorem et_not {k : Bool} (h : EvT t σ B H k) : EvT (tNot t) σ B H (!k) := fun B1 H1 l Q q => h B1 H1 l _ fun B2 H2 l2 => q B2 H2 l2
theorem et_and {k j : Bool} (h1 : EvT t σ B H k) (h2 : k = true → EvT u σ B H j) : EvT (tAnd t u) σ B H (k && j) := fun B1 H1 l Q q => h1 B1 H1 l _ fun B2 H2 l2 => by
  cases k with
  | true => exact h2 rfl B2 H2 (l.trans l2) _ fun B3 H3 l3 => q B3 H3 (l2.trans l3)
  | false => exact q B2 H2 l2
theorem et_or {k j : Bool} (h1 : EvT t σ B H k) (h2 : k = false → EvT u σ B H j) : EvT (tOr t u) σ B H (k || j) := fun B1 H1 l Q q => h1 B1 H1 l _ fun B2 H2 l2 => by
  cases k with
  | true => exact q B2 H2 l2
  | false => exact h2 rfl B2 H2 (l.trans l2) _ fun B3 H3 l3 => q B3 H3 (l2.trans l3)
theorem ev_notV {k : Bool} (h : Ev K ta σ B H (.bool k)) : Ev K (tNotV ta) σ B H (.bool (!k)) := fun B1 H1 l Q q => h B1 H1 l _ fun v B2 H2 l2 hv => by cases hv; exact ⟨k, rfl, q _ B2 H2 l2 (.bl _)⟩
theorem ev_andV {k j : Bool} (h1 : Ev K ta σ B H (.bool k)) (h2 : k = true → Ev K tb σ B H (.bool j)) : Ev K (tAndV ta tb) σ B H (.bool (k && j)) := fun B1 H1 l Q q => h1 B1 H1 l _ fun v B2 H2 l2 hv => by
  cases hv
  refine ⟨k, rfl, ?_⟩
  cases k with
  | true => exact h2 rfl B2 H2 (l.trans l2) _ fun v B3 H3 l3 hv => q v B3 H3 (l2.trans l3) hv
  | false => exact q _ B2 H2 l2 (.bl _)
theorem ev_orV {k j : Bool} (h1 : Ev K ta σ B H (.bool k)) (h2 : k = false → Ev K tb σ B H (.bool j)) : Ev K (tOrV ta tb) σ B H (.bool (k || j)) := fun B1 H1 l Q q => h1 B1 H1 l _ fun v B2 H2 l2 hv => by
  cases hv
  refine ⟨k, rfl, ?_⟩
  cases k with
  | true => exact q _ B2 H2 l2 (.bl _)
  | false => exact h2 rfl B2 H2 (l.trans l2) _ fun v B3 H3 l3 hv => q v B3 H3 (l2.trans l3) hv
theorem ev_chain {r r' : R2} {k j : Bool} (ha : Ev K ta σ B H a) (hb : Ev K tb σ B H b) (hc : k = true → Ev K tc σ B H c) (h1 : RV K r a b (.bool k)) (h2 : k = true → RV K r' b c (.bool j)) : Ev K (tChain r r' ta tb tc) σ B H (.bool (k && j)) := fun B1 H1 l Q q =>
  ha B1 H1 l _ fun v B2 H2 l2 hv => hb B2 H2 (l.trans l2) _ fun w B3 H3 l3 hw => h1 B3 H3 v w l3.h (hv.mono l3.b) hw _ fun o B4 H4 l4 ho => by
    cases ho
    refine ⟨k, rfl, ?_⟩
    have l24 := (l2.trans l3).trans l4
    cases k with
    | true => exact hc rfl B4 H4 (l.trans l24) _ fun y B5 H5 l5 hy => h2 rfl B5 H5 w y l5.h ((hw.mono l4.b).mono l5.b) hy Q fun o B6 H6 l6 ho => q o B6 H6 ((l24.trans l5).trans l6) ho
    | false => exact q _ B4 H4 l24 (.bl _)
theorem et_chain {r r' : R2} {k j : Bool} (ha : Ev K ta σ B H a) (hb : Ev K tb σ B H b) (hc : k = true → Ev K tc σ B H c) (h1 : RV K r a b (.bool k)) (h2 : k = true → RV K r' b c (.bool j)) : EvT (tTest (tChain r r' ta tb tc)) σ B H (k && j) := et_test (ev_chain ha hb hc h1 h2)
/-! ### a def's promise -/
/-- pure: arguments of which Pre holds, an answer of which Post holds; CX0 or an exception: never raised -/
def Pu (K : PySem.W.Frag) (Pre : List PyData → Prop) (Post : List PyData → PyData → Prop) : Sp := fun vs H Q _ => ∃ B ds, Ex B H ∧ DqAll K B vs ds ∧ Pre ds ∧ ∀ d, Post ds d → ∀ v B' H', Le [] B H B' H' → Dq K B' v d → Q v H'
/-- a def of one value -/
abbrev Pf (K : PySem.W.Frag) (Pre : List PyData → Prop) (f : List PyData → PyData) : Sp := Pu K Pre fun ds d => d = f ds
theorem ev_call {Pre : List PyData → Prop} {f : List PyData → PyData} {E : XK} {ts : TA} {ds : List PyData} (h : EvA K ts σ B H ds) (hp : Pre ds) : Ev K (tCall (Pf K Pre f) [] E ts) σ B H (f ds) := fun B1 H1 l Q q =>
  h B1 H1 l _ fun vs B2 H2 l2 hs => ⟨B2, ds, l2.h, by rw [List.append_nil]; exact hs, hp, fun d hd v B3 H3 l3 hv => by subst hd; exact q v B3 H3 (l2.trans l3) hv⟩
/-- from slots and heap to the promise's end -/
theorem pu_len {Pre : List PyData → Prop} {Post : List PyData → PyData → Prop} {n : Nat} (hn : ∀ ds, Pre ds → ds.length = n) (vs : List V) (H : Hp) (Q : VK) (E : XK) (h : Pu K Pre Post vs H Q E) : vs.length = n := by
  obtain ⟨B, ds, _, h1, h2, _⟩ := h
  rw [h1.length]
  exact hn ds h2
/-! ### statements -/
variable {D : Ends} {tu tw tz : TS}
theorem s_ret (h : Ev K te σ B H d) (e : Ex B H) (q : ∀ v B' H', Le [] B H B' H' → Dq K B' v d → D.rt v H') : tRet te D σ H := h B H (Le.refl e) _ q
theorem s_set {i : Nat} (h : Ev K te σ B H d) (e : Ex B H) (q : ∀ v B' H', Le [] B H B' H' → Dq K B' v d → D.nx (σ.set i (some v)) H') : tAsg te (gName i) D σ H := h B H (Le.refl e) _ q
theorem s_if {k : Bool} (h : EvT t σ B H k) (e : Ex B H) (h1 : k = true → ∀ B' H', Le [] B H B' H' → tu D σ H') (h2 : k = false → ∀ B' H', Le [] B H B' H' → tw D σ H') : tIfS t tu tw D σ H := h B H (Le.refl e) _ fun B' H' l => by
  cases k with
  | true => exact h1 rfl B' H' l
  | false => exact h2 rfl B' H' l
theorem s_drop (h : Ev K te σ B H d) (e : Ex B H) (q : ∀ B' H', Le [] B H B' H' → D.nx σ H') : tDrop te D σ H := h B H (Le.refl e) _ fun _ B' H' l _ => q B' H' l
/-- a name that is read while a list of ours is open: what is told of it is plain -/
theorem Ev.own {p : Addr} {o : HO} (h : Ev K te σ (upd B p o) H d) (hp : H p = some o) (hb : B p = none) (sc : ∀ {H1 H2 : Hp} {v : V}, Dq K H1 v d → Dq K H2 v d) : Ev K te σ B H d := fun B1 H1 l Q q => by
  have hb1 : B1 p = none := l.own hp hb
  have hp1 : H1 p = some o := l.k p o (by simp) hp
  refine h (upd B1 p o) H1 ⟨fun a u e => ?_, ex_give l.h hp1, l.k, l.t, fun a e1 e2 => ?_⟩ Q fun v B2 H2 l2 hv => q v B1 H2 ⟨Ex.refl B1, l.h.trans l2.ex, l2.k, l2.t, fun a e1 e2 => absurd e1 e2⟩ (sc hv)
  · unfold upd at e ⊢
    split at e
    · rename_i z; rw [if_pos z]; exact e
    · rename_i z; rw [if_neg z]; exact l.b a u e
  · by_cases z : a = p
    · rw [z, upd_same] at e1; cases e1
    · rw [upd_ne z] at e1 e2; exact l.n a e1 e2
end
end MA

set_option maxRecDepth 100000
set_option maxHeartbeats 2000000
namespace MA
open PySem PySem.Spec PyProof.Rows L2

/-! ## operators whatever the operands are -/
section
variable {X : Cx}
def rAddA (K : PySem.W.Frag) : R2 := fun x y H Q => (rI0 (fun i j => .int (i + j))) x y H Q ∨ ((∃ i j, x = .str i ∧ y = .str j ∧ i.length + j.length ≤ sizeLine ∧ Q (.str (i ++ j)) H) ∨ (rCatA K x y H Q ∨ rCat x y H Q))
theorem op_addA : OpR X (binaryOp .Add) (rAddA X.K) := op_add.or (op_add_str.or (op_catA.or op_cat))
def rMulA (K : PySem.W.Frag) : R2 := fun x y H Q => (rI CMul fun i j => .int (i * j)) x y H Q ∨ (rRepT K x y H Q ∨ rRep x y H Q)
theorem op_mulA : OpR X (binaryOp .Mult) (rMulA X.K) := op_mul.or (op_repT.or op_rep)
/-- == where one side is the empty list or the empty tuple -/
def rEq0 (K : PySem.W.Frag) (neg : Bool) : R2 := fun x y H Q => ∃ a b xs, x = .ref a ∧ y = .ref b ∧ ((SqL K H a xs ∧ SqL K H b []) ∨ (SqT K H a xs ∧ SqT K H b [])) ∧ Q (.bl (xor neg xs.isEmpty)) H
theorem op_eq0 (hu : X.A.units < cLine) : OpR X (compareOp .Eq) (rEq0 X.K false) := by
  intro pins s σ H x y v u Q I rx ry h
  obtain ⟨a, b, xs, rfl, rfl, hk, q⟩ := h
  cases rx
  cases ry
  rw [Bool.false_xor] at q
  rcases hk with ⟨h1, h2⟩ | ⟨h1, h2⟩
  · obtain ⟨its, rv, p1, _⟩ := I.list h1
    obtain ⟨jts, rw', p2, _⟩ := I.list h2
    have e2 := rw'.length
    have e1 := rv.length
    cases jts with
    | cons _ _ => simp at e2
    | nil =>
      cases xs with
      | nil =>
        cases its with
        | cons _ _ => simp at e1
        | nil => exact SeqAt.eq_listAt (e := fun _ => true) p1.isList p2.isList rfl hu (fun j h1 _ => by simp at h1) ⟨.bl _, H, I, rfl, by simpa using q⟩
      | cons x0 xr =>
        cases its with
        | nil => simp at e1
        | cons i0 ir => exact SeqAt.eq_list_lengthsAt p1.isList p2.isList (by simp) hu ⟨.bl _, H, I, rfl, by simpa using q⟩
  · obtain ⟨its, rv, p1, _⟩ := I.tuple h1
    obtain ⟨jts, rw', p2, _⟩ := I.tuple h2
    have e2 := rw'.length
    have e1 := rv.length
    cases jts with
    | cons _ _ => simp at e2
    | nil =>
      refine SeqAt.eq_tupleAt (e := fun _ => true) p1 p2 hu (fun j _ h2 => by simp at h2) ⟨.bl _, H, I, rfl, ?_⟩
      cases xs with
      | nil =>
        cases its with
        | cons _ _ => simp at e1
        | nil => simpa using q
      | cons x0 xr =>
        cases its with
        | nil => simp at e1
        | cons i0 ir => simpa using q
theorem op_ne0 (hu : X.A.units < cLine) : OpR X (compareOp .NotEq) (rEq0 X.K true) := by
  intro pins s σ H x y v u Q I rx ry h
  obtain ⟨a, b, xs, rfl, rfl, hk, q⟩ := h
  cases rx
  cases ry
  rw [Bool.true_xor] at q
  rcases hk with ⟨h1, h2⟩ | ⟨h1, h2⟩
  · obtain ⟨its, rv, p1, _⟩ := I.list h1
    obtain ⟨jts, rw', p2, _⟩ := I.list h2
    have e2 := rw'.length
    have e1 := rv.length
    cases jts with
    | cons _ _ => simp at e2
    | nil =>
      cases xs with
      | nil =>
        cases its with
        | cons _ _ => simp at e1
        | nil => exact SeqAt.RcNeAt.lists (e := fun _ => true) p1.isList p2.isList rfl hu (fun j h1 _ => by simp at h1) _ _ _ _ ⟨.bl _, H, I, rfl, by simpa using q⟩
      | cons x0 xr =>
        cases its with
        | nil => simp at e1
        | cons i0 ir => exact SeqAt.RcNeAt.lists_lengths p1.isList p2.isList (by simp) hu _ _ _ _ ⟨.bl _, H, I, rfl, by simpa using q⟩
  · obtain ⟨its, rv, p1, _⟩ := I.tuple h1
    obtain ⟨jts, rw', p2, _⟩ := I.tuple h2
    have e2 := rw'.length
    have e1 := rv.length
    cases jts with
    | cons _ _ => simp at e2
    | nil =>
      refine SeqAt.RcNeAt.tuples (e := fun _ => true) p1 p2 hu (fun j _ h2 => by simp at h2) _ _ _ _ ⟨.bl _, H, I, rfl, ?_⟩
      cases xs with
      | nil =>
        cases its with
        | cons _ _ => simp at e1
        | nil => simpa using q
      | cons x0 xr =>
        cases its with
        | nil => simp at e1
        | cons i0 ir => simpa using q
def rEqA (K : PySem.W.Frag) : R2 := fun x y H Q => rEq x y H Q ∨ rEq0 K false x y H Q
theorem op_eqA (hu : X.A.units < cLine) : OpR X (compareOp .Eq) (rEqA X.K) := op_eq.or (op_eq0 hu)
def rNeA (K : PySem.W.Frag) : R2 := fun x y H Q => rNe x y H Q ∨ rEq0 K true x y H Q
theorem op_neA (hu : X.A.units < cLine) : OpR X (compareOp .NotEq) (rNeA X.K) := op_ne.or (op_ne0 hu)
def rSlAny (K : PySem.W.Frag) : V → Option Int → Option Int → Hp → VK → Prop := fun x lo hi H Q => rSlA K x lo hi H Q ∨ (rSlL K x lo hi H Q ∨ rSlS x lo hi H Q)
theorem sl_any : SlR X (rSlAny X.K) := sl_tupA.or (sl_list.or sl_str)
end
end MA

set_option maxRecDepth 100000
set_option maxHeartbeats 2000000
namespace MA
open PySem PySem.Spec PyProof.Rows L2

/-! ## the rules by values, in plain data -/
def cutG {α : Type} (xs : List α) (lo hi : Option Int) : List α := (xs.drop (HT.sIx xs.length 0 lo)).take (HT.sIx xs.length xs.length hi - HT.sIx xs.length 0 lo)
section
variable {K : PySem.W.Frag} {B H : Hp}
theorem DqAll.cut {vs : List V} {ds : List PyData} (q : DqAll K H vs ds) (lo hi : Option Int) : DqAll K H (cutV vs lo hi) (cutG ds lo hi) := by
  unfold cutV cutG
  rw [q.length]
  exact (q.drop _).take _
theorem rv_addI {i j : Int} : RV K (rAddA K) (.int i) (.int j) (.int (i + j)) := fun B H v u e hv hu Q q => by
  cases hv; cases hu
  exact .inl ⟨i, j, rfl, rfl, q _ B H (Le.refl e) (.int _)⟩
theorem rv_addS {i j : Str} (hz : i.length + j.length ≤ sizeLine) : RV K (rAddA K) (.str i) (.str j) (.str (i ++ j)) := fun B H v u e hv hu Q q => by
  cases hv; cases hu
  exact .inr (.inl ⟨i, j, rfl, rfl, hz, q _ B H (Le.refl e) (.str _)⟩)
theorem rv_addT {as bs : List PyData} (hz : as.length + bs.length ≤ sizeLine) : RV K (rAddA K) (.tuple as) (.tuple bs) (.tuple (as ++ bs)) := fun B H v u e hv hu Q q => by
  cases hv with
  | tup h1 q1 =>
    cases hu with
    | tup h2 q2 =>
      rename_i a xs b ys
      refine .inr (.inr (.inl ⟨a, b, xs, ys, rfl, rfl, Evl.ex_t e h1, Evl.ex_t e h2, by rw [q1.length, q2.length]; exact hz, fun z => ?_, fun z1 z2 => ?_, fun z1 z2 p hp => ?_⟩))
      · subst z
        cases q1
        exact q _ B H (Le.refl e) (.tup h2 q2)
      · subst z2
        cases q2
        rw [List.append_nil] at q
        exact q _ B H (Le.refl e) (.tup h1 q1)
      · exact q _ _ _ (Le.new e hp) (.tup (.inl (.inl upd_same)) ((q1.append q2).mono (Le.new (M := []) e hp).b))
theorem rv_addL {as bs : List PyData} (hz : as.length + bs.length ≤ sizeLine) : RV K (rAddA K) (.list as) (.list bs) (.list (as ++ bs)) := fun B H v u e hv hu Q q => by
  cases hv with
  | lst h1 q1 =>
    cases hu with
    | lst h2 q2 =>
      refine .inr (.inr (.inr ⟨_, _, _, _, rfl, rfl, e _ _ h1, e _ _ h2, by rw [q1.length, q2.length]; exact hz, fun p hp => ?_⟩))
      exact q _ _ _ (Le.new e hp) (.lst upd_same ((q1.append q2).mono (Le.new (M := []) e hp).b))
theorem rv_int {C : Int → Int → Prop} {g : Int → Int → Int} {i j : Int} (c : C i j) : RV K (rI C fun i j => .int (g i j)) (.int i) (.int j) (.int (g i j)) := fun B H v u e hv hu Q q => by
  cases hv; cases hu
  exact ⟨i, j, rfl, rfl, c, q _ B H (Le.refl e) (.int _)⟩
theorem rv_int0 {g : Int → Int → Int} {i j : Int} : RV K (rI0 fun i j => .int (g i j)) (.int i) (.int j) (.int (g i j)) := fun B H v u e hv hu Q q => by
  cases hv; cases hu
  exact ⟨i, j, rfl, rfl, q _ B H (Le.refl e) (.int _)⟩
theorem rv_cmp {g : Int → Int → Bool} {i j : Int} : RV K (rI0 fun i j => .bl (g i j)) (.int i) (.int j) (.bool (g i j)) := fun B H v u e hv hu Q q => by
  cases hv; cases hu
  exact ⟨i, j, rfl, rfl, q _ B H (Le.refl e) (.bl _)⟩
theorem rv_mulI {i j : Int} (c : CMul i j) : RV K (rMulA K) (.int i) (.int j) (.int (i * j)) := fun B H v u e hv hu Q q => by
  cases hv; cases hu
  exact .inl ⟨i, j, rfl, rfl, c, q _ B H (Le.refl e) (.int _)⟩
theorem rv_mulT {ds : List PyData} {k : Int} (h0 : ds ≠ []) (h2 : 2 ≤ k) (h3 : k ≤ 1000) (h4 : ds.length ≤ 1000) : RV K (rMulA K) (.tuple ds) (.int k) (.tuple (List.replicate k.toNat ds).flatten) := fun B H v u e hv hu Q q => by
  cases hu
  cases hv with
  | tup h1 q1 =>
    refine .inr (.inl ⟨_, k, _, rfl, rfl, Evl.ex_t e h1, fun z => ?_, h2, h3, by rw [q1.length]; exact h4, fun p hp => ?_⟩)
    · subst z; cases q1; exact h0 rfl
    · exact q _ _ _ (Le.new e hp) (.tup (.inl (.inl upd_same)) ((q1.flatRep _).mono (Le.new (M := []) e hp).b))
/-! comparisons -/
theorem rv_eqI {i j : Int} : RV K (rEqA K) (.int i) (.int j) (.bool (decide (i = j))) := fun B H v u e hv hu Q q => by
  cases hv; cases hu
  refine .inl ⟨rfl, ?_⟩
  have h : decide (V.int i = V.int j) = decide (i = j) := by rw [dec_int]; by_cases z : i = j <;> simp [z]
  rw [h]
  exact q _ B H (Le.refl e) (.bl _)
theorem rv_neI {i j : Int} : RV K (rNeA K) (.int i) (.int j) (.bool (!decide (i = j))) := fun B H v u e hv hu Q q => by
  cases hv; cases hu
  refine .inl ⟨rfl, ?_⟩
  have h : decide (V.int i = V.int j) = decide (i = j) := by rw [dec_int]; by_cases z : i = j <;> simp [z]
  rw [h]
  exact q _ B H (Le.refl e) (.bl _)
theorem dec_strV {i j : Str} : decide (V.str i = V.str j) = decide (i = j) := by
  by_cases z : i = j
  · rw [z]; simp
  · rw [decide_eq_false z, decide_eq_false (fun e => z (V.str.inj e))]
theorem rv_eqS {i j : Str} : RV K (rEqA K) (.str i) (.str j) (.bool (decide (i = j))) := fun B H v u e hv hu Q q => by
  cases hv; cases hu
  refine .inl ⟨rfl, ?_⟩
  rw [dec_strV]
  exact q _ B H (Le.refl e) (.bl _)
theorem rv_neS {i j : Str} : RV K (rNeA K) (.str i) (.str j) (.bool (!decide (i = j))) := fun B H v u e hv hu Q q => by
  cases hv; cases hu
  refine .inl ⟨rfl, ?_⟩
  rw [dec_strV]
  exact q _ B H (Le.refl e) (.bl _)
theorem empty_iff {vs : List V} {ds : List PyData} (q : DqAll K H vs ds) : vs.isEmpty = ds.isEmpty := by
  cases q <;> rfl
theorem rv_eqL0 {ds : List PyData} : RV K (rEqA K) (.list ds) (.list []) (.bool ds.isEmpty) := fun B H v u e hv hu Q q => by
  cases hv with
  | lst h1 q1 =>
    cases hu with
    | lst h2 q2 =>
      cases q2
      refine .inr ⟨_, _, _, rfl, rfl, .inl ⟨.inl (.inl (e _ _ h1)), .inl (.inl (e _ _ h2))⟩, ?_⟩
      rw [Bool.false_xor, empty_iff q1]
      exact q _ B H (Le.refl e) (.bl _)
theorem rv_neL0 {ds : List PyData} : RV K (rNeA K) (.list ds) (.list []) (.bool (!ds.isEmpty)) := fun B H v u e hv hu Q q => by
  cases hv with
  | lst h1 q1 =>
    cases hu with
    | lst h2 q2 =>
      cases q2
      refine .inr ⟨_, _, _, rfl, rfl, .inl ⟨.inl (.inl (e _ _ h1)), .inl (.inl (e _ _ h2))⟩, ?_⟩
      rw [Bool.true_xor, empty_iff q1]
      exact q _ B H (Le.refl e) (.bl _)
theorem rv_eqT0 {ds : List PyData} : RV K (rEqA K) (.tuple ds) (.tuple []) (.bool ds.isEmpty) := fun B H v u e hv hu Q q => by
  cases hv with
  | tup h1 q1 =>
    cases hu with
    | tup h2 q2 =>
      cases q2
      refine .inr ⟨_, _, _, rfl, rfl, .inr ⟨Evl.ex_t e h1, Evl.ex_t e h2⟩, ?_⟩
      rw [Bool.false_xor, empty_iff q1]
      exact q _ B H (Le.refl e) (.bl _)
/-! in a row of ints, of texts -/
theorem inV_ints (i : Int) : ∀ ns : List Int, inV (.int i) (ns.map V.int) = decide (i ∈ ns)
  | [] => by simp [inV]
  | n :: r => by
    have h := inV_ints i r
    unfold inV at h ⊢
    rw [List.map_cons, List.any_cons, h]
    by_cases z : i = n
    · subst z; simp [eqV]
    · have z' : ¬ n = i := fun e => z e.symm
      simp [eqV, z, z']
theorem flat_ints (ns : List Int) : (ns.map V.int).all flatV = true := by
  induction ns with
  | nil => rfl
  | cons n r ih => rw [List.map_cons, List.all_cons, ih]; rfl
theorem inV_strs (i : Str) : ∀ ns : List Str, inV (.str i) (ns.map V.str) = decide (i ∈ ns)
  | [] => by simp [inV]
  | n :: r => by
    have h := inV_strs i r
    unfold inV at h ⊢
    rw [List.map_cons, List.any_cons, h]
    by_cases z : i = n
    · subst z; simp [eqV]
    · have z' : ¬ n = i := fun e => z e.symm
      simp [eqV, z, z']
theorem rv_inTI {i : Int} {ns : List Int} : RV K (rIn K false) (.int i) (.tuple (ns.map PyData.int)) (.bool (decide (i ∈ ns))) := fun B H v u e hv hu Q q => by
  cases hv
  cases hu with
  | tup h1 q1 =>
    cases ofInts q1
    refine ⟨_, _, rfl, .inr (Evl.ex_t e h1), rfl, flat_ints ns, ?_⟩
    rw [if_neg Bool.false_ne_true, inV_ints]
    exact q _ B H (Le.refl e) (.bl _)
theorem rv_notInTI {i : Int} {ns : List Int} : RV K (rIn K true) (.int i) (.tuple (ns.map PyData.int)) (.bool (!decide (i ∈ ns))) := fun B H v u e hv hu Q q => by
  cases hv
  cases hu with
  | tup h1 q1 =>
    cases ofInts q1
    refine ⟨_, _, rfl, .inr (Evl.ex_t e h1), rfl, flat_ints ns, ?_⟩
    rw [if_pos rfl, inV_ints]
    exact q _ B H (Le.refl e) (.bl _)
theorem rv_inLI {i : Int} {ns : List Int} : RV K (rIn K false) (.int i) (.list (ns.map PyData.int)) (.bool (decide (i ∈ ns))) := fun B H v u e hv hu Q q => by
  cases hv
  cases hu with
  | lst h1 q1 =>
    cases ofInts q1
    refine ⟨_, _, rfl, .inl (.inl (.inl (e _ _ h1))), rfl, flat_ints ns, ?_⟩
    rw [if_neg Bool.false_ne_true, inV_ints]
    exact q _ B H (Le.refl e) (.bl _)
theorem rv_notInLI {i : Int} {ns : List Int} : RV K (rIn K true) (.int i) (.list (ns.map PyData.int)) (.bool (!decide (i ∈ ns))) := fun B H v u e hv hu Q q => by
  cases hv
  cases hu with
  | lst h1 q1 =>
    cases ofInts q1
    refine ⟨_, _, rfl, .inl (.inl (.inl (e _ _ h1))), rfl, flat_ints ns, ?_⟩
    rw [if_pos rfl, inV_ints]
    exact q _ B H (Le.refl e) (.bl _)
theorem rv_inLS {i : Str} {ns : List Str} : RV K (rIn K false) (.str i) (.list (ns.map PyData.str)) (.bool (decide (i ∈ ns))) := fun B H v u e hv hu Q q => by
  cases hv
  cases hu with
  | lst h1 q1 =>
    cases ofStrs q1
    refine ⟨_, _, rfl, .inl (.inl (.inl (e _ _ h1))), rfl, flat_strs ns, ?_⟩
    rw [if_neg Bool.false_ne_true, inV_strs]
    exact q _ B H (Le.refl e) (.bl _)
theorem rv_notInTS {i : Str} {ns : List Str} : RV K (rIn K true) (.str i) (.tuple (ns.map PyData.str)) (.bool (!decide (i ∈ ns))) := fun B H v u e hv hu Q q => by
  cases hv
  cases hu with
  | tup h1 q1 =>
    cases ofStrs q1
    refine ⟨_, _, rfl, .inr (Evl.ex_t e h1), rfl, flat_strs ns, ?_⟩
    rw [if_pos rfl, inV_strs]
    exact q _ B H (Le.refl e) (.bl _)
/-! subscripts -/
theorem atI_dq {vs : List V} {ds : List PyData} {i : Int} {d : PyData} (q : DqAll K H vs ds) (h : atI ds i = some d) : ∃ v, atI vs i = some v ∧ Dq K H v d := by
  unfold atI at h ⊢
  rw [q.length]
  cases e : ixN ds.length i with
  | none => rw [e] at h; cases h
  | some j =>
    rw [e] at h
    exact q.get' h
theorem rv_ixT {ds : List PyData} {i : Int} {d : PyData} (h : atI ds i = some d) : RV K (rIx K) (.tuple ds) (.int i) d := fun B H v u e hv hu Q q => by
  cases hu
  cases hv with
  | tup h1 q1 =>
    obtain ⟨w, hw, hd⟩ := atI_dq q1 h
    exact .inr (.inl ⟨_, _, i, w, rfl, rfl, Evl.ex_t e h1, hw, q w B H (Le.refl e) hd⟩)
theorem rv_ixL {ds : List PyData} {i : Int} {d : PyData} (h : atI ds i = some d) : RV K (rIx K) (.list ds) (.int i) d := fun B H v u e hv hu Q q => by
  cases hu
  cases hv with
  | lst h1 q1 =>
    obtain ⟨w, hw, hd⟩ := atI_dq q1 h
    exact .inl ⟨_, _, i, w, rfl, rfl, .inl (.inl (e _ _ h1)), hw, q w B H (Le.refl e) hd⟩
theorem rs_T {ds : List PyData} {lo hi : Option Int} : RS K (rSlAny K) (.tuple ds) lo hi (.tuple (cutG ds lo hi)) := fun B H v e hv Q q => by
  cases hv with
  | tup h1 q1 =>
    refine .inl ⟨_, _, rfl, Evl.ex_t e h1, fun z => ?_, fun z p hp => ?_⟩
    · have e1 : cutG ds lo hi = ds := by
        unfold cutG
        rw [q1.length] at z
        rw [z.1, z.2, List.drop_zero, Nat.sub_zero]
        exact List.take_length
      rw [e1] at q
      exact q _ B H (Le.refl e) (.tup h1 q1)
    · exact q _ _ _ (Le.new e hp) (.tup (.inl (.inl upd_same)) ((q1.cut lo hi).mono (Le.new (M := []) e hp).b))
theorem rs_L {ds : List PyData} {lo hi : Option Int} : RS K (rSlAny K) (.list ds) lo hi (.list (cutG ds lo hi)) := fun B H v e hv Q q => by
  cases hv with
  | lst h1 q1 => exact .inr (.inl ⟨_, _, rfl, .inl (.inl (e _ _ h1)), fun p hp => q _ _ _ (Le.new e hp) (.lst upd_same ((q1.cut lo hi).mono (Le.new (M := []) e hp).b))⟩)
theorem rs_S {x : Str} {lo hi : Option Int} (hz : x.length ≤ sizeLine) : RS K (rSlAny K) (.str x) lo hi (.str (cutS x lo hi)) := fun B H v e hv Q q => by
  cases hv
  exact .inr (.inr ⟨x, rfl, hz, q _ B H (Le.refl e) (.str _)⟩)
/-! calls of built-ins -/
def rLenA (K : PySem.W.Frag) : List V → Hp → VK → Prop := fun xs H Q => ∃ p ys, xs = [V.ref p] ∧ (SqL K H p ys ∨ SqT K H p ys) ∧ Q (.int ys.length) H
theorem rc_lenT {ds : List PyData} : RC K (rLenA K) [.tuple ds] (.int ds.length) := fun B H vs e hv Q q => by
  cases hv with
  | cons h1 h2 =>
    cases h2
    cases h1 with
    | tup h q1 => exact ⟨_, _, rfl, .inr (Evl.ex_t e h), by rw [q1.length]; exact q _ B H (Le.refl e) (.int _)⟩
theorem rc_lenL {ds : List PyData} : RC K (rLenA K) [.list ds] (.int ds.length) := fun B H vs e hv Q q => by
  cases hv with
  | cons h1 h2 =>
    cases h2
    cases h1 with
    | lst h q1 => exact ⟨_, _, rfl, .inl (.inl (.inl (e _ _ h))), by rw [q1.length]; exact q _ B H (Le.refl e) (.int _)⟩
theorem rc_all {bs : List Bool} : RC K (rAll K) [.list (bs.map PyData.bool)] (.bool (bs.all id)) := fun B H vs e hv Q q => by
  cases hv with
  | cons h1 h2 =>
    cases h2
    cases h1 with
    | lst h q1 =>
      cases ofBls q1
      exact ⟨_, bs, rfl, .inl (.inl (e _ _ h)), q _ B H (Le.refl e) (.bl _)⟩
def tyN : PyData → String
  | .none => "NoneType"
  | .bool _ => "bool"
  | .int _ => "int"
  | .str _ => "str"
  | .list _ => "list"
  | .tuple _ => "tuple"
  | .dict _ => "dict"
theorem tyX_of {v : V} {d : PyData} (h : Dq K H v d) : TyX K H v (.type (tyN d)) := by
  cases h with
  | non => exact .base .non
  | bl b => exact .base (.bl b)
  | int i => exact .base (.int i)
  | str x => exact .base (.str x)
  | lst h q => exact .base (.lst h)
  | tup h q =>
    rcases h with (h | ⟨o, h⟩) | ⟨o, its, n, hk, hc, _⟩
    · exact .base (.tup h)
    · exact .fTuple h
    · exact .kTuple hk hc
  | dct h q => exact .base (.dK h)
/-- isinstance(x, T): the class is no plain datum, so the call is told as a whole -/
def isNS (a T : String) : Bool := (a == T) || (a == "bool" && T == "int")
def isN (T : String) (d : PyData) : Bool := isNS (tyN d) T
theorem kit_all : ∀ a ∈ ["NoneType", "bool", "int", "str", "list", "tuple", "dict"], ∀ T ∈ ["int", "bool", "tuple", "str", "dict", "list"], kitB a T = some (isNS a T) := by decide +kernel
theorem tyN_mem (d : PyData) : tyN d ∈ ["NoneType", "bool", "int", "str", "list", "tuple", "dict"] := by cases d <;> simp [tyN]
theorem kit_is {d : PyData} {T : String} (hT : T = "int" ∨ T = "bool" ∨ T = "tuple" ∨ T = "str" ∨ T = "dict" ∨ T = "list") : kitB (tyN d) T = some (isN T d) := 
  kit_all _ (tyN_mem d) T (by rcases hT with rfl | rfl | rfl | rfl | rfl | rfl <;> simp)
theorem ev_isi {te : TE} {σ : L2.St} {d : PyData} {T : String} (h : Ev K te σ B H d) (hT : T = "int" ∨ T = "bool" ∨ T = "tuple" ∨ T = "str" ∨ T = "dict" ∨ T = "list") :
    Ev K (tCB (rIsi K) (tCons te (tCons (tC (.ty T)) tNil))) σ B H (.bool (isN T d)) := fun B1 H1 l Q q =>
  h B1 H1 l _ fun v B2 H2 l2 hv => ⟨v, .ty T, .type (tyN d), .type T, isN T d, rfl, .ty T, tyX_of (hv.mono l2.h), kit_ty (kit_is hT), q _ B2 H2 l2 (.bl _)⟩
def rTupA (K : PySem.W.Frag) : List V → Hp → VK → Prop := fun xs H Q => ∃ p ys, xs = [V.ref p] ∧ ((SqL K H p ys ∧ ∀ l, H l = none → Q (.ref l) (upd H l (.tup ys))) ∨ (SqT K H p ys ∧ Q (.ref p) H))
theorem rc_tupL {ds : List PyData} : RC K (rTupA K) [.list ds] (.tuple ds) := fun B H vs e hv Q q => by
  cases hv with
  | cons h1 h2 =>
    cases h2
    cases h1 with
    | lst h q1 => exact ⟨_, _, rfl, .inl ⟨.inl (.inl (e _ _ h)), fun p hp => q _ _ _ (Le.new e hp) (.tup (.inl (.inl upd_same)) (q1.mono (Le.new (M := []) e hp).b))⟩⟩
def rLstA (K : PySem.W.Frag) : List V → Hp → VK → Prop := fun xs H Q => ∃ p ys, xs = [V.ref p] ∧ (SqL K H p ys ∨ SqT K H p ys) ∧ ∀ l, H l = none → Q (.ref l) (upd H l (.lst ys))
theorem rc_lstT {ds : List PyData} : RC K (rLstA K) [.tuple ds] (.list ds) := fun B H vs e hv Q q => by
  cases hv with
  | cons h1 h2 =>
    cases h2
    cases h1 with
    | tup h q1 => exact ⟨_, _, rfl, .inr (Evl.ex_t e h), fun p hp => q _ _ _ (Le.new e hp) (.lst upd_same (q1.mono (Le.new (M := []) e hp).b))⟩
theorem rc_lstL {ds : List PyData} : RC K (rLstA K) [.list ds] (.list ds) := fun B H vs e hv Q q => by
  cases hv with
  | cons h1 h2 =>
    cases h2
    cases h1 with
    | lst h q1 => exact ⟨_, _, rfl, .inl (.inl (.inl (e _ _ h))), fun p hp => q _ _ _ (Le.new e hp) (.lst upd_same (q1.mono (Le.new (M := []) e hp).b))⟩
end
end MA

set_option maxRecDepth 100000
set_option maxHeartbeats 2000000
namespace MA
open PySem PySem.Spec PyProof.Rows L2 HT

/-! ## t[::-1] of a tuple -/
section
variable {prog : Program} {w : World} {A : Around} {E : Value → Shared → Prop} {s : Shared}
theorem fm_congr {α β : Type} {f g : α → Option β} : ∀ {l : List α}, (∀ a ∈ l, f a = g a) → l.filterMap f = l.filterMap g
  | [], _ => rfl
  | a :: l, h => by
    rw [List.filterMap_cons, List.filterMap_cons, h a (List.mem_cons_self ..), fm_congr fun b hb => h b (List.mem_cons_of_mem _ hb)]
theorem back_picks (xs : Array Value) : ((List.range xs.size).filterMap fun (m : Nat) => xs[(((xs.size : Int) - 1) + (m : Int) * (-1)).toNat]?).toArray = xs.toList.reverse.toArray := by
  have h := PySem.W.krv_pick xs
  unfold slicePick at h
  rw [PySem.W.krv_bounds] at h
  rw [← h]
  show _ = ((sliceRange ((xs.size : Int) - 1) (-1) (-1)).filterMap (xs[·]?)).toArray
  rw [PySem.W.krv_sliceRange, List.filterMap_map]
  refine congrArg List.toArray (fm_congr fun m hm => ?_)
  have hlt := List.mem_range.mp hm
  show xs[_]? = xs[xs.size - 1 - m]?
  congr 1
  omega
theorem back_applied {sl : Addr} {t : Tok} {n : Nat} {Q : Int × Int × Nat → Shared → Prop} (hs : s.heap.IsSliceOf sl .none .none (.int (-1) t)) (h : Q ((n : Int) - 1, -1, n) s) :
    wpAny (model prog w) A (Builtin.Slice.sliceApplied (.ref sl) (pure (n : Int))) Q E s := by
  obtain ⟨os, h1, h2, h3⟩ := id hs
  unfold Builtin.Slice.sliceApplied Builtin.Slice.sliceFields
  refine wpAny_bind (wpAny_bind (wpAny_field h1 h3 (x := .none) rfl (wpAny_bind (wpAny_field h1 h3 (x := .none) rfl (wpAny_bind (wpAny_field h1 h3 (x := .int (-1) t) rfl (wpAny_pure ?_)))))))
  refine wpAny_bind (slicePart_int ?_)
  show wpAny _ _ (if ((-1 : Int) == 0) = true then _ else _) _ _ s
  rw [if_neg (by decide)]
  refine wpAny_bind (slicePart_none (wpAny_bind (slicePart_none (wpAny_bind (wpAny_pure ?_)))))
  show wpAny _ _ (match Builtin.Slice.sliceAdjust none none (-1) (n : Int) with | (lo, hi) => pure (lo, (-1 : Int), Builtin.Slice.slicePlaces lo hi (-1))) _ _ s
  have e1 : Builtin.Slice.sliceAdjust none none (-1) (n : Int) = ((n : Int) - 1, -1) := by simp [Builtin.Slice.sliceAdjust]
  rw [e1]
  show wpAny _ _ (pure ((n : Int) - 1, (-1 : Int), Builtin.Slice.slicePlaces ((n : Int) - 1) (-1) (-1))) _ _ s
  have e2 : Builtin.Slice.slicePlaces ((n : Int) - 1) (-1) (-1) = n := by
    unfold Builtin.Slice.slicePlaces
    rw [if_neg (by decide)]
    split
    · rw [show (- -1 : Int) = 1 by decide, Int.ediv_one]; omega
    · omega
  rw [e2]
  exact wpAny_pure h
theorem getItem_back {a sl : Addr} {items : Array Value} {t : Tok} {Q : Value → Shared → Prop} (ht : IsTup s.heap a items) (hs : s.heap.IsSliceOf sl .none .none (.int (-1) t))
    (h : Q (.ref s.heap.objs.size) { s with heap := s.heap.push { cls := .type "tuple", data := .seq items.toList.reverse.toArray } }) (hz : items.size ≤ sizeLine) : wpAny (model prog w) A (getItem (.ref a) (.ref sl)) Q E s := by
  have hfit : sizeOk (.seq items.toList.reverse.toArray) := by
    show items.toList.reverse.toArray.size ≤ sizeLine
    rw [List.size_toArray, List.length_reverse, Array.length_toList]
    exact hz
  have hty : s.TypeIs (.ref sl) "slice" := let ⟨os, h1, h2, _⟩ := hs; ⟨os, h1, h2⟩
  unfold getItem
  try with_reducible refine wpAny_holding ?_
  first | refine wpAny_bind (wpAny_pure ?_) | skip
  refine wpAny_bind (wpAny_sequenceKey ht.typeIs (by decide) ?_)
  refine wpAny_bind (wpAny_callSpecial?_slot (name := Str.ofString "__getitem__") ht.typeIs PyProof.Rows.slot_tuple_getitem
    (wpAny_call_entry PyProof.Rows.slot_tuple_getitem ht.typeIs entry_tuple_getitem ?_ (args_tuple_getitem _ _)))
  refine wpAny_bind (m := Builtin.Tuple.tupleItemsOf (.ref a)) (tupleItemsOf_ ht ?_)
  refine wpAny_bind (wpAny_typeOf hty ?_)
  rw [if_pos (by decide)]
  refine wpAny_bind (back_applied hs ?_)
  show wpAny _ _ (if (((items.size : Int) - 1) == 0 && (-1 : Int) == 1 && items.size == items.size) = true then _ else _) _ _ s
  have hno : ¬ (((items.size : Int) - 1) == 0 && (-1 : Int) == 1 && items.size == items.size) = true := by
    rw [show ((-1 : Int) == 1) = false by decide, Bool.and_false, Bool.false_and]
    exact Bool.false_ne_true
  rw [if_neg hno, back_picks]
  first
    | exact wpAny_bind (m := Builtin.Tuple.tupleExact _) (wpAny_newObj_type (wpAny_pure ⟨_, rfl, wpAny_pure h⟩) hfit)
    | exact wpAny_bind (m := Builtin.Tuple.tupleExact _) (wpAny_newObj_type (wpAny_bind (wpAny_pure (wpAny_pure ⟨_, rfl, wpAny_pure h⟩))) hfit)
    | exact wpAny_bind (wpAny_bind (m := Builtin.Tuple.tupleExact _) (wpAny_newObj_type (wpAny_pure (wpAny_pure ⟨_, rfl, wpAny_pure h⟩)) hfit))
    | exact wpAny_bind (wpAny_bind (m := Builtin.Tuple.tupleExact _) (wpAny_newObj_type (wpAny_pure ⟨_, rfl, wpAny_pure h⟩) hfit))
end
def tBack (K : PySem.W.Frag) (te : TE) : TE := fun σ H Q => te σ H fun x H1 => ∃ a xs, x = .ref a ∧ SqT K H1 a xs ∧ ∀ p, H1 p = none → Q (.ref p) (upd H1 p (.tup xs.reverse))
theorem pe_backT {X : Cx} {e : Expr} {te : TE} {k : Nat} {p1 p2 p3 pos : Pos} (he : PE X e te) : PE X (.Subscript e (.Slice none none (some (.UnaryOp .USub (.Constant (.int 1) k p1) p2)) p3) pos) (tBack X.K te) := by
  refine ⟨fun pins s σ H Q I h => ?_⟩
  refine Subscript_ (thn (he.run pins s σ H _ I h) fun v s1 ⟨x, H1, I1, r1, a, xs, ex, hx, q⟩ => ?_)
  subst ex
  cases r1
  have hst : PO X (some (.UnaryOp .USub (.Constant (.int 1) k p1) p2)) (tPart (tUn (rU fun i => .int (-i)) (tC (.int 1)))) := po_some (pe_un un_neg pe_int)
  refine wpAny_Slice (thn (po_none.run pins s1 σ H1 (fun o H2 => o = none ∧ H2 = H1) I1 ⟨rfl, rfl⟩) fun vl s2 ⟨l, H2, I2, pl, el, e2⟩ => ?_)
  subst el e2
  refine thn (po_none.run pins s2 σ H2 (fun o H3 => o = none ∧ H3 = H2) I2 ⟨rfl, rfl⟩) fun vu s3 ⟨u, H3, I3, pu, eu, e3⟩ => ?_
  subst eu e3
  refine thn (hst.run pins s3 σ H3 (fun o H4 => o = some (-1) ∧ H4 = H3) I3 ⟨1, rfl, -1, rfl, rfl, rfl⟩) fun vs s4 ⟨o, H4, I4, ps, eo, e4⟩ => ?_
  subst eo e4
  cases pl
  cases pu
  cases ps with
  | int _ t =>
    have I5 : Inv X pins σ H4 { s4 with heap := s4.heap.push { cls := .type "slice", data := .fields #[.none, .none, .int (-1) t] } } := I4.kept (t' := s4.toks) fun b ob q => Heap.get?_push_of_some _ q
    obtain ⟨its, r, ht, hz⟩ := I5.tuple hx
    have hlen := r.length
    show wpAny (model X.prog X.w) X.A (subscriptTail e (.Slice none none (some (.UnaryOp .USub (.Constant (.int 1) k p1) p2)) p3) (.ref a) (.ref s4.heap.objs.size)) (EP X pins σ Q) X.xe { s4 with heap := s4.heap.push { cls := .type "slice", data := .fields #[.none, .none, .int (-1) t] } }
    refine tail_any (ops := [.ref a, .ref s4.heap.objs.size]) ht.typeIs PyProof.Rows.slot_tuple_getitem.lookup ?_ (by with_unfolding_all rfl)
    refine getItem_back ht (Heap.IsSliceOf.new _ .none .none (.int (-1) t)) ?_ (by rw [List.size_toArray]; omega)
    refine ⟨.ref _, _, I5.laid (t' := s4.toks) (o := .tup xs.reverse) (fun b ob q => Heap.get?_push_of_some _ q) (Nat.le_refl _) ?_, rfl, q _ (I5.hok.fresh (Nat.le_refl _))⟩
    exact ⟨by rw [List.length_reverse]; exact hz, _, r.reverse, _, Heap.get?_push_size _ rfl, rfl, _, rfl⟩
theorem ev_back {K : PySem.W.Frag} {σ : L2.St} {B H : Hp} {te : TE} {ds : List PyData} (h : Ev K te σ B H (.tuple ds)) : Ev K (tBack K te) σ B H (.tuple ds.reverse) := fun B1 H1 l Q q =>
  h B1 H1 l _ fun v B2 H2 l2 hv => by
    cases hv with
    | tup h1 q1 => exact ⟨_, _, rfl, Evl.ex_t l2.h h1, fun p hp => q _ _ _ (l2.trans (Le.new l2.h hp)) (.tup (.inl (.inl upd_same)) (q1.reverse.mono (Le.new (M := []) l2.h hp).b))⟩
end MA

set_option maxRecDepth 100000
set_option maxHeartbeats 2000000
/-! enumerate(t) of a tuple -/
namespace PySem
open Sem (wp)
open AutoSeq1 (wpAny_loadPart')
theorem ma_drawsT {prog : Program} {w : World} {A : Around} (hh : A.handled = none) (it t : Addr) (hne : t ≠ it) (items : Array Value) :
    Draws prog w A it [it, t] items.size (fun i v => items[i]? = some v) (fun i h => h.IsTupleIter it t i ∧ h.IsTuple t items) where
  live := fun _ _ st => let ⟨⟨o, ho, _⟩, _⟩ := st; ⟨o, ho⟩
  frame := fun _ _ _ st hk => let ⟨x, ⟨o, ho, r⟩⟩ := st; ⟨x.at fun o e => hk it (by simp) o e, ⟨o, hk t (by simp) o ho, r⟩⟩
  item := fun i s Q E hi st hQ => RZ.nextOf_tuple_item st.1 st.2 (x := items[i]) (by simp [hi]) fun h' hit' hs' =>
    hQ _ h' s.toks (by simp [hi]) ⟨hit', let ⟨o, ho, r⟩ := st.2; ⟨o, (hs'.2 t hne).trans ho, r⟩⟩ hs'
  done := fun s Q E st hE => RZ.nextOf_tuple_end hh st.1 st.2 (by simp) hE
theorem ma_enumT (t : Addr) (items : Array Value) (n : Nat) (dct : Option Addr) (sl : Array (Option Value)) :
    Meets (Builtin.«enumerate.__new__» ⟨[.type "enumerate", .ref t], []⟩) (fun _ R s => s.heap.get? t = some { cls := .type "tuple", dict := dct, data := .seq items n, slots := sl } ∧
      R (.ok (.ret (.ref (Heap.push s.heap { cls := .type "tuple_iterator", data := .fields #[.ref t, .int 0 0] }).objs.size)))
        { s with heap := (s.heap.push { cls := .type "tuple_iterator", data := .fields #[.ref t, .int 0 0] }).push { cls := .type "enumerate", data := .fields #[.none, .bool false, .ref s.heap.objs.size, rawInt 0, .none, .none] } }) :=
  .of_wp fun prog w A R s h => by
    obtain ⟨hp, g, d, tk, os⟩ := s; obtain ⟨hl, h⟩ := h
    have hsub := sub_enumerate
    have hT : Heap.IsTuple (Shared.heap ⟨hp, g, d, tk, os⟩) t items := ⟨_, hl, rfl, n, rfl⟩
    wp_walk using wpAny_loadPart' hl
    refine wpAny_stack_any fun st => wpAny_pure ?_
    split
    · rename_i c _ _ _ _ _
      cases (c == Value.type "enumerate")
      · wp_walk using wpAny_loadPart' hl, wpAny_pyIter_tuple hT
        exact ⟨_, rfl, h⟩
      · wp_walk using wpAny_loadPart' hl, wpAny_pyIter_tuple hT
        exact ⟨_, rfl, h⟩
    · wp_walk using wpAny_loadPart' hl, wpAny_pyIter_tuple hT
      exact ⟨_, rfl, h⟩
theorem ma_call_enumT {prog : Program} {w : World} {A : Around} {E : Value → Shared → Prop} {s : Shared} {t : Addr} {items : Array Value} {Q : Value → Shared → Prop} (hT : s.heap.IsTuple t items)
    (h : ∀ h', IsEnum h' (s.heap.objs.size + 1) s.heap.objs.size 0 .none → h'.IsTupleIter s.heap.objs.size t 0 → (∀ b o, s.heap.get? b = some o → h'.get? b = some o) → Q (.ref (s.heap.objs.size + 1)) { s with heap := h' }) :
    wpAny (model prog w) A (call (.type "enumerate") [.ref t]) Q E s := by
  obtain ⟨⟨c, dct, dt, sl⟩, hl, hc, n, hd⟩ := hT
  cases (show c = .type "tuple" from hc)
  cases (show dt = .seq items n from hd)
  have hz : (s.heap.push { cls := .type "tuple_iterator", data := .fields #[.ref t, .int 0 0] }).objs.size = s.heap.objs.size + 1 := Heap.size_push ..
  refine callType_new F.called_enumerate (by decide) (F.typeCall_enumerate_1 _) (F.newCall_enumerate_1 _) (fun obj => F.args_object_init_2 obj _) F.entry_enumerate_new (ma_enumT t items n dct sl) ⟨hl, ?_⟩
  show _ ∧ _
  rw [hz]
  have he : IsEnum ((s.heap.push { cls := .type "tuple_iterator", data := .fields #[.ref t, .int 0 0] }).push { cls := .type "enumerate", data := .fields #[.none, .bool false, .ref s.heap.objs.size, rawInt 0, .none, .none] }) (s.heap.objs.size + 1) s.heap.objs.size 0 .none := by
    have z := Heap.get?_push_size (s.heap.push { cls := .type "tuple_iterator", data := .fields #[.ref t, .int 0 0] }) (o := { cls := .type "enumerate", data := .fields #[.none, .bool false, .ref s.heap.objs.size, rawInt 0, .none, .none] }) rfl
    rw [hz] at z
    exact z
  exact ⟨⟨_, he, rfl⟩, h _ he ⟨_, Heap.get?_push_of_some _ (Heap.get?_push_size _ rfl), rfl, rfl⟩ fun b o x => Heap.get?_push_of_some _ (Heap.get?_push_of_some _ x)⟩
end PySem
namespace MA
open PySem PySem.Spec PyProof.Rows L2
def ItE (K : PySem.W.Frag) (a : Addr) : It :=
  ⟨fun i H => ∃ (xs : List V) (x : V), SqT K H a xs ∧ xs[i]? = some x, fun i H v H' => ∃ T x, v = .ref T ∧ H T = none ∧ H' = upd H T (.tup [.int (i : Nat), x]) ∧ ∀ xs, SqT K H a xs → xs[i]? = some x, fun i H => ∃ xs : List V, SqT K H a xs ∧ xs.length ≤ i⟩
theorem turn_enumT {P : Program} {w : World} {K : PySem.W.Frag} {elts : List Expr} {kk : Nat} {tpos : Pos} (a e it : Addr) :
    Turn P w K (.Tuple elts kk tpos) (ItE K a) [e, it] e (fun i h => (∃ old, IsEnum h e it ((i : Nat) : Int) old) ∧ h.IsTupleIter it a i ∧ e ≠ it) where
  mem := by simp
  obj := fun i h st b hb => by
    obtain ⟨⟨old, he⟩, ⟨o, ho, hc, hd⟩, _⟩ := st
    rcases (show b = e ∨ b = it by simpa using hb) with z | z
    · rw [z]; exact ⟨_, he, fun v q => nomatch q⟩
    · rw [z]; exact ⟨o, ho, fun v q => by rw [hd] at q; cases q⟩
  keep := fun i h h' st k => let ⟨⟨old, he⟩, hi, hne⟩ := st; ⟨⟨old, k e (by simp) _ he⟩, hi.at fun o q => k it (by simp) o q, hne⟩
  item := by
    intro X hP hw hK hc i pins s σ H E I hf st hg
    subst hP hw hK
    obtain ⟨⟨old, he⟩, hit, hne⟩ := st
    obtain ⟨xs, x, hq, hx⟩ := hg
    obtain ⟨its, rv, p, hz⟩ := I.tuple hq
    obtain ⟨u, hu, ru⟩ := rv.get hx
    have hel : e < s.heap.objs.size := Heap.lt_size he
    have hil : it < s.heap.objs.size := by obtain ⟨_, q, _⟩ := hit; exact Heap.lt_size q
    have hae : a ≠ it := fun z => by
      obtain ⟨o, q, c, _⟩ := hit
      obtain ⟨o2, q2, c2, _⟩ := p
      rw [z, q] at q2; cases q2; rw [c] at c2; exact absurd (Value.type.inj c2) (by decide)
    have hae2 : a ≠ e := fun z => by
      obtain ⟨o2, q2, c2, _⟩ := p
      rw [z] at q2
      rw [show s.heap.get? e = some _ from he] at q2; cases q2; exact absurd (Value.type.inj c2) (by decide)
    have hlt : i < its.length := (List.getElem?_eq_some_iff.mp hu).1
    refine wpAny_pyNext_enum_itemD (ma_drawsT (A := X.A.in1) (I.ok.hd hc) it a hae its.toArray) he ⟨hit, p⟩ (by simpa using hlt) hne (by simp [hne, Ne.symm hae2]) fun y h' tk hy ho hst hT hsz hk => ?_
    have ey : u = y := by
      have hy' : its[i]? = some y := by simpa using hy
      rw [hu] at hy'
      exact Option.some.inj hy'
    subst ey
    refine ⟨_, rfl, wpAny_letOwnedTupleGo_enum (s := { s with heap := h', toks := tk + 1 }) ho fun h'' he' sb => ?_⟩
    have hT2 : h''.get? s.heap.objs.size = some { cls := .type "tuple", data := .seq #[.int i tk, u] } := (sb.2 _ (Nat.ne_of_gt hel)).trans hT
    have new : ObjOk X.prog X.w (upd H s.heap.objs.size (.tup [.int (i : Nat), x])) h'' s.heap.objs.size (.tup [.int (i : Nat), x]) :=
      ⟨by show 2 ≤ sizeLine; decide, [.int i tk, u], .cons ⟨_, rfl⟩ (.cons ru .nil), ⟨_, hT2, rfl, _, rfl⟩⟩
    have I1 : Inv X pins σ (upd H s.heap.objs.size (.tup [.int (i : Nat), x])) { s with heap := h'', toks := tk + 1 } :=
      I.turnedNew (ch := [e, it]) (fun b ob hb q => (sb.2 b (fun z => hb (by simp [z]))).trans (hk b ob (fun z => hb (by simp [z])) (fun z => hb (by simp [z])) q)) hf (Nat.le_refl _) new
    refine ⟨.ref s.heap.objs.size, _, I1, rfl, ⟨_, x, rfl, I.hok.fresh (Nat.le_refl _), rfl, fun ys hy => by rw [I.tuple_inj hy hq]; exact hx⟩, ⟨⟨u, ?_⟩, hst.1.at fun o q => (sb.2 it (Ne.symm hne)).trans q, hne⟩, fun b hb => ?_⟩
    · rw [show ((i + 1 : Nat) : Int) = (i : Int) + 1 by omega]
      exact he'
    · have hb' : b < s.heap.objs.size := by
        rcases (show b = e ∨ b = it by simpa using hb) with z | z
        · rw [z]; exact hel
        · rw [z]; exact hil
      rw [upd_ne (Nat.ne_of_lt hb')]
      exact (hf b hb).1
  done := by
    intro X hP hw hK hc i pins s σ H E I hf st hg
    subst hP hw hK
    obtain ⟨⟨old, he⟩, hit, hne⟩ := st
    obtain ⟨xs, hq, hx⟩ := hg
    obtain ⟨its, rv, p, hz⟩ := I.tuple hq
    obtain ⟨f0, f1, f2, f3, f4, f5⟩ := hf it (by simp)
    have hl := rv.length
    have hT : s.TypeIs (.ref e) "enumerate" := ⟨_, he, rfl⟩
    unfold pyNext
    refine wpAny_bind (wpAny_attempt (wpAny_callSpecial?_slot (name := Str.ofString "__next__") hT F.slot_enumerate_next (wpAny_call_entry F.slot_enumerate_next hT F.entry_enumerate_next ?_ (F.args_enumerate_next_1 _))))
    show wpAny _ _ (field (.ref e) 2 >>= _) _ _ _
    refine wpAny_bind (wpAny_field he rfl (x := .ref it) rfl ?_)
    refine wpAny_bind (RZ.nextOf_tuple_end (A := X.A.in1) (I.ok.hd hc) hit p (by simp; omega) fun h' x he' hx' => ?_)
    obtain ⟨o, ho, hc'⟩ := hx'
    refine wpAny_bind (wpAny_isInstance (T := "StopIteration") (b := true) ⟨o, ho, hc'⟩ isSubtype_stop ?_)
    exact wpAny_pure ⟨rfl, I.turned (t' := s.toks) (fun b o hb q => he' b o hb q) f0 f1 f3 f4 f5⟩
  self := fun A i s Q E st h => let ⟨⟨_, he⟩, _⟩ := st; wpAny_pyIter_enum he h
def iEnT (K : PySem.W.Frag) (ta : TA) : TI := fun σ H R => ta σ H fun vs H1 => ∃ a xs, vs = [.ref a] ∧ SqT K H1 a xs ∧ R (ItE K a) H1
theorem pi_enumT {X : Cx} {e : Expr} {ta : TA} {p pos tpos : Pos} {elts : List Expr} {kk : Nat} (hg : Gl X "enumerate") (hm : X.mg "enumerate" = none) (ha : PA X [e] ta) (hs : starEach [e] X.env = [(false, eval e X.env)] := by rfl) :
    PI X (.Tuple elts kk tpos) (.Call (.Name "enumerate" p) [e] [] pos) (iEnT X.K ta) := by
  refine ⟨fun pins s σ H R I h => ?_⟩
  refine Call_ (ld_blt I hg hm boot_enumerate (PyProof.Rows.callWith_type1 (thn (ha.run pos pins s σ H _ I h) fun us s1 ⟨vs, H1, I1, r1, a, xs, ex, hq, q⟩ => ?_) hs rfl))
  subst ex
  cases r1 with
  | cons r rr =>
    cases rr
    cases r
    obtain ⟨its, rv, p', hz⟩ := I1.tuple hq
    refine ma_call_enumT p' fun h' he hit hk => wpAny_pyIter_enum he ?_
    have I2 : Inv X pins σ H1 { s1 with heap := h' } := I1.kept (t' := s1.toks) hk
    refine ⟨s1.heap.objs.size + 1, [s1.heap.objs.size + 1, s1.heap.objs.size], _, _, H1, rfl, I2, turn_enumT a (s1.heap.objs.size + 1) s1.heap.objs.size, ⟨⟨.none, he⟩, hit, Nat.succ_ne_self _⟩, fun b hb => ?_, q⟩
    have hle : s1.heap.objs.size ≤ b := by
      rcases (show b = s1.heap.objs.size + 1 ∨ b = s1.heap.objs.size by simpa using hb) with z | z
      · rw [z]; exact Nat.le_add_right _ _
      · rw [z]; exact Nat.le_refl _
    exact I1.fpOk hle (I1.hok.fresh hle)
theorem walk_enT {K : PySem.W.Frag} {a : Addr} {xs : List V} : Walk (ItE K a) xs.length (fun H => SqT K H a xs) (YPair (fun i => some (.int (i : Nat))) (fun i => xs[i]?)) := by
  refine ⟨fun i _ hi q => ⟨xs, xs[i], q, by simp [hi]⟩, fun _ q => ⟨xs, q, Nat.le_refl _⟩, fun i H v H' _ q y => ?_⟩
  obtain ⟨T, x, h1, h2, h3, h4⟩ := y
  exact ⟨T, .int (i : Nat), x, h1, h2, h3, rfl, h4 xs q⟩
end MA

set_option maxRecDepth 100000
set_option maxHeartbeats 2000000
namespace MA
open PySem PySem.Spec PyProof.Rows L2

/-! ## {elt for t0 in i0 for t1 in i1}, elt an int -/
abbrev sc2 (elt t0 i0 t1 i1 : Expr) (scope : Scope) (pos : Pos) : Expr := .SetComp elt [⟨t0, i0, [], 0⟩, ⟨t1, i1, [], 0⟩] scope pos
theorem sc2_outer (elt t0 i0 t1 i1 : Expr) (scope : Scope) (pos : Pos) (it acc : Value) (env : Env) :
    compTurn (sc2 elt t0 i0 t1 i1 scope pos) 0 it acc env = (do
      standAt i0.pos
      match ← pyNext it with
      | none => pure (.done .next)
      | some v =>
        letOwnedTupleGo t0 it v
        assign t0 env v
        let x ← eval i1 env
        standAt i1.pos
        let x ← foldedSetIterable i1 env x
        let _ ← runOwn (.compStart (sc2 elt t0 i0 t1 i1 scope pos) 1 (← holding [x] (pyIter x)) acc env) env
        again (.compLoop (sc2 elt t0 i0 t1 i1 scope pos) 0 it acc env)) := by rfl
theorem sc2_inner (elt t0 i0 t1 i1 : Expr) (scope : Scope) (pos : Pos) (it acc : Value) (env : Env) :
    compTurn (sc2 elt t0 i0 t1 i1 scope pos) 1 it acc env = (do
      standAt i1.pos
      match ← pyNext it with
      | none => pure (.done .next)
      | some v =>
        letOwnedTupleGo t1 it v
        assign t1 env v
        (do let v ← eval elt env; standAt elt.pos; let _ ← call (.builtin "set.add") [acc, v])
        again (.compLoop (sc2 elt t0 i0 t1 i1 scope pos) 1 it acc env)) := by rfl
section
variable {prog : Program} {w : World} {A : Around} {R : Result → Shared → Prop} {s : Shared} {elt t0 i0 t1 i1 : Expr} {scope : Scope} {pos : Pos} {it acc : Value} {env : Env}
/-- the block's wish of an exception: none comes -/
abbrev Nox (prog : Program) (w : World) (A : Around) (env : Env) (R : Result → Shared → Prop) : Value → Shared → Prop := notedBy (model prog w) A env fun e t => R (.error e) t
theorem sc2_loop0 (hs : ∀ x, foldedSetIterable i1 env x = pure x) (I : Nat → Shared → Prop)
    (turn : ∀ n s, I n s → wpAny (model prog w) A (pyNext it) (fun r sa => match r with
      | none => R (.ok .next) sa
      | some v => wpAny (model prog w) A (letOwnedTupleGo t0 it v) (fun _ sb => wpAny (model prog w) A (assign t0 env v) (fun _ sc =>
          wpAny (model prog w) A (eval i1 env) (fun x sd => wpAny (model prog w) A (pyIter x) (fun it1 se =>
              codeAny (model prog w) A (.compStart (sc2 elt t0 i0 t1 i1 scope pos) 1 it1 acc env) (fun r t => match r with
                | .ok _ => ∃ m, m < n ∧ I m t
                | .error _ => False) se) (Nox prog w A env R) sd) (Nox prog w A env R) sc) (Nox prog w A env R) sb) (Nox prog w A env R) sa) (Nox prog w A env R) s)
    (n : Nat) (h : I n s) : codeAny (model prog w) A (.compLoop (sc2 elt t0 i0 t1 i1 scope pos) 0 it acc env) R s := by
  refine codeAny_loop rfl I (fun n s hI => ?_) n h
  show wpAny _ A ((compTurn (sc2 elt t0 i0 t1 i1 scope pos) 0 it acc env).onRaise (fun x => do noteFrame x env; theTreesLotGoes x)) _ _ s
  refine wpAny_noted ?_
  rw [sc2_outer]
  refine wpAny_bind (wpAny_standAt (wpAny_bind (wpAny_mono (turn n s hI) (fun r sa ha => ?_) fun _ _ z => z)))
  cases r with
  | none => exact wpAny_pure ha
  | some v =>
    refine wpAny_bind (wpAny_mono ha (fun _ sb hb => wpAny_bind (wpAny_mono hb (fun _ sc hc => ?_) fun _ _ z => z)) fun _ _ z => z)
    refine wpAny_bind (wpAny_mono hc (fun x sd hd => wpAny_bind (wpAny_standAt (wpAny_bind (wpAny_of_eq (hs x) (wpAny_bind (wpAny_holding (wpAny_mono hd (fun it1 se he => ?_) fun _ _ z => z))))))) fun _ _ z => z)
    refine wpAny_bind (wpAny_runOwn ?_)
    rw [Around.mark_none]
    refine codeAny_mono he fun r t hr => ?_
    cases r with
    | error e => exact hr.elim
    | ok f =>
      first
        | exact wpAny_pure ⟨rfl, hr⟩
        | exact wpAny_bind (wpAny_pure (wpAny_pure ⟨rfl, hr⟩))
theorem sc2_loop1 (I : Nat → Shared → Prop)
    (turn : ∀ n s, I n s → wpAny (model prog w) A (pyNext it) (fun r sa => match r with
      | none => R (.ok .next) sa
      | some v => wpAny (model prog w) A (letOwnedTupleGo t1 it v) (fun _ sb => wpAny (model prog w) A (assign t1 env v) (fun _ sc =>
          wpAny (model prog w) A (eval elt env) (fun x sd => wpAny (model prog w) A (call (.builtin "set.add") [acc, x]) (fun _ se => ∃ m, m < n ∧ I m se) (Nox prog w A env R) sd) (Nox prog w A env R) sc) (Nox prog w A env R) sb) (Nox prog w A env R) sa) (Nox prog w A env R) s)
    (n : Nat) (h : I n s) : codeAny (model prog w) A (.compLoop (sc2 elt t0 i0 t1 i1 scope pos) 1 it acc env) R s := by
  refine codeAny_loop rfl I (fun n s hI => ?_) n h
  show wpAny _ A ((compTurn (sc2 elt t0 i0 t1 i1 scope pos) 1 it acc env).onRaise (fun x => do noteFrame x env; theTreesLotGoes x)) _ _ s
  refine wpAny_noted ?_
  rw [sc2_inner]
  refine wpAny_bind (wpAny_standAt (wpAny_bind (wpAny_mono (turn n s hI) (fun r sa ha => ?_) fun _ _ z => z)))
  cases r with
  | none => exact wpAny_pure ha
  | some v =>
    refine wpAny_bind (wpAny_mono ha (fun _ sb hb => wpAny_bind (wpAny_mono hb (fun _ sc hc => ?_) fun _ _ z => z)) fun _ _ z => z)
    exact wpAny_bind (wpAny_bind (wpAny_mono hc (fun x sd hd => wpAny_bind (wpAny_standAt (wpAny_bind (wpAny_mono hd (fun _ se he => wpAny_pure (wpAny_pure ⟨rfl, he⟩)) fun _ _ z => z)))) fun _ _ z => z))
theorem sc2_start1 (h0 : codeAny (model prog w) A (.compLoop (sc2 elt t0 i0 t1 i1 scope pos) 1 it acc env) R s)
    (h : wpAny (model prog w) A (pyIter it) (fun it2 t => codeAny (model prog w) A (.compLoop (sc2 elt t0 i0 t1 i1 scope pos) 1 it2 acc env) R t) (Nox prog w A env R) s) :
    codeAny (model prog w) A (.compStart (sc2 elt t0 i0 t1 i1 scope pos) 1 it acc env) R s := by
  refine codeAny_of_tree ?_
  show wpAny _ _ ((compStart (sc2 elt t0 i0 t1 i1 scope pos) 1 it acc env).onRaise (fun x => do noteFrame x env; standAt theWindowsPlace)) _ _ s
  refine wpAny_notedAt ?_
  unfold compStart
  show wpAny _ _ (ask >>= _) _ _ s
  refine wpAny_bind (wpAny_askSetting (wpAny_ite ?_))
  split
  · first
      | exact wpAny_bind (wpAny_pure (wpAny_pure (And.intro rfl h0)))
      | exact wpAny_pure (And.intro rfl h0)
  · first
      | exact wpAny_bind (wpAny_rule (wpAny_bind (wpAny_standAt (wpAny_bind (wpAny_mono h (fun it2 t z => wpAny_pure (And.intro rfl z)) fun _ _ x => x)))))
      | (refine wpAny_bind (wpAny_rule ?_); show wpAny _ _ (standAt i1.pos >>= _) _ _ s; exact wpAny_bind (wpAny_standAt (wpAny_bind (wpAny_mono h (fun it2 t z => wpAny_pure (And.intro rfl z)) fun _ _ x => x))))
end
section
variable {X : Cx}
theorem addI_ok {pins : List (Addr × Obj)} {σ : L2.St} {H : Hp} {s : Shared} {E : Value → Shared → Prop} {D : Addr} {S : Int → Bool} {n : Nat} {k : Int} {tk : Tok} {Q : Value → Shared → Prop} (I : Inv X pins σ H s) (hD : H D = some (SetO X.w D S n)) (room : n + 1 < scanBound)
    (h : ∀ t, Inv X pins σ (upd H D (SetO X.w D (fun j => S j || decide (j = k)) (if S k = true then n else n + 1))) t → Q .none t) : wpAny (model X.prog X.w) X.A (call (.builtin "set.add") [.ref D, .int k tk]) Q E s := by
  refine setR_add (setO_get I hD) room fun h2 sb new => ?_
  have there : ∃ u, h2.get? D = some u := let ⟨o, _, _, _, ho, _⟩ := new; ⟨o, ho⟩
  exact h _ (I.write (e := D) (t' := s.toks + 1) (by rw [hD]; trivial) (.inl rfl) (fun b u hb hu => (sb.2 b hb).trans hu) there (setO_new new))
/-- the reading: a set at D that grows -/
def tSc2 (w : World) (wi : TI) (g : TG) (wi1 : TI) (g1 : TG) (te : TE) (vs vs1 : List Nat) : TE := fun σ H Q => wi σ H fun J H1 => ∀ D, H1 D = none → ∃ W : Nat → Nat → Hp → Prop, (∃ m, W 0 m (upd H1 D (SetO w D (fun _ => false) 0))) ∧ ∀ i m H, W i m H →
  (J.stop i H ∧ Q (.ref D) H) ∨ (J.go i H ∧ ∃ Nx : Hp → Prop, (∀ Hn, Nx Hn → ∃ mn, mn < m ∧ W (i + 1) mn Hn) ∧ ∀ x Hy, J.yld i H x Hy → g x (wipe σ vs) Hy fun σ2 H2 => wipe σ2 vs = wipe σ vs ∧
    wi1 σ2 H2 fun J1 H4 => ∃ W1 : Nat → Nat → Hp → Prop, (∃ m, W1 0 m H4) ∧ ∀ j k H, W1 j k H →
      (J1.stop j H ∧ Nx H) ∨ (J1.go j H ∧ ∃ Ny : Hp → Prop, (∀ Hn, Ny Hn → ∃ kn, kn < k ∧ W1 (j + 1) kn Hn) ∧ ∀ x Hy, J1.yld j H x Hy → g1 x (wipe σ2 vs1) Hy fun σ3 H5 => wipe σ3 vs1 = wipe σ2 vs1 ∧
        te σ3 H5 fun y H7 => ∃ (z : Int) (S : Int → Bool) (n : Nat), y = .int z ∧ H7 D = some (SetO w D S n) ∧ n + 1 < scanBound ∧ Ny (upd H7 D (SetO w D (fun j => S j || decide (j = z)) (if S z = true then n else n + 1)))))
theorem pe_sc2 {elt t0 i0 t1 i1 : Expr} {scope : Scope} {own : List (PySem.Str × Nat)} {vs1 : List Nat} {pos : Pos} {wi wi1 : TI} {g g1 : TG} {te : TE} (hc : X.calm = true) (hN : X.N.Nodup) (hi : PI X t0 i0 wi) (ok : BlkOk X.N X.env.scope scope own) (hv : ∀ i ∈ vs1, i ∈ own.map (·.2))
    (hg : ∀ (s : Shared) (H : Hp) (C : Addr) (cl : List (PySem.Str × Addr)) (fp : List Addr), PG (X.blk s H scope (compEnvC scope cl C X.env) fp) t0 g)
    (hi1 : ∀ (s : Shared) (H : Hp) (C : Addr) (cl : List (PySem.Str × Addr)) (fp : List Addr), PI (X.blk s H scope (compEnvC scope cl C X.env) fp) t1 i1 wi1)
    (hg1 : ∀ (s : Shared) (H : Hp) (C : Addr) (cl : List (PySem.Str × Addr)) (fp : List Addr), PG (X.blk s H scope (compEnvC scope cl C X.env) fp) t1 g1)
    (he : ∀ (s : Shared) (H : Hp) (C : Addr) (cl : List (PySem.Str × Addr)) (fp : List Addr), PE (X.blk s H scope (compEnvC scope cl C X.env) fp) elt te)
    (hs : ∀ x, foldedSetIterable i0 X.env x = pure x := by intro _; rfl) (hs1 : ∀ env x, foldedSetIterable i1 env x = pure x := by intro _ _; rfl) :
    PE X (.SetComp elt [⟨t0, i0, [], 0⟩, ⟨t1, i1, [], 0⟩] scope pos) (tSc2 X.w wi g wi1 g1 te (own.map (·.2)) vs1) := by
  refine ⟨fun pins s σ H Q I h => ?_⟩
  show wpAny _ _ (comprehension (sc2 elt t0 i0 t1 i1 scope pos) scope X.env (firstIterPos [⟨t0, i0, [], 0⟩, ⟨t1, i1, [], 0⟩] pos) (newSet (.type "set")) false (eval i0 X.env) none) _ _ s
  have hfree : ∀ y ∈ scope.names, y.2 = .free → ∃ c, X.env.cells.lookup y.1 = some c := fun y hy e => (ok.free y hy e).elim (fun k => I.ok.has _ (.inl k)) fun k => I.ok.has _ (.inr k)
  refine wpAny_comprehension_free (use := none) rfl hs (closure_ok hfree) ok.kind (fun y hy e => by rw [ok.uniq y hy, e]) (thn (hi.run pins s σ H _ I h) fun xv sa hx => thn hx fun itv sb h2 => ?_)
  obtain ⟨it, fp, tn, J, H2, e, I2, T, st2, f2, q⟩ := h2
  subst e
  refine PpSet.newSet_ok (newEnv_comp ?_)
  generalize hD : sb.heap.objs.size = D
  have hDn : H2 D = none := I2.hok.fresh (Nat.le_of_eq hD)
  obtain ⟨W, ⟨m0, w0⟩, turn⟩ := q D hDn
  generalize h3 : ({ sb with heap := sb.heap.push { cls := .type "set", dict := none, data := .set #[] 0 (.fresh 0 0 (!X.w.params.followText "set-order")) } } : Shared) = sc
  generalize hH3 : upd H2 D (SetO X.w D (fun _ => false) 0) = H3 at w0
  have hp3 : sc.heap = sb.heap.push { cls := .type "set", dict := none, data := .set #[] 0 (.fresh 0 0 (!X.w.params.followText "set-order")) } := by rw [← h3]
  have I3 : Inv X pins σ H3 sc := by
    rw [← h3, ← hH3]
    refine I2.laid (t' := sb.toks) (fun b o e => Heap.get?_push_of_some _ e) (Nat.le_of_eq hD) ?_
    rw [← hD]
    exact setO_new (setR_fresh X.w)
  have f3 : ∀ b ∈ fp, FpOk X pins H3 b ∧ b < sc.heap.objs.size := fun b hb => by
    obtain ⟨o, e, _⟩ := T.obj _ _ st2 b hb
    have hlt : b < sb.heap.objs.size := Heap.lt_size e
    refine ⟨⟨?_, (f2 b hb).2⟩, by rw [hp3, Heap.size_push]; exact Nat.lt_succ_of_lt hlt⟩
    rw [← hH3, upd_ne (by rw [← hD]; exact Nat.ne_of_lt hlt)]
    exact (f2 b hb).1
  have I4 := block_start I3 ok hN f3
  have pg := hg sc H3 sc.heap.objs.size (cellsFrom (sc.heap.objs.size + 1) scope.names (cloFrom X.env.cells scope.names [])) fp
  have pe := he sc H3 sc.heap.objs.size (cellsFrom (sc.heap.objs.size + 1) scope.names (cloFrom X.env.cells scope.names [])) fp
  have pi1 := hi1 sc H3 sc.heap.objs.size (cellsFrom (sc.heap.objs.size + 1) scope.names (cloFrom X.env.cells scope.names [])) fp
  have pg1 := hg1 sc H3 sc.heap.objs.size (cellsFrom (sc.heap.objs.size + 1) scope.names (cloFrom X.env.cells scope.names [])) fp
  show codeAny _ _ (.compStart (sc2 elt t0 i0 t1 i1 scope pos) 0 (.ref it) (.ref D) (compEnvC scope (cellsFrom (sc.heap.objs.size + 1) scope.names (cloFrom X.env.cells scope.names [])) sc.heap.objs.size X.env)) (compPost (model X.prog X.w) X.A X.xe none (EP X pins σ Q) (.ref D) sc.heap.objs.size) { sc with heap := pushCells (sc.heap.push { cls := .type "dict", data := .dict #[] }) scope.names }
  generalize hce : compEnvC scope (cellsFrom (sc.heap.objs.size + 1) scope.names (cloFrom X.env.cells scope.names [])) sc.heap.objs.size X.env = ce at I4 pg pe pi1 pg1 ⊢
  have cL : ce.locals = sc.heap.objs.size := by subst hce; rfl
  generalize h4 : ({ sc with heap := pushCells (sc.heap.push { cls := .type "dict", data := .dict #[] }) scope.names } : Shared) = sd at I4 ⊢
  have st4 : tn 0 sd.heap := T.keep _ _ _ st2 fun b _ o e => by
    rw [← h4]
    exact pushCells_keeps _ _ _ _ (Heap.get?_push_of_some _ (by rw [hp3]; exact Heap.get?_push_of_some _ e))
  generalize hY : X.blk sc H3 scope ce fp = Y at I4 pg pe pi1 pg1
  have yex : Y.ex = fp := by rw [← hY]
  have stat : ∀ {σa : L2.St} {Ha : Hp} {t : Shared} {ps : List (Addr × Obj)}, Inv Y ps σa Ha t → (∀ b ∈ fp, Ha b = none) → ∀ b ∈ fp, FpOk Y [] Ha b := fun {σa Ha t ps} Ia hn b hb => by
    have hb' : b ∈ Y.ex := by rw [yex]; exact hb
    exact ⟨hn b hb, (Ia.ok.exf b hb').1, Ia.ok.exfs b hb', .inl hb', fun x c e => (Ia.ok.exf b hb').2 x c e, fun p hp => by rw [← hY] at hp; cases hp⟩
  have yP : Y.prog = X.prog := by rw [← hY]
  have yw : Y.w = X.w := by rw [← hY]
  have yK : Y.K = X.K := by rw [← hY]
  have yA : Y.A = X.A := by rw [← hY]
  have yc : Y.calm = true := by rw [← hY]; exact hc
  have yx : Y.xe = fun _ _ => False := by rw [← hY]
  have main : ∀ (R : Result → Shared → Prop), (∀ t Ha, Inv Y [] (wipe σ (own.map (·.2))) Ha t → Q (.ref D) Ha → R (.ok .next) t) →
      codeAny (model X.prog X.w) X.A (.compLoop (sc2 elt t0 i0 t1 i1 scope pos) 0 (.ref it) (.ref D) ce) R sd := by
    intro R hend
    subst hY
    refine sc2_loop0 (hs1 ce) (fun n t => ∃ i Ha, Inv (X.blk sc H3 scope ce fp) [] (wipe σ (own.map (·.2))) Ha t ∧ tn i t.heap ∧ (∀ b ∈ fp, Ha b = none) ∧ W i n Ha) ?_ m0 ⟨0, H3, I4, st4, fun b hb => (f3 b hb).1.1, w0⟩
    rintro n ta ⟨i, H5, I5, st5, n5, w5⟩
    rcases turn i n H5 w5 with ⟨stop, qq⟩ | ⟨go, Nx, hNx, step⟩
    · refine thnF (T.done (X.blk sc H3 scope ce fp) rfl rfl rfl hc i [] ta _ H5 (fun _ _ => False) I5 (stat I5 n5) st5 stop) fun r tb ⟨hr, I6⟩ => ?_
      subst hr
      exact hend tb H5 I6 qq
    refine thnF (T.item (X.blk sc H3 scope ce fp) rfl rfl rfl hc i [] ta _ H5 (fun _ _ => False) I5 (stat I5 n5) st5 go) fun r tb ⟨u, hr, h6⟩ => ?_
    subst hr
    refine thnF h6 fun _ tc ⟨x, H7, I7, r7, y7, st7, n7⟩ => ?_
    refine thnF (pg.run _ tc _ H7 x u _ (I7.pinned (stat I7 n7) (T.obj _ _ st7)) r7 (step x H7 y7)) fun _ td ⟨σ8, H8, I8, hw8, q8⟩ => ?_
    -- back to the outer loop
    have fin : ∀ {σ9 : L2.St} {t : Shared} {Ha : Hp}, Inv (X.blk sc H3 scope ce fp) ([] ++ pinsAt fp tc.heap) σ9 Ha t → (wipe σ (own.map (·.2))).length = σ9.length → (∀ (j : Nat) v, (wipe σ (own.map (·.2)))[j]? = some (some v) → σ9[j]? = some (some v)) → Nx Ha →
        ∃ m, m < n ∧ ∃ i Ha, Inv (X.blk sc H3 scope ce fp) [] (wipe σ (own.map (·.2))) Ha t ∧ tn i t.heap ∧ (∀ b ∈ fp, Ha b = none) ∧ W i m Ha := fun {σ9 t Ha} Ia hl hk nx => by
      obtain ⟨mn, hm, wn⟩ := hNx Ha nx
      have pin : ∀ b ∈ fp, ∀ o, tc.heap.get? b = some o → t.heap.get? b = some o ∧ Ha b = none := fun b hb o e => by
        have z := Ia.pin (b, o) (List.mem_append_right _ (List.mem_append_right _ (mem_pinsAt hb e)))
        exact ⟨z.1, z.2.1⟩
      refine ⟨mn, hm, i + 1, Ha, (Ia.unpinned (pins := [])).weak hl hk, T.keep _ _ _ st7 fun b hb o e => (pin b hb o e).1, fun b hb => ?_, wn⟩
      obtain ⟨o, e, _⟩ := T.obj _ _ st7 b hb
      exact (pin b hb o e).2
    have hl8 : (wipe σ (own.map (·.2))).length = σ8.length := by rw [← hw8, wipe_length]
    have hk9 : ∀ (j : Nat) v, (wipe σ (own.map (·.2)))[j]? = some (some v) → (wipe σ8 vs1)[j]? = some (some v) := fun j v e => by
      rw [← hw8] at e
      obtain ⟨e1, e2⟩ := wipe_some e
      rw [wipe_out fun z => e2 (hv j z)]
      exact e1
    refine thnF (pi1.run _ td σ8 H8 _ I8 q8) fun xv te' hx => thnF hx fun itv tf h11 => ?_
    obtain ⟨it1, fp1, tn1, J1, H11, e1, I11, T1, st11, f11, W1, ⟨m1, w1⟩, turn1⟩ := h11
    subst e1
    have stat1 : ∀ {Ha : Hp}, (∀ b ∈ fp1, Ha b = none) → ∀ b ∈ fp1, FpOk (X.blk sc H3 scope ce fp) ([] ++ pinsAt fp tc.heap) Ha b := fun hn b hb => ⟨hn b hb, (f11 b hb).2⟩
    have inner : codeAny (model X.prog X.w) X.A (.compLoop (sc2 elt t0 i0 t1 i1 scope pos) 1 (.ref it1) (.ref D) ce)
        (fun r t => match r with
          | .ok _ => ∃ m, m < n ∧ ∃ i Ha, Inv (X.blk sc H3 scope ce fp) [] (wipe σ (own.map (·.2))) Ha t ∧ tn i t.heap ∧ (∀ b ∈ fp, Ha b = none) ∧ W i m Ha
          | .error _ => False) tf := by
      refine sc2_loop1 (fun k t => ∃ j Ha, Inv (X.blk sc H3 scope ce fp) ([] ++ pinsAt fp tc.heap) (wipe σ8 vs1) Ha t ∧ tn1 j t.heap ∧ (∀ b ∈ fp1, Ha b = none) ∧ W1 j k Ha) ?_ m1 ⟨0, H11, I11.weak (wipe_length _ _) (fun j v e => (wipe_some e).1), st11, fun b hb => (f11 b hb).1, w1⟩
      rintro k tg ⟨j, H12, I12, st12, n12, w12⟩
      rcases turn1 j k H12 w12 with ⟨stop1, nx1⟩ | ⟨go1, Ny, hNy, step1⟩
      · refine thnF (T1.done (X.blk sc H3 scope ce fp) rfl rfl rfl hc j _ tg (wipe σ8 vs1) H12 (fun _ _ => False) I12 (stat1 n12) st12 stop1) fun r th ⟨hr, I13⟩ => ?_
        subst hr
        exact fin I13 (hl8.trans (wipe_length σ8 vs1).symm) hk9 nx1
      refine thnF (T1.item (X.blk sc H3 scope ce fp) rfl rfl rfl hc j _ tg (wipe σ8 vs1) H12 (fun _ _ => False) I12 (stat1 n12) st12 go1) fun r th ⟨u1, hr, h13⟩ => ?_
      subst hr
      refine thnF h13 fun _ ti ⟨x1, H14, I14, r14, y14, st14, n14⟩ => ?_
      refine thnF (pg1.run _ ti (wipe σ8 vs1) H14 x1 u1 _ (I14.pinned (stat1 n14) (T1.obj _ _ st14)) r14 (step1 x1 H14 y14)) fun _ tj ⟨σ15, H15, I15, hw15, q15⟩ => ?_
      refine thnF (pe.run _ tj σ15 H15 _ I15 q15) fun z tk ⟨yv, H17, I17, r17, zi, S0, n0, ey, hD17, hz17, nx⟩ => ?_
      subst ey
      obtain ⟨ztok, rfl⟩ := (show ∃ t, z = Value.int zi t from r17)
      refine addI_ok (X := X.blk sc H3 scope ce fp) I17 hD17 hz17 fun tl I18 => ?_
      obtain ⟨kn, hk, wn⟩ := hNy _ nx
      have pin : ∀ b ∈ fp1, ∀ o, ti.heap.get? b = some o → tl.heap.get? b = some o ∧ (upd H17 D (SetO X.w D (fun j => S0 j || decide (j = zi)) (if S0 zi = true then n0 else n0 + 1))) b = none := fun b hb o e => by
        have z := I18.pin (b, o) (List.mem_append_right _ (List.mem_append_right _ (mem_pinsAt hb e)))
        exact ⟨z.1, z.2.1⟩
      refine ⟨kn, hk, j + 1, _, I18.unpinned.weak (by rw [← hw15, wipe_length]) (fun j v e => by rw [← hw15] at e; exact (wipe_some e).1), T1.keep _ _ _ st14 fun b hb o e => (pin b hb o e).1, fun b hb => ?_, wn⟩
      obtain ⟨o, e, _⟩ := T1.obj _ _ st14 b hb
      exact (pin b hb o e).2
    exact sc2_start1 inner (T1.self X.A 0 _ _ _ st11 inner)
  have loop := main (compPost (model X.prog X.w) X.A X.xe none (EP X pins σ Q) (.ref D) sc.heap.objs.size) fun t Ha Ia qq => by
    subst hY
    have I7 : Inv X pins σ Ha t := I3.call' (ch := fp) Ia.os Ia.base Ia.hok Ia.bare fun b hb => ⟨(f3 b hb).1.2.2.2.1, (f3 b hb).1.2.1, (f3 b hb).1.2.2.2.2.1, (f3 b hb).1.2.2.2.2.2⟩
    have nC : Ha sc.heap.objs.size = none := by
      have z : Ha ce.locals = none := Ia.free
      rw [cL] at z
      exact z
    obtain ⟨mm, hn, _⟩ := Ia.loc
    have hn : t.heap.Ns ce.locals mm := hn
    rw [cL] at hn
    refine ⟨mm, hn, fun h'' sb' => ?_⟩
    obtain ⟨f0, f1, f2, f4, f5, f6⟩ := I3.fpOk (Nat.le_refl _) nC
    exact ⟨.ref D, Ha, I7.turned (t' := t.toks) (fun b o hb e => (sb'.2 b hb).trans e) f0 f1 f4 f5 f6, rfl, qq⟩
  exact PpSet.codeAny_compStart_set loop (T.self X.A 0 _ _ _ st4 loop)
end
end MA

set_option maxRecDepth 100000
set_option maxHeartbeats 2000000
namespace MA
open PySem PySem.Spec PyProof.Rows L2

/-! ## how many different ones -/
def dcount : List Int → Nat
  | [] => 0
  | x :: r => if x ∈ r then dcount r else dcount r + 1
theorem dcount_le : ∀ ns : List Int, dcount ns ≤ ns.length
  | [] => Nat.le_refl _
  | x :: r => by
    have := dcount_le r
    unfold dcount
    split
    · rw [List.length_cons]; omega
    · rw [List.length_cons]; omega
theorem dcount_eq : ∀ ns : List Int, dcount ns = ns.length ↔ ns.Nodup
  | [] => by simp [dcount]
  | x :: r => by
    have ih := dcount_eq r
    have hle := dcount_le r
    unfold dcount
    rw [List.nodup_cons, List.length_cons]
    split
    · rename_i h
      constructor
      · intro e; omega
      · intro e; exact absurd h e.1
    · rename_i h
      constructor
      · intro e; exact ⟨h, ih.mp (by omega)⟩
      · intro e; rw [ih.mpr e.2]
theorem nodup_count : ∀ (ns l : List Int), l.Nodup → (∀ k, k ∈ l ↔ k ∈ ns) → l.length = dcount ns
  | [], l, _, hm => by
    cases l with
    | nil => rfl
    | cons a l => exact absurd ((hm a).mp (List.mem_cons_self ..)) (by simp)
  | x :: r, l, hn, hm => by
    unfold dcount
    split
    · rename_i h
      refine nodup_count r l hn fun k => ?_
      rw [hm k, List.mem_cons]
      exact ⟨fun z => z.elim (fun e => e ▸ h) id, .inr⟩
    · rename_i h
      have hx : x ∈ l := (hm x).mpr (List.mem_cons_self ..)
      have h1 := nodup_count r (l.erase x) (hn.erase x) fun k => by
        rw [hn.mem_erase_iff, hm k, List.mem_cons]
        constructor
        · rintro ⟨a, b⟩; exact b.resolve_left a
        · intro b; exact ⟨fun e => h (e ▸ b), .inr b⟩
      have h2 : (l.erase x).length = l.length - 1 := List.length_erase_of_mem hx
      have h3 : 0 < l.length := List.length_pos_of_mem hx
      omega
section
variable {X : Cx}
/-- len(set(t)), t a tuple of ints -/
def tLenSetT (K : PySem.W.Frag) (ta : TE) : TE := fun σ H Q => ta σ H fun x H1 => ∃ (l : Addr) (ns : List Int), x = V.ref l ∧ SqT K H1 l (ns.map V.int) ∧ ns.length ≤ 1000 ∧ Q (.int (dcount ns)) H1
theorem pe_lenSetT {a : Expr} {ta : TE} {p p2 q pos : Pos} (hc : X.calm = true) (hg : Gl X "len") (hm : X.mg "len" = none) (hg2 : Gl X "set") (hm2 : X.mg "set" = none) (ha : PE X a ta)
    (na : starEach [a] X.env = (false, eval a X.env) :: starEach [] X.env := by rfl) : PE X (.Call (.Name "len" p) [.Call (.Name "set" p2) [a] [] q] [] pos) (tLenSetT X.K ta) := by
  refine ⟨fun pins s σ H Q I h => ?_⟩
  refine Call_ (ld_blt I hg hm PySem.boot_len ?_)
  refine PyProof.Rows.callWith_builtin1 (PyProof.Rows.args_cons ?_ rfl) rfl rfl
  refine Call_ (ld_blt I hg2 hm2 PyProof.Rows.boot_set ?_)
  refine PyProof.Rows.callWith_type1 (PyProof.Rows.args_cons (thn (ha.run pins s σ H _ I h) fun v s1 ⟨x, H1, I1, r1, l, ns, ex, hq, h1, q1⟩ => PyProof.Rows.args_nil ?_) na) na rfl
  subst ex
  cases r1
  obtain ⟨its, r, pl, hz⟩ := I1.tuple hq
  refine call_set_tupI ns (I1.ok.hd hc) pl (by simpa using intsAre_of r) (by unfold scanBound; omega) fun h2 tk c R hcl hk => ?_
  obtain ⟨o, es, ep, t, ho, hex, hd, _, hnd, hmem, hb, hf, hn, _⟩ := R
  refine PyProof.Rows.args_nil ?_
  have e : es.size = dcount ns := by
    have := nodup_count ns (es.toList.map keyOf) hnd fun k => by
      rw [← hmem k]
      simp
    rw [List.length_map, Array.length_toList] at this
    exact this
  have I2 : Inv X pins σ H1 { s1 with heap := h2, toks := tk } := I1.kept fun b o e => hk b o e
  refine call_len_set ho hex hd hf (by rw [hn]; omega) ⟨.int (dcount ns), H1, I2.tok _, ⟨_, by rw [e]⟩, q1⟩
theorem ev_lenSet {K : PySem.W.Frag} {σ : L2.St} {B H : Hp} {te : TE} {ns : List Int} (h : Ev K te σ B H (.tuple (ns.map PyData.int))) (hz : ns.length ≤ 1000) : Ev K (tLenSetT K te) σ B H (.int (dcount ns)) := fun B1 H1 l Q q =>
  h B1 H1 l _ fun v B2 H2 l2 hv => by
    cases hv with
    | tup h1 q1 =>
      cases ofInts q1
      exact ⟨_, ns, rfl, Evl.ex_t l2.h h1, hz, q _ B2 H2 l2 (.int _)⟩
end
/-! ## comprehensions over plain data -/
section
variable {K : PySem.W.Frag} {σ : L2.St} {B H : Hp} {tl te : TE} {tt : TT}
def slotsD (K : PySem.W.Frag) (B : Hp) (σ : L2.St) (i : Nat) (d : PyData) : Prop := ∃ v, σ[i]? = some (some v) ∧ Dq K B v d
/-- what a comprehension's list holds after some items -/
def picked (f : Nat → Bool) (g : Nat → PyData) (n : Nat) : List PyData := ((List.range n).filter f).map g
theorem picked_yes {f : Nat → Bool} {g : Nat → PyData} {n : Nat} (h : f n = true) : picked f g (n + 1) = picked f g n ++ [g n] := by
  unfold picked
  rw [List.range_succ, List.filter_append, List.map_append, List.filter_cons, if_pos h]
  rfl
theorem picked_no {f : Nat → Bool} {g : Nat → PyData} {n : Nat} (h : f n = false) : picked f g (n + 1) = picked f g n := by
  unfold picked
  rw [List.range_succ, List.filter_append, List.map_append, List.filter_cons, if_neg (by rw [h]; decide)]
  exact List.append_nil _
theorem picked_len (f : Nat → Bool) (g : Nat → PyData) (n : Nat) : (picked f g n).length ≤ n := by
  unfold picked
  rw [List.length_map]
  have h := List.length_filter_le f (List.range n)
  rwa [List.length_range] at h
/-- the word of a pure comprehension: D the list that grows -/
structure Lw (K : PySem.W.Frag) (B H : Hp) (D : Addr) (f : Nat → Bool) (g : Nat → PyData) (i : Nat) (Hi : Hp) : Prop where
  ex : ∃ Bi acc, Le [] B H Bi Hi ∧ Bi D = none ∧ Hi D = some (.lst acc) ∧ DqAll K Bi acc (picked f g i)
theorem Lw.turn {D : Addr} {f : Nat → Bool} {g : Nat → PyData} {i : Nat} {Hi : Hp} {σ2 : L2.St} (hD : H D = none) (hw : Lw K B H D f g i Hi) (hi : i < 100000)
    (ht : ∀ Bi, Le [] B H Bi Hi → EvT tt σ2 Bi Hi (f i)) (he : ∀ Bi Hj, Le [] B H Bi Hj → f i = true → Ev K te σ2 Bi Hj (g i)) :
    tt σ2 Hi fun b H3 => if b = true then te σ2 H3 fun y H4 => ∃ acc, H4 D = some (.lst acc) ∧ acc.length < sizeLine ∧ Lw K B H D f g (i + 1) (upd H4 D (.lst (acc ++ [y]))) else Lw K B H D f g (i + 1) H3 := by
  obtain ⟨Bi, acc, l, hb, hh, hq⟩ := hw
  refine ht Bi l Bi Hi (Le.refl l.h) _ fun B3 H3 l3 => ?_
  have b3 : B3 D = none := l3.own hh hb
  have h3 : H3 D = some (.lst acc) := l3.k D _ (by simp) hh
  cases hf : f i with
  | false =>
    rw [if_neg Bool.false_ne_true]
    exact ⟨B3, acc, l.trans l3, b3, h3, by rw [picked_no hf]; exact hq.mono l3.b⟩
  | true =>
    rw [if_pos rfl]
    refine he B3 H3 (l.trans l3) hf B3 H3 (Le.refl l3.h) _ fun v B4 H4 l4 hv => ?_
    have b4 : B4 D = none := l4.own h3 b3
    have h4 : H4 D = some (.lst acc) := l4.k D _ (by simp) h3
    have hlen : acc.length ≤ i := by rw [hq.length]; exact picked_len f g i
    have hsl : 100000 < sizeLine := by rw [sizeLine_eq]; decide
    refine ⟨acc, h4, by omega, B4, acc ++ [v], ?_, b4, upd_same, ?_⟩
    · have l5 : Le [D] B4 H4 B4 (upd H4 D (.lst (acc ++ [v]))) := Le.put l4.h b4 (by simp)
      have l6 := (l.trans l3).trans l4
      refine ⟨l6.b, l5.h, fun a o _ e => ?_, fun a e => ?_, l6.n⟩
      · have hne : a ≠ D := fun z => by rw [z, hD] at e; cases e
        rw [upd_ne hne]
        exact l6.k a o (by simp) e
      · have := l6.t a e
        unfold upd
        split
        · simp
        · exact this
    · rw [picked_yes hf]
      exact ((hq.mono l3.b).mono l4.b).append (.cons hv .nil)
/-- over a list, over a tuple: the target a name j -/
theorem ev_lcL {xs : List PyData} {j : Nat} {vs : List Nat} (f : Nat → Bool) (g : Nat → PyData) (h : Ev K tl σ B H (.list xs)) (hz : xs.length ≤ 100000) (hw : ∀ x, wipe ((wipe σ vs).set j (some x)) vs = wipe σ vs)
    (ht : ∀ (i : Nat) (d : PyData) (v : V) B1 H1, Le [] B H B1 H1 → xs[i]? = some d → Dq K B1 v d → EvT tt ((wipe σ vs).set j (some v)) B1 H1 (f i))
    (he : ∀ (i : Nat) (d : PyData) (v : V) B1 H1, Le [] B H B1 H1 → xs[i]? = some d → Dq K B1 v d → f i = true → Ev K te ((wipe σ vs).set j (some v)) B1 H1 (g i)) :
    Ev K (tLc (iList K tl) (gName j) tt te vs) σ B H (.list (picked f g xs.length)) := fun B0 H0 l0 Q q => h B0 H0 l0 _ fun u B1 H1 l1 hu => by
  cases hu with
  | lst hs hq =>
    rename_i a ys
    refine ⟨a, rfl, ⟨ys, .inl (.inl (l1.h _ _ hs))⟩, fun D hD => ?_⟩
    have hlen := hq.length
    refine lc_list (xs := ys) (Lw K B1 H1 D f g) ⟨B1, [], Le.made l1.h hD, ?_, upd_same, .nil⟩ (fun i Hi _ p => ?_) (fun i x Hi hi p => ⟨hw x, ?_⟩) (fun Hi p => ?_)
    · cases z : B1 D with
      | none => rfl
      | some o => rw [l1.h D o z] at hD; cases hD
    · obtain ⟨Bi, acc, l, _⟩ := p
      exact .inl (.inl (l.h _ _ (l.b _ _ hs)))
    · obtain ⟨d, hd, hx⟩ := hq.get hi
      have hlt : i < ys.length := (List.getElem?_eq_some_iff.mp hi).1
      exact Lw.turn hD p (by omega) (fun Bi l => ht i d x Bi Hi (l0.trans (l1.trans l)) hd (hx.mono l.b)) (fun Bi Hj l hf => he i d x Bi Hj (l0.trans (l1.trans l)) hd (hx.mono l.b) hf)
    · obtain ⟨Bi, acc, l, hb, hh, hq2⟩ := p
      rw [hlen] at hq2
      have lg := l.give hD hb hh
      exact q (.ref D) _ Hi (l1.trans lg) (.lst upd_same (hq2.mono (Evl.Ex.new hb)))
theorem ev_lcT {xs : List PyData} {j : Nat} {vs : List Nat} (f : Nat → Bool) (g : Nat → PyData) (h : Ev K tl σ B H (.tuple xs)) (hz : xs.length ≤ 100000) (hw : ∀ x, wipe ((wipe σ vs).set j (some x)) vs = wipe σ vs)
    (ht : ∀ (i : Nat) (d : PyData) (v : V) B1 H1, Le [] B H B1 H1 → xs[i]? = some d → Dq K B1 v d → EvT tt ((wipe σ vs).set j (some v)) B1 H1 (f i))
    (he : ∀ (i : Nat) (d : PyData) (v : V) B1 H1, Le [] B H B1 H1 → xs[i]? = some d → Dq K B1 v d → f i = true → Ev K te ((wipe σ vs).set j (some v)) B1 H1 (g i)) :
    Ev K (tLc (iTup K tl) (gName j) tt te vs) σ B H (.list (picked f g xs.length)) := fun B0 H0 l0 Q q => h B0 H0 l0 _ fun u B1 H1 l1 hu => by
  cases hu with
  | tup hs hq =>
    rename_i a ys
    refine ⟨a, rfl, ⟨ys, Evl.ex_t l1.h hs⟩, fun D hD => ?_⟩
    have hlen := hq.length
    refine lc_tup (xs := ys) (Lw K B1 H1 D f g) ⟨B1, [], Le.made l1.h hD, ?_, upd_same, .nil⟩ (fun i Hi _ p => ?_) (fun i x Hi hi p => ⟨hw x, ?_⟩) (fun Hi p => ?_)
    · cases z : B1 D with
      | none => rfl
      | some o => rw [l1.h D o z] at hD; cases hD
    · obtain ⟨Bi, acc, l, _⟩ := p
      exact Evl.ex_t (l.b.trans l.h) hs
    · obtain ⟨d, hd, hx⟩ := hq.get hi
      have hlt : i < ys.length := (List.getElem?_eq_some_iff.mp hi).1
      exact Lw.turn hD p (by omega) (fun Bi l => ht i d x Bi Hi (l0.trans (l1.trans l)) hd (hx.mono l.b)) (fun Bi Hj l hf => he i d x Bi Hj (l0.trans (l1.trans l)) hd (hx.mono l.b) hf)
    · obtain ⟨Bi, acc, l, hb, hh, hq2⟩ := p
      rw [hlen] at hq2
      have lg := l.give hD hb hh
      exact q (.ref D) _ Hi (l1.trans lg) (.lst upd_same (hq2.mono (Evl.Ex.new hb)))
theorem et_yes : EvT tYes σ B H true := fun B1 H1 l Q q => q B1 H1 (Le.refl l.h)
end
end MA

set_option maxRecDepth 100000
set_option maxHeartbeats 2000000
namespace MA
open PySem PySem.Spec PyProof.Rows L2

/-! ## a def of the text, and what callers need of it -/
structure Df (K : PySem.W.Frag) (mg : PySem.Str → Option Value) (x : PySem.Str) (st : Stmt) (ps : List PySem.Str) : Prop where
  ex : ∃ f fd, Fun K x x st f fd ∧ mg x = some (.ref f) ∧ Binds K fd ps []
structure Cl (P : Program) (w : World) (K : PySem.W.Frag) (mg : PySem.Str → Option Value) (base : Heap) (CX : CXT) (k : Nat) (x : PySem.Str) (ps : List PySem.Str) (sp : Sp) : Prop where
  ex : ∃ f fd, FnOk P w K mg base CX k f fd ps sp ∧ mg x = some (.ref f) ∧ PySem.W.keepIn K (.ref f) = true ∧ Binds K fd ps []
section
variable {P : Program} {w : World} {K : PySem.W.Frag} {mg : PySem.Str → Option Value} {base : Heap}
theorem Cl.imp {CX : CXT} {k : Nat} {x : PySem.Str} {ps : List PySem.Str} {sp sp' : Sp} (C : Cl P w K mg base CX k x ps sp) (h : ∀ vs H Q E, sp' vs H Q E → sp vs H Q E) : Cl P w K mg base CX k x ps sp' := by
  obtain ⟨f, fd, F, r⟩ := C.ex
  exact ⟨f, fd, F.imp h, r⟩
theorem Cl.of {x : PySem.Str} {st : Stmt} {ps N : List PySem.Str} {k : Nat} {sp : Sp} (D : Df K mg x st ps) (S : FnScope N ps (defScope st)) (len : ∀ vs H Q E, sp vs H Q E → vs.length = ps.length)
    (hb : ∀ (f : Addr) (cdv : Value) (A : Around) (outer : List Env) (s : Shared) (H : Hp) (vs : List V) (Q : VK) (E : XK), Room k (A.deeper (envOfC x (defScope st) s.heap.objs.size f cdv)) → sp vs H Q E →
      ∃ t, PSs (cxOf CX0 P w K mg base N x (defScope st) f cdv A outer s H E).nox (defBody st) t ∧ t { nx := fun _ H' => Q .non H', rt := Q } (start N vs) H) : Cl P w K mg base CX0 (k + 1) x ps sp := by
  obtain ⟨f, fd, F, hm, hbd⟩ := D.ex
  exact ⟨f, fd, F.ok S len fun cdv A outer s H vs Q E hr h => hb f cdv A outer s H vs Q E hr h, hm, F.kp, hbd⟩
/-- a pure def -/
theorem Cl.pu {x : PySem.Str} {st : Stmt} {ps N : List PySem.Str} {k : Nat} {Pre : List PyData → Prop} {Post : List PyData → PyData → Prop} (D : Df K mg x st ps) (S : FnScope N ps (defScope st)) (hn : ∀ ds, Pre ds → ds.length = ps.length)
    (hb : ∀ (f : Addr) (cdv : Value) (A : Around) (outer : List Env) (s : Shared) (H : Hp) (vs : List V) (Q : VK) (E : XK) (B : Hp) (ds : List PyData), Room k (A.deeper (envOfC x (defScope st) s.heap.objs.size f cdv)) → Ex B H → DqAll K B vs ds → Pre ds →
      (∀ d, Post ds d → ∀ v B' H', Le [] B H B' H' → Dq K B' v d → Q v H') →
      ∃ t, PSs (cxOf CX0 P w K mg base N x (defScope st) f cdv A outer s H E).nox (defBody st) t ∧ t { nx := fun _ H' => Q .non H', rt := Q } (start N vs) H) : Cl P w K mg base CX0 (k + 1) x ps (Pu K Pre Post) :=
  Cl.of D S (pu_len hn) fun f cdv A outer s H vs Q E hr h => by
    obtain ⟨B, ds, e, h1, h2, q⟩ := h
    exact hb f cdv A outer s H vs Q E B ds hr e h1 h2 q
theorem pe_callC {X : Cx} {CX : CXT} {k : Nat} {x : PySem.Str} {ps : List PySem.Str} {sp : Sp} {E : XK} {p pos : Pos} {e : Expr} {es : List Expr} {t : TA} (C : Cl X.prog X.w X.K X.mg X.base CX k x ps sp) (hr : Room k X.A) (hg : Gl X x) (hx : Passes CX X E)
    (ha : PA X (e :: es) t) (hdb : (x == ("__debug__" : PySem.Str)) = false := by decide) (he : starEach (e :: es) X.env = (false, eval e X.env) :: starEach es X.env := by rfl) (hpl : (backTo pos (starEach es X.env)).any (·.1) = false := by rfl) :
    PE X (.Call (.Name x p) (e :: es) [] pos) (tCall sp [] E t) := by
  obtain ⟨f, fd, F, hm, hk, hb⟩ := C.ex
  exact pe_call F hr hg hm hk hb .nil hx ha hdb he hpl
end
/-! ## arguments, one, two, three -/
section
variable {K : PySem.W.Frag} {H : Hp}
theorem dq1 {vs : List V} {d : PyData} (h : DqAll K H vs [d]) : ∃ v, vs = [v] ∧ Dq K H v d := by
  cases h with
  | cons a b => cases b; exact ⟨_, rfl, a⟩
theorem dq2 {vs : List V} {d e : PyData} (h : DqAll K H vs [d, e]) : ∃ v u, vs = [v, u] ∧ Dq K H v d ∧ Dq K H u e := by
  cases h with
  | cons a b => cases b with | cons b c => cases c; exact ⟨_, _, rfl, a, b⟩
theorem dq3 {vs : List V} {d e f : PyData} (h : DqAll K H vs [d, e, f]) : ∃ v u w, vs = [v, u, w] ∧ Dq K H v d ∧ Dq K H u e ∧ Dq K H w f := by
  cases h with
  | cons a b => cases b with | cons b c => cases c with | cons c z => cases z; exact ⟨_, _, _, rfl, a, b, c⟩
end
/-! ## the program's words: items, lines, commands, scripts -/
def isItemD : PyData → Bool
  | .int i => decide (0 ≤ i) && decide (i < 60)
  | _ => false
def itemsOk : List PyData → Bool
  | [] => true
  | d :: r => isItemD d && itemsOk r
def itemI : PyData → Int
  | .int i => i
  | _ => 0
def isLineD : PyData → Bool
  | .tuple ds => decide (1 ≤ ds.length) && decide (ds.length ≤ 60) && (ds.all isItemD && decide ((ds.map itemI).Nodup))
  | _ => false
def isWord : PyData → Bool
  | .str x => decide (x = "behind") || decide (x = "before")
  | _ => false
def isCommandD : PyData → Bool
  | .tuple [w, a, b] => isWord w && (isItemD a && (isItemD b && !decide (itemI a = itemI b)))
  | _ => false
def isScriptD : PyData → Bool
  | .tuple ds => decide (1 ≤ ds.length) && decide (ds.length ≤ 200) && ds.all isCommandD
  | _ => false
theorem item_int {d : PyData} (h : isItemD d = true) : ∃ i : Int, d = .int i ∧ 0 ≤ i ∧ i < 60 := by
  cases d with
  | int i =>
    simp only [isItemD, Bool.and_eq_true, decide_eq_true_eq] at h
    exact ⟨i, rfl, h.1, h.2⟩
  | _ => simp [isItemD] at h
theorem items_ints : ∀ {ds : List PyData}, ds.all isItemD = true → ds = (ds.map itemI).map PyData.int
  | [], _ => rfl
  | d :: r, h => by
    rw [List.all_cons, Bool.and_eq_true] at h
    obtain ⟨i, rfl, _⟩ := item_int h.1
    rw [List.map_cons, List.map_cons, ← items_ints h.2]
    rfl
end MA

set_option maxRecDepth 100000
set_option maxHeartbeats 2000000
namespace MA
open PySem PySem.Spec PyProof.Rows L2
theorem range_getD {α β : Type} (dflt : α) (p : α → Bool) (h : α → β) : ∀ (l : List α), (((List.range l.length).filter fun i => p (l.getD i dflt)).map fun i => h (l.getD i dflt)) = (l.filter p).map h := by
  intro l
  have e : (List.range l.length).map (fun i => l.getD i dflt) = l := by
    apply List.ext_getElem
    · simp
    · intro i h1 h2
      simp [List.getD, h2]
  have e2 : ((List.range l.length).filter fun i => p (l.getD i dflt)).map (fun i => h (l.getD i dflt)) = (((List.range l.length).map (fun i => l.getD i dflt)).filter p).map h := by
    rw [List.filter_map, List.map_map]
    rfl
  rw [e2, e]
theorem getD_of {α : Type} {l : List α} {i : Nat} {d dflt : α} (h : l[i]? = some d) : l.getD i dflt = d := by simp [List.getD, h]
section
variable {K : PySem.W.Frag} {σ : L2.St} {B H : Hp} {tl te : TE} {tt : TT}
theorem ev_compL {xs : List PyData} {j : Nat} {vs : List Nat} (p : PyData → Bool) (h : PyData → PyData) (hl : Ev K tl σ B H (.list xs)) (hz : xs.length ≤ 100000)
    (ht : ∀ (d : PyData) (v : V) B1 H1, Le [] B H B1 H1 → d ∈ xs → Dq K B1 v d → EvT tt ((wipe σ vs).set j (some v)) B1 H1 (p d))
    (he : ∀ (d : PyData) (v : V) B1 H1, Le [] B H B1 H1 → d ∈ xs → Dq K B1 v d → p d = true → Ev K te ((wipe σ vs).set j (some v)) B1 H1 (h d)) (hw : ∀ x, wipe ((wipe σ vs).set j (some x)) vs = wipe σ vs := by intro _; rfl) :
    Ev K (tLc (iList K tl) (gName j) tt te vs) σ B H (.list ((xs.filter p).map h)) := by
  have z := ev_lcL (te := te) (tt := tt) (j := j) (vs := vs) (fun i => p (xs.getD i .none)) (fun i => h (xs.getD i .none)) hl hz hw
    (fun i d v B1 H1 l hd hv => by rw [getD_of hd]; exact ht d v B1 H1 l (List.mem_of_getElem? hd) hv) (fun i d v B1 H1 l hd hv hf => by rw [getD_of hd] at hf ⊢; exact he d v B1 H1 l (List.mem_of_getElem? hd) hv hf)
  unfold picked at z
  rwa [range_getD] at z
theorem ev_compT {xs : List PyData} {j : Nat} {vs : List Nat} (p : PyData → Bool) (h : PyData → PyData) (hl : Ev K tl σ B H (.tuple xs)) (hz : xs.length ≤ 100000)
    (ht : ∀ (d : PyData) (v : V) B1 H1, Le [] B H B1 H1 → d ∈ xs → Dq K B1 v d → EvT tt ((wipe σ vs).set j (some v)) B1 H1 (p d))
    (he : ∀ (d : PyData) (v : V) B1 H1, Le [] B H B1 H1 → d ∈ xs → Dq K B1 v d → p d = true → Ev K te ((wipe σ vs).set j (some v)) B1 H1 (h d)) (hw : ∀ x, wipe ((wipe σ vs).set j (some x)) vs = wipe σ vs := by intro _; rfl) :
    Ev K (tLc (iTup K tl) (gName j) tt te vs) σ B H (.list ((xs.filter p).map h)) := by
  have z := ev_lcT (te := te) (tt := tt) (j := j) (vs := vs) (fun i => p (xs.getD i .none)) (fun i => h (xs.getD i .none)) hl hz hw
    (fun i d v B1 H1 l hd hv => by rw [getD_of hd]; exact ht d v B1 H1 l (List.mem_of_getElem? hd) hv) (fun i d v B1 H1 l hd hv hf => by rw [getD_of hd] at hf ⊢; exact he d v B1 H1 l (List.mem_of_getElem? hd) hv hf)
  unfold picked at z
  rwa [range_getD] at z
end
section
variable {K : PySem.W.Frag} {σ : L2.St} {B H : Hp} {te : TE} {t : TT} {D : Ends} {tu tw tz : TS} {d : PyData}
/-- an if without else, then the rest -/
theorem q_when {k : Bool} (h : EvT t σ B H k) (e : Ex B H) (h1 : k = true → ∀ B' H', Le [] B H B' H' → tu { D with nx := tz D } σ H') (h2 : k = false → ∀ B' H', Le [] B H B' H' → tz D σ H') : tSeq (tIfS t tu tNext) tz D σ H := s_if (D := { D with nx := tz D }) h e h1 h2
theorem s_when {k : Bool} (h : EvT t σ B H k) (e : Ex B H) (h1 : k = true → ∀ B' H', Le [] B H B' H' → tu D σ H') (h2 : k = false → ∀ B' H', Le [] B H B' H' → D.nx σ H') : tIfS t tu tNext D σ H := s_if h e h1 h2
theorem q_set {i : Nat} (h : Ev K te σ B H d) (e : Ex B H) (q : ∀ v B' H', Le [] B H B' H' → Dq K B' v d → tz D (σ.set i (some v)) H') : tSeq (tAsg te (gName i)) tz D σ H := s_set (D := { D with nx := tz D }) h e q
theorem q_drop (h : Ev K te σ B H d) (e : Ex B H) (q : ∀ B' H', Le [] B H B' H' → tz D σ H') : tSeq (tDrop te) tz D σ H := s_drop (D := { D with nx := tz D }) h e q
/-- a, b, c = a tuple -/
theorem gt3 {a b c : PyData} {i j l : Nat} {v : V} {Q : L2.St → Hp → Prop} (e : Ex B H) (hv : Dq K B v (.tuple [a, b, c])) (q : ∀ x y z, Dq K B x a → Dq K B y b → Dq K B z c → Q (((σ.set i (some x)).set j (some y)).set l (some z)) H) :
    gTup K 3 (gCons (gName i) (gCons (gName j) (gCons (gName l) gNil))) v σ H Q := by
  cases hv with
  | tup h1 q1 =>
    obtain ⟨x, y, z, rfl, hx, hy, hz⟩ := dq3 q1
    exact ⟨_, _, rfl, Evl.ex_t e h1, rfl, x, _, rfl, y, _, rfl, z, _, rfl, rfl, q x y z hx hy hz⟩
theorem gt2 {a b : PyData} {i j : Nat} {v : V} {Q : L2.St → Hp → Prop} (e : Ex B H) (hv : Dq K B v (.tuple [a, b])) (q : ∀ x y, Dq K B x a → Dq K B y b → Q ((σ.set i (some x)).set j (some y)) H) :
    gTup K 2 (gCons (gName i) (gCons (gName j) gNil)) v σ H Q := by
  cases hv with
  | tup h1 q1 =>
    obtain ⟨x, y, rfl, hx, hy⟩ := dq2 q1
    exact ⟨_, _, rfl, Evl.ex_t e h1, rfl, x, _, rfl, y, _, rfl, rfl, q x y hx hy⟩
end
section
variable {K : PySem.W.Frag} {σ : L2.St} {B H : Hp} {te : TE} {D : Ends} {tz : TS} {a b c : PyData}
theorem q_asg3 {i j l : Nat} (h : Ev K te σ B H (.tuple [a, b, c])) (e : Ex B H) (q : ∀ x y z B' H', Le [] B H B' H' → Dq K B' x a → Dq K B' y b → Dq K B' z c → tz D (((σ.set i (some x)).set j (some y)).set l (some z)) H') :
    tSeq (tAsg te (gTup K 3 (gCons (gName i) (gCons (gName j) (gCons (gName l) gNil))))) tz D σ H := h B H (Le.refl e) _ fun v B' H' l hv => gt3 l.h hv fun x y z hx hy hz => q x y z B' H' l hx hy hz
theorem q_asg2 {i j : Nat} (h : Ev K te σ B H (.tuple [a, b])) (e : Ex B H) (q : ∀ x y B' H', Le [] B H B' H' → Dq K B' x a → Dq K B' y b → tz D ((σ.set i (some x)).set j (some y)) H') :
    tSeq (tAsg te (gTup K 2 (gCons (gName i) (gCons (gName j) gNil)))) tz D σ H := h B H (Le.refl e) _ fun v B' H' l hv => gt2 l.h hv fun x y hx hy => q x y B' H' l hx hy
end
def rStrI : List V → Hp → VK → Prop := fun xs H Q => ∃ i, xs = [V.int i] ∧ i.natAbs.log2 < 1920 ∧ Q (.str (toString i)) H
theorem filter_true {α : Type} (l : List α) : (l.filter fun _ => true) = l := by simp
/-- pure, one argument -/
abbrev Pf1 (K : PySem.W.Frag) (Pre : PyData → Prop) (f : PyData → PyData) : Sp := Pf K (fun ds => ∃ d, ds = [d] ∧ Pre d) fun ds => f (ds.getD 0 .none)
section
variable {P : Program} {w : World} {K : PySem.W.Frag} {mg : PySem.Str → Option Value} {base : Heap} {σ : L2.St} {B H : Hp} {te : TE}
theorem Cl.pu1 {x : PySem.Str} {st : Stmt} {a : PySem.Str} {N : List PySem.Str} {k : Nat} {Pre : PyData → Prop} {g : PyData → PyData} (D : Df K mg x st [a]) (S : FnScope N [a] (defScope st))
    (hb : ∀ (f : Addr) (cdv : Value) (A : Around) (outer : List Env) (s : Shared) (H : Hp) (v : V) (Q : VK) (E : XK) (B : Hp) (d : PyData), Room k (A.deeper (envOfC x (defScope st) s.heap.objs.size f cdv)) → Ex B H → Dq K B v d → Pre d →
      (∀ v B' H', Le [] B H B' H' → Dq K B' v (g d) → Q v H') →
      ∃ t, PSs (cxOf CX0 P w K mg base N x (defScope st) f cdv A outer s H E).nox (defBody st) t ∧ t { nx := fun _ H' => Q .non H', rt := Q } (start N [v]) H) : Cl P w K mg base CX0 (k + 1) x [a] (Pf1 K Pre g) :=
  Cl.pu D S (fun ds h => by obtain ⟨d, rfl, _⟩ := h; rfl) fun f cdv A outer s H vs Q E B ds hr e hq hp k => by
    obtain ⟨d, rfl, hd⟩ := hp
    obtain ⟨v, rfl, hv⟩ := dq1 hq
    exact hb f cdv A outer s H v Q E B d hr e hv hd fun v B' H' l hv => k _ rfl v B' H' l hv
theorem ev_call1 {Pre : PyData → Prop} {g : PyData → PyData} {E : XK} {d : PyData} (h : Ev K te σ B H d) (hp : Pre d) : Ev K (tCall (Pf1 K Pre g) [] E (tCons te tNil)) σ B H (g d) := ev_call (f := fun ds => g (ds.getD 0 .none)) (ea_cons h ea_nil) ⟨d, rfl, hp⟩
end
def tlen : PyData → Nat
  | .tuple ds => ds.length
  | _ => 0
theorem isT {d : PyData} (h : isN "tuple" d = true) : ∃ ds, d = .tuple ds := by
  cases d with
  | tuple ds => exact ⟨ds, rfl⟩
  | _ => simp [isN, isNS, tyN] at h
theorem isS {d : PyData} (h : isN "str" d = true) : ∃ x, d = .str x := by
  cases d with
  | str x => exact ⟨x, rfl⟩
  | _ => simp [isN, isNS, tyN] at h
theorem all_id {ds : List PyData} (p : PyData → Bool) : (ds.map p).all id = ds.all p := by
  induction ds with
  | nil => rfl
  | cons d r ih => rw [List.map_cons, List.all_cons, List.all_cons, ih]; rfl
theorem rc_allD {K : PySem.W.Frag} {ds : List PyData} (p : PyData → Bool) : RC K (rAll K) [.list (ds.map fun d => .bool (p d))] (.bool (ds.all p)) := by
  have h := rc_all (K := K) (bs := ds.map p)
  rw [all_id, List.map_map] at h
  exact h
end MA

set_option maxRecDepth 100000
set_option maxHeartbeats 2000000
namespace MA
open PySem PySem.Spec PyProof.Rows L2

/-! ## strictly ascending lists of the same members -/
theorem asc_eq : ∀ {xs ys : List Int}, xs.Pairwise (· < ·) → ys.Pairwise (· < ·) → (∀ k, k ∈ xs ↔ k ∈ ys) → xs = ys
  | [], [], _, _, _ => rfl
  | [], y :: ys, _, _, h => absurd ((h y).mpr (List.mem_cons_self ..)) (by simp)
  | x :: xs, [], _, _, h => absurd ((h x).mp (List.mem_cons_self ..)) (by simp)
  | x :: xs, y :: ys, h1, h2, h => by
    rw [List.pairwise_cons] at h1 h2
    have a : x ≤ y := by
      rcases List.mem_cons.mp ((h y).mpr (List.mem_cons_self ..)) with e | m
      · omega
      · have := h1.1 y m; omega
    have b : y ≤ x := by
      rcases List.mem_cons.mp ((h x).mp (List.mem_cons_self ..)) with e | m
      · omega
      · have := h2.1 x m; omega
    have e : x = y := by omega
    subst e
    congr 1
    refine asc_eq h1.2 h2.2 fun k => ⟨fun m => ?_, fun m => ?_⟩
    · rcases List.mem_cons.mp ((h k).mp (List.mem_cons_of_mem _ m)) with z | z
      · have := h1.1 k m; omega
      · exact z
    · rcases List.mem_cons.mp ((h k).mpr (List.mem_cons_of_mem _ m)) with z | z
      · have := h2.1 k m; omega
      · exact z
/-- the ints below 60 for which p holds, ascending -/
def below (p : Int → Bool) : List Int := ((List.range 60).map fun (n : Nat) => (n : Int)).filter p
theorem mem_below {p : Int → Bool} {k : Int} : k ∈ below p ↔ 0 ≤ k ∧ k < 60 ∧ p k = true := by
  unfold below
  rw [List.mem_filter, List.mem_map]
  constructor
  · rintro ⟨⟨n, hn, rfl⟩, h⟩
    have := List.mem_range.mp hn
    exact ⟨by omega, by omega, h⟩
  · rintro ⟨h1, h2, h3⟩
    exact ⟨⟨k.toNat, List.mem_range.mpr (by omega), by omega⟩, h3⟩
theorem below_asc (p : Int → Bool) : (below p).Pairwise (· < ·) := by
  unfold below
  refine List.Pairwise.filter _ ?_
  rw [List.pairwise_map]
  exact List.Pairwise.imp (fun {a b} h => by omega) List.pairwise_lt_range
theorem below_nodup (p : Int → Bool) : (below p).Nodup := List.Pairwise.imp (fun {a b} h => by omega) (below_asc p)
theorem below_len (p : Int → Bool) : (below p).length ≤ 60 := by
  unfold below
  have := List.length_filter_le p ((List.range 60).map fun (n : Nat) => (n : Int))
  simpa using this
theorem nodup_le : ∀ (l m : List Int), l.Nodup → (∀ k ∈ l, k ∈ m) → l.length ≤ m.length
  | [], _, _, _ => Nat.zero_le _
  | x :: l, m, hn, h => by
    rw [List.nodup_cons] at hn
    have hx := h x (List.mem_cons_self ..)
    have h1 := nodup_le l (m.erase x) hn.2 fun k hk => by
      have hne : k ≠ x := fun e => hn.1 (e ▸ hk)
      exact (List.mem_erase_of_ne hne).mpr (h k (List.mem_cons_of_mem _ hk))
    have h2 : (m.erase x).length = m.length - 1 := List.length_erase_of_mem hx
    have h3 : 0 < m.length := List.length_pos_of_mem hx
    rw [List.length_cons]
    omega
/-! ## sorted({elt for t0 in i0 for elt in i1}) of ints below 60 -/
section
variable {K : PySem.W.Frag} {w : World} {σ : L2.St} {B H : Hp} {tl tl1 : TE}
/-- the set at D holds the ints of l -/
def SetIs (w : World) (H : Hp) (D : Addr) (l : List Int) : Prop := l.Nodup ∧ (∀ k ∈ l, 0 ≤ k ∧ k < 60) ∧ ∃ S : Int → Bool, H D = some (SetO w D S l.length) ∧ ∀ k, S k = true ↔ k ∈ l
theorem SetIs.small {D : Addr} {l : List Int} (h : SetIs w H D l) : l.length ≤ 60 := by
  have h1 := nodup_le l (below fun _ => true) h.1 fun k hk => mem_below.mpr ⟨(h.2.1 k hk).1, (h.2.1 k hk).2, rfl⟩
  have h2 := below_len fun _ => true
  omega
/-- the word: the ints of the first i commands and of j more -/
def Sw (K : PySem.W.Frag) (w : World) (B H : Hp) (D : Addr) (p : Int → Prop) (Hi : Hp) : Prop := ∃ Bi l, Le [] B H Bi Hi ∧ Bi D = none ∧ SetIs w Hi D l ∧ ∀ k, k ∈ l ↔ p k
theorem Sw.add {D : Addr} {p q : Int → Prop} {Hi : Hp} {z : Int} (hD : H D = none) (h : Sw K w B H D p Hi) (hz : 0 ≤ z ∧ z < 60) (hq : ∀ k, q k ↔ p k ∨ k = z) :
    ∃ (S : Int → Bool) (n : Nat), Hi D = some (SetO w D S n) ∧ n + 1 < scanBound ∧ Sw K w B H D q (upd Hi D (SetO w D (fun j => S j || decide (j = z)) (if S z = true then n else n + 1))) := by
  obtain ⟨Bi, l, le, hb, hs, hm⟩ := h
  have sm := hs.small
  obtain ⟨hn, hr, S, e, hS⟩ := hs
  refine ⟨S, l.length, e, by unfold scanBound; omega, Bi, if z ∈ l then l else l ++ [z], ?_, hb, ?_, fun k => ?_⟩
  · have l5 := Le.put (M := [D]) (o := SetO w D (fun j => S j || decide (j = z)) (if S z = true then l.length else l.length + 1)) le.h hb (by simp)
    refine ⟨le.b, l5.h, fun a o _ e => ?_, fun a e => l5.t a (le.t a e), le.n⟩
    have hne : a ≠ D := fun z => by rw [z, hD] at e; cases e
    rw [upd_ne hne]
    exact le.k a o (by simp) e
  · by_cases hz' : z ∈ l
    · rw [if_pos hz', if_pos ((hS z).mpr hz')]
      refine ⟨hn, hr, _, upd_same, fun k => ?_⟩
      rw [Bool.or_eq_true, hS k, decide_eq_true_eq]
      exact ⟨fun x => x.elim id fun e => e ▸ hz', .inl⟩
    · rw [if_neg hz', if_neg (fun q => hz' ((hS z).mp q))]
      refine ⟨?_, fun k hk => ?_, (fun j => S j || decide (j = z)), ?_, fun k => ?_⟩
      · rw [List.nodup_append]
        refine ⟨hn, by simp, fun a ha b hb e => ?_⟩
        rw [List.mem_singleton] at hb
        exact hz' (by rw [← hb, ← e]; exact ha)
      · rcases List.mem_append.mp hk with m | m
        · exact hr k m
        · rw [List.mem_singleton.mp m]; exact hz
      · rw [List.length_append]; exact upd_same
      · rw [Bool.or_eq_true, hS k, decide_eq_true_eq, List.mem_append, List.mem_singleton]
  · rw [hq k, ← hm k]
    split
    · rename_i hz'
      exact ⟨.inl, fun x => x.elim id fun e => e ▸ hz'⟩
    · rw [List.mem_append, List.mem_singleton]
/-- as Ev, and the answer is a new object -/
def EvN (K : PySem.W.Frag) (te : TE) (σ : L2.St) (B H : Hp) (d : PyData) : Prop := ∀ B1 H1, Le [] B H B1 H1 → ∀ Q : VK, (∀ v B2 H2, Le [] B1 H1 B2 H2 → (∃ a, v = .ref a ∧ H1 a = none) → Dq K B2 v d → Q v H2) → te σ H1 Q
theorem EvN.ev {te : TE} {d : PyData} (h : EvN K te σ B H d) : Ev K te σ B H d := fun B1 H1 l Q q => h B1 H1 l Q fun v B2 H2 l2 _ hv => q v B2 H2 l2 hv
theorem Le.back {M : List Addr} {B' H' : Hp} (l : Le M B H B' H') {a : Addr} (h : H' a = none) : H a = none := by
  cases z : H a with
  | none => rfl
  | some o => exact absurd h (l.t a (by rw [z]; simp))
theorem evN_sortedSet {xs : List PyData} {j0 j1 : Nat} {vs vs1 : List Nat} (f : PyData → List Int) (hl : Ev K tl σ B H (.tuple xs)) (hf : ∀ d ∈ xs, ∀ k ∈ f d, 0 ≤ k ∧ k < 60)
    (hi : ∀ (d : PyData) (v : V) B1 H1, Le [] B H B1 H1 → d ∈ xs → Dq K B1 v d → Ev K tl1 ((wipe σ vs).set j0 (some v)) B1 H1 (.tuple ((f d).map PyData.int)))
    (hw : ∀ x, wipe ((wipe σ vs).set j0 (some x)) vs = wipe σ vs := by intro _; rfl)
    (hw1 : ∀ x y, wipe ((wipe ((wipe σ vs).set j0 (some x)) vs1).set j1 (some y)) vs1 = wipe ((wipe σ vs).set j0 (some x)) vs1 := by intro _ _; rfl)
    (hg : ∀ x y, ((wipe ((wipe σ vs).set j0 (some x)) vs1).set j1 (some y))[j1]? = some (some y) := by intro _ _; rfl) :
    EvN K (tCB (rSortedSet w) (tCons (tSc2 w (iTup K tl) (gName j0) (iTup K tl1) (gName j1) (tVar j1) vs vs1) tNil)) σ B H (.list ((below fun k => xs.any fun d => decide (k ∈ f d)).map PyData.int)) := fun B0 H0 l0 Q q => by
  refine hl B0 H0 l0 _ fun u B1 H1 l1 hu => ?_
  cases hu with
  | tup hs hq =>
    rename_i a ys
    refine ⟨a, rfl, ⟨ys, Evl.ex_t l1.h hs⟩, fun D hD => ?_⟩
    have b1 : B1 D = none := by
      cases z : B1 D with
      | none => rfl
      | some o => rw [l1.h D o z] at hD; cases hD
    refine ⟨fun i m Hi => m = ys.length - i ∧ i ≤ ys.length ∧ Sw K w B1 H1 D (fun k => ∃ d ∈ xs.take i, k ∈ f d) Hi, ⟨_, rfl, Nat.zero_le _, B1, [], Le.made l1.h hD, b1, ⟨by simp, by simp, _, upd_same, by simp⟩, by simp⟩, ?_⟩
    rintro i m Hi ⟨rfl, hi', p⟩
    have hsq : SqT K Hi a ys := by
      obtain ⟨Bi, l, le, _⟩ := p
      exact Evl.ex_t (le.b.trans le.h) hs
    by_cases hlt : i < ys.length
    · have hy : ys[i]? = some ys[i] := List.getElem?_eq_getElem hlt
      obtain ⟨d, hd, hx⟩ := hq.get hy
      have hdm : d ∈ xs := List.mem_of_getElem? hd
      refine .inr ⟨⟨ys, ys[i], hsq, hy⟩, fun Hn => Sw K w B1 H1 D (fun k => ∃ d ∈ xs.take (i + 1), k ∈ f d) Hn, fun Hn p' => ⟨ys.length - (i + 1), by omega, rfl, hlt, p'⟩, fun x Hy y => ?_⟩
      obtain ⟨rfl, y⟩ := y
      have ex : x = ys[i] := Option.some.inj ((y ys hsq).symm.trans hy)
      subst ex
      refine ⟨hw _, ?_⟩
      have htake : xs.take (i + 1) = xs.take i ++ [d] := by rw [List.take_add_one, hd]; rfl
      obtain ⟨Bi, l, le, hb, hs1, hm⟩ := p
      refine hi d ys[i] Bi Hy (l0.trans (l1.trans le)) hdm (hx.mono le.b) Bi Hy (Le.refl le.h) _ fun u2 B2 H2 l2 hu2 => ?_
      have b2 : B2 D = none := by
        obtain ⟨_, _, S, e, _⟩ := hs1
        exact l2.own e hb
      cases hu2 with
      | tup hs2 hq2 =>
        rename_i a2 ys2
        cases ofInts hq2
        have start : Sw K w B1 H1 D (fun k => (∃ d ∈ xs.take i, k ∈ f d) ∨ k ∈ (f d).take 0) H2 := by
          obtain ⟨h1, h2, S, e, hS⟩ := hs1
          exact ⟨B2, l, le.trans l2, b2, ⟨h1, h2, S, l2.k D _ (by simp) e, hS⟩, fun k => by rw [hm k]; simp⟩
        have keepT : ∀ {Hj : Hp} {pp : Int → Prop}, Sw K w B1 H1 D pp Hj → Ex B2 Hj → SqT K Hj a2 ((f d).map V.int) := fun {Hj pp} _ e => Evl.ex_t e hs2
        refine ⟨a2, rfl, ⟨_, Evl.ex_t l2.h hs2⟩, fun j kk Hj => kk = (f d).length - j ∧ j ≤ (f d).length ∧ Ex B2 Hj ∧ Sw K w B1 H1 D (fun k => (∃ d ∈ xs.take i, k ∈ f d) ∨ k ∈ (f d).take j) Hj, ⟨_, rfl, Nat.zero_le _, l2.h, start⟩, ?_⟩
        rintro j kk Hj ⟨rfl, hj, ex2, p2⟩
        have hsq2 : SqT K Hj a2 ((f d).map V.int) := Evl.ex_t ex2 hs2
        by_cases hlt2 : j < (f d).length
        · have hz : (f d)[j]? = some (f d)[j] := List.getElem?_eq_getElem hlt2
          have hzv : ((f d).map V.int)[j]? = some (.int (f d)[j]) := by rw [List.getElem?_map, hz]; rfl
          refine .inr ⟨⟨_, _, hsq2, hzv⟩, fun Hn => Ex B2 Hn ∧ Sw K w B1 H1 D (fun k => (∃ d ∈ xs.take i, k ∈ f d) ∨ k ∈ (f d).take (j + 1)) Hn, fun Hn p' => ⟨(f d).length - (j + 1), by omega, rfl, hlt2, p'⟩, fun x2 Hy2 y2 => ?_⟩
          obtain ⟨rfl, y2⟩ := y2
          have ex3 : x2 = .int (f d)[j] := Option.some.inj ((y2 _ hsq2).symm.trans hzv)
          subst ex3
          refine ⟨hw1 _ _, .int (f d)[j], hg _ _, ?_⟩
          obtain ⟨S, n, e1, e2, e3⟩ := Sw.add (q := fun k => (∃ d ∈ xs.take i, k ∈ f d) ∨ k ∈ (f d).take (j + 1)) hD p2 (hf d hdm _ (List.getElem_mem hlt2)) fun k => by
            rw [List.take_add_one, hz]
            simp only [Option.toList, List.mem_append, List.mem_singleton]
            rw [or_assoc]
          refine ⟨_, S, n, rfl, e1, e2, fun c o e => ?_, e3⟩
          have hne : c ≠ D := fun z => by rw [z, b2] at e; cases e
          rw [upd_ne hne]
          exact ex2 c o e
        · refine .inl ⟨⟨_, hsq2, by rw [List.length_map]; omega⟩, ?_⟩
          have ej : j = (f d).length := by omega
          subst ej
          obtain ⟨B3, l3, h3, h4, h5, h6⟩ := p2
          refine ⟨B3, l3, h3, h4, h5, fun k => ?_⟩
          rw [h6 k, List.take_length, htake]
          simp only [List.mem_append, List.mem_singleton]
          constructor
          · rintro (⟨d', m, hk⟩ | hk)
            · exact ⟨d', .inl m, hk⟩
            · exact ⟨d, .inr rfl, hk⟩
          · rintro ⟨d', m | rfl, hk⟩
            · exact .inl ⟨d', m, hk⟩
            · exact .inr hk
    · have ei : i = ys.length := by omega
      subst ei
      refine .inl ⟨⟨ys, hsq, Nat.le_refl _⟩, ?_⟩
      obtain ⟨Bi, l, le, hb, hs1, hm⟩ := p
      have sm := hs1.small
      obtain ⟨h1, h2, S, e, hS⟩ := hs1
      refine ⟨D, S, l.length, rfl, e, by omega, fun ns pa hasc hmem hlen hpa => ?_⟩
      have ens : ns = below fun k => xs.any fun d => decide (k ∈ f d) := by
        refine asc_eq hasc (below_asc _) fun k => ?_
        rw [hmem k, hS k, hm k, mem_below, hq.length, List.take_length]
        constructor
        · rintro ⟨d, m, hk⟩
          exact ⟨(hf d m k hk).1, (hf d m k hk).2, List.any_eq_true.mpr ⟨d, m, decide_eq_true hk⟩⟩
        · rintro ⟨_, _, h⟩
          obtain ⟨d, m, hk⟩ := List.any_eq_true.mp h
          exact ⟨d, m, of_decide_eq_true hk⟩
      subst ens
      have ln := Le.new (M := []) (o := .lst ((below fun k => xs.any fun d => decide (k ∈ f d)).map V.int)) le.h hpa
      exact q (.ref pa) _ _ (l1.trans (le.trans ln)) ⟨pa, rfl, (l1.trans le).back hpa⟩ (.lst upd_same (dqInts _))
end
end MA

set_option maxRecDepth 100000
set_option maxHeartbeats 2000000
namespace MA
open PySem PySem.Spec PyProof.Rows L2
section
variable {K : PySem.W.Frag} {σ : L2.St} {B H : Hp} {tl te : TE} {tt : TT}
/-- [.. for i, x in enumerate(t) if ..] -/
theorem ev_lcEnT {xs : List PyData} {i1 i2 : Nat} {vs : List Nat} (f : Nat → Bool) (g : Nat → PyData) (h : Ev K tl σ B H (.tuple xs)) (hz : xs.length ≤ 100000)
    (ht : ∀ (i : Nat) (d : PyData) (v : V) B1 H1, Le [] B H B1 H1 → xs[i]? = some d → Dq K B1 v d → EvT tt (((wipe σ vs).set i1 (some (.int (i : Nat)))).set i2 (some v)) B1 H1 (f i))
    (he : ∀ (i : Nat) (d : PyData) (v : V) B1 H1, Le [] B H B1 H1 → xs[i]? = some d → Dq K B1 v d → f i = true → Ev K te (((wipe σ vs).set i1 (some (.int (i : Nat)))).set i2 (some v)) B1 H1 (g i))
    (hw : ∀ x y, wipe (((wipe σ vs).set i1 (some x)).set i2 (some y)) vs = wipe σ vs := by intro _ _; rfl) :
    Ev K (tLc (iEnT K (tCons tl tNil)) (gTup K 2 (gCons (gName i1) (gCons (gName i2) gNil))) tt te vs) σ B H (.list (picked f g xs.length)) := fun B0 H0 l0 Q q => by
  refine h B0 H0 l0 _ fun u B1 H1 l1 hu => ?_
  cases hu with
  | tup hs hq =>
    rename_i a ys
    refine ⟨a, ys, rfl, Evl.ex_t l1.h hs, fun D hD => ?_⟩
    have hlen := hq.length
    refine lc_it (walk_enT (xs := ys)) (Lw K B1 H1 D f g) ⟨B1, [], Le.made l1.h hD, ?_, upd_same, .nil⟩ (fun i Hi _ p => ?_) (fun i x Hi Hi' hi p y => ?_) (fun Hi p => ?_)
    · cases z : B1 D with
      | none => rfl
      | some o => rw [l1.h D o z] at hD; cases hD
    · obtain ⟨Bi, acc, l, _⟩ := p
      exact Evl.ex_t (l.b.trans l.h) hs
    · obtain ⟨T, x1, x2, rfl, hT, rfl, e1, e2⟩ := y
      cases Option.some.inj e1
      obtain ⟨Bi, acc, l, hb, hh, hq2⟩ := p
      have ln := Le.new (M := []) (o := .tup [.int (i : Nat), x2]) l.h hT
      refine ⟨T, [.int (i : Nat), x2], rfl, .inl (.inl upd_same), rfl, .int (i : Nat), [x2], rfl, x2, [], rfl, rfl, ?_⟩
      obtain ⟨d, hd, hx⟩ := hq.get e2
      have p' : Lw K B1 H1 D f g i (upd Hi T (.tup [.int (i : Nat), x2])) := ⟨_, acc, l.trans ln, ln.own hh hb, ln.k D _ (by simp) hh, hq2.mono ln.b⟩
      exact ⟨hw _ _, Lw.turn hD p' (by omega) (fun Bi l => ht i d x2 Bi _ (l0.trans (l1.trans l)) hd (hx.mono l.b)) (fun Bi Hj l hf => he i d x2 Bi Hj (l0.trans (l1.trans l)) hd (hx.mono l.b) hf)⟩
    · obtain ⟨Bi, acc, l, hb, hh, hq2⟩ := p
      rw [hlen] at hq2
      have lg := l.give hD hb hh
      exact q (.ref D) _ Hi (l1.trans lg) (.lst upd_same (hq2.mono (Evl.Ex.new hb)))
/-- for x in t, pure -/
theorem q_forT {xs : List PyData} {g : TG} {tb tz : TS} {D : Ends} (hl : Ev K tl σ B H (.tuple xs)) (e : Ex B H) (I : Nat → L2.St → Hp → Prop) (h0 : ∀ B1 H1, Le [] B H B1 H1 → I 0 σ B1)
    (hs : ∀ (i : Nat) (d : PyData) (v : V) σ' B' H' N, Le [] B H B' H' → xs[i]? = some d → Dq K B' v d → I i σ' B' → (∀ σ3 B3 H3, Le [] B' H' B3 H3 → I (i + 1) σ3 B3 → N σ3 H3) →
      g v σ' H' fun σ2 H2 => tb { D with nx := N, ct := N, bk := tz D } σ2 H2)
    (hd : ∀ σ' B' H', Le [] B H B' H' → I xs.length σ' B' → tz D σ' H') : tSeq (tFor (iTup K tl) g tb) tz D σ H := by
  refine hl B H (Le.refl e) _ fun u B1 H1 l1 hu => ?_
  cases hu with
  | tup hv hq =>
    rename_i a ys
    refine ⟨a, rfl, ⟨ys, Evl.ex_t l1.h hv⟩, for_tup (xs := ys) (fun i σ' H' => ∃ B', Le [] B1 H1 B' H' ∧ I i σ' B') ⟨B1, Le.refl l1.h, h0 B1 H1 l1⟩ (fun i σ' H' _ p => ?_) (fun i x σ' H' hi p => ?_) (fun σ' H' p => ?_)⟩
    · obtain ⟨B', l, _⟩ := p
      exact Evl.ex_t (l.b.trans l.h) hv
    · obtain ⟨B', l, hI⟩ := p
      obtain ⟨d, hd, hx⟩ := hq.get hi
      exact hs i d x σ' B' H' _ (l1.trans l) hd (hx.mono l.b) hI fun σ3 B3 H3 l3 hI3 => ⟨B3, l.trans l3, hI3⟩
    · obtain ⟨B', l, hI⟩ := p
      rw [hq.length] at hI
      exact hd σ' B' H' (l1.trans l) hI
end
theorem asc_of_sorted : ∀ {xs : List Int}, xs.Pairwise (· ≤ ·) → xs.Nodup → xs.Pairwise (· < ·)
  | [], _, _ => .nil
  | x :: xs, h1, h2 => by
    rw [List.pairwise_cons] at h1
    rw [List.nodup_cons] at h2
    rw [List.pairwise_cons]
    exact ⟨fun a m => by have := h1.1 a m; have : a ≠ x := fun z => h2.1 (z ▸ m); omega, asc_of_sorted h1.2 h2.2⟩
theorem rc_sorted {K : PySem.W.Frag} {ns ys : List Int} (h1 : ns.Nodup) (h2 : ys.Pairwise (· < ·)) (h3 : ∀ k, k ∈ ns ↔ k ∈ ys) : RC K (rSortedI K) [.list (ns.map PyData.int)] (.list (ys.map PyData.int)) := fun B H vs e hvs Q q => by
  obtain ⟨v, rfl, hv⟩ := dq1 hvs
  cases hv with
  | lst h hq =>
    rename_i a xs
    cases ofInts hq
    refine ⟨a, ns, rfl, .inl (.inl (e _ _ h)), fun ns' p hp hs hn => ?_⟩
    have hn' : ns'.Nodup := hp.symm.nodup h1
    have : ns' = ys := asc_eq (asc_of_sorted hs hn') h2 fun k => by rw [hp.mem_iff, h3 k]
    subst this
    exact q (.ref p) _ _ (Le.new (M := []) e hn) (.lst upd_same (dqInts _))
/-! a list of ints in which each stands at its first place -/
theorem nodup_iff : ∀ (ns : List Int), (∀ i k, ns[i]? = some k → k ∉ ns.take i) ↔ ns.Nodup := by
  intro ns
  constructor
  · intro h
    rw [List.nodup_iff_pairwise_ne, List.pairwise_iff_getElem]
    intro i j hi hj hij e
    refine h j ns[j] (List.getElem?_eq_getElem hj) ?_
    rw [← e]
    exact List.mem_take_iff_getElem.mpr ⟨i, by omega, rfl⟩
  · intro h i k hi hm
    rw [List.nodup_iff_pairwise_ne, List.pairwise_iff_getElem] at h
    obtain ⟨j, hj, e⟩ := List.mem_take_iff_getElem.mp hm
    have hlt : i < ns.length := (List.getElem?_eq_some_iff.mp hi).1
    refine h j i (by omega) hlt (by omega) ?_
    rw [e]
    exact (List.getElem?_eq_some_iff.mp hi).2.symm
theorem picked_nil {f : Nat → Bool} {g : Nat → PyData} {n : Nat} : (picked f g n).isEmpty = true ↔ ∀ i < n, f i = false := by
  unfold picked
  rw [List.isEmpty_iff, List.map_eq_nil_iff, List.filter_eq_nil_iff]
  constructor
  · intro h i hi
    simpa using h i (List.mem_range.mpr hi)
  · intro h i hi
    rw [h i (List.mem_range.mp hi)]
    decide
theorem filter_allD {ds : List PyData} (p : PyData → Bool) : (ds.filter fun d => !p d).isEmpty = ds.all p := by
  induction ds with
  | nil => rfl
  | cons d r ih =>
    rw [List.filter_cons, List.all_cons]
    cases h : p d with
    | true => simpa using ih
    | false => rfl
theorem cut_to {α : Type} (xs : List α) (i : Nat) : cutG xs none (some (i : Int)) = xs.take i := by
  unfold cutG
  rw [HT.sIx_none, HT.sIx_nat, List.drop_zero, Nat.sub_zero]
  by_cases h : i ≤ xs.length
  · rw [Nat.min_eq_left h]
  · rw [Nat.min_eq_right (by omega), List.take_of_length_le (Nat.le_refl _), List.take_of_length_le (by omega)]
end MA

set_option maxRecDepth 100000
set_option maxHeartbeats 2000000
namespace MA
open PySem PySem.Spec PyProof.Rows L2

/-! ## a list of three ints that is read and changed on the way: the bag of a drawn case -/
structure Bag (g : Addr) (B H : Hp) : Prop where
  own : B g = none
  has : ∃ x y z : Int, H g = some (.lst [.int x, .int y, .int z])
theorem Le.local {M : List Addr} {p : Addr} {B H B' H' : Hp} (l : Le (p :: M) B H B' H') (hp : H p = none) : Le M B H B' H' :=
  ⟨l.b, l.h, fun a o ha e => l.k a o (fun m => by
    rcases List.mem_cons.mp m with z | m
    · rw [z, hp] at e; cases e
    · exact ha m) e, l.t, l.n⟩
section
variable {g : Addr} {B H B' H' : Hp}
theorem Bag.pure (b : Bag g B H) (l : Le [] B H B' H') : Bag g B' H' := by
  obtain ⟨x, y, z, h⟩ := b.has
  exact ⟨l.own h b.own, x, y, z, l.k g _ (by simp) h⟩
theorem Bag.ne (b : Bag g B H) {p : Addr} (hp : H p = none) : p ≠ g := fun z => by
  obtain ⟨x, y, w, h⟩ := b.has
  rw [z, h] at hp
  cases hp
end
section
variable (K : PySem.W.Frag) (g : Addr)
def Eb (te : TE) (σ : L2.St) (B H : Hp) (R : PyData → Prop) : Prop := ∀ B1 H1, Le [g] B H B1 H1 → Bag g B1 H1 → ∀ Q : VK, (∀ d v B2 H2, R d → Le [g] B1 H1 B2 H2 → Bag g B2 H2 → Dq K B2 v d → Q v H2) → te σ H1 Q
def EbA (ta : TA) (σ : L2.St) (B H : Hp) (R : List PyData → Prop) : Prop := ∀ B1 H1, Le [g] B H B1 H1 → Bag g B1 H1 → ∀ Q : List V → Hp → Prop, (∀ ds vs B2 H2, R ds → Le [g] B1 H1 B2 H2 → Bag g B2 H2 → DqAll K B2 vs ds → Q vs H2) → ta σ H1 Q
def EbT (t : TT) (σ : L2.St) (B H : Hp) (R : Bool → Prop) : Prop := ∀ B1 H1, Le [g] B H B1 H1 → Bag g B1 H1 → ∀ Q : Bool → Hp → Prop, (∀ k B2 H2, R k → Le [g] B1 H1 B2 H2 → Bag g B2 H2 → Q k H2) → t σ H1 Q
/-- a def that draws from the bag, its first argument -/
def Bg (Pre : List PyData → Prop) (Post : List PyData → PyData → Prop) : Sp := fun vs H Q _ => ∃ g us B ds, vs = .ref g :: us ∧ Ex B H ∧ Bag g B H ∧ DqAll K B us ds ∧ Pre ds ∧ ∀ d, Post ds d → ∀ v B' H', Le [g] B H B' H' → Bag g B' H' → Dq K B' v d → Q v H'
end
abbrev RI (P : Int → Prop) : PyData → Prop := fun d => ∃ i : Int, d = .int i ∧ P i
section
variable {K : PySem.W.Frag} {g : Addr} {σ : L2.St} {B H : Hp} {ta tb te : TE} {t u : TT} {d : PyData} {R R1 Rb : PyData → Prop}
theorem eb_of (h : ∀ B1 H1, Le [g] B H B1 H1 → Ev K te σ B1 H1 d) : Eb K g te σ B H (· = d) := fun B1 H1 l b Q q =>
  h B1 H1 l B1 H1 (Le.refl l.h) Q fun v B2 H2 l2 hv => q d v B2 H2 rfl l2.any (b.pure l2) hv
theorem eba_of {ts : TA} {ds : List PyData} (h : ∀ B1 H1, Le [g] B H B1 H1 → EvA K ts σ B1 H1 ds) : EbA K g ts σ B H (· = ds) := fun B1 H1 l b Q q =>
  h B1 H1 l B1 H1 (Le.refl l.h) Q fun v B2 H2 l2 hv => q ds v B2 H2 rfl l2.any (b.pure l2) hv
theorem ebt_of {k : Bool} (h : ∀ B1 H1, Le [g] B H B1 H1 → EvT t σ B1 H1 k) : EbT g t σ B H (· = k) := fun B1 H1 l b Q q =>
  h B1 H1 l B1 H1 (Le.refl l.h) Q fun B2 H2 l2 => q k B2 H2 rfl l2.any (b.pure l2)
theorem Eb.imp (h : Eb K g te σ B H R1) (hr : ∀ d, R1 d → R d) : Eb K g te σ B H R := fun B1 H1 l b Q q => h B1 H1 l b Q fun d v B2 H2 r => q d v B2 H2 (hr d r)
theorem Eb.up {B' H' : Hp} (l : Le [g] B H B' H') (h : Eb K g te σ B H R) : Eb K g te σ B' H' R := fun B1 H1 l1 b Q q => h B1 H1 (l.trans l1) b Q q
theorem eb_op {r : R2} (ha : Eb K g ta σ B H R1) (hb : Eb K g tb σ B H Rb) (hr : ∀ x y, R1 x → Rb y → ∃ z, RV K r x y z ∧ R z) : Eb K g (tOp r ta tb) σ B H R := fun B1 H1 l b Q q =>
  ha B1 H1 l b _ fun x v B2 H2 r1 l2 b2 hv => hb B2 H2 (l.trans l2) b2 _ fun y w B3 H3 r2 l3 b3 hw => by
    obtain ⟨z, rv, rz⟩ := hr x y r1 r2
    exact rv B3 H3 v w l3.h (hv.mono l3.b) hw Q fun o B4 H4 l4 ho => q z o B4 H4 rz ((l2.trans l3).trans l4.any) (b3.pure l4) ho
theorem eba_nil : EbA K g tNil σ B H (· = []) := fun B1 H1 l b Q q => q [] [] B1 H1 rfl (Le.refl l.h) b .nil
theorem eba_cons {tr : TA} {Rr : List PyData → Prop} (ha : Eb K g ta σ B H R1) (hr : EbA K g tr σ B H Rr) : EbA K g (tCons ta tr) σ B H (fun ds => ∃ d r, ds = d :: r ∧ R1 d ∧ Rr r) := fun B1 H1 l b Q q =>
  ha B1 H1 l b _ fun x v B2 H2 r1 l2 b2 hv => hr B2 H2 (l.trans l2) b2 _ fun ys vs B3 H3 r2 l3 b3 hs => q (x :: ys) (v :: vs) B3 H3 ⟨x, ys, rfl, r1, r2⟩ (l2.trans l3) b3 (.cons (hv.mono l3.b) hs)
theorem eb_lst {ts : TA} {Rr : List PyData → Prop} (h : EbA K g ts σ B H Rr) (hz : ∀ ds, Rr ds → ds.length ≤ sizeLine) : Eb K g (tLst ts) σ B H (fun d => ∃ ds, d = .list ds ∧ Rr ds) := fun B1 H1 l b Q q =>
  h B1 H1 l b _ fun ds vs B2 H2 r l2 b2 hs => ⟨by rw [hs.length]; exact hz ds r, fun p hp => q (.list ds) (.ref p) _ _ ⟨ds, rfl, r⟩ (l2.trans (Le.new l2.h hp)) (b2.pure (Le.new l2.h hp)) (.lst upd_same (hs.mono (Le.new (M := []) l2.h hp).b))⟩
theorem eb_tup {ts : TA} {Rr : List PyData → Prop} (h : EbA K g ts σ B H Rr) (hz : ∀ ds, Rr ds → ds.length ≤ sizeLine) : Eb K g (tTup ts) σ B H (fun d => ∃ ds, d = .tuple ds ∧ Rr ds) := fun B1 H1 l b Q q =>
  h B1 H1 l b _ fun ds vs B2 H2 r l2 b2 hs => ⟨by rw [hs.length]; exact hz ds r, fun p hp => q (.tuple ds) (.ref p) _ _ ⟨ds, rfl, r⟩ (l2.trans (Le.new l2.h hp)) (b2.pure (Le.new l2.h hp)) (.tup (.inl (.inl upd_same)) (hs.mono (Le.new (M := []) l2.h hp).b))⟩
theorem eb_call {Pre : List PyData → Prop} {Post : List PyData → PyData → Prop} {E : XK} {i : Nat} {ts : TA} {Rr : List PyData → Prop} (hb : σ[i]? = some (some (.ref g))) (h : EbA K g ts σ B H Rr) (hp : ∀ ds, Rr ds → Pre ds) :
    Eb K g (tCall (Bg K Pre Post) [] E (tCons (tVar i) ts)) σ B H (fun d => ∃ ds, Rr ds ∧ Post ds d) := fun B1 H1 l b Q q => by
  refine ⟨.ref g, hb, ?_⟩
  refine h B1 H1 l b _ fun ds vs B2 H2 r l2 b2 hs => ⟨g, vs, B2, ds, by rw [List.append_nil], l2.h, b2, hs, hp ds r, fun d pd v B3 H3 l3 b3 hv => ?_⟩
  exact q d v B3 H3 ⟨ds, r, pd⟩ (l2.trans l3) b3 hv
theorem eb_sl {rr : V → Option Int → Option Int → Hp → VK → Prop} {P : Int → Prop} (h : Eb K g ta σ B H R1) (h2 : Eb K g tb σ B H (RI P)) (hr : ∀ x i, R1 x → P i → ∃ z, RS K rr x none (some i) z ∧ R z) : Eb K g (tSl rr ta tNoPart (tPart tb)) σ B H R := fun B1 H1 l b Q q =>
  h B1 H1 l b _ fun x v B2 H2 r1 l2 b2 hv => h2 B2 H2 (l.trans l2) b2 _ fun y w B3 H3 r2 l3 b3 hw => by
    obtain ⟨i, rfl, hi⟩ := r2
    cases hw
    obtain ⟨z, rs, rz⟩ := hr x i r1 hi
    exact ⟨i, rfl, rs B3 H3 v l3.h (hv.mono l3.b) Q fun o B4 H4 l4 ho => q z o B4 H4 rz ((l2.trans l3).trans l4.any) (b3.pure l4) ho⟩
theorem ebt_test {P : Bool → Prop} (h : Eb K g te σ B H (fun d => ∃ k, d = .bool k ∧ P k)) : EbT g (tTest te) σ B H P := fun B1 H1 l b Q q => h B1 H1 l b _ fun d v B2 H2 r l2 b2 hv => by
  obtain ⟨k, rfl, p⟩ := r
  cases hv
  exact ⟨k, rfl, q k B2 H2 p l2 b2⟩
theorem ebt_and {P1 P2 P : Bool → Prop} (h1 : EbT g t σ B H P1) (h2 : P1 true → EbT g u σ B H P2) (hf : P1 false → P false) (ht : ∀ k, P2 k → P k) : EbT g (tAnd t u) σ B H P := fun B1 H1 l b Q q => h1 B1 H1 l b _ fun k B2 H2 p l2 b2 => by
  cases k with
  | true => exact h2 p B2 H2 (l.trans l2) b2 _ fun j B3 H3 pj l3 b3 => q j B3 H3 (ht j pj) (l2.trans l3) b3
  | false => exact q false B2 H2 (hf p) l2 b2
/-! statements -/
variable {D : Ends} {tu tw tz : TS}
theorem b_set {i : Nat} (h : Eb K g te σ B H R) (e : Ex B H) (b : Bag g B H) (q : ∀ d v B' H', R d → Le [g] B H B' H' → Bag g B' H' → Dq K B' v d → tz D (σ.set i (some v)) H') : tSeq (tAsg te (gName i)) tz D σ H := h B H (Le.refl e) b _ q
theorem b_ret (h : Eb K g te σ B H R) (e : Ex B H) (b : Bag g B H) (q : ∀ d v B' H', R d → Le [g] B H B' H' → Bag g B' H' → Dq K B' v d → D.rt v H') : tRet te D σ H := h B H (Le.refl e) b _ q
/-- a number below n, from the bag -/
abbrev PickS (K : PySem.W.Frag) : Sp := Bg K (fun ds => ∃ n : Int, ds = [.int n] ∧ 0 < n ∧ n < 1073741824) fun ds d => ∃ n r : Int, ds = [.int n] ∧ d = .int r ∧ 0 ≤ r ∧ r < n
theorem eb_pick {E : XK} {i : Nat} {P : Int → Prop} (hb : σ[i]? = some (some (.ref g))) (h : Eb K g te σ B H (RI P)) (hp : ∀ n, P n → 0 < n ∧ n < 1073741824) : Eb K g (tCall (PickS K) [] E (tCons (tVar i) (tCons te tNil))) σ B H (RI fun r => ∃ n, P n ∧ 0 ≤ r ∧ r < n) :=
  (eb_call hb (eba_cons h eba_nil) fun ds r => by
    obtain ⟨d, r, rfl, ⟨n, rfl, pn⟩, rfl⟩ := r
    exact ⟨n, rfl, hp n pn⟩).imp fun d h => by
      obtain ⟨ds, ⟨x, r, rfl, ⟨n, rfl, pn⟩, rfl⟩, m, r, e, rfl, h1, h2⟩ := h
      cases e
      exact ⟨r, rfl, n, pn, h1, h2⟩
theorem eb_pickC {E : XK} {i : Nat} {n : Int} (hb : σ[i]? = some (some (.ref g))) (h : ∀ B1 H1, Le [g] B H B1 H1 → Ev K te σ B1 H1 (.int n)) (h0 : 0 < n) (h1 : n < 1073741824) : Eb K g (tCall (PickS K) [] E (tCons (tVar i) (tCons te tNil))) σ B H (RI fun r => 0 ≤ r ∧ r < n) :=
  (eb_pick (P := (· = n)) hb ((eb_of h).imp fun d e => ⟨n, e, rfl⟩) fun m e => by subst e; exact ⟨h0, h1⟩).imp fun d h => by
    obtain ⟨r, rfl, m, rfl, h1, h2⟩ := h
    exact ⟨r, rfl, h1, h2⟩
theorem ei_of {i : Int} (h : ∀ B1 H1, Le [g] B H B1 H1 → Ev K te σ B1 H1 (.int i)) : Eb K g te σ B H (RI (· = i)) := (eb_of h).imp fun d e => ⟨i, e, rfl⟩
theorem ei_op {r : R2} {f : Int → Int → Int} {P1 P2 P : Int → Prop} (ha : Eb K g ta σ B H (RI P1)) (hb : Eb K g tb σ B H (RI P2)) (hr : ∀ i j, P1 i → P2 j → RV K r (.int i) (.int j) (.int (f i j)) ∧ P (f i j)) : Eb K g (tOp r ta tb) σ B H (RI P) :=
  eb_op ha hb fun x y h1 h2 => by
    obtain ⟨i, rfl, p1⟩ := h1
    obtain ⟨j, rfl, p2⟩ := h2
    exact ⟨_, (hr i j p1 p2).1, _, rfl, (hr i j p1 p2).2⟩
theorem bg_len {Pre : List PyData → Prop} {Post : List PyData → PyData → Prop} {n : Nat} (hn : ∀ ds, Pre ds → ds.length = n) (vs : List V) (H : Hp) (Q : VK) (E : XK) (h : Bg K Pre Post vs H Q E) : vs.length = n + 1 := by
  obtain ⟨g, us, B, ds, rfl, _, _, h1, h2, _⟩ := h
  rw [List.length_cons, h1.length, hn ds h2]
end
section
variable {K : PySem.W.Frag} {g p : Addr} {σ : L2.St} {B H : Hp}
theorem ix_own {xs : List V} {i : Int} {v : V} {Q : VK} (h : H p = some (.lst xs)) (hv : atI xs i = some v) (q : Q v H) : rIx K (.ref p) (.int i) H Q := .inl (by
  exact ⟨p, xs, i, v, rfl, rfl, .inl (.inl h), hv, q⟩)
theorem idx_nat {r : Int} {n : Nat} (h0 : 0 ≤ r) (h1 : r < n) : seqIndex? r n = some r.toNat := by
  have h := (ixN_seq (n := n) (i := r) (j := r.toNat) (by unfold ixN; rw [if_pos h0, if_pos (by omega)])).1
  exact h
theorem yes_i {F : Bool → Hp → Prop} (h : F true H) : tYes σ H F := h
theorem erase_mapM {α β : Type} (f : α → β) : ∀ (l : List α) (j : Nat), (l.map f).eraseIdx j = (l.eraseIdx j).map f
  | [], _ => rfl
  | _ :: _, 0 => rfl
  | a :: l, j + 1 => by rw [List.map_cons, List.eraseIdx_cons_succ, List.eraseIdx_cons_succ, List.map_cons, erase_mapM f l j]
theorem erase_permM {α : Type} : ∀ (l : List α) (i : Nat) (y : α), l[i]? = some y → (y :: l.eraseIdx i).Perm l
  | [], i, y, h => by simp at h
  | a :: l, 0, y, h => by
    simp at h
    subst h
    exact .refl _
  | a :: l, i + 1, y, h => by
    rw [List.eraseIdx_cons_succ]
    exact (List.Perm.swap a y _).trans ((erase_permM l i y (by simpa using h)).cons a)
/-- [left.pop(pick(bag, len(left))) for k in range(n)] -/
theorem b_pops {ta : TA} {j a b : Nat} {vs : List Nat} {xs : List Int} {n : Int} {Q : VK} (hta : EvA K ta σ B H [.int n]) (e : Ex B H) (hb : Bag g B H) (hp : B p = none) (hpl : H p = some (.lst (xs.map V.int))) (hpg : p ≠ g)
    (hw : ∀ x, wipe ((wipe σ vs).set j (some x)) vs = wipe σ vs) (ha : ∀ x, ((wipe σ vs).set j (some x))[a]? = some (some (.ref p))) (hbb : ∀ x, ((wipe σ vs).set j (some x))[b]? = some (some (.ref g)))
    (hn0 : 0 ≤ n) (hn : n ≤ xs.length) (hx : xs.length ≤ 1000)
    (q : ∀ (acc rest : List Int) (v : V) B' H', (acc ++ rest).Perm xs → (acc.length : Int) = n → Le [p, g] B H B' H' → Bag g B' H' → Dq K B' v (.list (acc.map PyData.int)) → Q v H') :
    tLc (iRng1 ta) (gName j) tYes (tBM K "list" rPopAt (tVar a) (tCons (tCall (PickS K) [] E0 (tCons (tVar b) (tCons (tCB (rLenA K) (tCons (tVar a) tNil)) tNil))) tNil)) vs σ H Q := by
  refine hta B H (Le.refl e) _ fun us B1 H1 l1 hus => ?_
  obtain ⟨u, rfl, hu⟩ := dq1 hus
  cases hu
  refine ⟨n, rfl, by omega, by omega, fun D hD => ?_⟩
  have hb1 := hb.pure l1
  have hp1 : B1 p = none := l1.own hpl hp
  have hpl1 := l1.k p _ (by simp) hpl
  have hDg := hb1.ne hD
  have hDp : D ≠ p := fun z => by rw [z, hpl1] at hD; cases hD
  have hDb : B1 D = none := by
    cases z : B1 D with
    | none => rfl
    | some o => rw [l1.h D o z] at hD; cases hD
  have hsl : 1000 < sizeLine := by rw [sizeLine_eq]; decide
  refine lc_range (lo := 0) (n := n.toNat) (fun i Hi => ∃ (Bi : Hp) (acc rest : List Int), Le [D, p, g] B1 H1 Bi Hi ∧ Bag g Bi Hi ∧ Bi p = none ∧ Hi p = some (.lst (rest.map V.int)) ∧ Bi D = none ∧ Hi D = some (.lst (acc.map V.int)) ∧ (acc ++ rest).Perm xs ∧ acc.length = i) ?_ ?_ ?_
  · obtain ⟨x, y, z, hg⟩ := hb1.has
    exact ⟨B1, [], xs, Le.made l1.h hD, ⟨hb1.own, x, y, z, by rw [upd_ne (Ne.symm hDg)]; exact hg⟩, hp1, by rw [upd_ne (Ne.symm hDp)]; exact hpl1, hDb, upd_same, .refl _, rfl⟩
  · rintro i Hi hi ⟨Bi, acc, rest, li, bi, pi, pl, di, dl, pm, ln⟩
    have hlen := pm.length_eq
    rw [List.length_append] at hlen
    have hr0 : 0 < rest.length := by omega
    refine ⟨hw _, ?_⟩
    refine yes_i ?_
    rw [if_pos rfl]
    refine ⟨.ref p, ha _, .inl ⟨rfl, _, .inl (.inl pl)⟩, ?_⟩
    refine ⟨.ref g, hbb _, .ref p, ha _, p, rest.map V.int, rfl, .inl (.inl (.inl pl)), ?_⟩
    rw [List.length_map]
    refine ⟨g, [.int rest.length], Bi, [.int rest.length], rfl, li.h, bi, .cons (.int _) .nil, ⟨rest.length, rfl, by omega, by omega⟩, ?_⟩
    rintro d ⟨m, r, em, rfl, r0, r1⟩ v B2 H2 l2 b2 hv
    cases em
    cases hv
    have pl2 := l2.k p _ (by simp [hpg]) pl
    have p2 := l2.own pl pi
    have dl2 := l2.k D _ (by simp [hDg]) dl
    have d2 := l2.own dl di
    have hk : r.toNat < rest.length := by omega
    refine ⟨p, rest.map V.int, r, r.toNat, .int rest[r.toNat], rfl, rfl, pl2, by omega, by omega, by rw [List.length_map]; exact idx_nat r0 r1, by rw [List.getElem?_map, List.getElem?_eq_getElem hk]; rfl, ?_⟩
    refine ⟨acc.map V.int, by rw [upd_ne hDp]; exact dl2, by rw [List.length_map]; omega, B2, acc ++ [rest[r.toNat]], rest.eraseIdx r.toNat, ?_, ?_, p2, ?_, d2, ?_, ?_, by rw [List.length_append, ln]; rfl⟩
    · have q1 : Le [D, p, g] B2 H2 B2 (upd H2 p (.lst ((rest.map V.int).eraseIdx r.toNat))) := Le.put l2.h p2 (by simp)
      have q2 : Le [D, p, g] B2 (upd H2 p (.lst ((rest.map V.int).eraseIdx r.toNat))) B2 (upd (upd H2 p (.lst ((rest.map V.int).eraseIdx r.toNat))) D (.lst (acc.map V.int ++ [.int rest[r.toNat]]))) := Le.put q1.h d2 (by simp)
      exact (li.trans (l2.wk (by simp))).trans (q1.trans q2)
    · obtain ⟨x, y, z, hg⟩ := b2.has
      exact ⟨b2.own, x, y, z, by rw [upd_ne (Ne.symm hDg), upd_ne (Ne.symm hpg)]; exact hg⟩
    · rw [upd_ne (Ne.symm hDp), upd_same, erase_mapM V.int]
    · rw [upd_same, List.map_append]; rfl
    · refine .trans ?_ pm
      rw [List.append_assoc]
      refine List.Perm.append_left acc ?_
      exact erase_permM rest r.toNat _ (List.getElem?_eq_getElem hk)
  · rintro Hi ⟨Bi, acc, rest, li, bi, pi, pl, di, dl, pm, ln⟩
    have lf : Le [p, g] B1 H1 Bi Hi := li.local hD
    have lg := lf.give hD di dl
    refine q acc rest (.ref D) _ Hi pm (by omega) (l1.any.trans lg) ⟨by rw [upd_ne (Ne.symm hDg)]; exact bi.own, bi.has⟩ (.lst upd_same (dqInts _))
end
/-- a new bag -/
def BagS : Sp := fun vs H Q _ => ∃ c : Int, vs = [.int c] ∧ ∀ (p : Addr) (x y z : Int), H p = none → Q (.ref p) (upd H p (.lst [.int x, .int y, .int z]))
/-- the items of a drawn line -/
abbrev ItemsS (K : PySem.W.Frag) : Sp := Bg K (fun ds => ∃ n : Int, ds = [.int n] ∧ 0 ≤ n ∧ n ≤ 60) fun ds d => ∃ (n : Int) (xs : List Int), ds = [.int n] ∧ d = .list (xs.map PyData.int) ∧ (xs.length : Int) = n ∧ xs.Nodup ∧ ∀ k ∈ xs, 0 ≤ k ∧ k < 60
theorem perm_part {acc rest xs : List Int} (h : (acc ++ rest).Perm xs) (hn : xs.Nodup) : acc.Nodup ∧ ∀ k ∈ acc, k ∈ xs :=
  ⟨(List.nodup_append.mp (h.symm.nodup hn)).1, fun k hk => h.mem_iff.mp (List.mem_append_left _ hk)⟩
def ints60 : List Int := (List.range 60).map fun (i : Nat) => (i : Int)
theorem ite_b {k : Bool} {F G : Prop} (h1 : k = true → F) (h2 : k = false → G) : if k = true then F else G := by
  cases k with
  | true => rw [if_pos rfl]; exact h1 rfl
  | false => rw [if_neg (by decide)]; exact h2 rfl
theorem rgV60 : rgV 0 60 = ints60.map V.int := by decide +kernel
theorem ints60_nd : ints60.Nodup := by decide +kernel
theorem ints60_in : ∀ k ∈ ints60, 0 ≤ k ∧ k < 60 := by decide +kernel
end MA

set_option maxRecDepth 100000
set_option maxHeartbeats 2000000
namespace MA
open PySem PySem.Spec PyProof.Rows L2
/-! ## drawn scripts -/
def GoodC (xs : List Int) (c : PyData) : Prop := ∃ (w : PySem.Str) (i j : Int), c = .tuple [.str w, .int i, .int j] ∧ (w = "behind" ∨ w = "before") ∧ i ∈ xs ∧ j ∈ xs ∧ i ≠ j
abbrev ScriptS (K : PySem.W.Frag) : Sp := Bg K (fun ds => ∃ (xs : List Int) (m : Int), ds = [.list (xs.map PyData.int), .int m] ∧ 2 ≤ xs.length ∧ xs.length ≤ 60 ∧ xs.Nodup ∧ 1 ≤ m ∧ m ≤ 1000)
  fun ds d => ∃ (xs : List Int) (m : Int) (cs : List PyData), ds = [.list (xs.map PyData.int), .int m] ∧ d = .tuple cs ∧ 1 ≤ cs.length ∧ (cs.length : Int) ≤ m ∧ ∀ c ∈ cs, GoodC xs c
abbrev CaseS (K : PySem.W.Frag) : Sp := Bg K (fun ds => ∃ (m l : Int), ds = [.int m, .int l] ∧ 2 ≤ m ∧ m ≤ 60 ∧ 1 ≤ l ∧ l ≤ 1000)
  fun ds d => ∃ (m l : Int) (xs : List Int) (cs : List PyData), ds = [.int m, .int l] ∧ d = .tuple [.tuple (xs.map PyData.int), .tuple cs] ∧ 2 ≤ xs.length ∧ (xs.length : Int) ≤ m ∧ xs.Nodup ∧ (∀ k ∈ xs, 0 ≤ k ∧ k < 60) ∧ 1 ≤ cs.length ∧ (cs.length : Int) ≤ l ∧ ∀ c ∈ cs, GoodC xs c
/-- some of the items -/
structure SomeL (xs ss : List Int) : Prop where
  two : 2 ≤ ss.length
  small : ss.length ≤ 60
  nd : ss.Nodup
  sub : ∀ k ∈ ss, k ∈ xs
theorem SomeL.take {xs ss : List Int} (h : SomeL xs ss) {i : Int} (hi : 2 ≤ i) : SomeL xs (ss.take i.toNat) :=
  ⟨by rw [List.length_take]; have := h.two; omega, by rw [List.length_take]; have := h.small; omega, h.nd.sublist (List.take_sublist _ _), fun k hk => h.sub k (List.mem_of_mem_take hk)⟩
theorem cut_ints (ss : List Int) {i : Int} (hi : 0 ≤ i) : cutG (ss.map PyData.int) none (some i) = (ss.take i.toNat).map PyData.int := by
  have := cut_to (ss.map PyData.int) i.toNat
  rw [show ((i.toNat : Nat) : Int) = i by omega] at this
  rw [this, List.map_take]
theorem nd_get {ss : List Int} (h : ss.Nodup) {i j : Nat} {a b : Int} (hi : ss[i]? = some a) (hj : ss[j]? = some b) (hne : i ≠ j) : a ≠ b := fun e => by
  subst e
  obtain ⟨h1, e1⟩ := List.getElem?_eq_some_iff.mp hi
  obtain ⟨h2, e2⟩ := List.getElem?_eq_some_iff.mp hj
  rw [List.nodup_iff_pairwise_ne, List.pairwise_iff_getElem] at h
  rcases Nat.lt_or_gt_of_ne hne with z | z
  · exact h i j h1 h2 z (by rw [e1, e2])
  · exact h j i h2 h1 z (by rw [e1, e2])
theorem round_ne {a r n : Int} (h0 : 0 ≤ a) (h1 : a < n) (h2 : 0 ≤ r) (h3 : r < n - 1) : (a + 1 + r) % n ≠ a := by
  by_cases z : a + 1 + r < n
  · rw [Int.emod_eq_of_lt (by omega) z]; omega
  · have h := Int.add_mul_emod_self_left (a + 1 + r - n) n 1
    rw [Int.mul_one, show a + 1 + r - n + n = a + 1 + r by omega] at h
    have h4 : (a + 1 + r - n) % n = a + 1 + r - n := Int.emod_eq_of_lt (by omega) (by omega)
    rw [h, h4]
    omega
theorem next_ne {k n : Int} (h0 : 0 ≤ k) (h1 : 2 ≤ n) : k % n ≠ (k + 1) % n := by
  have e : (k + 1) % n = (k % n + 1 + 0) % n := by rw [Int.add_zero, Int.emod_add_emod]
  rw [e]
  exact (round_ne (Int.emod_nonneg _ (by omega)) (Int.emod_lt_of_pos _ (by omega)) (by omega) (by omega)).symm
def rInt1 : List V → Hp → VK → Prop := fun xs H Q => (∃ i, xs = [.int i] ∧ Q (.int i) H) ∨ ∃ k, xs = [.bl k] ∧ Q (.int (if k then 1 else 0)) H
section
variable {K : PySem.W.Frag} {g p : Addr} {σ : L2.St} {B H : Hp} {ta tb te : TE} {t u : TT} {d : PyData} {R R1 Rb : PyData → Prop} {D : Ends} {tu tw tz : TS}
theorem rc_int1 {k : Bool} : RC K rInt1 [.bool k] (.int (if k then 1 else 0)) := fun B H vs e hvs Q q => by
  obtain ⟨v, rfl, hv⟩ := dq1 hvs
  cases hv
  exact .inr ⟨k, rfl, q _ B H (Le.refl e) (.int _)⟩
/-- an if without else that keeps a word of the slots -/
theorem q_whenS {k : Bool} (I : L2.St → Hp → Prop) (h : EvT t σ B H k) (e : Ex B H) (h1 : k = true → ∀ B' H', Le [] B H B' H' → ∀ N : L2.St → Hp → Prop, (∀ σ' B2 H2, Le [] B' H' B2 H2 → I σ' B2 → N σ' H2) → tu { D with nx := N } σ H') (h2 : k = false → ∀ B' H', Le [] B H B' H' → I σ B')
    (hz : ∀ σ' B' H', Le [] B H B' H' → I σ' B' → tz D σ' H') : tSeq (tIfS t tu tNext) tz D σ H :=
  q_when h e (fun hk B' H' l => h1 hk B' H' l _ fun σ' B2 H2 l2 i => hz σ' B2 H2 (l.trans l2) i) fun hk B' H' l => hz σ B' H' l (h2 hk B' H' l)
theorem b_if {P : Bool → Prop} (h : EbT g t σ B H P) (e : Ex B H) (b : Bag g B H) (h1 : P true → ∀ B' H', Le [g] B H B' H' → Bag g B' H' → tu D σ H') (h2 : P false → ∀ B' H', Le [g] B H B' H' → Bag g B' H' → tw D σ H') : tIfS t tu tw D σ H := h B H (Le.refl e) b _ fun k B' H' pk l b' => by
  cases k with
  | true => exact h1 pk B' H' l b'
  | false => exact h2 pk B' H' l b'
/-- p.append(..), p a list of ours -/
theorem b_append {i : Nat} {vs : List V} (hi : σ[i]? = some (some (.ref p))) (h : Eb K g te σ B H R) (e : Ex B H) (b : Bag g B H) (hp : B p = none) (hpl : H p = some (.lst vs)) (hpg : p ≠ g) (hz : vs.length < 100000)
    (q : ∀ d v B' H', R d → Le [p, g] B H B' H' → Bag g B' H' → B' p = none → H' p = some (.lst (vs ++ [v])) → Dq K B' v d → D.nx σ H') : tDrop (tBM K "list" rAppend (tVar i) (tCons te tNil)) D σ H := by
  refine ⟨.ref p, hi, .inl ⟨rfl, vs, .inl (.inl hpl)⟩, ?_⟩
  refine h B H (Le.refl e) b _ fun d v B' H' r l b' hv => ?_
  have hp' := l.own hpl hp
  have hpl' := l.k p _ (by simp [hpg]) hpl
  have hsl : 100000 < sizeLine := by rw [sizeLine_eq]; decide
  refine ⟨p, vs, v, rfl, rfl, hpl', by omega, ?_⟩
  have l2 : Le [p, g] B' H' B' (upd H' p (.lst (vs ++ [v]))) := Le.put l.h hp' (by simp)
  obtain ⟨x, y, z, hg⟩ := b'.has
  exact q d v B' _ r ((l.wk (by simp)).trans l2) ⟨b'.own, x, y, z, by rw [upd_ne (Ne.symm hpg)]; exact hg⟩ hp' upd_same hv
/-- what is read of a list of ours -/
theorem ev_own {vs : List V} {cs : List PyData} (h : ∀ B1, B1 p = some (.lst vs) → Dq K B1 (.ref p) (.list cs) → Ex B1 H → (∀ a o, B a = some o → B1 a = some o) → Ev K te σ B1 H d) (hq : DqAll K B vs cs) (e : Ex B H) (hp : B p = none) (hpl : H p = some (.lst vs)) (sc : ∀ {H1 H2 : Hp} {v : V}, Dq K H1 v d → Dq K H2 v d) : Ev K te σ B H d :=
  Ev.own (h (upd B p (.lst vs)) upd_same (.lst upd_same (hq.mono (Evl.Ex.new hp))) (ex_give e hpl) (Evl.Ex.new hp)) hpl hp sc
theorem sc_int {i : Int} : ∀ {H1 H2 : Hp} {v : V}, Dq K H1 v (.int i) → Dq K H2 v (.int i) := fun h => by cases h; exact .int _
theorem sc_bool {i : Bool} : ∀ {H1 H2 : Hp} {v : V}, Dq K H1 v (.bool i) → Dq K H2 v (.bool i) := fun h => by cases h; exact .bl _
theorem q_asgR {i : Nat} (h : te σ H fun v H' => tz D (σ.set i (some v)) H') : tSeq (tAsg te (gName i)) tz D σ H := h
end
end MA

set_option maxRecDepth 100000
set_option maxHeartbeats 2000000
namespace MA
open PySem PySem.Spec PyProof.Rows L2

/-! ## small plain data: what repr needs -/
structure Sm (k w : Nat) (d : PyData) : Prop where
  sh : d.showable = true
  lf : d.leavesShort 30 = true
  wt : d.weight ≤ w
  dp : d.depth ≤ k
def Pl (k w : Nat) (d : PyData) : Prop := Sm k w d ∧ noList d = true ∧ d.hasDict = false
def Od (k w : Nat) (d : PyData) : Prop := Sm k w d ∧ (d.hasDict = false ∨ noList d = true)
theorem Sm.mono {k w k' w' : Nat} {d : PyData} (h : Sm k w d) (hk : k ≤ k') (hw : w ≤ w') : Sm k' w' d := ⟨h.sh, h.lf, Nat.le_trans h.wt hw, Nat.le_trans h.dp hk⟩
theorem Pl.mono {k w k' w' : Nat} {d : PyData} (h : Pl k w d) (hk : k ≤ k') (hw : w ≤ w') : Pl k' w' d := ⟨h.1.mono hk hw, h.2⟩
theorem Od.mono {k w k' w' : Nat} {d : PyData} (h : Od k w d) (hk : k ≤ k') (hw : w ≤ w') : Od k' w' d := ⟨h.1.mono hk hw, h.2⟩
theorem Pl.od {k w : Nat} {d : PyData} (h : Pl k w d) : Od k w d := ⟨h.1, .inl h.2.2⟩
section
variable {k w W : Nat}
theorem all_sh : ∀ {xs : List PyData}, (∀ x ∈ xs, x.showable = true) → PyData.showableAll xs = true
  | [], _ => by simp [PyData.showableAll]
  | x :: xs, h => by simp only [PyData.showableAll, h x (List.mem_cons_self ..), all_sh fun y hy => h y (List.mem_cons_of_mem _ hy), Bool.and_self]
theorem all_lf : ∀ {xs : List PyData}, (∀ x ∈ xs, x.leavesShort 30 = true) → PyData.leavesShortAll 30 xs = true
  | [], _ => by simp [PyData.leavesShortAll]
  | x :: xs, h => by simp only [PyData.leavesShortAll, h x (List.mem_cons_self ..), all_lf fun y hy => h y (List.mem_cons_of_mem _ hy), Bool.and_self]
theorem all_wt : ∀ {xs : List PyData}, (∀ x ∈ xs, x.weight ≤ w) → PyData.weightAll xs ≤ xs.length * (w + 1)
  | [], _ => by simp [PyData.weightAll]
  | x :: xs, h => by
    have h1 := h x (List.mem_cons_self ..)
    have h2 := all_wt fun y hy => h y (List.mem_cons_of_mem x hy)
    simp only [PyData.weightAll, List.length_cons, Nat.add_mul, Nat.one_mul]
    omega
theorem all_dp : ∀ {xs : List PyData}, (∀ x ∈ xs, x.depth ≤ k) → PyData.depthAll xs ≤ k
  | [], _ => by simp [PyData.depthAll]
  | x :: xs, h => by
    have h1 := h x (List.mem_cons_self ..)
    have h2 := all_dp fun y hy => h y (List.mem_cons_of_mem x hy)
    simp only [PyData.depthAll]
    omega
theorem all_nl : ∀ {xs : List PyData}, (∀ x ∈ xs, noList x = true) → noListAll xs = true
  | [], _ => by simp [noListAll]
  | x :: xs, h => by simp only [noListAll, h x (List.mem_cons_self ..), all_nl fun y hy => h y (List.mem_cons_of_mem _ hy), Bool.and_self]
theorem all_nd : ∀ {xs : List PyData}, (∀ x ∈ xs, x.hasDict = false) → PyData.hasDictAll xs = false
  | [], _ => by simp [PyData.hasDictAll]
  | x :: xs, h => by simp only [PyData.hasDictAll, h x (List.mem_cons_self ..), all_nd fun y hy => h y (List.mem_cons_of_mem _ hy), Bool.or_self]
theorem Sm.tup {xs : List PyData} (h : ∀ x ∈ xs, Sm k w x) (hW : xs.length * (w + 1) ≤ W) : Sm (k + 1) W (.tuple xs) :=
  ⟨by simpa only [PyData.showable] using all_sh fun x hx => (h x hx).sh, by simpa only [PyData.leavesShort] using all_lf fun x hx => (h x hx).lf,
    by simp only [PyData.weight]; exact Nat.le_trans (all_wt fun x hx => (h x hx).wt) hW, by simp only [PyData.depth]; exact Nat.succ_le_succ (all_dp fun x hx => (h x hx).dp)⟩
theorem Sm.lst {xs : List PyData} (h : ∀ x ∈ xs, Sm k w x) (hW : xs.length * (w + 1) ≤ W) : Sm (k + 1) W (.list xs) :=
  ⟨by simpa only [PyData.showable] using all_sh fun x hx => (h x hx).sh, by simpa only [PyData.leavesShort] using all_lf fun x hx => (h x hx).lf,
    by simp only [PyData.weight]; exact Nat.le_trans (all_wt fun x hx => (h x hx).wt) hW, by simp only [PyData.depth]; exact Nat.succ_le_succ (all_dp fun x hx => (h x hx).dp)⟩
theorem len_mul {n m : Nat} (h : n ≤ m) (hW : m * (w + 1) ≤ W) : n * (w + 1) ≤ W := Nat.le_trans (Nat.mul_le_mul_right _ h) hW
theorem Pl.tup {xs : List PyData} (h : ∀ x ∈ xs, Pl k w x) (hW : xs.length * (w + 1) ≤ W) : Pl (k + 1) W (.tuple xs) :=
  ⟨.tup (fun x hx => (h x hx).1) hW, by simp only [noList]; exact all_nl fun x hx => (h x hx).2.1, by simp only [PyData.hasDict]; exact all_nd fun x hx => (h x hx).2.2⟩
theorem Od.lst {xs : List PyData} (h : ∀ x ∈ xs, Pl k w x) (hW : xs.length * (w + 1) ≤ W) : Od (k + 1) W (.list xs) :=
  ⟨.lst (fun x hx => (h x hx).1) hW, .inl (by simp only [PyData.hasDict]; exact all_nd fun x hx => (h x hx).2.2)⟩
/-- one odd value among plain ones -/
theorem Od.tup {o : PyData} {xs : List PyData} (ho : Od k w o) (h : ∀ x ∈ xs, x = o ∨ Pl k w x) (hW : xs.length * (w + 1) ≤ W) : Od (k + 1) W (.tuple xs) := by
  have hs : ∀ x ∈ xs, Sm k w x := fun x hx => (h x hx).elim (fun e => e ▸ ho.1) fun p => p.1
  refine ⟨.tup hs hW, ?_⟩
  rcases ho.2 with z | z
  · exact .inl (by simp only [PyData.hasDict]; exact all_nd fun x hx => (h x hx).elim (fun e => e ▸ z) fun p => p.2.2)
  · exact .inr (by simp only [noList]; exact all_nl fun x hx => (h x hx).elim (fun e => e ▸ z) fun p => p.2.1)
end
/-! atoms -/
def plB (d : PyData) : Bool := d.showable && d.leavesShort 30 && decide (d.weight ≤ 70) && decide (d.depth ≤ 0) && noList d && !d.hasDict
theorem pl_of {d : PyData} (h : plB d = true) : Pl 0 70 d := by
  simp only [plB, Bool.and_eq_true, decide_eq_true_eq, Bool.not_eq_true'] at h
  exact ⟨⟨h.1.1.1.1.1, h.1.1.1.1.2, h.1.1.1.2, h.1.1.2⟩, h.1.2, h.2⟩
theorem pl_items : ∀ i ∈ ints60, plB (.int i) = true := by decide +kernel
theorem pl_int {i : Int} (h0 : 0 ≤ i) (h1 : i < 60) : Pl 0 70 (.int i) := by
  refine pl_of (pl_items i ?_)
  unfold ints60
  exact List.mem_map.mpr ⟨i.toNat, List.mem_range.mpr (by omega), by omega⟩
theorem pl_word {x : PySem.Str} (h : x = "behind" ∨ x = "before") : Pl 0 70 (.str x) := by
  rcases h with rfl | rfl <;> exact pl_of (by decide +kernel)
/-- what the law shows -/
def Ov (d : PyData) : Prop := Od 6 400000 d ∧ tlen d ≤ 1000
theorem Ov.repr {d : PyData} (h : Ov d) : d.showable = true ∧ (d.hasDict = false ∨ noList d = true) ∧ d.shown.length ≤ sizeLine ∧ d.depth ≤ 60 := by
  refine ⟨h.1.1.sh, h.1.2, ?_, Nat.le_trans h.1.1.dp (by decide)⟩
  have h1 := PyData.shown_le 30 (by decide) d h.1.1.lf
  have h2 := h.1.1.wt
  rw [sizeLine_eq]
  omega
/-! ## values of which something holds -/
section
variable (K : PySem.W.Frag)
def EvV (te : TE) (σ : L2.St) (B H : Hp) (P : PyData → Prop) : Prop := ∃ d, Ev K te σ B H d ∧ P d
def EaV (ta : TA) (σ : L2.St) (B H : Hp) (P : PyData → Prop) (n : Nat) : Prop := ∃ ds, EvA K ta σ B H ds ∧ (∀ d ∈ ds, P d) ∧ ds.length = n
def EvC (c : List PyData → PyData) (te : TE) (σ : L2.St) (B H : Hp) (P : PyData → Prop) (n : Nat) : Prop := ∃ ds, Ev K te σ B H (c ds) ∧ (∀ d ∈ ds, P d) ∧ ds.length ≤ n
end
section
variable {K : PySem.W.Frag} {σ : L2.St} {B H : Hp} {te ta tb : TE} {P : PyData → Prop} {n m : Nat}
theorem vv (h : Ev K te σ B H d) (hp : P d) : EvV K te σ B H P := ⟨d, h, hp⟩
theorem va_nil : EaV K tNil σ B H P 0 := ⟨[], ea_nil, by simp, rfl⟩
theorem va_cons {tr : TA} (h : EvV K te σ B H P) (hr : EaV K tr σ B H P n) : EaV K (tCons te tr) σ B H P (n + 1) := by
  obtain ⟨d, h1, h2⟩ := h
  obtain ⟨ds, h3, h4, h5⟩ := hr
  exact ⟨d :: ds, ea_cons h1 h3, fun x hx => (List.mem_cons.mp hx).elim (fun e => e ▸ h2) (h4 x), by rw [List.length_cons, h5]⟩
theorem vc_lst {ts : TA} (h : EaV K ts σ B H P n) (hz : n ≤ sizeLine) : EvC K .list (tLst ts) σ B H P n := by
  obtain ⟨ds, h1, h2, h3⟩ := h
  exact ⟨ds, ev_lst h1 (by omega), h2, by omega⟩
theorem vc_tup {ts : TA} (h : EaV K ts σ B H P n) (hz : n ≤ sizeLine) : EvC K .tuple (tTup ts) σ B H P n := by
  obtain ⟨ds, h1, h2, h3⟩ := h
  exact ⟨ds, ev_tup h1 (by omega), h2, by omega⟩
theorem vc_addL (h1 : EvC K .list ta σ B H P n) (h2 : EvC K .list tb σ B H P m) (hz : n + m ≤ sizeLine) : EvC K .list (tOp (rAddA K) ta tb) σ B H P (n + m) := by
  obtain ⟨as, a1, a2, a3⟩ := h1
  obtain ⟨bs, b1, b2, b3⟩ := h2
  exact ⟨as ++ bs, ev_op a1 b1 (rv_addL (by omega)), fun x hx => (List.mem_append.mp hx).elim (a2 x) (b2 x), by rw [List.length_append]; omega⟩
theorem vc_addT (h1 : EvC K .tuple ta σ B H P n) (h2 : EvC K .tuple tb σ B H P m) (hz : n + m ≤ sizeLine) : EvC K .tuple (tOp (rAddA K) ta tb) σ B H P (n + m) := by
  obtain ⟨as, a1, a2, a3⟩ := h1
  obtain ⟨bs, b1, b2, b3⟩ := h2
  exact ⟨as ++ bs, ev_op a1 b1 (rv_addT (by omega)), fun x hx => (List.mem_append.mp hx).elim (a2 x) (b2 x), by rw [List.length_append]; omega⟩
theorem mem_cut {α : Type} {xs : List α} {lo hi : Option Int} {x : α} (h : x ∈ cutG xs lo hi) : x ∈ xs := List.mem_of_mem_drop (List.mem_of_mem_take h)
theorem len_cut {α : Type} (xs : List α) (lo hi : Option Int) : (cutG xs lo hi).length ≤ xs.length := by
  unfold cutG
  rw [List.length_take, List.length_drop]
  omega
theorem vc_sl {tl th : TO} {lo hi : Option Int} (h : EvC K .tuple te σ B H P n) (h1 : EvO tl σ B H lo) (h2 : EvO th σ B H hi) : EvC K .tuple (tSl (rSlAny K) te tl th) σ B H P n := by
  obtain ⟨as, a1, a2, a3⟩ := h
  exact ⟨_, ev_sl a1 h1 h2 rs_T, fun x hx => a2 x (mem_cut hx), Nat.le_trans (len_cut _ _ _) a3⟩
theorem vc_back (h : EvC K .tuple te σ B H P n) : EvC K .tuple (tBack K te) σ B H P n := by
  obtain ⟨as, a1, a2, a3⟩ := h
  exact ⟨_, ev_back a1, fun x hx => a2 x (List.mem_reverse.mp hx), by rw [List.length_reverse]; exact a3⟩
theorem vc_mul {k : Int} {xs : List PyData} (a1 : Ev K te σ B H (.tuple xs)) (h0 : xs ≠ []) (a2 : ∀ x ∈ xs, P x) (h1 : xs.length ≤ 1) (h2 : 2 ≤ k) (h3 : k ≤ 1000) : EvC K .tuple (tOp (rMulA K) te (tC (.int k))) σ B H P k.toNat := by
  refine ⟨_, ev_op a1 ev_i (rv_mulT h0 h2 h3 (by omega)), fun x hx => ?_, ?_⟩
  · obtain ⟨l, hl, hx⟩ := List.mem_flatten.mp hx
    rw [List.eq_of_mem_replicate hl] at hx
    exact a2 x hx
  · rw [List.length_flatten, List.map_replicate, List.sum_replicate_nat]
    have := Nat.mul_le_mul_left k.toNat h1
    omega
theorem vc_lstT (h : EvC K .tuple te σ B H P n) : EvC K .list (tCB (rLstA K) (tCons te tNil)) σ B H P n := by
  obtain ⟨as, a1, a2, a3⟩ := h
  exact ⟨as, ev_cb (ea_cons a1 ea_nil) rc_lstT, a2, a3⟩
theorem vc_val {c : List PyData → PyData} {R : PyData → Prop} (h : EvC K c te σ B H P n) (hr : ∀ ds, (∀ d ∈ ds, P d) → ds.length ≤ n → R (c ds)) : EvV K te σ B H R := by
  obtain ⟨ds, h1, h2, h3⟩ := h
  exact ⟨_, h1, hr ds h2 h3⟩
theorem vc_var {c : List PyData → PyData} {ds : List PyData} {i : Nat} {v : V} (h : σ[i]? = some (some v)) (hd : Dq K B v (c ds)) (h2 : ∀ d ∈ ds, P d) (h3 : ds.length ≤ n) : EvC K c (tVar i) σ B H P n := ⟨ds, ev_var h hd, h2, h3⟩
theorem vc_imp {c : List PyData → PyData} {R : PyData → Prop} (h : EvC K c te σ B H P n) (hr : ∀ d, P d → R d) : EvC K c te σ B H R n := by
  obtain ⟨ds, h1, h2, h3⟩ := h
  exact ⟨ds, h1, fun d hd => hr d (h2 d hd), h3⟩
theorem q_setC {c : List PyData → PyData} {D : Ends} {tz : TS} {i : Nat} (h : EvC K c te σ B H P n) (e : Ex B H) (q : ∀ ds v B' H', (∀ d ∈ ds, P d) → ds.length ≤ n → Le [] B H B' H' → Dq K B' v (c ds) → tz D (σ.set i (some v)) H') : tSeq (tAsg te (gName i)) tz D σ H := by
  obtain ⟨ds, h1, h2, h3⟩ := h
  exact q_set h1 e fun v B' H' l hv => q ds v B' H' h2 h3 l hv
theorem s_retC {c : List PyData → PyData} {D : Ends} (h : EvC K c te σ B H P n) (e : Ex B H) (q : ∀ ds v B' H', (∀ d ∈ ds, P d) → ds.length ≤ n → Le [] B H B' H' → Dq K B' v (c ds) → D.rt v H') : tRet te D σ H := by
  obtain ⟨ds, h1, h2, h3⟩ := h
  exact s_ret h1 e fun v B' H' l hv => q ds v B' H' h2 h3 l hv
/-! more expressions -/
theorem ev_neg {i : Int} : Ev K (tUn (rU fun i => .int (-i)) (tC (.int i))) σ B H (.int (-i)) := ev_un ev_i fun B H v e hv Q q => by
  cases hv
  exact ⟨i, rfl, q _ B H (Le.refl e) (.int _)⟩
theorem ev_dict0 : Ev K tDNewK σ B H (.dict []) := fun B1 H1 l Q q p hp => q (.ref p) _ _ (Le.new l.h hp) (by
  have h := Dq.dct (K := K) (H := upd B1 p (.dK [])) (a := p) (kvs := []) (ds := []) upd_same .nil
  exact h)
theorem rc_str {i : Int} (h : i.natAbs.log2 < 1920) : RC K rStrI [.int i] (.str (toString i)) := fun B H vs e hvs Q q => by
  obtain ⟨v, rfl, hv⟩ := dq1 hvs
  cases hv
  exact ⟨i, rfl, h, q _ B H (Le.refl e) (.str _)⟩
theorem ev_bmS {r : V → List V → Hp → VK → Prop} {s : PySem.Str} {ts : TA} {ds : List PyData} {z : PyData} (ho : Ev K te σ B H (.str s)) (ha : EvA K ts σ B H ds) (hr : RM K r (.str s) ds z) : Ev K (tBM K "str" r te ts) σ B H z := fun B1 H1 l Q q =>
  ho B1 H1 l _ fun v B2 H2 l2 hv => ⟨by cases hv; rfl, ha B2 H2 (l.trans l2) _ fun vs B3 H3 l3 hs => hr B3 H3 v vs l3.h (hv.mono l3.b) hs Q fun o B4 H4 l4 ho => q o B4 H4 ((l2.trans l3).trans l4) ho⟩
theorem ev_bm0S {r : V → List V → Hp → VK → Prop} {s : PySem.Str} {z : PyData} (ho : Ev K te σ B H (.str s)) (hr : RM K r (.str s) [] z) : Ev K (tBM0 K "str" r te) σ B H z := fun B1 H1 l Q q =>
  ho B1 H1 l _ fun v B2 H2 l2 hv => ⟨by cases hv; rfl, hr B2 H2 v [] l2.h hv .nil Q fun o B4 H4 l4 ho => q o B4 H4 (l2.trans l4) ho⟩
def rJoinA (K : PySem.W.Frag) : V → List V → Hp → VK → Prop := fun x xs H Q => ∃ a p, ∃ ys : List PySem.Str, x = .str a ∧ xs = [.ref p] ∧ (SqL K H p (ys.map V.str) ∨ SqT K H p (ys.map V.str)) ∧
    (ys.map (·.length)).sum + ys.length * a.length ≤ 16777216 ∧ Q (.str (Txt.join a ys)) H
theorem rm_join {a : PySem.Str} {ys : List PySem.Str} (h : (ys.map (·.length)).sum + ys.length * a.length ≤ 16777216) : RM K (rJoinA K) (.str a) [.list (ys.map PyData.str)] (.str (Txt.join a ys)) := fun B H v vs e hv hvs Q q => by
  cases hv
  obtain ⟨u, rfl, hu⟩ := dq1 hvs
  cases hu with
  | lst h1 q1 =>
    cases ofStrs q1
    exact ⟨a, _, ys, rfl, rfl, .inl (.inl (.inl (e _ _ h1))), h, q _ B H (Le.refl e) (.str _)⟩
def rUpA : V → List V → Hp → VK → Prop := fun x xs H Q => ∃ a, x = .str a ∧ xs = [] ∧ a.length ≤ 5592405 ∧ Q (.str (Txt.upper a)) H
theorem rm_up {a : PySem.Str} (h : a.length ≤ 5592405) : RM K rUpA (.str a) [] (.str (Txt.upper a)) := fun B H v vs e hv hvs Q q => by
  cases hv
  cases hvs
  exact ⟨a, rfl, rfl, h, q _ B H (Le.refl e) (.str _)⟩
theorem rgV_nat (n : Nat) : rgV 0 n = ((List.range n).map fun (i : Nat) => (i : Int)).map V.int := by
  unfold rgV
  rw [List.map_map, show ((n : Int) - 0).toNat = n by omega]
  refine List.map_congr_left fun i _ => ?_
  show V.int (0 + (i : Int)) = V.int i
  rw [Int.zero_add]
theorem ev_tupRg {n : Nat} (hn : n ≤ 1000) : Ev K (tTupRg (tRg1 (tC (.int (n : Nat))))) σ B H (.tuple (((List.range n).map fun (i : Nat) => (i : Int)).map PyData.int)) := fun B1 H1 l Q q => by
  refine ⟨(n : Nat), rfl, .of_le (by decide) (by omega) (by decide) (by omega), fun p hp => ?_⟩
  rw [rgV_nat]
  exact q (.ref p) _ _ (Le.new l.h hp) (.tup (.inl (.inl upd_same)) (dqInts _))
def tokB (k : Int) : Bool := decide ((toString k : PySem.Str).length ≤ 2) && (toString k : PySem.Str).cps.toList.all fun c => decide (c < 16 ^ 8)
theorem tok_items : ∀ k ∈ ints60, tokB k = true := by decide +kernel
theorem tok_item {k : Int} (h0 : 0 ≤ k) (h1 : k < 60) : tokB k = true := by
  refine tok_items k ?_
  unfold ints60
  exact List.mem_map.mpr ⟨k.toNat, List.mem_range.mpr (by omega), by omega⟩
/-- a short text of ints: its signs -/
theorem pl_join {ns : List Int} (h : ∀ k ∈ ns, 0 ≤ k ∧ k < 60) (hl : ns.length ≤ 60) : (((ns.map fun k => (toString k : PySem.Str)).map (·.length)).sum + (ns.map fun k => (toString k : PySem.Str)).length * (" " : PySem.Str).length ≤ 16777216) ∧ Pl 0 400 (.str (Txt.join " " (ns.map fun k => (toString k : PySem.Str)))) := by
  have hk : ∀ k ∈ ns, (toString k : PySem.Str).length ≤ 2 ∧ ∀ c ∈ (toString k : PySem.Str).cps.toList, c < 16 ^ 8 := fun k hk => by
    have := tok_item (h k hk).1 (h k hk).2
    simp only [tokB, Bool.and_eq_true, decide_eq_true_eq, List.all_eq_true] at this
    exact this
  have hs : ∀ ms : List Int, (∀ k ∈ ms, (toString k : PySem.Str).length ≤ 2) → ((ms.map fun k => (toString k : PySem.Str)).map (·.length)).sum ≤ 2 * ms.length := by
    intro ms
    induction ms with
    | nil => intro _; exact Nat.le_refl _
    | cons a r ih =>
      intro h
      have h1 := h a (List.mem_cons_self ..)
      have h2 := ih fun k hk => h k (List.mem_cons_of_mem _ hk)
      simp only [List.map_cons, List.sum_cons, List.length_cons] at h2 ⊢
      omega
  have h1 := hs ns fun k hk' => (hk k hk').1
  have h2 : (" " : PySem.Str).length = 1 := by rfl
  have h3 : (ns.map fun k => (toString k : PySem.Str)).length = ns.length := List.length_map ..
  refine ⟨by rw [h2, h3]; omega, ⟨by rfl, ?_, ?_, by show 0 ≤ 0; decide⟩, rfl, rfl⟩
  · rw [TL.join_eq]
    simp only [PyData.leavesShort, List.all_eq_true, decide_eq_true_eq]
    intro c hc
    rcases (PyProof.Rows.mem_join _ c _).mp hc with ⟨t, ht, hc⟩ | ⟨_, hc⟩
    · obtain ⟨k, hk', rfl⟩ := List.mem_map.mp ht
      exact (hk k hk').2 c hc
    · have : ∀ c ∈ (" " : PySem.Str).cps.toList, c < 16 ^ 8 := by decide
      exact this c hc
  · rw [TL.join_eq]
    have := StrLaws.join_length_le " " (ns.map fun k => (toString k : PySem.Str))
    rw [h2, h3] at this
    show (PySem.Str.join " " _).length ≤ 400
    omega
end
/-! odd values and the lists of them -/
def OddV (d : PyData) : Prop := Od 1 70 d ∧ tlen d ≤ 1000
def CmdV (d : PyData) : Prop := Od 2 300 d ∧ tlen d ≤ 1000
theorem odd_of {d : PyData} (h : plB d = true) (ht : tlen d = 0 := by rfl) : OddV d := ⟨(pl_of h).od.mono (by decide) (by decide), by omega⟩
theorem odd_int {i : Int} (h0 : 0 ≤ i) (h1 : i < 60) : OddV (.int i) := ⟨(pl_int h0 h1).od.mono (by decide) (by decide), by show 0 ≤ 1000; decide⟩
theorem odd_t0 : OddV (.tuple []) := ⟨(Pl.tup (k := 0) (w := 0) (W := 70) (xs := []) (by simp) (by decide)).od, by show 0 ≤ 1000; decide⟩
theorem odd_l0 : OddV (.list []) := ⟨Od.lst (k := 0) (w := 0) (W := 70) (xs := []) (by simp) (by decide), by show 0 ≤ 1000; decide⟩
theorem odd_d0 : OddV (.dict []) := ⟨⟨⟨by decide, by decide, by decide, by decide⟩, .inr (by decide)⟩, by show 0 ≤ 1000; decide⟩
theorem OddV.cmd {d : PyData} (h : OddV d) : CmdV d := ⟨h.1.mono (by decide) (by decide), h.2⟩
theorem OddV.ov {d : PyData} (h : OddV d) : Ov d := ⟨h.1.mono (by decide) (by decide), h.2⟩
theorem CmdV.ov {d : PyData} (h : CmdV d) : Ov d := ⟨h.1.mono (by decide) (by decide), h.2⟩
/-- plain, or this odd one -/
def PO (k w : Nat) (o x : PyData) : Prop := x = o ∨ Pl k w x
theorem po_pl {o x : PyData} (h : Pl 0 70 x) : PO 1 70 o x := .inr (h.mono (by decide) (by decide))
theorem ov_tup1 {o : PyData} (ho : OddV o) {ds : List PyData} (h : ∀ d ∈ ds, PO 1 70 o d) {n : Nat} (hn : ds.length ≤ n) (h1 : n ≤ 1000) : Ov (.tuple ds) :=
  ⟨(Od.tup (W := 71000) ho.1 h (len_mul (m := 1000) (by omega) (by decide))).mono (by decide) (by decide), by show ds.length ≤ 1000; omega⟩
theorem cmd_tup1 {o : PyData} (ho : OddV o) {ds : List PyData} (h : ∀ d ∈ ds, PO 1 70 o d) (hn : ds.length ≤ 4) : CmdV (.tuple ds) :=
  ⟨(Od.tup (W := 300) ho.1 h (len_mul (m := 4) hn (by decide))).mono (by decide) (by decide), by show ds.length ≤ 1000; omega⟩
theorem ov_tup2 {o : PyData} (ho : CmdV o) {ds : List PyData} (h : ∀ d ∈ ds, PO 2 300 o d) {n : Nat} (hn : ds.length ≤ n) (h1 : n ≤ 1000) : Ov (.tuple ds) :=
  ⟨(Od.tup (W := 301000) ho.1 h (len_mul (m := 1000) (by omega) (by decide))).mono (by decide) (by decide), by show ds.length ≤ 1000; omega⟩
theorem ov_lst {k w n : Nat} {ds : List PyData} (h : ∀ d ∈ ds, Pl k w d) (hn : ds.length ≤ n) (h1 : n * (w + 1) ≤ 400000) (hk : k ≤ 5) : Ov (.list ds) :=
  ⟨(Od.lst (W := 400000) h (len_mul hn h1)).mono (by omega) (by decide), by show 0 ≤ 1000; decide⟩
theorem ov_pltup {k w n : Nat} {ds : List PyData} (h : ∀ d ∈ ds, Pl k w d) (hn : ds.length ≤ n) (h1 : n * (w + 1) ≤ 400000) (hk : k ≤ 5) (hn2 : n ≤ 1000) : Ov (.tuple ds) :=
  ⟨(Pl.tup (W := 400000) h (len_mul hn h1)).od.mono (by omega) (by decide), by show ds.length ≤ 1000; omega⟩
theorem cmd_pltup {ds : List PyData} (h : ∀ d ∈ ds, Pl 0 70 d) (hn : ds.length ≤ 4) : CmdV (.tuple ds) :=
  ⟨(Pl.tup (W := 300) h (len_mul hn (by decide))).od.mono (by decide) (by decide), by show ds.length ≤ 1000; omega⟩
theorem cmd_pllst {ds : List PyData} (h : ∀ d ∈ ds, Pl 0 70 d) (hn : ds.length ≤ 4) : CmdV (.list ds) :=
  ⟨(Od.lst (W := 300) h (len_mul hn (by decide))).mono (by decide) (by decide), by show 0 ≤ 1000; decide⟩
theorem pl_cmd {xs : List Int} (hx : ∀ k ∈ xs, 0 ≤ k ∧ k < 60) {c : PyData} (h : GoodC xs c) : Pl 1 300 c := by
  obtain ⟨w, i, j, rfl, hw, hi, hj, _⟩ := h
  refine Pl.tup (w := 70) (fun x hx' => ?_) (by show 3 * (70 + 1) ≤ 300; decide)
  simp only [List.mem_cons, List.mem_nil_iff, or_false] at hx'
  rcases hx' with rfl | rfl | rfl
  · exact pl_word hw
  · exact pl_int (hx i hi).1 (hx i hi).2
  · exact pl_int (hx j hj).1 (hx j hj).2
abbrev LinesS (K : PySem.W.Frag) : Sp := Bg K (fun ds => ∃ xs : List Int, ds = [.tuple (xs.map PyData.int)] ∧ 1 ≤ xs.length ∧ xs.length ≤ 60 ∧ ∀ k ∈ xs, 0 ≤ k ∧ k < 60) fun _ d => ∃ es, d = .list es ∧ es.length ≤ 200 ∧ ∀ e ∈ es, Ov e
abbrev CmdsS (K : PySem.W.Frag) : Sp := Bg K (fun ds => ∃ (xs : List Int) (cs : List PyData), ds = [.tuple cs] ∧ 1 ≤ cs.length ∧ cs.length ≤ 200 ∧ (∀ k ∈ xs, 0 ≤ k ∧ k < 60) ∧ ∀ c ∈ cs, GoodC xs c) fun _ d => ∃ es, d = .list es ∧ 1 ≤ es.length ∧ es.length ≤ 100 ∧ ∀ e ∈ es, CmdV e
abbrev ScrsS (K : PySem.W.Frag) : Sp := Bg K (fun ds => ∃ (xs : List Int) (cs : List PyData), ds = [.tuple cs] ∧ 1 ≤ cs.length ∧ cs.length ≤ 200 ∧ (∀ k ∈ xs, 0 ≤ k ∧ k < 60) ∧ ∀ c ∈ cs, GoodC xs c) fun _ d => ∃ es, d = .list es ∧ es.length ≤ 200 ∧ ∀ e ∈ es, Ov e
theorem size_ok {n : Nat} (h : n ≤ 100000) : n ≤ sizeLine := by
  have hsl : 100000 < sizeLine := by rw [sizeLine_eq]; decide
  omega
section
variable {K : PySem.W.Frag} {g : Addr} {σ : L2.St} {B H : Hp} {te : TE} {D : Ends} {tz : TS} {R : PyData → Prop}
theorem b_asg3 {i j l : Nat} {S : PyData → PyData → PyData → Prop} (h : Eb K g te σ B H R) (e : Ex B H) (b : Bag g B H) (hR : ∀ d, R d → ∃ x y z, d = .tuple [x, y, z] ∧ S x y z)
    (q : ∀ a b c x y z B' H', S a b c → Le [g] B H B' H' → Bag g B' H' → Dq K B' x a → Dq K B' y b → Dq K B' z c → tz D (((σ.set i (some x)).set j (some y)).set l (some z)) H') :
    tSeq (tAsg te (gTup K 3 (gCons (gName i) (gCons (gName j) (gCons (gName l) gNil))))) tz D σ H := h B H (Le.refl e) b _ fun d v B' H' r l b' hv => by
  obtain ⟨x, y, z, rfl, hs⟩ := hR d r
  exact gt3 l.h hv fun a b c ha hb hc => q x y z a b c B' H' hs l b' ha hb hc
/-- a list's item at a number below its length -/
theorem eb_at {ta tb : TE} {ds : List PyData} {n : Int} (ha : ∀ B1 H1, Le [g] B H B1 H1 → Ev K ta σ B1 H1 (.list ds)) (hb : Eb K g tb σ B H (RI fun r => 0 ≤ r ∧ r < n)) (hn : n = ds.length) : Eb K g (tOp (rIx K) ta tb) σ B H (· ∈ ds) :=
  eb_op (eb_of ha) hb fun x y hx hy => by
    subst hx
    obtain ⟨r, rfl, r0, r1⟩ := hy
    have hr : r.toNat < ds.length := by omega
    have z := atI_nat (List.getElem?_eq_getElem hr)
    rw [show ((r.toNat : Nat) : Int) = r by omega] at z
    exact ⟨_, rv_ixL z, List.getElem_mem hr⟩
theorem eb_atT {ta tb : TE} {ds : List PyData} {n : Int} (ha : ∀ B1 H1, Le [g] B H B1 H1 → Ev K ta σ B1 H1 (.tuple ds)) (hb : Eb K g tb σ B H (RI fun r => 0 ≤ r ∧ r < n)) (hn : n = ds.length) : Eb K g (tOp (rIx K) ta tb) σ B H (· ∈ ds) :=
  eb_op (eb_of ha) hb fun x y hx hy => by
    subst hx
    obtain ⟨r, rfl, r0, r1⟩ := hy
    have hr : r.toNat < ds.length := by omega
    have z := atI_nat (List.getElem?_eq_getElem hr)
    rw [show ((r.toNat : Nat) : Int) = r by omega] at z
    exact ⟨_, rv_ixT z, List.getElem_mem hr⟩
end
end MA

set_option maxRecDepth 100000
set_option maxHeartbeats 2000000
namespace MA
open PySem PySem.Spec PyProof.Rows L2
/-! ## the law's loops -/
/-- what was made within is ours: no more known for good -/
def dropB (B : Hp) (a : Addr) : Hp := fun x => if x = a then none else B x
theorem Le.drop {M : List Addr} {B H B' H' : Hp} {a : Addr} (l : Le M B H B' H') (e : Ex B H) (ha : H a = none) : Le M B H (dropB B' a) H' ∧ dropB B' a a = none := by
  have ba : B a = none := by
    cases z : B a with
    | none => rfl
    | some o => rw [e a o z] at ha; cases ha
  refine ⟨⟨fun x o h => ?_, fun x o h => ?_, l.k, l.t, fun x h1 h2 => ?_⟩, if_pos rfl⟩
  · have hne : x ≠ a := fun z => by rw [z, ba] at h; cases h
    show (if x = a then none else B' x) = some o
    rw [if_neg hne]
    exact l.b x o h
  · unfold dropB at h
    split at h
    · cases h
    · exact l.h x o h
  · unfold dropB at h2
    split at h2
    · exact absurd rfl h2
    · exact l.n x h1 h2
section
variable {K : PySem.W.Frag} {g : Addr} {σ : L2.St} {B H : Hp} {tl te : TE} {D : Ends} {tb tz : TS} {gg : TG} {R : PyData → Prop}
theorem s_forL {xs : List PyData} (hl : Ev K tl σ B H (.list xs)) (e : Ex B H) (I : Nat → L2.St → Hp → Prop) (h0 : ∀ B1 H1, Le [] B H B1 H1 → I 0 σ B1)
    (hs : ∀ (i : Nat) (d : PyData) (v : V) σ' B' H' N, Le [] B H B' H' → xs[i]? = some d → Dq K B' v d → I i σ' B' → (∀ σ3 B3 H3, Le [] B' H' B3 H3 → I (i + 1) σ3 B3 → N σ3 H3) →
      gg v σ' H' fun σ2 H2 => tb { D with nx := N, ct := N, bk := D.nx } σ2 H2)
    (hd : ∀ σ' B' H', Le [] B H B' H' → I xs.length σ' B' → D.nx σ' H') : tFor (iList K tl) gg tb D σ H := by
  refine hl B H (Le.refl e) _ fun u B1 H1 l1 hu => ?_
  cases hu with
  | lst hv hq =>
    rename_i a ys
    refine ⟨a, rfl, ⟨ys, .inl (.inl (l1.h _ _ hv))⟩, for_list (xs := ys) (fun i σ' H' => ∃ B', Le [] B1 H1 B' H' ∧ I i σ' B') ⟨B1, Le.refl l1.h, h0 B1 H1 l1⟩ (fun i σ' H' _ p => ?_) (fun i x σ' H' hi p => ?_) (fun σ' H' p => ?_)⟩
    · obtain ⟨B', l, _⟩ := p
      exact .inl (.inl (l.h _ _ (l.b _ _ hv)))
    · obtain ⟨B', l, hI⟩ := p
      obtain ⟨d, hd, hx⟩ := hq.get hi
      exact hs i d x σ' B' H' _ (l1.trans l) hd (hx.mono l.b) hI fun σ3 B3 H3 l3 hI3 => ⟨B3, l.trans l3, hI3⟩
    · obtain ⟨B', l, hI⟩ := p
      rw [hq.length] at hI
      exact hd σ' B' H' (l1.trans l) hI
theorem q_forL {xs : List PyData} (hl : Ev K tl σ B H (.list xs)) (e : Ex B H) (I : Nat → L2.St → Hp → Prop) (h0 : ∀ B1 H1, Le [] B H B1 H1 → I 0 σ B1)
    (hs : ∀ (i : Nat) (d : PyData) (v : V) σ' B' H' N, Le [] B H B' H' → xs[i]? = some d → Dq K B' v d → I i σ' B' → (∀ σ3 B3 H3, Le [] B' H' B3 H3 → I (i + 1) σ3 B3 → N σ3 H3) →
      gg v σ' H' fun σ2 H2 => tb { D with nx := N, ct := N, bk := tz D } σ2 H2)
    (hd : ∀ σ' B' H', Le [] B H B' H' → I xs.length σ' B' → tz D σ' H') : tSeq (tFor (iList K tl) gg tb) tz D σ H := s_forL (D := { D with nx := tz D }) hl e I h0 hs hd
/-- over what the bag gave, the body pure -/
theorem b_forL (hl : Eb K g tl σ B H (fun d => ∃ es, d = .list es ∧ ∀ e ∈ es, R e)) (e : Ex B H) (b : Bag g B H) (I : Nat → L2.St → Hp → Prop) (h0 : ∀ B1 H1, Le [g] B H B1 H1 → I 0 σ B1)
    (hs : ∀ (i : Nat) (d : PyData) (v : V) σ' B' H' N, Le [g] B H B' H' → R d → Dq K B' v d → I i σ' B' → (∀ σ3 B3 H3, Le [] B' H' B3 H3 → I (i + 1) σ3 B3 → N σ3 H3) →
      gg v σ' H' fun σ2 H2 => tb { D with nx := N, ct := N, bk := tz D } σ2 H2)
    (hd : ∀ i σ' B' H', Le [g] B H B' H' → I i σ' B' → tz D σ' H') : tSeq (tFor (iList K tl) gg tb) tz D σ H := by
  refine hl B H (Le.refl e) b _ fun d v B1 H1 r l1 b1 hv => ?_
  obtain ⟨es, rfl, hr⟩ := r
  cases hv with
  | lst hv hq =>
    rename_i a ys
    refine ⟨a, rfl, ⟨ys, .inl (.inl (l1.h _ _ hv))⟩, for_list (xs := ys) (fun i σ' H' => ∃ B', Le [] B1 H1 B' H' ∧ I i σ' B') ⟨B1, Le.refl l1.h, h0 B1 H1 l1⟩ (fun i σ' H' _ p => ?_) (fun i x σ' H' hi p => ?_) (fun σ' H' p => ?_)⟩
    · obtain ⟨B', l, _⟩ := p
      exact .inl (.inl (l.h _ _ (l.b _ _ hv)))
    · obtain ⟨B', l, hI⟩ := p
      obtain ⟨d, hd, hx⟩ := hq.get hi
      exact hs i d x σ' B' H' _ (l1.trans l.any) (hr d (List.mem_of_getElem? hd)) (hx.mono l.b) hI fun σ3 B3 H3 l3 hI3 => ⟨B3, l.trans l3, hI3⟩
    · obtain ⟨B', l, hI⟩ := p
      exact hd _ σ' B' H' (l1.trans l.any) hI
/-- over range(n), n written; the body keeps what is known -/
theorem s_forR {n : Nat} (hn : n ≤ 1000) (e : Ex B H) (I : Nat → L2.St → Hp → Prop) (h0 : I 0 σ B)
    (hs : ∀ (i : Nat) σ' B' H' N, Le [] B H B' H' → I i σ' B' → (∀ σ3 B3 H3, Le [] B' H' B3 H3 → I (i + 1) σ3 B3 → N σ3 H3) →
      gg (.int (0 + (i : Nat))) σ' H' fun σ2 H2 => tb { D with nx := N, ct := N, bk := D.nx } σ2 H2)
    (hd : ∀ σ' B' H', Le [] B H B' H' → I n σ' B' → D.nx σ' H') : tFor (iRng1 (tCons (tC (.int (n : Nat))) tNil)) gg tb D σ H := by
  refine ⟨(n : Nat), rfl, by omega, by omega, ?_⟩
  rw [show ((n : Nat) : Int).toNat = n by omega]
  refine for_range (lo := 0) (n := n) (fun i σ' H' => ∃ B', Le [] B H B' H' ∧ I i σ' B') ⟨B, Le.refl e, h0⟩ (fun i σ' H' _ p => ?_) (fun σ' H' p => ?_)
  · obtain ⟨B', l, hI⟩ := p
    exact hs i σ' B' H' _ l hI fun σ3 B3 H3 l3 hI3 => ⟨B3, l.trans l3, hI3⟩
  · obtain ⟨B', l, hI⟩ := p
    exact hd σ' B' H' l hI
theorem b_asg2 {i j : Nat} {S : PyData → PyData → Prop} (h : Eb K g te σ B H R) (e : Ex B H) (b : Bag g B H) (hR : ∀ d, R d → ∃ x y, d = .tuple [x, y] ∧ S x y)
    (q : ∀ a b x y B' H', S a b → Le [g] B H B' H' → Bag g B' H' → Dq K B' x a → Dq K B' y b → tz D ((σ.set i (some x)).set j (some y)) H') :
    tSeq (tAsg te (gTup K 2 (gCons (gName i) (gCons (gName j) gNil)))) tz D σ H := h B H (Le.refl e) b _ fun d v B' H' r l b' hv => by
  obtain ⟨x, y, rfl, hs⟩ := hR d r
  exact gt2 l.h hv fun a b ha hb => q x y a b B' H' hs l b' ha hb
/-- the law's script, cut, as data -/
theorem ev_slS {i : Nat} {a : Addr} {ns : List Int} {k : Int} (h : σ[i]? = some (some (.ref a))) (hs : SqL K H a (ns.map V.int)) (hk : 0 ≤ k) : Ev K (tSl (rSlAny K) (tVar i) tNoPart (tPart (tC (.int k)))) σ B H (.list ((ns.take k.toNat).map PyData.int)) := fun B1 H1 l Q q => by
  refine ⟨.ref a, h, k, rfl, .inr (.inl ?_)⟩
  have hs1 : SqL K H1 a (ns.map V.int) := Evl.ex_l l.ex hs
  have e1 : cutV (ns.map V.int) none (some k) = (ns.take k.toNat).map V.int := by
    have := cut_to (ns.map V.int) k.toNat
    rw [show ((k.toNat : Nat) : Int) = k by omega] at this
    rw [show cutV (ns.map V.int) none (some k) = cutG (ns.map V.int) none (some k) from rfl, this, List.map_take]
  refine ⟨a, _, rfl, hs1, fun p hp => ?_⟩
  rw [e1]
  exact q (.ref p) _ _ (Le.new l.h hp) (.lst upd_same (dqInts _))
theorem ev_repr {d : PyData} (h : Ev K te σ B H d) (ho : Ov d) : Ev K (tCB (rRepr K) (tCons te tNil)) σ B H (.str d.shown) := ev_cb (ea_cons h ea_nil) fun B H vs e hvs Q q => by
  obtain ⟨v, rfl, hv⟩ := dq1 hvs
  obtain ⟨h1, h2, h3, h4⟩ := ho.repr
  exact ⟨v, d, rfl, hv.mono e, h1, h2, h3, h4, q _ B H (Le.refl e) (.str _)⟩
theorem et_same {s : PySem.Str} {ta tb : TE} (h1 : Ev K ta σ B H (.str s)) (h2 : Ev K tb σ B H (.str s)) : EvT (tTest (tOp (rNeA K) ta tb)) σ B H false := by
  have c := et_test (ev_op h1 h2 rv_neS)
  rw [decide_eq_true rfl] at c
  exact c
theorem ov_bools (x y z : Bool) : Ov (.list [.bool x, .bool y, .bool z]) := ov_lst (k := 0) (w := 70) (n := 3) (fun d hd => by
  simp only [List.mem_cons, List.mem_nil_iff, or_false] at hd
  rcases hd with rfl | rfl | rfl <;> exact pl_of (by revert x y z; decide)) (by show 3 ≤ 3; decide) (by decide) (by decide)
end
end MA

set_option maxRecDepth 100000
set_option maxHeartbeats 4000000
namespace K01
open PySem PySem.Spec PyProof.Rows L2 MA
def topS (i : Nat) : Stmt := PySem.Challenge.pw_moveafter_k01_lines_commands_scripts.main.body.getD i (.Pass ⟨0, 0, 0, 0⟩)
abbrev s_named_items : Stmt := topS 4
abbrev N_named_items : List PySem.Str := ["script", "command", "item"]
theorem sc_named_items : FnScope N_named_items ["script"] (defScope s_named_items) := by refine ⟨rfl, rfl, rfl, ?_, rfl, ?_, ?_⟩ <;> decide +kernel
abbrev s_is_within : Stmt := topS 9
abbrev N_is_within : List PySem.Str := ["value", "least", "most"]
theorem sc_is_within : FnScope N_is_within ["value", "least", "most"] (defScope s_is_within) := by refine ⟨rfl, rfl, rfl, ?_, rfl, ?_, ?_⟩ <;> decide +kernel
abbrev s_is_item : Stmt := topS 10
abbrev N_is_item : List PySem.Str := ["value"]
theorem sc_is_item : FnScope N_is_item ["value"] (defScope s_is_item) := by refine ⟨rfl, rfl, rfl, ?_, rfl, ?_, ?_⟩ <;> decide +kernel
abbrev s_is_line : Stmt := topS 11
abbrev N_is_line : List PySem.Str := ["value", "item"]
theorem sc_is_line : FnScope N_is_line ["value"] (defScope s_is_line) := by refine ⟨rfl, rfl, rfl, ?_, rfl, ?_, ?_⟩ <;> decide +kernel
abbrev s_is_command : Stmt := topS 12
abbrev N_is_command : List PySem.Str := ["value", "word", "item", "other"]
theorem sc_is_command : FnScope N_is_command ["value"] (defScope s_is_command) := by refine ⟨rfl, rfl, rfl, ?_, rfl, ?_, ?_⟩ <;> decide +kernel
abbrev s_is_script : Stmt := topS 13
abbrev N_is_script : List PySem.Str := ["value", "command"]
theorem sc_is_script : FnScope N_is_script ["value"] (defScope s_is_script) := by refine ⟨rfl, rfl, rfl, ?_, rfl, ?_, ?_⟩ <;> decide +kernel
abbrev s_require_script : Stmt := topS 14
abbrev N_require_script : List PySem.Str := ["value"]
theorem sc_require_script : FnScope N_require_script ["value"] (defScope s_require_script) := by refine ⟨rfl, rfl, rfl, ?_, rfl, ?_, ?_⟩ <;> decide +kernel
abbrev s_items_of : Stmt := topS 15
abbrev N_items_of : List PySem.Str := ["script"]
theorem sc_items_of : FnScope N_items_of ["script"] (defScope s_items_of) := by refine ⟨rfl, rfl, rfl, ?_, rfl, ?_, ?_⟩ <;> decide +kernel
abbrev s__law_bag : Stmt := topS 17
abbrev N__law_bag : List PySem.Str := ["cell"]
theorem sc__law_bag : FnScope N__law_bag ["cell"] (defScope s__law_bag) := by refine ⟨rfl, rfl, rfl, ?_, rfl, ?_, ?_⟩ <;> decide +kernel
abbrev s__law_pick : Stmt := topS 18
abbrev N__law_pick : List PySem.Str := ["bag", "many", "told", "first", "second"]
theorem sc__law_pick : FnScope N__law_pick ["bag", "many"] (defScope s__law_pick) := by refine ⟨rfl, rfl, rfl, ?_, rfl, ?_, ?_⟩ <;> decide +kernel
abbrev s__law_items : Stmt := topS 19
abbrev N__law_items : List PySem.Str := ["bag", "many", "left", "k"]
theorem sc__law_items : FnScope N__law_items ["bag", "many"] (defScope s__law_items) := by refine ⟨rfl, rfl, rfl, ?_, rfl, ?_, ?_⟩ <;> decide +kernel
abbrev s__law_script : Stmt := topS 20
abbrev N__law_script : List PySem.Str := ["bag", "items", "most", "many", "way", "some", "found", "k", "word", "at", "other"]
theorem sc__law_script : FnScope N__law_script ["bag", "items", "most"] (defScope s__law_script) := by refine ⟨rfl, rfl, rfl, ?_, rfl, ?_, ?_⟩ <;> decide +kernel
abbrev s__law_case : Stmt := topS 21
abbrev N__law_case : List PySem.Str := ["bag", "most", "length", "items", "left", "line", "k"]
theorem sc__law_case : FnScope N__law_case ["bag", "most", "length"] (defScope s__law_case) := by refine ⟨rfl, rfl, rfl, ?_, rfl, ?_, ?_⟩ <;> decide +kernel
abbrev s__law_moved : Stmt := topS 22
abbrev N__law_moved : List PySem.Str := ["line", "command", "word", "one", "other", "found", "item"]
theorem sc__law_moved : FnScope N__law_moved ["line", "command"] (defScope s__law_moved) := by refine ⟨rfl, rfl, rfl, ?_, rfl, ?_, ?_⟩ <;> decide +kernel
abbrev s__law_done : Stmt := topS 23
abbrev N__law_done : List PySem.Str := ["line", "commands", "command"]
theorem sc__law_done : FnScope N__law_done ["line", "commands"] (defScope s__law_done) := by refine ⟨rfl, rfl, rfl, ?_, rfl, ?_, ?_⟩ <;> decide +kernel
abbrev s__law_named : Stmt := topS 24
abbrev N__law_named : List PySem.Str := ["commands", "found", "word", "one", "other", "item"]
theorem sc__law_named : FnScope N__law_named ["commands"] (defScope s__law_named) := by refine ⟨rfl, rfl, rfl, ?_, rfl, ?_, ?_⟩ <;> decide +kernel
abbrev s__law_is_item : Stmt := topS 25
abbrev N__law_is_item : List PySem.Str := ["value"]
theorem sc__law_is_item : FnScope N__law_is_item ["value"] (defScope s__law_is_item) := by refine ⟨rfl, rfl, rfl, ?_, rfl, ?_, ?_⟩ <;> decide +kernel
abbrev s__law_is_line : Stmt := topS 26
abbrev N__law_is_line : List PySem.Str := ["value", "one", "k"]
theorem sc__law_is_line : FnScope N__law_is_line ["value"] (defScope s__law_is_line) := by refine ⟨rfl, rfl, rfl, ?_, rfl, ?_, ?_⟩ <;> decide +kernel
abbrev s__law_is_command : Stmt := topS 27
abbrev N__law_is_command : List PySem.Str := ["value"]
theorem sc__law_is_command : FnScope N__law_is_command ["value"] (defScope s__law_is_command) := by refine ⟨rfl, rfl, rfl, ?_, rfl, ?_, ?_⟩ <;> decide +kernel
abbrev s__law_is_script : Stmt := topS 28
abbrev N__law_is_script : List PySem.Str := ["value", "one"]
theorem sc__law_is_script : FnScope N__law_is_script ["value"] (defScope s__law_is_script) := by refine ⟨rfl, rfl, rfl, ?_, rfl, ?_, ?_⟩ <;> decide +kernel
abbrev s__law_due : Stmt := topS 29
abbrev N__law_due : List PySem.Str := ["value"]
theorem sc__law_due : FnScope N__law_due ["value"] (defScope s__law_due) := by refine ⟨rfl, rfl, rfl, ?_, rfl, ?_, ?_⟩ <;> decide +kernel
abbrev s__law_other_lines : Stmt := topS 30
abbrev N__law_other_lines : List PySem.Str := ["bag", "row", "at", "odds", "odd", "some", "one"]
theorem sc__law_other_lines : FnScope N__law_other_lines ["bag", "row"] (defScope s__law_other_lines) := by refine ⟨rfl, rfl, rfl, ?_, rfl, ?_, ?_⟩ <;> decide +kernel
abbrev s__law_other_commands : Stmt := topS 31
abbrev N__law_other_commands : List PySem.Str := ["bag", "commands", "word", "one", "other", "odds", "odd", "some"]
theorem sc__law_other_commands : FnScope N__law_other_commands ["bag", "commands"] (defScope s__law_other_commands) := by refine ⟨rfl, rfl, rfl, ?_, rfl, ?_, ?_⟩ <;> decide +kernel
abbrev s__law_other_scripts : Stmt := topS 32
abbrev N__law_other_scripts : List PySem.Str := ["bag", "commands", "at", "some", "odd"]
theorem sc__law_other_scripts : FnScope N__law_other_scripts ["bag", "commands"] (defScope s__law_other_scripts) := by refine ⟨rfl, rfl, rfl, ?_, rfl, ?_, ?_⟩ <;> decide +kernel
abbrev s_law : Stmt := topS 33
abbrev N_law : List PySem.Str := ["script", "cell", "bag", "line", "commands", "value", "kept", "again", "found"]
theorem sc_law : FnScope N_law ["script"] (defScope s_law) := by refine ⟨rfl, rfl, rfl, ?_, rfl, ?_, ?_⟩ <;> decide +kernel
section
variable {P : Program} {w : World} {K : PySem.W.Frag} {mg : PySem.Str → Option Value} {base : Heap}
def withinD : List PyData → Bool
  | [.int a, .int b, .int c] => decide (b ≤ a) && decide (a ≤ c)
  | _ => false
theorem ok_is_within (D : Df K mg "is_within" s_is_within ["value", "least", "most"]) (z_isinstance : mg "isinstance" = none) (z_int : mg "int" = none) (z_bool : mg "bool" = none) :
    Cl P w K mg base CX0 1 "is_within" ["value", "least", "most"] (Pf K (fun ds => ∃ (d : PyData) (b c : Int), ds = [d, .int b, .int c]) fun ds => .bool (withinD ds)) := by
  refine Cl.pu D sc_is_within (fun ds h => by obtain ⟨a, b, c, rfl⟩ := h; rfl) fun f cdv A outer s H vs Q E B ds hr e hq hp k => ?_
  obtain ⟨d, b, c, rfl⟩ := hp
  obtain ⟨v1, v2, v3, rfl, h1, h2, h3⟩ := dq3 hq
  refine ⟨_, (pss_one (ps_ret (pe_and (pe_callB call_isi (by rfl) z_isinstance (by decide +kernel) (pa_cons (pv 0) (pa_cons (pe_bltn (v := .ty "int") (by rfl) z_int (by decide +kernel) rfl) pa_nil))) (pe_and (pe_not (pe_callB call_isi (by rfl) z_isinstance (by decide +kernel) (pa_cons (pv 0) (pa_cons (pe_bltn (v := .ty "bool") (by rfl) z_bool (by decide +kernel) rfl) pa_nil)))) (pe_one (pe_chain op_le op_le (pv 1) (pv 0) (pv 2))))))), ?_⟩
  refine s_ret (K := K) (d := .bool (withinD [d, .int b, .int c])) ?_ e fun v B' H' l hv => k _ rfl v B' H' l hv
  have x0 : Ev K (tVar 0) (L2.start N_is_within [v1, v2, v3]) B H d := ev_var rfl h1
  have e1 : withinD [d, .int b, .int c] = (isN "int" d && (!isN "bool" d && (decide (b ≤ itemI d) && decide (itemI d ≤ c)))) := by
    cases d <;> first | rfl | (simp [withinD, isN, isNS, tyN, itemI])
  rw [e1]
  refine ev_andV (ev_isi x0 (by decide)) fun h1' => ev_andV (ev_notV (ev_isi x0 (by decide))) fun h2' => ?_
  have hi : ∃ i, d = .int i := by
    cases d with
    | int i => exact ⟨i, rfl⟩
    | bool b => simp [isN, isNS, tyN] at h2'
    | _ => simp [isN, isNS, tyN] at h1'
  obtain ⟨i, rfl⟩ := hi
  exact ev_chain (ev_var rfl h2) x0 (fun _ => ev_var rfl h3) (rv_cmp (g := fun a b => decide (a ≤ b))) fun _ => rv_cmp (g := fun a b => decide (a ≤ b))
theorem ok_is_item (D : Df K mg "is_item" s_is_item ["value"]) (C_is_within : Cl P w K mg base CX0 1 "is_within" ["value", "least", "most"] (Pf K (fun ds => ∃ (d : PyData) (b c : Int), ds = [d, .int b, .int c]) fun ds => .bool (withinD ds))) {t60 : Tok} (g_MOST_ITEMS : mg "MOST_ITEMS" = some (.int 60 t60)) :
    Cl P w K mg base CX0 2 "is_item" ["value"] (Pf K (fun ds => ds.length = 1) fun ds => .bool (isItemD (ds.getD 0 .none))) := by
  refine Cl.pu D sc_is_item (fun ds h => h) fun f cdv A outer s H vs Q E B ds hr e hq hp k => ?_
  obtain ⟨d, rfl⟩ : ∃ d, ds = [d] := by
    cases ds with
    | nil => cases hp
    | cons d r => cases r with
      | nil => exact ⟨d, rfl⟩
      | cons _ _ => cases hp
  obtain ⟨v, rfl, hv⟩ := dq1 hq
  refine ⟨_, (pss_one (ps_ret (pe_callC C_is_within (hr.mono (by decide)) (by rfl) pass0 (pa_cons (pv 0) (pa_cons pe_int (pa_cons (pe_op op_sub (pe_glob (v := .int (60)) (by rfl) g_MOST_ITEMS ⟨_, rfl⟩) pe_int) pa_nil)))))), ?_⟩
  have x0 : Ev K (tVar 0) (start N_is_item [v]) B H d := ev_var rfl hv
  refine s_ret (K := K) (d := .bool (isItemD d)) ?_ e fun v B' H' l hv => k _ rfl v B' H' l hv
  have e1 : isItemD d = withinD [d, .int 0, .int (60 - 1)] := by
    cases d with
    | int i =>
      simp only [isItemD, withinD]
      congr 1
      exact decide_eq_decide.mpr (by omega)
    | _ => rfl
  rw [e1]
  exact ev_call (f := fun ds => .bool (withinD ds)) (ea_cons x0 (ea_cons ev_i (ea_cons (ev_op ev_i ev_i rv_int0) ea_nil))) ⟨d, 0, _, rfl⟩
end
end K01

set_option maxRecDepth 100000
set_option maxHeartbeats 4000000
namespace K01
open PySem PySem.Spec PyProof.Rows L2 MA
section
variable {P : Program} {w : World} {K : PySem.W.Frag} {mg : PySem.Str → Option Value} {base : Heap}
theorem ok_is_item1 {z : Sp} (C : Cl P w K mg base CX0 2 "is_item" ["value"] (Pf K (fun ds => ds.length = 1) fun ds => .bool (isItemD (ds.getD 0 .none)))) : Cl P w K mg base CX0 2 "is_item" ["value"] (Pf1 K (fun _ => True) fun d => .bool (isItemD d)) :=
  C.imp fun vs H Q E h => by
    obtain ⟨B, ds, e, h1, ⟨d, rfl, _⟩, q⟩ := h
    exact ⟨B, [d], e, h1, rfl, q⟩
theorem ok_is_line (D : Df K mg "is_line" s_is_line ["value"]) (C_is_item : Cl P w K mg base CX0 2 "is_item" ["value"] (Pf1 K (fun _ => True) fun d => .bool (isItemD d)))
    (z_isinstance : mg "isinstance" = none) (z_tuple : mg "tuple" = none) (z_len : mg "len" = none) (z_set : mg "set" = none) (z_all : mg "all" = none) {t60 : Tok} (g_MOST_ITEMS : mg "MOST_ITEMS" = some (.int 60 t60)) :
    Cl P w K mg base CX0 3 "is_line" ["value"] (Pf1 K (fun _ => True) fun d => .bool (isLineD d)) := by
  refine Cl.pu1 D sc_is_line fun f cdv A outer s H v Q E B d hr e hv hp k => ?_
  have hu := hr.units0
  refine ⟨_, (pss_cons (ps_if ((pw_or (pt_not (pt_val (pe_callB call_isi (by rfl) z_isinstance (by decide +kernel) (pa_cons (pv 0) (pa_cons (pe_bltn (v := .ty "tuple") (by rfl) z_tuple (by decide +kernel) rfl) pa_nil))))) (pw_or1 (pt_not (pt_chain op_le op_le pe_int (pe_callB call_len_seq (by rfl) z_len PySem.boot_len (pa_cons (pv 0) pa_nil)) (pe_glob (v := .int (60)) (by rfl) g_MOST_ITEMS ⟨_, rfl⟩)))))).pt (pss_one (ps_ret pe_bl)) pss_nil) (pss_one (ps_ret (pe_and (pe_callB (cr_all rfl) (by rfl) z_all (by decide +kernel) (pa_cons (pe_lc (own := [("item", 1)]) (tt := tYes) (te := (tCall _ [] E0 (tCons (tVar 1) tNil))) rfl sc_is_line.nd (pi_tup (pv 0)) (blkOk_by (N := N_is_line) (sc := defScope s_is_line) (by decide +kernel)) (fun _ _ _ _ _ => (pg_name (i := 1) sc_is_line.nd rfl (.inl rfl))) (fun _ _ _ _ _ => pts_nil) (fun _ _ _ _ _ => (pe_callC C_is_item (hr.mono (by decide)) (by rfl) pass0 (pa_cons (pv 1) pa_nil)))) pa_nil)) (pe_one (pe_cmpR (op_eqA hu) (pe_lenSetT rfl (by rfl) z_len (by rfl) z_set (pv 0)) (pe_callB call_len_seq (by rfl) z_len PySem.boot_len (pa_cons (pv 0) pa_nil)) (nomark _))))))), ?_⟩
  have x0 : Ev K (tVar 0) (start N_is_line [v]) B H d := ev_var rfl hv
  refine q_when (k := !isN "tuple" d || !(decide ((1 : Int) ≤ (tlen d : Int)) && decide ((tlen d : Int) ≤ 60))) ?_ e ?_ ?_
  · refine et_or (et_not (et_B (ev_isi x0 (by decide)))) fun h1 => et_not ?_
    obtain ⟨ds, rfl⟩ := isT (by simpa using h1)
    exact et_chain ev_i (ev_cb (ea_cons x0 ea_nil) rc_lenT) (fun _ => ev_i) (rv_cmp (g := fun a b => decide (a ≤ b))) fun _ => rv_cmp (g := fun a b => decide (a ≤ b))
  · intro h1 B1 H1 l
    refine s_ret (K := K) (d := .bool false) ev_b l.h fun v B' H' l2 hv => k v B' H' (l.trans l2) ?_
    have : isLineD d = false := by
      cases z : isLineD d with
      | false => rfl
      | true =>
        exfalso
        cases d with
        | tuple ds =>
          simp only [isLineD, Bool.and_eq_true, decide_eq_true_eq] at z
          have a1 : decide ((1 : Int) ≤ (tlen (.tuple ds) : Int)) = true := decide_eq_true (by show (1 : Int) ≤ (ds.length : Int); omega)
          have a2 : decide ((tlen (.tuple ds) : Int) ≤ 60) = true := decide_eq_true (by show (ds.length : Int) ≤ 60; omega)
          rw [a1, a2] at h1
          simp [isN, isNS, tyN] at h1
        | _ => simp [isLineD] at z
    show Dq K B' v (.bool (isLineD d))
    rw [this]
    exact hv
  · intro h1 B1 H1 l
    simp only [Bool.or_eq_false_iff, Bool.not_eq_false', Bool.and_eq_true, decide_eq_true_eq] at h1
    obtain ⟨ds, rfl⟩ := isT h1.1
    have h2 : (1 : Int) ≤ (ds.length : Int) := h1.2.1
    have h3 : (ds.length : Int) ≤ 60 := h1.2.2
    have y0 := x0.up l
    refine s_ret (K := K) (d := .bool (isLineD (.tuple ds))) ?_ l.h (fun v B' H' l2 hv => ?_)
    case refine_2 => exact k v B' H' (l.trans l2) hv
    have e1 : isLineD (.tuple ds) = (ds.all isItemD && decide ((dcount (ds.map itemI) : Int) = (ds.length : Int))) := by
      have a1 : decide (1 ≤ ds.length) = true := decide_eq_true (by omega)
      have a2 : decide (ds.length ≤ 60) = true := decide_eq_true (by omega)
      have a3 : decide ((dcount (ds.map itemI) : Int) = (ds.length : Int)) = decide ((ds.map itemI).Nodup) := by
        have := dcount_eq (ds.map itemI)
        rw [List.length_map] at this
        by_cases z : (ds.map itemI).Nodup
        · rw [decide_eq_true z, decide_eq_true (by rw [this.mpr z])]
        · rw [decide_eq_false z, decide_eq_false (fun q => z (this.mp (by omega)))]
      simp only [isLineD, a1, a2, a3, Bool.true_and]
    rw [e1]
    refine ev_andV ?_ fun h4 => ?_
    · have c := ev_compT (te := tCall (Pf1 K (fun _ => True) fun d => .bool (isItemD d)) [] E0 (tCons (tVar 1) tNil)) (tt := tYes) (j := 1) (vs := [1]) (fun _ => true) (fun d => .bool (isItemD d)) y0 (by omega)
        (fun d v B1 H1 l hd hv => et_yes) (fun d v B1 H1 l hd hv _ => ev_call1 (ev_var rfl hv) trivial)
      rw [filter_true] at c
      exact ev_cb (ea_cons c ea_nil) (rc_allD isItemD)
    · have e2 := items_ints h4
      have y1 : Ev K (tVar 0) (start N_is_line [v]) B1 H1 (.tuple ((ds.map itemI).map PyData.int)) := by rw [← e2]; exact y0
      have c := ev_lenSet y1 (by rw [List.length_map]; omega)
      exact ev_op c (ev_cb (ea_cons y0 ea_nil) rc_lenT) rv_eqI
end
end K01

set_option maxRecDepth 100000
set_option maxHeartbeats 4000000
namespace K01
open PySem PySem.Spec PyProof.Rows L2 MA
section
variable {P : Program} {w : World} {K : PySem.W.Frag} {mg : PySem.Str → Option Value} {base : Heap}
theorem three_of {ds : List PyData} (h : ds.length = 3) : ∃ a b c, ds = [a, b, c] := by
  match ds, h with
  | [a, b, c], _ => exact ⟨a, b, c, rfl⟩
theorem ok_is_command (D : Df K mg "is_command" s_is_command ["value"]) (C_is_item : Cl P w K mg base CX0 2 "is_item" ["value"] (Pf1 K (fun _ => True) fun d => .bool (isItemD d)))
    (z_isinstance : mg "isinstance" = none) (z_tuple : mg "tuple" = none) (z_len : mg "len" = none) (z_str : mg "str" = none) {a_WORDS : Addr} (g_WORDS : mg "WORDS" = some (.ref a_WORDS)) (hW : ∀ H, SqT K H a_WORDS [.str "behind", .str "before"]) :
    Cl P w K mg base CX0 3 "is_command" ["value"] (Pf1 K (fun _ => True) fun d => .bool (isCommandD d)) := by
  refine Cl.pu1 D sc_is_command fun f cdv A outer s H v Q E B d hr e hv hp k => ?_
  have hu := hr.units0
  refine ⟨_, (pss_cons (ps_if ((pw_or (pt_not (pt_val (pe_callB call_isi (by rfl) z_isinstance (by decide +kernel) (pa_cons (pv 0) (pa_cons (pe_bltn (v := .ty "tuple") (by rfl) z_tuple (by decide +kernel) rfl) pa_nil))))) (pw_or1 (pt_cmpR (op_neA hu) (pe_callB call_len_seq (by rfl) z_len PySem.boot_len (pa_cons (pv 0) pa_nil)) pe_int (nomark _))))).pt (pss_one (ps_ret pe_bl)) pss_nil) (pss_cons (ps_asg (pv 0) (pg_tup rfl (pgs_cons (pg_name (i := 1) sc_is_command.nd rfl (.inl rfl)) (pgs_cons (pg_name (i := 2) sc_is_command.nd rfl (.inl rfl)) (pgs_cons (pg_name (i := 3) sc_is_command.nd rfl (.inl rfl)) pgs_nil))))) (pss_cons (ps_if ((pw_or (pt_not (pt_val (pe_callB call_isi (by rfl) z_isinstance (by decide +kernel) (pa_cons (pv 1) (pa_cons (pe_bltn (v := .ty "str") (by rfl) z_str (by decide +kernel) rfl) pa_nil))))) (pw_or1 (pt_cmpR op_notIn_seq (pv 1) (pe_glob (v := .ref a_WORDS) (by rfl) g_WORDS rfl) (by rfl))))).pt (pss_one (ps_ret pe_bl)) pss_nil) (pss_one (ps_ret (pe_and (pe_callC C_is_item (hr.mono (by decide)) (by rfl) pass0 (pa_cons (pv 2) pa_nil)) (pe_and (pe_callC C_is_item (hr.mono (by decide)) (by rfl) pass0 (pa_cons (pv 3) pa_nil)) (pe_one (pe_cmpR (op_neA hu) (pv 2) (pv 3) (nomark _)))))))))), ?_⟩
  have x0 : Ev K (tVar 0) (start N_is_command [v]) B H d := ev_var rfl hv
  refine q_when (k := !isN "tuple" d || !decide ((tlen d : Int) = 3)) ?_ e ?_ ?_
  · refine et_or (et_not (et_B (ev_isi x0 (by decide)))) fun h1 => ?_
    obtain ⟨ds, rfl⟩ := isT (by simpa using h1)
    exact et_test (ev_op (ev_cb (ea_cons x0 ea_nil) rc_lenT) ev_i rv_neI)
  · intro h1 B1 H1 l
    refine s_ret (K := K) (d := .bool false) ev_b l.h fun v B' H' l2 hv => k v B' H' (l.trans l2) ?_
    have : isCommandD d = false := by
      cases z : isCommandD d with
      | false => rfl
      | true =>
        exfalso
        unfold isCommandD at z
        split at z
        · simp [isN, isNS, tyN, tlen] at h1
        · cases z
    show Dq K B' v (.bool (isCommandD d))
    rw [this]
    exact hv
  intro h1 B1 H1 l
  simp only [Bool.or_eq_false_iff, Bool.not_eq_false', decide_eq_true_eq] at h1
  obtain ⟨ds, rfl⟩ := isT h1.1
  obtain ⟨wd, a, b, rfl⟩ := three_of (show ds.length = 3 by have := h1.2; simp only [tlen] at this; omega)
  refine q_asg3 (x0.up l) l.h fun x y z B2 H2 l2 hx hy hz => ?_
  refine q_when (k := !isN "str" wd || !isWord wd) ?_ l2.h ?_ ?_
  · refine et_or (et_not (et_B (ev_isi (ev_var rfl hx) (by decide)))) fun h2 => ?_
    obtain ⟨str, rfl⟩ := isS (by simpa using h2)
    have c := rv_notInTS (K := K) (i := str) (ns := ["behind", "before"])
    have e1 : isWord (.str str) = decide (str ∈ (["behind", "before"] : List PySem.Str)) := by
      simp only [isWord, List.mem_cons, List.mem_nil_iff, or_false]
      by_cases p : str = "behind"
      · simp [p]
      · by_cases q : str = "before" <;> simp [p, q]
    rw [e1]
    refine et_test (ev_op (ev_var rfl hx) (ev_c (.tup (hW B2) (dqStrs ["behind", "before"]))) c)
  · intro h2 B3 H3 l3
    refine s_ret (K := K) (d := .bool false) ev_b l3.h fun v B' H' l4 hv => k v B' H' (((l.trans l2).trans l3).trans l4) ?_
    have : isCommandD (.tuple [wd, a, b]) = false := by
      have : isWord wd = false := by
        cases wd with
        | str x => simpa [isN, isNS, tyN] using h2
        | _ => rfl
      simp only [isCommandD, this, Bool.false_and]
    show Dq K B' v (.bool (isCommandD (.tuple [wd, a, b])))
    rw [this]
    exact hv
  intro h2 B3 H3 l3
  have hw : isWord wd = true := by
    simp only [Bool.or_eq_false_iff, Bool.not_eq_false'] at h2
    exact h2.2
  refine s_ret (K := K) (d := .bool (isCommandD (.tuple [wd, a, b]))) ?_ l3.h (fun v B' H' l4 hv => ?_)
  case refine_2 => exact k v B' H' (((l.trans l2).trans l3).trans l4) hv
  have e1 : isCommandD (.tuple [wd, a, b]) = (isItemD a && (isItemD b && !decide (itemI a = itemI b))) := by simp only [isCommandD, hw, Bool.true_and]
  rw [e1]
  refine ev_andV (ev_call1 (Ev.up l3 (ev_var rfl hy)) trivial) fun h4 => ev_andV (ev_call1 (Ev.up l3 (ev_var rfl hz)) trivial) fun h5 => ?_
  obtain ⟨i, rfl, _⟩ := item_int h4
  obtain ⟨j, rfl, _⟩ := item_int h5
  exact ev_op (Ev.up l3 (ev_var rfl hy)) (Ev.up l3 (ev_var rfl hz)) rv_neI
theorem ok_is_script (D : Df K mg "is_script" s_is_script ["value"]) (C_is_command : Cl P w K mg base CX0 3 "is_command" ["value"] (Pf1 K (fun _ => True) fun d => .bool (isCommandD d)))
    (z_isinstance : mg "isinstance" = none) (z_tuple : mg "tuple" = none) (z_len : mg "len" = none) (z_all : mg "all" = none) {t200 : Tok} (g_MOST_COMMANDS : mg "MOST_COMMANDS" = some (.int 200 t200)) :
    Cl P w K mg base CX0 4 "is_script" ["value"] (Pf1 K (fun _ => True) fun d => .bool (isScriptD d)) := by
  refine Cl.pu1 D sc_is_script fun f cdv A outer s H v Q E B d hr e hv hp k => ?_
  have hu := hr.units0
  refine ⟨_, (pss_cons (ps_if ((pw_or (pt_not (pt_val (pe_callB call_isi (by rfl) z_isinstance (by decide +kernel) (pa_cons (pv 0) (pa_cons (pe_bltn (v := .ty "tuple") (by rfl) z_tuple (by decide +kernel) rfl) pa_nil))))) (pw_or1 (pt_not (pt_chain op_le op_le pe_int (pe_callB call_len_seq (by rfl) z_len PySem.boot_len (pa_cons (pv 0) pa_nil)) (pe_glob (v := .int (200)) (by rfl) g_MOST_COMMANDS ⟨_, rfl⟩)))))).pt (pss_one (ps_ret pe_bl)) pss_nil) (pss_one (ps_ret (pe_callB (cr_all rfl) (by rfl) z_all (by decide +kernel) (pa_cons (pe_lc (own := [("command", 1)]) (tt := tYes) (te := (tCall _ [] E0 (tCons (tVar 1) tNil))) rfl sc_is_script.nd (pi_tup (pv 0)) (blkOk_by (N := N_is_script) (sc := defScope s_is_script) (by decide +kernel)) (fun _ _ _ _ _ => (pg_name (i := 1) sc_is_script.nd rfl (.inl rfl))) (fun _ _ _ _ _ => pts_nil) (fun _ _ _ _ _ => (pe_callC C_is_command (hr.mono (by decide)) (by rfl) pass0 (pa_cons (pv 1) pa_nil)))) pa_nil))))), ?_⟩
  have x0 : Ev K (tVar 0) (start N_is_script [v]) B H d := ev_var rfl hv
  refine q_when (k := !isN "tuple" d || !(decide ((1 : Int) ≤ (tlen d : Int)) && decide ((tlen d : Int) ≤ 200))) ?_ e ?_ ?_
  · refine et_or (et_not (et_B (ev_isi x0 (by decide)))) fun h1 => et_not ?_
    obtain ⟨ds, rfl⟩ := isT (by simpa using h1)
    exact et_chain ev_i (ev_cb (ea_cons x0 ea_nil) rc_lenT) (fun _ => ev_i) (rv_cmp (g := fun a b => decide (a ≤ b))) fun _ => rv_cmp (g := fun a b => decide (a ≤ b))
  · intro h1 B1 H1 l
    refine s_ret (K := K) (d := .bool false) ev_b l.h fun v B' H' l2 hv => k v B' H' (l.trans l2) ?_
    have : isScriptD d = false := by
      cases z : isScriptD d with
      | false => rfl
      | true =>
        exfalso
        cases d with
        | tuple ds =>
          simp only [isScriptD, Bool.and_eq_true, decide_eq_true_eq] at z
          have a1 : decide ((1 : Int) ≤ (tlen (.tuple ds) : Int)) = true := decide_eq_true (by show (1 : Int) ≤ (ds.length : Int); omega)
          have a2 : decide ((tlen (.tuple ds) : Int) ≤ 200) = true := decide_eq_true (by show (ds.length : Int) ≤ 200; omega)
          rw [a1, a2] at h1
          simp [isN, isNS, tyN] at h1
        | _ => simp [isScriptD] at z
    show Dq K B' v (.bool (isScriptD d))
    rw [this]
    exact hv
  · intro h1 B1 H1 l
    simp only [Bool.or_eq_false_iff, Bool.not_eq_false', Bool.and_eq_true, decide_eq_true_eq] at h1
    obtain ⟨ds, rfl⟩ := isT h1.1
    have h2 : (1 : Int) ≤ (ds.length : Int) := h1.2.1
    have h3 : (ds.length : Int) ≤ 200 := h1.2.2
    have y0 := x0.up l
    refine s_ret (K := K) (d := .bool (isScriptD (.tuple ds))) ?_ l.h (fun v B' H' l2 hv => ?_)
    case refine_2 => exact k v B' H' (l.trans l2) hv
    have e1 : isScriptD (.tuple ds) = ds.all isCommandD := by
      have a1 : decide (1 ≤ ds.length) = true := decide_eq_true (by omega)
      have a2 : decide (ds.length ≤ 200) = true := decide_eq_true (by omega)
      simp only [isScriptD, a1, a2, Bool.true_and]
    rw [e1]
    have c := ev_compT (te := tCall (Pf1 K (fun _ => True) fun d => .bool (isCommandD d)) [] E0 (tCons (tVar 1) tNil)) (tt := tYes) (j := 1) (vs := [1]) (fun _ => true) (fun d => .bool (isCommandD d)) y0 (by omega)
      (fun d v B1 H1 l hd hv => et_yes) (fun d v B1 H1 l hd hv _ => ev_call1 (ev_var rfl hv) trivial)
    rw [filter_true] at c
    exact ev_cb (ea_cons c ea_nil) (rc_allD isCommandD)
theorem ok_require_script (D : Df K mg "require_script" s_require_script ["value"]) (C_is_script : Cl P w K mg base CX0 4 "is_script" ["value"] (Pf1 K (fun _ => True) fun d => .bool (isScriptD d))) :
    Cl P w K mg base CX0 5 "require_script" ["value"] (Pf1 K (fun d => isScriptD d = true) fun _ => .none) := by
  refine Cl.pu1 D sc_require_script fun f cdv A outer s H v Q E B d hr e hv hp k => ?_
  have hu := hr.units0
  refine ⟨_, (pss_one (ps_if (pt_not (pt_val (pe_callC C_is_script (hr.mono (by decide)) (by rfl) pass0 (pa_cons (pv 0) pa_nil)))) (pss_one (ps_never)) pss_nil)), ?_⟩
  refine s_when (k := !isScriptD d) (et_not (et_B (ev_call1 (ev_var rfl hv) trivial))) e (fun h => ?_) fun h B1 H1 l => k .non B1 H1 l .non
  rw [hp] at h
  cases h
/-- pure, one argument, the answer a new object -/
abbrev Pn1 (K : PySem.W.Frag) (Pre : PyData → Prop) (g : PyData → PyData) : Sp := fun vs H Q _ => ∃ B v d, Ex B H ∧ vs = [v] ∧ Dq K B v d ∧ Pre d ∧ ∀ v' B' H', Le [] B H B' H' → (∃ a, v' = .ref a ∧ H a = none) → Dq K B' v' (g d) → Q v' H'
theorem pn_len {K : PySem.W.Frag} {Pre : PyData → Prop} {g : PyData → PyData} {a : PySem.Str} (vs : List V) (H : Hp) (Q : VK) (E : XK) (h : Pn1 K Pre g vs H Q E) : vs.length = [a].length := by
  obtain ⟨_, _, _, _, rfl, _⟩ := h
  rfl
theorem evN_call1 {K : PySem.W.Frag} {σ : L2.St} {B H : Hp} {te : TE} {Pre : PyData → Prop} {g : PyData → PyData} {E : XK} {d : PyData} (h : Ev K te σ B H d) (hp : Pre d) : EvN K (tCall (Pn1 K Pre g) [] E (tCons te tNil)) σ B H (g d) := fun B1 H1 l Q q =>
  h B1 H1 l _ fun v B2 H2 l2 hv => ⟨B2, v, d, l2.h, rfl, hv, hp, fun v' B' H' l3 hn hv' => by
    obtain ⟨a, ea, ha⟩ := hn
    exact q v' B' H' (l2.trans l3) ⟨a, ea, l2.back ha⟩ hv'⟩
/-- the two items of a command -/
def itemsD : PyData → List Int
  | .tuple [_, a, b] => [itemI a, itemI b]
  | _ => []
theorem command_of {d : PyData} (h : isCommandD d = true) : ∃ (x : PySem.Str) (i j : Int), d = .tuple [.str x, .int i, .int j] ∧ (x = "behind" ∨ x = "before") ∧ 0 ≤ i ∧ i < 60 ∧ 0 ≤ j ∧ j < 60 ∧ i ≠ j := by
  unfold isCommandD at h
  split at h
  · rename_i wd ea eb
    simp only [Bool.and_eq_true] at h
    obtain ⟨h1, h2, h3, h4⟩ := h
    obtain ⟨i, rfl, i1, i2⟩ := item_int h2
    obtain ⟨j, rfl, j1, j2⟩ := item_int h3
    cases wd with
    | str x =>
      simp only [isWord, Bool.or_eq_true, decide_eq_true_eq] at h1
      exact ⟨x, i, j, rfl, h1, i1, i2, j1, j2, by intro e; subst e; simp [itemI] at h4⟩
    | _ => simp [isWord] at h1
  · cases h
/-- the named items, ascending -/
def namedI (ds : List PyData) : List Int := below fun k => ds.any fun d => decide (k ∈ itemsD d)
def tupD : PyData → List PyData
  | .tuple ds => ds
  | _ => []
theorem script_of {d : PyData} (h : isScriptD d = true) : ∃ ds, d = .tuple ds ∧ 1 ≤ ds.length ∧ ds.length ≤ 200 ∧ ∀ c ∈ ds, isCommandD c = true := by
  cases d with
  | tuple ds =>
    simp only [isScriptD, Bool.and_eq_true, decide_eq_true_eq] at h
    exact ⟨ds, rfl, h.1.1, h.1.2, fun c hc => List.all_eq_true.mp h.2 c hc⟩
  | _ => simp [isScriptD] at h
theorem cut_from1 {a b c : PyData} : cutG [a, b, c] (some 1) none = [b, c] := by rfl
theorem ok_named_items (D : Df K mg "named_items" s_named_items ["script"]) (z_sorted : mg "sorted" = none) :
    Cl P w K mg base CX0 1 "named_items" ["script"] (Pn1 K (fun d => isScriptD d = true) fun d => .list ((namedI (tupD d)).map PyData.int)) :=
  Cl.of D sc_named_items pn_len fun f cdv A outer s H vs Q E hr h => by
  obtain ⟨B, v, d, e, rfl, hv, hp, k⟩ := h
  have hu := hr.units0
  refine ⟨_, (pss_one (ps_ret (pe_callB (cr_sortedSet rfl) (by rfl) z_sorted (by decide +kernel) (pa_cons (pe_sc2 (own := [("command", 1), ("item", 2)]) (vs1 := [2]) (wi1 := (iTup K (tSl (rSlAny K) (tVar 1) (tPart (tC (.int 1))) tNoPart))) (te := (tVar 2)) rfl sc_named_items.nd (pi_tup (pv 0)) (blkOk_by (N := N_named_items) (sc := defScope s_named_items) (by decide +kernel)) (by decide) (fun _ _ _ _ _ => (pg_name (i := 1) sc_named_items.nd rfl (.inl rfl))) (fun _ _ _ _ _ => (pi_tup (pe_slice sl_any (pv 1) (po_some pe_int) po_none))) (fun _ _ _ _ _ => (pg_name (i := 2) sc_named_items.nd rfl (.inl rfl))) (fun _ _ _ _ _ => (pv 2))) pa_nil)))), ?_⟩
  obtain ⟨ds, rfl, h1, h2, h3⟩ := script_of hp
  refine evN_sortedSet itemsD (ev_var rfl hv) (fun c hc i hi => ?_) (fun c v B1 H1 l hc hv => ?_) (fun _ => rfl) (fun _ _ => rfl) (fun _ _ => rfl) B H (Le.refl e) _ fun v B' H' l2 hn hv => k v B' H' l2 hn hv
  · obtain ⟨x, i1, j1, rfl, _, a1, a2, b1, b2, _⟩ := command_of (h3 c hc)
    simp only [itemsD, itemI, List.mem_cons, List.mem_nil_iff, or_false] at hi
    rcases hi with rfl | rfl <;> omega
  · obtain ⟨x, i1, j1, rfl, _⟩ := command_of (h3 c hc)
    exact ev_sl (ev_var rfl hv) (eo_some (K := K) ev_i) eo_none rs_T
theorem ok_items_of (D : Df K mg "items_of" s_items_of ["script"]) (C_require_script : Cl P w K mg base CX0 5 "require_script" ["value"] (Pf1 K (fun d => isScriptD d = true) fun _ => .none))
    (C_named_items : Cl P w K mg base CX0 1 "named_items" ["script"] (Pn1 K (fun d => isScriptD d = true) fun d => .list ((namedI (tupD d)).map PyData.int))) :
    Cl P w K mg base CX0 6 "items_of" ["script"] (Pn1 K (fun d => isScriptD d = true) fun d => .list ((namedI (tupD d)).map PyData.int)) :=
  Cl.of D sc_items_of pn_len fun f cdv A outer s H vs Q E hr h => by
  obtain ⟨B, v, d, e, rfl, hv, hp, k⟩ := h
  have hu := hr.units0
  refine ⟨_, (pss_cons (ps_expr (pe_callC C_require_script (hr.mono (by decide)) (by rfl) pass0 (pa_cons (pv 0) pa_nil))) (pss_one (ps_ret (pe_callC C_named_items (hr.mono (by decide)) (by rfl) pass0 (pa_cons (pv 0) pa_nil))))), ?_⟩
  refine q_drop (ev_call1 (ev_var rfl hv) hp) e fun B1 H1 l => ?_
  refine evN_call1 (g := fun d => .list ((namedI (tupD d)).map PyData.int)) (Ev.up l (ev_var rfl hv)) hp B1 H1 (Le.refl l.h) _ fun v B' H' l2 hn hv => ?_
  obtain ⟨a, ea, ha⟩ := hn
  exact k v B' H' (l.trans l2) ⟨a, ea, l.back ha⟩ hv
end
end K01

set_option maxRecDepth 100000
set_option maxHeartbeats 4000000
namespace K01
open PySem PySem.Spec PyProof.Rows L2 MA
section
variable {P : Program} {w : World} {K : PySem.W.Frag} {mg : PySem.Str → Option Value} {base : Heap}
theorem ok_law_is_item (D : Df K mg "_law_is_item" s__law_is_item ["value"]) (z_isinstance : mg "isinstance" = none) (z_int : mg "int" = none) (z_bool : mg "bool" = none) :
    Cl P w K mg base CX0 1 "_law_is_item" ["value"] (Pf1 K (fun _ => True) fun d => .bool (isItemD d)) := by
  refine Cl.pu1 D sc__law_is_item fun f cdv A outer s H v Q E B d hr e hv hp k => ?_
  refine ⟨_, (pss_one (ps_ret (pe_and (pe_callB call_isi (by rfl) z_isinstance (by decide +kernel) (pa_cons (pv 0) (pa_cons (pe_bltn (v := .ty "int") (by rfl) z_int (by decide +kernel) rfl) pa_nil))) (pe_and (pe_not (pe_callB call_isi (by rfl) z_isinstance (by decide +kernel) (pa_cons (pv 0) (pa_cons (pe_bltn (v := .ty "bool") (by rfl) z_bool (by decide +kernel) rfl) pa_nil)))) (pe_one (pe_chain op_le op_lt pe_int (pv 0) pe_int)))))), ?_⟩
  have x0 : Ev K (tVar 0) (start N__law_is_item [v]) B H d := ev_var rfl hv
  refine s_ret (K := K) (d := .bool (isItemD d)) ?_ e fun v B' H' l hv => k v B' H' l hv
  have e1 : isItemD d = (isN "int" d && (!isN "bool" d && (decide (0 ≤ itemI d) && decide (itemI d < 60)))) := by
    cases d <;> first | rfl | (simp [isItemD, isN, isNS, tyN, itemI])
  rw [e1]
  refine ev_andV (ev_isi x0 (by decide)) fun h1 => ev_andV (ev_notV (ev_isi x0 (by decide))) fun h2 => ?_
  have hi : ∃ i, d = .int i := by
    cases d with
    | int i => exact ⟨i, rfl⟩
    | bool b => simp [isN, isNS, tyN] at h2
    | _ => simp [isN, isNS, tyN] at h1
  obtain ⟨i, rfl⟩ := hi
  exact ev_chain ev_i x0 (fun _ => ev_i) (rv_cmp (g := fun a b => decide (a ≤ b))) fun _ => rv_cmp (g := fun a b => decide (a < b))
theorem line_eq {ds : List PyData} (h0 : ds ≠ []) (h1 : ds.all isItemD = true) : isLineD (.tuple ds) = (picked (fun i => decide (((ds.map itemI).getD i 0) ∈ (ds.map itemI).take i)) (fun i => .int i) ds.length).isEmpty := by
  have hn := nodup_iff (ds.map itemI)
  have a0 : 1 ≤ ds.length := by
    cases ds with
    | nil => exact absurd rfl h0
    | cons _ _ => simp
  have key : (picked (fun i => decide (((ds.map itemI).getD i 0) ∈ (ds.map itemI).take i)) (fun i => .int i) ds.length).isEmpty = true ↔ (ds.map itemI).Nodup := by
    rw [picked_nil, ← hn]
    constructor
    · intro h i k hi
      have hlt : i < ds.length := by have := (List.getElem?_eq_some_iff.mp hi).1; rwa [List.length_map] at this
      have := of_decide_eq_false (h i hlt)
      rwa [show (ds.map itemI).getD i 0 = k by simp [List.getD, hi]] at this
    · intro h i hi
      refine decide_eq_false (h i _ ?_)
      have : (ds.map itemI)[i]? = some ((ds.map itemI)[i]'(by simpa using hi)) := List.getElem?_eq_getElem _
      rw [this]
      simp [List.getD, this]
  have h60 : (ds.map itemI).Nodup → ds.length ≤ 60 := fun z => by
    have h1 := nodup_le (ds.map itemI) (below fun _ => true) z fun k hk => by
      obtain ⟨d, hd, rfl⟩ := List.mem_map.mp hk
      obtain ⟨i, rfl, i1, i2⟩ := item_int (List.all_eq_true.mp h1 d hd)
      exact mem_below.mpr ⟨i1, i2, rfl⟩
    have h2 := below_len fun _ => true
    rw [List.length_map] at h1
    omega
  by_cases z : (ds.map itemI).Nodup
  · rw [key.mpr z]
    simp only [isLineD, h1, decide_eq_true z, decide_eq_true a0, decide_eq_true (h60 z), Bool.and_self]
  · cases q : (picked (fun i => decide (((ds.map itemI).getD i 0) ∈ (ds.map itemI).take i)) (fun i => PyData.int i) ds.length).isEmpty with
    | true => exact absurd (key.mp q) z
    | false => simp only [isLineD, decide_eq_false z, Bool.and_false]
theorem ok_law_is_line (D : Df K mg "_law_is_line" s__law_is_line ["value"]) (C__law_is_item : Cl P w K mg base CX0 1 "_law_is_item" ["value"] (Pf1 K (fun _ => True) fun d => .bool (isItemD d)))
    (z_isinstance : mg "isinstance" = none) (z_tuple : mg "tuple" = none) (z_enumerate : mg "enumerate" = none) :
    Cl P w K mg base CX0 2 "_law_is_line" ["value"] (Pf1 K (fun d => tlen d ≤ 1000) fun d => .bool (isLineD d)) := by
  refine Cl.pu1 D sc__law_is_line fun f cdv A outer s H v Q E B d hr e hv hp k => ?_
  have hu := hr.units0
  refine ⟨_, (pss_cons (ps_if ((pw_or (pt_not (pt_val (pe_callB call_isi (by rfl) z_isinstance (by decide +kernel) (pa_cons (pv 0) (pa_cons (pe_bltn (v := .ty "tuple") (by rfl) z_tuple (by decide +kernel) rfl) pa_nil))))) (pw_or (pt_cmpR (op_eqA hu) (pv 0) (pe_tup pa_nil) (nomark _)) (pw_or1 (pt_cmpR (op_neA hu) (pe_lc (own := [("one", 1)]) (tt := (tNot (tB (tCall _ [] E0 (tCons (tVar 1) tNil))))) (te := (tVar 1)) rfl sc__law_is_line.nd (pi_tup (pv 0)) (blkOk_by (N := N__law_is_line) (sc := defScope s__law_is_line) (by decide +kernel)) (fun _ _ _ _ _ => (pg_name (i := 1) sc__law_is_line.nd rfl (.inl rfl))) (fun _ _ _ _ _ => (pts_one (pt_not (pt_val (pe_callC C__law_is_item (hr.mono (by decide)) (by rfl) pass0 (pa_cons (pv 1) pa_nil)))))) (fun _ _ _ _ _ => (pv 1))) (pe_lst pa_nil) (nomark _)))))).pt (pss_one (ps_ret pe_bl)) pss_nil) (pss_one (ps_ret (pe_cmpR (op_eqA hu) (pe_lc (own := [("k", 2), ("one", 1)]) (tt := (tTest (tOp (rIn K false) (tVar 1) (tSl (rSlAny K) (tVar 0) tNoPart (tPart (tVar 2)))))) (te := (tVar 2)) (g := gTup K 2 (gCons (gName 2) (gCons (gName 1) gNil))) rfl sc__law_is_line.nd (pi_enumT (by rfl) z_enumerate (pa_cons (pv 0) pa_nil)) (blkOk_by (N := N__law_is_line) (sc := defScope s__law_is_line) (by decide +kernel)) (fun _ _ _ _ _ => (pg_tup rfl (pgs_cons (pg_name (i := 2) sc__law_is_line.nd rfl (.inl rfl)) (pgs_cons (pg_name (i := 1) sc__law_is_line.nd rfl (.inl rfl)) pgs_nil)))) (fun _ _ _ _ _ => (pts_one (pt_cmpR op_in_seq (pv 1) (pe_slice sl_any (pv 0) po_none (po_some (pv 2))) (by rfl)))) (fun _ _ _ _ _ => (pv 2))) (pe_lst pa_nil) (nomark _))))), ?_⟩
  have x0 : Ev K (tVar 0) (start N__law_is_line [v]) B H d := ev_var rfl hv
  refine q_when (k := !isN "tuple" d || ((tupD d).isEmpty || !((tupD d).filter fun d => !isItemD d).isEmpty)) ?_ e ?_ ?_
  · refine et_or (et_not (et_B (ev_isi x0 (by decide)))) fun h1 => ?_
    obtain ⟨ds, rfl⟩ := isT (by simpa using h1)
    refine et_or (et_test (ev_op x0 (ev_tup ea_nil (Nat.zero_le _)) rv_eqT0)) fun h2 => ?_
    have c := ev_compT (te := tVar 1) (tt := tNot (tB (tCall (Pf1 K (fun _ => True) fun d => .bool (isItemD d)) [] E0 (tCons (tVar 1) tNil)))) (j := 1) (vs := [1]) (fun d => !isItemD d) (fun d => d) x0 (by simp only [tlen] at hp; omega)
      (fun d v B1 H1 l hd hv => et_not (et_B (ev_call1 (ev_var rfl hv) trivial))) (fun d v B1 H1 l hd hv _ => ev_var rfl hv)
    rw [List.map_id'] at c
    exact et_test (ev_op c (ev_lst ea_nil (Nat.zero_le _)) rv_neL0)
  · intro h1 B1 H1 l
    refine s_ret (K := K) (d := .bool false) ev_b l.h fun v B' H' l2 hv => k v B' H' (l.trans l2) ?_
    have : isLineD d = false := by
      cases z : isLineD d with
      | false => rfl
      | true =>
        exfalso
        cases d with
        | tuple ds =>
          simp only [isLineD, Bool.and_eq_true, decide_eq_true_eq] at z
          rw [filter_allD] at h1
          simp only [tupD, z.2.1, isN, isNS, tyN] at h1
          cases ds with
          | nil => simp at z
          | cons _ _ => simp at h1
        | _ => simp [isLineD] at z
    show Dq K B' v (.bool (isLineD d))
    rw [this]
    exact hv
  · intro h1 B1 H1 l
    rw [filter_allD] at h1
    simp only [Bool.or_eq_false_iff, Bool.not_eq_false'] at h1
    obtain ⟨ds, rfl⟩ := isT h1.1
    have h2 : ds.isEmpty = false := h1.2.1
    have h3 : ds.all isItemD = true := h1.2.2
    have y0 := x0.up l
    refine s_ret (K := K) (d := .bool (isLineD (.tuple ds))) ?_ l.h (fun v B' H' l2 hv => ?_)
    case refine_2 => exact k v B' H' (l.trans l2) hv
    rw [line_eq (by intro z; subst z; simp at h2) h3]
    have e2 := items_ints h3
    have c := ev_lcEnT (te := tVar 2) (tt := tTest (tOp (rIn K false) (tVar 1) (tSl (rSlAny K) (tVar 0) tNoPart (tPart (tVar 2))))) (i1 := 2) (i2 := 1) (vs := [2, 1]) (fun i => decide (((ds.map itemI).getD i 0) ∈ (ds.map itemI).take i)) (fun i => .int i) y0 (by simp only [tlen] at hp; omega)
      (fun i d u B3 H3 l3 hd hu3 => by
        obtain ⟨n, rfl, _⟩ := item_int (List.all_eq_true.mp h3 d (List.mem_of_getElem? hd))
        have hn : (ds.map itemI).getD i 0 = n := by simp [List.getD, hd, itemI]
        rw [hn]
        have sl : Ev K (tSl (rSlAny K) (tVar 0) tNoPart (tPart (tVar 2))) (((wipe (L2.start N__law_is_line [v]) [2, 1]).set 2 (some (.int (i : Nat)))).set 1 (some u)) B3 H3 (.tuple (((ds.map itemI).take i).map PyData.int)) := by
          have z := ev_sl (K := K) (σ := ((wipe (L2.start N__law_is_line [v]) [2, 1]).set 2 (some (.int (i : Nat)))).set 1 (some u)) (te := tVar 0) (B := B3) (H := H3) (x := .tuple ds) (ev_var rfl (hv.mono (l.trans l3).b)) eo_none (eo_some (K := K) (te := tVar 2) (i := (i : Nat)) (ev_var rfl (.int _))) rs_T
          rw [cut_to, show ds.take i = ((ds.map itemI).take i).map PyData.int by rw [List.map_take, ← e2]] at z
          exact z
        exact et_test (ev_op (ev_var rfl hu3) sl rv_inTI))
      (fun i d u B3 H3 l3 hd hu3 _ => ev_var rfl (.int _))
    exact ev_op c (ev_lst ea_nil (Nat.zero_le _)) rv_eqL0
theorem ok_law_is_command (D : Df K mg "_law_is_command" s__law_is_command ["value"]) (C__law_is_item : Cl P w K mg base CX0 1 "_law_is_item" ["value"] (Pf1 K (fun _ => True) fun d => .bool (isItemD d)))
    (z_isinstance : mg "isinstance" = none) (z_tuple : mg "tuple" = none) (z_len : mg "len" = none) (z_str : mg "str" = none) :
    Cl P w K mg base CX0 2 "_law_is_command" ["value"] (Pf1 K (fun _ => True) fun d => .bool (isCommandD d)) := by
  refine Cl.pu1 D sc__law_is_command fun f cdv A outer s H v Q E B d hr e hv hp k => ?_
  have hu := hr.units0
  refine ⟨_, (pss_cons (ps_if ((pw_or (pt_not (pt_val (pe_callB call_isi (by rfl) z_isinstance (by decide +kernel) (pa_cons (pv 0) (pa_cons (pe_bltn (v := .ty "tuple") (by rfl) z_tuple (by decide +kernel) rfl) pa_nil))))) (pw_or (pt_cmpR (op_neA hu) (pe_callB call_len_seq (by rfl) z_len PySem.boot_len (pa_cons (pv 0) pa_nil)) pe_int (nomark _)) (pw_or1 (pt_not (pt_val (pe_callB call_isi (by rfl) z_isinstance (by decide +kernel) (pa_cons (pe_ix ix_seq (pv 0) pe_int (fun _ _ => rfl)) (pa_cons (pe_bltn (v := .ty "str") (by rfl) z_str (by decide +kernel) rfl) pa_nil))))))))).pt (pss_one (ps_ret pe_bl)) pss_nil) (pss_cons (ps_if ((pw_or (pt_not (pt_val (pe_callC C__law_is_item (hr.mono (by decide)) (by rfl) pass0 (pa_cons (pe_ix ix_seq (pv 0) pe_int (fun _ _ => rfl)) pa_nil)))) (pw_or1 (pt_not (pt_val (pe_callC C__law_is_item (hr.mono (by decide)) (by rfl) pass0 (pa_cons (pe_ix ix_seq (pv 0) pe_int (fun _ _ => rfl)) pa_nil))))))).pt (pss_one (ps_ret pe_bl)) pss_nil) (pss_one (ps_ret (pe_and (pe_cmpR op_in_seq (pe_ix ix_seq (pv 0) pe_int (fun _ _ => rfl)) (pe_lst (pa_cons pe_str (pa_cons pe_str pa_nil))) (by rfl)) (pe_one (pe_cmpR (op_neA hu) (pe_ix ix_seq (pv 0) pe_int (fun _ _ => rfl)) (pe_ix ix_seq (pv 0) pe_int (fun _ _ => rfl)) (nomark _)))))))), ?_⟩
  have x0 : Ev K (tVar 0) (start N__law_is_command [v]) B H d := ev_var rfl hv
  refine q_when (k := !isN "tuple" d || (!decide ((tlen d : Int) = 3) || !isN "str" ((tupD d).getD 0 .none))) ?_ e ?_ ?_
  · refine et_or (et_not (et_B (ev_isi x0 (by decide)))) fun h1 => ?_
    obtain ⟨ds, rfl⟩ := isT (by simpa using h1)
    refine et_or (et_test (ev_op (ev_cb (ea_cons x0 ea_nil) rc_lenT) ev_i rv_neI)) fun h2 => ?_
    obtain ⟨wd, a, b, rfl⟩ := three_of (show ds.length = 3 by have h3 : ((tlen (.tuple ds) : Nat) : Int) = 3 := by { simpa using h2 }; simp only [tlen] at h3; omega)
    exact et_not (et_B (ev_isi (ev_op x0 ev_i (rv_ixT rfl)) (by decide)))
  · intro h1 B1 H1 l
    refine s_ret (K := K) (d := .bool false) ev_b l.h fun v B' H' l2 hv => k v B' H' (l.trans l2) ?_
    have : isCommandD d = false := by
      cases z : isCommandD d with
      | false => rfl
      | true =>
        exfalso
        obtain ⟨x, i, j, rfl, _⟩ := command_of z
        simp [isN, isNS, tyN, tlen, tupD] at h1
    show Dq K B' v (.bool (isCommandD d))
    rw [this]
    exact hv
  intro h1 B1 H1 l
  simp only [Bool.or_eq_false_iff, Bool.not_eq_false', decide_eq_true_eq] at h1
  obtain ⟨ds, rfl⟩ := isT h1.1
  obtain ⟨wd, a, b, rfl⟩ := three_of (show ds.length = 3 by have := h1.2.1; simp only [tlen] at this; omega)
  obtain ⟨x, rfl⟩ := isS (show isN "str" wd = true from h1.2.2)
  have y0 := x0.up l
  have i0 : Ev K (tOp (rIx K) (tVar 0) (tC (.int 0))) (start N__law_is_command [v]) B1 H1 (.str x) := ev_op y0 ev_i (rv_ixT rfl)
  have i1 : Ev K (tOp (rIx K) (tVar 0) (tC (.int 1))) (start N__law_is_command [v]) B1 H1 a := ev_op y0 ev_i (rv_ixT rfl)
  have i2 : Ev K (tOp (rIx K) (tVar 0) (tC (.int 2))) (start N__law_is_command [v]) B1 H1 b := ev_op y0 ev_i (rv_ixT rfl)
  refine q_when (k := !isItemD a || !isItemD b) ?_ l.h ?_ ?_
  · exact et_or (et_not (et_B (ev_call1 i1 trivial))) fun _ => et_not (et_B (ev_call1 i2 trivial))
  · intro h2 B2 H2 l2
    refine s_ret (K := K) (d := .bool false) ev_b l2.h fun v B' H' l3 hv => k v B' H' ((l.trans l2).trans l3) ?_
    have : isCommandD (.tuple [.str x, a, b]) = false := by
      simp only [isCommandD]
      cases p : isItemD a <;> cases q : isItemD b <;> simp_all
    show Dq K B' v (.bool (isCommandD (.tuple [.str x, a, b])))
    rw [this]
    exact hv
  intro h2 B2 H2 l2
  simp only [Bool.or_eq_false_iff, Bool.not_eq_false'] at h2
  obtain ⟨i, rfl, _⟩ := item_int h2.1
  obtain ⟨j, rfl, _⟩ := item_int h2.2
  refine s_ret (K := K) (d := .bool (isCommandD (.tuple [.str x, .int i, .int j]))) ?_ l2.h (fun v B' H' l3 hv => ?_)
  case refine_2 => exact k v B' H' ((l.trans l2).trans l3) hv
  have e1 : isCommandD (.tuple [.str x, .int i, .int j]) = (decide (x ∈ (["behind", "before"] : List PySem.Str)) && !decide (i = j)) := by
    show (isWord (.str x) && (isItemD (.int i) && (isItemD (.int j) && !decide (i = j)))) = _
    rw [h2.1, h2.2, Bool.true_and, Bool.true_and]
    congr 1
    simp only [isWord, List.mem_cons, List.mem_nil_iff, or_false]
    by_cases p : x = "behind"
    · simp [p]
    · by_cases q : x = "before" <;> simp [p, q]
  rw [e1]
  exact ev_andV (ev_op (Ev.up l2 i0) (ev_lst (ds := (["behind", "before"] : List PySem.Str).map PyData.str) (ea_cons ev_s (ea_cons ev_s ea_nil)) (by show 2 ≤ sizeLine; decide)) rv_inLS) fun _ => ev_op (Ev.up l2 i1) (Ev.up l2 i2) rv_neI
theorem ok_law_is_script (D : Df K mg "_law_is_script" s__law_is_script ["value"]) (C__law_is_command : Cl P w K mg base CX0 2 "_law_is_command" ["value"] (Pf1 K (fun _ => True) fun d => .bool (isCommandD d)))
    (z_isinstance : mg "isinstance" = none) (z_tuple : mg "tuple" = none) (z_len : mg "len" = none) :
    Cl P w K mg base CX0 3 "_law_is_script" ["value"] (Pf1 K (fun _ => True) fun d => .bool (isScriptD d)) := by
  refine Cl.pu1 D sc__law_is_script fun f cdv A outer s H v Q E B d hr e hv hp k => ?_
  have hu := hr.units0
  refine ⟨_, (pss_cons (ps_if ((pw_or (pt_not (pt_val (pe_callB call_isi (by rfl) z_isinstance (by decide +kernel) (pa_cons (pv 0) (pa_cons (pe_bltn (v := .ty "tuple") (by rfl) z_tuple (by decide +kernel) rfl) pa_nil))))) (pw_or1 (pt_not (pt_chain op_lt op_lt pe_int (pe_callB call_len_seq (by rfl) z_len PySem.boot_len (pa_cons (pv 0) pa_nil)) pe_int))))).pt (pss_one (ps_ret pe_bl)) pss_nil) (pss_one (ps_ret (pe_cmpR (op_eqA hu) (pe_lc (own := [("one", 1)]) (tt := (tNot (tB (tCall _ [] E0 (tCons (tVar 1) tNil))))) (te := (tVar 1)) rfl sc__law_is_script.nd (pi_tup (pv 0)) (blkOk_by (N := N__law_is_script) (sc := defScope s__law_is_script) (by decide +kernel)) (fun _ _ _ _ _ => (pg_name (i := 1) sc__law_is_script.nd rfl (.inl rfl))) (fun _ _ _ _ _ => (pts_one (pt_not (pt_val (pe_callC C__law_is_command (hr.mono (by decide)) (by rfl) pass0 (pa_cons (pv 1) pa_nil)))))) (fun _ _ _ _ _ => (pv 1))) (pe_lst pa_nil) (nomark _))))), ?_⟩
  have x0 : Ev K (tVar 0) (start N__law_is_script [v]) B H d := ev_var rfl hv
  refine q_when (k := !isN "tuple" d || !(decide ((0 : Int) < (tlen d : Int)) && decide ((tlen d : Int) < 201))) ?_ e ?_ ?_
  · refine et_or (et_not (et_B (ev_isi x0 (by decide)))) fun h1 => et_not ?_
    obtain ⟨ds, rfl⟩ := isT (by simpa using h1)
    exact et_chain ev_i (ev_cb (ea_cons x0 ea_nil) rc_lenT) (fun _ => ev_i) (rv_cmp (g := fun a b => decide (a < b))) fun _ => rv_cmp (g := fun a b => decide (a < b))
  · intro h1 B1 H1 l
    refine s_ret (K := K) (d := .bool false) ev_b l.h fun v B' H' l2 hv => k v B' H' (l.trans l2) ?_
    have : isScriptD d = false := by
      cases z : isScriptD d with
      | false => rfl
      | true =>
        exfalso
        obtain ⟨ds, rfl, a, b, _⟩ := script_of z
        have a1 : decide ((0 : Int) < (tlen (.tuple ds) : Int)) = true := decide_eq_true (by show (0 : Int) < (ds.length : Int); omega)
        have a2 : decide ((tlen (.tuple ds) : Int) < 201) = true := decide_eq_true (by show (ds.length : Int) < 201; omega)
        rw [a1, a2] at h1
        simp [isN, isNS, tyN] at h1
    show Dq K B' v (.bool (isScriptD d))
    rw [this]
    exact hv
  · intro h1 B1 H1 l
    simp only [Bool.or_eq_false_iff, Bool.not_eq_false', Bool.and_eq_true, decide_eq_true_eq] at h1
    obtain ⟨ds, rfl⟩ := isT h1.1
    have h2 : (0 : Int) < (ds.length : Int) := h1.2.1
    have h3 : (ds.length : Int) < 201 := h1.2.2
    have y0 := x0.up l
    refine s_ret (K := K) (d := .bool (isScriptD (.tuple ds))) ?_ l.h (fun v B' H' l2 hv => ?_)
    case refine_2 => exact k v B' H' (l.trans l2) hv
    have e1 : isScriptD (.tuple ds) = ds.all isCommandD := by
      have a1 : decide (1 ≤ ds.length) = true := decide_eq_true (by omega)
      have a2 : decide (ds.length ≤ 200) = true := decide_eq_true (by omega)
      simp only [isScriptD, a1, a2, Bool.true_and]
    rw [e1, ← filter_allD]
    have c := ev_compT (te := tVar 1) (tt := tNot (tB (tCall (Pf1 K (fun _ => True) fun d => .bool (isCommandD d)) [] E0 (tCons (tVar 1) tNil)))) (j := 1) (vs := [1]) (fun d => !isCommandD d) (fun d => d) y0 (by omega)
      (fun d v B1 H1 l hd hv => et_not (et_B (ev_call1 (ev_var rfl hv) trivial))) (fun d v B1 H1 l hd hv _ => ev_var rfl hv)
    rw [List.map_id'] at c
    exact ev_op c (ev_lst ea_nil (Nat.zero_le _)) rv_eqL0
theorem ok_law_due (D : Df K mg "_law_due" s__law_due ["value"]) (C__law_is_line : Cl P w K mg base CX0 2 "_law_is_line" ["value"] (Pf1 K (fun d => tlen d ≤ 1000) fun d => .bool (isLineD d)))
    (C__law_is_command : Cl P w K mg base CX0 2 "_law_is_command" ["value"] (Pf1 K (fun _ => True) fun d => .bool (isCommandD d))) (C__law_is_script : Cl P w K mg base CX0 3 "_law_is_script" ["value"] (Pf1 K (fun _ => True) fun d => .bool (isScriptD d))) :
    Cl P w K mg base CX0 4 "_law_due" ["value"] (Pf1 K (fun d => tlen d ≤ 1000) fun d => .list [.bool (isLineD d), .bool (isCommandD d), .bool (isScriptD d)]) := by
  refine Cl.pu1 D sc__law_due fun f cdv A outer s H v Q E B d hr e hv hp k => ?_
  refine ⟨_, (pss_one (ps_ret (pe_lst (pa_cons (pe_callC C__law_is_line (hr.mono (by decide)) (by rfl) pass0 (pa_cons (pv 0) pa_nil)) (pa_cons (pe_callC C__law_is_command (hr.mono (by decide)) (by rfl) pass0 (pa_cons (pv 0) pa_nil)) (pa_cons (pe_callC C__law_is_script (hr.mono (by decide)) (by rfl) pass0 (pa_cons (pv 0) pa_nil)) pa_nil)))))), ?_⟩
  have x0 : Ev K (tVar 0) (start N__law_due [v]) B H d := ev_var rfl hv
  refine s_ret (K := K) (d := .list [.bool (isLineD d), .bool (isCommandD d), .bool (isScriptD d)]) ?_ e (fun v B' H' l2 hv => ?_)
  case refine_2 => exact k v B' H' l2 hv
  exact ev_lst (ea_cons (ev_call1 x0 hp) (ea_cons (ev_call1 x0 trivial) (ea_cons (ev_call1 x0 trivial) ea_nil))) (by show 3 ≤ sizeLine; decide)
end
end K01

set_option maxRecDepth 100000
set_option maxHeartbeats 4000000
namespace K01
open PySem PySem.Spec PyProof.Rows L2 MA
section
variable {P : Program} {w : World} {K : PySem.W.Frag} {mg : PySem.Str → Option Value} {base : Heap}
theorem items_in {c : PyData} (h : isCommandD c = true) {k : Int} (hk : k ∈ itemsD c) : 0 ≤ k ∧ k < 60 := by
  obtain ⟨x, i, j, rfl, _, a1, a2, b1, b2, _⟩ := command_of h
  simp only [itemsD, itemI, List.mem_cons, List.mem_nil_iff, or_false] at hk
  rcases hk with rfl | rfl <;> omega
theorem ok_law_named (D : Df K mg "_law_named" s__law_named ["commands"]) (z_sorted : mg "sorted" = none) :
    Cl P w K mg base CX0 1 "_law_named" ["commands"] (Pf1 K (fun d => isScriptD d = true) fun d => .list ((namedI (tupD d)).map PyData.int)) := by
  refine Cl.pu1 D sc__law_named fun f cdv A outer s H v Q E B d hr e hv hp k => ?_
  have hu := hr.units0
  refine ⟨_, (pss_cons (ps_set (i := 1) sc__law_named.nd rfl (.inr rfl) (pe_lst pa_nil)) (pss_cons (ps_for PassesOwn.never rfl (pi_tup (pv 0)) (pg_tup rfl (pgs_cons (pg_name (i := 2) sc__law_named.nd rfl (.inl rfl)) (pgs_cons (pg_name (i := 3) sc__law_named.nd rfl (.inl rfl)) (pgs_cons (pg_name (i := 4) sc__law_named.nd rfl (.inl rfl)) pgs_nil)))) (pss_one (ps_set (i := 1) sc__law_named.nd rfl (.inr rfl) (pe_op op_addA (pv 1) (pe_lc (own := [("item", 5)]) (tt := (tTest (tOp (rIn K true) (tVar 5) (tVar 1)))) (te := (tVar 5)) rfl sc__law_named.nd (pi_tup (pe_tup (pa_cons (pv 3) (pa_cons (pv 4) pa_nil)))) (blkOk_by (N := N__law_named) (sc := defScope s__law_named) (by decide +kernel)) (fun _ _ _ _ _ => (pg_name (i := 5) sc__law_named.nd rfl (.inl rfl))) (fun _ _ _ _ _ => (pts_one (pt_cmpR op_notIn_seq (pv 5) (pv 1) (by rfl)))) (fun _ _ _ _ _ => (pv 5))))))) (pss_one (ps_ret (pe_callB cr_sortedI (by rfl) z_sorted (by decide +kernel) (pa_cons (pv 1) pa_nil)))))), ?_⟩
  obtain ⟨ds, rfl, h1, h2, h3⟩ := script_of hp
  refine q_set (K := K) (d := .list []) (ev_lst ea_nil (Nat.zero_le _)) e fun u B1 H1 l hu1 => ?_
  refine q_forT (K := K) (xs := ds) (Ev.up l (ev_var rfl hv)) l.h (fun i σ' B' => ∃ f ns o2 o3 o4 o5, σ' = [some v, some f, o2, o3, o4, o5] ∧ Dq K B' f (.list (ns.map PyData.int)) ∧ ns.Nodup ∧ ∀ k, k ∈ ns ↔ ∃ c ∈ ds.take i, k ∈ itemsD c)
    (fun B2 H2 l2 => ⟨u, [], none, none, none, none, rfl, hu1.mono l2.b, .nil, by simp⟩) ?_ ?_
  · rintro i c x σ' B' H' N l' hc hx ⟨f, ns, o2, o3, o4, o5, rfl, hf, hn, hm⟩ k'
    have hcm : c ∈ ds := List.mem_of_getElem? hc
    obtain ⟨wd, a, b, ec, _, a1, a2, b1, b2, hne⟩ := command_of (h3 c hcm)
    subst ec
    have h60 : ns.length ≤ 60 := by
      have z1 := nodup_le ns (below fun _ => true) hn fun k hk => by
        obtain ⟨c, hc, hk⟩ := (hm k).mp hk
        have := items_in (h3 c (List.mem_of_mem_take hc)) hk
        exact mem_below.mpr ⟨this.1, this.2, rfl⟩
      have z2 := below_len fun _ => true
      omega
    refine gt3 l'.h hx fun x y z hx hy hz => ?_
    have cmp := ev_compT (K := K) (σ := ((([some v, some f, o2, o3, o4, o5] : L2.St).set 2 (some x)).set 3 (some y)).set 4 (some z)) (B := B') (H := H') (tl := tTup (tCons (tVar 3) (tCons (tVar 4) tNil))) (te := tVar 5) (tt := tTest (tOp (rIn K true) (tVar 5) (tVar 1))) (j := 5) (vs := [5]) (xs := [a, b].map PyData.int) (fun d => !decide (itemI d ∈ ns)) (fun d => d)
      (ev_tup (ea_cons (ev_var rfl hy) (ea_cons (ev_var rfl hz) ea_nil)) (by show 2 ≤ sizeLine; decide)) (by show 2 ≤ 100000; decide)
      (fun d v B1 H1 l hd hv => by
        obtain ⟨n, _, rfl⟩ := List.mem_map.mp hd
        exact et_test (ev_op (ev_var rfl hv) (ev_var rfl (hf.mono l.b)) rv_notInLI)) (fun d v B1 H1 l hd hv _ => ev_var rfl hv)
    rw [List.map_id', List.filter_map] at cmp
    have hlen : ([a, b].filter ((fun d => !decide (itemI d ∈ ns)) ∘ PyData.int)).length ≤ 2 := List.length_filter_le _ [a, b]
    have hsl : 100 < sizeLine := by rw [sizeLine_eq]; decide
    refine s_set (K := K) (d := .list ((ns ++ [a, b].filter ((fun d => !decide (itemI d ∈ ns)) ∘ PyData.int)).map PyData.int)) ?_ l'.h fun v2 B2 H2 l2 hv2 => k' _ B2 H2 l2 ⟨v2, _, _, _, _, _, rfl, hv2, ?_, fun k => ?_⟩
    · rw [List.map_append]
      exact ev_op (ev_var rfl hf) cmp (rv_addL (by rw [List.length_map, List.length_map]; omega))
    · rw [List.nodup_append]
      refine ⟨hn, List.Nodup.sublist List.filter_sublist (by simp [hne]), fun p hp q hq e => ?_⟩
      have := (List.mem_filter.mp hq).2
      simp only [Function.comp, itemI, Bool.not_eq_true', decide_eq_false_iff_not] at this
      exact of_decide_eq_false this (e ▸ hp)
    · rw [List.mem_append, List.mem_filter, hm k, List.take_add_one, hc]
      simp only [Function.comp, itemI, Option.toList, List.mem_append, List.mem_singleton]
      constructor
      · rintro (⟨c, hc, hk⟩ | ⟨hk, _⟩)
        · exact ⟨c, .inl hc, hk⟩
        · exact ⟨_, .inr rfl, hk⟩
      · rintro ⟨c, hc | rfl, hk⟩
        · exact .inl ⟨c, hc, hk⟩
        · by_cases z : k ∈ ns
          · exact .inl ((hm k).mp z)
          · exact .inr ⟨hk, by simp [z]⟩
  · rintro σ' B' H' l' ⟨f, ns, o2, o3, o4, o5, rfl, hf, hn, hm⟩
    refine s_ret (K := K) (d := .list ((namedI ds).map PyData.int)) (ev_cb (ea_cons (ev_var rfl hf) ea_nil) (rc_sorted hn (below_asc _) fun k => ?_)) l'.h (fun v B2 H2 l2 hv => k v B2 H2 ((l.trans l').trans l2) hv)
    rw [hm k, List.take_length]
    unfold namedI
    rw [mem_below]
    constructor
    · rintro ⟨c, hc, hk⟩
      have := items_in (h3 c hc) hk
      exact ⟨this.1, this.2, List.any_eq_true.mpr ⟨c, hc, decide_eq_true hk⟩⟩
    · rintro ⟨_, _, h⟩
      obtain ⟨c, hc, hk⟩ := List.any_eq_true.mp h
      exact ⟨c, hc, of_decide_eq_true hk⟩
end
end K01

set_option maxRecDepth 100000
set_option maxHeartbeats 4000000
namespace K01
open PySem PySem.Spec PyProof.Rows L2 MA
section
variable {P : Program} {w : World} {K : PySem.W.Frag} {mg : PySem.Str → Option Value} {base : Heap}
theorem ok_law_bag (D : Df K mg "_law_bag" s__law_bag ["cell"]) (z_max : mg "max" = none) : Cl P w K mg base CX0 1 "_law_bag" ["cell"] BagS :=
  Cl.of D sc__law_bag (fun vs H Q E h => by obtain ⟨c, rfl, _⟩ := h; rfl) fun f cdv A outer s H vs Q E hr h => by
    obtain ⟨c, rfl, q⟩ := h
    refine ⟨_, (pss_one (ps_ret (pe_lst (pa_cons (pe_callB (call_max2 rfl) (by rfl) z_max (by decide +kernel) (pa_cons pe_int (pa_cons (pe_op op_sub (pv 0) (pe_op op_pow pe_int pe_int)) pa_nil))) (pa_cons (pv 0) (pa_cons pe_int pa_nil)))))), ?_⟩
    refine ⟨.int c, rfl, 10, 18, rfl, rfl, ⟨by decide, by decide, by decide⟩, c, _, rfl, rfl, 0, _, rfl, .int c, rfl, by show 3 ≤ sizeLine; decide, fun p hp => ?_⟩
    exact q p _ _ _ hp
theorem ok_law_pick (D : Df K mg "_law_pick" s__law_pick ["bag", "many"]) : Cl P w K mg base CX0 1 "_law_pick" ["bag", "many"] (PickS K) :=
  Cl.of D sc__law_pick (bg_len (n := 1) fun ds h => by obtain ⟨n, rfl, _⟩ := h; rfl) fun f cdv A outer s H vs Q E hr h => by
    obtain ⟨g, us, B, ds, rfl, e, ⟨hB, x, y, z, hg⟩, hq, ⟨n, rfl, n0, n1⟩, q⟩ := h
    obtain ⟨v, rfl, hv⟩ := dq1 hq
    cases hv
    refine ⟨_, (pss_cons (ps_asg (pe_op op_addA (pe_ix ix_seq (pv 0) pe_int (fun _ _ => rfl)) pe_int) (pg_sub (pv 0) pe_int set_list)) (pss_cons (ps_if (pt_cmpR op_gt (pe_ix ix_seq (pv 0) pe_int (fun _ _ => rfl)) pe_int (nomark _)) (pss_cons (ps_set (i := 2) sc__law_pick.nd rfl (.inl rfl) (pe_op op_mod (pe_ix ix_seq (pv 0) pe_int (fun _ _ => rfl)) (pv 1))) (pss_cons (ps_asg (pe_op op_fdiv (pe_ix ix_seq (pv 0) pe_int (fun _ _ => rfl)) (pv 1)) (pg_sub (pv 0) pe_int set_list)) (pss_one (ps_ret (pv 2))))) pss_nil) (pss_cons (ps_set (i := 3) sc__law_pick.nd rfl (.inl rfl) (pe_op op_mod (pe_op op_addA (pe_op op_addA (pe_op op_mulA (pe_op op_mod (pe_ix ix_seq (pv 0) pe_int (fun _ _ => rfl)) pe_int) pe_int) (pe_op op_mulA (pe_ix ix_seq (pv 0) pe_int (fun _ _ => rfl)) pe_int)) pe_int) pe_int)) (pss_cons (ps_set (i := 4) sc__law_pick.nd rfl (.inl rfl) (pe_op op_mod (pe_op op_addA (pe_op op_mulA (pv 3) (pv 3)) (pe_op op_mulA (pe_ix ix_seq (pv 0) pe_int (fun _ _ => rfl)) pe_int)) pe_int)) (pss_one (ps_ret (pe_op op_mod (pe_op op_fdiv (pe_op op_addA (pe_op op_mulA (pv 3) pe_int) (pv 4)) pe_int) (pv 1)))))))), ?_⟩
    refine ⟨.ref g, rfl, ix_own hg (v := .int z) rfl (.inl ⟨z, 1, rfl, rfl, .ref g, rfl, g, _, 2, 2, rfl, rfl, hg, rfl, ?_⟩)⟩
    have l1 : Le [g] B H B (upd H g (.lst [.int x, .int y, .int (z + 1)])) := Le.put e hB (by simp)
    have hg1 : upd H g (.lst [.int x, .int y, .int (z + 1)]) g = some (.lst [.int x, .int y, .int (z + 1)]) := upd_same
    have fin : ∀ r : Int, 0 ≤ r → r < n → ∀ x' y' z' H', Le [g] B H B H' → H' g = some (.lst [.int x', .int y', .int z']) → Q (.int r) H' := fun r r0 r1 x' y' z' H' l hg' =>
      q (.int r) ⟨n, r, rfl, rfl, r0, r1⟩ (.int r) B H' l ⟨hB, x', y', z', hg'⟩ (.int r)
    refine ⟨.ref g, rfl, ix_own hg1 (v := .int x) rfl ⟨x, 0, rfl, rfl, decide (0 < x), rfl, ?_⟩⟩
    refine ite_b (fun hx => ?_) fun hx => ?_
    · refine ⟨.ref g, rfl, ix_own hg1 (v := .int x) rfl ⟨.int n, rfl, x, n, rfl, rfl, n0, ?_⟩⟩
      refine ⟨.ref g, rfl, ix_own hg1 (v := .int x) rfl ⟨.int n, rfl, x, n, rfl, rfl, ⟨n0, n1⟩, .ref g, rfl, g, _, 0, 0, rfl, rfl, hg1, rfl, ?_⟩⟩
      refine ⟨.int (x % n), rfl, ?_⟩
      exact fin (x % n) (Int.emod_nonneg _ (by omega)) (Int.emod_lt_of_pos _ n0) _ _ _ _ (l1.trans (Le.put l1.h hB (by simp))) upd_same
    · have c1 : CMul (y % 2147483629) 48271 := .inr ⟨by decide, by decide⟩
      have c2 : CMul (z + 1) 69621 := .inr ⟨by decide, by decide⟩
      have c3 : CMul (z + 1) 40692 := .inr ⟨by decide, by decide⟩
      have hmod : ∀ a : Int, -(2 ^ 64) < a % 2147483647 ∧ a % 2147483647 < 2 ^ 64 := fun a => by
        have h1 := Int.emod_nonneg a (show (2147483647 : Int) ≠ 0 by decide)
        have h2 := Int.emod_lt_of_pos a (show (0 : Int) < 2147483647 by decide)
        omega
      have p1 : (0 : Int) < 2147483629 := by decide
      have p2 : (0 : Int) < 2147483647 := by decide
      have p3 : (0 : Int) < 2147483587 := by decide
      have p4 : (0 : Int) < 32 := by decide
      have p5 : (32 : Int) < 1073741824 := by decide
      refine ⟨.ref g, rfl, ix_own hg1 (v := .int y) rfl ⟨y, 2147483629, rfl, rfl, p1, .inl ⟨_, 48271, rfl, rfl, c1, ?_⟩⟩⟩
      refine ⟨.ref g, rfl, ix_own hg1 (v := .int (z + 1)) rfl (.inl ⟨z + 1, 69621, rfl, rfl, c2, .inl ⟨_, _, rfl, rfl, .inl ⟨_, 12345, rfl, rfl, _, 2147483647, rfl, rfl, p2, ?_⟩⟩⟩)⟩
      refine ⟨_, rfl, _, rfl, .inl ⟨_, _, rfl, rfl, .inl (hmod _), ?_⟩⟩
      refine ⟨.ref g, rfl, ix_own hg1 (v := .int (z + 1)) rfl (.inl ⟨z + 1, 40692, rfl, rfl, c3, .inl ⟨_, _, rfl, rfl, _, 2147483587, rfl, rfl, p3, ?_⟩⟩)⟩
      refine ⟨_, rfl, .inl ⟨_, 2147483587, rfl, rfl, .inl (hmod _), _, rfl, .inl ⟨_, _, rfl, rfl, _, 32, rfl, rfl, ⟨p4, p5⟩, .int n, rfl, _, n, rfl, rfl, n0, ?_⟩⟩⟩
      exact fin _ (Int.emod_nonneg _ (by omega)) (Int.emod_lt_of_pos _ n0) _ _ _ _ l1 hg1
theorem ok_law_items (D : Df K mg "_law_items" s__law_items ["bag", "many"]) (C__law_pick : Cl P w K mg base CX0 1 "_law_pick" ["bag", "many"] (PickS K)) (z_list : mg "list" = none) (z_range : mg "range" = none) (z_len : mg "len" = none) :
    Cl P w K mg base CX0 2 "_law_items" ["bag", "many"] (ItemsS K) :=
  Cl.of D sc__law_items (bg_len (n := 1) fun ds h => by obtain ⟨n, rfl, _⟩ := h; rfl) fun f cdv A outer s H vs Q E hr h => by
    obtain ⟨g, us, B, ds, rfl, e, hb, hq, ⟨n, rfl, n0, n1⟩, q⟩ := h
    obtain ⟨v, rfl, hv⟩ := dq1 hq
    cases hv
    refine ⟨_, (pss_cons (ps_set (i := 2) sc__law_items.nd rfl (.inr rfl) (pe_listRg rfl (by rfl) z_list (prg_1 (by rfl) z_range pe_int))) (pss_one (ps_ret (pe_lc (own := [("k", 3)]) (tt := tYes) (te := (tBM K "list" rPopAt (tVar 2) (tCons (tCall _ [] E0 (tCons (tVar 0) (tCons (tCB (rLenA K) (tCons (tVar 2) tNil)) tNil))) tNil))) rfl sc__law_items.nd (pi_range1 (by rfl) z_range (pa_cons (pv 1) pa_nil)) (blkOk_by (N := N__law_items) (sc := defScope s__law_items) (by decide +kernel)) (fun _ _ _ _ _ => (pg_name (i := 3) sc__law_items.nd rfl (.inl rfl))) (fun _ _ _ _ _ => pts_nil) (fun _ _ _ _ _ => (pe_bm PySem.F.plainAttrs_list PySem.F.slot_list_pop PySem.F.type_list_pop mt_popAt (pv 2) (pa_cons (pe_callC C__law_pick (hr.mono (by decide)) (by rfl) pass0 (pa_cons (pv 0) (pa_cons (pe_callB call_len_seq (by rfl) z_len PySem.boot_len (pa_cons (pv 2) pa_nil)) pa_nil))) pa_nil))))))), ?_⟩
    refine ⟨60, rfl, .of_le (by decide) (by decide) (by decide) (by decide), fun p hp => ?_⟩
    rw [rgV60]
    have hpb : B p = none := by
      cases z : B p with
      | none => rfl
      | some o => rw [e p o z] at hp; cases hp
    have l1 : Le [g] B H B (upd H p (.lst (ints60.map V.int))) := Le.made e hp
    have hpg := hb.ne hp
    have b1 : Bag g B (upd H p (.lst (ints60.map V.int))) := by
      obtain ⟨x, y, z, hg⟩ := hb.has
      exact ⟨hb.own, x, y, z, by rw [upd_ne (Ne.symm hpg)]; exact hg⟩
    refine b_pops (K := K) (n := n) (xs := ints60) (ea_cons (ev_var rfl (.int n)) ea_nil) l1.h b1 hpb upd_same hpg (fun _ => rfl) (fun _ => rfl) (fun _ => rfl) n0 (by show n ≤ 60; exact n1) (by decide) fun acc rest v B2 H2 pm ln l2 b2 hv => ?_
    obtain ⟨a1, a2⟩ := perm_part pm ints60_nd
    exact q _ ⟨n, acc, rfl, rfl, ln, a1, fun k hk => ints60_in k (a2 k hk)⟩ v B2 H2 (((Le.made e hp).trans l2).local hp) b2 hv
end
end K01

set_option maxRecDepth 100000
set_option maxHeartbeats 8000000
namespace K01
open PySem PySem.Spec PyProof.Rows L2 MA
section
variable {P : Program} {w : World} {K : PySem.W.Frag} {mg : PySem.Str → Option Value} {base : Heap}
theorem ok_law_script (D : Df K mg "_law_script" s__law_script ["bag", "items", "most"]) (C__law_pick : Cl P w K mg base CX0 1 "_law_pick" ["bag", "many"] (PickS K)) (z_tuple : mg "tuple" = none) (z_range : mg "range" = none) (z_len : mg "len" = none) (z_int : mg "int" = none) :
    Cl P w K mg base CX0 2 "_law_script" ["bag", "items", "most"] (ScriptS K) :=
  Cl.of D sc__law_script (bg_len (n := 2) fun ds h => by obtain ⟨xs, m, rfl, _⟩ := h; rfl) fun f cdv A outer s H vs Q E hr h => by
    obtain ⟨g, us, B, ds, rfl, e, hb, hq, ⟨xs, m, rfl, x2, x60, xnd, m1, m2⟩, q⟩ := h
    obtain ⟨v1, v2, rfl, hv1, hv2⟩ := dq2 hq
    have hu := hr.units0
    refine ⟨_, (pss_cons (ps_set (i := 3) sc__law_script.nd rfl (.inl rfl) (pe_op op_addA pe_int (pe_callC C__law_pick (hr.mono (by decide)) (by rfl) pass0 (pa_cons (pv 0) (pa_cons (pv 2) pa_nil))))) (pss_cons (ps_set (i := 4) sc__law_script.nd rfl (.inl rfl) (pe_callC C__law_pick (hr.mono (by decide)) (by rfl) pass0 (pa_cons (pv 0) (pa_cons pe_int pa_nil)))) (pss_cons (ps_set (i := 5) sc__law_script.nd rfl (.inl rfl) (pe_slice sl_any (pv 1) po_none (po_some (pe_op op_addA pe_int (pe_callC C__law_pick (hr.mono (by decide)) (by rfl) pass0 (pa_cons (pv 0) (pa_cons (pe_op op_sub (pe_callB call_len_seq (by rfl) z_len PySem.boot_len (pa_cons (pv 1) pa_nil)) pe_int) pa_nil))))))) (pss_cons (ps_if (pt_cmpR (op_eqA hu) (pv 4) pe_int (nomark _)) (pss_one (ps_set (i := 5) sc__law_script.nd rfl (.inl rfl) (pe_slice sl_any (pv 5) po_none (po_some pe_int)))) pss_nil) (pss_cons (ps_set (i := 6) sc__law_script.nd rfl (.inl rfl) (pe_lst pa_nil)) (pss_cons (ps_for PassesOwn.never rfl (pi_range1 (by rfl) z_range (pa_cons (pv 3) pa_nil)) (pg_name (i := 7) sc__law_script.nd rfl (.inl rfl)) (pss_cons (ps_set (i := 8) sc__law_script.nd rfl (.inl rfl) (pe_ix ix_seq (pe_lst (pa_cons pe_str (pa_cons pe_str pa_nil))) (pe_ix ix_seq (pe_lst (pa_cons (pe_callC C__law_pick (hr.mono (by decide)) (by rfl) pass0 (pa_cons (pv 0) (pa_cons pe_int pa_nil))) (pa_cons pe_int pa_nil))) (pe_callTy call_int1 (by rfl) z_int (by decide +kernel) (pa_cons (pe_cmpR (op_eqA hu) (pv 4) pe_int (nomark _)) pa_nil)) (fun _ _ => rfl)) (fun _ _ => rfl))) (pss_cons (ps_set (i := 9) sc__law_script.nd rfl (.inl rfl) (pe_callC C__law_pick (hr.mono (by decide)) (by rfl) pass0 (pa_cons (pv 0) (pa_cons (pe_callB call_len_seq (by rfl) z_len PySem.boot_len (pa_cons (pv 5) pa_nil)) pa_nil)))) (pss_cons (ps_set (i := 10) sc__law_script.nd rfl (.inl rfl) (pe_op op_mod (pe_op op_addA (pe_op op_addA (pv 9) pe_int) (pe_callC C__law_pick (hr.mono (by decide)) (by rfl) pass0 (pa_cons (pv 0) (pa_cons (pe_op op_sub (pe_callB call_len_seq (by rfl) z_len PySem.boot_len (pa_cons (pv 5) pa_nil)) pe_int) pa_nil)))) (pe_callB call_len_seq (by rfl) z_len PySem.boot_len (pa_cons (pv 5) pa_nil)))) (pss_cons (ps_if (pt_cmpR op_in_seq (pv 4) (pe_tup (pa_cons pe_int (pa_cons pe_int pa_nil))) (by rfl)) (pss_one (ps_par (i := 9) (j := 10) rfl sc__law_script.nd rfl rfl (by decide) rfl rfl (pa_cons (pe_op op_mod (pv 7) (pe_callB call_len_seq (by rfl) z_len PySem.boot_len (pa_cons (pv 5) pa_nil))) (pa_cons (pe_op op_mod (pe_op op_addA (pv 7) pe_int) (pe_callB call_len_seq (by rfl) z_len PySem.boot_len (pa_cons (pv 5) pa_nil))) pa_nil)) rfl)) pss_nil) (pss_one (ps_if ((pw_and (pt_cmpR (op_eqA hu) (pv 4) pe_int (nomark _)) (pw_and (pt_cmpR (op_neA hu) (pv 6) (pe_lst pa_nil) (nomark _)) (pw_and1 (pt_cmpR op_gt (pe_callC C__law_pick (hr.mono (by decide)) (by rfl) pass0 (pa_cons (pv 0) (pa_cons pe_int pa_nil))) pe_int (nomark _)))))).pt (pss_one (ps_expr (pe_bm PySem.F.plainAttrs_list PySem.F.slot_list_append PySem.F.type_list_append mt_append (pv 6) (pa_cons (pe_ix ix_seq (pv 6) (pe_callC C__law_pick (hr.mono (by decide)) (by rfl) pass0 (pa_cons (pv 0) (pa_cons (pe_callB call_len_seq (by rfl) z_len PySem.boot_len (pa_cons (pv 6) pa_nil)) pa_nil))) (fun _ _ => rfl)) pa_nil)))) (pss_one (ps_expr (pe_bm PySem.F.plainAttrs_list PySem.F.slot_list_append PySem.F.type_list_append mt_append (pv 6) (pa_cons (pe_tup (pa_cons (pv 8) (pa_cons (pe_ix ix_seq (pv 5) (pv 9) (fun _ _ => rfl)) (pa_cons (pe_ix ix_seq (pv 5) (pv 10) (fun _ _ => rfl)) pa_nil)))) pa_nil))))))))))) (pss_one (ps_ret (pe_callTy call_tuple_of (by rfl) z_tuple (by decide +kernel) (pa_cons (pv 6) pa_nil)))))))))), ?_⟩
    -- many
    refine b_set (K := K) (g := g) (R := RI fun r => 1 ≤ r ∧ r ≤ m) (ei_op (ei_of (i := 1) fun _ _ _ => ev_i) (eb_pickC (n := m) rfl (fun B1 H1 l => ev_var rfl (hv2.mono l.b)) (by omega) (by omega)) fun i j h1 h2 => ⟨rv_addI, by omega⟩) e hb ?_
    rintro d vm B1 H1 ⟨many, rfl, mn1, mn2⟩ l1 b1 hvm
    -- way
    refine b_set (K := K) (g := g) (R := RI fun r => 0 ≤ r ∧ r < 5) (eb_pickC (n := 5) rfl (fun _ _ _ => ev_i) (by decide) (by decide)) l1.h b1 ?_
    rintro d vw B2 H2 ⟨way, rfl, _, _⟩ l2 b2 hvw
    have l12 := l1.trans l2
    -- some
    refine b_set (K := K) (g := g) (R := fun d => ∃ ss : List Int, d = .list (ss.map PyData.int) ∧ SomeL xs ss) (eb_sl (R1 := (· = .list (xs.map PyData.int))) (P := fun i => 2 ≤ i) (eb_of fun B3 H3 l => ev_var rfl (hv1.mono (l12.trans l).b))
      (ei_op (ei_of (i := 2) fun _ _ _ => ev_i) (eb_pickC (n := (xs.length : Int) - 1) rfl (fun B3 H3 l => ev_op (ev_cb (ea_cons (ev_var rfl (hv1.mono (l12.trans l).b)) ea_nil) (by have c := rc_lenL (K := K) (ds := xs.map PyData.int); rw [List.length_map] at c; exact c)) ev_i rv_int0) (by omega) (by omega)) fun i j h1 h2 => ⟨rv_addI, by omega⟩)
      fun x i hx hi => by
        subst hx
        refine ⟨_, rs_L, xs.take i.toNat, by rw [cut_ints xs (by omega)], ?_⟩
        exact SomeL.take ⟨x2, x60, xnd, fun k hk => hk⟩ hi) l2.h b2 ?_
    rintro d vs0 B3 H3 ⟨ss0, rfl, hss0⟩ l3 b3 hvs0
    have l13 := l12.trans l3
    -- if way == 1
    refine q_whenS (k := decide (way = 1)) (fun σ' B' => ∃ (v5 : V) (ss : List Int), σ' = [some (.ref g), some v1, some v2, some vm, some vw, some v5, none, none, none, none, none] ∧ Dq K B' v5 (.list (ss.map PyData.int)) ∧ SomeL xs ss)
      (et_test (ev_op (ev_var rfl (hvw.mono l3.b)) ev_i rv_eqI)) l3.h ?_ ?_ ?_
    · intro _ B4 H4 l4 N hN
      refine s_set (K := K) (d := .list ((ss0.take 3).map PyData.int)) (by
        have c := ev_sl (K := K) (te := tVar 5) (σ := [some (.ref g), some v1, some v2, some vm, some vw, some vs0, none, none, none, none, none]) (B := B4) (H := H4) (x := .list (ss0.map PyData.int)) (ev_var rfl (hvs0.mono l4.b)) eo_none (eo_some (K := K) (i := 3) ev_i) rs_L
        rw [cut_ints ss0 (by decide)] at c
        exact c) l4.h fun v5 B5 H5 l5 hv5 => hN _ B5 H5 l5 ⟨v5, ss0.take 3, rfl, hv5, hss0.take (i := 3) (by decide)⟩
    · intro _ B4 H4 l4
      exact ⟨vs0, ss0, rfl, hvs0.mono l4.b, hss0⟩
    rintro σ4 B4 H4 l4 ⟨v5, ss, rfl, hv5, hss⟩
    have l14 := l13.trans l4.any
    have b4 := b3.pure l4
    have hvm4 := ((hvm.mono l2.b).mono l3.b).mono l4.b
    have hvw4 := (hvw.mono l3.b).mono l4.b
    have n2 : 2 ≤ (ss.length : Int) := by have := hss.two; omega
    have n60 : (ss.length : Int) ≤ 60 := by have := hss.small; omega
    have lenS : ∀ {σ' : L2.St} {B' H' : Hp}, σ'[5]? = some (some v5) → Dq K B' v5 (.list (ss.map PyData.int)) → Ev K (tCB (rLenA K) (tCons (tVar 5) tNil)) σ' B' H' (.int ss.length) := fun h1 h2 => by
      have c := rc_lenL (K := K) (ds := ss.map PyData.int)
      rw [List.length_map] at c
      exact ev_cb (ea_cons (ev_var h1 h2) ea_nil) c
    cases hvm
    cases hvw
    -- found = []
    refine ⟨Nat.zero_le _, fun p hp => ?_⟩
    have hpB : B4 p = none := by
      cases z : B4 p with
      | none => rfl
      | some o => rw [l4.h p o z] at hp; cases hp
    have hpg := b4.ne hp
    have l5 : Le [p, g] B4 H4 B4 (upd H4 p (.lst [])) := Le.made l4.h hp
    have b5 : Bag g B4 (upd H4 p (.lst [])) := by
      obtain ⟨x, y, z, hg⟩ := b4.has
      exact ⟨b4.own, x, y, z, by rw [upd_ne (Ne.symm hpg)]; exact hg⟩
    refine ⟨.int many, rfl, many, rfl, by omega, by omega, for_range (lo := 0) (n := many.toNat) (fun i σ' H' => ∃ (Bi : Hp) (cs : List PyData) (ws : List V) (o7 o8 o9 o10 : Option V),
      σ' = [some (.ref g), some v1, some v2, some (.int many), some (.int way), some v5, some (.ref p), o7, o8, o9, o10] ∧ Le [p, g] B4 H4 Bi H' ∧ Bag g Bi H' ∧ Bi p = none ∧ H' p = some (.lst ws) ∧ DqAll K Bi ws cs ∧ cs.length = i ∧ ∀ c ∈ cs, GoodC xs c) ?_ ?_ ?_⟩
    · exact ⟨B4, [], [], none, none, none, none, rfl, l5, b5, hpB, upd_same, .nil, rfl, by simp⟩
    · rintro i σ' H' hi ⟨Bi, cs, ws, o7, o8, o9, o10, rfl, li, bi, pi, pl, wq, cl, cg⟩
      have wl := wq.length
      -- word
      refine b_set (K := K) (g := g) (R := fun d => ∃ x : PySem.Str, d = .str x ∧ (x = "behind" ∨ x = "before")) (eb_op (R1 := (· = .list [.str "behind", .str "before"])) (Rb := RI fun r => 0 ≤ r ∧ r < 2) (eb_of fun _ _ _ => ev_lst (ea_cons ev_s (ea_cons ev_s ea_nil)) (by show 2 ≤ sizeLine; decide))
        (eb_op (R1 := fun d => ∃ r : Int, d = .list [.int r, .int 0] ∧ 0 ≤ r ∧ r < 2) (Rb := RI fun r => 0 ≤ r ∧ r < 2) ((eb_lst (eba_cons (eb_pickC (n := 2) rfl (fun _ _ _ => ev_i) (by decide) (by decide)) (eba_cons (ei_of (i := 0) fun _ _ _ => ev_i) eba_nil)) fun ds h => by
            obtain ⟨_, _, rfl, _, _, _, rfl, _, rfl⟩ := h
            show 2 ≤ sizeLine
            decide).imp fun d h => by
              obtain ⟨ds, rfl, _, _, rfl, ⟨r, rfl, h⟩, _, _, rfl, ⟨_, rfl, rfl⟩, rfl⟩ := h
              exact ⟨r, rfl, h⟩)
          ((ei_of (i := if decide (way = 2) then 1 else 0) fun B6 H6 l6 => ev_cb (rr := rInt1) (ea_cons (ev_op (ev_var rfl (.int _)) ev_i rv_eqI) ea_nil) rc_int1).imp fun d h => by
            obtain ⟨_, rfl, rfl⟩ := h
            exact ⟨_, rfl, by split <;> omega⟩) ?_) ?_) li.h bi ?_
      · rintro x y ⟨r, rfl, r0, r1⟩ ⟨k, rfl, k0, k1⟩
        rcases (show k = 0 ∨ k = 1 by omega) with rfl | rfl
        · exact ⟨.int r, rv_ixL rfl, r, rfl, r0, r1⟩
        · exact ⟨.int 0, rv_ixL rfl, 0, rfl, by decide, by decide⟩
      · rintro x y rfl ⟨k, rfl, k0, k1⟩
        rcases (show k = 0 ∨ k = 1 by omega) with rfl | rfl
        · exact ⟨.str "behind", rv_ixL rfl, _, rfl, .inl rfl⟩
        · exact ⟨.str "before", rv_ixL rfl, _, rfl, .inr rfl⟩
      rintro d v8 B6 H6 ⟨wd, rfl, hwd⟩ l6 b6 hv8
      have l46 := li.trans (l6.wk (M' := [p, g]) (by simp))
      have hv5_6 := hv5.mono l46.b
      -- at
      refine b_set (K := K) (g := g) (R := RI fun r => 0 ≤ r ∧ r < ss.length) (eb_pickC (n := ss.length) rfl (fun B7 H7 l => lenS rfl (hv5_6.mono l.b)) (by omega) (by omega)) l6.h b6 ?_
      rintro d v9 B7 H7 ⟨a, rfl, a0, a1⟩ l7 b7 hv9
      have hv5_7 := hv5_6.mono l7.b
      cases hv9
      -- other
      refine b_set (K := K) (g := g) (R := RI fun r => 0 ≤ r ∧ r < ss.length ∧ r ≠ a) (ei_op (f := fun i j => i % j) (P1 := fun r => a + 1 ≤ r ∧ r < a + ss.length) (P2 := (· = (ss.length : Int))) (ei_op (P1 := (· = a + 1)) (ei_of fun B8 H8 l => ev_op (ev_var rfl (.int a)) ev_i rv_addI)
        (eb_pickC (n := (ss.length : Int) - 1) rfl (fun B8 H8 l => ev_op (lenS rfl (hv5_7.mono l.b)) ev_i rv_int0) (by omega) (by omega)) fun i j h1 h2 => ⟨rv_addI, by omega⟩) (ei_of fun B8 H8 l => lenS rfl (hv5_7.mono l.b)) ?_) l7.h b7 ?_
      · intro i j h1 h2
        subst h2
        have c := round_ne (a := a) (r := i - (a + 1)) (n := ss.length) a0 a1 (by omega) (by omega)
        rw [show a + 1 + (i - (a + 1)) = i by omega] at c
        exact ⟨rv_int (C := fun _ j => 0 < j) (by show (0 : Int) < _; omega), Int.emod_nonneg _ (by omega), Int.emod_lt_of_pos _ (by omega), c⟩
      rintro d v10 B8 H8 ⟨o, rfl, o0, o1, oa⟩ l8 b8 hv10
      cases hv10
      have l68 := l7.trans l8
      have hv5_8 := hv5_6.mono l68.b
      have hv8_8 := hv8.mono l68.b
      have pl6 := l6.k p _ (by simp [hpg]) pl
      have p6 := l6.own pl pi
      have pl8 := l68.k p _ (by simp [hpg]) pl6
      have p8 := l68.own pl6 p6
      have wq8 := (wq.mono l6.b).mono l68.b
      -- if way in (2, 3)
      refine q_whenS (k := decide (way ∈ ([2, 3] : List Int))) (fun σ' B' => ∃ (a o : Int), σ' = [some (.ref g), some v1, some v2, some (.int many), some (.int way), some v5, some (.ref p), some (.int (0 + (i : Nat))), some v8, some (.int a), some (.int o)] ∧ 0 ≤ a ∧ a < ss.length ∧ 0 ≤ o ∧ o < ss.length ∧ o ≠ a)
        (et_test (ev_op (ev_var rfl (.int way)) (ev_tup (ds := ([2, 3] : List Int).map PyData.int) (ea_cons ev_i (ea_cons ev_i ea_nil)) (by show 2 ≤ sizeLine; decide)) rv_inTI)) l8.h ?_ ?_ ?_
      · intro _ B9 H9 l9 N hN
        have hv5_9 := hv5_8.mono l9.b
        have c : EvA K (tCons (tOp (rI (fun _ j => 0 < j) fun i j => .int (i % j)) (tVar 7) (tCB (rLenA K) (tCons (tVar 5) tNil))) (tCons (tOp (rI (fun _ j => 0 < j) fun i j => .int (i % j)) (tOp (rAddA K) (tVar 7) (tC (.int 1))) (tCB (rLenA K) (tCons (tVar 5) tNil))) tNil))
            [some (.ref g), some v1, some v2, some (.int many), some (.int way), some v5, some (.ref p), some (.int (0 + (i : Nat))), some v8, some (.int a), some (.int o)] B9 H9 [.int ((0 + (i : Nat)) % ss.length), .int ((0 + (i : Nat) + 1) % ss.length)] :=
          ea_cons (ev_op (ev_var rfl (.int _)) (lenS rfl hv5_9) (rv_int (by show (0 : Int) < _; omega))) (ea_cons (ev_op (ev_op (ev_var rfl (.int _)) ev_i rv_addI) (lenS rfl hv5_9) (rv_int (by show (0 : Int) < _; omega))) ea_nil)
        refine c B9 H9 (Le.refl l9.h) _ fun us B10 H10 l10 hus => ?_
        obtain ⟨u1, u2, rfl, h1, h2⟩ := dq2 hus
        cases h1
        cases h2
        exact ⟨_, _, rfl, hN _ B10 H10 l10 ⟨_, _, rfl, Int.emod_nonneg _ (by omega), Int.emod_lt_of_pos _ (by omega), Int.emod_nonneg _ (by omega), Int.emod_lt_of_pos _ (by omega), (next_ne (by omega) n2).symm⟩⟩
      · intro _ B9 H9 l9
        exact ⟨a, o, rfl, a0, a1, o0, o1, oa⟩
      clear a0 a1 o0 o1 oa a o
      rintro σ9 B9 H9 l9 ⟨a, o, rfl, a0, a1, o0, o1, oa⟩
      have b9 := b8.pure l9
      have pl9 := l9.k p _ (by simp) pl8
      have p9 := l9.own pl8 p8
      have wq9 := wq8.mono l9.b
      have hv5_9 := hv5_8.mono l9.b
      have hv8_9 := hv8_8.mono l9.b
      have l49 : Le [p, g] B4 H4 B9 H9 := l46.trans ((l68.trans l9.any).wk (by simp))
      -- the open list under a change of the bag
      have openAt : ∀ {B' H' : Hp}, Le [g] B9 H9 B' H' → B' p = none ∧ H' p = some (.lst ws) ∧ DqAll K B' ws cs := fun l => ⟨l.own pl9 p9, l.k p _ (by simp [hpg]) pl9, wq9.mono l.b⟩
      refine b_if (g := g) (P := fun k => k = true → cs ≠ []) (ebt_and (P1 := fun _ => True) (P2 := fun k => k = true → cs ≠ []) (ebt_test (K := K) (P := fun _ => True) ((eb_of (d := .bool (decide (way = 4))) fun B' H' l => ev_op (ev_var rfl (.int way)) ev_i rv_eqI).imp fun d h => ⟨_, h, trivial⟩))
        (fun _ => ebt_and (P1 := fun k => k = true → cs ≠ []) (P2 := fun _ => cs ≠ []) (ebt_test (K := K) (P := fun k => k = true → cs ≠ []) ((eb_of (d := .bool (!cs.isEmpty)) fun B' H' l => ?_).imp fun d h => ⟨!cs.isEmpty, h, fun z => by simpa using z⟩))
          (fun hne => ebt_test (K := K) (P := fun _ => cs ≠ []) ((eb_op (R1 := RI fun r => 0 ≤ r ∧ r < 3) (Rb := (· = .int 0)) (R := fun d => ∃ k, d = .bool k) (eb_pickC (n := 3) rfl (fun _ _ _ => ev_i) (by decide) (by decide)) (eb_of fun _ _ _ => ev_i) fun x y hx hy => by
            obtain ⟨r, rfl, _⟩ := hx
            subst hy
            exact ⟨_, rv_cmp (g := fun i j => decide (j < i)), _, rfl⟩).imp fun d h => by
              obtain ⟨k, rfl⟩ := h
              exact ⟨k, rfl, hne rfl⟩)) (fun h => fun z => by cases z) fun k h _ => h) (fun h => fun z => by cases z) fun k h => h) l9.h b9 ?_ ?_
      · obtain ⟨o1, o2, o3⟩ := openAt l
        exact ev_own (p := p) (fun B1 hB1 hd _ _ => ev_op (ev_var rfl hd) (ev_lst ea_nil (Nat.zero_le _)) rv_neL0) o3 l.h o1 o2 sc_bool
      · intro hne B10 H10 l10 b10
        obtain ⟨p10, pl10, wq10⟩ := openAt l10
        have cne := hne rfl
        have lenF : ∀ B' H', Le [g] B10 H10 B' H' → Ev K (tCB (rLenA K) (tCons (tVar 6) tNil)) [some (.ref g), some v1, some v2, some (.int many), some (.int way), some v5, some (.ref p), some (.int (0 + (i : Nat))), some v8, some (.int a), some (.int o)] B' H' (.int cs.length) := fun B' H' l => by
          obtain ⟨o1, o2, o3⟩ := openAt (l10.trans l)
          exact ev_own (p := p) (fun B1 hB1 hd _ _ => ev_cb (ea_cons (ev_var rfl hd) ea_nil) rc_lenL) o3 l.h o1 o2 sc_int
        have cpos : 0 < cs.length := List.length_pos_iff.mpr cne
        refine b_append (K := K) (g := g) (p := p) (vs := ws) (R := fun d => d ∈ cs) rfl ?_ l10.h b10 p10 pl10 hpg (by omega) fun d v B' H' r l b' p' pl' hv => ?_
        · intro B11 H11 l11 b11 Q' q'
          refine ⟨.ref p, rfl, ?_⟩
          refine eb_pickC (K := K) (g := g) (n := cs.length) rfl (fun B' H' l => lenF B' H' (l11.trans l)) (by omega) (by omega) B11 H11 (Le.refl l11.h) b11 _ ?_
          rintro d v B12 H12 ⟨r, rfl, r0, r1⟩ l12 b12 hv
          cases hv
          obtain ⟨p12, pl12, wq12⟩ := openAt (l10.trans (l11.trans l12))
          have hr : r.toNat < cs.length := by omega
          obtain ⟨u, hu1, hu2⟩ := wq12.get' (List.getElem?_eq_getElem hr)
          refine ix_own pl12 (v := u) (by have z := atI_nat hu1; rwa [show ((r.toNat : Nat) : Int) = r by omega] at z) ?_
          exact q' _ u B12 H12 (List.getElem_mem hr) l12 b12 hu2
        · refine ⟨B', cs ++ [d], ws ++ [v], _, _, _, _, rfl, ?_, b', p', pl', (wq10.mono l.b).append (.cons hv .nil), by rw [List.length_append, cl]; rfl, fun c hc => ?_⟩
          · exact l49.trans ((l10.wk (by simp)).trans l)
          · rcases List.mem_append.mp hc with z | z
            · exact cg c z
            · rw [List.mem_singleton.mp z]; exact cg d r
      · intro _ B10 H10 l10 b10
        obtain ⟨p10, pl10, wq10⟩ := openAt l10
        have ha : a.toNat < ss.length := by omega
        have ho : o.toNat < ss.length := by omega
        refine b_append (K := K) (g := g) (p := p) (vs := ws) (R := fun d => d = .tuple [.str wd, .int ss[a.toNat], .int ss[o.toNat]]) rfl (eb_of fun B' H' l => ev_tup (ea_cons (ev_var rfl ((hv8_9.mono l10.b).mono l.b)) (ea_cons (ev_op (ev_var rfl ((hv5_9.mono l10.b).mono l.b)) (ev_var rfl (.int a)) (rv_ixL ?_)) (ea_cons (ev_op (ev_var rfl ((hv5_9.mono l10.b).mono l.b)) (ev_var rfl (.int o)) (rv_ixL ?_)) ea_nil))) (by show 3 ≤ sizeLine; decide)) l10.h b10 p10 pl10 hpg (by omega) fun d v B' H' r l b' p' pl' hv => ?_
        · have z := atI_nat (xs := ss.map PyData.int) (j := a.toNat) (v := .int ss[a.toNat]) (by rw [List.getElem?_map, List.getElem?_eq_getElem ha]; rfl)
          rwa [show ((a.toNat : Nat) : Int) = a by omega] at z
        · have z := atI_nat (xs := ss.map PyData.int) (j := o.toNat) (v := .int ss[o.toNat]) (by rw [List.getElem?_map, List.getElem?_eq_getElem ho]; rfl)
          rwa [show ((o.toNat : Nat) : Int) = o by omega] at z
        · refine ⟨B', cs ++ [d], ws ++ [v], _, _, _, _, rfl, ?_, b', p', pl', (wq10.mono l.b).append (.cons hv .nil), by rw [List.length_append, cl]; rfl, fun c hc => ?_⟩
          · exact l49.trans ((l10.wk (by simp)).trans l)
          · rcases List.mem_append.mp hc with z | z
            · exact cg c z
            · rw [List.mem_singleton.mp z, r]
              exact ⟨wd, _, _, rfl, hwd, hss.sub _ (List.getElem_mem ha), hss.sub _ (List.getElem_mem ho), nd_get hss.nd (List.getElem?_eq_getElem ha) (List.getElem?_eq_getElem ho) (by omega)⟩
    · rintro σ' H' ⟨Bi, cs, ws, o7, o8, o9, o10, rfl, li, bi, pi, pl, wq, cl, cg⟩
      refine ⟨.ref p, rfl, p, ws, rfl, .inl ⟨.inl (.inl pl), fun t ht => ?_⟩⟩
      have lt : Le [] Bi H' (upd Bi t (.tup ws)) (upd H' t (.tup ws)) := Le.new li.h ht
      refine q (.tuple cs) ⟨xs, m, cs, rfl, rfl, by omega, by omega, cg⟩ (.ref t) _ _ ?_ (bi.pure lt) (.tup (.inl (.inl upd_same)) (wq.mono lt.b))
      exact l14.trans ((li.local hp).trans lt.any)
end
end K01

set_option maxRecDepth 100000
set_option maxHeartbeats 8000000
namespace K01
open PySem PySem.Spec PyProof.Rows L2 MA
section
variable {P : Program} {w : World} {K : PySem.W.Frag} {mg : PySem.Str → Option Value} {base : Heap}
theorem ok_law_case (D : Df K mg "_law_case" s__law_case ["bag", "most", "length"]) (C__law_pick : Cl P w K mg base CX0 1 "_law_pick" ["bag", "many"] (PickS K)) (C__law_items : Cl P w K mg base CX0 2 "_law_items" ["bag", "many"] (ItemsS K))
    (C__law_script : Cl P w K mg base CX0 2 "_law_script" ["bag", "items", "most"] (ScriptS K)) (z_tuple : mg "tuple" = none) (z_range : mg "range" = none) (z_len : mg "len" = none) (z_list : mg "list" = none) :
    Cl P w K mg base CX0 3 "_law_case" ["bag", "most", "length"] (CaseS K) :=
  Cl.of D sc__law_case (bg_len (n := 2) fun ds h => by obtain ⟨m, l, rfl, _⟩ := h; rfl) fun f cdv A outer s H vs Q E hr h => by
    obtain ⟨g, us, B, ds, rfl, e, hb, hq, ⟨m, l, rfl, m2, m60, l1', l1000⟩, q⟩ := h
    obtain ⟨v1, v2, rfl, hv1, hv2⟩ := dq2 hq
    cases hv1
    cases hv2
    refine ⟨_, (pss_cons (ps_set (i := 3) sc__law_case.nd rfl (.inl rfl) (pe_callC C__law_items (hr.mono (by decide)) (by rfl) pass0 (pa_cons (pv 0) (pa_cons (pe_op op_addA pe_int (pe_callC C__law_pick (hr.mono (by decide)) (by rfl) pass0 (pa_cons (pv 0) (pa_cons (pe_op op_sub (pv 1) pe_int) pa_nil)))) pa_nil)))) (pss_cons (ps_set (i := 4) sc__law_case.nd rfl (.inr rfl) (pe_callTy call_list_of (by rfl) z_list (by decide +kernel) (pa_cons (pv 3) pa_nil))) (pss_cons (ps_setLc (i := 5) (own := [("k", 6)]) (tt := tYes) (te := (tBM K "list" rPopAt (tVar 4) (tCons (tCall _ [] E0 (tCons (tVar 0) (tCons (tCB (rLenA K) (tCons (tVar 4) tNil)) tNil))) tNil))) rfl sc__law_case.nd rfl rfl (sw_true rfl rfl rfl (by decide +kernel)) (pi_range1 (by rfl) z_range (pa_cons (pe_callB call_len_seq (by rfl) z_len PySem.boot_len (pa_cons (pv 3) pa_nil)) pa_nil)) (blkOk_by (N := N__law_case) (sc := defScope s__law_case) (by decide +kernel)) (fun _ _ _ _ _ => (pg_name (i := 6) sc__law_case.nd rfl (.inl rfl))) (fun _ _ _ _ _ => pts_nil) (fun _ _ _ _ _ => (pe_bm PySem.F.plainAttrs_list PySem.F.slot_list_pop PySem.F.type_list_pop mt_popAt (pv 4) (pa_cons (pe_callC C__law_pick (hr.mono (by decide)) (by rfl) pass0 (pa_cons (pv 0) (pa_cons (pe_callB call_len_seq (by rfl) z_len PySem.boot_len (pa_cons (pv 4) pa_nil)) pa_nil))) pa_nil)))) (pss_one (ps_ret (pe_tup (pa_cons (pe_callTy call_tuple_of (by rfl) z_tuple (by decide +kernel) (pa_cons (pv 5) pa_nil)) (pa_cons (pe_callC C__law_script (hr.mono (by decide)) (by rfl) pass0 (pa_cons (pv 0) (pa_cons (pv 3) (pa_cons (pv 2) pa_nil)))) pa_nil)))))))), ?_⟩
    refine b_set (K := K) (g := g) (R := fun d => ∃ xs : List Int, d = .list (xs.map PyData.int) ∧ 2 ≤ xs.length ∧ (xs.length : Int) ≤ m ∧ xs.Nodup ∧ ∀ k ∈ xs, 0 ≤ k ∧ k < 60)
      ((eb_call (K := K) (g := g) (Rr := fun ds => ∃ n : Int, ds = [.int n] ∧ 2 ≤ n ∧ n ≤ m) rfl (fun B1 H1 l b Q q => eba_cons (K := K) (g := g) (R1 := RI fun n => 2 ≤ n ∧ n ≤ m) (ei_op (f := fun i j => i + j) (ei_of (i := 2) fun _ _ _ => ev_i) (eb_pickC (n := m - 1) rfl (fun B1 H1 l => ev_op (ev_var rfl (.int m)) ev_i rv_int0) (by omega) (by omega)) fun i j h1 h2 => ⟨rv_addI, by omega⟩) eba_nil B1 H1 l b Q fun ds vs B2 H2 r => q ds vs B2 H2 (by
          obtain ⟨_, _, rfl, ⟨n, rfl, h1, h2⟩, rfl⟩ := r
          exact ⟨n, rfl, h1, h2⟩)) fun ds h => by
            obtain ⟨n, rfl, h1, h2⟩ := h
            exact ⟨n, rfl, by omega, by omega⟩).imp fun d h => by
              obtain ⟨ds, ⟨n, rfl, h1, h2⟩, n', xs, en, rfl, h3, h4, h5⟩ := h
              cases en
              exact ⟨xs, rfl, by omega, by omega, h4, h5⟩) e hb ?_
    rintro d v3 B1 H1 ⟨xs, rfl, x2, xm, xnd, xin⟩ l1 b1 hv3
    -- left = list(items)
    cases hv3 with
    | lst hs hqx =>
      rename_i a ys
      cases ofInts hqx
      have hs1 := l1.h _ _ hs
      refine q_asgR ⟨.ref a, rfl, a, _, rfl, .inl (.inl (.inl hs1)), fun p hp => q_asgR ?_⟩
      have hv3 : Dq K B1 (.ref a) (.list (xs.map PyData.int)) := .lst hs hqx
      have hpB : B1 p = none := by
        cases z : B1 p with
        | none => rfl
        | some o => rw [l1.h p o z] at hp; cases hp
      have hpg := b1.ne hp
      have l2 : Le [p, g] B1 H1 B1 (upd H1 p (.lst (xs.map V.int))) := Le.made l1.h hp
      have b2 : Bag g B1 (upd H1 p (.lst (xs.map V.int))) := by
        obtain ⟨x, y, z, hg⟩ := b1.has
        exact ⟨b1.own, x, y, z, by rw [upd_ne (Ne.symm hpg)]; exact hg⟩
      -- line
      have hta : EvA K (tCons (tCB (rLenA K) (tCons (tVar 3) tNil)) tNil) [some (.ref g), some (.int m), some (.int l), some (.ref a), some (.ref p), none, none] B1 (upd H1 p (.lst (xs.map V.int))) [.int xs.length] := by
        have c := rc_lenL (K := K) (ds := xs.map PyData.int)
        rw [List.length_map] at c
        exact ea_cons (ev_cb (ea_cons (ev_var rfl hv3) ea_nil) c) ea_nil
      refine b_pops (K := K) (n := xs.length) (xs := xs) (σ := [some (.ref g), some (.int m), some (.int l), some (.ref a), some (.ref p), none, none]) (j := 6) (a := 4) (b := 0) (vs := [6]) hta l2.h b2 hpB upd_same hpg (fun _ => rfl) (fun _ => rfl) (fun _ => rfl) (by omega) (by omega) (by omega) fun acc rest v B3 H3 pm ln l3 b3 hv => ?_
      obtain ⟨a1, a2⟩ := perm_part pm xnd
      have l13 : Le [g] B1 H1 B3 H3 := (l2.trans l3).local hp
      have hv3' := hv3.mono l3.b
      refine b_ret (K := K) (g := g) (eb_tup (eba_cons (eb_of (d := .tuple (acc.map PyData.int)) fun B4 H4 l => ev_cb (rr := rTupA K) (ea_cons (ev_var rfl (hv.mono l.b)) ea_nil) rc_tupL) (eba_cons (eb_call rfl (eba_of (ds := [.list (xs.map PyData.int), .int l]) fun B4 H4 l => ea_cons (ev_var rfl (hv3'.mono l.b)) (ea_cons (ev_var rfl (.int _)) ea_nil)) fun ds h => by
        subst h
        exact ⟨xs, l, rfl, x2, by omega, xnd, l1', l1000⟩) eba_nil)) fun ds h => by
          obtain ⟨_, _, rfl, _, _, _, rfl, _, rfl⟩ := h
          show 2 ≤ sizeLine
          decide) l3.h b3 ?_
      rintro d v4 B4 H4 ⟨ds, rfl, _, _, rfl, rfl, _, _, rfl, ⟨ds2, rfl, xs', l', cs, e1, rfl, c1, c2, c3⟩, rfl⟩ l4 b4 hv4
      have exs : xs.map PyData.int = xs'.map PyData.int := by
        have := congrArg (fun l => match l with | PyData.list a :: _ => a | _ => []) e1
        exact this
      have el : l = l' := by
        have := congrArg (fun l => match l with | [_, PyData.int a] => a | _ => 0) e1
        exact this
      subst el
      refine q _ ⟨m, l, acc, cs, rfl, rfl, by omega, by omega, a1, fun k hk => xin k (a2 k hk), c1, c2, fun c hc => ?_⟩ v4 B4 H4 ((l1.trans l13).trans l4) b4 hv4
      obtain ⟨wd, i, j, ec, hw, hi, hj, hne⟩ := c3 c hc
      have mem : ∀ k, k ∈ xs' → k ∈ acc := fun k hk => by
        have hk2 : k ∈ xs := by
          have : PyData.int k ∈ xs'.map PyData.int := List.mem_map.mpr ⟨k, hk, rfl⟩
          rw [← exs] at this
          obtain ⟨k', h1, h2⟩ := List.mem_map.mp this
          cases h2
          exact h1
        have hr : rest = [] := by
          have := pm.length_eq
          rw [List.length_append] at this
          exact List.length_eq_zero_iff.mp (by omega)
        rw [hr, List.append_nil] at pm
        exact pm.mem_iff.mpr hk2
      exact ⟨wd, i, j, ec, hw, mem i hi, mem j hj, hne⟩
end
end K01

set_option maxRecDepth 100000
set_option maxHeartbeats 8000000
namespace K01
open PySem PySem.Spec PyProof.Rows L2 MA
section
variable {P : Program} {w : World} {K : PySem.W.Frag} {mg : PySem.Str → Option Value} {base : Heap}
theorem ok_law_other_lines (D : Df K mg "_law_other_lines" s__law_other_lines ["bag", "row"]) (C__law_pick : Cl P w K mg base CX0 1 "_law_pick" ["bag", "many"] (PickS K))
    (z_tuple : mg "tuple" = none) (z_range : mg "range" = none) (z_len : mg "len" = none) (z_list : mg "list" = none) (z_str : mg "str" = none) :
    Cl P w K mg base CX0 2 "_law_other_lines" ["bag", "row"] (LinesS K) :=
  Cl.of D sc__law_other_lines (bg_len (n := 1) fun ds h => by obtain ⟨xs, rfl, _⟩ := h; rfl) fun f cdv A outer s H vs Q E hr h => by
    obtain ⟨g, us, B, ds, rfl, e, hb, hq, ⟨xs, rfl, x1, x60, xin⟩, q⟩ := h
    obtain ⟨v, rfl, hv⟩ := dq1 hq
    refine ⟨_, (pss_cons (ps_set (i := 2) sc__law_other_lines.nd rfl (.inl rfl) (pe_callC C__law_pick (hr.mono (by decide)) (by rfl) pass0 (pa_cons (pv 0) (pa_cons (pe_op op_addA (pe_callB call_len_seq (by rfl) z_len PySem.boot_len (pa_cons (pv 1) pa_nil)) pe_int) pa_nil)))) (pss_cons (ps_set (i := 3) sc__law_other_lines.nd rfl (.inl rfl) (pe_lst (pa_cons pe_non (pa_cons pe_bl (pa_cons pe_bl (pa_cons pe_str (pa_cons (pe_tup pa_nil) (pa_cons (pe_lst pa_nil) (pa_cons pe_dnewK (pa_cons (pe_un un_neg pe_int) (pa_cons (pe_un un_neg pe_int) (pa_cons pe_int (pa_cons pe_int (pa_cons pe_int (pa_cons (pe_op op_pow pe_int pe_int) (pa_cons pe_int (pa_cons pe_int (pa_cons (pe_ix ix_seq (pv 1) pe_int (fun _ _ => rfl)) pa_nil)))))))))))))))))) (pss_cons (ps_set (i := 4) sc__law_other_lines.nd rfl (.inl rfl) (pe_ix ix_seq (pv 3) (pe_callC C__law_pick (hr.mono (by decide)) (by rfl) pass0 (pa_cons (pv 0) (pa_cons pe_int pa_nil))) (fun _ _ => rfl))) (pss_cons (ps_set (i := 5) sc__law_other_lines.nd rfl (.inl rfl) (pe_lst (pa_cons (pe_op op_addA (pe_op op_addA (pe_slice sl_any (pv 1) po_none (po_some (pv 2))) (pe_tup (pa_cons (pv 4) pa_nil))) (pe_slice sl_any (pv 1) (po_some (pv 2)) po_none)) (pa_cons (pe_op op_addA (pe_op op_addA (pe_slice sl_any (pv 1) po_none (po_some (pv 2))) (pe_tup (pa_cons (pv 4) pa_nil))) (pe_slice sl_any (pv 1) (po_some (pe_op op_addA (pv 2) pe_int)) po_none)) (pa_cons (pe_op op_addA (pe_slice sl_any (pv 1) po_none (po_some (pv 2))) (pe_slice sl_any (pv 1) (po_some (pe_op op_addA (pv 2) pe_int)) po_none)) (pa_cons (pv 4) (pa_cons (pe_callTy call_list_of (by rfl) z_list (by decide +kernel) (pa_cons (pv 1) pa_nil)) pa_nil))))))) (pss_cons (ps_set (i := 5) sc__law_other_lines.nd rfl (.inl rfl) (pe_op op_addA (pv 5) (pe_lst (pa_cons (pe_backT (pv 1)) (pa_cons (pe_op op_addA (pv 1) (pe_slice sl_any (pv 1) po_none (po_some pe_int))) (pa_cons (pe_tup (pa_cons (pv 1) pa_nil)) (pa_cons pe_non (pa_cons pe_dnewK (pa_cons pe_str (pa_cons (pe_bm PySem.F.plainAttrs_str PySem.F.slot_str_join PySem.F.type_str_join mt_join pe_str (pa_cons (pe_lc (own := [("one", 6)]) (tt := tYes) (te := (tCB rStrI (tCons (tVar 6) tNil))) rfl sc__law_other_lines.nd (pi_tup (pv 1)) (blkOk_by (N := N__law_other_lines) (sc := defScope s__law_other_lines) (by decide +kernel)) (fun _ _ _ _ _ => (pg_name (i := 6) sc__law_other_lines.nd rfl (.inl rfl))) (fun _ _ _ _ _ => pts_nil) (fun _ _ _ _ _ => (pe_callTy call_str_int (by rfl) z_str (by decide +kernel) (pa_cons (pv 6) pa_nil)))) pa_nil)) (pa_cons (pe_tup pa_nil) pa_nil))))))))))) (pss_cons (ps_set (i := 5) sc__law_other_lines.nd rfl (.inl rfl) (pe_op op_addA (pv 5) (pe_lst (pa_cons (pe_tupRg rfl (by rfl) z_tuple (prg_1 (by rfl) z_range pe_int)) (pa_cons (pe_tupRg rfl (by rfl) z_tuple (prg_1 (by rfl) z_range pe_int)) (pa_cons (pe_op op_mulA (pe_tup (pa_cons pe_int pa_nil)) pe_int) (pa_cons (pe_tup (pa_cons pe_bl pa_nil)) (pa_cons (pe_tup (pa_cons pe_int (pa_cons pe_bl pa_nil))) (pa_cons (pe_tup (pa_cons pe_int (pa_cons pe_bl pa_nil))) (pa_cons (pe_tup (pa_cons (pe_lst pa_nil) pa_nil)) (pa_cons (pe_tup (pa_cons pe_int pa_nil)) (pa_cons (pe_tup (pa_cons pe_int pa_nil)) pa_nil)))))))))))) (pss_one (ps_ret (pe_op op_addA (pv 5) (pe_lst (pa_cons (pe_tup (pa_cons (pe_un un_neg pe_int) pa_nil)) (pa_cons (pe_tup (pa_cons pe_int (pa_cons pe_int pa_nil))) (pa_cons (pe_tup (pa_cons pe_int (pa_cons pe_int (pa_cons pe_int pa_nil)))) pa_nil))))))))))))), ?_⟩
    have xpl : ∀ x ∈ xs.map PyData.int, Pl 0 70 x := fun x hx => by
      obtain ⟨k, hk, rfl⟩ := List.mem_map.mp hx
      exact pl_int (xin k hk).1 (xin k hk).2
    -- at
    refine b_set (K := K) (g := g) (R := RI fun r => 0 ≤ r ∧ r < (xs.length : Int) + 1) (eb_pickC (n := (xs.length : Int) + 1) rfl (fun B1 H1 l => ev_op (ev_cb (ea_cons (ev_var rfl (hv.mono l.b)) ea_nil) (by have c := rc_lenT (K := K) (ds := xs.map PyData.int); rw [List.length_map] at c; exact c)) ev_i rv_addI) (by omega) (by omega)) e hb ?_
    rintro d v2 B1 H1 ⟨at_, rfl, _, _⟩ l1 b1 hv2
    -- odds
    have odds : ∀ {σ : L2.St} {B H : Hp}, σ[1]? = some (some v) → Dq K B v (.tuple (xs.map PyData.int)) → EaV K (tCons (tC .non) (tCons (tC (.bl true)) (tCons (tC (.bl false)) (tCons (tC (.str "1")) (tCons (tTup tNil) (tCons (tLst tNil) (tCons tDNewK (tCons (tUn (rU fun i => .int (-i)) (tC (.int 1))) (tCons (tUn (rU fun i => .int (-i)) (tC (.int 2))) (tCons (tC (.int 59)) (tCons (tC (.int 60)) (tCons (tC (.int 61)) (tCons (tOp (rI CPow fun i j => .int (i ^ j.toNat)) (tC (.int 10)) (tC (.int 20))) (tCons (tC (.int 0)) (tCons (tC (.int 1)) (tCons (tOp (rIx K) (tVar 1) (tC (.int 0))) tNil)))))))))))))))) σ B H OddV 16 := fun h1 h2 => by
      obtain ⟨x, xr, rfl⟩ : ∃ x xr, xs = x :: xr := by
        cases xs with
        | nil => exact absurd x1 (by decide)
        | cons x xr => exact ⟨x, xr, rfl⟩
      have hx := xin x (List.mem_cons_self ..)
      exact va_cons (vv ev_n (odd_of (by decide))) (va_cons (vv ev_b (odd_of (by decide))) (va_cons (vv ev_b (odd_of (by decide))) (va_cons (vv ev_s (odd_of (by decide +kernel))) (va_cons (vv (ev_tup ea_nil (Nat.zero_le _)) odd_t0) (va_cons (vv (ev_lst ea_nil (Nat.zero_le _)) odd_l0) (va_cons (vv ev_dict0 odd_d0)
        (va_cons (vv ev_neg (odd_of (by decide +kernel))) (va_cons (vv ev_neg (odd_of (by decide +kernel))) (va_cons (vv ev_i (odd_of (by decide +kernel))) (va_cons (vv ev_i (odd_of (by decide +kernel))) (va_cons (vv ev_i (odd_of (by decide +kernel))) (va_cons (vv (ev_op ev_i ev_i (rv_int (g := fun i j => i ^ j.toNat) ⟨by decide, by decide, by decide⟩)) (odd_of (by decide +kernel)))
        (va_cons (vv ev_i (odd_of (by decide +kernel))) (va_cons (vv ev_i (odd_of (by decide +kernel))) (va_cons (vv (ev_op (ev_var h1 h2) ev_i (rv_ixT (atI_nat (xs := (x :: xr).map PyData.int) (j := 0) (v := .int x) rfl))) (odd_int hx.1 hx.2)) va_nil)))))))))))))))
    obtain ⟨os, o1, o2, o3⟩ := odds (σ := (L2.start N__law_other_lines [.ref g, v]).set 2 (some v2)) rfl (hv.mono l1.b)
    refine q_set (K := K) (d := .list os) (ev_lst o1 (size_ok (by omega))) l1.h fun v3 B2 H2 l2 hv3 => ?_
    have b2 := b1.pure l2
    have l12 := l1.trans l2.any
    -- odd
    refine b_set (K := K) (g := g) (R := (· ∈ os)) (eb_at (n := 16) (fun B3 H3 l => ev_var rfl (hv3.mono l.b)) (eb_pickC (n := 16) rfl (fun _ _ _ => ev_i) (by decide) (by decide)) (by rw [o3]; rfl)) l2.h b2 ?_
    intro odd v4 B3 H3 hodd l3 b3 hv4
    have l13 := l12.trans l3
    have ho := o2 odd hodd
    have hva := (hv2.mono l2.b).mono l3.b
    have hvr := hv.mono l13.b
    have row : ∀ {σ : L2.St} {B H : Hp} {P : PyData → Prop}, (∀ x, Pl 0 70 x → P x) → σ[1]? = some (some v) → Dq K B v (.tuple (xs.map PyData.int)) → EvC K .tuple (tVar 1) σ B H P 60 := fun hP h1 h2 => vc_var h1 h2 (fun x hx => hP x (xpl x hx)) (by rw [List.length_map]; exact x60)
    have oneO : ∀ {σ : L2.St} {B H : Hp}, σ[4]? = some (some v4) → Dq K B v4 odd → EvC K .tuple (tTup (tCons (tVar 4) tNil)) σ B H (PO 1 70 odd) 1 := fun h1 h2 => vc_tup (va_cons (vv (ev_var h1 h2) (.inl rfl)) va_nil) (size_ok (by decide))
    have plo : ∀ x, Pl 0 70 x → PO 1 70 odd x := fun x h => po_pl h
    have loAt : ∀ {σ : L2.St} {B H : Hp}, σ[2]? = some (some v2) → Dq K B v2 (.int at_) → EvO (tPart (tVar 2)) σ B H (some at_) := fun h1 h2 => eo_some (K := K) (ev_var h1 h2)
    have loAt1 : ∀ {σ : L2.St} {B H : Hp}, σ[2]? = some (some v2) → Dq K B v2 (.int at_) → EvO (tPart (tOp (rAddA K) (tVar 2) (tC (.int 1)))) σ B H (some (at_ + 1)) := fun h1 h2 => eo_some (K := K) (ev_op (ev_var h1 h2) ev_i rv_addI)
    -- some
    refine q_setC (K := K) (c := .list) (P := Ov) (n := 5) (vc_lst (va_cons (vc_val (vc_addT (vc_addT (vc_sl (row plo rfl hvr) eo_none (loAt rfl hva)) (oneO rfl hv4) (size_ok (by decide))) (vc_sl (row plo rfl hvr) (loAt rfl hva) eo_none) (size_ok (by decide))) fun ds h n => ov_tup1 ho h n (by decide))
      (va_cons (vc_val (vc_addT (vc_addT (vc_sl (row plo rfl hvr) eo_none (loAt rfl hva)) (oneO rfl hv4) (size_ok (by decide))) (vc_sl (row plo rfl hvr) (loAt1 rfl hva) eo_none) (size_ok (by decide))) fun ds h n => ov_tup1 ho h n (by decide))
      (va_cons (vc_val (vc_addT (vc_sl (row plo rfl hvr) eo_none (loAt rfl hva)) (vc_sl (row plo rfl hvr) (loAt1 rfl hva) eo_none) (size_ok (by decide))) fun ds h n => ov_tup1 ho h n (by decide))
      (va_cons (vv (ev_var rfl hv4) ho.ov) (va_cons (vc_val (vc_lstT (row (P := Pl 0 70) (fun _ h => h) rfl hvr)) fun ds h n => ov_lst h n (by decide) (by decide)) va_nil))))) (size_ok (by decide))) l3.h ?_
    intro d1 w1 B4 H4 p1 n1 l4 hw1
    have hvr4 := hvr.mono l4.b
    -- some + ..
    have jn := pl_join xin x60
    refine q_setC (K := K) (c := .list) (P := Ov) (n := 13) (vc_addL (n := 5) (vc_var rfl hw1 p1 n1) (vc_lst (va_cons (vc_val (vc_back (row (P := Pl 0 70) (fun _ h => h) rfl hvr4)) fun ds h n => ov_pltup h n (by decide) (by decide) (by decide))
      (va_cons (vc_val (vc_addT (row (P := Pl 0 70) (fun _ h => h) rfl hvr4) (vc_sl (row (P := Pl 0 70) (fun _ h => h) rfl hvr4) eo_none (eo_some (K := K) (i := 1) ev_i)) (size_ok (by decide))) fun ds h n => ov_pltup h n (by decide) (by decide) (by decide))
      (va_cons (vc_val (vc_tup (n := 1) (P := Pl 1 5000) (va_cons (vv (ev_var rfl hvr4) (Pl.tup xpl (by rw [List.length_map]; exact len_mul x60 (by decide)))) va_nil) (size_ok (by decide))) fun ds h n => ov_pltup h n (by decide) (by decide) (by decide))
      (va_cons (vv ev_n (OddV.ov (odd_of (by decide)))) (va_cons (vv ev_dict0 odd_d0.ov) (va_cons (vv ev_s (OddV.ov (odd_of (by decide +kernel))))
      (va_cons (vv (ev_bmS (r := rJoinA K) (ev_s (s := " ")) (ea_cons (d := .list ((xs.map fun k => (toString k : PySem.Str)).map PyData.str)) ?_ ea_nil) (rm_join jn.1)) ⟨jn.2.od.mono (by decide) (by decide), by show 0 ≤ 1000; decide⟩)
      (va_cons (vv (ev_tup ea_nil (Nat.zero_le _)) odd_t0.ov) va_nil)))))))) (size_ok (by decide))) (size_ok (by decide))) l4.h ?_
    · have c := ev_compT (K := K) (σ := (((L2.start N__law_other_lines [.ref g, v]).set 2 (some v2)).set 3 (some v3)).set 4 (some v4) |>.set 5 (some w1)) (B := B4) (H := H4) (te := tCB rStrI (tCons (tVar 6) tNil)) (tt := tYes) (tl := tVar 1) (j := 6) (vs := [6]) (xs := xs.map PyData.int) (fun _ => true) (fun d => .str (toString (itemI d))) (ev_var rfl hvr4) (by rw [List.length_map]; omega) (fun d v B1 H1 l hd hv => et_yes) (fun d v B1 H1 l hd hv _ => by
        obtain ⟨k, hk, rfl⟩ := List.mem_map.mp hd
        have hlog : k.natAbs.log2 < 1920 := by
          have h1 := xin k hk
          have h2 : k.natAbs < 60 := by omega
          have h3 := Nat.log2_lt (n := k.natAbs) (k := 1920)
          by_cases z : k.natAbs = 0
          · rw [z]; decide
          · refine (h3 z).mpr (Nat.lt_trans h2 ?_)
            exact Nat.lt_of_lt_of_le (show 60 < 2 ^ 6 by decide) (Nat.pow_le_pow_right (by decide) (by decide))
        exact ev_cb (ea_cons (ev_var rfl hv) ea_nil) (rc_str hlog))
      rw [filter_true, List.map_map] at c
      rw [List.map_map]
      exact c
    intro d2 w2 B5 H5 p2 n2 l5 hw2
    have rg : ∀ (n : Nat), n ≤ 61 → ∀ x ∈ ((List.range n).map fun (i : Nat) => (i : Int)).map PyData.int, Pl 0 70 x := fun n hn x hx => by
      obtain ⟨k, hk, rfl⟩ := List.mem_map.mp hx
      obtain ⟨i, hi, rfl⟩ := List.mem_map.mp hk
      have hi := List.mem_range.mp hi
      by_cases z : i = 60
      · subst z; exact pl_of (by decide +kernel)
      · exact pl_int (by omega) (by omega)
    have ai : ∀ {σ : L2.St} {B H : Hp} {i : Int}, plB (.int i) = true → EvV K (tC (.int i)) σ B H (Pl 0 70) := fun h => vv ev_i (pl_of h)
    have ab : ∀ {σ : L2.St} {B H : Hp} {i : Bool}, EvV K (tC (.bl i)) σ B H (Pl 0 70) := fun {_ _ _ i} => vv ev_b (pl_of (by cases i <;> decide))
    have tv : ∀ {σ : L2.St} {B H : Hp} {te : TE} {n : Nat}, EvC K .tuple te σ B H (Pl 0 70) n → n ≤ 1000 → EvV K te σ B H Ov := fun h hn => vc_val h fun ds h n => ov_pltup h n (Nat.le_trans (Nat.mul_le_mul_right _ hn) (by decide)) (by decide) hn
    refine q_setC (K := K) (c := .list) (P := Ov) (n := 22) (vc_addL (n := 13) (vc_var rfl hw2 p2 n2) (vc_lst (va_cons (vv (ev_tupRg (n := 60) (by decide)) (ov_pltup (n := 60) (rg 60 (by decide)) (by rw [List.length_map, List.length_map, List.length_range]; exact Nat.le_refl _) (by decide) (by decide) (by decide)))
      (va_cons (vv (ev_tupRg (n := 61) (by decide)) (ov_pltup (n := 61) (rg 61 (by decide)) (by rw [List.length_map, List.length_map, List.length_range]; exact Nat.le_refl _) (by decide) (by decide) (by decide)))
      (va_cons (tv (vc_mul (k := 300) (xs := [.int 0]) (ev_tup (ea_cons ev_i ea_nil) (size_ok (by decide))) (by simp) (fun x hx => by rw [List.mem_singleton.mp hx]; exact pl_of (by decide +kernel)) (by decide) (by decide) (by decide)) (by decide))
      (va_cons (tv (vc_tup (va_cons ab va_nil) (size_ok (by decide))) (by decide)) (va_cons (tv (vc_tup (va_cons (ai (by decide +kernel)) (va_cons ab va_nil)) (size_ok (by decide))) (by decide)) (va_cons (tv (vc_tup (va_cons (ai (by decide +kernel)) (va_cons ab va_nil)) (size_ok (by decide))) (by decide))
      (va_cons (vc_val (vc_tup (n := 1) (P := PO 1 70 (.list [])) (va_cons (vv (ev_lst ea_nil (Nat.zero_le _)) (.inl rfl)) va_nil) (size_ok (by decide))) fun ds h n => ov_tup1 odd_l0 h n (by decide))
      (va_cons (tv (vc_tup (va_cons (ai (by decide +kernel)) va_nil) (size_ok (by decide))) (by decide)) (va_cons (tv (vc_tup (va_cons (ai (by decide +kernel)) va_nil) (size_ok (by decide))) (by decide)) va_nil))))))))) (size_ok (by decide))) (size_ok (by decide))) l5.h ?_
    intro d3 w3 B6 H6 p3 n3 l6 hw3
    refine s_retC (K := K) (c := .list) (P := Ov) (n := 25) (vc_addL (n := 22) (vc_var rfl hw3 p3 n3) (vc_lst (va_cons (tv (vc_tup (va_cons (vv ev_neg (pl_of (by decide +kernel))) va_nil) (size_ok (by decide))) (by decide)) (va_cons (tv (vc_tup (va_cons (ai (by decide +kernel)) (va_cons (ai (by decide +kernel)) va_nil)) (size_ok (by decide))) (by decide))
      (va_cons (tv (vc_tup (va_cons (ai (by decide +kernel)) (va_cons (ai (by decide +kernel)) (va_cons (ai (by decide +kernel)) va_nil))) (size_ok (by decide))) (by decide)) va_nil))) (size_ok (by decide))) (size_ok (by decide))) l6.h ?_
    intro d4 w4 B7 H7 p4 n4 l7 hw4
    have b7 := (((b3.pure l4).pure l5).pure l6).pure l7
    exact q _ ⟨d4, rfl, by omega, p4⟩ w4 B7 H7 (l13.trans (((l4.trans l5).trans l6).trans l7).any) b7 hw4
end
end K01

set_option maxRecDepth 100000
set_option maxHeartbeats 8000000
namespace K01
open PySem PySem.Spec PyProof.Rows L2 MA
section
variable {P : Program} {w : World} {K : PySem.W.Frag} {mg : PySem.Str → Option Value} {base : Heap}
theorem ok_law_other_commands (D : Df K mg "_law_other_commands" s__law_other_commands ["bag", "commands"]) (C__law_pick : Cl P w K mg base CX0 1 "_law_pick" ["bag", "many"] (PickS K)) (z_len : mg "len" = none) :
    Cl P w K mg base CX0 2 "_law_other_commands" ["bag", "commands"] (CmdsS K) :=
  Cl.of D sc__law_other_commands (bg_len (n := 1) fun ds h => by obtain ⟨xs, cs, rfl, _⟩ := h; rfl) fun f cdv A outer s H vs Q E hr h => by
    obtain ⟨g, us, B, ds, rfl, e, hb, hq, ⟨xs, cs, rfl, c1, c200, xin, cg⟩, q⟩ := h
    obtain ⟨v, rfl, hv⟩ := dq1 hq
    refine ⟨_, (pss_cons (ps_asg (pe_ix ix_seq (pv 1) (pe_callC C__law_pick (hr.mono (by decide)) (by rfl) pass0 (pa_cons (pv 0) (pa_cons (pe_callB call_len_seq (by rfl) z_len PySem.boot_len (pa_cons (pv 1) pa_nil)) pa_nil))) (fun _ _ => rfl)) (pg_tup rfl (pgs_cons (pg_name (i := 2) sc__law_other_commands.nd rfl (.inl rfl)) (pgs_cons (pg_name (i := 3) sc__law_other_commands.nd rfl (.inl rfl)) (pgs_cons (pg_name (i := 4) sc__law_other_commands.nd rfl (.inl rfl)) pgs_nil))))) (pss_cons (ps_set (i := 5) sc__law_other_commands.nd rfl (.inl rfl) (pe_lst (pa_cons pe_non (pa_cons pe_bl (pa_cons pe_bl (pa_cons pe_str (pa_cons (pe_tup pa_nil) (pa_cons (pe_lst pa_nil) (pa_cons pe_dnewK (pa_cons (pe_un un_neg pe_int) (pa_cons (pe_un un_neg pe_int) (pa_cons pe_int (pa_cons pe_int (pa_cons pe_int (pa_cons (pe_op op_pow pe_int pe_int) (pa_cons pe_int (pa_cons pe_int (pa_cons (pv 3) (pa_cons (pv 4) (pa_cons pe_str (pa_cons pe_str pa_nil))))))))))))))))))))) (pss_cons (ps_set (i := 6) sc__law_other_commands.nd rfl (.inl rfl) (pe_ix ix_seq (pv 5) (pe_callC C__law_pick (hr.mono (by decide)) (by rfl) pass0 (pa_cons (pv 0) (pa_cons pe_int pa_nil))) (fun _ _ => rfl))) (pss_cons (ps_set (i := 7) sc__law_other_commands.nd rfl (.inl rfl) (pe_lst (pa_cons (pe_tup (pa_cons (pv 2) (pa_cons (pv 6) (pa_cons (pv 4) pa_nil)))) (pa_cons (pe_tup (pa_cons (pv 2) (pa_cons (pv 3) (pa_cons (pv 6) pa_nil)))) (pa_cons (pe_tup (pa_cons (pv 6) (pa_cons (pv 3) (pa_cons (pv 4) pa_nil)))) (pa_cons (pe_tup (pa_cons (pv 2) (pa_cons (pv 3) (pa_cons (pv 3) pa_nil)))) (pa_cons (pe_tup (pa_cons (pv 2) (pa_cons (pv 4) (pa_cons (pv 3) pa_nil)))) pa_nil))))))) (pss_cons (ps_set (i := 7) sc__law_other_commands.nd rfl (.inl rfl) (pe_op op_addA (pv 7) (pe_lst (pa_cons (pe_tup (pa_cons (pv 3) (pa_cons (pv 2) (pa_cons (pv 4) pa_nil)))) (pa_cons (pe_tup (pa_cons (pv 2) (pa_cons (pv 3) pa_nil))) (pa_cons (pe_tup (pa_cons (pv 2) (pa_cons (pv 3) (pa_cons (pv 4) (pa_cons (pv 3) pa_nil))))) (pa_cons (pe_lst (pa_cons (pv 2) (pa_cons (pv 3) (pa_cons (pv 4) pa_nil)))) (pa_cons (pe_tup (pa_cons pe_str (pa_cons (pv 3) (pa_cons (pv 4) pa_nil)))) pa_nil)))))))) (pss_cons (ps_set (i := 7) sc__law_other_commands.nd rfl (.inl rfl) (pe_op op_addA (pv 7) (pe_lst (pa_cons (pe_tup (pa_cons (pe_bm0 PySem.F.plainAttrs_str PySem.F.slot_str_upper PySem.F.type_str_upper mt_upper (pv 2)) (pa_cons (pv 3) (pa_cons (pv 4) pa_nil)))) (pa_cons (pe_tup (pa_cons (pe_op op_addA pe_str (pv 2)) (pa_cons (pv 3) (pa_cons (pv 4) pa_nil)))) (pa_cons (pe_tup (pa_cons (pe_slice sl_any (pv 2) po_none (po_some (pe_un un_neg pe_int))) (pa_cons (pv 3) (pa_cons (pv 4) pa_nil)))) pa_nil)))))) (pss_one (ps_ret (pe_op op_addA (pv 7) (pe_lst (pa_cons (pe_tup (pa_cons pe_str (pa_cons (pv 3) (pa_cons (pv 4) pa_nil)))) (pa_cons (pe_tup (pa_cons (pv 2) (pa_cons (pv 3) (pa_cons (pv 4) pa_nil)))) pa_nil)))))))))))), ?_⟩
    refine b_asg3 (K := K) (g := g) (R := (· ∈ cs)) (S := fun a b c => ∃ (x : PySem.Str) (i j : Int), a = .str x ∧ b = .int i ∧ c = .int j ∧ (x = "behind" ∨ x = "before") ∧ (0 ≤ i ∧ i < 60) ∧ (0 ≤ j ∧ j < 60))
      (eb_atT (n := cs.length) (fun B1 H1 l => ev_var rfl (hv.mono l.b)) (eb_pickC (n := cs.length) rfl (fun B1 H1 l => ev_cb (ea_cons (ev_var rfl (hv.mono l.b)) ea_nil) rc_lenT) (by omega) (by omega)) rfl) e hb (fun d hd => by
        obtain ⟨x, i, j, rfl, hw, hi, hj, _⟩ := cg d hd
        exact ⟨_, _, _, rfl, x, i, j, rfl, rfl, rfl, hw, xin i hi, xin j hj⟩) ?_
    rintro _ _ _ v2 v3 v4 B1 H1 ⟨x, i, j, rfl, rfl, rfl, hw, hi, hj⟩ l1 b1 h2 h3 h4
    have odds : ∀ {σ : L2.St} {B H : Hp}, σ[3]? = some (some v3) → Dq K B v3 (.int i) → σ[4]? = some (some v4) → Dq K B v4 (.int j) → EaV K (tCons (tC .non) (tCons (tC (.bl true)) (tCons (tC (.bl false)) (tCons (tC (.str "1")) (tCons (tTup tNil) (tCons (tLst tNil) (tCons tDNewK (tCons (tUn (rU fun i => .int (-i)) (tC (.int 1))) (tCons (tUn (rU fun i => .int (-i)) (tC (.int 2))) (tCons (tC (.int 59)) (tCons (tC (.int 60)) (tCons (tC (.int 61)) (tCons (tOp (rI CPow fun i j => .int (i ^ j.toNat)) (tC (.int 10)) (tC (.int 20))) (tCons (tC (.int 0)) (tCons (tC (.int 1)) (tCons (tVar 3) (tCons (tVar 4) (tCons (tC (.str "behind")) (tCons (tC (.str "before")) tNil))))))))))))))))))) σ B H OddV 19 := fun h1 h2 h3 h4 =>
      va_cons (vv ev_n (odd_of (by decide))) (va_cons (vv ev_b (odd_of (by decide))) (va_cons (vv ev_b (odd_of (by decide))) (va_cons (vv ev_s (odd_of (by decide +kernel))) (va_cons (vv (ev_tup ea_nil (Nat.zero_le _)) odd_t0) (va_cons (vv (ev_lst ea_nil (Nat.zero_le _)) odd_l0) (va_cons (vv ev_dict0 odd_d0)
        (va_cons (vv ev_neg (odd_of (by decide +kernel))) (va_cons (vv ev_neg (odd_of (by decide +kernel))) (va_cons (vv ev_i (odd_of (by decide +kernel))) (va_cons (vv ev_i (odd_of (by decide +kernel))) (va_cons (vv ev_i (odd_of (by decide +kernel))) (va_cons (vv (ev_op ev_i ev_i (rv_int (g := fun i j => i ^ j.toNat) ⟨by decide, by decide, by decide⟩)) (odd_of (by decide +kernel)))
        (va_cons (vv ev_i (odd_of (by decide +kernel))) (va_cons (vv ev_i (odd_of (by decide +kernel))) (va_cons (vv (ev_var h1 h2) (odd_int hi.1 hi.2)) (va_cons (vv (ev_var h3 h4) (odd_int hj.1 hj.2)) (va_cons (vv ev_s (odd_of (by decide +kernel))) (va_cons (vv ev_s (odd_of (by decide +kernel))) va_nil))))))))))))))))))
    obtain ⟨os, o1, o2, o3⟩ := odds (σ := (((L2.start N__law_other_commands [.ref g, v]).set 2 (some v2)).set 3 (some v3)).set 4 (some v4)) rfl h3 rfl h4
    refine q_set (K := K) (d := .list os) (ev_lst o1 (size_ok (by omega))) l1.h fun v5 B2 H2 l2 hv5 => ?_
    have b2 := b1.pure l2
    refine b_set (K := K) (g := g) (R := (· ∈ os)) (eb_at (n := 19) (fun B3 H3 l => ev_var rfl (hv5.mono l.b)) (eb_pickC (n := 19) rfl (fun _ _ _ => ev_i) (by decide) (by decide)) (by rw [o3]; rfl)) l2.h b2 ?_
    intro odd v6 B3 H3 hodd l3 b3 h6
    have ho := o2 odd hodd
    have l13 := (l1.trans l2.any).trans l3
    have m2 := (h2.mono l2.b).mono l3.b
    have m3 := (h3.mono l2.b).mono l3.b
    have m4 := (h4.mono l2.b).mono l3.b
    have pw := pl_word hw
    have pi := pl_int hi.1 hi.2
    have pj := pl_int hj.1 hj.2
    have W : ∀ {σ : L2.St} {B H : Hp} {P : PyData → Prop}, (∀ x, Pl 0 70 x → P x) → Dq K B v2 (.str x) → σ[2]? = some (some v2) → EvV K (tVar 2) σ B H P := fun hP h1 h2 => vv (ev_var h2 h1) (hP _ pw)
    have I : ∀ {σ : L2.St} {B H : Hp} {P : PyData → Prop}, (∀ x, Pl 0 70 x → P x) → Dq K B v3 (.int i) → σ[3]? = some (some v3) → EvV K (tVar 3) σ B H P := fun hP h1 h2 => vv (ev_var h2 h1) (hP _ pi)
    have J : ∀ {σ : L2.St} {B H : Hp} {P : PyData → Prop}, (∀ x, Pl 0 70 x → P x) → Dq K B v4 (.int j) → σ[4]? = some (some v4) → EvV K (tVar 4) σ B H P := fun hP h1 h2 => vv (ev_var h2 h1) (hP _ pj)
    have O : ∀ {σ : L2.St} {B H : Hp}, Dq K B v6 odd → σ[6]? = some (some v6) → EvV K (tVar 6) σ B H (PO 1 70 odd) := fun h1 h2 => vv (ev_var h2 h1) (.inl rfl)
    have po : ∀ x, Pl 0 70 x → PO 1 70 odd x := fun x h => po_pl h
    have pp : ∀ x, Pl 0 70 x → Pl 0 70 x := fun x h => h
    have tO : ∀ {σ : L2.St} {B H : Hp} {ts : TA}, EaV K ts σ B H (PO 1 70 odd) 3 → EvV K (tTup ts) σ B H CmdV := fun h => vc_val (vc_tup h (size_ok (by decide))) fun ds h n => cmd_tup1 ho h (by omega)
    have tP : ∀ {σ : L2.St} {B H : Hp} {ts : TA} {n : Nat}, EaV K ts σ B H (Pl 0 70) n → n ≤ 4 → EvV K (tTup ts) σ B H CmdV := fun h hn => vc_val (vc_tup h (size_ok (by omega))) fun ds h n => cmd_pltup h (by omega)
    refine q_setC (K := K) (c := .list) (P := CmdV) (n := 5) (vc_lst (va_cons (tO (va_cons (W po m2 rfl) (va_cons (O h6 rfl) (va_cons (J po m4 rfl) va_nil)))) (va_cons (tO (va_cons (W po m2 rfl) (va_cons (I po m3 rfl) (va_cons (O h6 rfl) va_nil))))
      (va_cons (tO (va_cons (O h6 rfl) (va_cons (I po m3 rfl) (va_cons (J po m4 rfl) va_nil)))) (va_cons (tP (va_cons (W pp m2 rfl) (va_cons (I pp m3 rfl) (va_cons (I pp m3 rfl) va_nil))) (by decide)) (va_cons (tP (va_cons (W pp m2 rfl) (va_cons (J pp m4 rfl) (va_cons (I pp m3 rfl) va_nil))) (by decide)) va_nil))))) (size_ok (by decide))) l3.h ?_
    intro d1 w1 B4 H4 p1 n1 l4 hw1
    replace m2 := m2.mono l4.b
    replace m3 := m3.mono l4.b
    replace m4 := m4.mono l4.b
    refine q_setC (K := K) (c := .list) (P := CmdV) (n := 10) (vc_addL (n := 5) (vc_var rfl hw1 p1 n1) (vc_lst (va_cons (tP (va_cons (I pp m3 rfl) (va_cons (W pp m2 rfl) (va_cons (J pp m4 rfl) va_nil))) (by decide)) (va_cons (tP (va_cons (W pp m2 rfl) (va_cons (I pp m3 rfl) va_nil)) (by decide))
      (va_cons (tP (va_cons (W pp m2 rfl) (va_cons (I pp m3 rfl) (va_cons (J pp m4 rfl) (va_cons (I pp m3 rfl) va_nil)))) (by decide)) (va_cons (vc_val (vc_lst (va_cons (W pp m2 rfl) (va_cons (I pp m3 rfl) (va_cons (J pp m4 rfl) va_nil))) (size_ok (by decide))) fun ds h n => cmd_pllst h (by omega))
      (va_cons (tP (va_cons (vv ev_s (pl_of (by decide +kernel))) (va_cons (I pp m3 rfl) (va_cons (J pp m4 rfl) va_nil))) (by decide)) va_nil))))) (size_ok (by decide))) (size_ok (by decide))) l4.h ?_
    intro d2 w2 B5 H5 p2 n2 l5 hw2
    replace m2 := m2.mono l5.b
    replace m3 := m3.mono l5.b
    replace m4 := m4.mono l5.b
    have xlen : x.length = 6 := by rcases hw with rfl | rfl <;> rfl
    have up : plB (.str (Txt.upper x)) = true := by rcases hw with rfl | rfl <;> decide +kernel
    have bx : plB (.str (("behind " : PySem.Str) ++ x)) = true := by rcases hw with rfl | rfl <;> decide +kernel
    have cx : plB (.str (cutS x none (some (-1)))) = true := by rcases hw with rfl | rfl <;> decide +kernel
    refine q_setC (K := K) (c := .list) (P := CmdV) (n := 13) (vc_addL (n := 10) (vc_var rfl hw2 p2 n2) (vc_lst (va_cons (tP (va_cons (vv (ev_bm0S (r := rUpA) (ev_var rfl m2) (rm_up (by omega))) (pl_of up)) (va_cons (I pp m3 rfl) (va_cons (J pp m4 rfl) va_nil))) (by decide))
      (va_cons (tP (va_cons (vv (ev_op (ev_s (s := "behind ")) (ev_var rfl m2) (rv_addS (by rw [xlen]; exact size_ok (by decide)))) (pl_of bx)) (va_cons (I pp m3 rfl) (va_cons (J pp m4 rfl) va_nil))) (by decide))
      (va_cons (tP (va_cons (vv (ev_sl (ev_var rfl m2) eo_none (eo_some (K := K) (ev_neg (i := 1))) (rs_S (by rw [xlen]; exact size_ok (by decide)))) (pl_of cx)) (va_cons (I pp m3 rfl) (va_cons (J pp m4 rfl) va_nil))) (by decide)) va_nil))) (size_ok (by decide))) (size_ok (by decide))) l5.h ?_
    intro d3 w3 B6 H6 p3 n3 l6 hw3
    replace m2 := m2.mono l6.b
    replace m3 := m3.mono l6.b
    replace m4 := m4.mono l6.b
    have last : EaV K (tCons (tTup (tCons (tC (.str "")) (tCons (tVar 3) (tCons (tVar 4) tNil)))) (tCons (tTup (tCons (tVar 2) (tCons (tVar 3) (tCons (tVar 4) tNil)))) tNil)) ((((((((L2.start N__law_other_commands [.ref g, v]).set 2 (some v2)).set 3 (some v3)).set 4 (some v4)).set 5 (some v5)).set 6 (some v6)).set 7 (some w1)).set 7 (some w2) |>.set 7 (some w3)) B6 H6 CmdV 2 :=
      va_cons (tP (va_cons (vv ev_s (pl_of (by decide +kernel))) (va_cons (I pp m3 rfl) (va_cons (J pp m4 rfl) va_nil))) (by decide)) (va_cons (tP (va_cons (W pp m2 rfl) (va_cons (I pp m3 rfl) (va_cons (J pp m4 rfl) va_nil))) (by decide)) va_nil)
    obtain ⟨ls, s1, s2, s3⟩ := last
    have ls2 : 1 ≤ (d3 ++ ls).length ∧ (d3 ++ ls).length ≤ 15 := by
      rw [List.length_append, s3]
      omega
    refine s_ret (K := K) (d := .list (d3 ++ ls)) (ev_op (ev_var rfl hw3) (ev_lst s1 (size_ok (by omega))) (rv_addL (size_ok (by omega)))) l6.h ?_
    intro w4 B7 H7 l7 hw4
    have b7 := (((b3.pure l4).pure l5).pure l6).pure l7
    exact q _ ⟨d3 ++ ls, rfl, ls2.1, by omega, fun x hx => (List.mem_append.mp hx).elim (p3 x) (s2 x)⟩ w4 B7 H7 (l13.trans (((l4.trans l5).trans l6).trans l7).any) b7 hw4
theorem ok_law_other_scripts (D : Df K mg "_law_other_scripts" s__law_other_scripts ["bag", "commands"]) (C__law_pick : Cl P w K mg base CX0 1 "_law_pick" ["bag", "many"] (PickS K))
    (C__law_other_commands : Cl P w K mg base CX0 2 "_law_other_commands" ["bag", "commands"] (CmdsS K)) (z_len : mg "len" = none) (z_list : mg "list" = none) :
    Cl P w K mg base CX0 3 "_law_other_scripts" ["bag", "commands"] (ScrsS K) :=
  Cl.of D sc__law_other_scripts (bg_len (n := 1) fun ds h => by obtain ⟨xs, cs, rfl, _⟩ := h; rfl) fun f cdv A outer s H vs Q E hr h => by
    obtain ⟨g, us, B, ds, rfl, e, hb, hq, ⟨xs, cs, rfl, c1, c200, xin, cg⟩, q⟩ := h
    obtain ⟨v, rfl, hv⟩ := dq1 hq
    refine ⟨_, (pss_cons (ps_set (i := 2) sc__law_other_scripts.nd rfl (.inl rfl) (pe_callC C__law_pick (hr.mono (by decide)) (by rfl) pass0 (pa_cons (pv 0) (pa_cons (pe_op op_addA (pe_callB call_len_seq (by rfl) z_len PySem.boot_len (pa_cons (pv 1) pa_nil)) pe_int) pa_nil)))) (pss_cons (ps_set (i := 3) sc__law_other_scripts.nd rfl (.inl rfl) (pe_callC C__law_other_commands (hr.mono (by decide)) (by rfl) pass0 (pa_cons (pv 0) (pa_cons (pv 1) pa_nil)))) (pss_cons (ps_set (i := 4) sc__law_other_scripts.nd rfl (.inl rfl) (pe_ix ix_seq (pv 3) (pe_callC C__law_pick (hr.mono (by decide)) (by rfl) pass0 (pa_cons (pv 0) (pa_cons (pe_callB call_len_seq (by rfl) z_len PySem.boot_len (pa_cons (pv 3) pa_nil)) pa_nil))) (fun _ _ => rfl))) (pss_cons (ps_set (i := 3) sc__law_other_scripts.nd rfl (.inl rfl) (pe_op op_addA (pv 3) (pe_lst (pa_cons (pe_op op_addA (pe_op op_addA (pe_slice sl_any (pv 1) po_none (po_some (pv 2))) (pe_tup (pa_cons (pv 4) pa_nil))) (pe_slice sl_any (pv 1) (po_some (pv 2)) po_none)) (pa_cons (pe_op op_addA (pe_op op_addA (pe_slice sl_any (pv 1) po_none (po_some (pv 2))) (pe_tup (pa_cons (pv 4) pa_nil))) (pe_slice sl_any (pv 1) (po_some (pe_op op_addA (pv 2) pe_int)) po_none)) (pa_cons (pe_callTy call_list_of (by rfl) z_list (by decide +kernel) (pa_cons (pv 1) pa_nil)) pa_nil)))))) (pss_cons (ps_set (i := 3) sc__law_other_scripts.nd rfl (.inl rfl) (pe_op op_addA (pv 3) (pe_lst (pa_cons (pe_op op_addA (pe_slice sl_any (pv 1) po_none (po_some (pv 2))) (pe_slice sl_any (pv 1) (po_some (pe_op op_addA (pv 2) pe_int)) po_none)) (pa_cons (pe_op op_mulA (pe_slice sl_any (pv 1) po_none (po_some pe_int)) pe_int) (pa_cons (pe_op op_mulA (pe_slice sl_any (pv 1) po_none (po_some pe_int)) pe_int) (pa_cons (pe_op op_mulA (pe_slice sl_any (pv 1) po_none (po_some pe_int)) pe_int) pa_nil))))))) (pss_one (ps_ret (pe_op op_addA (pv 3) (pe_lst (pa_cons (pe_tup (pa_cons (pv 1) pa_nil)) (pa_cons (pe_tup (pa_cons (pe_callTy call_list_of (by rfl) z_list (by decide +kernel) (pa_cons (pe_ix ix_seq (pv 1) pe_int (fun _ _ => rfl)) pa_nil)) pa_nil)) (pa_cons (pe_op op_addA (pv 1) (pe_tup (pa_cons pe_non pa_nil))) (pa_cons (pe_op op_addA (pv 1) (pe_tup pa_nil)) (pa_cons (pe_backT (pv 1)) pa_nil)))))))))))))), ?_⟩
    have cpl : ∀ c ∈ cs, Pl 1 300 c := fun c hc => pl_cmd xin (cg c hc)
    refine b_set (K := K) (g := g) (R := RI fun r => 0 ≤ r ∧ r < (cs.length : Int) + 1) (eb_pickC (n := (cs.length : Int) + 1) rfl (fun B1 H1 l => ev_op (ev_cb (ea_cons (ev_var rfl (hv.mono l.b)) ea_nil) rc_lenT) ev_i rv_addI) (by omega) (by omega)) e hb ?_
    rintro d v2 B1 H1 ⟨at_, rfl, _, _⟩ l1 b1 hv2
    refine b_set (K := K) (g := g) (R := fun d => ∃ es, d = .list es ∧ 1 ≤ es.length ∧ es.length ≤ 100 ∧ ∀ e ∈ es, CmdV e) ((eb_call rfl (eba_of (ds := [.tuple cs]) fun B2 H2 l => ea_cons (ev_var rfl ((hv.mono l1.b).mono l.b)) ea_nil) fun ds h => by
      subst h
      exact ⟨xs, cs, rfl, c1, c200, xin, cg⟩).imp fun d h => by
        obtain ⟨_, _, h⟩ := h
        exact h) l1.h b1 ?_
    rintro d v3 B2 H2 ⟨es, rfl, e1, e100, ecm⟩ l2 b2 hv3
    refine b_set (K := K) (g := g) (R := (· ∈ es)) (eb_at (n := es.length) (fun B3 H3 l => ev_var rfl (hv3.mono l.b)) (eb_pickC (n := es.length) rfl (fun B3 H3 l => ev_cb (ea_cons (ev_var rfl (hv3.mono l.b)) ea_nil) rc_lenL) (by omega) (by omega)) rfl) l2.h b2 ?_
    intro odd v4 B3 H3 hodd l3 b3 h4
    have ho := ecm odd hodd
    have l13 := (l1.trans l2).trans l3
    have hva := (hv2.mono l2.b).mono l3.b
    have hvr := hv.mono l13.b
    have row : ∀ {σ : L2.St} {B H : Hp} {P : PyData → Prop}, (∀ x, Pl 1 300 x → P x) → σ[1]? = some (some v) → Dq K B v (.tuple cs) → EvC K .tuple (tVar 1) σ B H P 200 := fun hP h1 h2 => vc_var h1 h2 (fun x hx => hP x (cpl x hx)) c200
    have oneO : ∀ {σ : L2.St} {B H : Hp}, σ[4]? = some (some v4) → Dq K B v4 odd → EvC K .tuple (tTup (tCons (tVar 4) tNil)) σ B H (PO 2 300 odd) 1 := fun h1 h2 => vc_tup (va_cons (vv (ev_var h1 h2) (.inl rfl)) va_nil) (size_ok (by decide))
    have plo : ∀ {o : PyData} (x : PyData), Pl 1 300 x → PO 2 300 o x := fun x h => .inr (h.mono (by decide) (by decide))
    have pp : ∀ x, Pl 1 300 x → Pl 1 300 x := fun x h => h
    have loAt : ∀ {σ : L2.St} {B H : Hp}, σ[2]? = some (some v2) → Dq K B v2 (.int at_) → EvO (tPart (tVar 2)) σ B H (some at_) := fun h1 h2 => eo_some (K := K) (ev_var h1 h2)
    have loAt1 : ∀ {σ : L2.St} {B H : Hp}, σ[2]? = some (some v2) → Dq K B v2 (.int at_) → EvO (tPart (tOp (rAddA K) (tVar 2) (tC (.int 1)))) σ B H (some (at_ + 1)) := fun h1 h2 => eo_some (K := K) (ev_op (ev_var h1 h2) ev_i rv_addI)
    have tv : ∀ {σ : L2.St} {B H : Hp} {te : TE} {n : Nat}, EvC K .tuple te σ B H (Pl 1 300) n → n ≤ 1000 → EvV K te σ B H Ov := fun h hn => vc_val h fun ds h n => ov_pltup h n (Nat.le_trans (Nat.mul_le_mul_right _ hn) (by decide)) (by decide) hn
    refine q_setC (K := K) (c := .list) (P := Ov) (n := 103) (vc_addL (n := 100) (vc_var rfl (hv3.mono l3.b) (fun x hx => (ecm x hx).ov) e100) (vc_lst (va_cons (vc_val (vc_addT (vc_addT (vc_sl (row plo rfl hvr) eo_none (loAt rfl hva)) (oneO rfl h4) (size_ok (by decide))) (vc_sl (row plo rfl hvr) (loAt rfl hva) eo_none) (size_ok (by decide))) fun ds h n => ov_tup2 ho h n (by decide))
      (va_cons (vc_val (vc_addT (vc_addT (vc_sl (row plo rfl hvr) eo_none (loAt rfl hva)) (oneO rfl h4) (size_ok (by decide))) (vc_sl (row plo rfl hvr) (loAt1 rfl hva) eo_none) (size_ok (by decide))) fun ds h n => ov_tup2 ho h n (by decide))
      (va_cons (vc_val (vc_lstT (row pp rfl hvr)) fun ds h n => ov_lst h n (by decide) (by decide)) va_nil))) (size_ok (by decide))) (size_ok (by decide))) l3.h ?_
    intro d1 w1 B4 H4 p1 n1 l4 hw1
    have hvr4 := hvr.mono l4.b
    have hva4 := hva.mono l4.b
    obtain ⟨c0, cr, ecs⟩ : ∃ c0 cr, cs = c0 :: cr := by
      cases cs with
      | nil => exact absurd c1 (by decide)
      | cons x xr => exact ⟨x, xr, rfl⟩
    have first : ∀ {σ : L2.St} {B H : Hp}, σ[1]? = some (some v) → Dq K B v (.tuple cs) → Ev K (tSl (rSlAny K) (tVar 1) tNoPart (tPart (tC (.int 1)))) σ B H (.tuple [c0]) := fun {σ B H} h1 h2 => by
      have c := ev_sl (K := K) (σ := σ) (B := B) (H := H) (te := tVar 1) (x := .tuple cs) (ev_var h1 h2) eo_none (eo_some (K := K) (i := 1) ev_i) rs_T
      have e1 := cut_to cs 1
      rw [show ((1 : Nat) : Int) = 1 by rfl] at e1
      rw [e1, ecs] at c
      exact c
    have c0pl : ∀ x ∈ [c0], Pl 1 300 x := fun x hx => by
      rw [List.mem_singleton.mp hx]
      exact cpl c0 (by rw [ecs]; exact List.mem_cons_self ..)
    refine q_setC (K := K) (c := .list) (P := Ov) (n := 107) (vc_addL (n := 103) (vc_var rfl hw1 p1 n1) (vc_lst (va_cons (tv (vc_addT (vc_sl (row pp rfl hvr4) eo_none (loAt rfl hva4)) (vc_sl (row pp rfl hvr4) (loAt1 rfl hva4) eo_none) (size_ok (by decide))) (by decide))
      (va_cons (tv (vc_mul (k := 200) (first rfl hvr4) (by simp) c0pl (Nat.le_refl 1) (by decide) (by decide)) (by decide)) (va_cons (tv (vc_mul (k := 201) (first rfl hvr4) (by simp) c0pl (Nat.le_refl 1) (by decide) (by decide)) (by decide)) (va_cons (tv (vc_mul (k := 300) (first rfl hvr4) (by simp) c0pl (Nat.le_refl 1) (by decide) (by decide)) (by decide)) va_nil)))) (size_ok (by decide))) (size_ok (by decide))) l4.h ?_
    intro d2 w2 B5 H5 p2 n2 l5 hw2
    have hvr5 := hvr4.mono l5.b
    obtain ⟨wd, i, j, ec0, hwd, hi, hj, _⟩ := cg c0 (by rw [ecs]; exact List.mem_cons_self ..)
    have c0d : ∀ x ∈ [PyData.str wd, .int i, .int j], Pl 0 70 x := fun x hx => by
      simp only [List.mem_cons, List.mem_nil_iff, or_false] at hx
      rcases hx with rfl | rfl | rfl
      · exact pl_word hwd
      · exact pl_int (xin i hi).1 (xin i hi).2
      · exact pl_int (xin j hj).1 (xin j hj).2
    have l0 : CmdV (.list [PyData.str wd, .int i, .int j]) := cmd_pllst c0d (by show 3 ≤ 4; decide)
    have at0 : atI cs (0 : Int) = some (.tuple [.str wd, .int i, .int j]) := by
      have z := atI_nat (xs := cs) (j := 0) (v := c0) (by rw [ecs]; rfl)
      rw [← ec0]
      exact z
    refine s_retC (K := K) (c := .list) (P := Ov) (n := 112) (vc_addL (n := 107) (vc_var rfl hw2 p2 n2) (vc_lst (va_cons (vc_val (vc_tup (n := 1) (P := Pl 2 60200) (va_cons (vv (ev_var rfl hvr5) (Pl.tup cpl (len_mul c200 (by decide)))) va_nil) (size_ok (by decide))) fun ds h n => ov_pltup h n (by decide) (by decide) (by decide))
      (va_cons (vc_val (vc_tup (n := 1) (P := PO 2 300 (.list [PyData.str wd, .int i, .int j])) (va_cons (vv (ev_cb (ea_cons (ev_op (ev_var rfl hvr5) ev_i (rv_ixT at0)) ea_nil) rc_lstT) (.inl rfl)) va_nil) (size_ok (by decide))) fun ds h n => ov_tup2 l0 h n (by decide))
      (va_cons (vc_val (vc_addT (row (P := PO 2 300 .none) plo rfl hvr5) (vc_tup (n := 1) (va_cons (vv ev_n (.inl rfl)) va_nil) (size_ok (by decide))) (size_ok (by decide))) fun ds h n => ov_tup2 (OddV.cmd (odd_of (by decide))) h n (by decide))
      (va_cons (tv (vc_addT (row pp rfl hvr5) (vc_tup (n := 0) va_nil (size_ok (by decide))) (size_ok (by decide))) (by decide)) (va_cons (tv (vc_back (row pp rfl hvr5)) (by decide)) va_nil))))) (size_ok (by decide))) (size_ok (by decide))) l5.h ?_
    intro d3 w3 B6 H6 p3 n3 l6 hw3
    have b6 := ((b3.pure l4).pure l5).pure l6
    exact q _ ⟨d3, rfl, by omega, p3⟩ w3 B6 H6 (l13.trans ((l4.trans l5).trans l6).any) b6 hw3
end
end K01

set_option maxRecDepth 100000
set_option maxHeartbeats 8000000
namespace K01
open PySem PySem.Spec PyProof.Rows L2 MA
def lawS (K : PySem.W.Frag) : Sp := fun vs H Q _ => ∃ a ns, vs = [.ref a] ∧ (ns : List Int).length ≤ 1000 ∧ SqL K H a (ns.map V.int) ∧ ∀ H', Q (.bl true) H'
section
variable {P : Program} {w : World} {K : PySem.W.Frag} {mg : PySem.Str → Option Value} {base : Heap}
theorem good_cmd {xs : List Int} (hx : ∀ k ∈ xs, 0 ≤ k ∧ k < 60) {c : PyData} (h : GoodC xs c) : isCommandD c = true := by
  obtain ⟨x, i, j, rfl, hw, hi, hj, hne⟩ := h
  have h1 := hx i hi
  have h2 := hx j hj
  simp only [isCommandD, isItemD, itemI, isWord, Bool.and_eq_true, Bool.or_eq_true, decide_eq_true_eq, Bool.not_eq_true', decide_eq_false_iff_not]
  exact ⟨hw, h1, h2, decide_eq_false hne⟩
theorem good_scr {xs : List Int} (hx : ∀ k ∈ xs, 0 ≤ k ∧ k < 60) {cs : List PyData} (h1 : 1 ≤ cs.length) (h2 : cs.length ≤ 200) (h : ∀ c ∈ cs, GoodC xs c) : isScriptD (.tuple cs) = true := by
  simp only [isScriptD, Bool.and_eq_true, decide_eq_true_eq, List.all_eq_true]
  exact ⟨⟨h1, h2⟩, fun c hc => good_cmd hx (h c hc)⟩
theorem ov_named (ds : List PyData) : Ov (.list ((namedI ds).map PyData.int)) := ov_lst (k := 0) (w := 70) (n := 60) (fun d hd => by
  obtain ⟨k, hk, rfl⟩ := List.mem_map.mp hd
  have := mem_below.mp hk
  exact pl_int this.1 this.2.1) (by rw [List.length_map]; exact below_len _) (by decide) (by decide)
theorem ok_law {f : Addr} {fd : FuncData} (F : Fun K "law" "law" s_law f fd)
    (C_is_line : Cl P w K mg base CX0 3 "is_line" ["value"] (Pf1 K (fun _ => True) fun d => .bool (isLineD d))) (C_is_command : Cl P w K mg base CX0 3 "is_command" ["value"] (Pf1 K (fun _ => True) fun d => .bool (isCommandD d))) (C_is_script : Cl P w K mg base CX0 4 "is_script" ["value"] (Pf1 K (fun _ => True) fun d => .bool (isScriptD d)))
    (C_items_of : Cl P w K mg base CX0 6 "items_of" ["script"] (Pn1 K (fun d => isScriptD d = true) fun d => .list ((namedI (tupD d)).map PyData.int)))
    (C__law_named : Cl P w K mg base CX0 1 "_law_named" ["commands"] (Pf1 K (fun d => isScriptD d = true) fun d => .list ((namedI (tupD d)).map PyData.int)))
    (C__law_due : Cl P w K mg base CX0 4 "_law_due" ["value"] (Pf1 K (fun d => tlen d ≤ 1000) fun d => .list [.bool (isLineD d), .bool (isCommandD d), .bool (isScriptD d)]))
    (C__law_bag : Cl P w K mg base CX0 1 "_law_bag" ["cell"] BagS) (C__law_case : Cl P w K mg base CX0 3 "_law_case" ["bag", "most", "length"] (CaseS K))
    (C__law_other_lines : Cl P w K mg base CX0 2 "_law_other_lines" ["bag", "row"] (LinesS K)) (C__law_other_scripts : Cl P w K mg base CX0 3 "_law_other_scripts" ["bag", "commands"] (ScrsS K))
    (z_repr : mg "repr" = none) (z_range : mg "range" = none) : FnG P w K mg base 7 f fd ["script"] (lawS K) :=
  fnG F sc_law fun cdv A outer s H vs Q hg hr h => by
    obtain ⟨a, ns, rfl, hn, hs, q⟩ := h
    have hu := hr.units0
    have hgd : (cxOf CX0 P w K mg base N_law "law" (defScope s_law) f cdv A outer s H E0).nox.A.guards = some [] := hg
    have hu64 : (cxOf CX0 P w K mg base N_law "law" (defScope s_law) f cdv A outer s H E0).nox.A.units + 64 < cLine := hr.units
    refine ⟨_, (pss_cons (ps_for PassesOwn.never rfl (pi_list (pe_op op_addA (pe_slice sl_any (pv 0) po_none (po_some pe_int)) (pe_lst (pa_cons pe_int pa_nil)))) (pg_name (i := 1) sc_law.nd rfl (.inl rfl)) (pss_cons (ps_set (i := 2) sc_law.nd rfl (.inl rfl) (pe_callC C__law_bag (hr.mono (by decide)) (by rfl) pass0 (pa_cons (pv 1) pa_nil))) (pss_cons (ps_asg (pe_callC C__law_case (hr.mono (by decide)) (by rfl) pass0 (pa_cons (pv 2) (pa_cons pe_int (pa_cons pe_int pa_nil)))) (pg_tup rfl (pgs_cons (pg_name (i := 3) sc_law.nd rfl (.inl rfl)) (pgs_cons (pg_name (i := 4) sc_law.nd rfl (.inl rfl)) pgs_nil)))) (pss_cons (ps_for PassesOwn.never rfl (pi_list (pe_op op_addA (pe_op op_addA (pe_lst (pa_cons (pv 3) (pa_cons (pv 4) pa_nil))) (pe_callC C__law_other_lines (hr.mono (by decide)) (by rfl) pass0 (pa_cons (pv 2) (pa_cons (pv 3) pa_nil)))) (pe_callC C__law_other_scripts (hr.mono (by decide)) (by rfl) pass0 (pa_cons (pv 2) (pa_cons (pv 4) pa_nil))))) (pg_name (i := 5) sc_law.nd rfl (.inl rfl)) (pss_cons (ps_set (i := 6) sc_law.nd rfl (.inl rfl) (pe_callB (call_repr hgd hu64) (by rfl) z_repr PyProof.Rows.boot_repr (pa_cons (pv 5) pa_nil))) (pss_cons (ps_if (pt_cmpR (op_neA hu) (pe_callB (call_repr hgd hu64) (by rfl) z_repr PyProof.Rows.boot_repr (pa_cons (pe_lst (pa_cons (pe_callC C_is_line (hr.mono (by decide)) (by rfl) pass0 (pa_cons (pv 5) pa_nil)) (pa_cons (pe_callC C_is_command (hr.mono (by decide)) (by rfl) pass0 (pa_cons (pv 5) pa_nil)) (pa_cons (pe_callC C_is_script (hr.mono (by decide)) (by rfl) pass0 (pa_cons (pv 5) pa_nil)) pa_nil)))) pa_nil)) (pe_callB (call_repr hgd hu64) (by rfl) z_repr PyProof.Rows.boot_repr (pa_cons (pe_callC C__law_due (hr.mono (by decide)) (by rfl) pass0 (pa_cons (pv 5) pa_nil)) pa_nil)) (nomark _)) (pss_one (ps_ret pe_bl)) pss_nil) (pss_one (ps_if (pt_cmpR (op_neA hu) (pe_callB (call_repr hgd hu64) (by rfl) z_repr PyProof.Rows.boot_repr (pa_cons (pv 5) pa_nil)) (pv 6) (nomark _)) (pss_one (ps_ret pe_bl)) pss_nil))))) (pss_one (ps_for PassesOwn.never rfl (pi_range1 (by rfl) z_range (pa_cons pe_int pa_nil)) (pg_name (i := 7) sc_law.nd rfl (.inl rfl)) (pss_cons (ps_set (i := 8) sc_law.nd rfl (.inl rfl) (pe_callC C_items_of (hr.mono (by decide)) (by rfl) pass0 (pa_cons (pv 4) pa_nil))) (pss_cons (ps_if (pt_cmpR (op_neA hu) (pe_callB (call_repr hgd hu64) (by rfl) z_repr PyProof.Rows.boot_repr (pa_cons (pv 8) pa_nil)) (pe_callB (call_repr hgd hu64) (by rfl) z_repr PyProof.Rows.boot_repr (pa_cons (pe_callC C__law_named (hr.mono (by decide)) (by rfl) pass0 (pa_cons (pv 4) pa_nil)) pa_nil)) (nomark _)) (pss_one (ps_ret pe_bl)) pss_nil) (pss_one (ps_expr (pe_bm PySem.F.plainAttrs_list PySem.F.slot_list_append PySem.F.type_list_append mt_append (pv 8) (pa_cons pe_non pa_nil)))))))))))) (pss_one (ps_ret pe_bl))), ?_⟩
    have src : Ev K (tOp (rAddA K) (tSl (rSlAny K) (tVar 0) tNoPart (tPart (tC (.int 14)))) (tLst (tCons (tC (.int 0)) tNil))) (L2.start N_law [.ref a]) H H (.list ((ns.take 14).map PyData.int ++ [.int 0])) :=
      ev_op (ev_slS (k := 14) rfl hs (by decide)) (ev_lst (ea_cons ev_i ea_nil) (size_ok (by decide))) (rv_addL (size_ok (by rw [List.length_map, List.length_take]; show min 14 ns.length + 1 ≤ 100000; omega)))
    refine q_forL (K := K) src (Ex.refl H) (fun i σ' B' => ∃ o1 o2 o3 o4 o5 o6 o7 o8, σ' = [some (.ref a), o1, o2, o3, o4, o5, o6, o7, o8]) (fun B1 H1 l => ⟨_, _, _, _, _, _, _, _, rfl⟩) ?_ ?_
    · rintro i d v σ' B H0 N l0 hi hv ⟨o1, o2, o3, o4, o5, o6, o7, o8, rfl⟩ hN
      obtain ⟨c, rfl⟩ : ∃ c : Int, d = .int c := by
        rcases List.mem_append.mp (List.mem_of_getElem? hi) with z | z
        · obtain ⟨c, _, rfl⟩ := List.mem_map.mp z
          exact ⟨c, rfl⟩
        · exact ⟨0, List.mem_singleton.mp z⟩
      cases hv
      -- bag
      refine q_asgR ⟨.int c, rfl, c, rfl, fun g x y z hp => ?_⟩
      have hB : B g = none := by
        cases z : B g with
        | none => rfl
        | some o => rw [l0.h g o z] at hp; cases hp
      have l1 : Le [g] B H0 B (upd H0 g (.lst [.int x, .int y, .int z])) := Le.made l0.h hp
      have b1 : Bag g B (upd H0 g (.lst [.int x, .int y, .int z])) := ⟨hB, x, y, z, upd_same⟩
      -- line, commands
      refine b_asg2 (K := K) (g := g) (S := fun p q => ∃ (xs : List Int) (cs : List PyData), p = .tuple (xs.map PyData.int) ∧ q = .tuple cs ∧ 1 ≤ xs.length ∧ xs.length ≤ 60 ∧ (∀ k ∈ xs, 0 ≤ k ∧ k < 60) ∧ 1 ≤ cs.length ∧ cs.length ≤ 200 ∧ ∀ c ∈ cs, GoodC xs c)
        (eb_call rfl (eba_of (ds := [.int 60, .int 200]) fun _ _ _ => ea_cons ev_i (ea_cons ev_i ea_nil)) fun ds h => by
          subst h
          exact ⟨60, 200, rfl, by decide, by decide, by decide, by decide⟩) l1.h b1 (fun d h => by
            obtain ⟨_, rfl, m, ll, xs, cs, e1, rfl, h1, h2, h3, h4, h5, h6, h7⟩ := h
            have em : m = 60 := by
              have := congrArg (fun l => match l with | PyData.int a :: _ => a | _ => 0) e1
              exact this.symm
            have el : ll = 200 := by
              have := congrArg (fun l => match l with | [_, PyData.int a] => a | _ => 0) e1
              exact this.symm
            exact ⟨_, _, rfl, xs, cs, rfl, rfl, by omega, by omega, h4, h5, by omega, h7⟩) ?_
      rintro _ _ v3 v4 B2 H2 ⟨xs, cs, rfl, rfl, x1, x60, xin, c1, c200, cg⟩ l2 b2 h3 h4
      have cpl : ∀ c ∈ cs, Pl 1 300 c := fun c hc => pl_cmd xin (cg c hc)
      have xpl : ∀ x ∈ xs.map PyData.int, Pl 0 70 x := fun x hx => by
        obtain ⟨k, hk, rfl⟩ := List.mem_map.mp hx
        exact pl_int (xin k hk).1 (xin k hk).2
      have ovl : Ov (.tuple (xs.map PyData.int)) := ov_pltup (n := 60) xpl (by rw [List.length_map]; exact x60) (by decide) (by decide) (by decide)
      have ovc : Ov (.tuple cs) := ov_pltup (n := 200) cpl c200 (by decide) (by decide) (by decide)
      have scr := good_scr xin c1 c200 cg
      have l02 : Le [] B H0 B2 H2 := (l1.trans l2).local hp
      -- for value in ..
      refine b_forL (K := K) (g := g) (R := Ov) (eb_op (R1 := fun d => ∃ es, d = .list es ∧ es.length ≤ 300 ∧ ∀ e ∈ es, Ov e) (Rb := fun d => ∃ es, d = .list es ∧ es.length ≤ 200 ∧ ∀ e ∈ es, Ov e)
        (eb_op (R1 := (· = .list [.tuple (xs.map PyData.int), .tuple cs])) (Rb := fun d => ∃ es, d = .list es ∧ es.length ≤ 200 ∧ ∀ e ∈ es, Ov e) (eb_of fun B3 H3 l => ev_lst (ea_cons (ev_var rfl (h3.mono l.b)) (ea_cons (ev_var rfl (h4.mono l.b)) ea_nil)) (size_ok (by show 2 ≤ 100000; decide)))
          ((eb_call rfl (eba_of (ds := [.tuple (xs.map PyData.int)]) fun B3 H3 l => ea_cons (ev_var rfl (h3.mono l.b)) ea_nil) fun ds h => by
            subst h
            exact ⟨xs, rfl, x1, x60, xin⟩).imp fun d h => by obtain ⟨_, _, h⟩ := h; exact h)
          fun p q hp hq => by
            subst hp
            obtain ⟨es, rfl, e1, e2⟩ := hq
            refine ⟨_, rv_addL (size_ok (by show 2 + es.length ≤ 100000; omega)), _, rfl, by rw [List.length_append]; show 2 + es.length ≤ 300; omega, fun e he => ?_⟩
            rcases List.mem_append.mp he with z | z
            · simp only [List.mem_cons, List.mem_nil_iff, or_false] at z
              rcases z with rfl | rfl
              · exact ovl
              · exact ovc
            · exact e2 e z)
        ((eb_call rfl (eba_of (ds := [.tuple cs]) fun B3 H3 l => ea_cons (ev_var rfl (h4.mono l.b)) ea_nil) fun ds h => by
          subst h
          exact ⟨xs, cs, rfl, c1, c200, xin, cg⟩).imp fun d h => by obtain ⟨_, _, h⟩ := h; exact h)
        fun p q hp hq => by
          obtain ⟨es, rfl, e1, e2⟩ := hp
          obtain ⟨fs, rfl, f1, f2⟩ := hq
          exact ⟨_, rv_addL (size_ok (by omega)), _, rfl, fun e he => (List.mem_append.mp he).elim (e2 e) (f2 e)⟩) l2.h b2
        (fun i σ' B' => ∃ o5 o6 o7 o8, σ' = [some (.ref a), some (.int c), some (.ref g), some v3, some v4, o5, o6, o7, o8]) (fun B3 H3 l => ⟨_, _, _, _, rfl⟩) ?_ ?_
      · rintro j d v5 σ' B4 H4 N4 l4 hov hv5 ⟨o5, o6, o7, o8, rfl⟩ hN4
        have y0 : ∀ {σ : L2.St} {B H : Hp}, σ[5]? = some (some v5) → Dq K B v5 d → Ev K (tVar 5) σ B H d := fun h1 h2 => ev_var h1 h2
        refine q_set (K := K) (d := .str d.shown) (ev_repr (y0 rfl hv5) hov) l4.h fun v6 B5 H5 l5 hv6 => ?_
        have hv5' := hv5.mono l5.b
        refine q_when (k := false) (et_same (s := (PyData.list [.bool (isLineD d), .bool (isCommandD d), .bool (isScriptD d)]).shown)
          (ev_repr (ev_lst (ea_cons (ev_call1 (y0 rfl hv5') trivial) (ea_cons (ev_call1 (y0 rfl hv5') trivial) (ea_cons (ev_call1 (y0 rfl hv5') trivial) ea_nil))) (size_ok (by show 3 ≤ 100000; decide))) (ov_bools _ _ _))
          (ev_repr (ev_call1 (g := fun d => .list [.bool (isLineD d), .bool (isCommandD d), .bool (isScriptD d)]) (y0 rfl hv5') hov.2) (ov_bools _ _ _))) l5.h (fun z => by cases z) fun _ B6 H6 l6 => ?_
        refine s_when (k := false) (et_same (s := d.shown) (ev_repr (y0 rfl (hv5'.mono l6.b)) hov) (ev_var rfl (hv6.mono l6.b))) l6.h (fun z => by cases z) fun _ B7 H7 l7 => ?_
        exact hN4 _ B7 H7 ((l5.trans l6).trans l7) ⟨_, _, _, _, rfl⟩
      · rintro _ σ' B4 H4 l4 ⟨o5, o6, o7, o8, rfl⟩
        have l04 : Le [] B H0 B4 H4 := (l1.trans (l2.trans l4)).local hp
        have h4' := h4.mono l4.b
        refine s_forR (n := 2) (by decide) l4.h (fun i σ' B' => ∃ o7 o8, σ' = [some (.ref a), some (.int c), some (.ref g), some v3, some v4, o5, o6, o7, o8]) ⟨_, _, rfl⟩ ?_ ?_
        · rintro j σ' B5 H5 N5 l5 ⟨o7, o8, rfl⟩ hN5
          have h5 := h4'.mono l5.b
          refine q_asgR (evN_call1 (K := K) (g := fun d => .list ((namedI (tupD d)).map PyData.int)) (ev_var rfl h5) scr B5 H5 (Le.refl l5.h) _ fun v8 B6 H6 l6 hn8 hv8 => ?_)
          obtain ⟨p, rfl, hp5⟩ := hn8
          refine q_when (k := false) (et_same (s := (PyData.list ((namedI cs).map PyData.int)).shown) (ev_repr (ev_var rfl hv8) (ov_named cs))
            (ev_repr (ev_call1 (g := fun d => .list ((namedI (tupD d)).map PyData.int)) (ev_var rfl (h5.mono l6.b)) scr) (ov_named cs))) l6.h (fun z => by cases z) fun _ B7 H7 l7 => ?_
          have hv8' := hv8.mono l7.b
          cases hv8' with
          | lst hs8 hq8 =>
            rename_i ys
            have l57 := l6.trans l7
            obtain ⟨ld, dn⟩ := l57.drop l5.h hp5
            have hp7 := l57.h _ _ hs8
            have ylen : ys.length ≤ 60 := by
              rw [hq8.length, List.length_map]
              exact below_len _
            refine ⟨.ref p, rfl, .inl ⟨rfl, ys, .inl (.inl hp7)⟩, p, ys, .non, rfl, rfl, hp7, Nat.lt_of_le_of_lt ylen (by rw [sizeLine_eq]; decide), ?_⟩
            have lp : Le [p] (dropB B7 p) H7 (dropB B7 p) (upd H7 p (.lst (ys ++ [.non]))) := Le.put ld.h dn (by simp)
            exact hN5 _ _ _ (((ld.wk (by simp)).trans lp).local hp5) ⟨_, _, rfl⟩
        · rintro σ' B5 H5 l5 ⟨o7, o8, rfl⟩
          exact hN _ B5 H5 (l04.trans l5) ⟨_, _, _, _, _, _, _, _, rfl⟩
    · rintro σ' B H0 l0 _
      refine s_ret (K := K) (d := .bool true) ev_b l0.h fun v B' H' l2 hv => ?_
      cases hv
      exact q H'
end
end K01

set_option maxRecDepth 100000
set_option maxHeartbeats 8000000
namespace K01
open PySem PySem.Spec PyProof.Rows L2 MA
theorem words_vals {its : Array Value} (h : its.toList.map absV = [some (.str "behind"), some (.str "before")]) : Vals [V.str "behind", V.str "before"] its.toList := by
  match q : its.toList, h with
  | [], h => exact absurd (congrArg List.length h) (by simp)
  | [x], h => exact absurd (congrArg List.length h) (by simp)
  | [x, y], h =>
    have h1 : absV x = some (V.str "behind") := (List.cons.inj h).1
    have h2 : absV y = some (V.str "before") := (List.cons.inj (List.cons.inj h).2).1
    have str_of : ∀ (v : Value) (s : PySem.Str), absV v = some (V.str s) → RelV (V.str s) v := fun v s e => by
      cases v <;> first | (cases e; exact ⟨_, rfl⟩) | cases e
    exact .cons (str_of x _ h1) (.cons (str_of y _ h2) .nil)
  | _ :: _ :: _ :: _, h => exact absurd (congrArg List.length h) (by simp)
theorem df_is_within {K : PySem.W.Frag} {mg : PySem.Str → Option Value} {f : Addr} {fd : FuncData} (F : Fun K "is_within" "is_within" s_is_within f fd) (h : mg "is_within" = some (.ref f)) : Df K mg "is_within" s_is_within ["value", "least", "most"] := ⟨f, fd, F, h, F.binds (ps := ["value", "least", "most"]) fun _ _ _ _ _ _ us hl => match us, hl with | [_, _, _], _ => rfl⟩
theorem df_is_item {K : PySem.W.Frag} {mg : PySem.Str → Option Value} {f : Addr} {fd : FuncData} (F : Fun K "is_item" "is_item" s_is_item f fd) (h : mg "is_item" = some (.ref f)) : Df K mg "is_item" s_is_item ["value"] := ⟨f, fd, F, h, F.binds (ps := ["value"]) fun _ _ _ _ _ _ us hl => match us, hl with | [_], _ => rfl⟩
theorem df_is_line {K : PySem.W.Frag} {mg : PySem.Str → Option Value} {f : Addr} {fd : FuncData} (F : Fun K "is_line" "is_line" s_is_line f fd) (h : mg "is_line" = some (.ref f)) : Df K mg "is_line" s_is_line ["value"] := ⟨f, fd, F, h, F.binds (ps := ["value"]) fun _ _ _ _ _ _ us hl => match us, hl with | [_], _ => rfl⟩
theorem df_is_command {K : PySem.W.Frag} {mg : PySem.Str → Option Value} {f : Addr} {fd : FuncData} (F : Fun K "is_command" "is_command" s_is_command f fd) (h : mg "is_command" = some (.ref f)) : Df K mg "is_command" s_is_command ["value"] := ⟨f, fd, F, h, F.binds (ps := ["value"]) fun _ _ _ _ _ _ us hl => match us, hl with | [_], _ => rfl⟩
theorem df_is_script {K : PySem.W.Frag} {mg : PySem.Str → Option Value} {f : Addr} {fd : FuncData} (F : Fun K "is_script" "is_script" s_is_script f fd) (h : mg "is_script" = some (.ref f)) : Df K mg "is_script" s_is_script ["value"] := ⟨f, fd, F, h, F.binds (ps := ["value"]) fun _ _ _ _ _ _ us hl => match us, hl with | [_], _ => rfl⟩
theorem df_require_script {K : PySem.W.Frag} {mg : PySem.Str → Option Value} {f : Addr} {fd : FuncData} (F : Fun K "require_script" "require_script" s_require_script f fd) (h : mg "require_script" = some (.ref f)) : Df K mg "require_script" s_require_script ["value"] := ⟨f, fd, F, h, F.binds (ps := ["value"]) fun _ _ _ _ _ _ us hl => match us, hl with | [_], _ => rfl⟩
theorem df_named_items {K : PySem.W.Frag} {mg : PySem.Str → Option Value} {f : Addr} {fd : FuncData} (F : Fun K "named_items" "named_items" s_named_items f fd) (h : mg "named_items" = some (.ref f)) : Df K mg "named_items" s_named_items ["script"] := ⟨f, fd, F, h, F.binds (ps := ["script"]) fun _ _ _ _ _ _ us hl => match us, hl with | [_], _ => rfl⟩
theorem df_items_of {K : PySem.W.Frag} {mg : PySem.Str → Option Value} {f : Addr} {fd : FuncData} (F : Fun K "items_of" "items_of" s_items_of f fd) (h : mg "items_of" = some (.ref f)) : Df K mg "items_of" s_items_of ["script"] := ⟨f, fd, F, h, F.binds (ps := ["script"]) fun _ _ _ _ _ _ us hl => match us, hl with | [_], _ => rfl⟩
theorem df__law_bag {K : PySem.W.Frag} {mg : PySem.Str → Option Value} {f : Addr} {fd : FuncData} (F : Fun K "_law_bag" "_law_bag" s__law_bag f fd) (h : mg "_law_bag" = some (.ref f)) : Df K mg "_law_bag" s__law_bag ["cell"] := ⟨f, fd, F, h, F.binds (ps := ["cell"]) fun _ _ _ _ _ _ us hl => match us, hl with | [_], _ => rfl⟩
theorem df__law_pick {K : PySem.W.Frag} {mg : PySem.Str → Option Value} {f : Addr} {fd : FuncData} (F : Fun K "_law_pick" "_law_pick" s__law_pick f fd) (h : mg "_law_pick" = some (.ref f)) : Df K mg "_law_pick" s__law_pick ["bag", "many"] := ⟨f, fd, F, h, F.binds (ps := ["bag", "many"]) fun _ _ _ _ _ _ us hl => match us, hl with | [_, _], _ => rfl⟩
theorem df__law_items {K : PySem.W.Frag} {mg : PySem.Str → Option Value} {f : Addr} {fd : FuncData} (F : Fun K "_law_items" "_law_items" s__law_items f fd) (h : mg "_law_items" = some (.ref f)) : Df K mg "_law_items" s__law_items ["bag", "many"] := ⟨f, fd, F, h, F.binds (ps := ["bag", "many"]) fun _ _ _ _ _ _ us hl => match us, hl with | [_, _], _ => rfl⟩
theorem df__law_script {K : PySem.W.Frag} {mg : PySem.Str → Option Value} {f : Addr} {fd : FuncData} (F : Fun K "_law_script" "_law_script" s__law_script f fd) (h : mg "_law_script" = some (.ref f)) : Df K mg "_law_script" s__law_script ["bag", "items", "most"] := ⟨f, fd, F, h, F.binds (ps := ["bag", "items", "most"]) fun _ _ _ _ _ _ us hl => match us, hl with | [_, _, _], _ => rfl⟩
theorem df__law_case {K : PySem.W.Frag} {mg : PySem.Str → Option Value} {f : Addr} {fd : FuncData} (F : Fun K "_law_case" "_law_case" s__law_case f fd) (h : mg "_law_case" = some (.ref f)) : Df K mg "_law_case" s__law_case ["bag", "most", "length"] := ⟨f, fd, F, h, F.binds (ps := ["bag", "most", "length"]) fun _ _ _ _ _ _ us hl => match us, hl with | [_, _, _], _ => rfl⟩
theorem df__law_named {K : PySem.W.Frag} {mg : PySem.Str → Option Value} {f : Addr} {fd : FuncData} (F : Fun K "_law_named" "_law_named" s__law_named f fd) (h : mg "_law_named" = some (.ref f)) : Df K mg "_law_named" s__law_named ["commands"] := ⟨f, fd, F, h, F.binds (ps := ["commands"]) fun _ _ _ _ _ _ us hl => match us, hl with | [_], _ => rfl⟩
theorem df__law_is_item {K : PySem.W.Frag} {mg : PySem.Str → Option Value} {f : Addr} {fd : FuncData} (F : Fun K "_law_is_item" "_law_is_item" s__law_is_item f fd) (h : mg "_law_is_item" = some (.ref f)) : Df K mg "_law_is_item" s__law_is_item ["value"] := ⟨f, fd, F, h, F.binds (ps := ["value"]) fun _ _ _ _ _ _ us hl => match us, hl with | [_], _ => rfl⟩
theorem df__law_is_line {K : PySem.W.Frag} {mg : PySem.Str → Option Value} {f : Addr} {fd : FuncData} (F : Fun K "_law_is_line" "_law_is_line" s__law_is_line f fd) (h : mg "_law_is_line" = some (.ref f)) : Df K mg "_law_is_line" s__law_is_line ["value"] := ⟨f, fd, F, h, F.binds (ps := ["value"]) fun _ _ _ _ _ _ us hl => match us, hl with | [_], _ => rfl⟩
theorem df__law_is_command {K : PySem.W.Frag} {mg : PySem.Str → Option Value} {f : Addr} {fd : FuncData} (F : Fun K "_law_is_command" "_law_is_command" s__law_is_command f fd) (h : mg "_law_is_command" = some (.ref f)) : Df K mg "_law_is_command" s__law_is_command ["value"] := ⟨f, fd, F, h, F.binds (ps := ["value"]) fun _ _ _ _ _ _ us hl => match us, hl with | [_], _ => rfl⟩
theorem df__law_is_script {K : PySem.W.Frag} {mg : PySem.Str → Option Value} {f : Addr} {fd : FuncData} (F : Fun K "_law_is_script" "_law_is_script" s__law_is_script f fd) (h : mg "_law_is_script" = some (.ref f)) : Df K mg "_law_is_script" s__law_is_script ["value"] := ⟨f, fd, F, h, F.binds (ps := ["value"]) fun _ _ _ _ _ _ us hl => match us, hl with | [_], _ => rfl⟩
theorem df__law_due {K : PySem.W.Frag} {mg : PySem.Str → Option Value} {f : Addr} {fd : FuncData} (F : Fun K "_law_due" "_law_due" s__law_due f fd) (h : mg "_law_due" = some (.ref f)) : Df K mg "_law_due" s__law_due ["value"] := ⟨f, fd, F, h, F.binds (ps := ["value"]) fun _ _ _ _ _ _ us hl => match us, hl with | [_], _ => rfl⟩
theorem df__law_other_lines {K : PySem.W.Frag} {mg : PySem.Str → Option Value} {f : Addr} {fd : FuncData} (F : Fun K "_law_other_lines" "_law_other_lines" s__law_other_lines f fd) (h : mg "_law_other_lines" = some (.ref f)) : Df K mg "_law_other_lines" s__law_other_lines ["bag", "row"] := ⟨f, fd, F, h, F.binds (ps := ["bag", "row"]) fun _ _ _ _ _ _ us hl => match us, hl with | [_, _], _ => rfl⟩
theorem df__law_other_commands {K : PySem.W.Frag} {mg : PySem.Str → Option Value} {f : Addr} {fd : FuncData} (F : Fun K "_law_other_commands" "_law_other_commands" s__law_other_commands f fd) (h : mg "_law_other_commands" = some (.ref f)) : Df K mg "_law_other_commands" s__law_other_commands ["bag", "commands"] := ⟨f, fd, F, h, F.binds (ps := ["bag", "commands"]) fun _ _ _ _ _ _ us hl => match us, hl with | [_, _], _ => rfl⟩
theorem df__law_other_scripts {K : PySem.W.Frag} {mg : PySem.Str → Option Value} {f : Addr} {fd : FuncData} (F : Fun K "_law_other_scripts" "_law_other_scripts" s__law_other_scripts f fd) (h : mg "_law_other_scripts" = some (.ref f)) : Df K mg "_law_other_scripts" s__law_other_scripts ["bag", "commands"] := ⟨f, fd, F, h, F.binds (ps := ["bag", "commands"]) fun _ _ _ _ _ _ us hl => match us, hl with | [_, _], _ => rfl⟩
set_option maxHeartbeats 0 in
theorem all_mk {P : Program} {w : World} {K : PySem.W.Frag} {h : Heap} {mg : PySem.Str → Option Value} {fa : Addr} (X : K.In h) (G : h.Ns mainGlobals mg) (hfa : mg "law" = some (.ref fa))
    {f_is_within : Addr} {od_is_within an_is_within : Option Addr} {sl_is_within : Array (Option Value)} {oc_is_within kV_is_within dc_is_within pm_is_within cd_is_within ct_is_within : Value}
    (a_is_within : PySem.W.nsIn K mainGlobals "is_within" = some (some (.ref f_is_within))) (l_is_within : K.lookup f_is_within = some ⟨oc_is_within, od_is_within, .func (PySem.W.fnOf "is_within" "is_within" (defArgs s_is_within) (defBody s_is_within) (defScope s_is_within) .none kV_is_within dc_is_within pm_is_within an_is_within cd_is_within ct_is_within), sl_is_within⟩) (c_is_within : PySem.W.codeIn K cd_is_within "is_within" = true) (k_is_within : PySem.W.keepIn K (.ref f_is_within) = true)
    {f_is_item : Addr} {od_is_item an_is_item : Option Addr} {sl_is_item : Array (Option Value)} {oc_is_item kV_is_item dc_is_item pm_is_item cd_is_item ct_is_item : Value}
    (a_is_item : PySem.W.nsIn K mainGlobals "is_item" = some (some (.ref f_is_item))) (l_is_item : K.lookup f_is_item = some ⟨oc_is_item, od_is_item, .func (PySem.W.fnOf "is_item" "is_item" (defArgs s_is_item) (defBody s_is_item) (defScope s_is_item) .none kV_is_item dc_is_item pm_is_item an_is_item cd_is_item ct_is_item), sl_is_item⟩) (c_is_item : PySem.W.codeIn K cd_is_item "is_item" = true) (k_is_item : PySem.W.keepIn K (.ref f_is_item) = true)
    {f_is_line : Addr} {od_is_line an_is_line : Option Addr} {sl_is_line : Array (Option Value)} {oc_is_line kV_is_line dc_is_line pm_is_line cd_is_line ct_is_line : Value}
    (a_is_line : PySem.W.nsIn K mainGlobals "is_line" = some (some (.ref f_is_line))) (l_is_line : K.lookup f_is_line = some ⟨oc_is_line, od_is_line, .func (PySem.W.fnOf "is_line" "is_line" (defArgs s_is_line) (defBody s_is_line) (defScope s_is_line) .none kV_is_line dc_is_line pm_is_line an_is_line cd_is_line ct_is_line), sl_is_line⟩) (c_is_line : PySem.W.codeIn K cd_is_line "is_line" = true) (k_is_line : PySem.W.keepIn K (.ref f_is_line) = true)
    {f_is_command : Addr} {od_is_command an_is_command : Option Addr} {sl_is_command : Array (Option Value)} {oc_is_command kV_is_command dc_is_command pm_is_command cd_is_command ct_is_command : Value}
    (a_is_command : PySem.W.nsIn K mainGlobals "is_command" = some (some (.ref f_is_command))) (l_is_command : K.lookup f_is_command = some ⟨oc_is_command, od_is_command, .func (PySem.W.fnOf "is_command" "is_command" (defArgs s_is_command) (defBody s_is_command) (defScope s_is_command) .none kV_is_command dc_is_command pm_is_command an_is_command cd_is_command ct_is_command), sl_is_command⟩) (c_is_command : PySem.W.codeIn K cd_is_command "is_command" = true) (k_is_command : PySem.W.keepIn K (.ref f_is_command) = true)
    {f_is_script : Addr} {od_is_script an_is_script : Option Addr} {sl_is_script : Array (Option Value)} {oc_is_script kV_is_script dc_is_script pm_is_script cd_is_script ct_is_script : Value}
    (a_is_script : PySem.W.nsIn K mainGlobals "is_script" = some (some (.ref f_is_script))) (l_is_script : K.lookup f_is_script = some ⟨oc_is_script, od_is_script, .func (PySem.W.fnOf "is_script" "is_script" (defArgs s_is_script) (defBody s_is_script) (defScope s_is_script) .none kV_is_script dc_is_script pm_is_script an_is_script cd_is_script ct_is_script), sl_is_script⟩) (c_is_script : PySem.W.codeIn K cd_is_script "is_script" = true) (k_is_script : PySem.W.keepIn K (.ref f_is_script) = true)
    {f_require_script : Addr} {od_require_script an_require_script : Option Addr} {sl_require_script : Array (Option Value)} {oc_require_script kV_require_script dc_require_script pm_require_script cd_require_script ct_require_script : Value}
    (a_require_script : PySem.W.nsIn K mainGlobals "require_script" = some (some (.ref f_require_script))) (l_require_script : K.lookup f_require_script = some ⟨oc_require_script, od_require_script, .func (PySem.W.fnOf "require_script" "require_script" (defArgs s_require_script) (defBody s_require_script) (defScope s_require_script) .none kV_require_script dc_require_script pm_require_script an_require_script cd_require_script ct_require_script), sl_require_script⟩) (c_require_script : PySem.W.codeIn K cd_require_script "require_script" = true) (k_require_script : PySem.W.keepIn K (.ref f_require_script) = true)
    {f_named_items : Addr} {od_named_items an_named_items : Option Addr} {sl_named_items : Array (Option Value)} {oc_named_items kV_named_items dc_named_items pm_named_items cd_named_items ct_named_items : Value}
    (a_named_items : PySem.W.nsIn K mainGlobals "named_items" = some (some (.ref f_named_items))) (l_named_items : K.lookup f_named_items = some ⟨oc_named_items, od_named_items, .func (PySem.W.fnOf "named_items" "named_items" (defArgs s_named_items) (defBody s_named_items) (defScope s_named_items) .none kV_named_items dc_named_items pm_named_items an_named_items cd_named_items ct_named_items), sl_named_items⟩) (c_named_items : PySem.W.codeIn K cd_named_items "named_items" = true) (k_named_items : PySem.W.keepIn K (.ref f_named_items) = true)
    {f_items_of : Addr} {od_items_of an_items_of : Option Addr} {sl_items_of : Array (Option Value)} {oc_items_of kV_items_of dc_items_of pm_items_of cd_items_of ct_items_of : Value}
    (a_items_of : PySem.W.nsIn K mainGlobals "items_of" = some (some (.ref f_items_of))) (l_items_of : K.lookup f_items_of = some ⟨oc_items_of, od_items_of, .func (PySem.W.fnOf "items_of" "items_of" (defArgs s_items_of) (defBody s_items_of) (defScope s_items_of) .none kV_items_of dc_items_of pm_items_of an_items_of cd_items_of ct_items_of), sl_items_of⟩) (c_items_of : PySem.W.codeIn K cd_items_of "items_of" = true) (k_items_of : PySem.W.keepIn K (.ref f_items_of) = true)
    {f__law_bag : Addr} {od__law_bag an__law_bag : Option Addr} {sl__law_bag : Array (Option Value)} {oc__law_bag kV__law_bag dc__law_bag pm__law_bag cd__law_bag ct__law_bag : Value}
    (a__law_bag : PySem.W.nsIn K mainGlobals "_law_bag" = some (some (.ref f__law_bag))) (l__law_bag : K.lookup f__law_bag = some ⟨oc__law_bag, od__law_bag, .func (PySem.W.fnOf "_law_bag" "_law_bag" (defArgs s__law_bag) (defBody s__law_bag) (defScope s__law_bag) .none kV__law_bag dc__law_bag pm__law_bag an__law_bag cd__law_bag ct__law_bag), sl__law_bag⟩) (c__law_bag : PySem.W.codeIn K cd__law_bag "_law_bag" = true) (k__law_bag : PySem.W.keepIn K (.ref f__law_bag) = true)
    {f__law_pick : Addr} {od__law_pick an__law_pick : Option Addr} {sl__law_pick : Array (Option Value)} {oc__law_pick kV__law_pick dc__law_pick pm__law_pick cd__law_pick ct__law_pick : Value}
    (a__law_pick : PySem.W.nsIn K mainGlobals "_law_pick" = some (some (.ref f__law_pick))) (l__law_pick : K.lookup f__law_pick = some ⟨oc__law_pick, od__law_pick, .func (PySem.W.fnOf "_law_pick" "_law_pick" (defArgs s__law_pick) (defBody s__law_pick) (defScope s__law_pick) .none kV__law_pick dc__law_pick pm__law_pick an__law_pick cd__law_pick ct__law_pick), sl__law_pick⟩) (c__law_pick : PySem.W.codeIn K cd__law_pick "_law_pick" = true) (k__law_pick : PySem.W.keepIn K (.ref f__law_pick) = true)
    {f__law_items : Addr} {od__law_items an__law_items : Option Addr} {sl__law_items : Array (Option Value)} {oc__law_items kV__law_items dc__law_items pm__law_items cd__law_items ct__law_items : Value}
    (a__law_items : PySem.W.nsIn K mainGlobals "_law_items" = some (some (.ref f__law_items))) (l__law_items : K.lookup f__law_items = some ⟨oc__law_items, od__law_items, .func (PySem.W.fnOf "_law_items" "_law_items" (defArgs s__law_items) (defBody s__law_items) (defScope s__law_items) .none kV__law_items dc__law_items pm__law_items an__law_items cd__law_items ct__law_items), sl__law_items⟩) (c__law_items : PySem.W.codeIn K cd__law_items "_law_items" = true) (k__law_items : PySem.W.keepIn K (.ref f__law_items) = true)
    {f__law_script : Addr} {od__law_script an__law_script : Option Addr} {sl__law_script : Array (Option Value)} {oc__law_script kV__law_script dc__law_script pm__law_script cd__law_script ct__law_script : Value}
    (a__law_script : PySem.W.nsIn K mainGlobals "_law_script" = some (some (.ref f__law_script))) (l__law_script : K.lookup f__law_script = some ⟨oc__law_script, od__law_script, .func (PySem.W.fnOf "_law_script" "_law_script" (defArgs s__law_script) (defBody s__law_script) (defScope s__law_script) .none kV__law_script dc__law_script pm__law_script an__law_script cd__law_script ct__law_script), sl__law_script⟩) (c__law_script : PySem.W.codeIn K cd__law_script "_law_script" = true) (k__law_script : PySem.W.keepIn K (.ref f__law_script) = true)
    {f__law_case : Addr} {od__law_case an__law_case : Option Addr} {sl__law_case : Array (Option Value)} {oc__law_case kV__law_case dc__law_case pm__law_case cd__law_case ct__law_case : Value}
    (a__law_case : PySem.W.nsIn K mainGlobals "_law_case" = some (some (.ref f__law_case))) (l__law_case : K.lookup f__law_case = some ⟨oc__law_case, od__law_case, .func (PySem.W.fnOf "_law_case" "_law_case" (defArgs s__law_case) (defBody s__law_case) (defScope s__law_case) .none kV__law_case dc__law_case pm__law_case an__law_case cd__law_case ct__law_case), sl__law_case⟩) (c__law_case : PySem.W.codeIn K cd__law_case "_law_case" = true) (k__law_case : PySem.W.keepIn K (.ref f__law_case) = true)
    {f__law_named : Addr} {od__law_named an__law_named : Option Addr} {sl__law_named : Array (Option Value)} {oc__law_named kV__law_named dc__law_named pm__law_named cd__law_named ct__law_named : Value}
    (a__law_named : PySem.W.nsIn K mainGlobals "_law_named" = some (some (.ref f__law_named))) (l__law_named : K.lookup f__law_named = some ⟨oc__law_named, od__law_named, .func (PySem.W.fnOf "_law_named" "_law_named" (defArgs s__law_named) (defBody s__law_named) (defScope s__law_named) .none kV__law_named dc__law_named pm__law_named an__law_named cd__law_named ct__law_named), sl__law_named⟩) (c__law_named : PySem.W.codeIn K cd__law_named "_law_named" = true) (k__law_named : PySem.W.keepIn K (.ref f__law_named) = true)
    {f__law_is_item : Addr} {od__law_is_item an__law_is_item : Option Addr} {sl__law_is_item : Array (Option Value)} {oc__law_is_item kV__law_is_item dc__law_is_item pm__law_is_item cd__law_is_item ct__law_is_item : Value}
    (a__law_is_item : PySem.W.nsIn K mainGlobals "_law_is_item" = some (some (.ref f__law_is_item))) (l__law_is_item : K.lookup f__law_is_item = some ⟨oc__law_is_item, od__law_is_item, .func (PySem.W.fnOf "_law_is_item" "_law_is_item" (defArgs s__law_is_item) (defBody s__law_is_item) (defScope s__law_is_item) .none kV__law_is_item dc__law_is_item pm__law_is_item an__law_is_item cd__law_is_item ct__law_is_item), sl__law_is_item⟩) (c__law_is_item : PySem.W.codeIn K cd__law_is_item "_law_is_item" = true) (k__law_is_item : PySem.W.keepIn K (.ref f__law_is_item) = true)
    {f__law_is_line : Addr} {od__law_is_line an__law_is_line : Option Addr} {sl__law_is_line : Array (Option Value)} {oc__law_is_line kV__law_is_line dc__law_is_line pm__law_is_line cd__law_is_line ct__law_is_line : Value}
    (a__law_is_line : PySem.W.nsIn K mainGlobals "_law_is_line" = some (some (.ref f__law_is_line))) (l__law_is_line : K.lookup f__law_is_line = some ⟨oc__law_is_line, od__law_is_line, .func (PySem.W.fnOf "_law_is_line" "_law_is_line" (defArgs s__law_is_line) (defBody s__law_is_line) (defScope s__law_is_line) .none kV__law_is_line dc__law_is_line pm__law_is_line an__law_is_line cd__law_is_line ct__law_is_line), sl__law_is_line⟩) (c__law_is_line : PySem.W.codeIn K cd__law_is_line "_law_is_line" = true) (k__law_is_line : PySem.W.keepIn K (.ref f__law_is_line) = true)
    {f__law_is_command : Addr} {od__law_is_command an__law_is_command : Option Addr} {sl__law_is_command : Array (Option Value)} {oc__law_is_command kV__law_is_command dc__law_is_command pm__law_is_command cd__law_is_command ct__law_is_command : Value}
    (a__law_is_command : PySem.W.nsIn K mainGlobals "_law_is_command" = some (some (.ref f__law_is_command))) (l__law_is_command : K.lookup f__law_is_command = some ⟨oc__law_is_command, od__law_is_command, .func (PySem.W.fnOf "_law_is_command" "_law_is_command" (defArgs s__law_is_command) (defBody s__law_is_command) (defScope s__law_is_command) .none kV__law_is_command dc__law_is_command pm__law_is_command an__law_is_command cd__law_is_command ct__law_is_command), sl__law_is_command⟩) (c__law_is_command : PySem.W.codeIn K cd__law_is_command "_law_is_command" = true) (k__law_is_command : PySem.W.keepIn K (.ref f__law_is_command) = true)
    {f__law_is_script : Addr} {od__law_is_script an__law_is_script : Option Addr} {sl__law_is_script : Array (Option Value)} {oc__law_is_script kV__law_is_script dc__law_is_script pm__law_is_script cd__law_is_script ct__law_is_script : Value}
    (a__law_is_script : PySem.W.nsIn K mainGlobals "_law_is_script" = some (some (.ref f__law_is_script))) (l__law_is_script : K.lookup f__law_is_script = some ⟨oc__law_is_script, od__law_is_script, .func (PySem.W.fnOf "_law_is_script" "_law_is_script" (defArgs s__law_is_script) (defBody s__law_is_script) (defScope s__law_is_script) .none kV__law_is_script dc__law_is_script pm__law_is_script an__law_is_script cd__law_is_script ct__law_is_script), sl__law_is_script⟩) (c__law_is_script : PySem.W.codeIn K cd__law_is_script "_law_is_script" = true) (k__law_is_script : PySem.W.keepIn K (.ref f__law_is_script) = true)
    {f__law_due : Addr} {od__law_due an__law_due : Option Addr} {sl__law_due : Array (Option Value)} {oc__law_due kV__law_due dc__law_due pm__law_due cd__law_due ct__law_due : Value}
    (a__law_due : PySem.W.nsIn K mainGlobals "_law_due" = some (some (.ref f__law_due))) (l__law_due : K.lookup f__law_due = some ⟨oc__law_due, od__law_due, .func (PySem.W.fnOf "_law_due" "_law_due" (defArgs s__law_due) (defBody s__law_due) (defScope s__law_due) .none kV__law_due dc__law_due pm__law_due an__law_due cd__law_due ct__law_due), sl__law_due⟩) (c__law_due : PySem.W.codeIn K cd__law_due "_law_due" = true) (k__law_due : PySem.W.keepIn K (.ref f__law_due) = true)
    {f__law_other_lines : Addr} {od__law_other_lines an__law_other_lines : Option Addr} {sl__law_other_lines : Array (Option Value)} {oc__law_other_lines kV__law_other_lines dc__law_other_lines pm__law_other_lines cd__law_other_lines ct__law_other_lines : Value}
    (a__law_other_lines : PySem.W.nsIn K mainGlobals "_law_other_lines" = some (some (.ref f__law_other_lines))) (l__law_other_lines : K.lookup f__law_other_lines = some ⟨oc__law_other_lines, od__law_other_lines, .func (PySem.W.fnOf "_law_other_lines" "_law_other_lines" (defArgs s__law_other_lines) (defBody s__law_other_lines) (defScope s__law_other_lines) .none kV__law_other_lines dc__law_other_lines pm__law_other_lines an__law_other_lines cd__law_other_lines ct__law_other_lines), sl__law_other_lines⟩) (c__law_other_lines : PySem.W.codeIn K cd__law_other_lines "_law_other_lines" = true) (k__law_other_lines : PySem.W.keepIn K (.ref f__law_other_lines) = true)
    {f__law_other_commands : Addr} {od__law_other_commands an__law_other_commands : Option Addr} {sl__law_other_commands : Array (Option Value)} {oc__law_other_commands kV__law_other_commands dc__law_other_commands pm__law_other_commands cd__law_other_commands ct__law_other_commands : Value}
    (a__law_other_commands : PySem.W.nsIn K mainGlobals "_law_other_commands" = some (some (.ref f__law_other_commands))) (l__law_other_commands : K.lookup f__law_other_commands = some ⟨oc__law_other_commands, od__law_other_commands, .func (PySem.W.fnOf "_law_other_commands" "_law_other_commands" (defArgs s__law_other_commands) (defBody s__law_other_commands) (defScope s__law_other_commands) .none kV__law_other_commands dc__law_other_commands pm__law_other_commands an__law_other_commands cd__law_other_commands ct__law_other_commands), sl__law_other_commands⟩) (c__law_other_commands : PySem.W.codeIn K cd__law_other_commands "_law_other_commands" = true) (k__law_other_commands : PySem.W.keepIn K (.ref f__law_other_commands) = true)
    {f__law_other_scripts : Addr} {od__law_other_scripts an__law_other_scripts : Option Addr} {sl__law_other_scripts : Array (Option Value)} {oc__law_other_scripts kV__law_other_scripts dc__law_other_scripts pm__law_other_scripts cd__law_other_scripts ct__law_other_scripts : Value}
    (a__law_other_scripts : PySem.W.nsIn K mainGlobals "_law_other_scripts" = some (some (.ref f__law_other_scripts))) (l__law_other_scripts : K.lookup f__law_other_scripts = some ⟨oc__law_other_scripts, od__law_other_scripts, .func (PySem.W.fnOf "_law_other_scripts" "_law_other_scripts" (defArgs s__law_other_scripts) (defBody s__law_other_scripts) (defScope s__law_other_scripts) .none kV__law_other_scripts dc__law_other_scripts pm__law_other_scripts an__law_other_scripts cd__law_other_scripts ct__law_other_scripts), sl__law_other_scripts⟩) (c__law_other_scripts : PySem.W.codeIn K cd__law_other_scripts "_law_other_scripts" = true) (k__law_other_scripts : PySem.W.keepIn K (.ref f__law_other_scripts) = true)
    {f_law : Addr} {od_law an_law : Option Addr} {sl_law : Array (Option Value)} {oc_law kV_law dc_law pm_law cd_law ct_law : Value}
    (a_law : PySem.W.nsIn K mainGlobals "law" = some (some (.ref f_law))) (l_law : K.lookup f_law = some ⟨oc_law, od_law, .func (PySem.W.fnOf "law" "law" (defArgs s_law) (defBody s_law) (defScope s_law) .none kV_law dc_law pm_law an_law cd_law ct_law), sl_law⟩) (c_law : PySem.W.codeIn K cd_law "law" = true) (k_law : PySem.W.keepIn K (.ref f_law) = true)
    {t_MOST_ITEMS : Tok} (a_MOST_ITEMS : PySem.W.nsIn K mainGlobals "MOST_ITEMS" = some (some (.int 60 t_MOST_ITEMS)))
    {t_MOST_COMMANDS : Tok} (a_MOST_COMMANDS : PySem.W.nsIn K mainGlobals "MOST_COMMANDS" = some (some (.int 200 t_MOST_COMMANDS)))
    {q_WORDS : Addr} {o_WORDS : Obj} {i_WORDS : Array Value} {n_WORDS : Nat} (a_WORDS : PySem.W.nsIn K mainGlobals "WORDS" = some (some (.ref q_WORDS))) (l_WORDS : K.lookup q_WORDS = some o_WORDS) (x_WORDS : o_WORDS.cls = .type "tuple") (y_WORDS : o_WORDS.data = .seq i_WORDS n_WORDS) (u_WORDS : i_WORDS.size ≤ sizeLine) (v_WORDS : i_WORDS.toList.map absV = [some (.str "behind"), some (.str "before")])
    (z_isinstance : PySem.W.nsIn K mainGlobals "isinstance" = some none)
    (z_int : PySem.W.nsIn K mainGlobals "int" = some none)
    (z_bool : PySem.W.nsIn K mainGlobals "bool" = some none)
    (z_tuple : PySem.W.nsIn K mainGlobals "tuple" = some none)
    (z_str : PySem.W.nsIn K mainGlobals "str" = some none)
    (z_len : PySem.W.nsIn K mainGlobals "len" = some none)
    (z_set : PySem.W.nsIn K mainGlobals "set" = some none)
    (z_all : PySem.W.nsIn K mainGlobals "all" = some none)
    (z_sorted : PySem.W.nsIn K mainGlobals "sorted" = some none)
    (z_list : PySem.W.nsIn K mainGlobals "list" = some none)
    (z_range : PySem.W.nsIn K mainGlobals "range" = some none)
    (z_max : PySem.W.nsIn K mainGlobals "max" = some none)
    (z_enumerate : PySem.W.nsIn K mainGlobals "enumerate" = some none)
    (z_repr : PySem.W.nsIn K mainGlobals "repr" = some none) :
    ∃ fd : FuncData, (∀ (s : Shared) (v : Value), BindsTo s fd ⟨[v], []⟩ [("script", v)]) ∧ ∀ base : Heap, K.In base → base.Ns mainGlobals mg → FnG P w K mg base 7 fa fd ["script"] (lawS K) := by
  have e := hfa.symm.trans (PySem.W.mg_of X G a_law)
  cases e
  have F_is_within := fun_mk (st := s_is_within) l_is_within c_is_within k_is_within
  have D_is_within := df_is_within F_is_within (PySem.W.mg_of X G a_is_within)
  have F_is_item := fun_mk (st := s_is_item) l_is_item c_is_item k_is_item
  have D_is_item := df_is_item F_is_item (PySem.W.mg_of X G a_is_item)
  have F_is_line := fun_mk (st := s_is_line) l_is_line c_is_line k_is_line
  have D_is_line := df_is_line F_is_line (PySem.W.mg_of X G a_is_line)
  have F_is_command := fun_mk (st := s_is_command) l_is_command c_is_command k_is_command
  have D_is_command := df_is_command F_is_command (PySem.W.mg_of X G a_is_command)
  have F_is_script := fun_mk (st := s_is_script) l_is_script c_is_script k_is_script
  have D_is_script := df_is_script F_is_script (PySem.W.mg_of X G a_is_script)
  have F_require_script := fun_mk (st := s_require_script) l_require_script c_require_script k_require_script
  have D_require_script := df_require_script F_require_script (PySem.W.mg_of X G a_require_script)
  have F_named_items := fun_mk (st := s_named_items) l_named_items c_named_items k_named_items
  have D_named_items := df_named_items F_named_items (PySem.W.mg_of X G a_named_items)
  have F_items_of := fun_mk (st := s_items_of) l_items_of c_items_of k_items_of
  have D_items_of := df_items_of F_items_of (PySem.W.mg_of X G a_items_of)
  have F__law_bag := fun_mk (st := s__law_bag) l__law_bag c__law_bag k__law_bag
  have D__law_bag := df__law_bag F__law_bag (PySem.W.mg_of X G a__law_bag)
  have F__law_pick := fun_mk (st := s__law_pick) l__law_pick c__law_pick k__law_pick
  have D__law_pick := df__law_pick F__law_pick (PySem.W.mg_of X G a__law_pick)
  have F__law_items := fun_mk (st := s__law_items) l__law_items c__law_items k__law_items
  have D__law_items := df__law_items F__law_items (PySem.W.mg_of X G a__law_items)
  have F__law_script := fun_mk (st := s__law_script) l__law_script c__law_script k__law_script
  have D__law_script := df__law_script F__law_script (PySem.W.mg_of X G a__law_script)
  have F__law_case := fun_mk (st := s__law_case) l__law_case c__law_case k__law_case
  have D__law_case := df__law_case F__law_case (PySem.W.mg_of X G a__law_case)
  have F__law_named := fun_mk (st := s__law_named) l__law_named c__law_named k__law_named
  have D__law_named := df__law_named F__law_named (PySem.W.mg_of X G a__law_named)
  have F__law_is_item := fun_mk (st := s__law_is_item) l__law_is_item c__law_is_item k__law_is_item
  have D__law_is_item := df__law_is_item F__law_is_item (PySem.W.mg_of X G a__law_is_item)
  have F__law_is_line := fun_mk (st := s__law_is_line) l__law_is_line c__law_is_line k__law_is_line
  have D__law_is_line := df__law_is_line F__law_is_line (PySem.W.mg_of X G a__law_is_line)
  have F__law_is_command := fun_mk (st := s__law_is_command) l__law_is_command c__law_is_command k__law_is_command
  have D__law_is_command := df__law_is_command F__law_is_command (PySem.W.mg_of X G a__law_is_command)
  have F__law_is_script := fun_mk (st := s__law_is_script) l__law_is_script c__law_is_script k__law_is_script
  have D__law_is_script := df__law_is_script F__law_is_script (PySem.W.mg_of X G a__law_is_script)
  have F__law_due := fun_mk (st := s__law_due) l__law_due c__law_due k__law_due
  have D__law_due := df__law_due F__law_due (PySem.W.mg_of X G a__law_due)
  have F__law_other_lines := fun_mk (st := s__law_other_lines) l__law_other_lines c__law_other_lines k__law_other_lines
  have D__law_other_lines := df__law_other_lines F__law_other_lines (PySem.W.mg_of X G a__law_other_lines)
  have F__law_other_commands := fun_mk (st := s__law_other_commands) l__law_other_commands c__law_other_commands k__law_other_commands
  have D__law_other_commands := df__law_other_commands F__law_other_commands (PySem.W.mg_of X G a__law_other_commands)
  have F__law_other_scripts := fun_mk (st := s__law_other_scripts) l__law_other_scripts c__law_other_scripts k__law_other_scripts
  have D__law_other_scripts := df__law_other_scripts F__law_other_scripts (PySem.W.mg_of X G a__law_other_scripts)
  have F_law := fun_mk (st := s_law) l_law c_law k_law
  have y_isinstance := PySem.W.mg_none_of X G z_isinstance
  have y_int := PySem.W.mg_none_of X G z_int
  have y_bool := PySem.W.mg_none_of X G z_bool
  have y_tuple := PySem.W.mg_none_of X G z_tuple
  have y_str := PySem.W.mg_none_of X G z_str
  have y_len := PySem.W.mg_none_of X G z_len
  have y_set := PySem.W.mg_none_of X G z_set
  have y_all := PySem.W.mg_none_of X G z_all
  have y_sorted := PySem.W.mg_none_of X G z_sorted
  have y_list := PySem.W.mg_none_of X G z_list
  have y_range := PySem.W.mg_none_of X G z_range
  have y_max := PySem.W.mg_none_of X G z_max
  have y_enumerate := PySem.W.mg_none_of X G z_enumerate
  have y_repr := PySem.W.mg_none_of X G z_repr
  have g_MOST_ITEMS := PySem.W.mg_of X G a_MOST_ITEMS
  have g_MOST_COMMANDS := PySem.W.mg_of X G a_MOST_COMMANDS
  have g_WORDS := PySem.W.mg_of X G a_WORDS
  refine ⟨PySem.W.fnOf "law" "law" (defArgs s_law) (defBody s_law) (defScope s_law) .none kV_law dc_law pm_law an_law cd_law ct_law, fun s v => .of_eq rfl, fun base _ _ => ?_⟩
  have hW : ∀ H, SqT K H q_WORDS [.str "behind", .str "before"] := fun H => .inr ⟨o_WORDS, i_WORDS, n_WORDS, l_WORDS, x_WORDS, y_WORDS, u_WORDS, words_vals v_WORDS⟩
  have C_is_item := ok_is_item1 (base := base) (P := P) (w := w) (z := fun _ _ _ _ => True) (ok_is_item D_is_item (ok_is_within D_is_within y_isinstance y_int y_bool) g_MOST_ITEMS)
  have C_is_line := ok_is_line D_is_line C_is_item y_isinstance y_tuple y_len y_set y_all g_MOST_ITEMS
  have C_is_command := ok_is_command D_is_command C_is_item y_isinstance y_tuple y_len y_str g_WORDS hW
  have C_is_script := ok_is_script D_is_script C_is_command y_isinstance y_tuple y_len y_all g_MOST_COMMANDS
  have C_require := ok_require_script D_require_script C_is_script
  have C_named_items := ok_named_items (P := P) (w := w) (base := base) D_named_items y_sorted
  have C_items_of := ok_items_of D_items_of C_require C_named_items
  have C_bag := ok_law_bag (P := P) (w := w) (base := base) D__law_bag y_max
  have C_pick := ok_law_pick (P := P) (w := w) (base := base) D__law_pick
  have C_items := ok_law_items D__law_items C_pick y_list y_range y_len
  have C_script := ok_law_script D__law_script C_pick y_tuple y_range y_len y_int
  have C_case := ok_law_case D__law_case C_pick C_items C_script y_tuple y_range y_len y_list
  have C_named := ok_law_named (P := P) (w := w) (base := base) D__law_named y_sorted
  have C_l_item := ok_law_is_item (P := P) (w := w) (base := base) D__law_is_item y_isinstance y_int y_bool
  have C_l_line := ok_law_is_line D__law_is_line C_l_item y_isinstance y_tuple y_enumerate
  have C_l_command := ok_law_is_command D__law_is_command C_l_item y_isinstance y_tuple y_len y_str
  have C_l_script := ok_law_is_script D__law_is_script C_l_command y_isinstance y_tuple y_len
  have C_due := ok_law_due D__law_due C_l_line C_l_command C_l_script
  have C_ol := ok_law_other_lines D__law_other_lines C_pick y_tuple y_range y_len y_list y_str
  have C_oc := ok_law_other_commands D__law_other_commands C_pick y_len
  have C_os := ok_law_other_scripts D__law_other_scripts C_pick C_oc y_len y_list
  exact ok_law F_law C_is_line C_is_command C_is_script C_items_of C_named C_due C_bag C_case C_ol C_os y_repr y_range
end K01
open PySem PySem.W PyProof.Rows
set_option maxHeartbeats 0 in
theorem PySem.Challenge.cw_moveafter_k01_lines_commands_scripts_holds : PySem.Challenge.rw_moveafter_k01_lines_commands_scripts.Holds := by
  w_on; o_law; k_head; (case hw => w_witness2)
  k_fill
  refine MA.walk_ofG (l := PySem.Challenge.rw_moveafter_k01_lines_commands_scripts) (n := 63) (k := 7) (x := "script") (sp := fun w => K01.lawS _) rfl (by decide) rfl ⟨rfl, by decide, by decide⟩ (fun w h Y => PySem.W.kIn_of Y) ?F (fun _ _ a ns hl _ hS => ⟨a, ns, rfl, Nat.le_trans hl (by decide), hS, fun _ => rfl⟩)
  case F =>
    intro w mg fa h KX G hmg
    refine' K01.all_mk KX G hmg ?a_is_within ?l_is_within ?c_is_within ?k_is_within ?a_is_item ?l_is_item ?c_is_item ?k_is_item ?a_is_line ?l_is_line ?c_is_line ?k_is_line ?a_is_command ?l_is_command ?c_is_command ?k_is_command ?a_is_script ?l_is_script ?c_is_script ?k_is_script ?a_require_script ?l_require_script ?c_require_script ?k_require_script ?a_named_items ?l_named_items ?c_named_items ?k_named_items ?a_items_of ?l_items_of ?c_items_of ?k_items_of ?a__law_bag ?l__law_bag ?c__law_bag ?k__law_bag ?a__law_pick ?l__law_pick ?c__law_pick ?k__law_pick ?a__law_items ?l__law_items ?c__law_items ?k__law_items ?a__law_script ?l__law_script ?c__law_script ?k__law_script ?a__law_case ?l__law_case ?c__law_case ?k__law_case ?a__law_named ?l__law_named ?c__law_named ?k__law_named ?a__law_is_item ?l__law_is_item ?c__law_is_item ?k__law_is_item ?a__law_is_line ?l__law_is_line ?c__law_is_line ?k__law_is_line ?a__law_is_command ?l__law_is_command ?c__law_is_command ?k__law_is_command ?a__law_is_script ?l__law_is_script ?c__law_is_script ?k__law_is_script ?a__law_due ?l__law_due ?c__law_due ?k__law_due ?a__law_other_lines ?l__law_other_lines ?c__law_other_lines ?k__law_other_lines ?a__law_other_commands ?l__law_other_commands ?c__law_other_commands ?k__law_other_commands ?a__law_other_scripts ?l__law_other_scripts ?c__law_other_scripts ?k__law_other_scripts ?a_law ?l_law ?c_law ?k_law ?a_MOST_ITEMS ?a_MOST_COMMANDS ?a_WORDS ?l_WORDS ?x_WORDS ?y_WORDS ?u_WORDS ?v_WORDS ?z_isinstance ?z_int ?z_bool ?z_tuple ?z_str ?z_len ?z_set ?z_all ?z_sorted ?z_list ?z_range ?z_max ?z_enumerate ?z_repr
    (case a_is_within => k_is)
    (case l_is_within => k_is)
    (case c_is_within => k_is)
    (case k_is_within => k_is)
    (case a_is_item => k_is)
    (case l_is_item => k_is)
    (case c_is_item => k_is)
    (case k_is_item => k_is)
    (case a_is_line => k_is)
    (case l_is_line => k_is)
    (case c_is_line => k_is)
    (case k_is_line => k_is)
    (case a_is_command => k_is)
    (case l_is_command => k_is)
    (case c_is_command => k_is)
    (case k_is_command => k_is)
    (case a_is_script => k_is)
    (case l_is_script => k_is)
    (case c_is_script => k_is)
    (case k_is_script => k_is)
    (case a_require_script => k_is)
    (case l_require_script => k_is)
    (case c_require_script => k_is)
    (case k_require_script => k_is)
    (case a_named_items => k_is)
    (case l_named_items => k_is)
    (case c_named_items => k_is)
    (case k_named_items => k_is)
    (case a_items_of => k_is)
    (case l_items_of => k_is)
    (case c_items_of => k_is)
    (case k_items_of => k_is)
    (case a__law_bag => k_is)
    (case l__law_bag => k_is)
    (case c__law_bag => k_is)
    (case k__law_bag => k_is)
    (case a__law_pick => k_is)
    (case l__law_pick => k_is)
    (case c__law_pick => k_is)
    (case k__law_pick => k_is)
    (case a__law_items => k_is)
    (case l__law_items => k_is)
    (case c__law_items => k_is)
    (case k__law_items => k_is)
    (case a__law_script => k_is)
    (case l__law_script => k_is)
    (case c__law_script => k_is)
    (case k__law_script => k_is)
    (case a__law_case => k_is)
    (case l__law_case => k_is)
    (case c__law_case => k_is)
    (case k__law_case => k_is)
    (case a__law_named => k_is)
    (case l__law_named => k_is)
    (case c__law_named => k_is)
    (case k__law_named => k_is)
    (case a__law_is_item => k_is)
    (case l__law_is_item => k_is)
    (case c__law_is_item => k_is)
    (case k__law_is_item => k_is)
    (case a__law_is_line => k_is)
    (case l__law_is_line => k_is)
    (case c__law_is_line => k_is)
    (case k__law_is_line => k_is)
    (case a__law_is_command => k_is)
    (case l__law_is_command => k_is)
    (case c__law_is_command => k_is)
    (case k__law_is_command => k_is)
    (case a__law_is_script => k_is)
    (case l__law_is_script => k_is)
    (case c__law_is_script => k_is)
    (case k__law_is_script => k_is)
    (case a__law_due => k_is)
    (case l__law_due => k_is)
    (case c__law_due => k_is)
    (case k__law_due => k_is)
    (case a__law_other_lines => k_is)
    (case l__law_other_lines => k_is)
    (case c__law_other_lines => k_is)
    (case k__law_other_lines => k_is)
    (case a__law_other_commands => k_is)
    (case l__law_other_commands => k_is)
    (case c__law_other_commands => k_is)
    (case k__law_other_commands => k_is)
    (case a__law_other_scripts => k_is)
    (case l__law_other_scripts => k_is)
    (case c__law_other_scripts => k_is)
    (case k__law_other_scripts => k_is)
    (case a_law => k_is)
    (case l_law => k_is)
    (case c_law => k_is)
    (case k_law => k_is)
    (case a_MOST_ITEMS => k_is)
    (case a_MOST_COMMANDS => k_is)
    (case a_WORDS => k_is)
    (case l_WORDS => k_is)
    (case x_WORDS => first | rfl | decide +kernel | k_is)
    (case y_WORDS => first | rfl | decide +kernel | k_is)
    (case u_WORDS => first | rfl | decide +kernel | k_is)
    (case v_WORDS => first | rfl | decide +kernel | k_is)
    (case z_isinstance => k_is)
    (case z_int => k_is)
    (case z_bool => k_is)
    (case z_tuple => k_is)
    (case z_str => k_is)
    (case z_len => k_is)
    (case z_set => k_is)
    (case z_all => k_is)
    (case z_sorted => k_is)
    (case z_list => k_is)
    (case z_range => k_is)
    (case z_max => k_is)
    (case z_enumerate => k_is)
    (case z_repr => k_is)

